import PyProof.Rows.All
import Wide.All
import OpenK.AllK
import Wide.FinOn
import HandS.ForMost
import HandS.Codes
import HandS.IsInst
import HandS.Wide
import HandS.WideBits
import HandS.SetFor
import HandS.Strs
import HandS.Style
import HandS.ForExc
import HandS.ExcInit
import HandS.ExcIs
import HandS.ExcField
import HandS.FStr
import HandS.Defaults
import HandS.Lambda
import HandS.EndTab
import HandS.HotCalls
import HandS.FStrTup
import HandS.DictComp
import HandS.Iter
import HandS.Zip
import HandS.More
import HandS.DictTup
import HandS.ListItems
import HandS.Keys
import HandS.SortKw
import HandS.Walk
import HandS.Deep
import KE.DataMinMax
import KE.GoesEnum
import HandS.TryOnly
import KE.KMinKey
import HandS.Conv
import KE.KStateDown
import HandS.Head0
import HandS.Head1
import HandS.Head2
import HandS.HeadHook1
import HandS.HeadHook2
import HandS.HeadHook3
import HandS.HeadHook4
import HandS.HeadWalk
import PySem.Challenge.RW_farmates_k23_whole_mirrors
set_option Elab.async false
set_option linter.all false
set_option maxRecDepth 100000
set_option maxHeartbeats 4000000
namespace Fm
open PySem L2
section
open HandSHeadRun PyProof.Rows PySem.Calls PySem.W

def top (i : Nat) : Stmt := PySem.Challenge.pw_farmates_k23_whole_mirrors.main.body.getD i (.Pass ⟨0, 0, 0, 0⟩)

abbrev s_open : Stmt := top 55
abbrev s_pull : Stmt := top 56
abbrev s_like : Stmt := top 58
abbrev s_holds : Stmt := top 25
abbrev s_part : Stmt := top 24
abbrev s_back : Stmt := top 23
abbrev s_normal : Stmt := top 22
abbrev s_common : Stmt := top 21
abbrev s_farinit : Stmt := inClass (top 2) 0
abbrev s_step_of : Stmt := top 29
abbrev s_end_of : Stmt := top 30
abbrev s_is_leader : Stmt := top 31
abbrev s_is_repeat : Stmt := top 32
abbrev s_halved : Stmt := top 33
abbrev s_merged : Stmt := top 34
abbrev s_bminit : Stmt := inClass (top 7) 0
abbrev s_is_mating : Stmt := top 18
abbrev s_need_from : Stmt := top 15
abbrev s_need_within : Stmt := top 16
abbrev s_need_length : Stmt := top 17
abbrev s_need_mating : Stmt := top 19
abbrev s_need_road : Stmt := top 28
abbrev s_Fput : Stmt := inClass (top 36) 15
abbrev s_Fmerge : Stmt := inClass (top 36) 9
abbrev s_Fhalve : Stmt := inClass (top 36) 8
abbrev s_Finit : Stmt := inClass (top 36) 0
abbrev s_Fleader : Stmt := inClass (top 36) 13
abbrev s_Fidle : Stmt := inClass (top 36) 7
abbrev s_Freach : Stmt := inClass (top 36) 14
abbrev s_Fbare : Stmt := inClass (top 36) 12
abbrev s_led_back : Stmt := top 35
abbrev s_Flead : Stmt := inClass (top 36) 10
abbrev s_clipped : Stmt := top 26
abbrev s_Ffold : Stmt := inClass (top 36) 11
abbrev s_Ftop : Stmt := inClass (top 36) 1
abbrev s_Fled_on : Stmt := inClass (top 36) 3
abbrev s_Fmade : Stmt := inClass (top 36) 6
abbrev s_Fmake : Stmt := inClass (top 36) 5
abbrev s_Fo_make : Stmt := inClass (top 40) 1
abbrev s_Fo_lead_off : Stmt := inClass (top 40) 4
abbrev s_Fo_tidy_move : Stmt := inClass (top 40) 6
abbrev s_Fo_tidy : Stmt := inClass (top 40) 5
abbrev s_Fo_widest : Stmt := inClass (top 40) 3
abbrev s_Fo_go_on : Stmt := inClass (top 40) 2
abbrev s_Fo_init : Stmt := inClass (top 40) 0
abbrev s_fold_down : Stmt := top 39
abbrev s_Sh_init : Stmt := inClass (top 42) 0
abbrev s_Sh_change : Stmt := inClass (top 42) 2
abbrev s_Sh_lay : Stmt := inClass (top 42) 1
abbrev s_Sh_cut_off : Stmt := inClass (top 42) 3
abbrev s_led_by : Stmt := top 43
abbrev s_wound : Stmt := top 44
abbrev s_led_pieces : Stmt := top 45
abbrev s_settled : Stmt := top 46
abbrev s_last_up_to : Stmt := top 48
abbrev s_joined : Stmt := top 49
abbrev s_first_ranks : Stmt := top 50
abbrev s_fault_of : Stmt := top 37
abbrev s_Fg_init : Stmt := inClass (top 51) 0
abbrev s_need_place : Stmt := top 20
abbrev s_Fg_trail : Stmt := inClass (top 51) 4
abbrev s_Fg_least : Stmt := inClass (top 51) 3
abbrev s_Fg_count : Stmt := inClass (top 51) 2
abbrev s_any : Stmt := top 57
abbrev s_mirror : Stmt := top 53
abbrev s_law : Stmt := top 59
def dD (x : Str) (st : Stmt) : He.DefD := { at_ := (x, none), name := x, qual := x, params := defArgs st, body := defBody st, scope := defScope st }
def dM (C m q : Str) (st : Stmt) : He.DefD := { at_ := (C, some m), name := m, qual := q, params := defArgs st, body := defBody st, scope := defScope st }
def dMs (C m q : Str) (st : Stmt) : He.DefD := { at_ := (C, some m), name := m, qual := q, params := defArgs st, body := defBody st, scope := defScope st, dfl := [.str ""] }
def errB (K : PySem.W.Frag) (C : Addr) : Bool := (match K.lookup C with
    | some ⟨.type t, _, .cls cd, sl⟩ => decide (t = "type") && (cd.hasDict && (!cd.hasDel && (match cd.mro, sl.toList with
      | .ref D :: bm, [_, _, _, _, some (.builtin n), _] => decide (D = C) && (decide (n = "ValueError.__new__") && PySem.HandSPX.refsVE bm)
      | _, _ => false)))
    | _ => false) && (He.eqO (PySem.W.findIn K (.ref C) "__setattr__") (some (some (.builtin "object.__setattr__"))) && (decide (PySem.W.subIn K (.ref C) (.type "BaseException") = some true) &&
  (decide (PySem.W.typeIn K (.ref C) = some (.type "type")) && (PySem.W.keepIn K (.ref C) && He.eqO (PySem.W.findIn K (.ref C) "word") (some none)))))
def excB (K : PySem.W.Frag) (C : Addr) : Bool := xfB K C && (He.eqO (PySem.W.findIn K (.ref C) "__class__") (some (some (.builtin "object.__class__"))) && (He.eqO (PySem.W.specialIn K (.builtin "object.__class__") "__get__") (some (some (.builtin "getset_descriptor.__get__"))) &&
  (decide (PySem.W.takesIn K (.builtin "object.__class__") = some true) && decide (PySem.W.mroIn K C (.type "object") = some true))))
def cfnB (K : PySem.W.Frag) (C : Addr) (m : Str) (f : Addr) : Bool := He.eqO (PySem.W.specialIn K (.ref C) "__getattribute__") (some (some (.builtin "type.__getattribute__"))) && (PySem.W.readsIn K C (.type "type") && ((match PySem.W.findCls K (.ref C) (.type "type") m with
    | some (.val (.ref g)) => decide (g = f)
    | _ => false) && PySem.W.keepIn K (.ref f)))
def bltB (K : PySem.W.Frag) (T m b : String) : Bool := match PySem.W.findCls K (.type T) (.type "type") m with
  | some (.val (.builtin g)) => decide (g = b)
  | _ => false
def lawAt : He.Defn := ("Folder", some "widest")
def kidsY (o : Obj) : List Addr := match o.data with
  | .dict es _ => es.toList.flatMap fun e => He.refV e.val
  | .func fd => He.refV fd.code ++ (He.refV fd.defaults ++ He.refV fd.kwdefaults)
  | .cls cd => [cd.ns]
  | _ => []
def downY (g : Addr → Option Obj) (as : List Addr) : List Addr := as.flatMap fun a => match g a with
  | some o => kidsY o
  | none => []
def reachY (g : Addr → Option Obj) (a1 : List Addr) : List Addr := a1 ++ (downY g a1 ++ (downY g (downY g a1) ++ downY g (downY g (downY g a1))))
def seenY (g : Addr → Option Obj) : PySem.W.Frag := He.frT g (cStatics :: mainGlobals :: reachY g (downY g [mainGlobals]))
def tabY (g : Addr → Option Obj) (K : PySem.W.Frag) : Bool := PySem.W.codeHdIn K (He.cT K lawAt).1 (He.cT K lawAt).2 && (g (He.cT K lawAt).2).any He.emptyTab
def PartEq {β : Type} (p : Program) (M : Nat) (f : PySem.W.SharedT → β) (v : World → β) : Prop := ∀ (w : World) (os : OsState), (endF (stepQ (denQ tabQ) p w) M p w os).map f = some (v w)
def SeenEq (r : PySem.W.OpenRow) (q : Program) (M : Nat) (loose : List Str) : Prop := ∀ (w : World) (os : OsState),
  (endF (stepQ (denQ tabQ) r.prog w) M r.prog w os).map (fun s => (looksF r.prog (boot_heap w.params) s.abs, seenQ q loose (importedModules r.prog.main.body) (fun s => PySem.W.xlAt q [] s && PySem.W.recOk r.toRowW.records s) s.abs)) = some (true, PySem.W.openGood q loose)
def okY (fas : List He.Fa) (fns : List He.DefD) (ex : PySem.W.Frag → List Bool) (g : Addr → Option Obj) (K : PySem.W.Frag) : Bool := ((fas.all fun f => f.ok K) && fns.all fun d => d.ok K) && ((ex K).all (fun b => b) && tabY g K)
def fnL0 : List He.DefD := [dD "_law_open" s_open, dD "_law_pull" s_pull, dD "_law_like" s_like, dD "_law_any" s_any, dD "mirror" s_mirror, dD "need_from" s_need_from, dD "need_within" s_need_within, dD "need_length" s_need_length, dD "need_mating" s_need_mating, dD "need_road" s_need_road, dD "is_mating" s_is_mating, dD "need_place" s_need_place, dD "normal" s_normal, dD "back" s_back, dD "halved" s_halved, dD "is_leader" s_is_leader, dD "step_of" s_step_of, dD "end_of" s_end_of, dD "is_repeat" s_is_repeat, dD "common" s_common, dD "merged" s_merged, dD "holds" s_holds, dD "part" s_part, dD "led_back" s_led_back, dD "clipped" s_clipped, dD "fault_of" s_fault_of, dD "fold_down" s_fold_down, dD "led_by" s_led_by, dD "wound" s_wound, dD "led_pieces" s_led_pieces]
def fnL1 : List He.DefD := [dD "settled" s_settled, dD "last_up_to" s_last_up_to, dD "joined" s_joined, dD "first_ranks" s_first_ranks, dD "law" s_law, dMs "FarError" "__init__" "FarError.__init__" s_farinit, dM "BadMove" "__init__" "BadMove.__init__" s_bminit, dM "Front" "__init__" "Front.__init__" s_Finit, dM "Front" "make" "Front.make" s_Fmake, dM "Front" "made" "Front.made" s_Fmade, dM "Front" "idle" "Front.idle" s_Fidle, dM "Front" "halve" "Front.halve" s_Fhalve, dM "Front" "merge" "Front.merge" s_Fmerge, dM "Front" "lead" "Front.lead" s_Flead, dM "Front" "fold" "Front.fold" s_Ffold, dM "Front" "bare" "Front.bare" s_Fbare, dM "Front" "put" "Front.put" s_Fput, dM "Front" "leader" "Front.leader" s_Fleader, dM "Front" "reach" "Front.reach" s_Freach, dM "Front" "top" "Front.top" s_Ftop, dM "Front" "led_on" "Front.led_on" s_Fled_on, dM "Folder" "__init__" "Folder.__init__" s_Fo_init, dM "Folder" "make" "Folder.make" s_Fo_make, dM "Folder" "go_on" "Folder.go_on" s_Fo_go_on, dM "Folder" "widest" "Folder.widest" s_Fo_widest, dM "Folder" "lead_off" "Folder.lead_off" s_Fo_lead_off, dM "Folder" "tidy" "Folder.tidy" s_Fo_tidy, dM "Folder" "tidy_move" "Folder.tidy_move" s_Fo_tidy_move, dM "Shares" "__init__" "Shares.__init__" s_Sh_init, dM "Shares" "lay" "Shares.lay" s_Sh_lay]
def fnL2 : List He.DefD := [dM "Shares" "change" "Shares.change" s_Sh_change, dM "Shares" "cut_off" "Shares.cut_off" s_Sh_cut_off, dM "Folding" "least" "Folding.least" s_Fg_least, dM "Folding" "trail" "Folding.trail" s_Fg_trail, dM "Folding" "count" "Folding.count" s_Fg_count, { at_ := ("Folding", some "__init__"), name := "__init__", qual := "Folding.__init__", params := defArgs s_Fg_init, body := defBody s_Fg_init, scope := defScope s_Fg_init, dfl := [], kwd := [("moves", .non)] }]
def fnL : List He.DefD := fnL0 ++ fnL1 ++ fnL2
def faL0 : List He.Fa := [.glo "_law_open", .glo "_law_pull", .glo "_law_like", .glo "_law_any", .glo "mirror", .glo "need_from", .glo "need_within", .glo "need_length", .glo "need_mating", .glo "need_road", .glo "is_mating", .glo "need_place", .glo "normal", .glo "back", .glo "halved", .glo "is_leader", .glo "step_of", .glo "end_of", .glo "is_repeat", .glo "common", .glo "merged", .glo "holds", .glo "part", .glo "led_back", .glo "clipped", .glo "fault_of", .glo "fold_down", .glo "led_by", .glo "wound", .glo "led_pieces"]
def faL1 : List He.Fa := [.glo "settled", .glo "last_up_to", .glo "joined", .glo "first_ranks", .glo "law", .free "len", .free "list", .free "tuple", .free "bool", .free "int", .free "str", .free "isinstance", .free "all", .free "any", .free "range", .free "max", .free "min", .free "dict", .free "sorted", .free "ValueError", .glo "FarError", .glo "BadMove", .noat "BadMove" "move", .free "enumerate", .free "divmod", .free "reversed", .free "sum", .glo "Front", .cls "Front", .noat "Front" "edge"]
def faL2 : List He.Fa := [.noat "Front" "standing", .noat "Front" "past", .glo "Folder", .cls "Folder", .noat "Folder" "front", .noat "Folder" "row", .glo "Shares", .cls "Shares", .noat "Shares" "marks", .glo "Folding", .cls "Folding", .noat "Folding" "row", .noat "Folding" "extent", .noat "Folding" "events", .noat "Folding" "makers", .noat "Folding" "begins", .noat "Folding" "pieces", .noat "Folding" "firsts", .noat "Folding" "ranks", .int "FAR" 1000000000000000000, .int "MOST" 24]
def faL : List He.Fa := faL0 ++ faL1 ++ faL2
def exL0 (K : PySem.W.Frag) : List Bool := [cfnB K (He.ga K "FarError") "__init__" (He.ma K (He.ga K "FarError") "__init__"), bltB K "ValueError" "__init__" "ValueError.__init__", errB K (He.ga K "BadMove"), xfB K (He.ga K "BadMove"), excB K (He.ga K "BadMove"), decide (PySem.W.exmOne K (.ref (He.ga K "BadMove")) (.ref (He.ga K "FarError")) = some true), He.eqO (PySem.W.findIn K (.ref (He.ga K "BadMove")) "__init__") (some (some (.ref (He.ma K (He.ga K "BadMove") "__init__")))), decide (PySem.W.typeIn K (.ref (He.ma K (He.ga K "BadMove") "__init__")) = some (.type "function")), PySem.W.makesIn K (He.ga K "Front"), PySem.W.keepIn K (.ref (He.ga K "Front")), He.eqO (PySem.W.findIn K (.ref (He.ga K "Front")) "__init__") (some (some (.ref (He.ma K (He.ga K "Front") "__init__")))), PySem.W.isFn K (.ref (He.ma K (He.ga K "Front") "__init__")), He.eqO (PySem.W.findIn K (.ref (He.ga K "Front")) "make") (some (some (.ref (He.ma K (He.ga K "Front") "make")))), PySem.W.isFn K (.ref (He.ma K (He.ga K "Front") "make")), He.eqO (PySem.W.findIn K (.ref (He.ga K "Front")) "made") (some (some (.ref (He.ma K (He.ga K "Front") "made")))), PySem.W.isFn K (.ref (He.ma K (He.ga K "Front") "made")), He.eqO (PySem.W.findIn K (.ref (He.ga K "Front")) "idle") (some (some (.ref (He.ma K (He.ga K "Front") "idle")))), PySem.W.isFn K (.ref (He.ma K (He.ga K "Front") "idle")), He.eqO (PySem.W.findIn K (.ref (He.ga K "Front")) "halve") (some (some (.ref (He.ma K (He.ga K "Front") "halve")))), PySem.W.isFn K (.ref (He.ma K (He.ga K "Front") "halve")), He.eqO (PySem.W.findIn K (.ref (He.ga K "Front")) "merge") (some (some (.ref (He.ma K (He.ga K "Front") "merge")))), PySem.W.isFn K (.ref (He.ma K (He.ga K "Front") "merge")), He.eqO (PySem.W.findIn K (.ref (He.ga K "Front")) "lead") (some (some (.ref (He.ma K (He.ga K "Front") "lead")))), PySem.W.isFn K (.ref (He.ma K (He.ga K "Front") "lead")), He.eqO (PySem.W.findIn K (.ref (He.ga K "Front")) "fold") (some (some (.ref (He.ma K (He.ga K "Front") "fold")))), PySem.W.isFn K (.ref (He.ma K (He.ga K "Front") "fold")), He.eqO (PySem.W.findIn K (.ref (He.ga K "Front")) "bare") (some (some (.ref (He.ma K (He.ga K "Front") "bare")))), PySem.W.isFn K (.ref (He.ma K (He.ga K "Front") "bare")), He.eqO (PySem.W.findIn K (.ref (He.ga K "Front")) "put") (some (some (.ref (He.ma K (He.ga K "Front") "put")))), PySem.W.isFn K (.ref (He.ma K (He.ga K "Front") "put"))]
def exL1 (K : PySem.W.Frag) : List Bool := [He.eqO (PySem.W.findIn K (.ref (He.ga K "Front")) "leader") (some (some (.ref (He.ma K (He.ga K "Front") "leader")))), PySem.W.isFn K (.ref (He.ma K (He.ga K "Front") "leader")), He.eqO (PySem.W.findIn K (.ref (He.ga K "Front")) "reach") (some (some (.ref (He.ma K (He.ga K "Front") "reach")))), PySem.W.isFn K (.ref (He.ma K (He.ga K "Front") "reach")), He.eqO (PySem.W.findIn K (.ref (He.ga K "Front")) "top") (some (some (.ref (He.ma K (He.ga K "Front") "top")))), PySem.W.isFn K (.ref (He.ma K (He.ga K "Front") "top")), He.eqO (PySem.W.findIn K (.ref (He.ga K "Front")) "led_on") (some (some (.ref (He.ma K (He.ga K "Front") "led_on")))), PySem.W.isFn K (.ref (He.ma K (He.ga K "Front") "led_on")), PySem.W.makesIn K (He.ga K "Folder"), PySem.W.keepIn K (.ref (He.ga K "Folder")), He.eqO (PySem.W.findIn K (.ref (He.ga K "Folder")) "__init__") (some (some (.ref (He.ma K (He.ga K "Folder") "__init__")))), PySem.W.isFn K (.ref (He.ma K (He.ga K "Folder") "__init__")), He.eqO (PySem.W.findIn K (.ref (He.ga K "Folder")) "make") (some (some (.ref (He.ma K (He.ga K "Folder") "make")))), PySem.W.isFn K (.ref (He.ma K (He.ga K "Folder") "make")), He.eqO (PySem.W.findIn K (.ref (He.ga K "Folder")) "go_on") (some (some (.ref (He.ma K (He.ga K "Folder") "go_on")))), PySem.W.isFn K (.ref (He.ma K (He.ga K "Folder") "go_on")), He.eqO (PySem.W.findIn K (.ref (He.ga K "Folder")) "widest") (some (some (.ref (He.ma K (He.ga K "Folder") "widest")))), PySem.W.isFn K (.ref (He.ma K (He.ga K "Folder") "widest")), He.eqO (PySem.W.findIn K (.ref (He.ga K "Folder")) "lead_off") (some (some (.ref (He.ma K (He.ga K "Folder") "lead_off")))), PySem.W.isFn K (.ref (He.ma K (He.ga K "Folder") "lead_off")), He.eqO (PySem.W.findIn K (.ref (He.ga K "Folder")) "tidy") (some (some (.ref (He.ma K (He.ga K "Folder") "tidy")))), PySem.W.isFn K (.ref (He.ma K (He.ga K "Folder") "tidy")), He.eqO (PySem.W.findIn K (.ref (He.ga K "Folder")) "tidy_move") (some (some (.ref (He.ma K (He.ga K "Folder") "tidy_move")))), PySem.W.isFn K (.ref (He.ma K (He.ga K "Folder") "tidy_move")), PySem.W.makesIn K (He.ga K "Shares"), PySem.W.keepIn K (.ref (He.ga K "Shares")), He.eqO (PySem.W.findIn K (.ref (He.ga K "Shares")) "__init__") (some (some (.ref (He.ma K (He.ga K "Shares") "__init__")))), PySem.W.isFn K (.ref (He.ma K (He.ga K "Shares") "__init__")), He.eqO (PySem.W.findIn K (.ref (He.ga K "Shares")) "lay") (some (some (.ref (He.ma K (He.ga K "Shares") "lay")))), PySem.W.isFn K (.ref (He.ma K (He.ga K "Shares") "lay"))]
def exL2 (K : PySem.W.Frag) : List Bool := [He.eqO (PySem.W.findIn K (.ref (He.ga K "Shares")) "change") (some (some (.ref (He.ma K (He.ga K "Shares") "change")))), PySem.W.isFn K (.ref (He.ma K (He.ga K "Shares") "change")), He.eqO (PySem.W.findIn K (.ref (He.ga K "Shares")) "cut_off") (some (some (.ref (He.ma K (He.ga K "Shares") "cut_off")))), PySem.W.isFn K (.ref (He.ma K (He.ga K "Shares") "cut_off")), PySem.W.makesIn K (He.ga K "Folding"), PySem.W.keepIn K (.ref (He.ga K "Folding")), He.eqO (PySem.W.findIn K (.ref (He.ga K "Folding")) "least") (some (some (.ref (He.ma K (He.ga K "Folding") "least")))), PySem.W.isFn K (.ref (He.ma K (He.ga K "Folding") "least")), He.eqO (PySem.W.findIn K (.ref (He.ga K "Folding")) "trail") (some (some (.ref (He.ma K (He.ga K "Folding") "trail")))), PySem.W.isFn K (.ref (He.ma K (He.ga K "Folding") "trail")), He.eqO (PySem.W.findIn K (.ref (He.ga K "Folding")) "count") (some (some (.ref (He.ma K (He.ga K "Folding") "count")))), PySem.W.isFn K (.ref (He.ma K (He.ga K "Folding") "count")), He.eqO (PySem.W.findIn K (.ref (He.ga K "Folding")) "__init__") (some (some (.ref (He.ma K (He.ga K "Folding") "__init__")))), PySem.W.isFn K (.ref (He.ma K (He.ga K "Folding") "__init__"))]
def exL (K : PySem.W.Frag) : List Bool := exL0 K ++ exL1 K ++ exL2 K
def looseL0 : List Str := ["_wall", "FarError", "BadNumber", "BadMating", "BadPlace", "BadStretch", "BadMove", "BadMoves", "Full", "Missing", "NoFamily", "FAR", "MOST", "need_from", "need_within", "need_length", "is_mating", "need_mating", "need_place", "common", "normal", "back", "part", "holds", "clipped", "need_road", "step_of", "end_of", "is_leader", "is_repeat"]
def looseL1 : List Str := ["halved", "merged", "led_back", "Front", "fault_of", "fold_down", "Folder", "Shares", "led_by", "wound", "led_pieces", "settled", "last_up_to", "joined", "first_ranks", "Folding", "mirror", "_law_open", "_law_pull", "_law_any", "_law_like"]
def looseL : List Str := looseL0 ++ looseL1
abbrev RowL : PySem.W.OpenRow := PySem.W.OpenLaw.row PySem.Challenge.rw_farmates_k23_whole_mirrors
theorem run1 : SeenEq RowL (PySem.W.view RowL.prog [59]) 40000 looseL := by
  intro w os
  kernel_rfl
theorem run2 : PartEq RowL.prog 40000 (fun s => okY faL fnL exL (HandSHeadRun.getT s) (seenY (HandSHeadRun.getT s))) fun _ => true := by
  intro w os
  kernel_rfl
theorem run4 : PartEq RowL.prog 40000 (fun s => fnL.map fun d => He.fnW (seenY (HandSHeadRun.getT s)) d.at_) fun _ => fnL.map He.DefD.val := by
  intro w os
  kernel_rfl
end
/-! ### what stands behind the top -/
structure DefAt (K : PySem.W.Frag) (mg : Str → Option Value) (x : Str) (st : Stmt) (ps : List Str) (f : Addr) (fd : FuncData) : Prop where
  F : Fun K x x st f fd
  b : Binds K fd ps []
  g : mg x = some (.ref f)
structure Bn (mg : Str → Option Value) : Prop where
  len : mg "len" = none
  list : mg "list" = none
  tuple : mg "tuple" = none
  bool : mg "bool" = none
  int : mg "int" = none
  str : mg "str" = none
  isinstance : mg "isinstance" = none
  all : mg "all" = none
  any : mg "any" = none
  range : mg "range" = none
  max : mg "max" = none
  min : mg "min" = none
  dict : mg "dict" = none
  sorted : mg "sorted" = none
/-! ### heaps -/
theorem same_upd {H : Hp} {p : Addr} {o : HO} (h : H p = none) : Same H (upd H p o) := fun b x e => by
  rw [upd_ne (ne_of_none e h)]
  exact e
/-- all but d stands as it stood -/
def Keep (d : Addr) (H H' : Hp) : Prop := ∀ b o, b ≠ d → H b = some o → H' b = some o
theorem Keep.refl (d : Addr) (H : Hp) : Keep d H H := fun _ _ _ h => h
theorem Keep.trans {d : Addr} {H H1 H2 : Hp} (a : Keep d H H1) (b : Keep d H1 H2) : Keep d H H2 := fun c o n h => b c o n (a c o n h)
theorem Keep.upd {d : Addr} {H : Hp} {o : HO} : Keep d H (upd H d o) := fun b x n h => by
  rw [upd_ne n]
  exact h
theorem keepS {d : Addr} {H H' : Hp} (a : Same H H') : Keep d H H' := fun b o _ h => a b o h
/-! ### the drawing -/
structure Drawn (H : Hp) (d l : Addr) (ns : List Int) (i z s : Int) : Prop where
  at_d : H d = some (.lst [.ref l, .int i, .int z, .int s])
  at_l : H l = some (.lst (ns.map V.int))
  len : ns.length ≤ 63
  i0 : 0 ≤ i
  z0 : 0 ≤ z
  s0 : 0 ≤ s
  s1 : s < 2147483629
def Draw (H : Hp) (d l : Addr) : Prop := ∃ ns i z s, Drawn H d l ns i z s
theorem Drawn.ne {H : Hp} {d l : Addr} {ns : List Int} {i z s : Int} (h : Drawn H d l ns i z s) : l ≠ d := by
  refine ne_of h.at_l h.at_d fun e => ?_
  cases ns with
  | nil => cases e
  | cons x r => cases e
theorem Drawn.same {H H' : Hp} {d l : Addr} {ns : List Int} {i z s : Int} (h : Drawn H d l ns i z s) (e : Same H H') : Drawn H' d l ns i z s := { h with at_d := e _ _ h.at_d, at_l := e _ _ h.at_l }
theorem Draw.same {H H' : Hp} {d l : Addr} (h : Draw H d l) (e : Same H H') : Draw H' d l := by
  obtain ⟨ns, i, z, s, h⟩ := h
  exact ⟨ns, i, z, s, h.same e⟩
/-- the drawing list stored anew -/
theorem Drawn.put {H : Hp} {d l : Addr} {ns : List Int} {i z s i' z' s' : Int} (h : Drawn H d l ns i z s) (hi : 0 ≤ i') (hz : 0 ≤ z') (h0 : 0 ≤ s') (h1 : s' < 2147483629) :
    Drawn (upd H d (.lst [.ref l, .int i', .int z', .int s'])) d l ns i' z' s' :=
  ⟨upd_same, (by rw [upd_ne h.ne]; exact h.at_l), h.len, hi, hz, h0, h1⟩
def spOpen (K : PySem.W.Frag) : Sp := fun vs H Q _ => ∃ (a : Addr) (ns : List Int), vs = [.ref a] ∧ SqL K H a (ns.map V.int) ∧ ns.length ≤ 63 ∧
  ∀ H' d l, Same H H' → H d = none → H l = none → Draw H' d l → Q (.ref d) H'
def spPull : Sp := fun vs H Q _ => ∃ (d l : Addr) (c : Int), vs = [.ref d, .int c] ∧ Draw H d l ∧ 1 ≤ c ∧ c < 2 ^ 100 ∧
  ∀ (v : Int) (H' : Hp), 0 ≤ v → v < c → Draw H' d l → Keep d H H' → Q (.int v) H'
/-! ### data that is compared, at most n deep -/
mutual
inductive Rp (H : Hp) : Nat → V → PyData → Prop
  | non (n : Nat) : Rp H n .non .none
  | bl (n : Nat) (b : Bool) : Rp H n (.bl b) (.bool b)
  | int (n : Nat) (i : Int) : Rp H n (.int i) (.int i)
  | str (n : Nat) (x : Str) : Rp H n (.str x) (.str x)
  | lst {n : Nat} {a : Addr} {xs : List V} {ds : List PyData} : H a = some (.lst xs) → xs.length ≤ 100000 → RpAll H n xs ds → Rp H (n + 1) (.ref a) (.list ds)
  | tup {n : Nat} {a : Addr} {xs : List V} {ds : List PyData} : H a = some (.tup xs) → xs.length ≤ 100000 → RpAll H n xs ds → Rp H (n + 1) (.ref a) (.tuple ds)
inductive RpAll (H : Hp) : Nat → List V → List PyData → Prop
  | nil (n : Nat) : RpAll H n [] []
  | cons {n : Nat} {v : V} {vs : List V} {d : PyData} {ds : List PyData} : Rp H n v d → RpAll H n vs ds → RpAll H n (v :: vs) (d :: ds)
end
mutual
theorem Rp.same {H H' : Hp} (e : Same H H') : ∀ {n : Nat} {v : V} {d : PyData}, Rp H n v d → Rp H' n v d
  | _, _, _, .non n => .non n
  | _, _, _, .bl n b => .bl n b
  | _, _, _, .int n i => .int n i
  | _, _, _, .str n x => .str n x
  | _, _, _, .lst h l r => .lst (e _ _ h) l (RpAll.same e r)
  | _, _, _, .tup h l r => .tup (e _ _ h) l (RpAll.same e r)
theorem RpAll.same {H H' : Hp} (e : Same H H') : ∀ {n : Nat} {vs : List V} {ds : List PyData}, RpAll H n vs ds → RpAll H' n vs ds
  | _, _, _, .nil n => .nil n
  | _, _, _, .cons h r => .cons (Rp.same e h) (RpAll.same e r)
end
theorem RpAll.length {H : Hp} : ∀ {n : Nat} {vs : List V} {ds : List PyData}, RpAll H n vs ds → vs.length = ds.length
  | _, _, _, .nil _ => rfl
  | _, _, _, .cons _ r => congrArg (· + 1) (RpAll.length r)
theorem RpAll.get {H : Hp} : ∀ {n : Nat} {vs : List V} {ds : List PyData}, RpAll H n vs ds → ∀ (i : Nat), i < ds.length → ∃ v d, vs[i]? = some v ∧ ds[i]? = some d ∧ Rp H n v d
  | _, _, _, .nil _, i, h => absurd h (Nat.not_lt_zero i)
  | _, _, _, .cons (v := v) (d := d) h r, 0, _ => ⟨v, d, rfl, rfl, h⟩
  | _, _, _, .cons h r, i + 1, hi => by
    obtain ⟨v, d, a, b, c⟩ := RpAll.get r i (Nat.lt_of_succ_lt_succ hi)
    exact ⟨v, d, a, b, c⟩
def spLike (n : Nat) : Sp := fun vs H Q _ => ∃ (a b : V) (d : PyData), vs = [a, b] ∧ Rp H n a d ∧ Rp H n b d ∧ ∀ H', Same H H' → Q (.bl true) H'
def spBot : Sp := fun _ _ _ _ => False
section
variable {P : Program} {w : World} {K : PySem.W.Frag} {mg : Str → Option Value} {base : Heap}
theorem ok_bot {f : Addr} {fd : FuncData} {ps : List Str} : FnOk P w K mg base CX0 0 f fd ps spBot := ⟨fun _ _ _ _ h => h.elim, fun _ _ _ _ _ _ _ _ _ _ _ _ _ h => h.elim⟩
end
theorem Keep.of {d : Addr} {H H' : Hp} (k : Keep d H H') {b : Addr} {o : HO} (h : H b = some o) (n : b ≠ d) : H' b = some o := k b o n h
theorem sz_lt {n : Nat} (h : n < 100000) : n < sizeLine := Nat.lt_of_lt_of_le h (by decide)

/-! ### _law_open -/
abbrev N_open : List Str := ["_law_script", "_law_seed", "_law_cell"]
abbrev P_open : List Str := ["_law_script"]
theorem sc_open : FnScope N_open P_open (defScope s_open) := ⟨rfl, rfl, rfl, by decide +kernel, rfl, by decide +kernel, by decide +kernel⟩
theorem cut63 (xs : List V) (h : xs.length ≤ 63) : cutV xs none (some 63) = xs := by
  unfold cutV
  rw [show HT.sIx xs.length xs.length (some 63) = min 63 xs.length from HT.sIx_nat xs.length xs.length 63, HT.sIx_none, Nat.min_eq_right h]
  show (xs.drop 0).take (xs.length - 0) = xs
  rw [List.drop_zero, Nat.sub_zero, List.take_length]
section
variable {P : Program} {w : World} {K : PySem.W.Frag} {mg : Str → Option Value} {base : Heap}
theorem ok_open {f : Addr} {fd : FuncData} (D : DefAt K mg "_law_open" s_open P_open f fd) (B : Bn mg) : FnOk P w K mg base CX0 1 f fd P_open (spOpen K) := by
  refine D.F.ok sc_open (fun vs H Q E h => ?_) (fun cdv A outer s H vs Q E hr h => ?_)
  · obtain ⟨a, ns, rfl, _⟩ := h
    rfl
  · obtain ⟨a, ns, rfl, hS, hlen, q⟩ := h
    refine ⟨_, (pss_cons (ps_set (i := 1) sc_open.nd rfl (.inl rfl) pe_int)
      (pss_cons (ps_for PassesOwn.never rfl (pi_list (pe_slice sl_list (pv 0) po_none (po_some pe_int))) (pg_name (i := 2) sc_open.nd rfl (.inl rfl)) (pss_one (ps_set (i := 1) sc_open.nd rfl (.inl rfl) (pe_op op_mod (pe_op op_add (pe_op op_add (pe_op op_mul (pv 1) pe_int) (pe_op op_mod (pv 2) pe_int)) pe_int) pe_int))))
      (pss_one (ps_ret (pe_lst (pa_cons (pe_callTy call_list_of (by rfl) B.list (by decide +kernel) (pa_cons (pe_slice sl_list (pv 0) po_none (po_some pe_int)) pa_nil)) (pa_cons pe_int (pa_cons pe_int (pa_cons (pv 1) pa_nil))))))))), ?_⟩
    refine ⟨.ref a, rfl, 63, rfl, a, ns.map V.int, rfl, hS, fun c nc => ?_⟩
    rw [cut63 _ (by rw [List.length_map]; exact hlen)]
    have s1 : Same H (upd H c (.lst (ns.map V.int))) := same_upd nc
    refine ⟨c, rfl, ⟨_, SqL.of upd_same⟩, for_list (K := K) (a := c) (xs := ns.map V.int) (fun i σ H2 => ∃ (sd : Int) (v : Option V), σ = [some (.ref a), some (.int sd), v] ∧ H2 = upd H c (.lst (ns.map V.int)) ∧ 0 ≤ sd ∧ sd < 2147483629)
      ⟨9134, none, rfl, rfl, by decide, by decide⟩ (fun i σ H2 _ ⟨_, _, _, e2, _⟩ => e2 ▸ SqL.of upd_same) ?_ ?_⟩
    · rintro i y σ H2 hi ⟨sd, v, rfl, rfl, h0, h1⟩
      obtain ⟨z, rfl⟩ : ∃ z, y = V.int z := by
        rw [List.getElem?_map] at hi
        cases e : ns[i]? with
        | none =>
          rw [e] at hi
          cases hi
        | some z =>
          rw [e] at hi
          exact ⟨z, (Option.some.inj hi).symm⟩
      refine ⟨_, rfl, _, _, rfl, rfl, .inl ⟨by omega, by omega⟩, _, rfl, _, _, rfl, rfl, (by show (0 : Int) < 2147483587; decide), _, _, rfl, rfl, _, _, rfl, rfl, _, _, rfl, rfl, (by show (0 : Int) < 2147483629; decide), ?_⟩
      exact ⟨_, _, rfl, rfl, Int.emod_nonneg _ (by decide), Int.emod_lt_of_pos _ (by decide)⟩
    · rintro σ H2 ⟨sd, v, rfl, rfl, h0, h1⟩
      refine ⟨.ref a, rfl, 63, rfl, a, ns.map V.int, rfl, s1.seq hS, fun p np => ?_⟩
      rw [cut63 _ (by rw [List.length_map]; exact hlen)]
      have s2 : Same H (upd (upd H c (.lst (ns.map V.int))) p (.lst (ns.map V.int))) := s1.trans (same_upd np)
      refine ⟨p, _, rfl, .inl (SqL.of upd_same), fun l nl => ?_⟩
      refine ⟨_, rfl, by show 4 ≤ sizeLine; decide, fun d nd => ?_⟩
      have s3 : Same H (upd (upd (upd H c (.lst (ns.map V.int))) p (.lst (ns.map V.int))) l (.lst (ns.map V.int))) := s2.trans (same_upd nl)
      refine q _ d l (s3.trans (same_upd nd)) (s3.free nd) (s2.free nl) ⟨ns, 0, 0, sd, upd_same, ?_, hlen, by decide, by decide, h0, h1⟩
      have nld : l ≠ d := fun e => by
        rw [← e, upd_same] at nd
        cases nd
      rw [upd_ne nld, upd_same]
end

/-! ### _law_pull -/
abbrev N_pull : List Str := ["_law_draw", "_law_cap", "_law_cell", "_law_got", "_law_seed"]
abbrev P_pull : List Str := ["_law_draw", "_law_cap"]
theorem sc_pull : FnScope N_pull P_pull (defScope s_pull) := ⟨rfl, rfl, rfl, by decide +kernel, rfl, by decide +kernel, by decide +kernel⟩
section
variable {P : Program} {w : World} {K : PySem.W.Frag} {mg : Str → Option Value} {base : Heap}
theorem ok_pull {f : Addr} {fd : FuncData} (D : DefAt K mg "_law_pull" s_pull P_pull f fd) (B : Bn mg) : FnOk P w K mg base CX0 1 f fd P_pull spPull := by
  refine D.F.ok sc_pull (fun vs H Q E h => ?_) (fun cdv A outer s H vs Q E hr h => ?_)
  · obtain ⟨d, l, c, rfl, _⟩ := h
    rfl
  · obtain ⟨d, l, c, rfl, hD, hc1, hc2, q⟩ := h
    refine ⟨_, (C8.pss_cut (ps_if (PW.pt (pw_and (pt_cmpR op_lt (pe_ix ix_list (pv 0) pe_int (fun _ _ => rfl)) (pv 1) (nomark _)) (pw_and1 (pt_cmpR op_lt (pe_ix ix_list (pv 0) pe_int (fun _ _ => rfl)) (pe_callB call_len_seq (by rfl) B.len (by decide +kernel) (pa_cons (pe_ix ix_list (pv 0) pe_int (fun _ _ => rfl)) pa_nil)) (nomark _))))) (pss_cons (ps_set (i := 2) sc_pull.nd rfl (.inl rfl) (pe_ix ix_list (pe_ix ix_list (pv 0) pe_int (fun _ _ => rfl)) (pe_ix ix_list (pv 0) pe_int (fun _ _ => rfl)) (fun _ _ => rfl)))
      (pss_cons (ps_asg (pe_op op_add (pe_ix ix_list (pv 0) pe_int (fun _ _ => rfl)) pe_int) (pg_sub (pv 0) pe_int set_list))
      (pss_cons (ps_asg pe_int (pg_sub (pv 0) pe_int set_list))
      (pss_one (ps_if (pt_cmpR op_ge (pv 2) (pe_op op_pow pe_int pe_int) (nomark _)) (pss_one (ps_asg (pv 2) (pg_sub (pv 0) pe_int set_list))) (pss_one (ps_asg (pe_op op_mod (pe_op op_add (pe_op op_add (pe_op op_mul (pe_ix ix_list (pv 0) pe_int (fun _ _ => rfl)) pe_int) (pe_op op_mul (pe_op op_mod (pv 2) pe_int) pe_int)) pe_int) pe_int) (pg_sub (pv 0) pe_int set_list)))))))) pss_nil)
      (C8.pss_cut (ps_if (pt_cmpR op_ge (pe_ix ix_list (pv 0) pe_int (fun _ _ => rfl)) (pv 1) (nomark _)) (pss_cons (ps_set (i := 3) sc_pull.nd rfl (.inl rfl) (pe_op op_mod (pe_ix ix_list (pv 0) pe_int (fun _ _ => rfl)) (pv 1)))
      (pss_cons (ps_asg (pe_op op_fdivW (pe_ix ix_list (pv 0) pe_int (fun _ _ => rfl)) (pv 1)) (pg_sub (pv 0) pe_int set_list))
      (pss_one (ps_ret (pv 3))))) pss_nil)
      (pss_cons (ps_set (i := 4) sc_pull.nd rfl (.inl rfl) (pe_ix ix_list (pv 0) pe_int (fun _ _ => rfl)))
      (pss_cons (ps_asg (pe_op op_mod (pe_op op_add (pe_op op_add (pe_op op_mul (pe_op op_mod (pe_op op_mul (pv 4) (pv 4)) pe_int) pe_int) (pe_op op_mul (pv 4) pe_int)) pe_int) pe_int) (pg_sub (pv 0) pe_int set_list))
      (pss_cons (ps_if (pt_cmpR op_lt (pv 1) (pe_op op_pow pe_int pe_int) (nomark _)) (pss_one (ps_ret (pe_op op_mod (pe_op op_add (pe_op op_fdivW (pe_ix ix_list (pv 0) pe_int (fun _ _ => rfl)) pe_int) (pe_op op_mul (pe_op op_mod (pe_ix ix_list (pv 0) pe_int (fun _ _ => rfl)) pe_int) pe_int)) (pv 1)))) pss_nil)
      (pss_one (ps_ret (pe_op op_mod (pe_op op_add (pe_op op_fdivW (pe_op op_pow (pe_ix ix_list (pv 0) pe_int (fun _ _ => rfl)) pe_int) pe_int) (pe_ix ix_list (pv 0) pe_int (fun _ _ => rfl))) (pv 1))))))))), ?_⟩
    have hpow : CPow 10 18 := ⟨by decide, by decide, by decide⟩
    have hpow8 : CPow 10 8 := ⟨by decide, by decide, by decide⟩
    have ix0 : ∀ {a b e g : V}, atI [a, b, e, g] 0 = some a := fun {_ _ _ _} => atI_nat (j := 0) rfl
    have ix1 : ∀ {a b e g : V}, atI [a, b, e, g] 1 = some b := fun {_ _ _ _} => atI_nat (j := 1) rfl
    have ix2 : ∀ {a b e g : V}, atI [a, b, e, g] 2 = some e := fun {_ _ _ _} => atI_nat (j := 2) rfl
    have ix3 : ∀ {a b e g : V}, atI [a, b, e, g] 3 = some g := fun {_ _ _ _} => atI_nat (j := 3) rfl
    -- the first if
    refine ⟨fun σ H1 => ∃ y : Option V, σ = [some (.ref d), some (.int c), y, none, none] ∧ Draw H1 d l ∧ Keep d H H1, ?_, ?_⟩
    · obtain ⟨ns, i, z, sd, hW⟩ := hD
      refine ⟨.ref d, rfl, d, _, 2, .int z, rfl, rfl, SqL.of hW.at_d, ix2, .int c, rfl, z, c, rfl, rfl, _, rfl, ?_⟩
      refine ite2 (fun _ => ?_) (fun _ => iteF ⟨none, rfl, ⟨ns, i, z, sd, hW⟩, Keep.refl _ _⟩)
      refine ⟨.ref d, rfl, d, _, 1, .int i, rfl, rfl, SqL.of hW.at_d, ix1, .ref d, rfl, d, _, 0, .ref l, rfl, rfl, SqL.of hW.at_d, ix0, l, _, rfl, .inl (SqL.of hW.at_l), i, _, rfl, rfl, _, rfl, ?_⟩
      refine ite2 (fun hb => ?_) (fun _ => ⟨none, rfl, ⟨ns, i, z, sd, hW⟩, Keep.refl _ _⟩)
      have hil : i < ((ns.map V.int).length : Int) := of_decide_eq_true hb
      rw [List.length_map] at hil
      have hi0 := hW.i0
      obtain ⟨j, rfl⟩ : ∃ j : Nat, i = (j : Int) := ⟨i.toNat, by omega⟩
      have hj : j < ns.length := by omega
      have gj : (ns.map V.int)[j]? = some (.int ns[j]) := by
        rw [List.getElem?_map, List.getElem?_eq_getElem hj]
        rfl
      -- cell = draw[0][draw[1]]
      refine ⟨.ref d, rfl, d, _, 0, .ref l, rfl, rfl, SqL.of hW.at_d, ix0, .ref d, rfl, d, _, 1, .int (j : Int), rfl, rfl, SqL.of hW.at_d, ix1, l, _, (j : Int), .int ns[j], rfl, rfl, SqL.of hW.at_l, atI_nat gj, ?_⟩
      -- draw[1] = draw[1] + 1
      refine ⟨.ref d, rfl, d, _, 1, .int (j : Int), rfl, rfl, SqL.of hW.at_d, ix1, _, _, rfl, rfl, .ref d, rfl, d, _, 1, 1, rfl, rfl, hW.at_d, rfl, ?_⟩
      have W1 := hW.put (i' := (j : Int) + 1) (z' := z) (s' := sd) (by omega) hW.z0 hW.s0 hW.s1
      -- draw[2] = 0
      refine ⟨.ref d, rfl, d, _, 2, 2, rfl, rfl, upd_same, rfl, ?_⟩
      have W2 := W1.put (i' := (j : Int) + 1) (z' := 0) (s' := sd) (by omega) (by decide) hW.s0 hW.s1
      -- if cell >= 10 ** 18
      refine ⟨_, rfl, _, _, rfl, rfl, hpow, _, _, rfl, rfl, _, rfl, ?_⟩
      refine ite2 (fun hg => ?_) (fun _ => ?_)
      · have hg' : (10 : Int) ^ 18 ≤ ns[j] := of_decide_eq_true hg
        refine ⟨_, rfl, .ref d, rfl, d, _, 2, 2, rfl, rfl, upd_same, rfl, ?_⟩
        exact ⟨_, rfl, ⟨_, _, _, _, W2.put (i' := (j : Int) + 1) (z' := ns[j]) (s' := sd) (by omega) (by omega) hW.s0 hW.s1⟩, (Keep.upd.trans Keep.upd).trans Keep.upd⟩
      · refine ⟨.ref d, rfl, d, _, 3, .int sd, rfl, rfl, SqL.of upd_same, ix3, _, _, rfl, rfl, .inr ⟨by decide, by decide⟩, _, rfl, _, _, rfl, rfl, (by show (0 : Int) < 2147483647; decide), _, _, rfl, rfl, .inr ⟨by decide, by decide⟩, _, _, rfl, rfl, _, _, rfl, rfl, _, _, rfl, rfl, (by show (0 : Int) < 2147483629; decide), ?_⟩
        refine ⟨.ref d, rfl, d, _, 3, 3, rfl, rfl, upd_same, rfl, ?_⟩
        exact ⟨_, rfl, ⟨_, _, _, _, W2.put (i' := (j : Int) + 1) (z' := 0) (s' := _) (by omega) (by decide) (Int.emod_nonneg _ (by decide)) (Int.emod_lt_of_pos _ (by decide))⟩, (Keep.upd.trans Keep.upd).trans Keep.upd⟩
    · rintro σ H1 ⟨y, rfl, ⟨ns, i, z, sd, hW⟩, kp⟩
      -- the second if
      refine ⟨fun σ H2 => H2 = H1 ∧ ∃ y' : Option V, σ = [some (.ref d), some (.int c), y, y', none], ?_, ?_⟩
      · refine ⟨.ref d, rfl, d, _, 2, .int z, rfl, rfl, SqL.of hW.at_d, ix2, .int c, rfl, z, c, rfl, rfl, _, rfl, ?_⟩
        refine ite2 (fun hg => ?_) (fun _ => ⟨rfl, none, rfl⟩)
        refine ⟨.ref d, rfl, d, _, 2, .int z, rfl, rfl, SqL.of hW.at_d, ix2, .int c, rfl, _, _, rfl, rfl, (by omega), ?_⟩
        have hwd : CDivW z c := wide_div (b := 100) (by omega) (by omega) (by decide) (by decide)
        refine ⟨.ref d, rfl, d, _, 2, .int z, rfl, rfl, SqL.of hW.at_d, ix2, .int c, rfl, _, _, rfl, rfl, hwd, .ref d, rfl, d, _, 2, 2, rfl, rfl, hW.at_d, rfl, _, rfl, ?_⟩
        exact q _ _ (Int.emod_nonneg _ (by omega)) (Int.emod_lt_of_pos _ (by omega)) ⟨_, _, _, _, hW.put (i' := i) (z' := z / c) (s' := sd) hW.i0 (Int.ediv_nonneg hW.z0 (by omega)) hW.s0 hW.s1⟩ (kp.trans Keep.upd)
      · rintro σ H2 ⟨rfl, y', rfl⟩
        have hs0 := hW.s0
        have hs1 := hW.s1
        have hm : CMul sd sd := .inl ⟨by omega, by omega⟩
        -- seed = draw[3]; draw[3] = ..
        refine ⟨.ref d, rfl, d, _, 3, .int sd, rfl, rfl, SqL.of hW.at_d, ix3, ?_⟩
        refine ⟨_, rfl, _, rfl, _, _, rfl, rfl, hm, _, _, rfl, rfl, (by show (0 : Int) < 2147483647; decide), _, _, rfl, rfl, .inr ⟨by decide, by decide⟩, _, rfl, _, _, rfl, rfl, .inr ⟨by decide, by decide⟩, _, _, rfl, rfl, _, _, rfl, rfl, _, _, rfl, rfl, (by show (0 : Int) < 2147483629; decide), ?_⟩
        refine ⟨.ref d, rfl, d, _, 3, 3, rfl, rfl, hW.at_d, rfl, ?_⟩
        have n0 : 0 ≤ (sd * sd % 2147483647 * 3 + sd * 45991 + 746773) % 2147483629 := Int.emod_nonneg _ (by decide)
        have n1 : (sd * sd % 2147483647 * 3 + sd * 45991 + 746773) % 2147483629 < 2147483629 := Int.emod_lt_of_pos _ (by decide)
        have W1 := hW.put (i' := i) (z' := z) (s' := (sd * sd % 2147483647 * 3 + sd * 45991 + 746773) % 2147483629) hW.i0 hW.z0 n0 n1
        have na : ((sd * sd % 2147483647 * 3 + sd * 45991 + 746773) % 2147483629).natAbs < 2 ^ 64 := by omega
        -- if cap < 10 ** 8
        refine ⟨_, rfl, _, _, rfl, rfl, hpow8, _, _, rfl, rfl, _, rfl, ?_⟩
        refine ite2 (fun _ => ?_) (fun _ => ?_)
        · refine ⟨.ref d, rfl, d, _, 3, .int _, rfl, rfl, SqL.of W1.at_d, ix3, _, _, rfl, rfl, wide_div (b := 10) (by decide) (by decide) (by decide) (by decide), .ref d, rfl, d, _, 3, .int _, rfl, rfl, SqL.of W1.at_d, ix3, _, _, rfl, rfl, (by show (0 : Int) < 6151; decide), _, _, rfl, rfl, .inr ⟨by decide, by decide⟩, _, _, rfl, rfl, .int c, rfl, _, _, rfl, rfl, (by omega), ?_⟩
          exact q _ _ (Int.emod_nonneg _ (by omega)) (Int.emod_lt_of_pos _ (by omega)) ⟨_, _, _, _, W1⟩ (kp.trans Keep.upd)
        · refine ⟨.ref d, rfl, d, _, 3, .int _, rfl, rfl, SqL.of W1.at_d, ix3, _, _, rfl, rfl, ⟨by decide, by decide, na⟩, _, _, rfl, rfl, wide_div (b := 10) (by decide) (by decide) (by decide) (by decide), .ref d, rfl, d, _, 3, .int _, rfl, rfl, SqL.of W1.at_d, ix3, _, _, rfl, rfl, .int c, rfl, _, _, rfl, rfl, (by omega), ?_⟩
          exact q _ _ (Int.emod_nonneg _ (by omega)) (Int.emod_lt_of_pos _ (by omega)) ⟨_, _, _, _, W1⟩ (kp.trans Keep.upd)
end

/-! ### _law_like -/
abbrev N_like : List Str := ["_law_found", "_law_due", "_law_j"]
abbrev P_like : List Str := ["_law_found", "_law_due"]
theorem sc_like : FnScope N_like P_like (defScope s_like) := ⟨rfl, rfl, rfl, by decide +kernel, rfl, by decide +kernel, by decide +kernel⟩
section
variable {P : Program} {w : World} {K : PySem.W.Frag} {mg : Str → Option Value} {base : Heap}
theorem isn_no {v : V} {A B : Prop} (h : v ≠ .non) (b : B) : if decide (v = V.non) = true then A else B := by
  rw [decide_eq_false h]
  exact iteF b
theorem like_step {k n : Nat} {f : Addr} {fd : FuncData} {spR : Sp} (D_like : DefAt K mg "_law_like" s_like P_like f fd) (B : Bn mg) (G_like : FnOk P w K mg base CX0 k f fd P_like spR)
    (hR : ∀ m, n = m + 1 → ∀ vs H Q E, spLike m vs H Q E → spR vs H Q E) : FnOk P w K mg base CX0 (k + 1) f fd P_like (spLike n) := by
  refine D_like.F.ok sc_like (fun vs H Q E h => ?_) (fun cdv A outer s H vs Q E hr h => ?_)
  · obtain ⟨a, b, d, rfl, _⟩ := h
    rfl
  · obtain ⟨a, b, d, rfl, ha, hb, q⟩ := h
    refine ⟨_, (pss_cons (ps_if (pt_cmpR op_isN (pv 1) pe_non (nomark _)) (pss_one (ps_ret (pe_cmpR op_isN (pv 0) pe_non (nomark _)))) pss_nil)
      (pss_cons (ps_if (pt_val (pe_callB call_isi (by rfl) B.isinstance (by decide +kernel) (pa_cons (pv 1) (pa_cons (pe_bltn (v := .ty "bool") (by rfl) B.bool (by decide +kernel) rfl) pa_nil)))) (pss_one (ps_ret (pe_and (pe_callB call_isi (by rfl) B.isinstance (by decide +kernel) (pa_cons (pv 0) (pa_cons (pe_bltn (v := .ty "bool") (by rfl) B.bool (by decide +kernel) rfl) pa_nil))) (pe_one (pe_cmpR op_eq (pv 0) (pv 1) (nomark _)))))) pss_nil)
      (pss_cons (ps_if (pt_val (pe_callB call_isi (by rfl) B.isinstance (by decide +kernel) (pa_cons (pv 1) (pa_cons (pe_bltn (v := .ty "int") (by rfl) B.int (by decide +kernel) rfl) pa_nil)))) (pss_one (ps_ret (pe_and (pe_callB call_isi (by rfl) B.isinstance (by decide +kernel) (pa_cons (pv 0) (pa_cons (pe_bltn (v := .ty "int") (by rfl) B.int (by decide +kernel) rfl) pa_nil))) (pe_and (pe_not (pe_callB call_isi (by rfl) B.isinstance (by decide +kernel) (pa_cons (pv 0) (pa_cons (pe_bltn (v := .ty "bool") (by rfl) B.bool (by decide +kernel) rfl) pa_nil)))) (pe_one (pe_cmpR op_eq (pv 0) (pv 1) (nomark _))))))) pss_nil)
      (pss_cons (ps_if (pt_val (pe_callB call_isi (by rfl) B.isinstance (by decide +kernel) (pa_cons (pv 1) (pa_cons (pe_bltn (v := .ty "str") (by rfl) B.str (by decide +kernel) rfl) pa_nil)))) (pss_one (ps_ret (pe_and (pe_callB call_isi (by rfl) B.isinstance (by decide +kernel) (pa_cons (pv 0) (pa_cons (pe_bltn (v := .ty "str") (by rfl) B.str (by decide +kernel) rfl) pa_nil))) (pe_one (pe_cmpR op_eq (pv 0) (pv 1) (nomark _)))))) pss_nil)
      (pss_cons (ps_if (PW.pt (pw_or (pt_cmpR op_ne (pe_callB call_isi (by rfl) B.isinstance (by decide +kernel) (pa_cons (pv 1) (pa_cons (pe_bltn (v := .ty "tuple") (by rfl) B.tuple (by decide +kernel) rfl) pa_nil))) (pe_callB call_isi (by rfl) B.isinstance (by decide +kernel) (pa_cons (pv 0) (pa_cons (pe_bltn (v := .ty "tuple") (by rfl) B.tuple (by decide +kernel) rfl) pa_nil))) (nomark _)) (pw_or1 (pt_cmpR op_ne (pe_callB call_isi (by rfl) B.isinstance (by decide +kernel) (pa_cons (pv 1) (pa_cons (pe_bltn (v := .ty "list") (by rfl) B.list (by decide +kernel) rfl) pa_nil))) (pe_callB call_isi (by rfl) B.isinstance (by decide +kernel) (pa_cons (pv 0) (pa_cons (pe_bltn (v := .ty "list") (by rfl) B.list (by decide +kernel) rfl) pa_nil))) (nomark _))))) (pss_one (ps_ret pe_bl)) pss_nil)
      (pss_cons (ps_if (pt_cmpR op_ne (pe_callB call_len_seq (by rfl) B.len (by decide +kernel) (pa_cons (pv 0) pa_nil)) (pe_callB call_len_seq (by rfl) B.len (by decide +kernel) (pa_cons (pv 1) pa_nil)) (nomark _)) (pss_one (ps_ret pe_bl)) pss_nil)
      (pss_one (ps_ret (pe_callB (cr_all rfl) (by rfl) B.all (by decide +kernel) (pa_cons (pe_lc (own := [("_law_j", 2)]) (g := gName 2) (by rfl) sc_like.nd (pi_range1 (by rfl) B.range (pa_cons (pe_callB call_len_seq (by rfl) B.len (by decide +kernel) (pa_cons (pv 1) pa_nil)) pa_nil)) (blkOk_by (own := [("_law_j", 2)]) (N := N_like) (sc := defScope s_like) (by decide +kernel)) (fun _ _ _ _ _ => (pg_name (i := 2) sc_like.nd rfl (.inl rfl))) (fun _ _ _ _ _ => pts_nil) (fun _ _ _ _ _ => (pe_call G_like (hr.mono (by omega)) (by rfl) D_like.g D_like.F.kp D_like.b .nil pass0 (pa_cons (pe_ix (show IxR _ (rIx K) from ix_seq) (pv 0) (pv 2) (fun _ _ => rfl)) (pa_cons (pe_ix (show IxR _ (rIx K) from ix_seq) (pv 1) (pv 2) (fun _ _ => rfl)) pa_nil))))) pa_nil)))))))))), ?_⟩
    cases ha with
    | non =>
      cases hb
      exact ⟨.non, rfl, rfl, _, rfl, iteT ⟨.non, rfl, rfl, q H (Same.refl H)⟩⟩
    | bl _ x =>
      cases hb
      refine ⟨.bl x, rfl, rfl, _, rfl, isn_no (by intro z; cases z) ?_⟩
      refine ⟨.bl x, rfl, _, _, _, _, true, rfl, ClsV.ty _, TyX.base (TyOf.bl _), kit_ty (by decide +kernel), _, rfl, iteT ?_⟩
      refine ⟨.bl x, rfl, _, _, _, _, true, rfl, ClsV.ty _, TyX.base (TyOf.bl _), kit_ty (by decide +kernel), _, rfl, iteT ?_⟩
      refine ⟨.bl x, rfl, .bl x, rfl, rfl, ?_⟩
      rw [decide_eq_true rfl]
      exact q H (Same.refl H)
    | int _ x =>
      cases hb
      refine ⟨.int x, rfl, rfl, _, rfl, isn_no (by intro z; cases z) ?_⟩
      refine ⟨.int x, rfl, _, _, _, _, false, rfl, ClsV.ty _, TyX.base (TyOf.int _), kit_ty (by decide +kernel), _, rfl, iteF ?_⟩
      refine ⟨.int x, rfl, _, _, _, _, true, rfl, ClsV.ty _, TyX.base (TyOf.int _), kit_ty (by decide +kernel), _, rfl, iteT ?_⟩
      refine ⟨.int x, rfl, _, _, _, _, true, rfl, ClsV.ty _, TyX.base (TyOf.int _), kit_ty (by decide +kernel), _, rfl, iteT ?_⟩
      refine ⟨.int x, rfl, _, _, _, _, false, rfl, ClsV.ty _, TyX.base (TyOf.int _), kit_ty (by decide +kernel), _, rfl, _, rfl, iteT ?_⟩
      refine ⟨.int x, rfl, .int x, rfl, rfl, ?_⟩
      rw [decide_eq_true rfl]
      exact q H (Same.refl H)
    | str _ x =>
      cases hb
      refine ⟨.str x, rfl, rfl, _, rfl, isn_no (by intro z; cases z) ?_⟩
      refine ⟨.str x, rfl, _, _, _, _, false, rfl, ClsV.ty _, TyX.base (TyOf.str _), kit_ty (by decide +kernel), _, rfl, iteF ?_⟩
      refine ⟨.str x, rfl, _, _, _, _, false, rfl, ClsV.ty _, TyX.base (TyOf.str _), kit_ty (by decide +kernel), _, rfl, iteF ?_⟩
      refine ⟨.str x, rfl, _, _, _, _, true, rfl, ClsV.ty _, TyX.base (TyOf.str _), kit_ty (by decide +kernel), _, rfl, iteT ?_⟩
      refine ⟨.str x, rfl, _, _, _, _, true, rfl, ClsV.ty _, TyX.base (TyOf.str _), kit_ty (by decide +kernel), _, rfl, iteT ?_⟩
      refine ⟨.str x, rfl, .str x, rfl, rfl, ?_⟩
      rw [decide_eq_true rfl]
      exact q H (Same.refl H)
    | @lst m p xs ds hp lp rp =>
      cases hb with
      | @lst _ r ys _ hq lq rq =>
      have lx : xs.length = ds.length := rp.length
      have ly : ys.length = ds.length := rq.length
      refine ⟨.ref r, rfl, rfl, _, rfl, isn_no (by intro z; cases z) ?_⟩
      refine ⟨.ref r, rfl, _, _, _, _, false, rfl, ClsV.ty _, TyX.base (TyOf.lst hq), kit_ty (by decide +kernel), _, rfl, iteF ?_⟩
      refine ⟨.ref r, rfl, _, _, _, _, false, rfl, ClsV.ty _, TyX.base (TyOf.lst hq), kit_ty (by decide +kernel), _, rfl, iteF ?_⟩
      refine ⟨.ref r, rfl, _, _, _, _, false, rfl, ClsV.ty _, TyX.base (TyOf.lst hq), kit_ty (by decide +kernel), _, rfl, iteF ?_⟩
      refine ⟨.ref r, rfl, _, _, _, _, false, rfl, ClsV.ty _, TyX.base (TyOf.lst hq), kit_ty (by decide +kernel), .ref p, rfl, _, _, _, _, false, rfl, ClsV.ty _, TyX.base (TyOf.lst hp), kit_ty (by decide +kernel), rfl, _, rfl, iteNS rfl ?_⟩
      refine ⟨.ref r, rfl, _, _, _, _, true, rfl, ClsV.ty _, TyX.base (TyOf.lst hq), kit_ty (by decide +kernel), .ref p, rfl, _, _, _, _, true, rfl, ClsV.ty _, TyX.base (TyOf.lst hp), kit_ty (by decide +kernel), rfl, _, rfl, iteNS rfl ?_⟩
      refine ⟨.ref p, rfl, p, xs, rfl, .inl (SqL.of hp), .ref r, rfl, r, ys, rfl, .inl (SqL.of hq), rfl, _, rfl, iteNS (by rw [lx, ly]) ?_⟩
      refine ⟨.ref r, rfl, r, ys, rfl, .inl (SqL.of hq), _, rfl, (by have := lq; omega), (by have := lq; omega), fun D hD => lc_range (lo := 0) (n := ((ys.length : Int)).toNat) (fun i H2 => ∃ bs : List Bool, Same H H2 ∧ H2 D = some (.lst (bs.map V.bl)) ∧ bs.length = i ∧ bs.all id = true) ⟨[], same_upd hD, upd_same, rfl, rfl⟩ ?_ ?_⟩
      · rintro i H2 hi ⟨bs, sm, hDl, rfl, hal⟩
        have hi' : bs.length < ds.length := by omega
        obtain ⟨v1, d1, e1, e2, r1⟩ := rp.get bs.length hi'
        obtain ⟨v2, d2, e3, e4, r2⟩ := rq.get bs.length hi'
        have ed : d2 = d1 := Option.some.inj (e4.symm.trans e2)
        subst ed
        refine ⟨rfl, ?_⟩
        refine ⟨.ref p, rfl, .int (0 + (bs.length : Int)), rfl, .inl ⟨p, xs, _, v1, rfl, rfl, SqL.of (sm _ _ hp), at_of (by omega) e1, .ref r, rfl, .int (0 + (bs.length : Int)), rfl, .inl ⟨r, ys, _, v2, rfl, rfl, SqL.of (sm _ _ hq), at_of (by omega) e3, ?_⟩⟩⟩
        refine hR m rfl _ _ _ _ ⟨v1, v2, d2, rfl, r1.same sm, r2.same sm, fun H3 s3 => ?_⟩
        refine ⟨bs.map V.bl, s3 _ _ hDl, sz_lt (by rw [List.length_map]; omega), bs ++ [true], fun b o e => ?_, ?_, by rw [List.length_append]; rfl, by rw [List.all_append, hal]; rfl⟩
        · rw [upd_ne (ne_of_none e hD)]
          exact s3 _ _ (sm _ _ e)
        · rw [upd_same, List.map_append]
          rfl
      · rintro H2 ⟨bs, sm, hDl, _, hal⟩
        refine ⟨D, bs, rfl, SqL.of hDl, ?_⟩
        rw [hal]
        exact q H2 sm
    | @tup m p xs ds hp lp rp =>
      cases hb with
      | @tup _ r ys _ hq lq rq =>
      have lx : xs.length = ds.length := rp.length
      have ly : ys.length = ds.length := rq.length
      refine ⟨.ref r, rfl, rfl, _, rfl, isn_no (by intro z; cases z) ?_⟩
      refine ⟨.ref r, rfl, _, _, _, _, false, rfl, ClsV.ty _, TyX.base (TyOf.tup hq), kit_ty (by decide +kernel), _, rfl, iteF ?_⟩
      refine ⟨.ref r, rfl, _, _, _, _, false, rfl, ClsV.ty _, TyX.base (TyOf.tup hq), kit_ty (by decide +kernel), _, rfl, iteF ?_⟩
      refine ⟨.ref r, rfl, _, _, _, _, false, rfl, ClsV.ty _, TyX.base (TyOf.tup hq), kit_ty (by decide +kernel), _, rfl, iteF ?_⟩
      refine ⟨.ref r, rfl, _, _, _, _, true, rfl, ClsV.ty _, TyX.base (TyOf.tup hq), kit_ty (by decide +kernel), .ref p, rfl, _, _, _, _, true, rfl, ClsV.ty _, TyX.base (TyOf.tup hp), kit_ty (by decide +kernel), rfl, _, rfl, iteNS rfl ?_⟩
      refine ⟨.ref r, rfl, _, _, _, _, false, rfl, ClsV.ty _, TyX.base (TyOf.tup hq), kit_ty (by decide +kernel), .ref p, rfl, _, _, _, _, false, rfl, ClsV.ty _, TyX.base (TyOf.tup hp), kit_ty (by decide +kernel), rfl, _, rfl, iteNS rfl ?_⟩
      refine ⟨.ref p, rfl, p, xs, rfl, .inr (SqT.of hp), .ref r, rfl, r, ys, rfl, .inr (SqT.of hq), rfl, _, rfl, iteNS (by rw [lx, ly]) ?_⟩
      refine ⟨.ref r, rfl, r, ys, rfl, .inr (SqT.of hq), _, rfl, (by have := lq; omega), (by have := lq; omega), fun D hD => lc_range (lo := 0) (n := ((ys.length : Int)).toNat) (fun i H2 => ∃ bs : List Bool, Same H H2 ∧ H2 D = some (.lst (bs.map V.bl)) ∧ bs.length = i ∧ bs.all id = true) ⟨[], same_upd hD, upd_same, rfl, rfl⟩ ?_ ?_⟩
      · rintro i H2 hi ⟨bs, sm, hDl, rfl, hal⟩
        have hi' : bs.length < ds.length := by omega
        obtain ⟨v1, d1, e1, e2, r1⟩ := rp.get bs.length hi'
        obtain ⟨v2, d2, e3, e4, r2⟩ := rq.get bs.length hi'
        have ed : d2 = d1 := Option.some.inj (e4.symm.trans e2)
        subst ed
        refine ⟨rfl, ?_⟩
        refine ⟨.ref p, rfl, .int (0 + (bs.length : Int)), rfl, .inr <| .inl ⟨p, xs, _, v1, rfl, rfl, SqT.of (sm _ _ hp), at_of (by omega) e1, .ref r, rfl, .int (0 + (bs.length : Int)), rfl, .inr <| .inl ⟨r, ys, _, v2, rfl, rfl, SqT.of (sm _ _ hq), at_of (by omega) e3, ?_⟩⟩⟩
        refine hR m rfl _ _ _ _ ⟨v1, v2, d2, rfl, r1.same sm, r2.same sm, fun H3 s3 => ?_⟩
        refine ⟨bs.map V.bl, s3 _ _ hDl, sz_lt (by rw [List.length_map]; omega), bs ++ [true], fun b o e => ?_, ?_, by rw [List.length_append]; rfl, by rw [List.all_append, hal]; rfl⟩
        · rw [upd_ne (ne_of_none e hD)]
          exact s3 _ _ (sm _ _ e)
        · rw [upd_same, List.map_append]
          rfl
      · rintro H2 ⟨bs, sm, hDl, _, hal⟩
        refine ⟨D, bs, rfl, SqL.of hDl, ?_⟩
        rw [hal]
        exact q H2 sm
theorem ok_like {f : Addr} {fd : FuncData} (D : DefAt K mg "_law_like" s_like P_like f fd) (B : Bn mg) : ∀ n : Nat, FnOk P w K mg base CX0 (n + 1) f fd P_like (spLike n)
  | 0 => like_step D B ok_bot fun m e => absurd e (by omega)
  | n + 1 => like_step D B (ok_like D B n) fun m e vs H Q E h => by
    have e : m = n := by omega
    subst e
    exact h
end

/-! ### holds, part -/
def tup4 (o p m f : Int) : HO := .tup [.int o, .int p, .int m, .int f]
abbrev N_holds : List Str := ["mating", "at", "many"]
abbrev P_holds : List Str := ["mating", "at", "many"]
theorem sc_holds : FnScope N_holds P_holds (defScope s_holds) := ⟨rfl, rfl, rfl, by decide +kernel, rfl, by decide +kernel, by decide +kernel⟩
def spHolds : Sp := fun vs H Q _ => ∃ (t : Addr) (o p m f : Int) (x y : V), vs = [.ref t, x, y] ∧ H t = some (tup4 o p m f) ∧
  ((∃ b, x = .bl b ∧ Q (.bl false) H) ∨ (∃ i b, x = .int i ∧ y = .bl b ∧ Q (.bl false) H) ∨ ∃ i k, x = .int i ∧ y = .int k ∧ Q (.bl (decide (1 ≤ k ∧ o ≤ i ∧ i + k ≤ o + m))) H)
theorem at4_0 {a b c d : V} : atI [a, b, c, d] 0 = some a := atI_nat (j := 0) rfl
theorem at4_1 {a b c d : V} : atI [a, b, c, d] 1 = some b := atI_nat (j := 1) rfl
theorem at4_2 {a b c d : V} : atI [a, b, c, d] 2 = some c := atI_nat (j := 2) rfl
theorem at4_3 {a b c d : V} : atI [a, b, c, d] 3 = some d := atI_nat (j := 3) rfl
section
variable {P : Program} {w : World} {K : PySem.W.Frag} {mg : Str → Option Value} {base : Heap}
theorem ok_holds {f : Addr} {fd : FuncData} (D : DefAt K mg "holds" s_holds P_holds f fd) (B : Bn mg) : FnOk P w K mg base CX0 1 f fd P_holds spHolds := by
  refine D.F.ok sc_holds (fun vs H Q E h => ?_) (fun cdv A outer s H vs Q E hr h => ?_)
  · obtain ⟨t, o, p, m, f, x, y, rfl, _⟩ := h
    rfl
  · obtain ⟨t, o, p, m, f, x, y, rfl, ht, h⟩ := h
    refine ⟨_, (pss_cons (ps_if (PW.pt (pw_or (pt_val (pe_callB call_isi (by rfl) B.isinstance (by decide +kernel) (pa_cons (pv 1) (pa_cons (pe_bltn (v := .ty "bool") (by rfl) B.bool (by decide +kernel) rfl) pa_nil)))) (pw_or (pt_val (pe_callB call_isi (by rfl) B.isinstance (by decide +kernel) (pa_cons (pv 2) (pa_cons (pe_bltn (v := .ty "bool") (by rfl) B.bool (by decide +kernel) rfl) pa_nil)))) (pw_or1 (pt_cmpR op_lt (pv 2) pe_int (nomark _)))))) (pss_one (ps_ret pe_bl)) pss_nil)
      (pss_one (ps_ret (pe_and (pe_cmpR op_le (pe_ix ix_tup (pv 0) pe_int (fun _ _ => rfl)) (pv 1) (nomark _)) (pe_one (pe_cmpR op_le (pe_op op_add (pv 1) (pv 2)) (pe_op op_add (pe_ix ix_tup (pv 0) pe_int (fun _ _ => rfl)) (pe_ix ix_tup (pv 0) pe_int (fun _ _ => rfl))) (nomark _))))))), ?_⟩
    rcases h with ⟨b, rfl, q⟩ | ⟨i, b, rfl, rfl, q⟩ | ⟨i, k, rfl, rfl, q⟩
    · exact ⟨.bl b, rfl, _, _, _, _, true, rfl, ClsV.ty _, TyX.base (TyOf.bl _), kit_ty (by decide +kernel), _, rfl, q⟩
    · refine ⟨.int i, rfl, _, _, _, _, false, rfl, ClsV.ty _, TyX.base (TyOf.int _), kit_ty (by decide +kernel), _, rfl, ?_⟩
      exact ⟨.bl b, rfl, _, _, _, _, true, rfl, ClsV.ty _, TyX.base (TyOf.bl _), kit_ty (by decide +kernel), _, rfl, q⟩
    · refine ⟨.int i, rfl, _, _, _, _, false, rfl, ClsV.ty _, TyX.base (TyOf.int _), kit_ty (by decide +kernel), _, rfl, ?_⟩
      refine ⟨.int k, rfl, _, _, _, _, false, rfl, ClsV.ty _, TyX.base (TyOf.int _), kit_ty (by decide +kernel), _, rfl, ?_⟩
      refine ⟨.int k, rfl, k, 1, rfl, rfl, _, rfl, ?_⟩
      refine ite2 (fun hk => ?_) (fun hk => ?_)
      · have hk' : k < 1 := of_decide_eq_true hk
        have e : decide (1 ≤ k ∧ o ≤ i ∧ i + k ≤ o + m) = false := decide_eq_false (by omega)
        rw [e] at q
        exact q
      · have hk' : ¬ k < 1 := fun z => hk (decide_eq_true z)
        refine ⟨.ref t, rfl, t, _, 0, .int o, rfl, rfl, SqT.of ht, at4_0, .int i, rfl, o, i, rfl, rfl, _, rfl, ?_⟩
        refine ite2 (fun h1 => ?_) (fun h1 => ?_)
        · have h1' : o ≤ i := of_decide_eq_true h1
          refine ⟨.int i, rfl, .int k, rfl, i, k, rfl, rfl, .ref t, rfl, t, _, 0, .int o, rfl, rfl, SqT.of ht, at4_0, .ref t, rfl, t, _, 2, .int m, rfl, rfl, SqT.of ht, at4_2, o, m, rfl, rfl, _, _, rfl, rfl, ?_⟩
          have e : decide (1 ≤ k ∧ o ≤ i ∧ i + k ≤ o + m) = decide (i + k ≤ o + m) := decide_eq_decide.mpr ⟨fun z => z.2.2, fun z => ⟨by omega, h1', z⟩⟩
          rw [e] at q
          exact q
        · have h1' : ¬ o ≤ i := fun z => h1 (decide_eq_true z)
          have e : decide (1 ≤ k ∧ o ≤ i ∧ i + k ≤ o + m) = false := decide_eq_false (by omega)
          rw [e] at q
          exact q
end
abbrev N_part : List Str := ["mating", "at", "many", "one", "other", "reach", "turned", "ahead"]
abbrev P_part : List Str := ["mating", "at", "many"]
theorem sc_part : FnScope N_part P_part (defScope s_part) := ⟨rfl, rfl, rfl, by decide +kernel, rfl, by decide +kernel, by decide +kernel⟩
def partP (o p m f i k : Int) : Int := if f = 1 then p + m - (i - o) - k else p + (i - o)
def spPart : Sp := fun vs H Q _ => ∃ (t : Addr) (o p m f i k : Int), vs = [.ref t, .int i, .int k] ∧ H t = some (tup4 o p m f) ∧ (f = 0 ∨ f = 1) ∧ 1 ≤ k ∧ o ≤ i ∧ i + k ≤ o + m ∧
  ∀ r, H r = none → Q (.ref r) (upd H r (tup4 i (partP o p m f i k) k f))
section
variable {P : Program} {w : World} {K : PySem.W.Frag} {mg : Str → Option Value} {base : Heap}
theorem ok_part {f fH : Addr} {fd fdH : FuncData} (D : DefAt K mg "part" s_part P_part f fd) (D_holds : DefAt K mg "holds" s_holds P_holds fH fdH) (B : Bn mg) : FnOk P w K mg base CX0 2 f fd P_part spPart := by
  have G_holds : FnOk P w K mg base CX0 1 fH fdH P_holds spHolds := ok_holds D_holds B
  refine D.F.ok sc_part (fun vs H Q E h => ?_) (fun cdv A outer s H vs Q E hr h => ?_)
  · obtain ⟨t, o, p, m, f, i, k, rfl, _⟩ := h
    rfl
  · obtain ⟨t, o, p, m, f, i, k, rfl, ht, hf, h1, h2, h3, q⟩ := h
    refine ⟨_, (pss_cons (ps_if (pt_not (pt_val (pe_call G_holds (hr.mono (by omega)) (by rfl) D_holds.g D_holds.F.kp D_holds.b .nil pass0 (pa_cons (pv 0) (pa_cons (pv 1) (pa_cons (pv 2) pa_nil)))))) (pss_one ps_never) pss_nil)
      (pss_cons (ps_asg (pv 0) (pg_tup (by rfl) (pgs_cons (pg_name (i := 3) sc_part.nd rfl (.inl rfl)) (pgs_cons (pg_name (i := 4) sc_part.nd rfl (.inl rfl)) (pgs_cons (pg_name (i := 5) sc_part.nd rfl (.inl rfl)) (pgs_cons (pg_name (i := 6) sc_part.nd rfl (.inl rfl)) pgs_nil))))))
      (pss_cons (ps_set (i := 7) sc_part.nd rfl (.inl rfl) (pe_op op_sub (pv 1) (pv 3)))
      (pss_cons (ps_if (pt_cmpR op_eq (pv 6) pe_int (nomark _)) (pss_one (ps_ret (pe_tup (pa_cons (pv 1) (pa_cons (pe_op op_sub (pe_op op_sub (pe_op op_add (pv 4) (pv 5)) (pv 7)) (pv 2)) (pa_cons (pv 2) (pa_cons pe_int pa_nil))))))) pss_nil)
      (pss_one (ps_ret (pe_tup (pa_cons (pv 1) (pa_cons (pe_op op_add (pv 4) (pv 7)) (pa_cons (pv 2) (pa_cons pe_int pa_nil))))))))))), ?_⟩
    refine ⟨.ref t, rfl, .int i, rfl, .int k, rfl, t, o, p, m, f, .int i, .int k, rfl, ht, .inr (.inr ⟨i, k, rfl, rfl, ?_⟩)⟩
    rw [decide_eq_true (show 1 ≤ k ∧ o ≤ i ∧ i + k ≤ o + m from ⟨h1, h2, h3⟩)]
    refine ⟨true, rfl, iteF ?_⟩
    refine ⟨.ref t, rfl, t, _, rfl, SqT.of ht, rfl, .int o, _, rfl, .int p, _, rfl, .int m, _, rfl, .int f, _, rfl, rfl, ?_⟩
    refine ⟨.int i, rfl, .int o, rfl, i, o, rfl, rfl, ?_⟩
    refine ⟨.int f, rfl, rfl, _, rfl, ?_⟩
    rcases hf with rfl | rfl
    · rw [decide_eq_false (show ¬ (V.int 0 = V.int 1) from fun z => by cases z)]
      refine iteF ?_
      refine ⟨.int i, rfl, .int p, rfl, .int (i - o), rfl, p, i - o, rfl, rfl, .int k, rfl, by show 4 ≤ sizeLine; decide, fun r hr' => ?_⟩
      exact q r hr'
    · rw [decide_eq_true (show (V.int 1 = V.int 1) from rfl)]
      refine iteT ?_
      refine ⟨.int i, rfl, .int p, rfl, .int m, rfl, p, m, rfl, rfl, .int (i - o), rfl, _, _, rfl, rfl, .int k, rfl, _, _, rfl, rfl, .int k, rfl, by show 4 ≤ sizeLine; decide, fun r hr' => ?_⟩
      exact q r hr'
end

/-! ### back -/
abbrev N_back : List Str := ["mating", "one", "other", "many", "turned"]
abbrev P_back : List Str := ["mating"]
theorem sc_back : FnScope N_back P_back (defScope s_back) := ⟨rfl, rfl, rfl, by decide +kernel, rfl, by decide +kernel, by decide +kernel⟩
def spBack : Sp := fun vs H Q _ => ∃ (t : Addr) (o p m f : Int), vs = [.ref t] ∧ H t = some (tup4 o p m f) ∧ ∀ r, H r = none → Q (.ref r) (upd H r (tup4 p o m f))
section
variable {P : Program} {w : World} {K : PySem.W.Frag} {mg : Str → Option Value} {base : Heap}
theorem ok_back {f : Addr} {fd : FuncData} (D : DefAt K mg "back" s_back P_back f fd) : FnOk P w K mg base CX0 1 f fd P_back spBack := by
  refine D.F.ok sc_back (fun vs H Q E h => ?_) (fun cdv A outer s H vs Q E hr h => ?_)
  · obtain ⟨t, o, p, m, f, rfl, _⟩ := h
    rfl
  · obtain ⟨t, o, p, m, f, rfl, ht, q⟩ := h
    refine ⟨_, (pss_cons (ps_asg (pv 0) (pg_tup (by rfl) (pgs_cons (pg_name (i := 1) sc_back.nd rfl (.inl rfl)) (pgs_cons (pg_name (i := 2) sc_back.nd rfl (.inl rfl)) (pgs_cons (pg_name (i := 3) sc_back.nd rfl (.inl rfl)) (pgs_cons (pg_name (i := 4) sc_back.nd rfl (.inl rfl)) pgs_nil))))))
      (pss_one (ps_ret (pe_tup (pa_cons (pv 2) (pa_cons (pv 1) (pa_cons (pv 3) (pa_cons (pv 4) pa_nil)))))))), ?_⟩
    refine ⟨.ref t, rfl, t, _, rfl, SqT.of ht, rfl, .int o, _, rfl, .int p, _, rfl, .int m, _, rfl, .int f, _, rfl, rfl, ?_⟩
    exact ⟨.int p, rfl, .int o, rfl, .int m, rfl, .int f, rfl, by show 4 ≤ sizeLine; decide, fun r hr' => q r hr'⟩
end

/-! ### normal -/
abbrev N_normal : List Str := ["mating"]
abbrev P_normal : List Str := ["mating"]
theorem sc_normal : FnScope N_normal P_normal (defScope s_normal) := ⟨rfl, rfl, rfl, by decide +kernel, rfl, by decide +kernel, by decide +kernel⟩
def spNormal : Sp := fun vs H Q _ => ∃ (t : Addr) (o p m f : Int), vs = [.ref t] ∧ H t = some (tup4 o p m f) ∧ ∀ r H', Same H H' → H' r = some (tup4 (if p < o then p else o) (if p < o then o else p) m f) → Q (.ref r) H'
section
variable {P : Program} {w : World} {K : PySem.W.Frag} {mg : Str → Option Value} {base : Heap}
theorem ok_normal {f fB : Addr} {fd fdB : FuncData} (D : DefAt K mg "normal" s_normal P_normal f fd) (D_back : DefAt K mg "back" s_back P_back fB fdB) : FnOk P w K mg base CX0 2 f fd P_normal spNormal := by
  have G_back : FnOk P w K mg base CX0 1 fB fdB P_back spBack := ok_back D_back
  refine D.F.ok sc_normal (fun vs H Q E h => ?_) (fun cdv A outer s H vs Q E hr h => ?_)
  · obtain ⟨t, o, p, m, f, rfl, _⟩ := h
    rfl
  · obtain ⟨t, o, p, m, f, rfl, ht, q⟩ := h
    refine ⟨_, (pss_cons (ps_if (pt_cmpR op_gt (pe_ix ix_tup (pv 0) pe_int (fun _ _ => rfl)) (pe_ix ix_tup (pv 0) pe_int (fun _ _ => rfl)) (nomark _)) (pss_one (ps_ret (pe_call G_back (hr.mono (by omega)) (by rfl) D_back.g D_back.F.kp D_back.b .nil pass0 (pa_cons (pv 0) pa_nil)))) pss_nil)
      (pss_one (ps_ret (pv 0)))), ?_⟩
    refine ⟨.ref t, rfl, t, _, 0, .int o, rfl, rfl, SqT.of ht, at4_0, .ref t, rfl, t, _, 1, .int p, rfl, rfl, SqT.of ht, at4_1, o, p, rfl, rfl, _, rfl, ?_⟩
    refine ite2 (fun hg => ?_) (fun hg => ?_)
    · have hg' : p < o := of_decide_eq_true hg
      rw [if_pos hg', if_pos hg'] at q
      exact ⟨.ref t, rfl, t, o, p, m, f, rfl, ht, fun r hr' => q r _ (same_upd hr') upd_same⟩
    · have hg' : ¬ p < o := fun z => hg (decide_eq_true z)
      rw [if_neg hg', if_neg hg'] at q
      exact ⟨.ref t, rfl, q t H (Same.refl H) ht⟩
end

/-! ### common -/
abbrev N_common : List Str := ["one", "other"]
abbrev P_common : List Str := ["one", "other"]
theorem sc_common : FnScope N_common P_common (defScope s_common) := ⟨rfl, rfl, rfl, by decide +kernel, rfl, by decide +kernel, by decide +kernel⟩
def spCommon : Sp := fun vs H Q _ => ∃ a b : Nat, vs = [.int a, .int b] ∧ Q (.int (Nat.gcd a b)) H
theorem gcd_turn (x y : Nat) : Nat.gcd y (x % y) = Nat.gcd x y := by
  rw [Nat.gcd_comm y, ← Nat.gcd_rec, Nat.gcd_comm]
section
variable {P : Program} {w : World} {K : PySem.W.Frag} {mg : Str → Option Value} {base : Heap}
theorem ok_common {f : Addr} {fd : FuncData} (D : DefAt K mg "common" s_common P_common f fd) (B : Bn mg) : FnOk P w K mg base CX0 1 f fd P_common spCommon := by
  refine D.F.ok sc_common (fun vs H Q E h => ?_) (fun cdv A outer s H vs Q E hr h => ?_)
  · obtain ⟨a, b, rfl, _⟩ := h
    rfl
  · obtain ⟨a, b, rfl, q⟩ := h
    refine ⟨_, (pss_cons (ps_while PassesOwn.never (pt_cmpR op_ne (pv 1) pe_int (nomark _)) (pss_one (ps_par (i := 0) (j := 1) (by rfl) sc_common.nd rfl rfl (by decide) rfl rfl (pa_cons (pv 1) (pa_cons (pe_op op_mod (pv 0) (pv 1)) pa_nil)) (by rfl))))
      (pss_one (ps_ret (pv 0)))), ?_⟩
    refine ⟨fun m σ H' => ∃ x : Nat, σ = [some (.int x), some (.int (m : Int))] ∧ H' = H ∧ Nat.gcd x m = Nat.gcd a b, ⟨b, a, rfl, rfl, rfl⟩, ?_⟩
    rintro m σ H' ⟨x, rfl, rfl, hg⟩
    refine ⟨_, rfl, rfl, _, rfl, ?_⟩
    by_cases hm : m = 0
    · subst hm
      refine iteNS rfl ?_
      refine ⟨_, rfl, ?_⟩
      rw [Nat.gcd_zero_right] at hg
      rw [hg]
      exact q
    · rw [decide_eq_false (fun z => hm (by have := V.int.inj z; omega))]
      refine ⟨fun σ' H'' => ∃ x' : Nat, σ' = [some (.int x'), some (.int ((x % m : Nat) : Int))] ∧ H'' = H' ∧ Nat.gcd x' (x % m) = Nat.gcd a b, fun σ' H'' h => ⟨x % m, Nat.mod_lt _ (by omega), h⟩, ?_⟩
      refine ⟨_, rfl, _, rfl, _, rfl, _, _, rfl, rfl, (by omega), _, _, rfl, ?_⟩
      exact ⟨m, rfl, rfl, (gcd_turn x m).trans hg⟩
end

/-! ### rules of my own: a value in an f-string, a def read off its class -/
section
open PySem.Spec PyProof.Rows
variable {X : Cx}
/-- what the written part says of a class's own def, read off the class -/
structure ClsFn (K : PySem.W.Frag) (C : Addr) (m : Str) (f : Addr) : Prop where
  sp : PySem.W.specialIn K (.ref C) "__getattribute__" = some (some (.builtin "type.__getattribute__"))
  rd : PySem.W.readsIn K C (.type "type") = true
  fc : PySem.W.findCls K (.ref C) (.type "type") m = some (.val (.ref f))
  kp : PySem.W.keepIn K (.ref f) = true
theorem pe_clsfn {CX : CXT} {k : Nat} {f C : Addr} {fd : FuncData} {ps : List Str} {sp : Sp} {E : XK} {x m : Str} {p1 p2 pos : Pos} {e : Expr} {es : List Expr} {t : TA} {pl : Sem Bool} (hg : Gl X x) (hm : X.mg x = some (.ref C)) (T : ClsFn X.K C m f)
    (F : FnOk X.prog X.w X.K X.mg X.base CX k f fd ps sp) (hr : Room k X.A) (hb : Binds X.K fd ps []) (hx : Passes CX X E) (ha : PA X (e :: es) t)
    (hc : eval (.Call (.Attribute (.Name x p1) m p2) (e :: es) [] pos) X.env = (do
      let ov ← eval (.Name x p1) X.env
      standAt p2.atName
      let (f, first) ← holding [ov] (getMethod ov m pl)
      callWith pos f first (backTo pos (starEach (e :: es) X.env)) (backToKw pos (keywordEach [] X.env))) := by rfl)
    (hdb : (x == ("__debug__" : Str)) = false := by decide) (he : starEach (e :: es) X.env = (false, eval e X.env) :: starEach es X.env := by rfl) (hpl : (backTo pos (starEach es X.env)).any (·.1) = false := by rfl) :
    PE X (.Call (.Attribute (.Name x p1) m p2) (e :: es) [] pos) (tCall sp [] E t) := by
  refine ⟨fun pins s σ H Q I h => ?_⟩
  refine PySem.W.methodCall_KW (ld_glob I hg hm ?_ hdb) hc
  refine PySem.W.method_cls I.kIn T.sp (PySem.W.cls_value I.kIn T.rd T.fc rfl ?_)
  show wpAny _ _ (callWith pos (Value.ref f) [] (backTo pos (starEach (e :: es) X.env)) []) _ _ _
  refine PySem.W.callWith_K (h₀ := X.base) I.ok.mod.kin T.kp (thn (ha.run pos pins _ σ H _ (I.tok _) h) fun us s1 ⟨vs, H1, I1, r, q⟩ => ⟨I1.kIn, ?_⟩) he hpl
  exact run_fn F hr hb (.nil) hx I1 r q
end

/-! ### FarError.__init__ -/
def FV (x : V) : Prop := (∃ i : Int, x = .int i ∧ i.natAbs.log2 < 1920) ∨ ∃ b : Bool, x = .bl b
theorem FV.go {x : V} {H : Hp} {Q : V → Hp → Prop} (h : FV x) (q : ∀ y : Str, y.length ≤ 1921 → Q (.str y) H) : (∃ i : Int, x = .int i ∧ i.natAbs.log2 < 1920 ∧ Q (.str (toString i)) H) ∨ (∃ b : Bool, x = .bl b ∧ Q (.str (if b then "True" else "False")) H) := by
  rcases h with ⟨i, e, hi⟩ | ⟨b, e⟩
  · exact .inl ⟨i, e, hi, q _ (PyProof.Rows.int_text_len_1921 hi)⟩
  · exact .inr ⟨b, e, q _ (by cases b <;> decide +kernel)⟩
theorem app_fits {a b : Str} {n m : Nat} (ha : a.length ≤ n) (hb : b.length ≤ m) : (a ++ b).length ≤ n + m := by
  rw [Str.length_append]
  omega
theorem fits_of {a : Str} {n : Nat} (ha : a.length ≤ n) (h : n ≤ 100000) : a.length ≤ sizeLine := Nat.le_trans ha (Nat.le_trans h (by decide))
abbrev N_farinit : List Str := ["self", "why"]
theorem sc_farinit : FnScope N_farinit N_farinit (defScope s_farinit) := ⟨rfl, rfl, rfl, by decide +kernel, rfl, by decide +kernel, by decide +kernel⟩
def spFarInit (K : PySem.W.Frag) : Sp := fun vs H Q _ => ∃ (a C : Addr) (y : Str), vs = [.ref a, .str y] ∧ OexC K C ∧ PySem.W.findIn K (.ref C) "word" = some none ∧ H a = some (exo a C none) ∧
  ∀ dx, H dx = none → dx ≠ a → Q .non (upd (upd H dx (exd dx [("word", .str "FarError")])) a (exo a C (some dx)))
section
variable {P : Program} {w : World} {K : PySem.W.Frag} {mg : Str → Option Value} {base : Heap}
theorem ok_farinit {f : Addr} {fd : FuncData} (F : FunD K "__init__" "FarError.__init__" (defArgs s_farinit) (defBody s_farinit) (defScope s_farinit) [.str ""] [] f fd) (mV : mg "ValueError" = none)
    (vV : PySem.W.findCls K (.type "ValueError") (.type "type") "__init__" = some (.val (.builtin "ValueError.__init__"))) : FnOk P w K mg base CX0 1 f fd N_farinit (spFarInit K) := by
  refine F.ok sc_farinit (fun vs H Q E h => ?_) (fun cdv A outer s H vs Q E hr h => ?_)
  · obtain ⟨a, C, y, rfl, _⟩ := h
    rfl
  · obtain ⟨a, C, y, rfl, T, hw, ha, q⟩ := h
    refine ⟨_, pss_cons (ps_expr (pe_veinit (by rfl) mV vV (pa_cons (pv 0) (pa_cons (pv 1) pa_nil)))) (pss_one (ps_ost (pv 0) pe_str)), ?_⟩
    refine ⟨.ref a, rfl, .str y, rfl, a, C, [.str y], rfl, by show 1 ≤ 1000; decide, T, ha, ?_⟩
    exact ⟨.ref a, rfl, a, C, rfl, T, hw, .inl ⟨ha, fun dx n ne => q dx n ne⟩⟩
end
/-! ### an own error's __init__ of one field -/
/-- what the written part says of an error's class -/
structure ErrT (K : PySem.W.Frag) (C : Addr) : Prop where
  o : OexC K C
  w : PySem.W.findIn K (.ref C) "word" = some none

/-! ### ints and bools -/
def IB (x : V) : Prop := (∃ i : Int, x = .int i ∧ i.natAbs < 2 ^ 200) ∨ ∃ b : Bool, x = .bl b
theorem IB.fv {x : V} (h : IB x) : FV x := by
  rcases h with ⟨i, e, hi⟩ | ⟨b, e⟩
  · exact .inl ⟨i, e, Nat.lt_of_lt_of_le (PySem.Flt.log2_lt_of (by decide) hi) (by decide)⟩
  · exact .inr ⟨b, e⟩
def isB : V → Bool
  | .bl _ => true
  | _ => false
theorem IB.ty {K : PySem.W.Frag} {H : Hp} {x : V} (h : IB x) : ∃ t, TyX K H x t ∧ PySem.W.kitOne K t (.type "bool") = some (isB x) := by
  rcases h with ⟨i, rfl, hi⟩ | ⟨b, rfl⟩
  · exact ⟨_, TyX.base (TyOf.int _), kit_ty (r := false) (by decide +kernel)⟩
  · exact ⟨_, TyX.base (TyOf.bl _), kit_ty (r := true) (by decide +kernel)⟩
theorem IB.int {i : Int} (h : i.natAbs < 2 ^ 200) : IB (.int i) := .inl ⟨i, rfl, h⟩
section
open PySem.Spec PyProof.Rows
end

section
variable {P : Program} {w : World} {K : PySem.W.Frag} {mg : Str → Option Value} {base : Heap}
end

/-! ### own errors in general, and without a law that asks why -/
structure ErT (K : PySem.W.Frag) (mg : Str → Option Value) (CF C fI : Addr) (fdI : FuncData) (word : Str) (N : List Str) : Prop where
  gF : mg "FarError" = some (.ref CF)
  gC : mg word = some (.ref C)
  e : ErrT K C
  x : XfC K C
  c : ExcC K C
  iC : PySem.W.findIn K (.ref C) "__init__" = some (some (.ref fI))
  tI : PySem.W.typeIn K (.ref fI) = some (.type "function")
  bI : Binds K fdI N []
  m : PySem.W.exmOne K (.ref C) (.ref CF) = some true
abbrev Fds := List (Str × V)
section
open PySem.Spec PyProof.Rows
end

/-! ### step_of, end_of, is_leader, is_repeat -/
abbrev N_step_of : List Str := ["mating"]
abbrev P_step_of : List Str := ["mating"]
theorem sc_step_of : FnScope N_step_of P_step_of (defScope s_step_of) := ⟨rfl, rfl, rfl, by decide +kernel, rfl, by decide +kernel, by decide +kernel⟩
abbrev N_end_of : List Str := ["mating"]
abbrev P_end_of : List Str := ["mating"]
theorem sc_end_of : FnScope N_end_of P_end_of (defScope s_end_of) := ⟨rfl, rfl, rfl, by decide +kernel, rfl, by decide +kernel, by decide +kernel⟩
abbrev N_is_leader : List Str := ["mating"]
abbrev P_is_leader : List Str := ["mating"]
theorem sc_is_leader : FnScope N_is_leader P_is_leader (defScope s_is_leader) := ⟨rfl, rfl, rfl, by decide +kernel, rfl, by decide +kernel, by decide +kernel⟩
abbrev N_is_repeat : List Str := ["mating"]
abbrev P_is_repeat : List Str := ["mating"]
theorem sc_is_repeat : FnScope N_is_repeat P_is_repeat (defScope s_is_repeat) := ⟨rfl, rfl, rfl, by decide +kernel, rfl, by decide +kernel, by decide +kernel⟩
def isLead (o p m f : Int) : Bool := if f = 1 then decide (m ≤ p - o) else decide (1 ≤ p - o)
def isRep (o p m f : Int) : Bool := decide (f = 0 ∧ 1 ≤ p - o ∧ p - o ≤ m)
def spStep : Sp := fun vs H Q _ => ∃ (t : Addr) (o p m f : Int), vs = [.ref t] ∧ H t = some (tup4 o p m f) ∧ Q (.int (p - o)) H
def spEnd : Sp := fun vs H Q _ => ∃ (t : Addr) (o p m f : Int), vs = [.ref t] ∧ H t = some (tup4 o p m f) ∧ Q (.int (p + m)) H
def spLead : Sp := fun vs H Q _ => ∃ (t : Addr) (o p m f : Int), vs = [.ref t] ∧ H t = some (tup4 o p m f) ∧ Q (.bl (isLead o p m f)) H
def spRep : Sp := fun vs H Q _ => ∃ (t : Addr) (o p m f : Int), vs = [.ref t] ∧ H t = some (tup4 o p m f) ∧ Q (.bl (isRep o p m f)) H
section
variable {P : Program} {w : World} {K : PySem.W.Frag} {mg : Str → Option Value} {base : Heap}
theorem ok_step {f : Addr} {fd : FuncData} (D : DefAt K mg "step_of" s_step_of P_step_of f fd) : FnOk P w K mg base CX0 1 f fd P_step_of spStep := by
  refine D.F.ok sc_step_of (fun vs H Q E h => ?_) (fun cdv A outer s H vs Q E hr h => ?_)
  · obtain ⟨t, o, p, m, f, rfl, _⟩ := h
    rfl
  · obtain ⟨t, o, p, m, f, rfl, ht, q⟩ := h
    refine ⟨_, (pss_one (ps_ret (pe_op op_sub (pe_ix ix_tup (pv 0) pe_int (fun _ _ => rfl)) (pe_ix ix_tup (pv 0) pe_int (fun _ _ => rfl))))), ?_⟩
    exact ⟨.ref t, rfl, t, _, 1, .int p, rfl, rfl, SqT.of ht, at4_1, .ref t, rfl, t, _, 0, .int o, rfl, rfl, SqT.of ht, at4_0, p, o, rfl, rfl, q⟩
theorem ok_end {f : Addr} {fd : FuncData} (D : DefAt K mg "end_of" s_end_of P_end_of f fd) : FnOk P w K mg base CX0 1 f fd P_end_of spEnd := by
  refine D.F.ok sc_end_of (fun vs H Q E h => ?_) (fun cdv A outer s H vs Q E hr h => ?_)
  · obtain ⟨t, o, p, m, f, rfl, _⟩ := h
    rfl
  · obtain ⟨t, o, p, m, f, rfl, ht, q⟩ := h
    refine ⟨_, (pss_one (ps_ret (pe_op op_add (pe_ix ix_tup (pv 0) pe_int (fun _ _ => rfl)) (pe_ix ix_tup (pv 0) pe_int (fun _ _ => rfl))))), ?_⟩
    exact ⟨.ref t, rfl, t, _, 1, .int p, rfl, rfl, SqT.of ht, at4_1, .ref t, rfl, t, _, 2, .int m, rfl, rfl, SqT.of ht, at4_2, p, m, rfl, rfl, q⟩
theorem ok_lead {f fS : Addr} {fd fdS : FuncData} (D : DefAt K mg "is_leader" s_is_leader P_is_leader f fd) (D_step_of : DefAt K mg "step_of" s_step_of P_step_of fS fdS) : FnOk P w K mg base CX0 2 f fd P_is_leader spLead := by
  have G_step_of : FnOk P w K mg base CX0 1 fS fdS P_step_of spStep := ok_step D_step_of
  refine D.F.ok sc_is_leader (fun vs H Q E h => ?_) (fun cdv A outer s H vs Q E hr h => ?_)
  · obtain ⟨t, o, p, m, f, rfl, _⟩ := h
    rfl
  · obtain ⟨t, o, p, m, f, rfl, ht, q⟩ := h
    refine ⟨_, (pss_cons (ps_if (pt_cmpR op_eq (pe_ix ix_tup (pv 0) pe_int (fun _ _ => rfl)) pe_int (nomark _)) (pss_one (ps_ret (pe_cmpR op_ge (pe_call G_step_of (hr.mono (by omega)) (by rfl) D_step_of.g D_step_of.F.kp D_step_of.b .nil pass0 (pa_cons (pv 0) pa_nil)) (pe_ix ix_tup (pv 0) pe_int (fun _ _ => rfl)) (nomark _)))) pss_nil)
      (pss_one (ps_ret (pe_cmpR op_ge (pe_call G_step_of (hr.mono (by omega)) (by rfl) D_step_of.g D_step_of.F.kp D_step_of.b .nil pass0 (pa_cons (pv 0) pa_nil)) pe_int (nomark _))))), ?_⟩
    refine ⟨.ref t, rfl, t, _, 3, .int f, rfl, rfl, SqT.of ht, at4_3, rfl, _, rfl, ?_⟩
    refine ite2 (fun h => ?_) (fun h => ?_)
    · have hf : f = 1 := V.int.inj (of_decide_eq_true h)
      unfold isLead at q
      rw [if_pos hf] at q
      exact ⟨.ref t, rfl, t, o, p, m, f, rfl, ht, .ref t, rfl, t, _, 2, .int m, rfl, rfl, SqT.of ht, at4_2, _, _, rfl, rfl, q⟩
    · have hf : ¬ f = 1 := fun z => h (decide_eq_true (congrArg V.int z))
      unfold isLead at q
      rw [if_neg hf] at q
      exact ⟨.ref t, rfl, t, o, p, m, f, rfl, ht, _, _, rfl, rfl, q⟩
theorem ok_rep {f fS : Addr} {fd fdS : FuncData} (D : DefAt K mg "is_repeat" s_is_repeat P_is_repeat f fd) (D_step_of : DefAt K mg "step_of" s_step_of P_step_of fS fdS) : FnOk P w K mg base CX0 2 f fd P_is_repeat spRep := by
  have G_step_of : FnOk P w K mg base CX0 1 fS fdS P_step_of spStep := ok_step D_step_of
  refine D.F.ok sc_is_repeat (fun vs H Q E h => ?_) (fun cdv A outer s H vs Q E hr h => ?_)
  · obtain ⟨t, o, p, m, f, rfl, _⟩ := h
    rfl
  · obtain ⟨t, o, p, m, f, rfl, ht, q⟩ := h
    refine ⟨_, (pss_one (ps_ret (pe_and (pe_cmpR op_eq (pe_ix ix_tup (pv 0) pe_int (fun _ _ => rfl)) pe_int (nomark _)) (pe_one (pe_chain op_le op_le pe_int (pe_call G_step_of (hr.mono (by omega)) (by rfl) D_step_of.g D_step_of.F.kp D_step_of.b .nil pass0 (pa_cons (pv 0) pa_nil)) (pe_ix ix_tup (pv 0) pe_int (fun _ _ => rfl))))))), ?_⟩
    refine ⟨.ref t, rfl, t, _, 3, .int f, rfl, rfl, SqT.of ht, at4_3, rfl, _, rfl, ?_⟩
    unfold isRep at q
    refine ite2 (fun h => ?_) (fun h => ?_)
    · have hf : f = 0 := V.int.inj (of_decide_eq_true h)
      refine ⟨.ref t, rfl, t, o, p, m, f, rfl, ht, _, _, rfl, rfl, _, rfl, ?_⟩
      refine ite2 (fun h2 => ?_) (fun h2 => ?_)
      · have h2' : 1 ≤ p - o := of_decide_eq_true h2
        refine ⟨.ref t, rfl, t, _, 2, .int m, rfl, rfl, SqT.of ht, at4_2, _, _, rfl, rfl, ?_⟩
        rw [decide_eq_decide.mpr (show (f = 0 ∧ 1 ≤ p - o ∧ p - o ≤ m) ↔ p - o ≤ m from ⟨fun z => z.2.2, fun z => ⟨hf, h2', z⟩⟩)] at q
        exact q
      · rw [decide_eq_false (fun z => h2 (decide_eq_true z.2.1))] at q
        exact q
    · rw [decide_eq_false (fun z => h (decide_eq_true (congrArg V.int z.1)))] at q
      exact q
end
/-! ### halved, merged -/
abbrev N_halved : List Str := ["mating", "one", "other", "many", "turned", "half"]
abbrev P_halved : List Str := ["mating"]
theorem sc_halved : FnScope N_halved P_halved (defScope s_halved) := ⟨rfl, rfl, rfl, by decide +kernel, rfl, by decide +kernel, by decide +kernel⟩
abbrev N_merged : List Str := ["first", "second", "shared", "begin", "end", "step"]
abbrev P_merged : List Str := ["first", "second"]
theorem sc_merged : FnScope N_merged P_merged (defScope s_merged) := ⟨rfl, rfl, rfl, by decide +kernel, rfl, by decide +kernel, by decide +kernel⟩
def hlf (o p m : Int) : Int := (p + m - o) / 2
def spHalved : Sp := fun vs H Q _ => ∃ (t : Addr) (o p m f : Int), vs = [.ref t] ∧ H t = some (tup4 o p m f) ∧ (hlf o p m = 0 → Q .non H) ∧ (hlf o p m ≠ 0 → ∀ r, H r = none → Q (.ref r) (upd H r (tup4 o (p + m - hlf o p m) (hlf o p m) f)))
def imin (a b : Int) : Int := if b < a then b else a
def imax (a b : Int) : Int := if b > a then b else a
def shr (o p m o' p' m' : Int) : Int := imin (p + m) (p' + m') - imax o o'
def spMerged : Sp := fun vs H Q _ => ∃ (t t' : Addr) (o p m f o' p' m' f' : Int), vs = [.ref t, .ref t'] ∧ H t = some (tup4 o p m f) ∧ H t' = some (tup4 o' p' m' f') ∧
  (¬ (isRep o p m f = true ∧ isRep o' p' m' f' = true ∧ p - o + (p' - o') ≤ shr o p m o' p' m') → Q .non H) ∧
  (isRep o p m f = true → isRep o' p' m' f' = true → p - o + (p' - o') ≤ shr o p m o' p' m' → ∀ r, H r = none →
    Q (.ref r) (upd H r (tup4 (imin o o') (imin o o' + (Nat.gcd (p - o).toNat (p' - o').toNat : Nat)) (imax (p + m) (p' + m') - imin o o' - (Nat.gcd (p - o).toNat (p' - o').toNat : Nat)) 0)))
section
variable {P : Program} {w : World} {K : PySem.W.Frag} {mg : Str → Option Value} {base : Heap}
theorem ok_halved {f : Addr} {fd : FuncData} (D : DefAt K mg "halved" s_halved P_halved f fd) : FnOk P w K mg base CX0 1 f fd P_halved spHalved := by
  refine D.F.ok sc_halved (fun vs H Q E h => ?_) (fun cdv A outer s H vs Q E hr h => ?_)
  · obtain ⟨t, o, p, m, f, rfl, _⟩ := h
    rfl
  · obtain ⟨t, o, p, m, f, rfl, ht, q1, q2⟩ := h
    refine ⟨_, (pss_cons (ps_asg (pv 0) (pg_tup (by rfl) (pgs_cons (pg_name (i := 1) sc_halved.nd rfl (.inl rfl)) (pgs_cons (pg_name (i := 2) sc_halved.nd rfl (.inl rfl)) (pgs_cons (pg_name (i := 3) sc_halved.nd rfl (.inl rfl)) (pgs_cons (pg_name (i := 4) sc_halved.nd rfl (.inl rfl)) pgs_nil))))))
      (pss_cons (ps_set (i := 5) sc_halved.nd rfl (.inl rfl) (pe_op op_fdivW (pe_op op_sub (pe_op op_add (pv 2) (pv 3)) (pv 1)) pe_int))
      (pss_cons (ps_if (pt_cmpR op_eq (pv 5) pe_int (nomark _)) (pss_one (ps_ret pe_non)) pss_nil)
      (pss_one (ps_ret (pe_tup (pa_cons (pv 1) (pa_cons (pe_op op_sub (pe_op op_add (pv 2) (pv 3)) (pv 5)) (pa_cons (pv 5) (pa_cons (pv 4) pa_nil)))))))))), ?_⟩
    refine ⟨.ref t, rfl, t, _, rfl, SqT.of ht, rfl, .int o, _, rfl, .int p, _, rfl, .int m, _, rfl, .int f, _, rfl, rfl, ?_⟩
    refine ⟨.int p, rfl, .int m, rfl, p, m, rfl, rfl, .int o, rfl, _, _, rfl, rfl, _, 2, rfl, rfl, wide_div (b := 10) (by decide) (by decide) (by decide) (by decide), ?_⟩
    refine ⟨.int _, rfl, rfl, _, rfl, ?_⟩
    refine ite2 (fun h => ?_) (fun h => ?_)
    · exact q1 (V.int.inj (of_decide_eq_true h))
    · refine ⟨.int o, rfl, .int p, rfl, .int m, rfl, p, m, rfl, rfl, .int _, rfl, _, _, rfl, rfl, .int _, rfl, .int f, rfl, by show 4 ≤ sizeLine; decide, fun r nr => ?_⟩
      exact q2 (fun z => h (decide_eq_true (congrArg V.int z))) r nr
theorem ok_merged {f fS fE fR fC : Addr} {fd fdS fdE fdR fdC : FuncData} (D : DefAt K mg "merged" s_merged P_merged f fd) (D_step_of : DefAt K mg "step_of" s_step_of P_step_of fS fdS) (D_end_of : DefAt K mg "end_of" s_end_of P_end_of fE fdE) (D_is_repeat : DefAt K mg "is_repeat" s_is_repeat P_is_repeat fR fdR)
    (D_common : DefAt K mg "common" s_common P_common fC fdC) (B : Bn mg) : FnOk P w K mg base CX0 3 f fd P_merged spMerged := by
  have G_step_of : FnOk P w K mg base CX0 1 fS fdS P_step_of spStep := ok_step D_step_of
  have G_end_of : FnOk P w K mg base CX0 1 fE fdE P_end_of spEnd := ok_end D_end_of
  have G_is_repeat : FnOk P w K mg base CX0 2 fR fdR P_is_repeat spRep := ok_rep D_is_repeat D_step_of
  have G_common : FnOk P w K mg base CX0 1 fC fdC P_common spCommon := ok_common D_common B
  refine D.F.ok sc_merged (fun vs H Q E h => ?_) (fun cdv A outer s H vs Q E hr h => ?_)
  · obtain ⟨t, t', o, p, m, f, o', p', m', f', rfl, _⟩ := h
    rfl
  · obtain ⟨t, t', o, p, m, f, o', p', m', f', rfl, ht, ht', q1, q2⟩ := h
    refine ⟨_, (pss_cons (ps_if (PW.pt (pw_or (pt_not (pt_val (pe_call G_is_repeat (hr.mono (by omega)) (by rfl) D_is_repeat.g D_is_repeat.F.kp D_is_repeat.b .nil pass0 (pa_cons (pv 0) pa_nil)))) (pw_or1 (pt_not (pt_val (pe_call G_is_repeat (hr.mono (by omega)) (by rfl) D_is_repeat.g D_is_repeat.F.kp D_is_repeat.b .nil pass0 (pa_cons (pv 1) pa_nil))))))) (pss_one (ps_ret pe_non)) pss_nil)
      (pss_cons (ps_set (i := 2) sc_merged.nd rfl (.inl rfl) (pe_op op_sub (pe_callB (call_min2 rfl) (by rfl) B.min (by decide +kernel) (pa_cons (pe_call G_end_of (hr.mono (by omega)) (by rfl) D_end_of.g D_end_of.F.kp D_end_of.b .nil pass0 (pa_cons (pv 0) pa_nil)) (pa_cons (pe_call G_end_of (hr.mono (by omega)) (by rfl) D_end_of.g D_end_of.F.kp D_end_of.b .nil pass0 (pa_cons (pv 1) pa_nil)) pa_nil))) (pe_callB (call_max2 rfl) (by rfl) B.max (by decide +kernel) (pa_cons (pe_ix ix_tup (pv 0) pe_int (fun _ _ => rfl)) (pa_cons (pe_ix ix_tup (pv 1) pe_int (fun _ _ => rfl)) pa_nil)))))
      (pss_cons (ps_if (pt_cmpR op_lt (pv 2) (pe_op op_add (pe_call G_step_of (hr.mono (by omega)) (by rfl) D_step_of.g D_step_of.F.kp D_step_of.b .nil pass0 (pa_cons (pv 0) pa_nil)) (pe_call G_step_of (hr.mono (by omega)) (by rfl) D_step_of.g D_step_of.F.kp D_step_of.b .nil pass0 (pa_cons (pv 1) pa_nil))) (nomark _)) (pss_one (ps_ret pe_non)) pss_nil)
      (pss_cons (ps_set (i := 3) sc_merged.nd rfl (.inl rfl) (pe_callB (call_min2 rfl) (by rfl) B.min (by decide +kernel) (pa_cons (pe_ix ix_tup (pv 0) pe_int (fun _ _ => rfl)) (pa_cons (pe_ix ix_tup (pv 1) pe_int (fun _ _ => rfl)) pa_nil))))
      (pss_cons (ps_set (i := 4) sc_merged.nd rfl (.inl rfl) (pe_callB (call_max2 rfl) (by rfl) B.max (by decide +kernel) (pa_cons (pe_call G_end_of (hr.mono (by omega)) (by rfl) D_end_of.g D_end_of.F.kp D_end_of.b .nil pass0 (pa_cons (pv 0) pa_nil)) (pa_cons (pe_call G_end_of (hr.mono (by omega)) (by rfl) D_end_of.g D_end_of.F.kp D_end_of.b .nil pass0 (pa_cons (pv 1) pa_nil)) pa_nil))))
      (pss_cons (ps_set (i := 5) sc_merged.nd rfl (.inl rfl) (pe_call G_common (hr.mono (by omega)) (by rfl) D_common.g D_common.F.kp D_common.b .nil pass0 (pa_cons (pe_call G_step_of (hr.mono (by omega)) (by rfl) D_step_of.g D_step_of.F.kp D_step_of.b .nil pass0 (pa_cons (pv 0) pa_nil)) (pa_cons (pe_call G_step_of (hr.mono (by omega)) (by rfl) D_step_of.g D_step_of.F.kp D_step_of.b .nil pass0 (pa_cons (pv 1) pa_nil)) pa_nil))))
      (pss_one (ps_ret (pe_tup (pa_cons (pv 3) (pa_cons (pe_op op_add (pv 3) (pv 5)) (pa_cons (pe_op op_sub (pe_op op_sub (pv 4) (pv 3)) (pv 5)) (pa_cons pe_int pa_nil))))))))))))), ?_⟩
    refine ⟨.ref t, rfl, t, o, p, m, f, rfl, ht, _, rfl, ?_⟩
    by_cases h1 : isRep o p m f = true
    · rw [h1]
      refine iteF ?_
      refine ⟨.ref t', rfl, t', o', p', m', f', rfl, ht', _, rfl, ?_⟩
      by_cases h2 : isRep o' p' m' f' = true
      · rw [h2]
        refine iteF ?_
        -- shared
        refine ⟨.ref t, rfl, t, o, p, m, f, rfl, ht, .ref t', rfl, t', o', p', m', f', rfl, ht', _, _, rfl, ?_⟩
        refine ⟨.ref t, rfl, t, _, 0, .int o, rfl, rfl, SqT.of ht, at4_0, .ref t', rfl, t', _, 0, .int o', rfl, rfl, SqT.of ht', at4_0, _, _, rfl, _, _, rfl, rfl, ?_⟩
        refine ⟨.int (shr o p m o' p' m'), rfl, .ref t, rfl, t, o, p, m, f, rfl, ht, .ref t', rfl, t', o', p', m', f', rfl, ht', _, _, rfl, rfl, _, _, rfl, rfl, _, rfl, ?_⟩
        refine ite2 (fun h => ?_) (fun h => ?_)
        · have h' : shr o p m o' p' m' < p - o + (p' - o') := of_decide_eq_true h
          exact q1 fun z => by omega
        · have h' : ¬ shr o p m o' p' m' < p - o + (p' - o') := fun z => h (decide_eq_true z)
          refine ⟨.ref t, rfl, t, _, 0, .int o, rfl, rfl, SqT.of ht, at4_0, .ref t', rfl, t', _, 0, .int o', rfl, rfl, SqT.of ht', at4_0, _, _, rfl, ?_⟩
          refine ⟨.ref t, rfl, t, o, p, m, f, rfl, ht, .ref t', rfl, t', o', p', m', f', rfl, ht', _, _, rfl, ?_⟩
          have r1 := of_decide_eq_true h1
          have r2 := of_decide_eq_true h2
          refine ⟨.ref t, rfl, t, o, p, m, f, rfl, ht, .ref t', rfl, t', o', p', m', f', rfl, ht', (p - o).toNat, (p' - o').toNat, ?_, ?_⟩
          · rw [Int.toNat_of_nonneg (by omega), Int.toNat_of_nonneg (by omega)]
            rfl
          · refine ⟨.int (imin o o'), rfl, .int (imin o o'), rfl, .int _, rfl, _, _, rfl, rfl, .int (imax (p + m) (p' + m')), rfl, .int (imin o o'), rfl, _, _, rfl, rfl, .int _, rfl, _, _, rfl, rfl, by show 4 ≤ sizeLine; decide, fun r nr => ?_⟩
            exact q2 h1 h2 (by omega) r nr
      · rw [Bool.eq_false_iff.mpr h2]
        exact iteT (q1 fun z => h2 z.2.1)
    · rw [Bool.eq_false_iff.mpr h1]
      exact iteT (q1 fun z => h1 z.1)
end

/-! ### a tuple of ints, truths and texts in an f-string -/
def MV (x : V) : Prop := FV x ∨ ∃ y : Str, x = .str y ∧ y.length ≤ 100 ∧ (∀ c ∈ y.cps.toList, c < 16 ^ 8) ∧ PyData.strOk y = true
section
open PySem.Spec PyProof.Rows
theorem repr_one {prog : Program} {w : World} {x : V} {u : Value} (h : MV x) (r : RelV x u) : ∃ t : Str, ReprIs prog w u t ∧ t.length ≤ 2000 := by
  rcases h with (⟨i, rfl, hi⟩ | ⟨b, rfl⟩) | ⟨y, rfl, hy, hc, _⟩
  · obtain ⟨t, rfl⟩ := r
    exact ⟨_, ReprIs.int t hi, Nat.le_trans (int_text_len_1921 hi) (by decide)⟩
  · cases (show u = Value.bool b from r)
    exact ⟨_, ReprIs.bool b, by cases b <;> decide +kernel⟩
  · obtain ⟨t, rfl⟩ := r
    have h1 := StrLaws.reprText_len y hc
    have h2 : (reprText y).length ≤ 2000 := by omega
    exact ⟨_, ReprIs.str y t (Nat.le_trans h2 (by decide)), h2⟩
theorem repr_allM {prog : Program} {w : World} : ∀ {xs : List V} {its : List Value}, Vals xs its → (∀ x ∈ xs, MV x) → ∃ ts : List Str, ReprAll prog w its ts ∧ piled ts ≤ xs.length * 2010
  | [], _, r, _ => by
    cases r
    exact ⟨[], .nil, Nat.zero_le _⟩
  | x :: l, _, r, h => by
    cases r with
    | cons r1 r2 =>
      obtain ⟨t, h1, h2⟩ := repr_one (prog := prog) (w := w) (h x List.mem_cons_self) r1
      obtain ⟨ts, h3, h4⟩ := repr_allM (prog := prog) (w := w) r2 fun y hy => h y (List.mem_cons_of_mem _ hy)
      refine ⟨t :: ts, .cons h1 h3, ?_⟩
      rw [piled_cons, List.length_cons]
      omega
def tFmtM (K : PySem.W.Frag) (te : TE) : TE := fun σ H Q => te σ H fun x H1 => ∃ (a : Addr) (xs : List V), x = .ref a ∧ SqT K H1 a xs ∧ (∀ y ∈ xs, MV y) ∧ xs.length ≤ 20 ∧ ∀ m : Str, m.length ≤ 50000 → Q (.str m) H1
theorem pe_fmtM {X : Cx} {e : Expr} {te : TE} {pos : Pos} {k : Nat} (hr : Room k X.A) (he : PE X e te) : PE X (.FormattedValue e (-1) none pos) (tFmtM X.K te) := by
  refine ⟨fun pins s σ H Q I h => ?_⟩
  refine wpAny_FormattedValue_plain (thn (he.run pins s σ H _ I h) fun v s1 hv => ?_)
  obtain ⟨x, H1, I1, r1, a, xs, rfl, ht, hc, hl, q⟩ := hv
  cases r1
  obtain ⟨its, rv, ⟨o, ho, hcl, n, hd⟩, _⟩ := I1.tuple ht
  obtain ⟨ts, h1, h2⟩ := repr_allM (prog := X.prog) (w := X.w) rv hc
  have htx := fmt_text ts
  have hz : (tupleText ts).length ≤ 45000 := by
    have : xs.length * 2010 ≤ 20 * 2010 := Nat.mul_le_mul_right _ hl
    omega
  have hu := hr.units
  exact fmt_tuple (ts := ts) (by omega) ho hcl hd h1 (Nat.le_trans hz (by decide)) fun m u tk hm => ⟨.str m, H1, I1.tok _, ⟨u, rfl⟩, q m (by omega)⟩
end
/-! ### BadMove -/
abbrev N_bminit : List Str := ["self", "move"]
theorem sc_bminit : FnScope N_bminit N_bminit (defScope s_bminit) := ⟨rfl, rfl, rfl, by decide +kernel, rfl, by decide +kernel, by decide +kernel⟩
def bmF (x : V) : Fds := [("word", .str "BadMove"), ("move", x), ("word", .str "FarError")]
def spBmInit (K : PySem.W.Frag) : Sp := fun vs H Q _ => ∃ (a C t : Addr) (xs : List V), vs = [.ref a, .ref t] ∧ H t = some (.tup xs) ∧ (∀ y ∈ xs, MV y) ∧ xs.length ≤ 20 ∧ ErrT K C ∧ PySem.W.findIn K (.ref C) "move" = some none ∧ H a = some (exo a C none) ∧
  ∀ (H' : Hp) (dx : Addr), H dx = none → H' a = some (exo a C (some dx)) → H' dx = some (exd dx (bmF (.ref t))) → (∀ b o, b ≠ a → H b = some o → H' b = some o) → Q .non H'
section
variable {P : Program} {w : World} {K : PySem.W.Frag} {mg : Str → Option Value} {base : Heap}
theorem ok_bminit {f fF CF : Addr} {fd fdF : FuncData} (F : Fun K "__init__" "BadMove.__init__" s_bminit f fd) (gF : mg "FarError" = some (.ref CF)) (TF : ClsFn K CF "__init__" fF) (bF : Binds K fdF N_farinit [])
    (GF : FnOk P w K mg base CX0 1 fF fdF N_farinit (spFarInit K)) : FnOk P w K mg base CX0 2 f fd N_bminit (spBmInit K) := by
  refine F.ok sc_bminit (fun vs H Q E h => ?_) (fun cdv A outer s H vs Q E hr h => ?_)
  · obtain ⟨a, C, t, xs, rfl, _⟩ := h
    rfl
  · obtain ⟨a, C, t, xs, rfl, ht, hx, hl, T, n1, ha, q⟩ := h
    refine ⟨_, pss_cons (ps_expr (pe_clsfn (by rfl) gF TF GF hr bF pass0 (pa_cons (pv 0) (pa_cons (pe_joined (.cons pe_str (.cons (pe_fmtM hr (pv 1)) .nil))) pa_nil))))
      (pss_cons (ps_ost (pv 0) (pv 1)) (pss_one (ps_ost (pv 0) pe_str))), ?_⟩
    refine ⟨.ref a, rfl, _, rfl, fits_of (n := 100) (by decide +kernel) (by decide), ?_⟩
    refine ⟨.ref t, rfl, t, xs, rfl, SqT.of ht, hx, hl, fun y hy => ?_⟩
    refine ⟨y, rfl, fits_of (app_fits (n := 100) (by decide +kernel) hy) (by decide), ?_⟩
    refine ⟨a, C, _, rfl, T.o, T.w, ha, fun dx ndx ne => ?_⟩
    have e1 : (upd (upd H dx (exd dx [("word", .str "FarError")])) a (exo a C (some dx))) a = some (exo a C (some dx)) := upd_same
    have e2 : (upd (upd H dx (exd dx [("word", .str "FarError")])) a (exo a C (some dx))) dx = some (exd dx [("word", .str "FarError")]) := by rw [upd_ne ne, upd_same]
    refine ⟨.ref t, rfl, .ref a, rfl, a, C, rfl, T.o, n1, .inr ⟨dx, _, e1, e2, by show 1 ≤ 900; decide, ?_⟩⟩
    refine ⟨.ref a, rfl, a, C, rfl, T.o, T.w, .inr ⟨dx, _, by rw [upd_ne ne.symm]; exact e1, upd_same, by show 2 ≤ 900; decide, ?_⟩⟩
    refine q _ dx ndx (by rw [upd_ne ne.symm, upd_ne ne.symm]; exact e1) upd_same fun b o nb hb => ?_
    have nbd : b ≠ dx := ne_of_none hb ndx
    rw [upd_ne nbd, upd_ne nbd, upd_ne nb, upd_ne nbd]
    exact hb
end

/-! ### is_mating -/
abbrev N_is_mating : List Str := ["length", "mating", "one", "other", "many", "turned", "number"]
abbrev P_is_mating : List Str := ["length", "mating"]
theorem sc_is_mating : FnScope N_is_mating P_is_mating (defScope s_is_mating) := ⟨rfl, rfl, rfl, by decide +kernel, rfl, by decide +kernel, by decide +kernel⟩
def isMat (n : Int) : V → V → V → V → Bool
  | .int o, .int p, .int m, .int f => decide ((f = 0 ∨ f = 1) ∧ 1 ≤ m ∧ 0 ≤ o ∧ 0 ≤ p ∧ o + m ≤ n ∧ p + m ≤ n)
  | _, _, _, _ => false
theorem isMat_b {n : Int} {o p m f : V} (h : ([o, p, m, f].map isB).any id = true) : isMat n o p m f = false := by
  cases o with
  | int _ => cases p with
    | int _ => cases m with
      | int _ => cases f with
        | int _ => exact absurd (show false = true from h) (by decide)
        | _ => rfl
      | _ => rfl
    | _ => rfl
  | _ => rfl
theorem allInt {x : V} (h : IB x) (hb : isB x = false) : ∃ i : Int, x = .int i ∧ i.natAbs < 2 ^ 200 := by
  rcases h with h | ⟨b, rfl⟩
  · exact h
  · cases hb
theorem inV01 (f : Int) : inV (.int f) [.int 0, .int 1] = decide (f = 0 ∨ f = 1) := by
  by_cases h0 : f = 0
  · subst h0
    decide
  · by_cases h1 : f = 1
    · subst h1
      decide
    · have e0 : ¬ (0 = f) := fun z => h0 z.symm
      have e1 : ¬ (1 = f) := fun z => h1 z.symm
      simp [inV, eqV, h0, h1, e0, e1]
def spIsMat : Sp := fun vs H Q _ => ∃ (n : Int) (t : Addr) (o p m f : V), vs = [.int n, .ref t] ∧ n.natAbs < 2 ^ 200 ∧ H t = some (.tup [o, p, m, f]) ∧ IB o ∧ IB p ∧ IB m ∧ IB f ∧ ∀ H', Same H H' → Q (.bl (isMat n o p m f)) H'
section
variable {P : Program} {w : World} {K : PySem.W.Frag} {mg : Str → Option Value} {base : Heap}
theorem ok_is_mating {f : Addr} {fd : FuncData} (D : DefAt K mg "is_mating" s_is_mating P_is_mating f fd) (B : Bn mg) : FnOk P w K mg base CX0 1 f fd P_is_mating spIsMat := by
  refine D.F.ok sc_is_mating (fun vs H Q E h => ?_) (fun cdv A outer s H vs Q E hr h => ?_)
  · obtain ⟨n, t, o, p, m, f, rfl, _⟩ := h
    rfl
  · obtain ⟨n, t, o, p, m, f, rfl, hn, ht, ho, hp, hm, hf, q⟩ := h
    refine ⟨_, (pss_cons (ps_asg (pv 1) (pg_tup (by rfl) (pgs_cons (pg_name (i := 2) sc_is_mating.nd rfl (.inl rfl)) (pgs_cons (pg_name (i := 3) sc_is_mating.nd rfl (.inl rfl)) (pgs_cons (pg_name (i := 4) sc_is_mating.nd rfl (.inl rfl)) (pgs_cons (pg_name (i := 5) sc_is_mating.nd rfl (.inl rfl)) pgs_nil))))))
      (pss_cons (ps_if (pt_val (pe_callB (cr_any rfl) (by rfl) B.any (by decide +kernel) (pa_cons (pe_lc (own := [("number", 6)]) (g := gName 6) (by rfl) sc_is_mating.nd (pi_tup (pe_tup (pa_cons (pv 0) (pa_cons (pv 2) (pa_cons (pv 3) (pa_cons (pv 4) (pa_cons (pv 5) pa_nil))))))) (blkOk_by (own := [("number", 6)]) (N := N_is_mating) (sc := defScope s_is_mating) (by decide +kernel)) (fun _ _ _ _ _ => (pg_name (i := 6) sc_is_mating.nd rfl (.inl rfl))) (fun _ _ _ _ _ => pts_nil) (fun _ _ _ _ _ => (pe_callB (show CallR _ _ (rIsi K) from call_isi) (by rfl) B.isinstance (by decide +kernel) (pa_cons (pv 6) (pa_cons (pe_bltn (v := .ty "bool") (by rfl) B.bool (by decide +kernel) rfl) pa_nil))))) pa_nil))) (pss_one (ps_ret pe_bl)) pss_nil)
      (pss_cons (ps_if (PW.pt (pw_or (pt_cmpR op_notIn_seq (pv 5) (pe_tup (pa_cons pe_int (pa_cons pe_int pa_nil))) (by rfl)) (pw_or1 (pt_cmpR op_lt (pv 4) pe_int (nomark _))))) (pss_one (ps_ret pe_bl)) pss_nil)
      (pss_one (ps_ret (pe_and (pe_cmpR op_ge (pe_callB (call_min2 rfl) (by rfl) B.min (by decide +kernel) (pa_cons (pv 2) (pa_cons (pv 3) pa_nil))) pe_int (nomark _)) (pe_one (pe_cmpR op_le (pe_op op_add (pe_callB (call_max2 rfl) (by rfl) B.max (by decide +kernel) (pa_cons (pv 2) (pa_cons (pv 3) pa_nil))) (pv 4)) (pv 0) (nomark _))))))))), ?_⟩
    refine ⟨.ref t, rfl, t, _, rfl, SqT.of ht, rfl, o, _, rfl, p, _, rfl, m, _, rfl, f, _, rfl, rfl, ?_⟩
    refine ⟨.int n, rfl, o, rfl, p, rfl, m, rfl, f, rfl, by show 5 ≤ sizeLine; decide, fun tp ntp => ?_⟩
    refine ⟨tp, rfl, ⟨_, SqT.of upd_same⟩, fun L nL => lc_tup (K := K) (a := tp) (xs := [.int n, o, p, m, f]) (fun i H2 => Same (upd H tp (.tup [.int n, o, p, m, f])) H2 ∧ H2 L = some (.lst ((([.int n, o, p, m, f].map isB).take i).map V.bl)))
      ⟨same_upd nL, upd_same⟩ (fun i H2 _ ⟨sm, _⟩ => SqT.of (sm _ _ upd_same)) ?_ ?_⟩
    · rintro i x H2 hx ⟨sm, e2⟩
      have hi : i < 5 := (List.getElem?_eq_some_iff.mp hx).1
      have hib : IB x := by
        have : x ∈ [.int n, o, p, m, f] := List.mem_of_getElem? hx
        rcases List.mem_cons.mp this with rfl | this
        · exact .inl ⟨n, rfl, hn⟩
        rcases List.mem_cons.mp this with rfl | this
        · exact ho
        rcases List.mem_cons.mp this with rfl | this
        · exact hp
        rcases List.mem_cons.mp this with rfl | this
        · exact hm
        rcases List.mem_cons.mp this with rfl | this
        · exact hf
        · cases this
      obtain ⟨ty, h1, h2⟩ := hib.ty (K := K) (H := H2)
      refine ⟨rfl, ?_⟩
      refine ⟨x, rfl, _, _, _, _, isB x, rfl, ClsV.ty _, h1, h2, ?_⟩
      refine ⟨_, e2, sz_lt (by rw [List.length_map, List.length_take]; omega), fun b o' hb => ?_, ?_⟩
      · rw [upd_ne (ne_of_none hb nL)]
        exact sm _ _ hb
      · rw [upd_same, List.take_add_one, List.getElem?_map, hx, List.map_append]
        rfl
    · rintro H2 ⟨sm, e2⟩
      have e2' : H2 L = some (.lst (([.int n, o, p, m, f].map isB).map V.bl)) := e2
      have sH : Same H H2 := (same_upd ntp).trans sm
      refine ⟨L, _, rfl, SqL.of e2', _, rfl, ?_⟩
      by_cases hb : ([o, p, m, f].map isB).any id = true
      · have e3 : ([.int n, o, p, m, f].map isB).any id = true := hb
        rw [e3]
        refine iteT ?_
        rw [isMat_b hb] at q
        exact q H2 sH
      · have e3 : ([.int n, o, p, m, f].map isB).any id = false := by
          cases e : ([o, p, m, f].map isB).any id with
          | true => exact absurd e hb
          | false => exact e
        rw [e3]
        refine iteF ?_
        have hb' : ([o, p, m, f].map isB).any id = false := e3
        simp only [List.map_cons, List.map_nil, List.any_cons, List.any_nil, id, Bool.or_false, Bool.or_eq_false_iff] at hb'
        obtain ⟨b1, b2, b3, b4⟩ := hb'
        obtain ⟨o, rfl, _⟩ := allInt ho b1
        obtain ⟨p, rfl, _⟩ := allInt hp b2
        obtain ⟨m, rfl, _⟩ := allInt hm b3
        obtain ⟨f, rfl, _⟩ := allInt hf b4
        refine ⟨.int f, rfl, by show 2 ≤ sizeLine; decide, fun t2 n2 => ?_⟩
        have s2 : Same H (upd H2 t2 (.tup [.int 0, .int 1])) := sH.trans (same_upd n2)
        refine ⟨t2, _, rfl, .inr (SqT.of upd_same), rfl, rfl, _, rfl, ?_⟩
        have no : ¬ ((f = 0 ∨ f = 1) ∧ 1 ≤ m ∧ 0 ≤ o ∧ 0 ≤ p ∧ o + m ≤ n ∧ p + m ≤ n) → Q (.bl false) (upd H2 t2 (.tup [.int 0, .int 1])) := fun h => by
          have := q _ s2
          rw [show isMat n (.int o) (.int p) (.int m) (.int f) = false from decide_eq_false h] at this
          exact this
        rw [if_pos rfl, inV01]
        by_cases hf01 : f = 0 ∨ f = 1
        · rw [decide_eq_true hf01]
          refine iteF ?_
          refine ⟨.int m, rfl, m, 1, rfl, rfl, _, rfl, ?_⟩
          refine ite2 (fun h => ?_) (fun h => ?_)
          · have h' : m < 1 := of_decide_eq_true h
            exact no fun z => by omega
          · have h' : ¬ m < 1 := fun z => h (decide_eq_true z)
            refine ⟨.int o, rfl, .int p, rfl, o, p, rfl, _, 0, rfl, rfl, _, rfl, ?_⟩
            refine ite2 (fun g => ?_) (fun g => ?_)
            · have g' : 0 ≤ (if p < o then p else o) := of_decide_eq_true g
              refine ⟨.int o, rfl, .int p, rfl, o, p, rfl, .int m, rfl, _, _, rfl, rfl, .int n, rfl, _, _, rfl, rfl, ?_⟩
              have := q _ s2
              rw [show isMat n (.int o) (.int p) (.int m) (.int f) = decide ((if p > o then p else o) + m ≤ n) from decide_eq_decide.mpr ⟨fun z => by split <;> omega, fun z => ⟨hf01, by omega, by split at g' <;> omega, by split at g' <;> omega, by split at z <;> omega, by split at z <;> omega⟩⟩] at this
              exact this
            · have g' : ¬ 0 ≤ (if p < o then p else o) := fun z => g (decide_eq_true z)
              exact no fun z => g' (by split <;> omega)
        · rw [decide_eq_false hf01]
          refine iteT ?_
          exact no fun z => hf01 z.1
end

/-! ### the standing matings as a list of numbers and matings -/
abbrev M4 := Int × Int × Int × Int
abbrev t4 (x : M4) : HO := tup4 x.1 x.2.1 x.2.2.1 x.2.2.2
abbrev StL := List (Int × M4)
def sget : StL → Int → Option M4
  | [], _ => none
  | s :: r, i => if s.1 = i then some s.2 else sget r i
def sput (S : StL) (i : Int) (x : M4) : StL := S.map fun s => if s.1 = i then (s.1, x) else s
def sdrop (S : StL) (i : Int) : StL := S.filter fun s => decide (s.1 ≠ i)
def StdR (H : Hp) (kv : Key × V) (s : Int × M4) : Prop := kv.1 = Sum.inl s.1 ∧ ∃ t, kv.2 = .ref t ∧ H t = some (t4 s.2)
def Std (H : Hp) (kvs : List (Key × V)) (S : StL) : Prop := Paired (StdR H) kvs S
/-- tuples stay -/
def KeepT (H H' : Hp) : Prop := ∀ b xs, H b = some (.tup xs) → H' b = some (.tup xs)
theorem Std.keep {H H' : Hp} (k : KeepT H H') : ∀ {kvs : List (Key × V)} {S : StL}, Std H kvs S → Std H' kvs S
  | _, _, .nil => .nil
  | _, _, .cons h r => .cons ⟨h.1, h.2.elim fun t e => ⟨t, e.1, k _ _ e.2⟩⟩ (Std.keep k r)
theorem Std.get {H : Hp} (i : Int) : ∀ {kvs : List (Key × V)} {S : StL}, Std H kvs S → (sget S i = none → valV kvs (Sum.inl i) = none) ∧ ∀ x, sget S i = some x → ∃ t, valV kvs (Sum.inl i) = some (.ref t) ∧ H t = some (t4 x)
  | _, _, .nil => ⟨fun _ => rfl, fun x h => nomatch h⟩
  | _, _, .cons (a := kv) (b := s) h r => by
    obtain ⟨e1, t, e2, e3⟩ := h
    obtain ⟨g1, g2⟩ := Std.get i r
    by_cases e : s.1 = i
    · have ek : kv.1 = Sum.inl i := by rw [e1, e]
      unfold sget
      rw [if_pos e]
      refine ⟨fun z => (by cases z), fun x hx => ?_⟩
      cases hx
      exact ⟨t, by rw [valV_pos ek, e2], e3⟩
    · have ek : ¬ kv.1 = Sum.inl i := by
        rw [e1]
        exact fun z => e (Sum.inl.inj z)
      unfold sget
      rw [if_neg e, valV_neg ek]
      exact ⟨g1, g2⟩
theorem Std.keys {H : Hp} : ∀ {kvs : List (Key × V)} {S : StL}, Std H kvs S → kvs.map (·.1) = (S.map (·.1)).map Sum.inl
  | _, _, .nil => rfl
  | _, _, .cons h r => by
    rw [List.map_cons, List.map_cons, List.map_cons, Std.keys r, h.1]
theorem Std.length {H : Hp} : ∀ {kvs : List (Key × V)} {S : StL}, Std H kvs S → kvs.length = S.length
  | _, _, .nil => rfl
  | _, _, .cons h r => congrArg (· + 1) (Std.length r)
theorem Std.putMap {H : Hp} {i : Int} {t : Addr} {x : M4} (ht : H t = some (t4 x)) : ∀ {kvs : List (Key × V)} {S : StL}, Std H kvs S → Std H (kvs.map fun kv => if kv.1 = Sum.inl i then (kv.1, V.ref t) else kv) (sput S i x)
  | _, _, .nil => .nil
  | _, _, .cons (a := kv) (b := s) h r => by
    refine .cons ?_ (Std.putMap ht r)
    show StdR H (if kv.1 = Sum.inl i then (kv.1, V.ref t) else kv) (if s.1 = i then (s.1, x) else s)
    by_cases e : s.1 = i
    · have ek : kv.1 = Sum.inl i := by rw [h.1, e]
      rw [if_pos ek, if_pos e]
      exact ⟨h.1, t, rfl, ht⟩
    · have ek : ¬ kv.1 = Sum.inl i := by
        rw [h.1]
        exact fun z => e (Sum.inl.inj z)
      rw [if_neg ek, if_neg e]
      exact h
theorem Std.put {H : Hp} {i : Int} {t : Addr} {x y : M4} {kvs : List (Key × V)} {S : StL} (h : Std H kvs S) (hi : sget S i = some y) (ht : H t = some (t4 x)) : Std H (putK kvs (Sum.inl i) (.ref t)) (sput S i x) := by
  obtain ⟨u, hu, _⟩ := (h.get i).2 y hi
  unfold putK
  rw [if_pos (by rw [valV_any, hu]; rfl)]
  exact h.putMap ht
theorem Std.drop {H : Hp} {i : Int} : ∀ {kvs : List (Key × V)} {S : StL}, Std H kvs S → Std H (dropK kvs (Sum.inl i)) (sdrop S i)
  | _, _, .nil => .nil
  | _, _, .cons (a := kv) (b := s) (l₁ := ks) (l₂ := rs) h r => by
    by_cases e : s.1 = i
    · have ek : kv.1 = Sum.inl i := by rw [h.1, e]
      rw [dropK_pos ek, show sdrop (s :: rs) i = sdrop rs i from List.filter_cons_of_neg (by simp [e])]
      exact Std.drop r
    · have ek : ¬ kv.1 = Sum.inl i := by
        rw [h.1]
        exact fun z => e (Sum.inl.inj z)
      rw [dropK_neg ek, show sdrop (s :: rs) i = s :: sdrop rs i from List.filter_cons_of_pos (by simp [e])]
      exact .cons h (Std.drop r)
theorem Std.snoc {H : Hp} {kv : Key × V} {s : Int × M4} (hs : StdR H kv s) : ∀ {kvs : List (Key × V)} {S : StL}, Std H kvs S → Std H (kvs ++ [kv]) (S ++ [s])
  | _, _, .nil => .cons hs .nil
  | _, _, .cons h r => .cons h (Std.snoc hs r)
theorem sput_keys (S : StL) (i : Int) (x : M4) : (sput S i x).map (·.1) = S.map (·.1) := by
  unfold sput
  rw [List.map_map]
  refine List.map_congr_left fun s _ => ?_
  show (if s.1 = i then (s.1, x) else s).1 = s.1
  split <;> rfl
theorem sput_length (S : StL) (i : Int) (x : M4) : (sput S i x).length = S.length := List.length_map _
theorem sdrop_keys {S : StL} {i : Int} (h : (S.map (·.1)).Pairwise (· < ·)) : ((sdrop S i).map (·.1)).Pairwise (· < ·) := h.sublist ((List.filter_sublist).map _)
theorem sdrop_length (S : StL) (i : Int) : (sdrop S i).length ≤ S.length := List.length_filter_le _ _
theorem sget_put_ne {i j : Int} {x : M4} (h : i ≠ j) : ∀ S : StL, sget (sput S i x) j = sget S j
  | [] => rfl
  | s :: r => by
    show sget ((if s.1 = i then (s.1, x) else s) :: sput r i x) j = sget (s :: r) j
    have ih := sget_put_ne h r (x := x)
    by_cases e : s.1 = i
    · rw [if_pos e]
      have nj : ¬ s.1 = j := fun z => h (e.symm.trans z)
      unfold sget
      rw [if_neg nj, if_neg nj, ih]
    · rw [if_neg e]
      unfold sget
      rw [ih]
/-! ### a front -/
def fr (e : Int) (s q : Addr) : List (Str × V) := [("edge", .int e), ("standing", .ref s), ("past", .ref q)]
theorem fr_make (e : Int) (s q : Addr) : putF "past" (.ref q) (putF "standing" (.ref s) (putF "edge" (.int e) [])) = fr e s q := by
  unfold fr
  show putF "past" (.ref q) (putF "standing" (.ref s) [("edge", .int e)]) = _
  have e1 : putF "standing" (.ref s) [(("edge" : Str), V.int e)] = [(("edge" : Str), V.int e), (("standing" : Str), V.ref s)] := by
    unfold putF
    rw [if_neg (by decide +kernel)]
    rfl
  rw [e1]
  unfold putF
  rw [if_neg (by decide +kernel)]
  unfold putF
  rw [if_neg (by decide +kernel)]
  rfl
theorem fr_edge (e : Int) (s q : Addr) : (fr e s q).lookup ("edge" : Str) = some (.int e) := by
  unfold fr
  rw [lookup_put, if_pos rfl]
theorem fr_standing (e : Int) (s q : Addr) : (fr e s q).lookup ("standing" : Str) = some (.ref s) := by
  unfold fr
  rw [lookup_put, if_neg (by decide +kernel), lookup_put, if_pos rfl]
theorem fr_past (e : Int) (s q : Addr) : (fr e s q).lookup ("past" : Str) = some (.ref q) := by
  unfold fr
  rw [lookup_put, if_neg (by decide +kernel), lookup_put, if_neg (by decide +kernel), lookup_put, if_pos rfl]
theorem fr_no {e : Int} {s q : Addr} {m : Str} (h1 : ¬ m = "edge") (h2 : ¬ m = "standing") (h3 : ¬ m = "past") : (fr e s q).lookup m = none := by
  unfold fr
  rw [lookup_put, if_neg h1, lookup_put, if_neg h2, lookup_put, if_neg h3]
  rfl
structure FrT (K : PySem.W.Frag) (mg : Str → Option Value) (C : Addr) : Prop where
  gC : mg "Front" = some (.ref C)
  cl : Cls K C
  nE : NoAttr K C "edge"
  nS : NoAttr K C "standing"
  nP : NoAttr K C "past"
structure FrAt (C : Addr) (H : Hp) (a s q : Addr) (e : Int) (S : StL) (ps : List V) : Prop where
  at_a : ∃ dx, H a = some (.ins C dx (fr e s q))
  at_s : ∃ kvs, H s = some (.dK kvs) ∧ Std H kvs S
  at_q : H q = some (.lst ps)
  up : (S.map (·.1)).Pairwise (· < ·)
  len : S.length ≤ 100
/-- all but the front stands -/
def Off (a s q : Addr) (H H' : Hp) : Prop := ∀ b o, H b = some o → b ≠ a → b ≠ s → b ≠ q → H' b = some o
theorem Off.of_same {a s q : Addr} {H H' : Hp} (e : Same H H') : Off a s q H H' := fun b o h _ _ _ => e b o h
theorem Off.trans {a s q : Addr} {H H1 H2 : Hp} (x : Off a s q H H1) (y : Off a s q H1 H2) : Off a s q H H2 := fun b o h h1 h2 h3 => y b o (x b o h h1 h2 h3) h1 h2 h3
theorem FrAt.ne_tup {C : Addr} {H : Hp} {a s q b : Addr} {e : Int} {S : StL} {ps xs : List V} (h : FrAt C H a s q e S ps) (hb : H b = some (.tup xs)) : b ≠ a ∧ b ≠ s ∧ b ≠ q := by
  obtain ⟨dx, ea⟩ := h.at_a
  obtain ⟨kvs, es, _⟩ := h.at_s
  exact ⟨ne_of hb ea (fun z => by cases z), ne_of hb es (fun z => by cases z), ne_of hb h.at_q (fun z => by cases z)⟩
theorem FrAt.same {C : Addr} {H H' : Hp} {a s q : Addr} {e : Int} {S : StL} {ps : List V} (h : FrAt C H a s q e S ps) (k : Same H H') : FrAt C H' a s q e S ps := by
  obtain ⟨⟨dx, ea⟩, ⟨kvs, es, st⟩, eq, up, len⟩ := h
  exact ⟨⟨dx, k _ _ ea⟩, ⟨kvs, k _ _ es, st.keep fun b xs hb => k _ _ hb⟩, k _ _ eq, up, len⟩
/-- the dict anew -/
theorem FrAt.dict {C : Addr} {H : Hp} {a s q : Addr} {e : Int} {S S' : StL} {ps : List V} {kvs : List (Key × V)} (h : FrAt C H a s q e S ps) (st : Std H kvs S') (up : (S'.map (·.1)).Pairwise (· < ·)) (len : S'.length ≤ 100) :
    FrAt C (upd H s (.dK kvs)) a s q e S' ps ∧ Off a s q H (upd H s (.dK kvs)) := by
  obtain ⟨⟨dx, ea⟩, ⟨kvs0, es, st0⟩, eq, _, _⟩ := h
  have n1 : a ≠ s := ne_of ea es (fun z => by cases z)
  have n2 : q ≠ s := ne_of eq es (fun z => by cases z)
  refine ⟨⟨⟨dx, by rw [upd_ne n1]; exact ea⟩, ⟨kvs, upd_same, st.keep fun b xs hb => ?_⟩, by rw [upd_ne n2]; exact eq, up, len⟩, fun b o hb _ h2 _ => ?_⟩
  · rw [upd_ne (ne_of hb es (fun z => by cases z))]
    exact hb
  · rw [upd_ne h2]
    exact hb
theorem perm_sorted : ∀ {ys ks : List Int}, ys.Perm ks → ys.Pairwise (· ≤ ·) → ks.Pairwise (· < ·) → ys = ks
  | [], ks, p, _, _ => (List.Perm.nil_eq p)
  | y :: ys, [], p, _, _ => nomatch (List.Perm.eq_nil p)
  | y :: ys, k :: ks, p, h1, h2 => by
    have m1 : y ∈ k :: ks := p.subset List.mem_cons_self
    have m2 : k ∈ y :: ys := p.symm.subset List.mem_cons_self
    have e : y = k := by
      rcases List.mem_cons.mp m1 with z | z
      · exact z
      · rcases List.mem_cons.mp m2 with z' | z'
        · exact z'.symm
        · have a1 := (List.pairwise_cons.mp h1).1 _ z'
          have a2 := (List.pairwise_cons.mp h2).1 _ z
          omega
    subst e
    rw [perm_sorted (List.Perm.cons_inv p) (List.pairwise_cons.mp h1).2 (List.pairwise_cons.mp h2).2]
section
variable {X : Cx} {K : PySem.W.Frag}
/-- o.f inside a comprehension -/
theorem pe_fldK {e : Expr} {f : Str} {pos : Pos} {ta : TE} (hK : X.K = K) (he : PE X e ta) (hb : attributeBase e f X.env (eval e X.env) = eval e X.env) : PE X (.Attribute e f pos) (tFld K ta f) := by
  subst hK
  exact pe_fld he hb
end

/-! ### need_length, need_mating, need_road of a road that is right -/
abbrev N_need_from : List Str := ["low", "number"]
abbrev P_need_from : List Str := ["low", "number"]
theorem sc_need_from : FnScope N_need_from P_need_from (defScope s_need_from) := ⟨rfl, rfl, rfl, by decide +kernel, rfl, by decide +kernel, by decide +kernel⟩
abbrev N_need_within : List Str := ["low", "high", "number"]
abbrev P_need_within : List Str := ["low", "high", "number"]
theorem sc_need_within : FnScope N_need_within P_need_within (defScope s_need_within) := ⟨rfl, rfl, rfl, by decide +kernel, rfl, by decide +kernel, by decide +kernel⟩
abbrev N_need_length : List Str := ["number"]
abbrev P_need_length : List Str := ["number"]
theorem sc_need_length : FnScope N_need_length P_need_length (defScope s_need_length) := ⟨rfl, rfl, rfl, by decide +kernel, rfl, by decide +kernel, by decide +kernel⟩
abbrev N_need_mating : List Str := ["length", "mating"]
abbrev P_need_mating : List Str := ["length", "mating"]
theorem sc_need_mating : FnScope N_need_mating P_need_mating (defScope s_need_mating) := ⟨rfl, rfl, rfl, by decide +kernel, rfl, by decide +kernel, by decide +kernel⟩
abbrev N_need_road : List Str := ["length", "matings", "mating"]
abbrev P_need_road : List Str := ["length", "matings"]
theorem sc_need_road : FnScope N_need_road P_need_road (defScope s_need_road) := ⟨rfl, rfl, rfl, by decide +kernel, rfl, by decide +kernel, by decide +kernel⟩
def spNeed1 (n : Int) : Sp := fun vs H Q _ => ∃ (t : Addr) (m : Int × Int × Int × Int), vs = [.int n, .ref t] ∧ H t = some (t4 m) ∧ ((m.2.2.2 = 0 ∨ m.2.2.2 = 1) ∧ 1 ≤ m.2.2.1 ∧ 0 ≤ m.1 ∧ 0 ≤ m.2.1 ∧ m.1 + m.2.2.1 ≤ n ∧ m.2.1 + m.2.2.1 ≤ n) ∧ ∀ H', Same H H' → Q .non H'
def spFrom0 : Sp := fun vs H Q _ => ∃ lo n : Int, vs = [.int lo, .int n] ∧ lo ≤ n ∧ Q .non H
def spWithin0 : Sp := fun vs H Q _ => ∃ lo hi n : Int, vs = [.int lo, .int hi, .int n] ∧ lo ≤ n ∧ n ≤ hi ∧ Q .non H
def spNeed0 : Sp := fun vs H Q _ => ∃ n : Int, vs = [.int n] ∧ 0 ≤ n ∧ n ≤ 1000000000000000000 ∧ Q .non H
def Mok (n : Int) (x : M4) : Prop := (x.2.2.2 = 0 ∨ x.2.2.2 = 1) ∧ 1 ≤ x.2.2.1 ∧ 0 ≤ x.1 ∧ 0 ≤ x.2.1 ∧ x.1 + x.2.2.1 ≤ n ∧ x.2.1 + x.2.2.1 ≤ n
def Mts (H : Hp) (ts : List Addr) (ms : List M4) : Prop := Paired (fun t x => H t = some (t4 x)) ts ms
theorem Mts.same {H H' : Hp} (k : Same H H') : ∀ {ts : List Addr} {ms : List M4}, Mts H ts ms → Mts H' ts ms
  | _, _, .nil => .nil
  | _, _, .cons h r => .cons (k _ _ h) (Mts.same k r)
theorem Mts.length {H : Hp} : ∀ {ts : List Addr} {ms : List M4}, Mts H ts ms → ts.length = ms.length
  | _, _, .nil => rfl
  | _, _, .cons _ r => congrArg (· + 1) (Mts.length r)
theorem Mts.at {H : Hp} : ∀ {ts : List Addr} {ms : List M4}, Mts H ts ms → ∀ (i : Nat) (t : Addr), ts[i]? = some t → ∃ x, ms[i]? = some x ∧ H t = some (t4 x)
  | _, _, .nil, i, t, h => by simp at h
  | _, _, .cons (b := x) h r, 0, t, e => by
    cases e
    exact ⟨x, rfl, h⟩
  | _, _, .cons h r, i + 1, t, e => Mts.at r i t e
def spNeedM : Sp := fun vs H Q _ => ∃ (n : Int) (L : Addr) (ts : List Addr) (ms : List M4), vs = [.int n, .ref L] ∧ 0 ≤ n ∧ n ≤ 1000000000000000000 ∧ H L = some (.lst (ts.map V.ref)) ∧ Mts H ts ms ∧ (∀ x ∈ ms, Mok n x) ∧ ms.length ≤ 24 ∧ ∀ H', Same H H' → Q .non H'
section
variable {P : Program} {w : World} {K : PySem.W.Frag} {mg : Str → Option Value} {base : Heap}
theorem ok_from0 {f : Addr} {fd : FuncData} (D : DefAt K mg "need_from" s_need_from P_need_from f fd) (B : Bn mg) : FnOk P w K mg base CX0 1 f fd P_need_from spFrom0 := by
  refine D.F.ok sc_need_from (fun vs H Q E h => ?_) (fun cdv A outer s H vs Q E hr h => ?_)
  · obtain ⟨lo, n, rfl, _⟩ := h
    rfl
  · obtain ⟨lo, n, rfl, n0, q⟩ := h
    refine ⟨_, (pss_one (ps_if (PW.pt (pw_or (pt_val (pe_callB call_isi (by rfl) B.isinstance (by decide +kernel) (pa_cons (pv 1) (pa_cons (pe_bltn (v := .ty "bool") (by rfl) B.bool (by decide +kernel) rfl) pa_nil)))) (pw_or1 (pt_cmpR op_lt (pv 1) (pv 0) (nomark _))))) (pss_one ps_never) pss_nil)), ?_⟩
    refine ⟨.int n, rfl, _, _, _, _, false, rfl, ClsV.ty _, TyX.base (TyOf.int _), kit_ty (by decide +kernel), _, rfl, iteF ?_⟩
    exact ⟨.int n, rfl, .int lo, rfl, n, lo, rfl, rfl, _, rfl, ite2 (fun h => absurd (of_decide_eq_true h) (by omega)) (fun _ => q)⟩
theorem ok_within0 {f fA : Addr} {fd fdA : FuncData} (D : DefAt K mg "need_within" s_need_within P_need_within f fd) (D_need_from : DefAt K mg "need_from" s_need_from P_need_from fA fdA) (B : Bn mg) : FnOk P w K mg base CX0 2 f fd P_need_within spWithin0 := by
  have G_need_from : FnOk P w K mg base CX0 1 fA fdA P_need_from spFrom0 := ok_from0 D_need_from B
  refine D.F.ok sc_need_within (fun vs H Q E h => ?_) (fun cdv A outer s H vs Q E hr h => ?_)
  · obtain ⟨lo, hi, n, rfl, _⟩ := h
    rfl
  · obtain ⟨lo, hi, n, rfl, n0, n1, q⟩ := h
    refine ⟨_, (pss_cons (ps_expr (pe_call G_need_from (hr.mono (by omega)) (by rfl) D_need_from.g D_need_from.F.kp D_need_from.b .nil pass0 (pa_cons (pv 0) (pa_cons (pv 2) pa_nil))))
      (pss_one (ps_if (pt_cmpR op_gt (pv 2) (pv 1) (nomark _)) (pss_one ps_never) pss_nil))), ?_⟩
    refine ⟨.int lo, rfl, .int n, rfl, lo, n, rfl, n0, ?_⟩
    exact ⟨.int n, rfl, .int hi, rfl, n, hi, rfl, rfl, _, rfl, ite2 (fun h => absurd (of_decide_eq_true h) (by omega)) (fun _ => q)⟩
theorem ok_need0 {f fA fV : Addr} {fd fdA fdV : FuncData} {tok : Tok} (D : DefAt K mg "need_length" s_need_length P_need_length f fd) (D_need_from : DefAt K mg "need_from" s_need_from P_need_from fA fdA) (D_need_within : DefAt K mg "need_within" s_need_within P_need_within fV fdV) (g_FAR : mg "FAR" = some (.int 1000000000000000000 tok)) (B : Bn mg) : FnOk P w K mg base CX0 3 f fd P_need_length spNeed0 := by
  have G_need_within : FnOk P w K mg base CX0 2 fV fdV P_need_within spWithin0 := ok_within0 D_need_within D_need_from B
  refine D.F.ok sc_need_length (fun vs H Q E h => ?_) (fun cdv A outer s H vs Q E hr h => ?_)
  · obtain ⟨n, rfl, _⟩ := h
    rfl
  · obtain ⟨n, rfl, n0, n1, q⟩ := h
    refine ⟨_, (pss_one (ps_expr (pe_call G_need_within (hr.mono (by omega)) (by rfl) D_need_within.g D_need_within.F.kp D_need_within.b .nil pass0 (pa_cons pe_int (pa_cons (pe_glob (v := .int _) (by rfl) g_FAR ⟨_, rfl⟩) (pa_cons (pv 0) pa_nil)))))), ?_⟩
    exact ⟨.int n, rfl, 0, 1000000000000000000, n, rfl, n0, n1, q⟩
theorem ok_need1 {f fM : Addr} {fd fdM : FuncData} {n : Int} (D : DefAt K mg "need_mating" s_need_mating P_need_mating f fd) (D_is_mating : DefAt K mg "is_mating" s_is_mating P_is_mating fM fdM) (n0 : 0 ≤ n) (n1 : n ≤ 1000000000000000000) (B : Bn mg) : FnOk P w K mg base CX0 2 f fd P_need_mating (spNeed1 n) := by
  have G_is_mating : FnOk P w K mg base CX0 1 fM fdM P_is_mating spIsMat := ok_is_mating D_is_mating B
  refine D.F.ok sc_need_mating (fun vs H Q E h => ?_) (fun cdv A outer s H vs Q E hr h => ?_)
  · obtain ⟨t, m, rfl, _⟩ := h
    rfl
  · obtain ⟨t, m, rfl, em, ⟨h1, h2, h3, h4, h5, h6⟩, q⟩ := h
    refine ⟨_, (pss_one (ps_if (pt_not (pt_val (pe_call G_is_mating (hr.mono (by omega)) (by rfl) D_is_mating.g D_is_mating.F.kp D_is_mating.b .nil pass0 (pa_cons (pv 0) (pa_cons (pv 1) pa_nil))))) (pss_one ps_never) pss_nil)), ?_⟩
    refine ⟨.int n, rfl, .ref t, rfl, n, t, .int m.1, .int m.2.1, .int m.2.2.1, .int m.2.2.2, rfl, by omega, em, .int (by omega), .int (by omega), .int (by omega), .int (by omega), fun H3 s3 => ?_⟩
    rw [show isMat n (.int m.1) (.int m.2.1) (.int m.2.2.1) (.int m.2.2.2) = true from decide_eq_true ⟨h1, h2, h3, h4, h5, h6⟩]
    exact ⟨true, rfl, iteF (q _ s3)⟩
theorem ok_needR {f fA fV fN fM fI : Addr} {fd fdA fdV fdN fdM fdI : FuncData} {tok1 tok2 : Tok} (D : DefAt K mg "need_road" s_need_road P_need_road f fd) (D_need_from : DefAt K mg "need_from" s_need_from P_need_from fA fdA) (D_need_within : DefAt K mg "need_within" s_need_within P_need_within fV fdV) (D_need_length : DefAt K mg "need_length" s_need_length P_need_length fN fdN) (D_need_mating : DefAt K mg "need_mating" s_need_mating P_need_mating fM fdM) (D_is_mating : DefAt K mg "is_mating" s_is_mating P_is_mating fI fdI)
    (g_FAR : mg "FAR" = some (.int 1000000000000000000 tok1)) (g_MOST : mg "MOST" = some (.int 24 tok2)) (B : Bn mg) : FnOk P w K mg base CX0 4 f fd P_need_road spNeedM := by
  have G_need_length : FnOk P w K mg base CX0 3 fN fdN P_need_length spNeed0 := ok_need0 D_need_length D_need_from D_need_within g_FAR B
  refine D.F.ok sc_need_road (fun vs H Q E h => ?_) (fun cdv A outer s H vs Q E hr h => ?_)
  · obtain ⟨n, L, ts, ms, rfl, _⟩ := h
    rfl
  · obtain ⟨n, L, ts, ms, rfl, n0, n1, hL, hM, hok, hl, q⟩ := h
    have G_need_mating : FnOk P w K mg base CX0 2 fM fdM P_need_mating (spNeed1 n) := ok_need1 D_need_mating D_is_mating n0 n1 B
    refine ⟨_, (pss_cons (ps_expr (pe_call G_need_length (hr.mono (by omega)) (by rfl) D_need_length.g D_need_length.F.kp D_need_length.b .nil pass0 (pa_cons (pv 0) pa_nil)))
      (pss_cons (ps_for PassesOwn.never rfl (pi_list (pv 1)) (pg_name (i := 2) sc_need_road.nd rfl (.inl rfl)) (pss_one (ps_expr (pe_call G_need_mating (hr.mono (by omega)) (by rfl) D_need_mating.g D_need_mating.F.kp D_need_mating.b .nil pass0 (pa_cons (pv 0) (pa_cons (pv 2) pa_nil))))))
      (pss_one (ps_if (pt_cmpR op_gt (pe_callB call_len_seq (by rfl) B.len (by decide +kernel) (pa_cons (pv 1) pa_nil)) (pe_glob (v := .int _) (by rfl) g_MOST ⟨_, rfl⟩) (nomark _)) (pss_one ps_never) pss_nil)))), ?_⟩
    refine ⟨.int n, rfl, n, rfl, n0, n1, ?_⟩
    refine ⟨.ref L, rfl, L, rfl, ⟨_, SqL.of hL⟩, for_list (K := K) (a := L) (xs := ts.map V.ref) (fun i σ H2 => ∃ y, σ = [some (.int n), some (.ref L), y] ∧ Same H H2) ⟨_, rfl, Same.refl H⟩ (fun i σ H2 _ ⟨_, _, sm⟩ => SqL.of (sm _ _ hL)) ?_ ?_⟩
    · rintro i x σ H2 hx ⟨y, rfl, sm⟩
      obtain ⟨t, ht, rfl⟩ : ∃ t, ts[i]? = some t ∧ V.ref t = x := by
        rw [List.getElem?_map] at hx
        exact Option.map_eq_some_iff.mp hx
      obtain ⟨m, hm, em⟩ := hM.at i t ht
      exact ⟨.int n, rfl, .ref t, rfl, t, m, rfl, sm _ _ em, hok m (List.mem_of_getElem? hm), fun H3 s3 => ⟨_, rfl, sm.trans s3⟩⟩
    · rintro σ H2 ⟨y, rfl, sm⟩
      have e1 := hM.length
      refine ⟨.ref L, rfl, L, _, rfl, .inl (SqL.of (sm _ _ hL)), _, _, rfl, rfl, _, rfl, ite2 (fun h => ?_) (fun _ => q H2 sm)⟩
      have h' := of_decide_eq_true h
      rw [List.length_map] at h'
      omega
end
/-! ### {k: v for i, x in enumerate(us)} -/
theorem dc_enum {K : PySem.W.Frag} {a : Addr} {us : List V} {g : TG} {tt : TT} {tk tv : TE} {vs : List Nat} {σ : L2.St} {G1 : Hp} {D : Addr} {Qd : Hp → Prop} (Iv : Nat → Hp → Prop) (h0 : Iv 0 (upd G1 D (.dK []))) (hl : ∀ j G, j ≤ us.length → Iv j G → SqL K G a us)
    (hs : ∀ j u G T, us[j]? = some u → Iv j G → G T = none → g (.ref T) (wipe σ vs) (upd G T (.tup [.int (j : Nat), u])) fun σ2 G2 => wipe σ2 vs = wipe σ vs ∧ tt σ2 G2 fun b G3 =>
      if b = true then tk σ2 G3 fun y G4 => tv σ2 G4 fun z G5 => ∃ kvs k, y = kV k ∧ G5 D = some (.dK kvs) ∧ kvs.length < sizeLine ∧ Iv (j + 1) (upd G5 D (.dK (putK kvs k z))) else Iv (j + 1) G3) (hd : ∀ G, Iv us.length G → Qd G) :
    ∃ W : Nat → Nat → Hp → Prop, (∃ c, W 0 c (upd G1 D (.dK []))) ∧ ∀ j c G, W j c G →
      ((Ite K a).stop j G ∧ Qd G) ∨ ((Ite K a).go j G ∧ ∃ Nx : Hp → Prop, (∀ G', Nx G' → ∃ c', c' < c ∧ W (j + 1) c' G') ∧ ∀ u G', (Ite K a).yld j G u G' → g u (wipe σ vs) G' fun σ2 G2 => wipe σ2 vs = wipe σ vs ∧ tt σ2 G2 fun b G3 =>
        if b = true then tk σ2 G3 fun y G4 => tv σ2 G4 fun z G5 => ∃ kvs k, y = kV k ∧ G5 D = some (.dK kvs) ∧ kvs.length < sizeLine ∧ Nx (upd G5 D (.dK (putK kvs k z))) else Nx G3) := by
  refine ⟨fun j c G => (c = us.length - j ∧ j ≤ us.length) ∧ Iv j G, ⟨us.length, ⟨by simp, Nat.zero_le _⟩, h0⟩, ?_⟩
  rintro j c G ⟨⟨rfl, hj⟩, p⟩
  have q := hl j G hj p
  rcases Nat.lt_or_ge j us.length with lt | ge
  · refine .inr ⟨⟨us, us[j], q, by simp [lt]⟩, Iv (j + 1), fun G' p' => ⟨us.length - (j + 1), by omega, ⟨rfl, lt⟩, p'⟩, ?_⟩
    rintro u G' ⟨T, z, rfl, nT, rfl, hz⟩
    exact hs j z G T (hz us q) p nT
  · obtain rfl : j = us.length := by omega
    exact .inl ⟨⟨us, q, Nat.le_refl _⟩, hd G p⟩

/-! ### put -/
def nrm (x : M4) : M4 := ((if x.2.1 < x.1 then x.2.1 else x.1), (if x.2.1 < x.1 then x.1 else x.2.1), x.2.2.1, x.2.2.2)
abbrev N_Fput : List Str := ["self", "i", "mating"]
abbrev P_Fput : List Str := ["self", "i", "mating"]
theorem sc_Fput : FnScope N_Fput P_Fput (defScope s_Fput) := ⟨rfl, rfl, rfl, by decide +kernel, rfl, by decide +kernel, by decide +kernel⟩
def spPut (C : Addr) : Sp := fun vs H Q _ => ∃ (a s q : Addr) (e i : Int) (S : StL) (ps : List V) (v : V) (y : M4), vs = [.ref a, .int i, v] ∧ FrAt C H a s q e S ps ∧ sget S i = some y ∧
  ((v = .non ∧ ∀ H', FrAt C H' a s q e (sdrop S i) ps → Off a s q H H' → Q .non H') ∨ ∃ t x, v = .ref t ∧ H t = some (t4 x) ∧ ∀ H', FrAt C H' a s q e (sput S i (nrm x)) ps → Off a s q H H' → Q .non H')
section
variable {P : Program} {w : World} {K : PySem.W.Frag} {mg : Str → Option Value} {base : Heap} {C : Addr}
theorem ok_put {f fN fB : Addr} {fd fdN fdB : FuncData} (F : Fun K "put" "Front.put" s_Fput f fd) (T : FrT K mg C) (D_normal : DefAt K mg "normal" s_normal P_normal fN fdN) (D_back : DefAt K mg "back" s_back P_back fB fdB) : FnOk P w K mg base CX0 3 f fd P_Fput (spPut C) := by
  have G_normal : FnOk P w K mg base CX0 2 fN fdN P_normal spNormal := ok_normal D_normal D_back
  refine F.ok sc_Fput (fun vs H Q E h => ?_) (fun cdv A outer s H vs Q E hr h => ?_)
  · obtain ⟨a, s, q, e, i, S, ps, v, y, rfl, _⟩ := h
    rfl
  · obtain ⟨a, s, q, e, i, S, ps, v, y, rfl, fa, hy, h⟩ := h
    have hu := hu_of hr
    refine ⟨_, (pss_one (ps_if (pt_cmpR op_isN (pv 2) pe_non (nomark _)) (pss_one (ps_ddel (pe_fld (pv 0) rfl) (pv 1))) (pss_one (ps_dput hu (pe_fld (pv 0) rfl) (pv 1) (pe_call G_normal (hr.mono (by omega)) (by rfl) D_normal.g D_normal.F.kp D_normal.b .nil pass0 (pa_cons (pv 2) pa_nil)) rfl)))), ?_⟩
    obtain ⟨dx, ea⟩ := fa.at_a
    obtain ⟨kvs, es, st⟩ := fa.at_s
    obtain ⟨u, hu2, _⟩ := (st.get i).2 y hy
    have hlen := st.length
    have hl := fa.len
    rcases h with ⟨rfl, qq⟩ | ⟨t, x, rfl, ht, qq⟩
    · refine ⟨.non, rfl, rfl, _, rfl, iteT ?_⟩
      refine ⟨.ref a, rfl, a, C, dx, _, _, rfl, ea, T.cl, T.nS, fr_standing e s q, .int i, rfl, s, kvs, Sum.inl i, rfl, es, rfl, by rw [hu2]; rfl, ?_⟩
      obtain ⟨f1, f2⟩ := fa.dict (st.drop (i := i)) (sdrop_keys fa.up) (Nat.le_trans (sdrop_length S i) hl)
      exact qq _ f1 f2
    · refine ⟨.ref t, rfl, rfl, _, rfl, iteF ?_⟩
      refine ⟨.ref t, rfl, t, x.1, x.2.1, x.2.2.1, x.2.2.2, rfl, ht, fun r H' sm hr' => ?_⟩
      have fa' := fa.same sm
      obtain ⟨kvs', es', st'⟩ := fa'.at_s
      have ek : kvs' = kvs := by
        rw [sm _ _ es] at es'
        cases es'
        rfl
      subst ek
      refine ⟨.ref a, rfl, a, C, dx, _, _, rfl, sm _ _ ea, T.cl, T.nS, fr_standing e s q, .int i, rfl, s, _, rfl, DPut.k (k := Sum.inl i) es' (sz_lt (by omega)), ?_⟩
      obtain ⟨f1, f2⟩ := fa'.dict (st'.put (x := nrm x) hy hr') (by rw [sput_keys]; exact fa'.up) (by rw [sput_length]; exact hl)
      exact qq _ f1 ((Off.of_same sm).trans f2)
end
/-! ### merge, halve -/
abbrev N_Fmerge : List Str := ["self", "i", "j", "first", "second", "mating"]
abbrev P_Fmerge : List Str := ["self", "i", "j"]
theorem sc_Fmerge : FnScope N_Fmerge P_Fmerge (defScope s_Fmerge) := ⟨rfl, rfl, rfl, by decide +kernel, rfl, by decide +kernel, by decide +kernel⟩
abbrev N_Fhalve : List Str := ["self", "i", "mating"]
abbrev P_Fhalve : List Str := ["self", "i"]
theorem sc_Fhalve : FnScope N_Fhalve P_Fhalve (defScope s_Fhalve) := ⟨rfl, rfl, rfl, by decide +kernel, rfl, by decide +kernel, by decide +kernel⟩
def mrg (x y : M4) : Option M4 := if isRep x.1 x.2.1 x.2.2.1 x.2.2.2 = true ∧ isRep y.1 y.2.1 y.2.2.1 y.2.2.2 = true ∧ x.2.1 - x.1 + (y.2.1 - y.1) ≤ shr x.1 x.2.1 x.2.2.1 y.1 y.2.1 y.2.2.1 then
  some (imin x.1 y.1, imin x.1 y.1 + (Nat.gcd (x.2.1 - x.1).toNat (y.2.1 - y.1).toNat : Nat), imax (x.2.1 + x.2.2.1) (y.2.1 + y.2.2.1) - imin x.1 y.1 - (Nat.gcd (x.2.1 - x.1).toNat (y.2.1 - y.1).toNat : Nat), 0) else none
def mergeS (S : StL) (i j : Int) : Option StL := if i = j then none else match sget S i, sget S j with
  | some x, some y => (mrg x y).map fun z => sdrop (sput S i (nrm z)) j
  | _, _ => none
def halveS (S : StL) (i : Int) : Option StL := match sget S i with
  | some x => if x.2.2.2 = 0 ∨ isLead x.1 x.2.1 x.2.2.1 x.2.2.2 = true then none else if hlf x.1 x.2.1 x.2.2.1 = 0 then some (sdrop S i) else some (sput S i (nrm (x.1, x.2.1 + x.2.2.1 - hlf x.1 x.2.1 x.2.2.1, hlf x.1 x.2.1 x.2.2.1, x.2.2.2)))
  | none => none
/-- what stands behind a move: r the new standing ones, or none where it is refused -/
def After (C : Addr) (H : Hp) (a s q : Addr) (e : Int) (S : StL) (ps : List V) (r : Option StL) (Q : VK) : Prop :=
  (r = none → ∀ H', FrAt C H' a s q e S ps → Off a s q H H' → Q (.bl false) H') ∧ ∀ S', r = some S' → ∀ H', FrAt C H' a s q e S' ps → Off a s q H H' → Q (.bl true) H'
def spMerge (C : Addr) : Sp := fun vs H Q _ => ∃ (a s q : Addr) (e i j : Int) (S : StL) (ps : List V), vs = [.ref a, .int i, .int j] ∧ FrAt C H a s q e S ps ∧ After C H a s q e S ps (mergeS S i j) Q
def spHalve (C : Addr) : Sp := fun vs H Q _ => ∃ (a s q : Addr) (e i : Int) (S : StL) (ps : List V), vs = [.ref a, .int i] ∧ FrAt C H a s q e S ps ∧ After C H a s q e S ps (halveS S i) Q
section
variable {P : Program} {w : World} {K : PySem.W.Frag} {mg : Str → Option Value} {base : Heap} {C : Addr}
theorem put_no {m : Str} {e : Int} {s q : Addr} (h1 : (m == "edge") = false := by decide +kernel) (h2 : (m == "standing") = false := by decide +kernel) (h3 : (m == "past") = false := by decide +kernel) : (fr e s q).lookup m = none :=
  fr_no (fun z => by rw [z] at h1; simp at h1) (fun z => by rw [z] at h2; simp at h2) (fun z => by rw [z] at h3; simp at h3)
/-- self.standing.get(i) -/
theorem get_at {H : Hp} {a s q : Addr} {e i : Int} {S : StL} {ps : List V} (fa : FrAt C H a s q e S ps) : ∃ o, DGet H s (.int i) o ∧ (sget S i = none → o = none) ∧ ∀ x, sget S i = some x → ∃ t, o = some (.ref t) ∧ H t = some (t4 x) := by
  obtain ⟨kvs, es, st⟩ := fa.at_s
  exact ⟨_, DGet.k (k := Sum.inl i) es, (st.get i).1, (st.get i).2⟩
theorem isD_of {H : Hp} {a s q : Addr} {e : Int} {S : StL} {ps : List V} (fa : FrAt C H a s q e S ps) : IsD H s := by
  obtain ⟨kvs, es, st⟩ := fa.at_s
  exact .inl ⟨kvs, .inl es⟩
theorem ok_halve {f fP fH fL fS : Addr} {fd fdP fdH fdL fdS : FuncData} (F : Fun K "halve" "Front.halve" s_Fhalve f fd) (T : FrT K mg C) (M_put : Meth K C "put" fP) (G_put : FnOk P w K mg base CX0 3 fP fdP P_Fput (spPut C)) (b_put : Binds K fdP P_Fput [])
    (D_halved : DefAt K mg "halved" s_halved P_halved fH fdH) (D_is_leader : DefAt K mg "is_leader" s_is_leader P_is_leader fL fdL) (D_step_of : DefAt K mg "step_of" s_step_of P_step_of fS fdS) : FnOk P w K mg base CX0 4 f fd P_Fhalve (spHalve C) := by
  have G_halved : FnOk P w K mg base CX0 1 fH fdH P_halved spHalved := ok_halved D_halved
  have G_is_leader : FnOk P w K mg base CX0 2 fL fdL P_is_leader spLead := ok_lead D_is_leader D_step_of
  refine F.ok sc_Fhalve (fun vs H Q E h => ?_) (fun cdv A outer s H vs Q E hr h => ?_)
  · obtain ⟨a, s, q, e, i, S, ps, rfl, _⟩ := h
    rfl
  · obtain ⟨a, s, q, e, i, S, ps, rfl, fa, h1, h2⟩ := h
    have hu := hu_of hr
    refine ⟨_, (pss_cons (ps_set (i := 2) sc_Fhalve.nd rfl (.inl rfl) (pe_dget1 hu (pe_fld (pv 0) rfl) (pv 1) ⟨rfl, rfl, rfl, rfl⟩))
      (pss_cons (ps_if (PW.pt (pw_or (pt_cmpR op_isN (pv 2) pe_non (nomark _)) (pw_or (pt_cmpR op_eq (pe_ix ix_tup (pv 2) pe_int (fun _ _ => rfl)) pe_int (nomark _)) (pw_or1 (pt_val (pe_call G_is_leader (hr.mono (by omega)) (by rfl) D_is_leader.g D_is_leader.F.kp D_is_leader.b .nil pass0 (pa_cons (pv 2) pa_nil))))))) (pss_one (ps_ret pe_bl)) pss_nil)
      (pss_cons (ps_expr (pe_meth (pv 0) T.cl M_put G_put (hr.mono (by omega)) b_put .nil pass0 (pa_cons (pv 1) (pa_cons (pe_call G_halved (hr.mono (by omega)) (by rfl) D_halved.g D_halved.F.kp D_halved.b .nil pass0 (pa_cons (pv 2) pa_nil)) pa_nil))))
      (pss_one (ps_ret pe_bl))))), ?_⟩
    obtain ⟨dx, ea⟩ := fa.at_a
    obtain ⟨o, g, g1, g2⟩ := get_at (i := i) fa
    refine ⟨.ref a, rfl, a, C, dx, _, _, rfl, ea, T.cl, T.nS, fr_standing e s q, s, rfl, isD_of fa, .int i, rfl, o, g, ?_⟩
    unfold halveS at h1 h2
    cases hx : sget S i with
    | none =>
      rw [hx] at h1
      rw [g1 hx]
      exact ⟨.non, rfl, rfl, _, rfl, iteT (h1 rfl H fa (Off.of_same (Same.refl H)))⟩
    | some x =>
      rw [hx] at h1 h2
      obtain ⟨t, rfl, ht⟩ := g2 x hx
      refine ⟨.ref t, rfl, rfl, _, rfl, iteF ?_⟩
      refine ⟨.ref t, rfl, t, _, 3, .int x.2.2.2, rfl, rfl, SqT.of ht, at4_3, rfl, _, rfl, ?_⟩
      refine ite2 (fun h0 => ?_) (fun h0 => ?_)
      · have h0' : x.2.2.2 = 0 := V.int.inj (of_decide_eq_true h0)
        exact h1 (if_pos (.inl h0')) H fa (Off.of_same (Same.refl H))
      · have h0' : ¬ x.2.2.2 = 0 := fun z => h0 (decide_eq_true (congrArg V.int z))
        refine ⟨.ref t, rfl, t, x.1, x.2.1, x.2.2.1, x.2.2.2, rfl, ht, _, rfl, ?_⟩
        refine ite2 (fun h3 => ?_) (fun h3 => ?_)
        · exact h1 (if_pos (.inr h3)) H fa (Off.of_same (Same.refl H))
        · have hn : ¬ (x.2.2.2 = 0 ∨ isLead x.1 x.2.1 x.2.2.1 x.2.2.2 = true) := fun z => z.elim h0' h3
          simp only [if_neg hn] at h2
          refine ⟨.ref a, rfl, a, dx, _, rfl, ea, put_no, .int i, rfl, .ref t, rfl, t, x.1, x.2.1, x.2.2.1, x.2.2.2, rfl, ht, fun hz => ?_, fun hz r nr => ?_⟩
          · rw [if_pos hz] at h2
            exact ⟨a, s, q, e, i, S, ps, .non, x, rfl, fa, hx, .inl ⟨rfl, fun H' f1 f2 => h2 _ rfl H' f1 f2⟩⟩
          · rw [if_neg hz] at h2
            exact ⟨a, s, q, e, i, S, ps, .ref r, x, rfl, fa.same (same_upd nr), hx, .inr ⟨r, (x.1, x.2.1 + x.2.2.1 - hlf x.1 x.2.1 x.2.2.1, hlf x.1 x.2.1 x.2.2.1, x.2.2.2), rfl, upd_same, fun H' f1 f2 => h2 _ rfl H' f1 ((Off.of_same (same_upd nr)).trans f2)⟩⟩
theorem ok_merge {f fP fM fS fE fR fC : Addr} {fd fdP fdM fdS fdE fdR fdC : FuncData} (F : Fun K "merge" "Front.merge" s_Fmerge f fd) (T : FrT K mg C) (M_put : Meth K C "put" fP) (G_put : FnOk P w K mg base CX0 3 fP fdP P_Fput (spPut C)) (b_put : Binds K fdP P_Fput [])
    (D_merged : DefAt K mg "merged" s_merged P_merged fM fdM) (D_step_of : DefAt K mg "step_of" s_step_of P_step_of fS fdS) (D_end_of : DefAt K mg "end_of" s_end_of P_end_of fE fdE) (D_is_repeat : DefAt K mg "is_repeat" s_is_repeat P_is_repeat fR fdR)
    (D_common : DefAt K mg "common" s_common P_common fC fdC) (B : Bn mg) : FnOk P w K mg base CX0 4 f fd P_Fmerge (spMerge C) := by
  have G_merged : FnOk P w K mg base CX0 3 fM fdM P_merged spMerged := ok_merged D_merged D_step_of D_end_of D_is_repeat D_common B
  refine F.ok sc_Fmerge (fun vs H Q E h => ?_) (fun cdv A outer s H vs Q E hr h => ?_)
  · obtain ⟨a, s, q, e, i, j, S, ps, rfl, _⟩ := h
    rfl
  · obtain ⟨a, s, q, e, i, j, S, ps, rfl, fa, h1, h2⟩ := h
    have hu := hu_of hr
    refine ⟨_, (pss_cons (ps_set (i := 3) sc_Fmerge.nd rfl (.inl rfl) (pe_dget1 hu (pe_fld (pv 0) rfl) (pv 1) ⟨rfl, rfl, rfl, rfl⟩))
      (pss_cons (ps_set (i := 4) sc_Fmerge.nd rfl (.inl rfl) (pe_dget1 hu (pe_fld (pv 0) rfl) (pv 2) ⟨rfl, rfl, rfl, rfl⟩))
      (pss_cons (ps_if (PW.pt (pw_or (pt_cmpR op_eq (pv 1) (pv 2) (nomark _)) (pw_or (pt_cmpR op_isN (pv 3) pe_non (nomark _)) (pw_or1 (pt_cmpR op_isN (pv 4) pe_non (nomark _)))))) (pss_one (ps_ret pe_bl)) pss_nil)
      (pss_cons (ps_set (i := 5) sc_Fmerge.nd rfl (.inl rfl) (pe_call G_merged (hr.mono (by omega)) (by rfl) D_merged.g D_merged.F.kp D_merged.b .nil pass0 (pa_cons (pv 3) (pa_cons (pv 4) pa_nil))))
      (pss_cons (ps_if (pt_cmpR op_isN (pv 5) pe_non (nomark _)) (pss_one (ps_ret pe_bl)) pss_nil)
      (pss_cons (ps_expr (pe_meth (pv 0) T.cl M_put G_put (hr.mono (by omega)) b_put .nil pass0 (pa_cons (pv 1) (pa_cons (pv 5) pa_nil))))
      (pss_cons (ps_expr (pe_meth (pv 0) T.cl M_put G_put (hr.mono (by omega)) b_put .nil pass0 (pa_cons (pv 2) (pa_cons pe_non pa_nil))))
      (pss_one (ps_ret pe_bl))))))))), ?_⟩
    obtain ⟨dx, ea⟩ := fa.at_a
    obtain ⟨o, g, g1, g2⟩ := get_at (i := i) fa
    obtain ⟨o', g', g1', g2'⟩ := get_at (i := j) fa
    have no : ∀ r, r = false → mergeS S i j = none → Q (.bl r) H := fun r e1 e2 => by
      rw [e1]
      exact h1 e2 H fa (Off.of_same (Same.refl H))
    refine ⟨.ref a, rfl, a, C, dx, _, _, rfl, ea, T.cl, T.nS, fr_standing e s q, s, rfl, isD_of fa, .int i, rfl, o, g, ?_⟩
    refine ⟨.ref a, rfl, a, C, dx, _, _, rfl, ea, T.cl, T.nS, fr_standing e s q, s, rfl, isD_of fa, .int j, rfl, o', g', ?_⟩
    refine ⟨.int i, rfl, .int j, rfl, rfl, _, rfl, ?_⟩
    refine ite2 (fun h => ?_) (fun h => ?_)
    · have h' : i = j := V.int.inj (of_decide_eq_true h)
      exact no _ rfl (by unfold mergeS; rw [if_pos h'])
    · have h' : ¬ i = j := fun z => h (decide_eq_true (congrArg V.int z))
      have em : mergeS S i j = match sget S i, sget S j with | some x, some y => (mrg x y).map fun z => sdrop (sput S i (nrm z)) j | _, _ => none := by
        unfold mergeS
        rw [if_neg h']
      cases hx : sget S i with
      | none =>
        rw [hx] at em
        rw [g1 hx]
        exact ⟨.non, rfl, rfl, _, rfl, iteT (no _ rfl em)⟩
      | some x =>
        obtain ⟨t, rfl, ht⟩ := g2 x hx
        refine ⟨.ref t, rfl, rfl, _, rfl, iteF ?_⟩
        cases hy : sget S j with
        | none =>
          rw [hx, hy] at em
          rw [g1' hy]
          exact ⟨.non, rfl, rfl, _, rfl, iteT (no _ rfl em)⟩
        | some y =>
          rw [hx, hy] at em
          obtain ⟨t', rfl, ht'⟩ := g2' y hy
          refine ⟨.ref t', rfl, rfl, _, rfl, iteF ?_⟩
          refine ⟨.ref t, rfl, .ref t', rfl, t, t', x.1, x.2.1, x.2.2.1, x.2.2.2, y.1, y.2.1, y.2.2.1, y.2.2.2, rfl, ht, ht', fun hn => ?_, fun r1 r2 r3 r nr => ?_⟩
          · refine ⟨.non, rfl, rfl, _, rfl, iteT (no _ rfl ?_)⟩
            rw [em]
            show (mrg x y).map _ = none
            unfold mrg
            rw [if_neg hn]
            rfl
          · refine ⟨.ref r, rfl, rfl, _, rfl, iteF ?_⟩
            have emr : mrg x y = some _ := if_pos ⟨r1, r2, r3⟩
            have em2 : mergeS S i j = (mrg x y).map (fun z => sdrop (sput S i (nrm z)) j) := em
            rw [emr] at em2
            have sm := same_upd (H := H) (o := t4 (imin x.1 y.1, imin x.1 y.1 + (Nat.gcd (x.2.1 - x.1).toNat (y.2.1 - y.1).toNat : Nat), imax (x.2.1 + x.2.2.1) (y.2.1 + y.2.2.1) - imin x.1 y.1 - (Nat.gcd (x.2.1 - x.1).toNat (y.2.1 - y.1).toNat : Nat), 0)) nr
            refine ⟨.ref a, rfl, a, dx, _, rfl, sm _ _ ea, put_no, .int i, rfl, .ref r, rfl, a, s, q, e, i, S, ps, .ref r, x, rfl, fa.same sm, hx, .inr ⟨r, (imin x.1 y.1, imin x.1 y.1 + (Nat.gcd (x.2.1 - x.1).toNat (y.2.1 - y.1).toNat : Nat), imax (x.2.1 + x.2.2.1) (y.2.1 + y.2.2.1) - imin x.1 y.1 - (Nat.gcd (x.2.1 - x.1).toNat (y.2.1 - y.1).toNat : Nat), 0), rfl, upd_same, fun H2 f1 o1 => ?_⟩⟩
            obtain ⟨dx2, ea2⟩ := f1.at_a
            refine ⟨.ref a, rfl, a, dx2, _, rfl, ea2, put_no, .int j, rfl, a, s, q, e, j, _, ps, .non, y, rfl, f1, by rw [sget_put_ne h']; exact hy, .inl ⟨rfl, fun H3 f2 o2 => ?_⟩⟩
            exact h2 _ em2 H3 f2 (((Off.of_same sm).trans o1).trans o2)
end

/-! ### left -/
/-- pairs of a number and a mating -/
def LsR (H : Hp) (u : Addr) (s : Int × M4) : Prop := ∃ t, H u = some (.tup [.int s.1, .ref t]) ∧ H t = some (t4 s.2)
def Ls (H : Hp) (us : List Addr) (S : StL) : Prop := Paired (LsR H) us S
theorem Ls.snoc {H : Hp} {u : Addr} {s : Int × M4} (hs : LsR H u s) : ∀ {us : List Addr} {S : StL}, Ls H us S → Ls H (us ++ [u]) (S ++ [s])
  | _, _, .nil => .cons hs .nil
  | _, _, .cons h r => .cons h (Ls.snoc hs r)
theorem Ls.keep {H H' : Hp} (k : KeepT H H') : ∀ {us : List Addr} {S : StL}, Ls H us S → Ls H' us S
  | _, _, .nil => .nil
  | _, _, .cons h r => .cons (h.elim fun t e => ⟨t, k _ _ e.1, k _ _ e.2⟩) (Ls.keep k r)
theorem Ls.length {H : Hp} : ∀ {us : List Addr} {S : StL}, Ls H us S → us.length = S.length
  | _, _, .nil => rfl
  | _, _, .cons h r => congrArg (· + 1) (Ls.length r)
theorem sget_mem : ∀ {S : StL} {s : Int × M4}, (S.map (·.1)).Pairwise (· < ·) → s ∈ S → sget S s.1 = some s.2
  | x :: r, s, h, hm => by
    rcases List.mem_cons.mp hm with rfl | hm
    · exact if_pos rfl
    · have h' := List.pairwise_cons.mp h
      have lt : x.1 < s.1 := h'.1 s.1 (List.mem_map.mpr ⟨s, hm, rfl⟩)
      show (if x.1 = s.1 then some x.2 else sget r s.1) = some s.2
      rw [if_neg (by omega)]
      exact sget_mem h'.2 hm
section
variable {P : Program} {w : World} {K : PySem.W.Frag} {mg : Str → Option Value} {base : Heap} {C : Addr}
end
/-! ### __init__ -/
abbrev N_Finit : List Str := ["self", "length", "matings", "i", "mating"]
abbrev P_Finit : List Str := ["self", "length", "matings"]
theorem sc_Finit : FnScope N_Finit P_Finit (defScope s_Finit) := ⟨rfl, rfl, rfl, by decide +kernel, rfl, by decide +kernel, by decide +kernel⟩
def en : Nat → List M4 → StL
  | _, [] => []
  | i, x :: r => (((i : Nat) : Int), nrm x) :: en (i + 1) r
theorem en_snoc (x : M4) : ∀ (k : Nat) (l : List M4), en k (l ++ [x]) = en k l ++ [(((k + l.length : Nat) : Int), nrm x)]
  | _, [] => rfl
  | k, y :: r => by
    show (((k : Nat) : Int), nrm y) :: en (k + 1) (r ++ [x]) = (((k : Nat) : Int), nrm y) :: (en (k + 1) r ++ [(((k + (r.length + 1) : Nat) : Int), nrm x)])
    rw [en_snoc x (k + 1) r, show k + 1 + r.length = k + (r.length + 1) by omega]
theorem en_length : ∀ (k : Nat) (l : List M4), (en k l).length = l.length
  | _, [] => rfl
  | k, y :: r => congrArg (· + 1) (en_length (k + 1) r)
theorem en_ge : ∀ (k : Nat) (l : List M4) (s : Int × M4), s ∈ en k l → (k : Int) ≤ s.1 ∧ s.1 < ((k + l.length : Nat) : Int)
  | k, y :: r, s, h => by
    rcases List.mem_cons.mp h with rfl | h
    · simp only [List.length_cons]
      omega
    · have := en_ge (k + 1) r s h
      simp only [List.length_cons]
      omega
theorem en_up : ∀ (k : Nat) (l : List M4), ((en k l).map (·.1)).Pairwise (· < ·)
  | _, [] => List.Pairwise.nil
  | k, y :: r => by
    refine List.pairwise_cons.mpr ⟨fun z hz => ?_, en_up (k + 1) r⟩
    obtain ⟨s, hs, rfl⟩ := List.mem_map.mp hz
    have := en_ge (k + 1) r s hs
    show (k : Int) < s.1
    omega
theorem en_none {k : Nat} {l : List M4} {i : Int} (h : i < (k : Int) ∨ ((k + l.length : Nat) : Int) ≤ i) : sget (en k l) i = none := by
  have key : ∀ {S : StL}, (∀ s ∈ S, s.1 ≠ i) → sget S i = none := by
    intro S
    induction S with
    | nil => exact fun _ => rfl
    | cons s r ih =>
      intro hh
      show (if s.1 = i then some s.2 else sget r i) = none
      rw [if_neg (hh s List.mem_cons_self)]
      exact ih fun z hz => hh z (List.mem_cons_of_mem _ hz)
  refine key fun s hs => ?_
  have := en_ge k l s hs
  omega
def spFinit (K : PySem.W.Frag) (C : Addr) : Sp := fun vs H Q _ => ∃ (x dx L : Addr) (n : Int) (ts : List Addr) (ms : List M4), vs = [.ref x, .int n, .ref L] ∧ H x = some (.ins C dx []) ∧ 0 ≤ n ∧ n ≤ 1000000000000000000 ∧ H L = some (.lst (ts.map V.ref)) ∧ Mts H ts ms ∧ (∀ y ∈ ms, Mok n y) ∧ ms.length ≤ 24 ∧
  ∀ (H' : Hp) (s q : Addr), FrAt C H' x s q n (en 0 ms) [] → H s = none → H q = none → (∀ b o, H b = some o → b ≠ x → H' b = some o) → Q .non H'
section
variable {P : Program} {w : World} {K : PySem.W.Frag} {mg : Str → Option Value} {base : Heap} {C : Addr}
theorem ok_Finit {f fA fV fR fN fM fI fO fB : Addr} {fd fdA fdV fdR fdN fdM fdI fdO fdB : FuncData} {tok1 tok2 : Tok} (F : Fun K "__init__" "Front.__init__" s_Finit f fd) (T : FrT K mg C) (D_need_road : DefAt K mg "need_road" s_need_road P_need_road fR fdR) (D_need_from : DefAt K mg "need_from" s_need_from P_need_from fA fdA) (D_need_within : DefAt K mg "need_within" s_need_within P_need_within fV fdV) (D_need_length : DefAt K mg "need_length" s_need_length P_need_length fN fdN) (D_need_mating : DefAt K mg "need_mating" s_need_mating P_need_mating fM fdM)
    (D_is_mating : DefAt K mg "is_mating" s_is_mating P_is_mating fI fdI) (D_normal : DefAt K mg "normal" s_normal P_normal fO fdO) (D_back : DefAt K mg "back" s_back P_back fB fdB) (g_FAR : mg "FAR" = some (.int 1000000000000000000 tok1)) (g_MOST : mg "MOST" = some (.int 24 tok2)) (zE : mg "enumerate" = none) (B : Bn mg) :
    FnOk P w K mg base CX0 5 f fd P_Finit (spFinit K C) := by
  have G_need_road : FnOk P w K mg base CX0 4 fR fdR P_need_road spNeedM := ok_needR D_need_road D_need_from D_need_within D_need_length D_need_mating D_is_mating g_FAR g_MOST B
  have G_normal : FnOk P w K mg base CX0 2 fO fdO P_normal spNormal := ok_normal D_normal D_back
  refine F.ok sc_Finit (fun vs H Q E h => ?_) (fun cdv A outer s H vs Q E hr h => ?_)
  · obtain ⟨x, dx, L, n, ts, ms, rfl, _⟩ := h
    rfl
  · obtain ⟨x, dx, L, n, ts, ms, rfl, hx, n0, n1, hL, hM, hok, hl, qq⟩ := h
    refine ⟨_, (pss_cons (ps_expr (pe_call G_need_road (hr.mono (by omega)) (by rfl) D_need_road.g D_need_road.F.kp D_need_road.b .nil pass0 (pa_cons (pv 1) (pa_cons (pv 2) pa_nil))))
      (pss_cons (ps_fld (pv 0) (pv 1) rfl)
      (pss_cons (ps_fld (pv 0) (pe_dc (own := [("i", 3), ("mating", 4)]) (g := gTup K 2 (gCons (gName 3) (gCons (gName 4) gNil))) (by rfl) sc_Finit.nd (pi_enum (by rfl) zE (pa_cons (pv 2) pa_nil)) (blkOk_by (own := [("i", 3), ("mating", 4)]) (N := N_Finit) (sc := defScope s_Finit) (by decide +kernel)) (fun _ _ _ _ _ => (pg_tup (by rfl) (pgs_cons (pg_name (i := 3) sc_Finit.nd rfl (.inl rfl)) (pgs_cons (pg_name (i := 4) sc_Finit.nd rfl (.inl rfl)) pgs_nil)))) (fun _ _ _ _ _ => pts_nil) (fun _ _ _ _ _ => (pv 3)) (fun _ _ _ _ _ => (pe_call G_normal (hr.mono (by omega)) (by rfl) D_normal.g D_normal.F.kp D_normal.b .nil pass0 (pa_cons (pv 4) pa_nil)))) rfl)
      (pss_one (ps_fld (pv 0) (pe_lst pa_nil) rfl))))), ?_⟩
    refine ⟨.int n, rfl, .ref L, rfl, n, L, ts, ms, rfl, n0, n1, hL, hM, hok, hl, fun H1 s1 => ?_⟩
    -- edge
    refine ⟨.int n, rfl, .ref x, rfl, x, C, dx, [], rfl, s1 _ _ hx, T.cl, T.nE, by show 0 < 1000; decide, ?_⟩
    have off2 : ∀ b o, H b = some o → b ≠ x → (upd H1 x (.ins C dx (putF "edge" (.int n) []))) b = some o := fun b o hb nb => by
      rw [upd_ne nb]
      exact s1 _ _ hb
    have free2 : ∀ b, (upd H1 x (.ins C dx (putF "edge" (.int n) []))) b = none → H b = none := fun b hb => by
      have nb : b ≠ x := fun z => by
        rw [z, upd_same] at hb
        cases hb
      rw [upd_ne nb] at hb
      exact s1.free hb
    have x2 : (upd H1 x (.ins C dx (putF "edge" (.int n) []))) x = some (.ins C dx (putF "edge" (.int n) [])) := upd_same
    generalize upd H1 x (.ins C dx (putF "edge" (.int n) [])) = H2 at off2 free2 x2
    have nLx : L ≠ x := ne_of hL hx (fun z => by cases z)
    have L2 := off2 _ _ hL nLx
    -- standing
    refine ⟨.ref L, rfl, L, ts.map V.ref, rfl, SqL.of L2, fun D nD => dc_enum (K := K) (a := L) (us := ts.map V.ref) (fun i H3 => ∃ kvs, Same H2 H3 ∧ H3 D = some (.dK kvs) ∧ Std H3 kvs (en 0 (ms.take i)))
      ⟨[], same_upd nD, upd_same, .nil⟩ (fun i H3 _ ⟨_, sm, _⟩ => SqL.of (sm _ _ L2)) ?_ ?_⟩
    · rintro i v H3 Tn hv ⟨kvs, sm, eD, st⟩ nT
      rw [List.getElem?_map] at hv
      obtain ⟨t, ht, rfl⟩ := Option.map_eq_some_iff.mp hv
      obtain ⟨m, hm, em⟩ := hM.at i t ht
      have ntx : t ≠ x := ne_of em hx (fun z => by cases z)
      have sT := same_upd (H := H3) (o := .tup [.int (i : Nat), .ref t]) nT
      have e3 : H3 t = some (t4 m) := sm _ _ (off2 _ _ em ntx)
      have hi : i < ms.length := (List.getElem?_eq_some_iff.mp hm).1
      have sl := st.length
      rw [en_length, List.length_take] at sl
      refine ⟨Tn, _, rfl, SqT.of upd_same, rfl, .int (i : Nat), _, rfl, .ref t, _, rfl, rfl, rfl, .int (i : Nat), rfl, ?_⟩
      refine ⟨.ref t, rfl, t, m.1, m.2.1, m.2.2.1, m.2.2.2, rfl, sT _ _ e3, fun r H4 s4 e4 => ?_⟩
      have sm4 : Same H3 H4 := sT.trans s4
      refine ⟨kvs, Sum.inl ((i : Nat) : Int), rfl, sm4 _ _ eD, sz_lt (by omega), putK kvs (Sum.inl ((i : Nat) : Int)) (.ref r), fun b o hb => ?_, upd_same, ?_⟩
      · rw [upd_ne (ne_of_none hb nD)]
        exact sm4 _ _ (sm _ _ hb)
      · have hno : valV kvs (Sum.inl ((i : Nat) : Int)) = none := (st.get _).1 (en_none (.inr (by rw [List.length_take]; omega)))
        rw [putK_new _ hno, List.take_add_one, hm, show (some m).toList = [m] from rfl, en_snoc]
        have kt : KeepT H4 (upd H4 D (.dK (kvs ++ [(Sum.inl ((i : Nat) : Int), .ref r)]))) := fun b xs hb => by
          rw [upd_ne (ne_of hb (sm4 _ _ eD) (fun z => by cases z))]
          exact hb
        refine Std.snoc (s := (((0 + (ms.take i).length : Nat) : Int), nrm m)) ⟨?_, r, rfl, kt _ _ e4⟩ (st.keep fun b xs hb => kt _ _ (sm4 _ _ hb))
        show Sum.inl ((i : Nat) : Int) = Sum.inl (((0 + (ms.take i).length : Nat) : Int))
        rw [List.length_take, Nat.min_eq_left (by omega), Nat.zero_add]
    · rintro H3 ⟨kvs, sm, eD, st⟩
      have e1 := hM.length
      rw [List.length_map, e1, List.take_length] at st
      refine ⟨.ref x, rfl, x, C, dx, _, rfl, sm _ _ x2, T.cl, T.nS, by show 1 < 1000; decide, ?_⟩
      have nDx : D ≠ x := (ne_of_none x2 nD).symm
      -- past
      refine ⟨Nat.zero_le _, fun q nq => ?_⟩
      have nqx : q ≠ x := fun z => by
        rw [z, upd_same] at nq
        cases nq
      have nqD : q ≠ D := fun z => by
        rw [z, upd_ne nDx, eD] at nq
        cases nq
      have nq3 : H3 q = none := by
        rw [upd_ne nqx] at nq
        exact nq
      refine ⟨.ref x, rfl, x, C, dx, _, rfl, by rw [upd_ne nqx.symm]; exact upd_same, T.cl, T.nP, ?_, ?_⟩
      · show 2 < 1000
        decide
      rw [show putF ("past" : Str) (V.ref q) (putF ("standing" : Str) (V.ref D) (putF ("edge" : Str) (V.int n) [])) = fr n D q from fr_make n D q]
      refine qq _ D q ⟨⟨dx, upd_same⟩, ⟨kvs, ?_, st.keep fun b xs hb => ?_⟩, ?_, en_up 0 ms, by rw [en_length]; omega⟩ (free2 _ nD) (free2 _ (sm.free nq3)) fun b o hb nb => ?_
      · rw [upd_ne nDx, upd_ne nqD.symm, upd_ne nDx]
        exact eD
      · have nbx : b ≠ x := ne_of hb (sm _ _ x2) (fun z => by cases z)
        rw [upd_ne nbx, upd_ne (ne_of_none hb nq3), upd_ne nbx]
        exact hb
      · rw [upd_ne nqx]
        exact upd_same
      · have hb3 := sm _ _ (off2 _ _ hb nb)
        rw [upd_ne nb, upd_ne (ne_of_none hb3 nq3), upd_ne nb]
        exact hb3
end

/-! ### sorted(d.items()) of a dict with rising int keys whose values are objects -/
namespace SIt
open PySem PySem.W PySem.Calls PyProof.Rows PyProof.V PySem.Spec
section
variable {prog : Program} {w : World} {A : Around} {E : Value → Shared → Prop} {s : Shared}
/-- the tuple (k, the object at u) -/
def PairK (h : Heap) (v : Value) (k : Int) (u : Addr) : Prop := ∃ (a : Addr) (t : Tok), v = .ref a ∧ IsTup h a #[.int k t, .ref u]
def intOf : Option Value → Int
  | some (.int x _) => x
  | _ => 0
def keyI (h : Heap) (v : Value) : Int := intOf (DT.seqAt0 h (DT.refOf (some v)))
theorem PairK.key {h : Heap} {v : Value} {k : Int} {u : Addr} (x : PairK h v k u) : keyI h v = k := by
  obtain ⟨a, t, rfl, h1⟩ := x
  show intOf (DT.seqAt0 h a) = k
  rw [DT.seqAt0_of h1]
  rfl
end
end SIt
section
open PySem PySem.Spec PyProof.Rows
variable {X : Cx}
end

/-! ### max(xs, default=d), xs a list of ints -/
section
open PySem.Spec PyProof.Rows
variable {prog : Program} {w : World} {A : Around} {E : Value → Shared → Prop} {s : Shared} {l : Addr}
theorem old_of_push {ob : Obj} {g : Heap} (hk : ∀ b o, b ∉ [s.heap.objs.size] → (s.heap.push ob).get? b = some o → g.get? b = some o) {b : Addr} {o : Obj} (e : s.heap.get? b = some o) : g.get? b = some o :=
  hk b o (fun z => Nat.lt_irrefl _ ((List.mem_singleton.mp z) ▸ Heap.lt_size e)) (Heap.get?_push_of_some _ e)
theorem max_dflt {its : List Value} {ns : List Int} {d : Value} {Q : Value → Shared → Prop} (hh : A.handled = none) (hl : s.heap.IsList l its.toArray) (hi : IntsAre its ns)
    (h0 : ns = [] → ∀ g tk, (∀ b o, s.heap.get? b = some o → g.get? b = some o) → Q d { s with heap := g, toks := tk })
    (h1 : ∀ g tk M t, (∀ b o, s.heap.get? b = some o → g.get? b = some o) → M ∈ ns → (∀ a, a ∈ ns → a ≤ M) → Q (.int M t) { s with heap := g, toks := tk }) :
    wpAny (model prog w) A (call (.builtin "max") [.ref l] [(Str.ofString "default", d)]) Q E s := by
  obtain ⟨xs, e⟩ := hi.allInts.items
  have hn : numsOf (intItems xs).toList = ns := by
    rw [← e]
    exact hi.numsOf
  rw [nums_intItems] at hn
  subst hn
  rw [e] at hl
  refine PySem.call_max_walkD (iter_any hl fun s2 e2 st hne => ?_)
  subst e2
  have hlt : l < s.heap.objs.size := by
    obtain ⟨_, q, _⟩ := hl
    exact Heap.lt_size q
  have hz : (intItems xs).size = xs.size := by simp [intItems]
  refine ⟨_, _, _, _, _, _, _, ⟨#[], {}⟩, fun i j => decide (numAt xs i > numAt xs j), rfl, (Walks.list (A := A.in1) hh _ l hne (intItems xs)).toS, st, fun b hb => ?_, fun b o q => by simp [Heap.get?] at q, fun b o q => by simp [Heap.get?] at q, fun hn s' mv => ?_, fun hn => ⟨fun i j vi vj s0 Q' E' _ pi pj q => ?_, fun v s' pv mv => ?_⟩⟩
  · rw [Heap.size_push]
    rcases List.mem_cons.mp hb with rfl | hb
    · exact Nat.lt_succ_self _
    · rcases List.mem_cons.mp hb with rfl | hb
      · exact Nat.lt_succ_of_lt hlt
      · cases hb
  · have hx : xs.toList.map (·.1) = [] := by
      rw [hz] at hn
      rw [List.map_eq_nil_iff, ← List.length_eq_zero_iff, Array.length_toList]
      exact hn
    obtain ⟨hp, hg, hd, ht, ho⟩ := s'
    obtain ⟨m1, m2, m3, m4, m5⟩ := mv
    simp only at m2 m3 m4
    subst m2 m3 m4
    exact h0 hx hp ht fun b o q => old_of_push m1 q
  · exact CmpOf.ints_gt (numAt xs) (fun _ _ => intItems_at) i j vi vj s0 Q' E' pi pj q
  · obtain ⟨t, rfl⟩ := intItems_at pv
    rw [hz] at hn
    obtain ⟨a1, a2⟩ := argBest_gt (numAt xs) (xs.size - 1)
    obtain ⟨hp, hg, hd, ht, ho⟩ := s'
    obtain ⟨m1, m2, m3, m4, m5⟩ := mv
    simp only at m2 m3 m4
    subst m2 m3 m4
    rw [hz]
    refine h1 hp ht _ t (fun b o q => old_of_push m1 q) ?_ fun a ha => ?_
    · rw [numAt_eq]
      exact PySem.getD_mem (by rw [List.length_map, Array.length_toList]; omega)
    · obtain ⟨j, hj, rfl⟩ := mem_getD ha
      rw [List.length_map, Array.length_toList] at hj
      rw [← numAt_eq]
      exact a2 j (by omega)
end
def rMaxDf (K : PySem.W.Frag) : List V → List V → Hp → VK → Prop := fun vs zs H Q => ∃ (a : Addr) (ns : List Int) (d : V), vs = [.ref a] ∧ zs = [d] ∧ SqL K H a (ns.map V.int) ∧ (ns = [] → Q d H) ∧ ∀ m, m ∈ ns → (∀ y, y ∈ ns → y ≤ m) → Q (.int m) H
theorem cr_maxDf {X : Cx} (hc : X.calm = true) : CallRK X (.builtin "max") ["default"] (rMaxDf X.K) := by
  intro pins s σ H vs zs us ws Q I r1 r2 h
  obtain ⟨a, ns, d, rfl, rfl, hs, q0, q1⟩ := h
  obtain ⟨its, rv, hl, _⟩ := I.list hs
  rw [Vals.ref1 r1]
  cases r2 with
  | cons rd rn =>
    cases rn
    exact max_dflt (I.ok.hd hc) hl.isList rv.ints (fun e g tk hk => ⟨d, H, I.kept hk, rd, q0 e⟩) fun g tk m t hk h1 h2 => ⟨.int _, H, I.kept hk, ⟨_, rfl⟩, q1 m h1 h2⟩

def xorP (f g : Int) : Int := if f = g then 0 else 1
theorem xor_is {f g : Int} (hf : f = 0 ∨ f = 1) (hg : g = 0 ∨ g = 1) : Builtin.bitXor f g = xorP f g := by
  rcases hf with rfl | rfl <;> rcases hg with rfl | rfl <;> decide
/-! ### a road that is being folded, as data -/
inductive Ev where
  | bare (m e : Int)
  | fold (m e lo st f : Int)
structure FS where
  e : Int
  S : StL
  L : List Ev
def evV : Ev → List V
  | .bare m e => [.str "bare", .int m, .int e]
  | .fold m e lo st f => [.str "fold", .int m, .int e, .int lo, .int st, .int f]
inductive Mo where
  | idle (i : Int)
  | halve (i : Int)
  | merge (i j : Int)
  | lead (j d i : Int)
  | fold (i m : Int)
  | bare (m : Int)
def moV : Mo → List V
  | .idle i => [.str "idle", .int i]
  | .halve i => [.str "halve", .int i]
  | .merge i j => [.str "merge", .int i, .int j]
  | .lead j d i => [.str "lead", .int j, .int d, .int i]
  | .fold i m => [.str "fold", .int i, .int m]
  | .bare m => [.str "bare", .int m]
abbrev xLead (x : M4) : Bool := isLead x.1 x.2.1 x.2.2.1 x.2.2.2
/-- the ends of all but one -/
def endsL (S : StL) (b : Option Int) : List Int := (S.filter fun s => decide (b ≠ some s.1)).map fun s => s.2.2.1 + s.2.2.2.1
def rch (S : StL) (b : Option Int) : Int := (endsL S b).foldl max 0
def ledB (w : M4) (at_ m : Int) : Int := if w.2.2.2 = 1 then w.1 + w.2.2.1 - (at_ - w.2.1) - m else w.1 + (at_ - w.1) % (w.2.1 - w.1)
def leadX (x w : M4) (d : Int) : Option M4 :=
  if (d = 0 ∨ d = 1) ∧ xLead w = true ∧ w.2.1 ≤ (if d = 1 then x.2.1 else x.1) ∧ (if d = 1 then x.2.1 else x.1) + x.2.2.1 ≤ w.2.1 + w.2.2.1 then
    some (nrm (if d = 1 then x.1 else ledB w x.1 x.2.2.1, if d = 1 then ledB w x.2.1 x.2.2.1 else x.2.1, x.2.2.1, xorP x.2.2.2 w.2.2.2)) else none
def leadS (S : StL) (j d i : Int) : Option StL := if i = j then none else match sget S j, sget S i with
  | some x, some w => (leadX x w d).map fun y => sput S j y
  | _, _ => none
def idleS (S : StL) (i : Int) : Option StL := match sget S i with
  | some x => if x.2.2.2 = 0 ∧ x.1 = x.2.1 then some (sdrop S i) else none
  | none => none
/-- what a fold leaves of the mating x, cut at m -/
def cutX (x : M4) (m : Int) : M4 := (if x.2.2.2 = 1 then x.1 + x.2.2.1 - (m - x.2.1) else x.1, x.2.1, m - x.2.1, x.2.2.2)
def foldS (X : FS) (i m : Int) : Option FS := match sget X.S i with
  | some x => if xLead x = true ∧ x.2.1 + x.2.2.1 = X.e ∧ x.2.1 ≤ m ∧ m < X.e ∧ rch X.S (some i) ≤ m then
      some ⟨m, if m - x.2.1 = 0 then sdrop X.S i else sput X.S i (cutX x m), X.L ++ [.fold m X.e x.1 (if x.2.2.2 = 1 then 0 else x.2.1 - x.1) x.2.2.2]⟩ else none
  | none => none
def bareS (X : FS) (m : Int) : Option FS := if rch X.S none ≤ m ∧ m < X.e then some ⟨m, X.S, X.L ++ [.bare m X.e]⟩ else none
def mkS (X : FS) : Mo → Option FS
  | .idle i => (idleS X.S i).map fun S => ⟨X.e, S, X.L⟩
  | .halve i => (halveS X.S i).map fun S => ⟨X.e, S, X.L⟩
  | .merge i j => (mergeS X.S i j).map fun S => ⟨X.e, S, X.L⟩
  | .lead j d i => (leadS X.S j d i).map fun S => ⟨X.e, S, X.L⟩
  | .fold i m => foldS X i m
  | .bare m => bareS X m
/-- a mating below e, told with its lesser stretch first -/
structure Rok (e : Int) (x : M4) : Prop where
  o0 : 0 ≤ x.1
  op : x.1 ≤ x.2.1
  m1 : 1 ≤ x.2.2.1
  pe : x.2.1 + x.2.2.1 ≤ e
  f01 : x.2.2.2 = 0 ∨ x.2.2.2 = 1
structure WF (X : FS) : Prop where
  e0 : 0 ≤ X.e
  e1 : X.e ≤ 4000000000000000000
  r : ∀ s ∈ X.S, Rok X.e s.2
  up : (X.S.map (·.1)).Pairwise (· < ·)
  len : X.S.length ≤ 60
theorem sget_in : ∀ {S : StL} {i : Int} {x : M4}, sget S i = some x → (i, x) ∈ S
  | s :: r, i, x, h => by
    have h' : (if s.1 = i then some s.2 else sget r i) = some x := h
    by_cases e : s.1 = i
    · rw [if_pos e] at h'
      cases h'
      rw [← e]
      exact List.mem_cons_self
    · rw [if_neg e] at h'
      exact List.mem_cons_of_mem _ (sget_in h')
theorem WF.at {X : FS} (h : WF X) {i : Int} {x : M4} (e : sget X.S i = some x) : Rok X.e x := h.r _ (sget_in e)
theorem sput_mem {S : StL} {i : Int} {x : M4} {s : Int × M4} (h : s ∈ sput S i x) : (s.1 = i ∧ s.2 = x) ∨ s ∈ S ∧ s.1 ≠ i := by
  obtain ⟨t, ht, e⟩ := List.mem_map.mp h
  by_cases z : t.1 = i
  · rw [if_pos z] at e
    rw [← e]
    exact .inl ⟨z, rfl⟩
  · rw [if_neg z] at e
    rw [← e]
    exact .inr ⟨ht, z⟩
theorem sdrop_mem {S : StL} {i : Int} {s : Int × M4} (h : s ∈ sdrop S i) : s ∈ S ∧ s.1 ≠ i := by
  obtain ⟨h1, h2⟩ := List.mem_filter.mp h
  exact ⟨h1, of_decide_eq_true h2⟩
theorem fold_max_ge (l : List Int) : ∀ a : Int, a ≤ l.foldl max a ∧ ∀ y ∈ l, y ≤ l.foldl max a := by
  induction l with
  | nil => exact fun a => ⟨Int.le_refl _, fun y h => by cases h⟩
  | cons z r ih =>
    intro a
    obtain ⟨h1, h2⟩ := ih (max a z)
    refine ⟨by show a ≤ r.foldl max (max a z); omega, fun y hy => ?_⟩
    show y ≤ r.foldl max (max a z)
    rcases List.mem_cons.mp hy with rfl | hy
    · omega
    · exact h2 y hy
theorem fold_max_in (l : List Int) : ∀ a : Int, l.foldl max a = a ∨ l.foldl max a ∈ l := by
  induction l with
  | nil => exact fun a => .inl rfl
  | cons z r ih =>
    intro a
    show r.foldl max (max a z) = a ∨ r.foldl max (max a z) ∈ z :: r
    rcases ih (max a z) with h | h
    · rw [h]
      by_cases q : a < z
      · exact .inr (by rw [show max a z = z by omega]; exact List.mem_cons_self)
      · exact .inl (by omega)
    · exact .inr (List.mem_cons_of_mem _ h)
/-- the greatest of the numbers, and 0 -/
theorem max_is {l : List Int} {M : Int} (h0 : 0 ≤ M) (h1 : M = 0 ∨ M ∈ l) (h2 : ∀ y ∈ l, y ≤ M) : M = l.foldl max 0 := by
  obtain ⟨g1, g2⟩ := fold_max_ge l 0
  have a : M ≤ l.foldl max 0 := by
    rcases h1 with h | h
    · omega
    · exact g2 M h
  have b : l.foldl max 0 ≤ M := by
    rcases fold_max_in l 0 with h | h
    · omega
    · exact h2 _ h
  omega
theorem endsL_mem {S : StL} {b : Option Int} {s : Int × M4} (hs : s ∈ S) (hb : b ≠ some s.1) : s.2.2.1 + s.2.2.2.1 ∈ endsL S b :=
  List.mem_map.mpr ⟨s, List.mem_filter.mpr ⟨hs, decide_eq_true hb⟩, rfl⟩
theorem rch_ge {S : StL} {b : Option Int} {s : Int × M4} (hs : s ∈ S) (hb : b ≠ some s.1) : s.2.2.1 + s.2.2.2.1 ≤ rch S b := (fold_max_ge _ 0).2 _ (endsL_mem hs hb)
theorem rch_0 (S : StL) (b : Option Int) : 0 ≤ rch S b := (fold_max_ge _ 0).1
theorem rch_le {X : FS} (h : WF X) (b : Option Int) : rch X.S b ≤ X.e := by
  rcases fold_max_in (endsL X.S b) 0 with z | z
  · have := h.e0
    unfold rch
    omega
  · obtain ⟨s, hs, e⟩ := List.mem_map.mp z
    have := (h.r s (List.mem_filter.mp hs).1).pe
    unfold rch
    omega
theorem nrm_id {x : M4} (h : x.1 ≤ x.2.1) : nrm x = x := by
  unfold nrm
  rw [if_neg (by omega), if_neg (by omega)]
theorem nrm_ok {e : Int} {x : M4} (h0 : 0 ≤ x.1) (h1 : 0 ≤ x.2.1) (hm : 1 ≤ x.2.2.1) (h2 : x.1 + x.2.2.1 ≤ e) (h3 : x.2.1 + x.2.2.1 ≤ e) (hf : x.2.2.2 = 0 ∨ x.2.2.2 = 1) : Rok e (nrm x) := by
  unfold nrm
  refine ⟨?_, ?_, hm, ?_, hf⟩
  · show 0 ≤ (if x.2.1 < x.1 then x.2.1 else x.1)
    split <;> omega
  · show (if x.2.1 < x.1 then x.2.1 else x.1) ≤ (if x.2.1 < x.1 then x.1 else x.2.1)
    split <;> omega
  · show (if x.2.1 < x.1 then x.1 else x.2.1) + x.2.2.1 ≤ e
    split <;> omega
theorem xor01 (f g : Int) : xorP f g = 0 ∨ xorP f g = 1 := by
  unfold xorP
  split
  · exact .inl rfl
  · exact .inr rfl
theorem ledB_ok {w : M4} {e at_ m : Int} (h : Rok e w) (hl : xLead w = true) (hm : 1 ≤ m) (h1 : w.2.1 ≤ at_) (h2 : at_ + m ≤ w.2.1 + w.2.2.1) : 0 ≤ ledB w at_ m ∧ ledB w at_ m + m ≤ e := by
  have g1 := h.o0
  have g2 := h.op
  have g3 := h.pe
  unfold ledB
  by_cases hf : w.2.2.2 = 1
  · rw [if_pos hf]
    have hl' : w.2.2.1 ≤ w.2.1 - w.1 := by
      have z : (if w.2.2.2 = 1 then decide (w.2.2.1 ≤ w.2.1 - w.1) else decide (1 ≤ w.2.1 - w.1)) = true := hl
      rw [if_pos hf] at z
      exact of_decide_eq_true z
    omega
  · rw [if_neg hf]
    have hl' : 1 ≤ w.2.1 - w.1 := by
      have z : (if w.2.2.2 = 1 then decide (w.2.2.1 ≤ w.2.1 - w.1) else decide (1 ≤ w.2.1 - w.1)) = true := hl
      rw [if_neg hf] at z
      exact of_decide_eq_true z
    have a1 := Int.emod_nonneg (at_ - w.1) (show w.2.1 - w.1 ≠ 0 by omega)
    have a2 := Int.emod_lt_of_pos (at_ - w.1) (show 0 < w.2.1 - w.1 by omega)
    omega
theorem lead_ok {x w y : M4} {e d : Int} (hx : Rok e x) (hw : Rok e w) (h : leadX x w d = some y) : Rok e y := by
  unfold leadX at h
  by_cases hc : (d = 0 ∨ d = 1) ∧ xLead w = true ∧ w.2.1 ≤ (if d = 1 then x.2.1 else x.1) ∧ (if d = 1 then x.2.1 else x.1) + x.2.2.1 ≤ w.2.1 + w.2.2.1
  · rw [if_pos hc] at h
    obtain ⟨hd, hl, h1, h2⟩ := hc
    cases h
    have b := ledB_ok hw hl hx.m1 h1 h2
    have g1 := hx.o0
    have g2 := hx.op
    have g3 := hx.pe
    by_cases z : d = 1
    · rw [if_pos z] at b
      simp only [if_pos z]
      exact nrm_ok (x := (x.1, ledB w x.2.1 x.2.2.1, x.2.2.1, xorP x.2.2.2 w.2.2.2)) g1 b.1 hx.m1 (by show x.1 + x.2.2.1 ≤ e; omega) b.2 (xor01 _ _)
    · rw [if_neg z] at b
      simp only [if_neg z]
      exact nrm_ok (x := (ledB w x.1 x.2.2.1, x.2.1, x.2.2.1, xorP x.2.2.2 w.2.2.2)) b.1 (by show 0 ≤ x.2.1; omega) hx.m1 b.2 (by show x.2.1 + x.2.2.1 ≤ e; omega) (xor01 _ _)
  · rw [if_neg hc] at h
    cases h
theorem WF.drop {X : FS} (h : WF X) (i : Int) : WF ⟨X.e, sdrop X.S i, X.L⟩ := ⟨h.e0, h.e1, fun s hs => h.r s (sdrop_mem hs).1, sdrop_keys h.up, Nat.le_trans (sdrop_length _ _) h.len⟩
theorem WF.put {X : FS} (h : WF X) {i : Int} {y : M4} (hy : Rok X.e y) : WF ⟨X.e, sput X.S i y, X.L⟩ := by
  refine ⟨h.e0, h.e1, fun s hs => ?_, by rw [sput_keys]; exact h.up, by rw [sput_length]; exact h.len⟩
  rcases sput_mem hs with ⟨_, e⟩ | ⟨hs, _⟩
  · rw [e]
    exact hy
  · exact h.r s hs
theorem isRep_of {o p m f : Int} (h : isRep o p m f = true) : f = 0 ∧ 1 ≤ p - o ∧ p - o ≤ m := of_decide_eq_true h
theorem mrg_ok {x y z : M4} {e : Int} (hx : Rok e x) (hy : Rok e y) (h : mrg x y = some z) : Rok e z := by
  unfold mrg at h
  split at h
  · rename_i hc
    obtain ⟨r1, r2, _⟩ := hc
    cases h
    obtain ⟨_, a1, a2⟩ := isRep_of r1
    obtain ⟨_, b1, b2⟩ := isRep_of r2
    have g1 := hx.o0
    have g2 := hx.pe
    have g3 := hy.o0
    have g4 := hy.pe
    have hg1 : 1 ≤ Nat.gcd (x.2.1 - x.1).toNat (y.2.1 - y.1).toNat := Nat.gcd_pos_of_pos_left _ (by omega)
    have hg2 : Nat.gcd (x.2.1 - x.1).toNat (y.2.1 - y.1).toNat ≤ (x.2.1 - x.1).toNat := Nat.gcd_le_left _ (by omega)
    have hg3 : Nat.gcd (x.2.1 - x.1).toNat (y.2.1 - y.1).toNat ≤ (y.2.1 - y.1).toNat := Nat.gcd_le_right _ (by omega)
    generalize Nat.gcd (x.2.1 - x.1).toNat (y.2.1 - y.1).toNat = g at hg1 hg2 hg3 ⊢
    unfold imin imax
    refine ⟨?_, ?_, ?_, ?_, .inl rfl⟩
    · show 0 ≤ (if y.1 < x.1 then y.1 else x.1)
      split <;> omega
    · show (if y.1 < x.1 then y.1 else x.1) ≤ (if y.1 < x.1 then y.1 else x.1) + (g : Int)
      omega
    · show 1 ≤ (if y.2.1 + y.2.2.1 > x.2.1 + x.2.2.1 then y.2.1 + y.2.2.1 else x.2.1 + x.2.2.1) - (if y.1 < x.1 then y.1 else x.1) - (g : Int)
      split <;> split <;> omega
    · show (if y.1 < x.1 then y.1 else x.1) + (g : Int) + ((if y.2.1 + y.2.2.1 > x.2.1 + x.2.2.1 then y.2.1 + y.2.2.1 else x.2.1 + x.2.2.1) - (if y.1 < x.1 then y.1 else x.1) - (g : Int)) ≤ e
      split <;> omega
  · cases h
theorem half_ok {x : M4} {e : Int} (hx : Rok e x) (h : hlf x.1 x.2.1 x.2.2.1 ≠ 0) : Rok e (x.1, x.2.1 + x.2.2.1 - hlf x.1 x.2.1 x.2.2.1, hlf x.1 x.2.1 x.2.2.1, x.2.2.2) := by
  have g1 := hx.o0
  have g2 := hx.op
  have g3 := hx.pe
  have g4 := hx.m1
  have e0 : hlf x.1 x.2.1 x.2.2.1 = (x.2.1 + x.2.2.1 - x.1) / 2 := rfl
  generalize hlf x.1 x.2.1 x.2.2.1 = k at h e0 ⊢
  refine ⟨g1, ?_, ?_, ?_, hx.f01⟩
  · show x.1 ≤ x.2.1 + x.2.2.1 - k
    omega
  · show 1 ≤ k
    omega
  · show x.2.1 + x.2.2.1 - k + k ≤ e
    omega
theorem cut_ok {x : M4} {e m : Int} (hx : Rok e x) (hl : xLead x = true) (h1 : x.2.1 ≤ m) (h2 : m - x.2.1 ≠ 0) (h3 : m < x.2.1 + x.2.2.1) : Rok m (cutX x m) := by
  have g1 := hx.o0
  have g2 := hx.op
  unfold cutX
  by_cases hf : x.2.2.2 = 1
  · have hl' : x.2.2.1 ≤ x.2.1 - x.1 := by
      have z : (if x.2.2.2 = 1 then decide (x.2.2.1 ≤ x.2.1 - x.1) else decide (1 ≤ x.2.1 - x.1)) = true := hl
      rw [if_pos hf] at z
      exact of_decide_eq_true z
    rw [if_pos hf]
    exact ⟨by show 0 ≤ x.1 + x.2.2.1 - (m - x.2.1); omega, by show x.1 + x.2.2.1 - (m - x.2.1) ≤ x.2.1; omega, by show 1 ≤ m - x.2.1; omega, by show x.2.1 + (m - x.2.1) ≤ m; omega, hx.f01⟩
  · rw [if_neg hf]
    exact ⟨g1, g2, by show 1 ≤ m - x.2.1; omega, by show x.2.1 + (m - x.2.1) ≤ m; omega, hx.f01⟩
/-- a right move leaves a road that is well formed -/
theorem mkS_wf {X X' : FS} (h : WF X) : ∀ {mo : Mo}, mkS X mo = some X' → WF X'
  | .idle i, e => by
    obtain ⟨S, hS, rfl⟩ := Option.map_eq_some_iff.mp (show (idleS X.S i).map (fun S => (⟨X.e, S, X.L⟩ : FS)) = some X' from e)
    unfold idleS at hS
    split at hS
    · split at hS
      · cases hS
        exact h.drop i
      · cases hS
    · cases hS
  | .halve i, e => by
    obtain ⟨S, hS, rfl⟩ := Option.map_eq_some_iff.mp (show (halveS X.S i).map (fun S => (⟨X.e, S, X.L⟩ : FS)) = some X' from e)
    unfold halveS at hS
    split at hS
    · rename_i x hx
      split at hS
      · cases hS
      · split at hS
        · cases hS
          exact h.drop i
        · rename_i hz
          cases hS
          have k := half_ok (h.at hx) hz
          rw [nrm_id k.op]
          exact h.put k
    · cases hS
  | .merge i j, e => by
    obtain ⟨S, hS, rfl⟩ := Option.map_eq_some_iff.mp (show (mergeS X.S i j).map (fun S => (⟨X.e, S, X.L⟩ : FS)) = some X' from e)
    unfold mergeS at hS
    split at hS
    · cases hS
    · split at hS
      · rename_i x y hx hy
        obtain ⟨z, hz, rfl⟩ := Option.map_eq_some_iff.mp hS
        have k := mrg_ok (h.at hx) (h.at hy) hz
        rw [nrm_id k.op]
        exact WF.drop (X := ⟨X.e, sput X.S i z, X.L⟩) (h.put k) j
      · cases hS
  | .lead j d i, e => by
    obtain ⟨S, hS, rfl⟩ := Option.map_eq_some_iff.mp (show (leadS X.S j d i).map (fun S => (⟨X.e, S, X.L⟩ : FS)) = some X' from e)
    unfold leadS at hS
    split at hS
    · cases hS
    · split at hS
      · rename_i x w hx hw
        obtain ⟨z, hz, rfl⟩ := Option.map_eq_some_iff.mp hS
        exact h.put (lead_ok (h.at hx) (h.at hw) hz)
      · cases hS
  | .fold i m, e => by
    have e' : foldS X i m = some X' := e
    unfold foldS at e'
    split at e'
    · rename_i x hx
      split at e'
      · rename_i hc
        obtain ⟨hl, h1, h2, h3, h4⟩ := hc
        cases e'
        have k0 := h.at hx
        have others : ∀ s ∈ X.S, s.1 ≠ i → Rok m s.2 := fun s hs hn => by
          have r := h.r s hs
          have z := rch_ge hs (b := some i) (fun q => hn (Option.some.inj q).symm)
          exact ⟨r.o0, r.op, r.m1, by omega, r.f01⟩
        have hm0 : 0 ≤ m := Int.le_trans (rch_0 _ _) h4
        have hm1 : m ≤ 4000000000000000000 := by have := h.e1; omega
        by_cases z : m - x.2.1 = 0
        · rw [if_pos z]
          exact ⟨hm0, hm1, fun s hs => others s (sdrop_mem hs).1 (sdrop_mem hs).2, sdrop_keys h.up, Nat.le_trans (sdrop_length _ _) h.len⟩
        · rw [if_neg z]
          refine ⟨hm0, hm1, fun s hs => ?_, by rw [sput_keys]; exact h.up, by rw [sput_length]; exact h.len⟩
          rcases sput_mem hs with ⟨_, q⟩ | ⟨hs, hn⟩
          · rw [q]
            exact cut_ok k0 hl h2 z (by rw [h1]; exact h3)
          · exact others s hs hn
      · cases e'
    · cases e'
  | .bare m, e => by
    have e' : bareS X m = some X' := e
    unfold bareS at e'
    split at e'
    · rename_i hc
      cases e'
      refine ⟨Int.le_trans (rch_0 _ _) hc.1, by show m ≤ _; have := h.e1; omega, fun s hs => ?_, h.up, h.len⟩
      have r := h.r s hs
      have z : s.2.2.1 + s.2.2.2.1 ≤ rch X.S none := rch_ge hs (b := none) (fun q => by cases q)
      have z2 := hc.1
      exact ⟨r.o0, r.op, r.m1, by show s.2.2.1 + s.2.2.2.1 ≤ m; omega, r.f01⟩
    · cases e'

/-! ### a front, as the data tell it -/
def Past (H : Hp) (ps : List V) (L : List Ev) : Prop := Paired (fun v ev => ∃ t, v = V.ref t ∧ H t = some (.tup (evV ev))) ps L
theorem Past.keep {H H' : Hp} (k : KeepT H H') {ps : List V} {L : List Ev} (h : Past H ps L) : Past H' ps L := Paired.mapP h fun v ev ⟨t, e1, e2⟩ => ⟨t, e1, k _ _ e2⟩
theorem Past.length {H : Hp} : ∀ {ps : List V} {L : List Ev}, Past H ps L → ps.length = L.length
  | _, _, .nil => rfl
  | _, _, .cons _ r => congrArg (· + 1) (Past.length r)
theorem Past.snoc {H : Hp} {v : V} {ev : Ev} (hs : ∃ t, v = V.ref t ∧ H t = some (.tup (evV ev))) : ∀ {ps : List V} {L : List Ev}, Past H ps L → Past H (ps ++ [v]) (L ++ [ev])
  | _, _, .nil => .cons hs .nil
  | _, _, .cons h r => .cons h (Past.snoc hs r)
def FrS (C : Addr) (H : Hp) (a s q : Addr) (X : FS) : Prop := ∃ ps, FrAt C H a s q X.e X.S ps ∧ Past H ps X.L
theorem FrAt.offT {C : Addr} {H H' : Hp} {a s q : Addr} {e : Int} {S : StL} {ps : List V} (h : FrAt C H a s q e S ps) (o : Off a s q H H') : KeepT H H' := fun b xs hb => by
  obtain ⟨h1, h2, h3⟩ := h.ne_tup hb
  exact o _ _ hb h1 h2 h3
theorem FrS.same {C : Addr} {H H' : Hp} {a s q : Addr} {X : FS} (h : FrS C H a s q X) (k : Same H H') : FrS C H' a s q X := by
  obtain ⟨ps, h1, h2⟩ := h
  exact ⟨ps, h1.same k, h2.keep fun b xs hb => k _ _ hb⟩
/-- what stands behind a move: r the road then, or none where it is refused -/
def AfterS (C : Addr) (H : Hp) (a s q : Addr) (X : FS) (r : Option FS) (Q : VK) : Prop :=
  (r = none → ∀ H', FrS C H' a s q X → Off a s q H H' → Q (.bl false) H') ∧ ∀ X', r = some X' → ∀ H', FrS C H' a s q X' → Off a s q H H' → Q (.bl true) H'
theorem After.ofS {C : Addr} {H : Hp} {a s q : Addr} {X : FS} {ps : List V} {r : Option StL} {Q : VK} (fa : FrAt C H a s q X.e X.S ps) (hp : Past H ps X.L) (h : AfterS C H a s q X (r.map fun S => ⟨X.e, S, X.L⟩) Q) : After C H a s q X.e X.S ps r Q :=
  ⟨fun e H' f o => h.1 (by rw [e]; rfl) H' ⟨ps, f, hp.keep (fa.offT o)⟩ o, fun S' e H' f o => h.2 ⟨X.e, S', X.L⟩ (by rw [e]; rfl) H' ⟨ps, f, hp.keep (fa.offT o)⟩ o⟩
theorem putF_edge (e m : Int) (s q : Addr) : putF ("edge" : Str) (V.int m) (fr e s q) = fr m s q := by
  unfold fr putF
  rw [if_pos rfl]
theorem FrAt.edge {C dx : Addr} {H : Hp} {a s q : Addr} {e m : Int} {S : StL} {ps : List V} (h : FrAt C H a s q e S ps) : FrAt C (upd H a (.ins C dx (fr m s q))) a s q m S ps ∧ Off a s q H (upd H a (.ins C dx (fr m s q))) := by
  obtain ⟨⟨dx0, ea⟩, ⟨kvs0, es, st0⟩, eq, up, len⟩ := h
  have n1 : s ≠ a := ne_of es ea (fun z => by cases z)
  have n2 : q ≠ a := ne_of eq ea (fun z => by cases z)
  refine ⟨⟨⟨dx, upd_same⟩, ⟨kvs0, by rw [upd_ne n1]; exact es, st0.keep fun b xs hb => ?_⟩, by rw [upd_ne n2]; exact eq, up, len⟩, fun b o hb h1 _ _ => ?_⟩
  · rw [upd_ne (ne_of hb ea (fun z => by cases z))]
    exact hb
  · rw [upd_ne h1]
    exact hb
theorem FrAt.past {C : Addr} {H : Hp} {a s q : Addr} {e : Int} {S : StL} {ps ps' : List V} (h : FrAt C H a s q e S ps) : FrAt C (upd H q (.lst ps')) a s q e S ps' ∧ Off a s q H (upd H q (.lst ps')) := by
  obtain ⟨⟨dx0, ea⟩, ⟨kvs0, es, st0⟩, eq, up, len⟩ := h
  have n1 : s ≠ q := ne_of es eq (fun z => by cases z)
  have n2 : a ≠ q := ne_of ea eq (fun z => by cases z)
  refine ⟨⟨⟨dx0, by rw [upd_ne n2]; exact ea⟩, ⟨kvs0, by rw [upd_ne n1]; exact es, st0.keep fun b xs hb => ?_⟩, upd_same, up, len⟩, fun b o hb _ _ h3 => ?_⟩
  · rw [upd_ne (ne_of hb eq (fun z => by cases z))]
    exact hb
  · rw [upd_ne h3]
    exact hb
/-! ### leader, idle, bare, reach -/
abbrev N_Fleader : List Str := ["self", "i", "mating"]
abbrev P_Fleader : List Str := ["self", "i"]
theorem sc_Fleader : FnScope N_Fleader P_Fleader (defScope s_Fleader) := ⟨rfl, rfl, rfl, by decide +kernel, rfl, by decide +kernel, by decide +kernel⟩
abbrev N_Fidle : List Str := ["self", "i", "mating"]
abbrev P_Fidle : List Str := ["self", "i"]
theorem sc_Fidle : FnScope N_Fidle P_Fidle (defScope s_Fidle) := ⟨rfl, rfl, rfl, by decide +kernel, rfl, by decide +kernel, by decide +kernel⟩
abbrev N_Freach : List Str := ["self", "but", "i"]
abbrev P_Freach : List Str := ["self", "but"]
theorem sc_Freach : FnScope N_Freach P_Freach (defScope s_Freach) := ⟨rfl, rfl, rfl, by decide +kernel, rfl, by decide +kernel, by decide +kernel⟩
abbrev N_Fbare : List Str := ["self", "m"]
abbrev P_Fbare : List Str := ["self", "m"]
theorem sc_Fbare : FnScope N_Fbare P_Fbare (defScope s_Fbare) := ⟨rfl, rfl, rfl, by decide +kernel, rfl, by decide +kernel, by decide +kernel⟩
def spLeader (C : Addr) : Sp := fun vs H Q _ => ∃ (a s q : Addr) (e i : Int) (S : StL) (ps : List V), vs = [.ref a, .int i] ∧ FrAt C H a s q e S ps ∧ (∀ x t, sget S i = some x → xLead x = true → H t = some (t4 x) → Q (.ref t) H) ∧ ((∀ x, sget S i = some x → xLead x = false) → Q .non H)
def spIdle (C : Addr) : Sp := fun vs H Q _ => ∃ (a s q : Addr) (i : Int) (X : FS), vs = [.ref a, .int i] ∧ FrS C H a s q X ∧ WF X ∧ AfterS C H a s q X (mkS X (.idle i)) Q
def spReach (C : Addr) : Sp := fun vs H Q _ => ∃ (a s q : Addr) (v : V) (b : Option Int) (X : FS), vs = [.ref a, v] ∧ ((v = .non ∧ b = none) ∨ ∃ i : Int, v = .int i ∧ b = some i) ∧ FrS C H a s q X ∧ WF X ∧ ∀ H', Same H H' → Q (.int (rch X.S b)) H'
def spBare (C : Addr) : Sp := fun vs H Q _ => ∃ (a s q : Addr) (m : Int) (X : FS), vs = [.ref a, .int m] ∧ FrS C H a s q X ∧ WF X ∧ X.L.length ≤ 1000 ∧ AfterS C H a s q X (mkS X (.bare m)) Q
section
variable {P : Program} {w : World} {K : PySem.W.Frag} {mg : Str → Option Value} {base : Heap} {C : Addr}
theorem ok_leader {f fL fS : Addr} {fd fdL fdS : FuncData} (F : Fun K "leader" "Front.leader" s_Fleader f fd) (T : FrT K mg C) (D_is_leader : DefAt K mg "is_leader" s_is_leader P_is_leader fL fdL) (D_step_of : DefAt K mg "step_of" s_step_of P_step_of fS fdS) : FnOk P w K mg base CX0 3 f fd P_Fleader (spLeader C) := by
  have G_is_leader : FnOk P w K mg base CX0 2 fL fdL P_is_leader spLead := ok_lead D_is_leader D_step_of
  refine F.ok sc_Fleader (fun vs H Q E h => ?_) (fun cdv A outer s H vs Q E hr h => ?_)
  · obtain ⟨a, s, q, e, i, S, ps, rfl, _⟩ := h
    rfl
  · obtain ⟨a, s, q, e, i, S, ps, rfl, fa, h1, h2⟩ := h
    have hu := hu_of hr
    refine ⟨_, (pss_cons (ps_set (i := 2) sc_Fleader.nd rfl (.inl rfl) (pe_dget1 hu (pe_fld (pv 0) rfl) (pv 1) ⟨rfl, rfl, rfl, rfl⟩))
      (pss_cons (ps_if (PW.pt (pw_or (pt_cmpR op_isN (pv 2) pe_non (nomark _)) (pw_or1 (pt_not (pt_val (pe_call G_is_leader (hr.mono (by omega)) (by rfl) D_is_leader.g D_is_leader.F.kp D_is_leader.b .nil pass0 (pa_cons (pv 2) pa_nil))))))) (pss_one (ps_ret pe_non)) pss_nil)
      (pss_one (ps_ret (pv 2))))), ?_⟩
    obtain ⟨dx, ea⟩ := fa.at_a
    obtain ⟨o, g, g1, g2⟩ := get_at (i := i) fa
    refine ⟨.ref a, rfl, a, C, dx, _, _, rfl, ea, T.cl, T.nS, fr_standing e s q, s, rfl, isD_of fa, .int i, rfl, o, g, ?_⟩
    cases hx : sget S i with
    | none =>
      rw [g1 hx]
      exact ⟨.non, rfl, rfl, _, rfl, iteT (h2 fun x z => by rw [hx] at z; cases z)⟩
    | some x =>
      obtain ⟨t, rfl, ht⟩ := g2 x hx
      refine ⟨.ref t, rfl, rfl, _, rfl, iteF ?_⟩
      refine ⟨.ref t, rfl, t, x.1, x.2.1, x.2.2.1, x.2.2.2, rfl, ht, _, rfl, ?_⟩
      by_cases hl : xLead x = true
      · rw [show isLead x.1 x.2.1 x.2.2.1 x.2.2.2 = true from hl]
        exact iteF ⟨.ref t, rfl, h1 x t hx hl ht⟩
      · rw [show isLead x.1 x.2.1 x.2.2.1 x.2.2.2 = false from Bool.eq_false_iff.mpr hl]
        exact iteT (h2 fun y z => by rw [hx] at z; cases z; exact Bool.eq_false_iff.mpr hl)
theorem ok_idle {f fP fS : Addr} {fd fdP fdS : FuncData} (F : Fun K "idle" "Front.idle" s_Fidle f fd) (T : FrT K mg C) (M_put : Meth K C "put" fP) (G_put : FnOk P w K mg base CX0 3 fP fdP P_Fput (spPut C)) (b_put : Binds K fdP P_Fput []) (D_step_of : DefAt K mg "step_of" s_step_of P_step_of fS fdS) :
    FnOk P w K mg base CX0 4 f fd P_Fidle (spIdle C) := by
  have G_step_of : FnOk P w K mg base CX0 1 fS fdS P_step_of spStep := ok_step D_step_of
  refine F.ok sc_Fidle (fun vs H Q E h => ?_) (fun cdv A outer s H vs Q E hr h => ?_)
  · obtain ⟨a, s, q, i, X, rfl, _⟩ := h
    rfl
  · obtain ⟨a, s, q, i, X, rfl, ⟨ps, fa, hp⟩, wf, af⟩ := h
    have hu := hu_of hr
    refine ⟨_, (pss_cons (ps_set (i := 2) sc_Fidle.nd rfl (.inl rfl) (pe_dget1 hu (pe_fld (pv 0) rfl) (pv 1) ⟨rfl, rfl, rfl, rfl⟩))
      (pss_cons (ps_if (PW.pt (pw_or (pt_cmpR op_isN (pv 2) pe_non (nomark _)) (pw_or (pt_cmpR op_eq (pe_ix ix_tup (pv 2) pe_int (fun _ _ => rfl)) pe_int (nomark _)) (pw_or1 (pt_cmpR op_ne (pe_call G_step_of (hr.mono (by omega)) (by rfl) D_step_of.g D_step_of.F.kp D_step_of.b .nil pass0 (pa_cons (pv 2) pa_nil)) pe_int (nomark _)))))) (pss_one (ps_ret pe_bl)) pss_nil)
      (pss_cons (ps_expr (pe_meth (pv 0) T.cl M_put G_put (hr.mono (by omega)) b_put .nil pass0 (pa_cons (pv 1) (pa_cons pe_non pa_nil))))
      (pss_one (ps_ret pe_bl))))), ?_⟩
    obtain ⟨dx, ea⟩ := fa.at_a
    obtain ⟨o, g, g1, g2⟩ := get_at (i := i) fa
    obtain ⟨h1, h2⟩ := After.ofS (r := idleS X.S i) fa hp af
    refine ⟨.ref a, rfl, a, C, dx, _, _, rfl, ea, T.cl, T.nS, fr_standing X.e s q, s, rfl, isD_of fa, .int i, rfl, o, g, ?_⟩
    unfold idleS at h1 h2
    cases hx : sget X.S i with
    | none =>
      rw [hx] at h1
      rw [g1 hx]
      exact ⟨.non, rfl, rfl, _, rfl, iteT (h1 rfl H fa (Off.of_same (Same.refl H)))⟩
    | some x =>
      rw [hx] at h1 h2
      obtain ⟨t, rfl, ht⟩ := g2 x hx
      have rk := wf.at hx
      refine ⟨.ref t, rfl, rfl, _, rfl, iteF ?_⟩
      refine ⟨.ref t, rfl, t, _, 3, .int x.2.2.2, rfl, rfl, SqT.of ht, at4_3, rfl, _, rfl, ?_⟩
      refine ite2 (fun h0 => ?_) (fun h0 => ?_)
      · have h0' : x.2.2.2 = 1 := V.int.inj (of_decide_eq_true h0)
        exact h1 (if_neg (by omega)) H fa (Off.of_same (Same.refl H))
      · have h0' : ¬ x.2.2.2 = 1 := fun z => h0 (decide_eq_true (congrArg V.int z))
        have hf : x.2.2.2 = 0 := rk.f01.resolve_right h0'
        refine ⟨.ref t, rfl, t, x.1, x.2.1, x.2.2.1, x.2.2.2, rfl, ht, rfl, _, rfl, ?_⟩
        by_cases hz : x.2.1 - x.1 = 0
        · refine iteNS (congrArg V.int hz) ?_
          have e2 := h2 (sdrop X.S i) (if_pos ⟨hf, by omega⟩)
          exact ⟨.ref a, rfl, a, dx, _, rfl, ea, put_no, .int i, rfl, a, s, q, X.e, i, X.S, ps, .non, x, rfl, fa, hx, .inl ⟨rfl, fun H' f1 f2 => e2 H' f1 f2⟩⟩
        · rw [decide_eq_false (show ¬ V.int (x.2.1 - x.1) = V.int 0 from fun z => hz (V.int.inj z))]
          exact h1 (if_neg (by omega)) H fa (Off.of_same (Same.refl H))
theorem ok_reach {f fE : Addr} {fd fdE : FuncData} (F : Fun K "reach" "Front.reach" s_Freach f fd) (T : FrT K mg C) (D_end_of : DefAt K mg "end_of" s_end_of P_end_of fE fdE) (B : Bn mg) : FnOk P w K mg base CX0 2 f fd P_Freach (spReach C) := by
  have G_end_of : FnOk P w K mg base CX0 1 fE fdE P_end_of spEnd := ok_end D_end_of
  refine F.ok sc_Freach (fun vs H Q E h => ?_) (fun cdv A outer s H vs Q E hr h => ?_)
  · obtain ⟨a, s, q, v, b, X, rfl, _⟩ := h
    rfl
  · obtain ⟨a, s, q, v, b, X, rfl, hb, ⟨ps, fa, hp⟩, wf, qq⟩ := h
    have hu := hu_of hr
    refine ⟨_, (pss_one (ps_ret (pe_callBK (cr_maxDf rfl) (by rfl) B.max (by decide +kernel) (pa_cons (pe_lock (pe_lc (own := [("i", 2)]) (g := gName 2) (by rfl) sc_Freach.nd (pi_keys (pe_fld (pv 0) rfl)) (blkOk_by (own := [("i", 2)]) (N := N_Freach) (sc := defScope s_Freach) (by decide +kernel)) (fun _ _ _ _ _ => (pg_name (i := 2) sc_Freach.nd rfl (.inl rfl))) (fun _ _ _ _ _ => (pts_one (pt_cmpR op_ne (pv 2) (pv 1) (nomark _)))) (fun _ _ _ _ _ => (pe_call G_end_of (hr.mono (by omega)) (by rfl) D_end_of.g D_end_of.F.kp D_end_of.b .nil pass0 (pa_cons (pe_dget hu (pe_fldK (K := K) rfl (pv 0) rfl) (pv 2) (fun _ _ => rfl)) pa_nil))))) pa_nil) (pk_cons pe_int pk_nil)))), ?_⟩
    obtain ⟨dx, ea⟩ := fa.at_a
    obtain ⟨kvs, es, st⟩ := fa.at_s
    have nas : a ≠ s := ne_of ea es (fun z => by cases z)
    have hl := fa.len
    have hkl := st.length
    have ntest : ∀ z : Int, scal (.int z) v = true ∧ (!decide (V.int z = v)) = decide (b ≠ some z) := fun z => by
      rcases hb with ⟨rfl, rfl⟩ | ⟨i, rfl, rfl⟩
      · refine ⟨rfl, ?_⟩
        rw [decide_eq_false (show ¬ V.int z = V.non from fun q => by cases q), decide_eq_true (show (none : Option Int) ≠ some z from fun q => by cases q)]
        rfl
      · refine ⟨rfl, ?_⟩
        by_cases e : z = i
        · rw [e, decide_eq_true rfl, decide_eq_false (fun q => q rfl)]
          rfl
        · rw [decide_eq_false (show ¬ V.int z = V.int i from fun q => e (V.int.inj q)), decide_eq_true (show some i ≠ some z from fun q => e (Option.some.inj q).symm)]
          rfl
    refine ⟨s, .dK kvs, es, trivial, fun od => ?_⟩
    have sl : ∀ {c : Addr} {o : HO}, H c = some o → c ≠ s → (upd H s (.frz od (.dK kvs))) c = some o := fun h n => by rw [upd_ne n]; exact h
    refine ⟨.ref a, rfl, a, C, dx, _, _, rfl, sl ea nas, T.cl, T.nS, fr_standing X.e s q, s, od, rfl, .inl ⟨kvs, upd_same, fun D nD => lc_it walk_keys (fun i H2 => ∃ ns : List Int, Same (upd H s (.frz od (.dK kvs))) H2 ∧ H2 D = some (.lst (ns.map V.int)) ∧ ns = endsL (X.S.take i) b)
      ⟨[], same_upd nD, upd_same, rfl⟩ (fun i H2 _ ⟨_, sm, _⟩ => sm _ _ upd_same) ?_ ?_⟩⟩
    · rintro i x H2 H3 hi ⟨ns, sm, eD, en⟩ ⟨rfl, k, v2, hk, rfl⟩
      obtain ⟨z, hz, e1, t, e2, e3⟩ := LiI.paired_get st hk
      have e1' : k = Sum.inl z.1 := e1
      subst e1'
      have e2' : v2 = V.ref t := e2
      subst e2'
      obtain ⟨tt, ht1, ht2⟩ := (st.get z.1).2 z.2 (sget_mem wf.up (List.mem_of_getElem? hz))
      have ntt : tt ≠ s := ne_of ht2 es (fun z => by cases z)
      obtain ⟨sc, nt⟩ := ntest z.1
      have hi' : i < X.S.length := (List.getElem?_eq_some_iff.mp hz).1
      have hle : ns.length ≤ i := by
        rw [en]
        unfold endsL
        rw [List.length_map]
        have := List.length_filter_le (fun s => decide (b ≠ some s.1)) (X.S.take i)
        rw [List.length_take] at this
        omega
      refine ⟨rfl, .int z.1, rfl, v, rfl, sc, _, rfl, ?_⟩
      rw [nt]
      have stepE : endsL (X.S.take (i + 1)) b = endsL (X.S.take i) b ++ (if decide (b ≠ some z.1) = true then [z.2.2.1 + z.2.2.2.1] else []) := by
        unfold endsL
        rw [List.take_add_one, hz, List.filter_append, List.map_append]
        congr 1
        show (List.filter (fun s => decide (b ≠ some s.1)) [z]).map _ = _
        simp only [List.filter_cons, List.filter_nil]
        by_cases q : decide (b ≠ some z.1) = true
        · rw [if_pos q, if_pos q]
          rfl
        · rw [if_neg q, if_neg q]
          rfl
      refine ite2 (fun h => ?_) (fun h => ?_)
      · rw [if_pos h] at stepE
        refine ⟨.ref a, rfl, a, C, dx, _, _, rfl, sm _ _ (sl ea nas), T.cl, T.nS, fr_standing X.e s q, .int z.1, rfl, s, .ref tt, rfl, .inl ⟨kvs, Sum.inl z.1, .inr ⟨od, sm _ _ upd_same⟩, rfl, ht1.symm⟩, ?_⟩
        refine ⟨tt, z.2.1, z.2.2.1, z.2.2.2.1, z.2.2.2.2, rfl, sm _ _ (sl ht2 ntt), ?_⟩
        refine ⟨_, eD, sz_lt (by rw [List.length_map]; omega), ns ++ [z.2.2.1 + z.2.2.2.1], fun c o hc => ?_, by rw [upd_same, List.map_append]; rfl, by rw [stepE, en]⟩
        rw [upd_ne (ne_of_none hc nD)]
        exact sm _ _ hc
      · rw [if_neg h, List.append_nil] at stepE
        exact ⟨ns, sm, eD, by rw [stepE, en]⟩
    · rintro H2 ⟨ns, sm, eD, en⟩
      rw [hkl, List.take_length] at en
      have nDs : D ≠ s := fun z => by
        rw [z, upd_same] at nD
        cases nD
      have fin : Same H (upd H2 s (.dK kvs)) := fun c o hc => by
        by_cases z : c = s
        · rw [z] at hc ⊢
          rw [es] at hc
          rw [upd_same]
          exact hc
        · rw [upd_ne z]
          exact sm _ _ (sl hc z)
      have pos : ∀ y ∈ ns, 0 ≤ y := fun y hy => by
        rw [en] at hy
        obtain ⟨z, hz, rfl⟩ := List.mem_map.mp hy
        have r := wf.r z (List.mem_filter.mp hz).1
        have := r.o0
        have := r.op
        have := r.m1
        omega
      refine ⟨sm _ _ upd_same, D, ns, .int 0, rfl, rfl, SqL.of (by rw [upd_ne nDs]; exact eD), fun e => ?_, fun m hm hle => ?_⟩
      · have z : rch X.S b = 0 := by
          unfold rch
          rw [← en, e]
          rfl
        rw [← z]
        exact qq _ fin
      · have z : m = rch X.S b := by
          unfold rch
          rw [← en]
          exact max_is (pos m hm) (.inr hm) hle
        rw [z]
        exact qq _ fin
theorem ok_bare {f fR : Addr} {fd fdR : FuncData} (F : Fun K "bare" "Front.bare" s_Fbare f fd) (T : FrT K mg C) (M_reach : Meth K C "reach" fR) (G_reach : FnOk P w K mg base CX0 2 fR fdR P_Freach (spReach C)) (b_reach : Binds K fdR P_Freach []) : FnOk P w K mg base CX0 3 f fd P_Fbare (spBare C) := by
  refine F.ok sc_Fbare (fun vs H Q E h => ?_) (fun cdv A outer s H vs Q E hr h => ?_)
  · obtain ⟨a, s, q, m, X, rfl, _⟩ := h
    rfl
  · obtain ⟨a, s, q, m, X, rfl, fS, wf, hL, h1, h2⟩ := h
    refine ⟨_, (pss_cons (ps_if (PW.pt (pw_or (pt_cmpR op_lt (pv 1) (pe_meth (pv 0) T.cl M_reach G_reach (hr.mono (by omega)) b_reach .nil pass0 (pa_cons pe_non pa_nil)) (nomark _)) (pw_or1 (pt_cmpR op_ge (pv 1) (pe_fld (pv 0) rfl) (nomark _))))) (pss_one (ps_ret pe_bl)) pss_nil)
      (pss_cons (ps_expr (pe_bm PySem.F.plainAttrs_list PySem.F.slot_list_append PySem.F.type_list_append mt_append (pe_fld (pv 0) rfl) (pa_cons (pe_tup (pa_cons pe_str (pa_cons (pv 1) (pa_cons (pe_fld (pv 0) rfl) pa_nil)))) pa_nil)))
      (pss_cons (ps_fld (pv 0) (pv 1) rfl)
      (pss_one (ps_ret pe_bl))))), ?_⟩
    have ea0 : ∃ dx, H a = some (.ins C dx (fr X.e s q)) := let ⟨_, fa, _⟩ := fS; fa.at_a
    obtain ⟨dx, ea⟩ := ea0
    refine ⟨.int m, rfl, .ref a, rfl, a, dx, _, rfl, ea, put_no, a, s, q, .non, none, X, rfl, .inl ⟨rfl, rfl⟩, fS, wf, fun H1 s1 => ?_⟩
    have f1 := fS.same s1
    obtain ⟨ps, fa, hp⟩ := id f1
    refine ⟨m, _, rfl, rfl, _, rfl, ?_⟩
    have no : ¬ (rch X.S none ≤ m ∧ m < X.e) → Q (.bl false) H1 := fun z => h1 (show bareS X m = none by unfold bareS; exact if_neg z) H1 f1 (Off.of_same s1)
    refine ite2 (fun h => ?_) (fun h => ?_)
    · exact no fun z => by have := of_decide_eq_true h; omega
    · have h' : ¬ m < rch X.S none := fun z => h (decide_eq_true z)
      refine ⟨.int m, rfl, .ref a, rfl, a, C, dx, _, _, rfl, s1 _ _ ea, T.cl, T.nE, fr_edge X.e s q, m, X.e, rfl, rfl, _, rfl, ?_⟩
      refine ite2 (fun h3 => ?_) (fun h3 => ?_)
      · exact no fun z => by have := of_decide_eq_true h3; omega
      · have h3' : ¬ X.e ≤ m := fun z => h3 (decide_eq_true z)
        have hq := fa.at_q
        have hpl := hp.length
        refine ⟨.ref a, rfl, a, C, dx, _, _, rfl, s1 _ _ ea, T.cl, T.nP, fr_past X.e s q, .inl ⟨rfl, _, SqL.of hq⟩, .int m, rfl, .ref a, rfl, a, C, dx, _, _, rfl, s1 _ _ ea, T.cl, T.nE, fr_edge X.e s q, by show 3 ≤ sizeLine; decide, fun t nt => ?_⟩
        have st := same_upd (H := H1) (o := .tup [.str "bare", .int m, .int X.e]) nt
        refine ⟨q, ps, _, rfl, rfl, st _ _ hq, sz_lt (by omega), ?_⟩
        have fa2 := fa.same st
        obtain ⟨fa3, o3⟩ := fa2.past (ps' := ps ++ [.ref t])
        obtain ⟨dx3, ea3⟩ := fa3.at_a
        refine ⟨.int m, rfl, .ref a, rfl, a, C, dx3, _, rfl, ea3, T.cl, T.nE, by show 3 < 1000; decide, ?_⟩
        rw [putF_edge]
        obtain ⟨fa4, o4⟩ := fa3.edge (dx := dx3) (m := m)
        have ks : KeepT (upd H1 t (.tup [.str "bare", .int m, .int X.e])) (upd (upd (upd H1 t (.tup [.str "bare", .int m, .int X.e])) q (.lst (ps ++ [.ref t]))) a (.ins C dx3 (fr m s q))) := fa2.offT (o3.trans o4)
        have eb : mkS X (.bare m) = some ⟨m, X.S, X.L ++ [.bare m X.e]⟩ := by
          show bareS X m = _
          unfold bareS
          exact if_pos ⟨by omega, by omega⟩
        refine h2 _ eb _ ⟨_, fa4, Past.snoc ⟨t, rfl, ks _ _ upd_same⟩ ((hp.keep fun b xs hb => st _ _ hb).keep ks)⟩ (((Off.of_same s1).trans (Off.of_same st)).trans (o3.trans o4))
end

/-! ### led_back, lead -/
abbrev N_led_back : List Str := ["leader", "at", "many"]
abbrev P_led_back : List Str := ["leader", "at", "many"]
theorem sc_led_back : FnScope N_led_back P_led_back (defScope s_led_back) := ⟨rfl, rfl, rfl, by decide +kernel, rfl, by decide +kernel, by decide +kernel⟩
abbrev N_Flead : List Str := ["self", "j", "side", "i", "mating", "leader", "one", "other", "many", "turned", "at", "begin"]
abbrev P_Flead : List Str := ["self", "j", "side", "i"]
theorem sc_Flead : FnScope N_Flead P_Flead (defScope s_Flead) := ⟨rfl, rfl, rfl, by decide +kernel, rfl, by decide +kernel, by decide +kernel⟩
def spLedBack : Sp := fun vs H Q _ => ∃ (t : Addr) (w : M4) (at_ m : Int), vs = [.ref t, .int at_, .int m] ∧ H t = some (t4 w) ∧ (w.2.2.2 = 0 ∨ w.2.2.2 = 1) ∧ xLead w = true ∧ 1 ≤ m ∧ w.2.1 ≤ at_ ∧ at_ + m ≤ w.2.1 + w.2.2.1 ∧ ∀ H', Same H H' → Q (.int (ledB w at_ m)) H'
def spFlead (C : Addr) : Sp := fun vs H Q _ => ∃ (a s q : Addr) (j d i : Int) (X : FS), vs = [.ref a, .int j, .int d, .int i] ∧ FrS C H a s q X ∧ WF X ∧ AfterS C H a s q X (mkS X (.lead j d i)) Q
theorem lead_st {w : M4} (h : xLead w = true) (hf : ¬ w.2.2.2 = 1) : 1 ≤ w.2.1 - w.1 := by
  have z : (if w.2.2.2 = 1 then decide (w.2.2.1 ≤ w.2.1 - w.1) else decide (1 ≤ w.2.1 - w.1)) = true := h
  rw [if_neg hf] at z
  exact of_decide_eq_true z
theorem lead_tu {w : M4} (h : xLead w = true) (hf : w.2.2.2 = 1) : w.2.2.1 ≤ w.2.1 - w.1 := by
  have z : (if w.2.2.2 = 1 then decide (w.2.2.1 ≤ w.2.1 - w.1) else decide (1 ≤ w.2.1 - w.1)) = true := h
  rw [if_pos hf] at z
  exact of_decide_eq_true z
theorem leadS_eq {S : StL} {j d i : Int} {x w : M4} (hij : ¬ i = j) (hx : sget S j = some x) (hw : sget S i = some w) : leadS S j d i = (leadX x w d).map fun y => sput S j y := by
  unfold leadS
  rw [if_neg hij, hx, hw]
theorem leadS_no {S : StL} {j d i : Int} (h : i = j ∨ sget S j = none ∨ (∀ w, sget S i = some w → xLead w = false) ∨ ¬ (d = 0 ∨ d = 1)) : leadS S j d i = none := by
  by_cases hij : i = j
  · unfold leadS
    rw [if_pos hij]
  cases hx : sget S j with
  | none =>
    unfold leadS
    rw [if_neg hij, hx]
  | some x =>
    cases hw : sget S i with
    | none =>
      unfold leadS
      rw [if_neg hij, hx, hw]
    | some w =>
      rw [leadS_eq hij hx hw]
      have e : leadX x w d = none := by
        unfold leadX
        refine if_neg fun z => ?_
        rcases h with h | h | h | h
        · exact hij h
        · rw [hx] at h
          cases h
        · have := h w hw
          rw [z.2.1] at this
          cases this
        · exact h z.1
      rw [e]
      rfl
section
variable {P : Program} {w : World} {K : PySem.W.Frag} {mg : Str → Option Value} {base : Heap} {C : Addr}
theorem ok_led_back {f fP fH fB fS : Addr} {fd fdP fdH fdB fdS : FuncData} (D : DefAt K mg "led_back" s_led_back P_led_back f fd) (D_part : DefAt K mg "part" s_part P_part fP fdP) (D_holds : DefAt K mg "holds" s_holds P_holds fH fdH) (D_back : DefAt K mg "back" s_back P_back fB fdB) (D_step_of : DefAt K mg "step_of" s_step_of P_step_of fS fdS) (B : Bn mg) :
    FnOk P w K mg base CX0 3 f fd P_led_back spLedBack := by
  have G_part : FnOk P w K mg base CX0 2 fP fdP P_part spPart := ok_part D_part D_holds B
  have G_back : FnOk P w K mg base CX0 1 fB fdB P_back spBack := ok_back D_back
  have G_step_of : FnOk P w K mg base CX0 1 fS fdS P_step_of spStep := ok_step D_step_of
  refine D.F.ok sc_led_back (fun vs H Q E h => ?_) (fun cdv A outer s H vs Q E hr h => ?_)
  · obtain ⟨t, w, at_, m, rfl, _⟩ := h
    rfl
  · obtain ⟨t, w, at_, m, rfl, ht, hf01, hl, m1, h1, h2, q⟩ := h
    refine ⟨_, (pss_cons (ps_if (pt_cmpR op_eq (pe_ix ix_tup (pv 0) pe_int (fun _ _ => rfl)) pe_int (nomark _)) (pss_one (ps_ret (pe_ix ix_tup (pe_call G_part (hr.mono (by omega)) (by rfl) D_part.g D_part.F.kp D_part.b .nil pass0 (pa_cons (pe_call G_back (hr.mono (by omega)) (by rfl) D_back.g D_back.F.kp D_back.b .nil pass0 (pa_cons (pv 0) pa_nil)) (pa_cons (pv 1) (pa_cons (pv 2) pa_nil)))) pe_int (fun _ _ => rfl)))) pss_nil)
      (pss_one (ps_ret (pe_op op_add (pe_ix ix_tup (pv 0) pe_int (fun _ _ => rfl)) (pe_op op_mod (pe_op op_sub (pv 1) (pe_ix ix_tup (pv 0) pe_int (fun _ _ => rfl))) (pe_call G_step_of (hr.mono (by omega)) (by rfl) D_step_of.g D_step_of.F.kp D_step_of.b .nil pass0 (pa_cons (pv 0) pa_nil))))))), ?_⟩
    refine ⟨.ref t, rfl, t, _, 3, .int w.2.2.2, rfl, rfl, SqT.of ht, at4_3, rfl, _, rfl, ?_⟩
    unfold ledB at q
    refine ite2 (fun h => ?_) (fun h => ?_)
    · have hf : w.2.2.2 = 1 := V.int.inj (of_decide_eq_true h)
      rw [if_pos hf] at q
      refine ⟨.ref t, rfl, t, w.1, w.2.1, w.2.2.1, w.2.2.2, rfl, ht, fun r nr => ?_⟩
      refine ⟨.int at_, rfl, .int m, rfl, r, w.2.1, w.1, w.2.2.1, w.2.2.2, at_, m, rfl, upd_same, hf01, m1, h1, h2, fun u nu => ?_⟩
      have sm : Same H (upd (upd H r (tup4 w.2.1 w.1 w.2.2.1 w.2.2.2)) u (tup4 at_ (partP w.2.1 w.1 w.2.2.1 w.2.2.2 at_ m) m w.2.2.2)) := (same_upd nr).trans (same_upd nu)
      refine ⟨u, _, 1, _, rfl, rfl, SqT.of upd_same, at4_1, ?_⟩
      unfold partP
      rw [if_pos hf]
      exact q _ (by unfold partP at sm; rw [if_pos hf] at sm; exact sm)
    · have hf : ¬ w.2.2.2 = 1 := fun z => h (decide_eq_true (congrArg V.int z))
      rw [if_neg hf] at q
      have hs := lead_st hl hf
      exact ⟨.ref t, rfl, t, _, 0, .int w.1, rfl, rfl, SqT.of ht, at4_0, .int at_, rfl, .ref t, rfl, t, _, 0, .int w.1, rfl, rfl, SqT.of ht, at4_0, at_, w.1, rfl, rfl, .ref t, rfl, t, w.1, w.2.1, w.2.2.1, w.2.2.2, rfl, ht, _, _, rfl, rfl, by omega, w.1, _, rfl, rfl, q H (Same.refl H)⟩
theorem ok_Flead {f fP fL fB fH fD : Addr} {fd fdP fdL fdB fdH fdD : FuncData} (F : Fun K "lead" "Front.lead" s_Flead f fd) (T : FrT K mg C) (M_put : Meth K C "put" fP) (G_put : FnOk P w K mg base CX0 3 fP fdP P_Fput (spPut C)) (b_put : Binds K fdP P_Fput [])
    (M_leader : Meth K C "leader" fL) (G_leader : FnOk P w K mg base CX0 3 fL fdL P_Fleader (spLeader C)) (b_leader : Binds K fdL P_Fleader []) (D_back : DefAt K mg "back" s_back P_back fB fdB) (D_holds : DefAt K mg "holds" s_holds P_holds fH fdH)
    (D_led_back : DefAt K mg "led_back" s_led_back P_led_back fD fdD) (G_led_back : FnOk P w K mg base CX0 3 fD fdD P_led_back spLedBack) (B : Bn mg) : FnOk P w K mg base CX0 4 f fd P_Flead (spFlead C) := by
  have G_back : FnOk P w K mg base CX0 1 fB fdB P_back spBack := ok_back D_back
  have G_holds : FnOk P w K mg base CX0 1 fH fdH P_holds spHolds := ok_holds D_holds B
  refine F.ok sc_Flead (fun vs H Q E h => ?_) (fun cdv A outer s H vs Q E hr h => ?_)
  · obtain ⟨a, s, q, j, d, i, X, rfl, _⟩ := h
    rfl
  · obtain ⟨a, s, q, j, d, i, X, rfl, ⟨ps, fa, hp⟩, wf, af⟩ := h
    have hu := hu_of hr
    refine ⟨_, (pss_cons (ps_set (i := 4) sc_Flead.nd rfl (.inl rfl) (pe_dget1 hu (pe_fld (pv 0) rfl) (pv 1) ⟨rfl, rfl, rfl, rfl⟩))
      (pss_cons (ps_set (i := 5) sc_Flead.nd rfl (.inl rfl) (pe_meth (pv 0) T.cl M_leader G_leader (hr.mono (by omega)) b_leader .nil pass0 (pa_cons (pv 3) pa_nil)))
      (pss_cons (ps_if (PW.pt (pw_or (pt_cmpR op_eq (pv 3) (pv 1) (nomark _)) (pw_or (pt_cmpR op_notIn_seq (pv 2) (pe_tup (pa_cons pe_int (pa_cons pe_int pa_nil))) (by rfl)) (pw_or (pt_cmpR op_isN (pv 4) pe_non (nomark _)) (pw_or1 (pt_cmpR op_isN (pv 5) pe_non (nomark _))))))) (pss_one (ps_ret pe_bl)) pss_nil)
      (pss_cons (ps_asg (pv 4) (pg_tup (by rfl) (pgs_cons (pg_name (i := 6) sc_Flead.nd rfl (.inl rfl)) (pgs_cons (pg_name (i := 7) sc_Flead.nd rfl (.inl rfl)) (pgs_cons (pg_name (i := 8) sc_Flead.nd rfl (.inl rfl)) (pgs_cons (pg_name (i := 9) sc_Flead.nd rfl (.inl rfl)) pgs_nil))))))
      (pss_cons (ps_set (i := 10) sc_Flead.nd rfl (.inl rfl) (pe_ifExp (pt_cmpR op_eq (pv 2) pe_int (nomark _)) (pv 7) (pv 6)))
      (pss_cons (ps_if (pt_not (pt_val (pe_call G_holds (hr.mono (by omega)) (by rfl) D_holds.g D_holds.F.kp D_holds.b .nil pass0 (pa_cons (pe_call G_back (hr.mono (by omega)) (by rfl) D_back.g D_back.F.kp D_back.b .nil pass0 (pa_cons (pv 5) pa_nil)) (pa_cons (pv 10) (pa_cons (pv 8) pa_nil)))))) (pss_one (ps_ret pe_bl)) pss_nil)
      (pss_cons (ps_set (i := 11) sc_Flead.nd rfl (.inl rfl) (pe_call G_led_back (hr.mono (by omega)) (by rfl) D_led_back.g D_led_back.F.kp D_led_back.b .nil pass0 (pa_cons (pv 5) (pa_cons (pv 10) (pa_cons (pv 8) pa_nil)))))
      (pss_cons (ps_if (pt_cmpR op_eq (pv 2) pe_int (nomark _)) (pss_one (ps_set (i := 7) sc_Flead.nd rfl (.inl rfl) (pv 11))) (pss_one (ps_set (i := 6) sc_Flead.nd rfl (.inl rfl) (pv 11))))
      (pss_cons (ps_expr (pe_meth (pv 0) T.cl M_put G_put (hr.mono (by omega)) b_put .nil pass0 (pa_cons (pv 1) (pa_cons (pe_tup (pa_cons (pv 6) (pa_cons (pv 7) (pa_cons (pv 8) (pa_cons (pe_op op_xor (pv 9) (pe_ix ix_tup (pv 5) pe_int (fun _ _ => rfl))) pa_nil))))) pa_nil))))
      (pss_one (ps_ret pe_bl))))))))))), ?_⟩
    obtain ⟨dx, ea⟩ := fa.at_a
    obtain ⟨o, g, g1, g2⟩ := get_at (i := j) fa
    obtain ⟨o', g', g1', g2'⟩ := get_at (i := i) fa
    obtain ⟨h1, h2⟩ := After.ofS (r := leadS X.S j d i) fa hp af
    have no : ∀ H', Same H H' → leadS X.S j d i = none → Q (.bl false) H' := fun H' sm e => h1 e H' (fa.same sm) (Off.of_same sm)
    refine ⟨.ref a, rfl, a, C, dx, _, _, rfl, ea, T.cl, T.nS, fr_standing X.e s q, s, rfl, isD_of fa, .int j, rfl, o, g, ?_⟩
    -- the leader
    refine ⟨.ref a, rfl, a, dx, _, rfl, ea, put_no, .int i, rfl, a, s, q, X.e, i, X.S, ps, rfl, fa, fun w t hw hlw htw => ?_, fun hno => ?_⟩
    · refine ⟨.int i, rfl, .int j, rfl, rfl, _, rfl, ?_⟩
      refine ite2 (fun h => ?_) (fun h => ?_)
      · have h' : i = j := V.int.inj (of_decide_eq_true h)
        exact no H (Same.refl H) (leadS_no (.inl h'))
      · have hij : ¬ i = j := fun z => h (decide_eq_true (congrArg V.int z))
        refine ⟨.int d, rfl, by show 2 ≤ sizeLine; decide, fun tp ntp => ?_⟩
        have s1 := same_upd (H := H) (o := .tup [.int 0, .int 1]) ntp
        refine ⟨tp, _, rfl, .inr (SqT.of upd_same), rfl, rfl, _, rfl, ?_⟩
        rw [if_pos rfl, inV01]
        by_cases hd : d = 0 ∨ d = 1
        · rw [decide_eq_true hd]
          refine iteF ?_
          cases hx : sget X.S j with
          | none =>
            rw [g1 hx]
            exact ⟨.non, rfl, rfl, _, rfl, iteT (no _ s1 (leadS_no (.inr (.inl hx))))⟩
          | some x =>
            obtain ⟨tx, rfl, htx⟩ := g2 x hx
            have rx := wf.at hx
            have rw_ := wf.at hw
            have htx1 := s1 _ _ htx
            have htw1 := s1 _ _ htw
            refine ⟨.ref tx, rfl, rfl, _, rfl, iteF ?_⟩
            refine ⟨.ref t, rfl, rfl, _, rfl, iteF ?_⟩
            refine ⟨.ref tx, rfl, tx, _, rfl, SqT.of htx1, rfl, .int x.1, _, rfl, .int x.2.1, _, rfl, .int x.2.2.1, _, rfl, .int x.2.2.2, _, rfl, rfl, ?_⟩
            rcases id hd with rfl | rfl
            · skip
              refine ⟨.int 0, rfl, rfl, _, rfl, ite2 (fun h => absurd (of_decide_eq_true h) (by decide)) (fun _ => ⟨.int x.1, rfl, ?_⟩)⟩
              refine ⟨.ref t, rfl, t, w.1, w.2.1, w.2.2.1, w.2.2.2, rfl, htw1, fun r nr => ?_⟩
              have s2 := s1.trans (same_upd (o := tup4 w.2.1 w.1 w.2.2.1 w.2.2.2) nr)
              have htw2 := s2 _ _ htw
              refine ⟨.int x.1, rfl, .int x.2.2.1, rfl, r, w.2.1, w.1, w.2.2.1, w.2.2.2, .int x.1, .int x.2.2.1, rfl, upd_same, .inr (.inr ⟨x.1, x.2.2.1, rfl, rfl, ?_⟩)⟩
              refine ⟨_, rfl, ?_⟩
              by_cases hc : 1 ≤ x.2.2.1 ∧ w.2.1 ≤ x.1 ∧ x.1 + x.2.2.1 ≤ w.2.1 + w.2.2.1
              · rw [decide_eq_true hc]
                refine iteF ?_
                have el : leadX x w 0 = some (nrm (ledB w x.1 x.2.2.1, x.2.1, x.2.2.1, Builtin.bitXor x.2.2.2 w.2.2.2)) := by
                  rw [xor_is rx.f01 rw_.f01]
                  exact if_pos ⟨hd, hlw, hc.2.1, hc.2.2⟩
                refine ⟨.ref t, rfl, .int x.1, rfl, .int x.2.2.1, rfl, t, w, x.1, x.2.2.1, rfl, htw2, rw_.f01, hlw, hc.1, hc.2.1, hc.2.2, fun H3 s3 => ?_⟩
                have s4 := s2.trans s3
                refine ⟨.int 0, rfl, rfl, _, rfl, ite2 (fun h => absurd (of_decide_eq_true h) (by decide)) (fun _ => ⟨.int (ledB w x.1 x.2.2.1), rfl, ?_⟩)⟩
                refine ⟨.ref a, rfl, a, dx, _, rfl, s4 _ _ ea, put_no, .int j, rfl, .int (ledB w x.1 x.2.2.1), rfl, .int (x.2.1), rfl, .int x.2.2.1, rfl, .int x.2.2.2, rfl, .ref t, rfl, t, _, 3, .int w.2.2.2, rfl, rfl, SqT.of (s4 _ _ htw), at4_3, x.2.2.2, w.2.2.2, rfl, rfl, by show 4 ≤ sizeLine; decide, fun u nu => ?_⟩
                have s5 := s4.trans (same_upd (o := t4 (ledB w x.1 x.2.2.1, x.2.1, x.2.2.1, Builtin.bitXor x.2.2.2 w.2.2.2)) nu)
                refine ⟨a, s, q, X.e, j, X.S, ps, .ref u, x, rfl, fa.same s5, hx, .inr ⟨u, (ledB w x.1 x.2.2.1, x.2.1, x.2.2.1, Builtin.bitXor x.2.2.2 w.2.2.2), rfl, upd_same, fun H' f1 o1 => ?_⟩⟩
                exact h2 _ (by rw [leadS_eq hij hx hw, el]; rfl) H' f1 ((Off.of_same s5).trans o1)
              · rw [decide_eq_false hc]
                refine iteT ?_
                refine no _ s2 ?_
                have el : leadX x w 0 = none := if_neg fun z => hc ⟨rx.m1, z.2.2.1, z.2.2.2⟩
                rw [leadS_eq hij hx hw, el]
                rfl
            · skip
              refine ⟨.int 1, rfl, rfl, _, rfl, ite2 (fun _ => ⟨.int x.2.1, rfl, ?_⟩) (fun h => absurd (decide_eq_true rfl) h)⟩
              refine ⟨.ref t, rfl, t, w.1, w.2.1, w.2.2.1, w.2.2.2, rfl, htw1, fun r nr => ?_⟩
              have s2 := s1.trans (same_upd (o := tup4 w.2.1 w.1 w.2.2.1 w.2.2.2) nr)
              have htw2 := s2 _ _ htw
              refine ⟨.int x.2.1, rfl, .int x.2.2.1, rfl, r, w.2.1, w.1, w.2.2.1, w.2.2.2, .int x.2.1, .int x.2.2.1, rfl, upd_same, .inr (.inr ⟨x.2.1, x.2.2.1, rfl, rfl, ?_⟩)⟩
              refine ⟨_, rfl, ?_⟩
              by_cases hc : 1 ≤ x.2.2.1 ∧ w.2.1 ≤ x.2.1 ∧ x.2.1 + x.2.2.1 ≤ w.2.1 + w.2.2.1
              · rw [decide_eq_true hc]
                refine iteF ?_
                have el : leadX x w 1 = some (nrm (x.1, ledB w x.2.1 x.2.2.1, x.2.2.1, Builtin.bitXor x.2.2.2 w.2.2.2)) := by
                  rw [xor_is rx.f01 rw_.f01]
                  exact if_pos ⟨hd, hlw, hc.2.1, hc.2.2⟩
                refine ⟨.ref t, rfl, .int x.2.1, rfl, .int x.2.2.1, rfl, t, w, x.2.1, x.2.2.1, rfl, htw2, rw_.f01, hlw, hc.1, hc.2.1, hc.2.2, fun H3 s3 => ?_⟩
                have s4 := s2.trans s3
                refine ⟨.int 1, rfl, rfl, _, rfl, ite2 (fun _ => ⟨.int (ledB w x.2.1 x.2.2.1), rfl, ?_⟩) (fun h => absurd (decide_eq_true rfl) h)⟩
                refine ⟨.ref a, rfl, a, dx, _, rfl, s4 _ _ ea, put_no, .int j, rfl, .int (x.1), rfl, .int (ledB w x.2.1 x.2.2.1), rfl, .int x.2.2.1, rfl, .int x.2.2.2, rfl, .ref t, rfl, t, _, 3, .int w.2.2.2, rfl, rfl, SqT.of (s4 _ _ htw), at4_3, x.2.2.2, w.2.2.2, rfl, rfl, by show 4 ≤ sizeLine; decide, fun u nu => ?_⟩
                have s5 := s4.trans (same_upd (o := t4 (x.1, ledB w x.2.1 x.2.2.1, x.2.2.1, Builtin.bitXor x.2.2.2 w.2.2.2)) nu)
                refine ⟨a, s, q, X.e, j, X.S, ps, .ref u, x, rfl, fa.same s5, hx, .inr ⟨u, (x.1, ledB w x.2.1 x.2.2.1, x.2.2.1, Builtin.bitXor x.2.2.2 w.2.2.2), rfl, upd_same, fun H' f1 o1 => ?_⟩⟩
                exact h2 _ (by rw [leadS_eq hij hx hw, el]; rfl) H' f1 ((Off.of_same s5).trans o1)
              · rw [decide_eq_false hc]
                refine iteT ?_
                refine no _ s2 ?_
                have el : leadX x w 1 = none := if_neg fun z => hc ⟨rx.m1, z.2.2.1, z.2.2.2⟩
                rw [leadS_eq hij hx hw, el]
                rfl
        · rw [decide_eq_false hd]
          refine iteT ?_
          exact no _ s1 (leadS_no (.inr (.inr (.inr hd))))
    · -- no leader
      refine ⟨.int i, rfl, .int j, rfl, rfl, _, rfl, ?_⟩
      refine ite2 (fun h => ?_) (fun h => ?_)
      · exact no H (Same.refl H) (leadS_no (.inr (.inr (.inl hno))))
      · refine ⟨.int d, rfl, by show 2 ≤ sizeLine; decide, fun tp ntp => ?_⟩
        have s1 := same_upd (H := H) (o := .tup [.int 0, .int 1]) ntp
        refine ⟨tp, _, rfl, .inr (SqT.of upd_same), rfl, rfl, _, rfl, ?_⟩
        rw [if_pos rfl, inV01]
        by_cases hd : d = 0 ∨ d = 1
        · rw [decide_eq_true hd]
          refine iteF ?_
          cases hx : sget X.S j with
          | none =>
            rw [g1 hx]
            exact ⟨.non, rfl, rfl, _, rfl, iteT (no _ s1 (leadS_no (.inr (.inl hx))))⟩
          | some x =>
            obtain ⟨tx, rfl, htx⟩ := g2 x hx
            refine ⟨.ref tx, rfl, rfl, _, rfl, iteF ?_⟩
            exact ⟨.non, rfl, rfl, _, rfl, iteT (no _ s1 (leadS_no (.inr (.inr (.inl hno)))))⟩
        · rw [decide_eq_false hd]
          refine iteT ?_
          exact no _ s1 (leadS_no (.inr (.inr (.inl hno))))
end

/-! ### clipped -/
abbrev N_clipped : List Str := ["mating", "length", "one", "other", "many", "turned", "low", "end"]
abbrev P_clipped : List Str := ["mating", "length"]
theorem sc_clipped : FnScope N_clipped P_clipped (defScope s_clipped) := ⟨rfl, rfl, rfl, by decide +kernel, rfl, by decide +kernel, by decide +kernel⟩
def clipLo (o p m f n : Int) : Int := if f = 1 then o + (if p + m - n > 0 then p + m - n else 0) else o
def clipHi (o p m f n : Int) : Int := if f = 1 then (if n < o + m then n else o + m) else (if o + n - p < (if n < o + m then n else o + m) then o + n - p else (if n < o + m then n else o + m))
def spClipped : Sp := fun vs H Q _ => ∃ (t : Addr) (o p m f n : Int), vs = [.ref t, .int n] ∧ H t = some (tup4 o p m f) ∧ (f = 0 ∨ f = 1) ∧
  (clipHi o p m f n ≤ clipLo o p m f n → Q .non H) ∧ (clipLo o p m f n < clipHi o p m f n → ∀ r, H r = none → Q (.ref r) (upd H r (tup4 (clipLo o p m f n) (partP o p m f (clipLo o p m f n) (clipHi o p m f n - clipLo o p m f n)) (clipHi o p m f n - clipLo o p m f n) f)))
theorem clip_lo (o p m f n : Int) : o ≤ clipLo o p m f n := by
  unfold clipLo
  split
  · split <;> omega
  · omega
theorem clip_hi (o p m f n : Int) : clipHi o p m f n ≤ o + m := by
  unfold clipHi
  split
  · split <;> omega
  · split
    · split at * <;> omega
    · split <;> omega
section
variable {P : Program} {w : World} {K : PySem.W.Frag} {mg : Str → Option Value} {base : Heap}
theorem ok_clipped {f fH fP : Addr} {fd fdH fdP : FuncData} (D : DefAt K mg "clipped" s_clipped P_clipped f fd) (D_part : DefAt K mg "part" s_part P_part fP fdP) (D_holds : DefAt K mg "holds" s_holds P_holds fH fdH) (B : Bn mg) : FnOk P w K mg base CX0 3 f fd P_clipped spClipped := by
  have G_part : FnOk P w K mg base CX0 2 fP fdP P_part spPart := ok_part D_part D_holds B
  refine D.F.ok sc_clipped (fun vs H Q E h => ?_) (fun cdv A outer s H vs Q E hr h => ?_)
  · obtain ⟨t, o, p, m, f, n, rfl, _⟩ := h
    rfl
  · obtain ⟨t, o, p, m, f, n, rfl, ht, hf, q1, q2⟩ := h
    refine ⟨_, (pss_cons (ps_asg (pv 0) (pg_tup (by rfl) (pgs_cons (pg_name (i := 2) sc_clipped.nd rfl (.inl rfl)) (pgs_cons (pg_name (i := 3) sc_clipped.nd rfl (.inl rfl)) (pgs_cons (pg_name (i := 4) sc_clipped.nd rfl (.inl rfl)) (pgs_cons (pg_name (i := 5) sc_clipped.nd rfl (.inl rfl)) pgs_nil))))))
      (pss_cons (ps_set (i := 6) sc_clipped.nd rfl (.inl rfl) (pv 2))
      (pss_cons (ps_set (i := 7) sc_clipped.nd rfl (.inl rfl) (pe_callB (call_min2 rfl) (by rfl) B.min (by decide +kernel) (pa_cons (pe_op op_add (pv 2) (pv 4)) (pa_cons (pv 1) pa_nil))))
      (C8.pss_cut (ps_if (pt_cmpR op_eq (pv 5) pe_int (nomark _)) (pss_one (ps_set (i := 6) sc_clipped.nd rfl (.inl rfl) (pe_op op_add (pv 2) (pe_callB (call_max2 rfl) (by rfl) B.max (by decide +kernel) (pa_cons pe_int (pa_cons (pe_op op_sub (pe_op op_add (pv 3) (pv 4)) (pv 1)) pa_nil)))))) (pss_one (ps_set (i := 7) sc_clipped.nd rfl (.inl rfl) (pe_callB (call_min2 rfl) (by rfl) B.min (by decide +kernel) (pa_cons (pv 7) (pa_cons (pe_op op_sub (pe_op op_add (pv 2) (pv 1)) (pv 3)) pa_nil))))))
      (pss_cons (ps_if (pt_cmpR op_le (pv 7) (pv 6) (nomark _)) (pss_one (ps_ret pe_non)) pss_nil)
      (pss_one (ps_ret (pe_call G_part (hr.mono (by omega)) (by rfl) D_part.g D_part.F.kp D_part.b .nil pass0 (pa_cons (pv 0) (pa_cons (pv 6) (pa_cons (pe_op op_sub (pv 7) (pv 6)) pa_nil))))))))))), ?_⟩
    refine ⟨.ref t, rfl, t, _, rfl, SqT.of ht, rfl, .int o, _, rfl, .int p, _, rfl, .int m, _, rfl, .int f, _, rfl, rfl, ?_⟩
    refine ⟨.int o, rfl, ?_⟩
    refine ⟨.int o, rfl, .int m, rfl, o, m, rfl, rfl, .int n, rfl, _, n, rfl, ?_⟩
    refine ⟨fun σ H' => σ = [some (.ref t), some (.int n), some (.int o), some (.int p), some (.int m), some (.int f), some (.int (clipLo o p m f n)), some (.int (clipHi o p m f n))] ∧ H' = H, ?_, ?_⟩
    · refine ⟨.int f, rfl, rfl, _, rfl, ?_⟩
      refine ite2 (fun h => ?_) (fun h => ?_)
      · have hf1 : f = 1 := V.int.inj (of_decide_eq_true h)
        refine ⟨.int o, rfl, .int p, rfl, .int m, rfl, p, m, rfl, rfl, .int n, rfl, _, n, rfl, rfl, 0, _, rfl, o, _, rfl, rfl, ?_, rfl⟩
        unfold clipLo clipHi
        rw [if_pos hf1, if_pos hf1]
        rfl
      · have hf1 : ¬ f = 1 := fun z => h (decide_eq_true (congrArg V.int z))
        refine ⟨_, rfl, .int o, rfl, .int n, rfl, o, n, rfl, rfl, .int p, rfl, _, p, rfl, rfl, _, _, rfl, ?_, rfl⟩
        unfold clipLo clipHi
        rw [if_neg hf1, if_neg hf1]
        rfl
    · rintro σ H' ⟨rfl, rfl⟩
      refine ⟨.int (clipHi o p m f n), rfl, .int (clipLo o p m f n), rfl, _, _, rfl, rfl, _, rfl, ?_⟩
      refine ite2 (fun h => ?_) (fun h => ?_)
      · exact q1 (of_decide_eq_true h)
      · have hlt : clipLo o p m f n < clipHi o p m f n := by
          have : ¬ clipHi o p m f n ≤ clipLo o p m f n := fun z => h (decide_eq_true z)
          omega
        have h1 := clip_lo o p m f n
        have h2 := clip_hi o p m f n
        refine ⟨.ref t, rfl, .int (clipLo o p m f n), rfl, .int (clipHi o p m f n), rfl, .int (clipLo o p m f n), rfl, _, _, rfl, rfl, t, o, p, m, f, _, _, rfl, ht, hf, by omega, h1, by omega, fun r hr' => ?_⟩
        exact q2 hlt r hr'
end

/-! ### fold -/
abbrev N_Ffold : List Str := ["self", "i", "m", "leader", "step"]
abbrev P_Ffold : List Str := ["self", "i", "m"]
theorem sc_Ffold : FnScope N_Ffold P_Ffold (defScope s_Ffold) := ⟨rfl, rfl, rfl, by decide +kernel, rfl, by decide +kernel, by decide +kernel⟩
abbrev N_Ftop : List Str := ["self"]
abbrev P_Ftop : List Str := ["self"]
theorem sc_Ftop : FnScope N_Ftop P_Ftop (defScope s_Ftop) := ⟨rfl, rfl, rfl, by decide +kernel, rfl, by decide +kernel, by decide +kernel⟩
abbrev N_Fled_on : List Str := ["self"]
abbrev P_Fled_on : List Str := ["self"]
theorem sc_Fled_on : FnScope N_Fled_on P_Fled_on (defScope s_Fled_on) := ⟨rfl, rfl, rfl, by decide +kernel, rfl, by decide +kernel, by decide +kernel⟩
def spFfold (C : Addr) : Sp := fun vs H Q _ => ∃ (a s q : Addr) (i m : Int) (X : FS), vs = [.ref a, .int i, .int m] ∧ FrS C H a s q X ∧ WF X ∧ X.L.length ≤ 1000 ∧ AfterS C H a s q X (mkS X (.fold i m)) Q
def spTop (C : Addr) : Sp := fun vs H Q _ => ∃ (a s q : Addr) (e : Int) (S : StL) (ps : List V), vs = [.ref a] ∧ FrAt C H a s q e S ps ∧ Q (.int e) H
def spLedOn (C : Addr) : Sp := fun vs H Q _ => ∃ (a s q : Addr) (e : Int) (S : StL) (ps : List V), vs = [.ref a] ∧ FrAt C H a s q e S ps ∧ ∀ r, H r = none → Q (.ref r) (upd H r (.lst ps))
/-- what is left of a leader by a fold -/
theorem clip_cut {x : M4} {e m : Int} (hx : Rok e x) (hl : xLead x = true) (h1 : x.2.1 ≤ m) (h2 : m < x.2.1 + x.2.2.1) :
    clipLo x.1 x.2.1 x.2.2.1 x.2.2.2 m = (cutX x m).1 ∧ clipHi x.1 x.2.1 x.2.2.1 x.2.2.2 m - clipLo x.1 x.2.1 x.2.2.1 x.2.2.2 m = m - x.2.1 ∧ partP x.1 x.2.1 x.2.2.1 x.2.2.2 (clipLo x.1 x.2.1 x.2.2.1 x.2.2.2 m) (clipHi x.1 x.2.1 x.2.2.1 x.2.2.2 m - clipLo x.1 x.2.1 x.2.2.1 x.2.2.2 m) = x.2.1 := by
  have g1 := hx.op
  have g2 := hx.o0
  unfold clipLo clipHi partP cutX
  by_cases hf : x.2.2.2 = 1
  · have z := lead_tu hl hf
    simp only [if_pos hf]
    rw [if_pos (by omega), if_neg (by omega)]
    omega
  · have z := lead_st hl hf
    simp only [if_neg hf]
    rw [if_pos (by split <;> omega)]
    refine ⟨trivial, ?_, ?_⟩ <;> omega
section
variable {P : Program} {w : World} {K : PySem.W.Frag} {mg : Str → Option Value} {base : Heap} {C : Addr}
theorem ok_top {f : Addr} {fd : FuncData} (F : Fun K "top" "Front.top" s_Ftop f fd) (T : FrT K mg C) : FnOk P w K mg base CX0 1 f fd P_Ftop (spTop C) := by
  refine F.ok sc_Ftop (fun vs H Q E h => ?_) (fun cdv A outer s H vs Q E hr h => ?_)
  · obtain ⟨a, s, q, e, S, ps, rfl, _⟩ := h
    rfl
  · obtain ⟨a, s, q, e, S, ps, rfl, fa, qq⟩ := h
    refine ⟨_, (pss_one (ps_ret (pe_fld (pv 0) rfl))), ?_⟩
    obtain ⟨dx, ea⟩ := fa.at_a
    exact ⟨.ref a, rfl, a, C, dx, _, _, rfl, ea, T.cl, T.nE, fr_edge e s q, qq⟩
theorem ok_led_on {f : Addr} {fd : FuncData} (F : Fun K "led_on" "Front.led_on" s_Fled_on f fd) (T : FrT K mg C) (B : Bn mg) : FnOk P w K mg base CX0 1 f fd P_Fled_on (spLedOn C) := by
  refine F.ok sc_Fled_on (fun vs H Q E h => ?_) (fun cdv A outer s H vs Q E hr h => ?_)
  · obtain ⟨a, s, q, e, S, ps, rfl, _⟩ := h
    rfl
  · obtain ⟨a, s, q, e, S, ps, rfl, fa, qq⟩ := h
    refine ⟨_, (pss_one (ps_ret (pe_callTy call_list_of (by rfl) B.list (by decide +kernel) (pa_cons (pe_fld (pv 0) rfl) pa_nil)))), ?_⟩
    obtain ⟨dx, ea⟩ := fa.at_a
    exact ⟨.ref a, rfl, a, C, dx, _, _, rfl, ea, T.cl, T.nP, fr_past e s q, q, _, rfl, .inl (SqL.of fa.at_q), fun r nr => qq r nr⟩
theorem ok_Ffold {f fP fL fR fE fS fC : Addr} {fd fdP fdL fdR fdE fdS fdC : FuncData} (F : Fun K "fold" "Front.fold" s_Ffold f fd) (T : FrT K mg C) (M_put : Meth K C "put" fP) (G_put : FnOk P w K mg base CX0 3 fP fdP P_Fput (spPut C)) (b_put : Binds K fdP P_Fput [])
    (M_leader : Meth K C "leader" fL) (G_leader : FnOk P w K mg base CX0 3 fL fdL P_Fleader (spLeader C)) (b_leader : Binds K fdL P_Fleader []) (M_reach : Meth K C "reach" fR) (G_reach : FnOk P w K mg base CX0 2 fR fdR P_Freach (spReach C)) (b_reach : Binds K fdR P_Freach [])
    (D_end_of : DefAt K mg "end_of" s_end_of P_end_of fE fdE) (D_step_of : DefAt K mg "step_of" s_step_of P_step_of fS fdS) (D_clipped : DefAt K mg "clipped" s_clipped P_clipped fC fdC) (G_clipped : FnOk P w K mg base CX0 3 fC fdC P_clipped spClipped) : FnOk P w K mg base CX0 4 f fd P_Ffold (spFfold C) := by
  have G_end_of : FnOk P w K mg base CX0 1 fE fdE P_end_of spEnd := ok_end D_end_of
  have G_step_of : FnOk P w K mg base CX0 1 fS fdS P_step_of spStep := ok_step D_step_of
  refine F.ok sc_Ffold (fun vs H Q E h => ?_) (fun cdv A outer s H vs Q E hr h => ?_)
  · obtain ⟨a, s, q, i, m, X, rfl, _⟩ := h
    rfl
  · obtain ⟨a, s, q, i, m, X, rfl, fS, wf, hL, h1, h2⟩ := h
    have ea0 : ∃ ps, FrAt C H a s q X.e X.S ps ∧ Past H ps X.L := fS
    obtain ⟨ps, fa, hp⟩ := ea0
    refine ⟨_, (pss_cons (ps_set (i := 3) sc_Ffold.nd rfl (.inl rfl) (pe_meth (pv 0) T.cl M_leader G_leader (hr.mono (by omega)) b_leader .nil pass0 (pa_cons (pv 1) pa_nil)))
      (pss_cons (ps_if (PW.pt (pw_or (pt_cmpR op_isN (pv 3) pe_non (nomark _)) (pw_or1 (pt_cmpR op_ne (pe_call G_end_of (hr.mono (by omega)) (by rfl) D_end_of.g D_end_of.F.kp D_end_of.b .nil pass0 (pa_cons (pv 3) pa_nil)) (pe_fld (pv 0) rfl) (nomark _))))) (pss_one (ps_ret pe_bl)) pss_nil)
      (pss_cons (ps_if (PW.pt (pw_or (pt_cmpR op_lt (pv 2) (pe_ix ix_tup (pv 3) pe_int (fun _ _ => rfl)) (nomark _)) (pw_or (pt_cmpR op_ge (pv 2) (pe_fld (pv 0) rfl) (nomark _)) (pw_or1 (pt_cmpR op_lt (pv 2) (pe_meth (pv 0) T.cl M_reach G_reach (hr.mono (by omega)) b_reach .nil pass0 (pa_cons (pv 1) pa_nil)) (nomark _)))))) (pss_one (ps_ret pe_bl)) pss_nil)
      (C8.pss_cut (ps_set (i := 4) sc_Ffold.nd rfl (.inl rfl) (pe_ifExp (pt_cmpR op_eq (pe_ix ix_tup (pv 3) pe_int (fun _ _ => rfl)) pe_int (nomark _)) pe_int (pe_call G_step_of (hr.mono (by omega)) (by rfl) D_step_of.g D_step_of.F.kp D_step_of.b .nil pass0 (pa_cons (pv 3) pa_nil))))
      (pss_cons (ps_expr (pe_bm PySem.F.plainAttrs_list PySem.F.slot_list_append PySem.F.type_list_append mt_append (pe_fld (pv 0) rfl) (pa_cons (pe_tup (pa_cons pe_str (pa_cons (pv 2) (pa_cons (pe_fld (pv 0) rfl) (pa_cons (pe_ix ix_tup (pv 3) pe_int (fun _ _ => rfl)) (pa_cons (pv 4) (pa_cons (pe_ix ix_tup (pv 3) pe_int (fun _ _ => rfl)) pa_nil))))))) pa_nil)))
      (pss_cons (ps_expr (pe_meth (pv 0) T.cl M_put G_put (hr.mono (by omega)) b_put .nil pass0 (pa_cons (pv 1) (pa_cons (pe_call G_clipped (hr.mono (by omega)) (by rfl) D_clipped.g D_clipped.F.kp D_clipped.b .nil pass0 (pa_cons (pv 3) (pa_cons (pv 2) pa_nil))) pa_nil))))
      (pss_cons (ps_fld (pv 0) (pv 2) rfl)
      (pss_one (ps_ret pe_bl))))))))), ?_⟩
    obtain ⟨dx, ea⟩ := fa.at_a
    have no : ∀ H', Same H H' → foldS X i m = none → Q (.bl false) H' := fun H' sm e => h1 e H' (fS.same sm) (Off.of_same sm)
    refine ⟨.ref a, rfl, a, dx, _, rfl, ea, put_no, .int i, rfl, a, s, q, X.e, i, X.S, ps, rfl, fa, fun x t hx hlx htx => ?_, fun hno => ?_⟩
    · have rx := wf.at hx
      have e0 : foldS X i m = if xLead x = true ∧ x.2.1 + x.2.2.1 = X.e ∧ x.2.1 ≤ m ∧ m < X.e ∧ rch X.S (some i) ≤ m then
          some ⟨m, if m - x.2.1 = 0 then sdrop X.S i else sput X.S i (cutX x m), X.L ++ [.fold m X.e x.1 (if x.2.2.2 = 1 then 0 else x.2.1 - x.1) x.2.2.2]⟩ else none := by
        unfold foldS
        rw [hx]
      refine ⟨.ref t, rfl, rfl, _, rfl, iteF ?_⟩
      refine ⟨.ref t, rfl, t, x.1, x.2.1, x.2.2.1, x.2.2.2, rfl, htx, .ref a, rfl, a, C, dx, _, _, rfl, ea, T.cl, T.nE, fr_edge X.e s q, rfl, _, rfl, ?_⟩
      by_cases hE : x.2.1 + x.2.2.1 = X.e
      · refine iteNS (congrArg V.int hE) ?_
        refine ⟨.int m, rfl, .ref t, rfl, t, _, 1, .int x.2.1, rfl, rfl, SqT.of htx, at4_1, m, x.2.1, rfl, rfl, _, rfl, ?_⟩
        refine ite2 (fun h => ?_) (fun h => ?_)
        · exact no H (Same.refl H) (by rw [e0]; exact if_neg fun z => by have := of_decide_eq_true h; omega)
        · have h' : ¬ m < x.2.1 := fun z => h (decide_eq_true z)
          refine ⟨.int m, rfl, .ref a, rfl, a, C, dx, _, _, rfl, ea, T.cl, T.nE, fr_edge X.e s q, m, X.e, rfl, rfl, _, rfl, ?_⟩
          refine ite2 (fun h3 => ?_) (fun h3 => ?_)
          · exact no H (Same.refl H) (by rw [e0]; exact if_neg fun z => by have := of_decide_eq_true h3; omega)
          · have h3' : ¬ X.e ≤ m := fun z => h3 (decide_eq_true z)
            refine ⟨.int m, rfl, .ref a, rfl, a, dx, _, rfl, ea, put_no, .int i, rfl, a, s, q, .int i, some i, X, rfl, .inr ⟨i, rfl, rfl⟩, fS, wf, fun H1 s1 => ?_⟩
            refine ⟨m, _, rfl, rfl, _, rfl, ?_⟩
            refine ite2 (fun h4 => ?_) (fun h4 => ?_)
            · exact no H1 s1 (by rw [e0]; exact if_neg fun z => by have := of_decide_eq_true h4; omega)
            · have h4' : ¬ m < rch X.S (some i) := fun z => h4 (decide_eq_true z)
              rw [if_pos ⟨hlx, hE, by omega, by omega, by omega⟩] at e0
              obtain ⟨k1, k2, k3⟩ := clip_cut (m := m) rx hlx (by omega) (by omega)
              have htx1 := s1 _ _ htx
              have ea1 := s1 _ _ ea
              have fa1 := fa.same s1
              have hp1 := hp.keep (fun b xs hb => s1 b _ hb)
              have hpl := hp.length
              -- the step
              have fin : ∀ st : Int, st = (if x.2.2.2 = 1 then 0 else x.2.1 - x.1) → ∀ t2, H1 t2 = none → ∃ H5, H5 = upd (upd H1 t2 (.tup [.str "fold", .int m, .int X.e, .int x.1, .int st, .int x.2.2.2])) q (.lst (ps ++ [.ref t2])) ∧ FrAt C H5 a s q X.e X.S (ps ++ [.ref t2]) ∧ Past H5 (ps ++ [.ref t2]) (X.L ++ [.fold m X.e x.1 (if x.2.2.2 = 1 then 0 else x.2.1 - x.1) x.2.2.2]) ∧ Off a s q H H5 ∧ H5 t = some (t4 x) := by
                rintro st rfl t2 n2
                have s2 := same_upd (H := H1) (o := .tup [.str "fold", .int m, .int X.e, .int x.1, .int (if x.2.2.2 = 1 then 0 else x.2.1 - x.1), .int x.2.2.2]) n2
                have fa2 := fa1.same s2
                obtain ⟨fa3, o3⟩ := fa2.past (ps' := ps ++ [.ref t2])
                have ks := fa2.offT o3
                exact ⟨_, rfl, fa3, Past.snoc ⟨t2, rfl, ks _ _ upd_same⟩ ((hp1.keep fun b xs hb => s2 _ _ hb).keep ks), ((Off.of_same s1).trans (Off.of_same s2)).trans o3, ks _ _ (s2 _ _ htx1)⟩
              refine ⟨fun σ H' => σ = [some (.ref a), some (.int i), some (.int m), some (.ref t), some (.int (if x.2.2.2 = 1 then 0 else x.2.1 - x.1))] ∧ H' = H1, ?_, ?_⟩
              · refine ⟨.ref t, rfl, t, _, 3, .int x.2.2.2, rfl, rfl, SqT.of htx1, at4_3, rfl, _, rfl, ?_⟩
                refine ite2 (fun hf => ?_) (fun hf => ?_)
                · rw [if_pos (V.int.inj (of_decide_eq_true hf))]
                  exact ⟨rfl, rfl⟩
                · rw [if_neg (fun z => hf (decide_eq_true (congrArg V.int z)))]
                  exact ⟨.ref t, rfl, t, x.1, x.2.1, x.2.2.1, x.2.2.2, rfl, htx1, rfl, rfl⟩
              · rintro σ H' ⟨rfl, rfl⟩
                generalize hst : (if x.2.2.2 = 1 then 0 else x.2.1 - x.1) = st at *
                refine ⟨.ref a, rfl, a, C, dx, _, _, rfl, ea1, T.cl, T.nP, fr_past X.e s q, .inl ⟨rfl, _, SqL.of fa1.at_q⟩, .int m, rfl, .ref a, rfl, a, C, dx, _, _, rfl, ea1, T.cl, T.nE, fr_edge X.e s q, .ref t, rfl, t, _, 0, .int x.1, rfl, rfl, SqT.of htx1, at4_0, .int st, rfl, .ref t, rfl, t, _, 3, .int x.2.2.2, rfl, rfl, SqT.of htx1, at4_3, by show 6 ≤ sizeLine; decide, fun t2 n2 => ?_⟩
                obtain ⟨H5, e5, fa5, hp5, o5, ht5⟩ := fin st rfl t2 n2
                refine ⟨q, ps, _, rfl, rfl, same_upd n2 _ _ fa1.at_q, sz_lt (by omega), ?_⟩
                rw [← e5]
                obtain ⟨dx5, ea5⟩ := fa5.at_a
                -- put
                have done : ∀ (S' : StL), S' = (if m - x.2.1 = 0 then sdrop X.S i else sput X.S i (cutX x m)) → ∀ (H7 : Hp) (dx7 : Addr), FrAt C H7 a s q X.e S' (ps ++ [.ref t2]) → Off a s q H5 H7 → Q (.bl true) (upd H7 a (.ins C dx7 (fr m s q))) := fun S' eS H7 dx7 f7 o7 => by
                  obtain ⟨f8, o8⟩ := f7.edge (dx := dx7) (m := m)
                  subst eS
                  exact h2 _ e0 _ ⟨_, f8, (hp5.keep (fa5.offT o7)).keep (f7.offT o8)⟩ ((o5.trans o7).trans o8)
                refine ⟨.ref a, rfl, a, dx5, _, rfl, ea5, put_no, .int i, rfl, .ref t, rfl, .int m, rfl, t, x.1, x.2.1, x.2.2.1, x.2.2.2, m, rfl, ht5, rx.f01, fun hz => ?_, fun hz r nr => ?_⟩
                · have z : m - x.2.1 = 0 := by omega
                  refine ⟨a, s, q, X.e, i, X.S, _, .non, x, rfl, fa5, hx, .inl ⟨rfl, fun H7 f7 o7 => ?_⟩⟩
                  obtain ⟨dx7, ea7⟩ := f7.at_a
                  refine ⟨.int m, rfl, .ref a, rfl, a, C, dx7, _, rfl, ea7, T.cl, T.nE, by show 3 < 1000; decide, ?_⟩
                  rw [putF_edge]
                  exact done _ (if_pos z).symm H7 dx7 f7 o7
                · have z : ¬ m - x.2.1 = 0 := by omega
                  have ck := cut_ok (m := m) rx hlx (by omega) z (by omega)
                  have sr := same_upd (H := H5) (o := t4 (cutX x m)) nr
                  rw [k3, k2, k1]
                  refine ⟨a, s, q, X.e, i, X.S, _, .ref r, x, rfl, fa5.same sr, hx, .inr ⟨r, cutX x m, rfl, upd_same, fun H7 f7 o7 => ?_⟩⟩
                  rw [nrm_id ck.op] at f7
                  obtain ⟨dx7, ea7⟩ := f7.at_a
                  refine ⟨.int m, rfl, .ref a, rfl, a, C, dx7, _, rfl, ea7, T.cl, T.nE, by show 3 < 1000; decide, ?_⟩
                  rw [putF_edge]
                  exact done _ (if_neg z).symm H7 dx7 f7 ((Off.of_same sr).trans o7)
      · rw [decide_eq_false (show ¬ V.int (x.2.1 + x.2.2.1) = V.int X.e from fun z => hE (V.int.inj z))]
        exact no H (Same.refl H) (by rw [e0]; exact if_neg fun z => hE z.2.1)
    · refine ⟨.non, rfl, rfl, _, rfl, iteT ?_⟩
      refine no H (Same.refl H) ?_
      unfold foldS
      cases hx : sget X.S i with
      | none => rfl
      | some x =>
        refine if_neg fun z => ?_
        have := hno x hx
        rw [z.1] at this
        cases this
end

/-! ### made, make -/
abbrev N_Fmade : List Str := ["self", "move", "name"]
abbrev P_Fmade : List Str := ["self", "move"]
theorem sc_Fmade : FnScope N_Fmade P_Fmade (defScope s_Fmade) := ⟨rfl, rfl, rfl, by decide +kernel, rfl, by decide +kernel, by decide +kernel⟩
abbrev N_Fmake : List Str := ["self", "move", "number"]
abbrev P_Fmake : List Str := ["self", "move"]
theorem sc_Fmake : FnScope N_Fmake P_Fmake (defScope s_Fmake) := ⟨rfl, rfl, rfl, by decide +kernel, rfl, by decide +kernel, by decide +kernel⟩
theorem isB_ty {K : PySem.W.Frag} {H : Hp} {y : V} (h : MV y) : ∃ t, TyX K H y t ∧ PySem.W.kitOne K t (.type "bool") = some (isB y) := by
  rcases h with (⟨i, rfl, _⟩ | ⟨b, rfl⟩) | ⟨z, rfl, _⟩
  · exact ⟨_, TyX.base (TyOf.int _), kit_ty (r := false) (by decide +kernel)⟩
  · exact ⟨_, TyX.base (TyOf.bl _), kit_ty (r := true) (by decide +kernel)⟩
  · exact ⟨_, TyX.base (TyOf.str _), kit_ty (r := false) (by decide +kernel)⟩
theorem moV_noB (mo : Mo) : (moV mo).any isB = false := by cases mo <;> rfl
/-- what the move xs makes of the road X -/
def MvS (xs : List V) (X : FS) (r : Option FS) : Prop := ((∃ mo, xs = moV mo ∧ r = mkS X mo) ∨ (xs.any isB = true ∧ r = none)) ∧ (∀ y ∈ xs, MV y) ∧ xs.length ≤ 20
def spMadeS (C : Addr) : Sp := fun vs H Q _ => ∃ (a s q t : Addr) (X : FS) (mo : Mo), vs = [.ref a, .ref t] ∧ FrS C H a s q X ∧ WF X ∧ X.L.length ≤ 1000 ∧ H t = some (.tup (moV mo)) ∧ AfterS C H a s q X (mkS X mo) Q
def spMakeS (C CM : Addr) : Sp := fun vs H Q E => ∃ (a s q t : Addr) (X : FS) (xs : List V) (r : Option FS), vs = [.ref a, .ref t] ∧ FrS C H a s q X ∧ WF X ∧ X.L.length ≤ 1000 ∧ H t = some (.tup xs) ∧ MvS xs X r ∧
  (∀ X', r = some X' → ∀ H', FrS C H' a s q X' → Off a s q H H' → Q .non H') ∧
  (r = none → ∀ (H' : Hp) (d : Addr), FrS C H' a s q X → Off a s q H H' → H' d = some (.xd (bmF (.ref t))) → E (.ref CM) (some d) H')
section
variable {P : Program} {w : World} {K : PySem.W.Frag} {mg : Str → Option Value} {base : Heap} {C : Addr}
theorem ok_madeS {f fI fH fM fL fF fB : Addr} {fd fdI fdH fdM fdL fdF fdB : FuncData} (F : Fun K "made" "Front.made" s_Fmade f fd) (T : FrT K mg C) (M_idle : Meth K C "idle" fI) (G_idle : FnOk P w K mg base CX0 4 fI fdI P_Fidle (spIdle C)) (b_idle : Binds K fdI P_Fidle [])
    (M_halve : Meth K C "halve" fH) (G_halve : FnOk P w K mg base CX0 4 fH fdH P_Fhalve (spHalve C)) (b_halve : Binds K fdH P_Fhalve []) (M_merge : Meth K C "merge" fM) (G_merge : FnOk P w K mg base CX0 4 fM fdM P_Fmerge (spMerge C)) (b_merge : Binds K fdM P_Fmerge [])
    (M_lead : Meth K C "lead" fL) (G_lead : FnOk P w K mg base CX0 4 fL fdL P_Flead (spFlead C)) (b_lead : Binds K fdL P_Flead []) (M_fold : Meth K C "fold" fF) (G_fold : FnOk P w K mg base CX0 4 fF fdF P_Ffold (spFfold C)) (b_fold : Binds K fdF P_Ffold [])
    (M_bare : Meth K C "bare" fB) (G_bare : FnOk P w K mg base CX0 3 fB fdB P_Fbare (spBare C)) (b_bare : Binds K fdB P_Fbare []) : FnOk P w K mg base CX0 5 f fd P_Fmade (spMadeS C) := by
  refine F.ok sc_Fmade (fun vs H Q E h => ?_) (fun cdv A outer s H vs Q E hr h => ?_)
  · obtain ⟨a, s, q, t, X, mo, rfl, _⟩ := h
    rfl
  · obtain ⟨a, s, q, t, X, mo, rfl, fS, wf, hL, ht, af⟩ := h
    refine ⟨_, (pss_cons (ps_set (i := 2) sc_Fmade.nd rfl (.inl rfl) (pe_ix ix_tup (pv 1) pe_int (fun _ _ => rfl)))
      (pss_cons (ps_if (pt_cmpR op_eq (pv 2) pe_str (nomark _)) (pss_one (ps_ret (pe_meth (pv 0) T.cl M_idle G_idle (hr.mono (by omega)) b_idle .nil pass0 (pa_cons (pe_ix ix_tup (pv 1) pe_int (fun _ _ => rfl)) pa_nil)))) pss_nil)
      (pss_cons (ps_if (pt_cmpR op_eq (pv 2) pe_str (nomark _)) (pss_one (ps_ret (pe_meth (pv 0) T.cl M_halve G_halve (hr.mono (by omega)) b_halve .nil pass0 (pa_cons (pe_ix ix_tup (pv 1) pe_int (fun _ _ => rfl)) pa_nil)))) pss_nil)
      (pss_cons (ps_if (pt_cmpR op_eq (pv 2) pe_str (nomark _)) (pss_one (ps_ret (pe_meth (pv 0) T.cl M_merge G_merge (hr.mono (by omega)) b_merge .nil pass0 (pa_cons (pe_ix ix_tup (pv 1) pe_int (fun _ _ => rfl)) (pa_cons (pe_ix ix_tup (pv 1) pe_int (fun _ _ => rfl)) pa_nil))))) pss_nil)
      (pss_cons (ps_if (pt_cmpR op_eq (pv 2) pe_str (nomark _)) (pss_one (ps_ret (pe_meth (pv 0) T.cl M_lead G_lead (hr.mono (by omega)) b_lead .nil pass0 (pa_cons (pe_ix ix_tup (pv 1) pe_int (fun _ _ => rfl)) (pa_cons (pe_ix ix_tup (pv 1) pe_int (fun _ _ => rfl)) (pa_cons (pe_ix ix_tup (pv 1) pe_int (fun _ _ => rfl)) pa_nil)))))) pss_nil)
      (pss_cons (ps_if (pt_cmpR op_eq (pv 2) pe_str (nomark _)) (pss_one (ps_ret (pe_meth (pv 0) T.cl M_fold G_fold (hr.mono (by omega)) b_fold .nil pass0 (pa_cons (pe_ix ix_tup (pv 1) pe_int (fun _ _ => rfl)) (pa_cons (pe_ix ix_tup (pv 1) pe_int (fun _ _ => rfl)) pa_nil))))) pss_nil)
      (pss_one (ps_ret (pe_and (pe_cmpR op_eq (pv 2) pe_str (nomark _)) (pe_one (pe_meth (pv 0) T.cl M_bare G_bare (hr.mono (by omega)) b_bare .nil pass0 (pa_cons (pe_ix ix_tup (pv 1) pe_int (fun _ _ => rfl)) pa_nil)))))))))))), ?_⟩
    have fS0 := fS
    obtain ⟨ps, fa, hp⟩ := fS0
    obtain ⟨dx, ea⟩ := fa.at_a
    cases mo with
    | idle i =>
      refine ⟨.ref t, rfl, t, _, 0, .str "idle", rfl, rfl, SqT.of ht, atI_nat (j := 0) rfl, ?_⟩
      refine ⟨.str "idle", rfl, rfl, _, rfl, ite2 (fun _ => ?_) (fun h => absurd (by decide +kernel) h)⟩
      exact ⟨.ref a, rfl, a, dx, _, rfl, ea, put_no, .ref t, rfl, t, _, 1, .int i, rfl, rfl, SqT.of ht, atI_nat (j := 1) rfl, a, s, q, i, X, rfl, fS, wf, af⟩
    | halve i =>
      refine ⟨.ref t, rfl, t, _, 0, .str "halve", rfl, rfl, SqT.of ht, atI_nat (j := 0) rfl, ?_⟩
      refine ⟨.str "halve", rfl, rfl, _, rfl, ite2 (fun h => absurd h (by decide +kernel)) (fun _ => ?_)⟩
      refine ⟨.str "halve", rfl, rfl, _, rfl, ite2 (fun _ => ?_) (fun h => absurd (by decide +kernel) h)⟩
      exact ⟨.ref a, rfl, a, dx, _, rfl, ea, put_no, .ref t, rfl, t, _, 1, .int i, rfl, rfl, SqT.of ht, atI_nat (j := 1) rfl, a, s, q, X.e, i, X.S, ps, rfl, fa, After.ofS fa hp af⟩
    | merge i j =>
      refine ⟨.ref t, rfl, t, _, 0, .str "merge", rfl, rfl, SqT.of ht, atI_nat (j := 0) rfl, ?_⟩
      refine ⟨.str "merge", rfl, rfl, _, rfl, ite2 (fun h => absurd h (by decide +kernel)) (fun _ => ?_)⟩
      refine ⟨.str "merge", rfl, rfl, _, rfl, ite2 (fun h => absurd h (by decide +kernel)) (fun _ => ?_)⟩
      refine ⟨.str "merge", rfl, rfl, _, rfl, ite2 (fun _ => ?_) (fun h => absurd (by decide +kernel) h)⟩
      exact ⟨.ref a, rfl, a, dx, _, rfl, ea, put_no, .ref t, rfl, t, _, 1, .int i, rfl, rfl, SqT.of ht, atI_nat (j := 1) rfl, .ref t, rfl, t, _, 2, .int j, rfl, rfl, SqT.of ht, atI_nat (j := 2) rfl, a, s, q, X.e, i, j, X.S, ps, rfl, fa, After.ofS fa hp af⟩
    | lead j d i =>
      refine ⟨.ref t, rfl, t, _, 0, .str "lead", rfl, rfl, SqT.of ht, atI_nat (j := 0) rfl, ?_⟩
      refine ⟨.str "lead", rfl, rfl, _, rfl, ite2 (fun h => absurd h (by decide +kernel)) (fun _ => ?_)⟩
      refine ⟨.str "lead", rfl, rfl, _, rfl, ite2 (fun h => absurd h (by decide +kernel)) (fun _ => ?_)⟩
      refine ⟨.str "lead", rfl, rfl, _, rfl, ite2 (fun h => absurd h (by decide +kernel)) (fun _ => ?_)⟩
      refine ⟨.str "lead", rfl, rfl, _, rfl, ite2 (fun _ => ?_) (fun h => absurd (by decide +kernel) h)⟩
      exact ⟨.ref a, rfl, a, dx, _, rfl, ea, put_no, .ref t, rfl, t, _, 1, .int j, rfl, rfl, SqT.of ht, atI_nat (j := 1) rfl, .ref t, rfl, t, _, 2, .int d, rfl, rfl, SqT.of ht, atI_nat (j := 2) rfl, .ref t, rfl, t, _, 3, .int i, rfl, rfl, SqT.of ht, atI_nat (j := 3) rfl, a, s, q, j, d, i, X, rfl, fS, wf, af⟩
    | fold i m =>
      refine ⟨.ref t, rfl, t, _, 0, .str "fold", rfl, rfl, SqT.of ht, atI_nat (j := 0) rfl, ?_⟩
      refine ⟨.str "fold", rfl, rfl, _, rfl, ite2 (fun h => absurd h (by decide +kernel)) (fun _ => ?_)⟩
      refine ⟨.str "fold", rfl, rfl, _, rfl, ite2 (fun h => absurd h (by decide +kernel)) (fun _ => ?_)⟩
      refine ⟨.str "fold", rfl, rfl, _, rfl, ite2 (fun h => absurd h (by decide +kernel)) (fun _ => ?_)⟩
      refine ⟨.str "fold", rfl, rfl, _, rfl, ite2 (fun h => absurd h (by decide +kernel)) (fun _ => ?_)⟩
      refine ⟨.str "fold", rfl, rfl, _, rfl, ite2 (fun _ => ?_) (fun h => absurd (by decide +kernel) h)⟩
      exact ⟨.ref a, rfl, a, dx, _, rfl, ea, put_no, .ref t, rfl, t, _, 1, .int i, rfl, rfl, SqT.of ht, atI_nat (j := 1) rfl, .ref t, rfl, t, _, 2, .int m, rfl, rfl, SqT.of ht, atI_nat (j := 2) rfl, a, s, q, i, m, X, rfl, fS, wf, hL, af⟩
    | bare m =>
      refine ⟨.ref t, rfl, t, _, 0, .str "bare", rfl, rfl, SqT.of ht, atI_nat (j := 0) rfl, ?_⟩
      refine ⟨.str "bare", rfl, rfl, _, rfl, ite2 (fun h => absurd h (by decide +kernel)) (fun _ => ?_)⟩
      refine ⟨.str "bare", rfl, rfl, _, rfl, ite2 (fun h => absurd h (by decide +kernel)) (fun _ => ?_)⟩
      refine ⟨.str "bare", rfl, rfl, _, rfl, ite2 (fun h => absurd h (by decide +kernel)) (fun _ => ?_)⟩
      refine ⟨.str "bare", rfl, rfl, _, rfl, ite2 (fun h => absurd h (by decide +kernel)) (fun _ => ?_)⟩
      refine ⟨.str "bare", rfl, rfl, _, rfl, ite2 (fun h => absurd h (by decide +kernel)) (fun _ => ?_)⟩
      refine ⟨.str "bare", rfl, rfl, _, rfl, ite2 (fun _ => ?_) (fun h => absurd (by decide +kernel) h)⟩
      exact ⟨.ref a, rfl, a, dx, _, rfl, ea, put_no, .ref t, rfl, t, _, 1, .int m, rfl, rfl, SqT.of ht, atI_nat (j := 1) rfl, a, s, q, m, X, rfl, fS, wf, hL, af⟩
theorem ok_makeS {f fM CF CM fI : Addr} {fd fdM fdI : FuncData} (F : Fun K "make" "Front.make" s_Fmake f fd) (T : FrT K mg C) (M_made : Meth K C "made" fM) (G_made : FnOk P w K mg base CX0 5 fM fdM P_Fmade (spMadeS C)) (b_made : Binds K fdM P_Fmade []) (B : Bn mg)
    (Te : ErT K mg CF CM fI fdI "BadMove" N_bminit) (n1 : PySem.W.findIn K (.ref CM) "move" = some none) (GI : FnOk P w K mg base CX0 2 fI fdI N_bminit (spBmInit K)) : FnOk P w K mg base (L2.CX P w) 6 f fd P_Fmake (spMakeS C CM) := by
  refine F.okX sc_Fmake (fun vs H Q E h => ?_) (fun cdv A outer s H vs Q E hr h => ?_)
  · obtain ⟨a, s, q, t, X, xs, r, rfl, _⟩ := h
    rfl
  · obtain ⟨a, s, q, t, X, xs, r, rfl, fS, wf, hL, ht, mv, q1, q2⟩ := h
    refine ⟨_, (pss_one (ps_if (PW.pt (pw_or (pt_val (pe_callB (cr_any rfl) (by rfl) B.any (by decide +kernel) (pa_cons (pe_lc (own := [("number", 2)]) (g := gName 2) (by rfl) sc_Fmake.nd (pi_tup (pv 1)) (blkOk_by (own := [("number", 2)]) (N := N_Fmake) (sc := defScope s_Fmake) (by decide +kernel)) (fun _ _ _ _ _ => (pg_name (i := 2) sc_Fmake.nd rfl (.inl rfl))) (fun _ _ _ _ _ => pts_nil) (fun _ _ _ _ _ => (pe_callB (show CallR _ _ (rIsi K) from call_isi) (by rfl) B.isinstance (by decide +kernel) (pa_cons (pv 2) (pa_cons (pe_bltn (v := .ty "bool") (by rfl) B.bool (by decide +kernel) rfl) pa_nil))))) pa_nil))) (pw_or1 (pt_not (pt_val (pe_meth (pv 0) T.cl M_made G_made (hr.mono (by omega)) b_made .nil pass0 (pa_cons (pv 1) pa_nil))))))) (pss_one (ps_raise rfl (takes_of rfl rfl rfl rfl) (pmk_oex Te.e.o Te.iC Te.tI GI (hr.mono (by omega)) Te.bI .nil pass0 (by rfl) Te.gC (pa_cons (pv 1) pa_nil)))) pss_nil)), ?_⟩
    obtain ⟨mv0, m1, m2⟩ := mv
    have bad : ∀ H3, FrS C H3 a s q X → Off a s q H H3 → H3 t = some (.tup xs) → r = none → (tMkO CM (spBmInit K) [] (tCons (tVar 1) tNil)) [some (.ref a), some (.ref t), none] H3 (fun cls d H' => E cls d H') := fun H3 f3 o3 ht3 hr0 => by
      refine ⟨.ref t, rfl, by show 1 ≤ 1000; decide, fun x nx => ?_⟩
      refine ⟨x, CM, t, xs, rfl, same_upd nx _ _ ht3, m1, m2, Te.e, n1, upd_same, fun H' dy ndy ex ed kp => ⟨rfl, dy, bmF (.ref t), ex, ed, (same_upd nx).free ndy, ?_⟩⟩
      have k3 : Same H3 (upd (del H' x) dy (.xd (bmF (.ref t)))) := fun b o hb => by
        have nbx : b ≠ x := ne_of_none hb nx
        have nbd : b ≠ dy := ne_of_none hb ((same_upd nx).free ndy)
        rw [upd_ne nbd, del_ne nbx]
        exact kp b o nbx (by rw [upd_ne nbx]; exact hb)
      exact q2 hr0 _ dy (f3.same k3) (o3.trans (Off.of_same k3)) upd_same
    refine ⟨.ref t, rfl, t, rfl, ⟨_, SqT.of ht⟩, fun L nL => lc_tup (K := K) (a := t) (xs := xs) (fun i H2 => Same H H2 ∧ H2 L = some (.lst (((xs.map isB).take i).map V.bl)) ∧ i ≤ xs.length)
      ⟨same_upd nL, upd_same, Nat.zero_le _⟩ (fun i H2 _ ⟨sm, _⟩ => SqT.of (sm _ _ ht)) ?_ ?_⟩
    · rintro i x H2 hx ⟨sm, e2, hi0⟩
      have hi : i < xs.length := (List.getElem?_eq_some_iff.mp hx).1
      obtain ⟨ty, h1, h2⟩ := isB_ty (K := K) (H := H2) (m1 x (List.mem_of_getElem? hx))
      refine ⟨rfl, ?_⟩
      refine ⟨x, rfl, _, _, _, _, isB x, rfl, ClsV.ty _, h1, h2, ?_⟩
      refine ⟨_, e2, sz_lt (by rw [List.length_map, List.length_take]; omega), fun b o' hb => ?_, ?_, by omega⟩
      · rw [upd_ne (ne_of_none hb nL)]
        exact sm _ _ hb
      · rw [upd_same, List.take_add_one, List.getElem?_map, hx, List.map_append]
        rfl
    · rintro H2 ⟨sm, e2, _⟩
      rw [show (xs.map isB).take xs.length = xs.map isB by rw [← List.length_map (f := isB), List.take_length]] at e2
      have ef : (xs.map isB).any id = xs.any isB := by rw [List.any_map]; rfl
      refine ⟨L, _, rfl, SqL.of e2, _, rfl, ?_⟩
      rw [ef]
      have f2 := fS.same sm
      rcases mv0 with ⟨mo, rfl, rfl⟩ | ⟨hb, rfl⟩
      · rw [moV_noB]
        refine iteF ?_
        have f20 := f2
        obtain ⟨ps, fa2, _⟩ := f20
        obtain ⟨dx, ea⟩ := fa2.at_a
        refine ⟨.ref a, rfl, a, dx, _, rfl, ea, put_no, .ref t, rfl, a, s, q, t, X, mo, rfl, f2, wf, hL, sm _ _ ht, fun hr0 H3 f3 o3 => ?_, fun X' hX H3 f3 o3 => ?_⟩
        · refine ⟨false, rfl, iteT ?_⟩
          exact bad H3 f3 ((Off.of_same sm).trans o3) (fa2.offT o3 _ _ (sm _ _ ht)) hr0
        · exact ⟨true, rfl, iteF (q1 X' hX H3 f3 ((Off.of_same sm).trans o3))⟩
      · rw [hb]
        exact iteT (bad H2 f2 (Off.of_same sm) (sm _ _ ht) rfl)
end

/-! ### what stands beside a list that changes -/
theorem draw_apart {H : Hp} {d l r : Addr} (D : Draw H d l) (n : H r = none) : d ≠ r ∧ l ≠ r := by
  obtain ⟨ns, i, z, s, W⟩ := D
  exact ⟨ne_of_none W.at_d n, ne_of_none W.at_l n⟩
/-! ### matings of a road, without the law's own drawing of them -/
structure Mat (n o p m f : Int) : Prop where
  m1 : 1 ≤ m
  o0 : 0 ≤ o
  o1 : o + m ≤ n
  p0 : 0 ≤ p
  p1 : p + m ≤ n
  f01 : f = 0 ∨ f = 1
def Mrd (n : Int) (x : M4) : Prop := Mat n x.1 x.2.1 x.2.2.1 x.2.2.2
theorem Mts.keep {H H' : Hp} (k : KeepT H H') : ∀ {ts : List Addr} {ms : List M4}, Mts H ts ms → Mts H' ts ms
  | _, _, .nil => .nil
  | _, _, .cons h r => .cons (k _ _ h) (Mts.keep k r)
theorem Mts.snoc {H : Hp} {t : Addr} {x : M4} (hs : H t = some (t4 x)) : ∀ {ts : List Addr} {ms : List M4}, Mts H ts ms → Mts H (ts ++ [t]) (ms ++ [x])
  | _, _, .nil => .cons hs .nil
  | _, _, .cons h r => .cons h (Mts.snoc hs r)
theorem Draw.keepT {H H' : Hp} {d l : Addr} (D : Draw H d l) (k : Keep d H H') : KeepT H H' := fun b xs hb => by
  obtain ⟨ns, i, zz, sd, W⟩ := D
  exact k.of hb (ne_of hb W.at_d (fun q => by cases q))

/-! ### a goal made small: what comes behind is a name -/
/-! ### families: what hangs together by pairs -/
inductive Fam (R : Int → Int → Prop) : Int → Int → Prop
  | rel {p q : Int} : R p q → Fam R p q
  | refl {p : Int} : Fam R p p
  | symm {p q : Int} : Fam R p q → Fam R q p
  | trans {p q r : Int} : Fam R p q → Fam R q r → Fam R p r
theorem Fam.map {R T : Int → Int → Prop} {g : Int → Int} (h : ∀ p q, R p q → Fam T (g p) (g q)) {p q : Int} (k : Fam R p q) : Fam T (g p) (g q) := by
  induction k with
  | rel r => exact h _ _ r
  | refl => exact .refl
  | symm _ ih => exact ih.symm
  | trans _ _ i1 i2 => exact i1.trans i2
theorem Fam.mono {R T : Int → Int → Prop} (h : ∀ p q, R p q → Fam T p q) {p q : Int} (k : Fam R p q) : Fam T p q := Fam.map (g := id) h k
theorem Fam.of_eq {R : Int → Int → Prop} {p q : Int} (h : p = q) : Fam R p q := by
  rw [h]
  exact .refl
/-- who stands in no pair is alone -/
theorem Fam.alone {R : Int → Int → Prop} {a : Int} (h : ∀ p q, R p q → (p = a ↔ q = a)) {p q : Int} (k : Fam R p q) : p = a ↔ q = a := by
  induction k with
  | rel r => exact h _ _ r
  | refl => exact Iff.rfl
  | symm _ ih => exact ih.symm
  | trans _ _ i1 i2 => exact i1.trans i2
/-- families stay inside a stretch that holds all pairs -/
theorem Fam.inside {R : Int → Int → Prop} {P : Int → Prop} (h : ∀ p q, R p q → (P p ↔ P q)) {p q : Int} (k : Fam R p q) : P p ↔ P q := by
  induction k with
  | rel r => exact h _ _ r
  | refl => exact Iff.rfl
  | symm _ ih => exact ih.symm
  | trans _ _ i1 i2 => exact i1.trans i2
/-- the pairs of a mating -/
def Pr (x : M4) (p q : Int) : Prop := ∃ k : Int, 0 ≤ k ∧ k < x.2.2.1 ∧ p = x.1 + k ∧ q = (if x.2.2.2 = 1 then x.2.1 + x.2.2.1 - 1 - k else x.2.1 + k)
theorem Pr.back {x : M4} {p q : Int} (h : Pr (nrm x) p q) : Pr x p q ∨ Pr x q p := by
  obtain ⟨k, h0, h1, e1, e2⟩ := h
  have h1' : k < x.2.2.1 := h1
  have e1' : p = (if x.2.1 < x.1 then x.2.1 else x.1) + k := e1
  have e2' : q = (if x.2.2.2 = 1 then (if x.2.1 < x.1 then x.1 else x.2.1) + x.2.2.1 - 1 - k else (if x.2.1 < x.1 then x.1 else x.2.1) + k) := e2
  by_cases c : x.2.1 < x.1
  · rw [if_pos c] at e1'
    rw [if_pos c] at e2'
    right
    by_cases f : x.2.2.2 = 1
    · rw [if_pos f] at e2'
      exact ⟨x.2.2.1 - 1 - k, by omega, by omega, by omega, by rw [if_pos f]; omega⟩
    · rw [if_neg f] at e2'
      exact ⟨k, h0, h1', by omega, by rw [if_neg f]; omega⟩
  · rw [if_neg c] at e1'
    rw [if_neg c] at e2'
    exact .inl ⟨k, h0, h1', e1', e2'⟩
theorem Pr.there {x : M4} {p q : Int} (h : Pr x p q) : Pr (nrm x) p q ∨ Pr (nrm x) q p := by
  obtain ⟨k, h0, h1, e1, e2⟩ := h
  by_cases c : x.2.1 < x.1
  · right
    by_cases f : x.2.2.2 = 1
    · rw [if_pos f] at e2
      refine ⟨x.2.2.1 - 1 - k, by omega, by show _ < x.2.2.1; omega, ?_, ?_⟩
      · show q = (if x.2.1 < x.1 then x.2.1 else x.1) + _
        rw [if_pos c]
        omega
      · show p = (if x.2.2.2 = 1 then (if x.2.1 < x.1 then x.1 else x.2.1) + x.2.2.1 - 1 - _ else _)
        rw [if_pos f, if_pos c]
        omega
    · rw [if_neg f] at e2
      refine ⟨k, h0, h1, ?_, ?_⟩
      · show q = (if x.2.1 < x.1 then x.2.1 else x.1) + _
        rw [if_pos c]
        omega
      · show p = (if x.2.2.2 = 1 then _ else (if x.2.1 < x.1 then x.1 else x.2.1) + _)
        rw [if_neg f, if_pos c]
        omega
  · left
    refine ⟨k, h0, h1, ?_, ?_⟩
    · show p = (if x.2.1 < x.1 then x.2.1 else x.1) + _
      rw [if_neg c]
      omega
    · show q = (if x.2.2.2 = 1 then (if x.2.1 < x.1 then x.1 else x.2.1) + x.2.2.1 - 1 - k else (if x.2.1 < x.1 then x.1 else x.2.1) + k)
      rw [if_neg c]
      exact e2
/-- the pairs of a standing -/
def Gn (S : StL) (p q : Int) : Prop := ∃ s ∈ S, Pr s.2 p q
theorem keys_one : ∀ {S : StL}, (S.map (·.1)).Pairwise (· < ·) → ∀ {i : Int} {x : M4} {s : Int × M4}, sget S i = some x → s ∈ S → s.1 = i → s.2 = x
  | t :: r, h, i, x, s, e, hs, hi => by
    have e' : (if t.1 = i then some t.2 else sget r i) = some x := e
    obtain ⟨h1, h2⟩ := List.pairwise_cons.mp (show (t.1 :: r.map (·.1)).Pairwise (· < ·) from h)
    by_cases c : t.1 = i
    · rw [if_pos c] at e'
      rcases List.mem_cons.mp hs with rfl | hs
      · exact Option.some.inj e'
      · have := h1 s.1 (List.mem_map_of_mem hs)
        omega
    · rw [if_neg c] at e'
      rcases List.mem_cons.mp hs with rfl | hs
      · exact absurd hi c
      · exact keys_one h2 e' hs hi
theorem sput_self {S : StL} {i : Int} {x y : M4} (h : sget S i = some x) : (i, y) ∈ sput S i y := List.mem_map.mpr ⟨(i, x), sget_in h, by rw [if_pos rfl]⟩
theorem sput_other {S : StL} {i : Int} {y : M4} {s : Int × M4} (h : s ∈ S) (n : s.1 ≠ i) : s ∈ sput S i y := List.mem_map.mpr ⟨s, h, by rw [if_neg n]⟩
theorem sdrop_other {S : StL} {i : Int} {s : Int × M4} (h : s ∈ S) (n : s.1 ≠ i) : s ∈ sdrop S i := List.mem_filter.mpr ⟨h, decide_eq_true n⟩
theorem Gn.at {S : StL} {i : Int} {x : M4} {p q : Int} (h : sget S i = some x) (k : Pr x p q) : Fam (Gn S) p q := .rel ⟨_, sget_in h, k⟩
/-- steps of s inside a stretch: s times j -/
theorem steps_up {R : Int → Int → Prop} {a z s : Int} (hs : 0 ≤ s) (h : ∀ p, a ≤ p → p + s < z → Fam R p (p + s)) (p : Int) (hp : a ≤ p) : ∀ j : Nat, p + s * j < z → Fam R p (p + s * j)
  | 0, _ => Fam.of_eq (by simp)
  | j + 1, hj => by
    have e : s * ((j + 1 : Nat) : Int) = s * j + s := by
      rw [Int.natCast_add, Int.mul_add]
      simp
    have n : 0 ≤ s * (j : Int) := Int.mul_nonneg hs (by omega)
    rw [e] at hj ⊢
    have k := steps_up hs h p hp j (by omega)
    have k2 := h (p + s * j) (by omega) (by omega)
    rw [show p + (s * ↑j + s) = p + s * ↑j + s by omega]
    exact k.trans k2
/-- places of one stretch whose distance is many steps -/
theorem steps_many {R : Int → Int → Prop} {a z s : Int} (hs : 0 ≤ s) (h : ∀ p, a ≤ p → p + s < z → Fam R p (p + s)) {p q : Int} (hp : a ≤ p) (hpq : p ≤ q) (hq : q < z) (d : s ∣ q - p) : Fam R p q := by
  obtain ⟨c, hc⟩ := d
  by_cases s0 : s = 0
  · rw [s0, Int.zero_mul] at hc
    exact Fam.of_eq (by omega)
  · have c0 : 0 ≤ c := by
      by_cases n : 0 ≤ c
      · exact n
      · have : s * c < 0 := Int.mul_neg_of_pos_of_neg (by omega) (by omega)
        omega
    obtain ⟨j, rfl⟩ := Int.eq_ofNat_of_zero_le c0
    have k := steps_up hs h p hp j (by omega)
    rw [show p + s * (j : Int) = q by omega] at k
    exact k
theorem steps_any {R : Int → Int → Prop} {a z s : Int} (hs : 0 ≤ s) (h : ∀ p, a ≤ p → p + s < z → Fam R p (p + s)) {p q : Int} (hp : a ≤ p) (hp2 : p < z) (hq : a ≤ q) (hq2 : q < z) (d : s ∣ q - p) : Fam R p q := by
  by_cases c : p ≤ q
  · exact steps_many hs h hp c hq2 d
  · refine (steps_many hs h hq (by omega) hp2 ?_).symm
    rw [show p - q = -(q - p) by omega]
    exact Int.dvd_neg.mpr d
/-- a stretch with two steps, as long as both together, has their greatest common step -/
theorem two_steps {R : Int → Int → Prop} : ∀ (n s t : Nat) (u v : Int), s + t ≤ n → 0 < s → 0 < t → (s : Int) + t ≤ v - u →
    (∀ p, u ≤ p → p + s < v → Fam R p (p + s)) → (∀ p, u ≤ p → p + t < v → Fam R p (p + t)) → ∀ p, u ≤ p → p + (Nat.gcd s t : Nat) < v → Fam R p (p + (Nat.gcd s t : Nat))
  | 0, s, t, u, v, hn, h0, h1, _, _, _, _, _, _ => by omega
  | n + 1, s, t, u, v, hn, h0, h1, hw, hs, ht, p, hp, hg => by
    rcases Nat.lt_trichotomy s t with c | c | c
    · have g : Nat.gcd s (t - s) = Nat.gcd s t := by
        rw [Nat.gcd_sub_self_right (Nat.le_of_lt c)]
      have gle : Nat.gcd s t ≤ t - s := by
        rw [← g]
        exact Nat.gcd_le_right _ (by omega)
      have gle2 : Nat.gcd s t ≤ s := Nat.gcd_le_left _ h0
      have ih := two_steps n s (t - s) u (v - s) (by omega) h0 (by omega) (by omega) (fun p h1 h2 => hs p h1 (by omega)) (fun p h1 h2 => by
        have a := ht p h1 (by omega)
        have b := hs (p + ((t - s : Nat) : Int)) (by omega) (by omega)
        rw [show p + ((t - s : Nat) : Int) + (s : Int) = p + t by omega] at b
        exact a.trans b.symm)
      rw [g] at ih
      by_cases q : p + (Nat.gcd s t : Nat) < v - s
      · exact ih p hp q
      · have a := ih (p - s) (by omega) (by omega)
        have b := hs (p - s) (by omega) (by omega)
        have d := hs (p - s + (Nat.gcd s t : Nat)) (by omega) (by omega)
        rw [show p - (s : Int) + s = p by omega] at b
        rw [show p - (s : Int) + (Nat.gcd s t : Nat) + s = p + (Nat.gcd s t : Nat) by omega] at d
        exact (b.symm.trans a).trans d
    · subst c
      rw [Nat.gcd_self] at hg ⊢
      exact hs p hp hg
    · have g : Nat.gcd (s - t) t = Nat.gcd s t := by
        rw [Nat.gcd_comm, Nat.gcd_sub_self_right (Nat.le_of_lt c), Nat.gcd_comm]
      have gle : Nat.gcd s t ≤ s - t := by
        rw [← g]
        exact Nat.gcd_le_left _ (by omega)
      have gle2 : Nat.gcd s t ≤ t := Nat.gcd_le_right _ h1
      have ih := two_steps n (s - t) t u (v - t) (by omega) (by omega) h1 (by omega) (fun p h1 h2 => by
        have a := hs p h1 (by omega)
        have b := ht (p + ((s - t : Nat) : Int)) (by omega) (by omega)
        rw [show p + ((s - t : Nat) : Int) + (t : Int) = p + s by omega] at b
        exact a.trans b.symm) (fun p h1 h2 => ht p h1 (by omega))
      rw [g] at ih
      by_cases q : p + (Nat.gcd s t : Nat) < v - t
      · exact ih p hp q
      · have a := ih (p - t) (by omega) (by omega)
        have b := ht (p - t) (by omega) (by omega)
        have d := ht (p - t + (Nat.gcd s t : Nat)) (by omega) (by omega)
        rw [show p - (t : Int) + t = p by omega] at b
        rw [show p - (t : Int) + (Nat.gcd s t : Nat) + t = p + (Nat.gcd s t : Nat) by omega] at d
        exact (b.symm.trans a).trans d
/-- a mating that is not turned, as steps in its stretch -/
theorem Pr.steps {x : M4} (hf : ¬ x.2.2.2 = 1) {R : Int → Int → Prop} (h : ∀ p q, Pr x p q → Fam R p q) : ∀ p, x.1 ≤ p → p + (x.2.1 - x.1) < x.2.1 + x.2.2.1 → Fam R p (p + (x.2.1 - x.1)) := fun p h1 h2 =>
  h _ _ ⟨p - x.1, by omega, by omega, by omega, by rw [if_neg hf]; omega⟩
theorem Pr.of_steps {x : M4} (hf : ¬ x.2.2.2 = 1) {R : Int → Int → Prop} (h : ∀ p, x.1 ≤ p → p + (x.2.1 - x.1) < x.2.1 + x.2.2.1 → Fam R p (p + (x.2.1 - x.1))) : ∀ p q, Pr x p q → Fam R p q := fun p q ⟨k, h0, h1, e1, e2⟩ => by
  rw [if_neg hf] at e2
  have := h p (by omega) (by omega)
  rw [show p + (x.2.1 - x.1) = q by omega] at this
  exact this

/-! ### moves keep families -/
theorem fam_put {S : StL} (up : (S.map (·.1)).Pairwise (· < ·)) {i : Int} {x y : M4} (hx : sget S i = some x) (h1 : ∀ p q, Pr y p q → Fam (Gn S) p q) (h2 : ∀ p q, Pr x p q → Fam (Gn (sput S i y)) p q) (p q : Int) : Fam (Gn S) p q ↔ Fam (Gn (sput S i y)) p q := by
  constructor
  · refine Fam.mono fun p q ⟨s, hs, k⟩ => ?_
    by_cases c : s.1 = i
    · rw [keys_one up hx hs c] at k
      exact h2 p q k
    · exact .rel ⟨s, sput_other hs c, k⟩
  · refine Fam.mono fun p q ⟨s, hs, k⟩ => ?_
    rcases sput_mem hs with ⟨_, e⟩ | ⟨hs, _⟩
    · rw [e] at k
      exact h1 p q k
    · exact .rel ⟨s, hs, k⟩
theorem fam_drop {S : StL} (up : (S.map (·.1)).Pairwise (· < ·)) {i : Int} {x : M4} (hx : sget S i = some x) (h2 : ∀ p q, Pr x p q → Fam (Gn (sdrop S i)) p q) (p q : Int) : Fam (Gn S) p q ↔ Fam (Gn (sdrop S i)) p q := by
  constructor
  · refine Fam.mono fun p q ⟨s, hs, k⟩ => ?_
    by_cases c : s.1 = i
    · rw [keys_one up hx hs c] at k
      exact h2 p q k
    · exact .rel ⟨s, sdrop_other hs c, k⟩
  · exact Fam.mono fun p q ⟨s, hs, k⟩ => .rel ⟨s, (sdrop_mem hs).1, k⟩
/-- a mating of half the length has the same pairs -/
theorem halve_fam {x : M4} {e : Int} (hx : Rok e x) (hf : x.2.2.2 = 1) (hl : ¬ xLead x = true) {R : Int → Int → Prop} (h : ∀ p q, Pr (x.1, x.2.1 + x.2.2.1 - hlf x.1 x.2.1 x.2.2.1, hlf x.1 x.2.1 x.2.2.1, x.2.2.2) p q → Fam R p q) (p q : Int) (k : Pr x p q) : Fam R p q := by
  have g1 := hx.op
  have e0 : hlf x.1 x.2.1 x.2.2.1 = (x.2.1 + x.2.2.1 - x.1) / 2 := rfl
  obtain ⟨j, h0, h1, e1, e2⟩ := k
  rw [if_pos hf] at e2
  generalize hlf x.1 x.2.1 x.2.2.1 = t at h e0
  by_cases c : j < t
  · exact h _ _ ⟨j, h0, c, e1, by
      show q = (if x.2.2.2 = 1 then x.2.1 + x.2.2.1 - t + t - 1 - j else _)
      rw [if_pos hf]
      omega⟩
  · by_cases d : p = q
    · exact Fam.of_eq d
    · refine (h q p ⟨q - x.1, by omega, by show q - x.1 < t; omega, by show q = x.1 + (q - x.1); omega, ?_⟩).symm
      show p = (if x.2.2.2 = 1 then x.2.1 + x.2.2.1 - t + t - 1 - (q - x.1) else _)
      rw [if_pos hf]
      omega
theorem half_fam {x : M4} {e : Int} (hx : Rok e x) (hf : x.2.2.2 = 1) (hl : ¬ xLead x = true) {p q : Int} (k : Pr (x.1, x.2.1 + x.2.2.1 - hlf x.1 x.2.1 x.2.2.1, hlf x.1 x.2.1 x.2.2.1, x.2.2.2) p q) : Pr x p q := by
  have hl' : ¬ x.2.2.1 ≤ x.2.1 - x.1 := fun z => hl (by
    show (if x.2.2.2 = 1 then decide (x.2.2.1 ≤ x.2.1 - x.1) else _) = true
    rw [if_pos hf]
    exact decide_eq_true z)
  have e0 : hlf x.1 x.2.1 x.2.2.1 = (x.2.1 + x.2.2.1 - x.1) / 2 := rfl
  have g1 := hx.op
  obtain ⟨j, h0, h1, e1, e2⟩ := k
  generalize hlf x.1 x.2.1 x.2.2.1 = t at h1 e2 e0
  have h1' : j < t := h1
  have e1' : p = x.1 + j := e1
  have e2' : q = (if x.2.2.2 = 1 then x.2.1 + x.2.2.1 - t + t - 1 - j else x.2.1 + x.2.2.1 - t + j) := e2
  rw [if_pos hf] at e2'
  exact ⟨j, h0, by omega, e1', by rw [if_pos hf]; omega⟩
/-- two repeats that share enough, as one -/
theorem merge_fam {x y z : M4} (h : mrg x y = some z) {R : Int → Int → Prop} (hx : ∀ p q, Pr x p q → Fam R p q) (hy : ∀ p q, Pr y p q → Fam R p q) (p q : Int) (k : Pr z p q) : Fam R p q := by
  unfold mrg at h
  split at h
  · rename_i hc
    obtain ⟨r1, r2, hs⟩ := hc
    cases h
    obtain ⟨f1, a1, a2⟩ := isRep_of r1
    obtain ⟨f2, b1, b2⟩ := isRep_of r2
    have sx := Pr.steps (x := x) (by omega) hx
    have sy := Pr.steps (x := y) (by omega) hy
    have hg1 : 1 ≤ Nat.gcd (x.2.1 - x.1).toNat (y.2.1 - y.1).toNat := Nat.gcd_pos_of_pos_left _ (by omega)
    have hg2 : Nat.gcd (x.2.1 - x.1).toNat (y.2.1 - y.1).toNat ≤ (x.2.1 - x.1).toNat := Nat.gcd_le_left _ (by omega)
    have hg3 : Nat.gcd (x.2.1 - x.1).toNat (y.2.1 - y.1).toNat ≤ (y.2.1 - y.1).toNat := Nat.gcd_le_right _ (by omega)
    have hs' : x.2.1 - x.1 + (y.2.1 - y.1) ≤ imin (x.2.1 + x.2.2.1) (y.2.1 + y.2.2.1) - imax x.1 y.1 := hs
    have sX : ((x.2.1 - x.1).toNat : Int) = x.2.1 - x.1 := by omega
    have sY : ((y.2.1 - y.1).toNat : Int) = y.2.1 - y.1 := by omega
    have fw := two_steps (R := R) _ (x.2.1 - x.1).toNat (y.2.1 - y.1).toNat (imax x.1 y.1) (imin (x.2.1 + x.2.2.1) (y.2.1 + y.2.2.1)) (Nat.le_refl _) (by omega) (by omega) (by omega) (fun p h1 h2 => by
      rw [sX] at h2 ⊢
      unfold imin imax at *
      refine sx p ?_ ?_
      · split at h1 <;> omega
      · split at h2 <;> omega) (fun p h1 h2 => by
      rw [sY] at h2 ⊢
      unfold imin imax at *
      refine sy p ?_ ?_
      · split at h1 <;> omega
      · split at h2 <;> omega)
    obtain ⟨j, j0, j1, e1, e2⟩ := k
    generalize hgg : Nat.gcd (x.2.1 - x.1).toNat (y.2.1 - y.1).toNat = g at hg1 hg2 hg3 j1 e2 fw
    have e1' : p = imin x.1 y.1 + j := e1
    have e2' : q = imin x.1 y.1 + g + j := e2
    have j1' : j < imax (x.2.1 + x.2.2.1) (y.2.1 + y.2.2.1) - imin x.1 y.1 - g := j1
    have qe : q = p + g := by omega
    -- p and q both in the stretch of x, or both in the stretch of y
    have both : (x.1 ≤ p ∧ q < x.2.1 + x.2.2.1) ∨ (y.1 ≤ p ∧ q < y.2.1 + y.2.2.1) := by
      unfold imin imax at *
      split at hs' <;> split at hs' <;> split at e1' <;> split at j1' <;> omega
    -- the window
    have win : ∀ {c z s : Int}, 1 ≤ s → (g : Int) ≤ s → (∀ p, c ≤ p → p + s < z → Fam R p (p + s)) → c ≤ imax x.1 y.1 → imin (x.2.1 + x.2.2.1) (y.2.1 + y.2.2.1) ≤ z → s + g ≤ imin (x.2.1 + x.2.2.1) (y.2.1 + y.2.2.1) - imax x.1 y.1 → c ≤ p → q < z → Fam R p q := by
      intro c z s s1 gs st cu vz wd cp qz
      generalize imax x.1 y.1 = u at fw cu wd
      generalize imin (x.2.1 + x.2.2.1) (y.2.1 + y.2.2.1) = v at fw vz wd
      have m0 := Int.emod_nonneg (p - u) (show s ≠ 0 by omega)
      have m1 := Int.emod_lt_of_pos (p - u) (show 0 < s by omega)
      have d1 : s ∣ u + (p - u) % s - p := by
        refine ⟨-((p - u) / s), ?_⟩
        have := Int.mul_ediv_add_emod (p - u) s
        rw [Int.mul_neg]
        omega
      generalize (p - u) % s = r at m0 m1 d1
      have a := steps_any (by omega) st (p := p) (q := u + r) cp (by omega) (by omega) (by omega) d1
      have b := steps_any (by omega) st (p := q) (q := u + r + g) (by omega) qz (by omega) (by omega) (by rw [show u + r + (g : Int) - q = u + r - p by omega]; exact d1)
      have m := fw (u + r) (by omega) (by omega)
      exact (a.trans m).trans b.symm
    rcases both with ⟨w1, w2⟩ | ⟨w1, w2⟩
    · refine win (c := x.1) (z := x.2.1 + x.2.2.1) (s := x.2.1 - x.1) a1 (by omega) sx ?_ ?_ (by omega) w1 w2
      · unfold imax
        split <;> omega
      · unfold imin
        split <;> omega
    · refine win (c := y.1) (z := y.2.1 + y.2.2.1) (s := y.2.1 - y.1) b1 (by omega) sy ?_ ?_ (by omega) w1 w2
      · unfold imax
        split <;> omega
      · unfold imin
        split <;> omega
  · cases h
theorem merged_fam {x y z : M4} (h : mrg x y = some z) {R : Int → Int → Prop} (hz : ∀ p q, Pr z p q → Fam R p q) : (∀ p q, Pr x p q → Fam R p q) ∧ ∀ p q, Pr y p q → Fam R p q := by
  unfold mrg at h
  split at h
  · rename_i hc
    obtain ⟨r1, r2, hs⟩ := hc
    cases h
    obtain ⟨f1, a1, a2⟩ := isRep_of r1
    obtain ⟨f2, b1, b2⟩ := isRep_of r2
    have d1 : ((Nat.gcd (x.2.1 - x.1).toNat (y.2.1 - y.1).toNat : Nat) : Int) ∣ x.2.1 - x.1 := by
      have := Int.natCast_dvd_natCast.mpr (Nat.gcd_dvd_left (x.2.1 - x.1).toNat (y.2.1 - y.1).toNat)
      rw [show ((x.2.1 - x.1).toNat : Int) = x.2.1 - x.1 by omega] at this
      exact this
    have d2 : ((Nat.gcd (x.2.1 - x.1).toNat (y.2.1 - y.1).toNat : Nat) : Int) ∣ y.2.1 - y.1 := by
      have := Int.natCast_dvd_natCast.mpr (Nat.gcd_dvd_right (x.2.1 - x.1).toNat (y.2.1 - y.1).toNat)
      rw [show ((y.2.1 - y.1).toNat : Int) = y.2.1 - y.1 by omega] at this
      exact this
    have sz := Pr.steps (x := (_, _, _, 0)) (show ¬ (0 : Int) = 1 by decide) hz
    have sz' : ∀ p, imin x.1 y.1 ≤ p → p + (Nat.gcd (x.2.1 - x.1).toNat (y.2.1 - y.1).toNat : Nat) < imax (x.2.1 + x.2.2.1) (y.2.1 + y.2.2.1) → Fam R p (p + (Nat.gcd (x.2.1 - x.1).toNat (y.2.1 - y.1).toNat : Nat)) := fun p h1 h2 => by
      have := sz p h1 (by
        show p + (imin x.1 y.1 + (Nat.gcd (x.2.1 - x.1).toNat (y.2.1 - y.1).toNat : Nat) - imin x.1 y.1) < imin x.1 y.1 + (Nat.gcd (x.2.1 - x.1).toNat (y.2.1 - y.1).toNat : Nat) + (imax (x.2.1 + x.2.2.1) (y.2.1 + y.2.2.1) - imin x.1 y.1 - (Nat.gcd (x.2.1 - x.1).toNat (y.2.1 - y.1).toNat : Nat))
        omega)
      rw [show p + ((imin x.1 y.1 + (Nat.gcd (x.2.1 - x.1).toNat (y.2.1 - y.1).toNat : Nat), imax (x.2.1 + x.2.2.1) (y.2.1 + y.2.2.1) - imin x.1 y.1 - (Nat.gcd (x.2.1 - x.1).toNat (y.2.1 - y.1).toNat : Nat), (0 : Int)).1 - imin x.1 y.1) = p + (Nat.gcd (x.2.1 - x.1).toNat (y.2.1 - y.1).toNat : Nat) from by
        show p + (imin x.1 y.1 + (Nat.gcd (x.2.1 - x.1).toNat (y.2.1 - y.1).toNat : Nat) - imin x.1 y.1) = _
        omega] at this
      exact this
    generalize Nat.gcd (x.2.1 - x.1).toNat (y.2.1 - y.1).toNat = g at d1 d2 sz'
    refine ⟨Pr.of_steps (by omega) fun p h1 h2 => ?_, Pr.of_steps (by omega) fun p h1 h2 => ?_⟩
    · refine steps_many (s := g) (by omega) sz' ?_ (by omega) ?_ (by rw [show p + (x.2.1 - x.1) - p = x.2.1 - x.1 by omega]; exact d1)
      · unfold imin
        split <;> omega
      · unfold imax
        split <;> omega
    · refine steps_many (s := g) (by omega) sz' ?_ (by omega) ?_ (by rw [show p + (y.2.1 - y.1) - p = y.2.1 - y.1 by omega]; exact d2)
      · unfold imin
        split <;> omega
      · unfold imax
        split <;> omega
  · cases h

/-! ### leads, folds and bare places keep families -/
/-- what the leader w says of the place q -/
def toW (w : M4) (q : Int) : Int := if w.2.2.2 = 1 then w.1 + w.2.1 + w.2.2.1 - 1 - q else w.1 + (q - w.1) % (w.2.1 - w.1)
theorem toW_fam {w : M4} {e : Int} (hw : Rok e w) (hl : xLead w = true) {R : Int → Int → Prop} (h : ∀ p q, Pr w p q → Fam R p q) {q : Int} (h1 : w.1 ≤ q) (h2 : q < w.2.1 + w.2.2.1) (h3 : w.2.2.2 = 1 → w.2.1 ≤ q) : Fam R (toW w q) q ∧ 0 ≤ toW w q ∧ toW w q < w.2.1 := by
  have g1 := hw.o0
  have g3 := hw.m1
  unfold toW
  by_cases f : w.2.2.2 = 1
  · rw [if_pos f]
    have := lead_tu hl f
    have h3 := h3 f
    exact ⟨h _ _ ⟨w.2.1 + w.2.2.1 - 1 - q, by omega, by omega, by omega, by rw [if_pos f]; omega⟩, by omega, by omega⟩
  · rw [if_neg f]
    have s1 := lead_st hl f
    have m0 := Int.emod_nonneg (q - w.1) (show w.2.1 - w.1 ≠ 0 by omega)
    have m1 := Int.emod_lt_of_pos (q - w.1) (show 0 < w.2.1 - w.1 by omega)
    have st := Pr.steps f h
    have d : w.2.1 - w.1 ∣ q - (w.1 + (q - w.1) % (w.2.1 - w.1)) := by
      refine ⟨(q - w.1) / (w.2.1 - w.1), ?_⟩
      have := Int.mul_ediv_add_emod (q - w.1) (w.2.1 - w.1)
      omega
    generalize (q - w.1) % (w.2.1 - w.1) = r at m0 m1 d
    exact ⟨steps_any (by omega) st (by omega) (by omega) h1 h2 d, by omega, by omega⟩
/-- a stretch led by w, place by place -/
theorem ledB_fam {w : M4} {e at_ n : Int} (hw : Rok e w) (hl : xLead w = true) {R : Int → Int → Prop} (h : ∀ p q, Pr w p q → Fam R p q) (h1 : w.2.1 ≤ at_) (h2 : at_ + n ≤ w.2.1 + w.2.2.1) {k : Int} (k0 : 0 ≤ k) (k1 : k < n) : Fam R (ledB w at_ n + (if w.2.2.2 = 1 then n - 1 - k else k)) (at_ + k) := by
  have g1 := hw.o0
  have g2 := hw.op
  unfold ledB
  by_cases f : w.2.2.2 = 1
  · rw [if_pos f, if_pos f]
    exact h _ _ ⟨w.2.2.1 - 1 - (at_ - w.2.1) - k, by omega, by omega, by omega, by rw [if_pos f]; omega⟩
  · rw [if_neg f, if_neg f]
    have s1 := lead_st hl f
    have m0 := Int.emod_nonneg (at_ - w.1) (show w.2.1 - w.1 ≠ 0 by omega)
    have m1 := Int.emod_lt_of_pos (at_ - w.1) (show 0 < w.2.1 - w.1 by omega)
    have d : w.2.1 - w.1 ∣ at_ - (w.1 + (at_ - w.1) % (w.2.1 - w.1)) := by
      refine ⟨(at_ - w.1) / (w.2.1 - w.1), ?_⟩
      have := Int.mul_ediv_add_emod (at_ - w.1) (w.2.1 - w.1)
      omega
    generalize (at_ - w.1) % (w.2.1 - w.1) = r at m0 m1 d
    exact steps_any (by omega) (Pr.steps f h) (by omega) (by omega) (by omega) (by omega) (by rw [show at_ + k - (w.1 + r + k) = at_ - (w.1 + r) by omega]; exact d)
/-- the pairs before a lead and behind it -/
theorem lead_fam {x w y : M4} {e d : Int} (hx : Rok e x) (hw : Rok e w) (h : leadX x w d = some y) {R : Int → Int → Prop} (hR : ∀ p q, Pr w p q → Fam R p q) : ((∀ p q, Pr x p q → Fam R p q) → ∀ p q, Pr y p q → Fam R p q) ∧ ((∀ p q, Pr y p q → Fam R p q) → ∀ p q, Pr x p q → Fam R p q) := by
  unfold leadX at h
  by_cases hc : (d = 0 ∨ d = 1) ∧ xLead w = true ∧ w.2.1 ≤ (if d = 1 then x.2.1 else x.1) ∧ (if d = 1 then x.2.1 else x.1) + x.2.2.1 ≤ w.2.1 + w.2.2.1
  · rw [if_pos hc] at h
    obtain ⟨hd, hl, h1, h2⟩ := hc
    cases h
    have fx := hx.f01
    have fw := hw.f01
    by_cases z : d = 1
    · rw [if_pos z] at h1 h2
      simp only [if_pos z]
      have lb : ∀ k : Int, 0 ≤ k → k < x.2.2.1 → Fam R (ledB w x.2.1 x.2.2.1 + (if w.2.2.2 = 1 then x.2.2.1 - 1 - k else k)) (x.2.1 + k) := fun k k0 k1 => ledB_fam hw hl hR h1 h2 k0 k1
      generalize ledB w x.2.1 x.2.2.1 = b at lb
      -- index by index
      have ix : ∀ k : Int, 0 ≤ k → k < x.2.2.1 → Fam R (if xorP x.2.2.2 w.2.2.2 = 1 then b + x.2.2.1 - 1 - k else b + k) (if x.2.2.2 = 1 then x.2.1 + x.2.2.1 - 1 - k else x.2.1 + k) := fun k k0 k1 => by
        unfold xorP
        rcases fx with fx | fx <;> rcases fw with fw | fw <;> rw [fx, fw]
        · have := lb k k0 k1
          rw [fw] at this
          exact this
        · have := lb k k0 k1
          rw [fw] at this
          rw [show b + (if (1 : Int) = 1 then x.2.2.1 - 1 - k else k) = b + x.2.2.1 - 1 - k by rw [if_pos rfl]; omega] at this
          exact this
        · have := lb (x.2.2.1 - 1 - k) (by omega) (by omega)
          rw [fw] at this
          rw [show b + (if (0 : Int) = 1 then x.2.2.1 - 1 - (x.2.2.1 - 1 - k) else x.2.2.1 - 1 - k) = b + x.2.2.1 - 1 - k by rw [if_neg (by decide)]; omega, show x.2.1 + (x.2.2.1 - 1 - k) = x.2.1 + x.2.2.1 - 1 - k by omega] at this
          exact this
        · have := lb (x.2.2.1 - 1 - k) (by omega) (by omega)
          rw [fw] at this
          rw [show b + (if (1 : Int) = 1 then x.2.2.1 - 1 - (x.2.2.1 - 1 - k) else x.2.2.1 - 1 - k) = b + k by rw [if_pos rfl]; omega, show x.2.1 + (x.2.2.1 - 1 - k) = x.2.1 + x.2.2.1 - 1 - k by omega] at this
          exact this
      constructor
      · intro g p q k
        have old : ∀ p q, Pr (x.1, b, x.2.2.1, xorP x.2.2.2 w.2.2.2) p q → Fam R p q := fun p q ⟨k, k0, k1, e1, e2⟩ => by
          have a := g (x.1 + k) _ ⟨k, k0, k1, rfl, rfl⟩
          have c := ix k k0 k1
          rw [show p = x.1 + k from e1, show q = (if xorP x.2.2.2 w.2.2.2 = 1 then b + x.2.2.1 - 1 - k else b + k) from e2]
          exact a.trans c.symm
        rcases Pr.back k with k | k
        · exact old p q k
        · exact (old q p k).symm
      · intro g p q ⟨k, k0, k1, e1, e2⟩
        have pr : Pr (x.1, b, x.2.2.1, xorP x.2.2.2 w.2.2.2) (x.1 + k) (if xorP x.2.2.2 w.2.2.2 = 1 then b + x.2.2.1 - 1 - k else b + k) := ⟨k, k0, k1, rfl, rfl⟩
        have c := ix k k0 k1
        have a : Fam R (x.1 + k) (if xorP x.2.2.2 w.2.2.2 = 1 then b + x.2.2.1 - 1 - k else b + k) := by
          rcases Pr.there pr with u | u
          · exact g _ _ u
          · exact (g _ _ u).symm
        rw [e1, e2]
        exact a.trans c
    · rw [if_neg z] at h1 h2
      simp only [if_neg z]
      have lb : ∀ k : Int, 0 ≤ k → k < x.2.2.1 → Fam R (ledB w x.1 x.2.2.1 + (if w.2.2.2 = 1 then x.2.2.1 - 1 - k else k)) (x.1 + k) := fun k k0 k1 => ledB_fam hw hl hR h1 h2 k0 k1
      generalize ledB w x.1 x.2.2.1 = b at lb
      -- the pair at k of the one is the pair at k or n - 1 - k of the other
      have one : ∀ k : Int, 0 ≤ k → k < x.2.2.1 → Pr (b, x.2.1, x.2.2.1, xorP x.2.2.2 w.2.2.2) (b + (if w.2.2.2 = 1 then x.2.2.1 - 1 - k else k)) (if x.2.2.2 = 1 then x.2.1 + x.2.2.1 - 1 - k else x.2.1 + k) := fun k k0 k1 => by
        refine ⟨if w.2.2.2 = 1 then x.2.2.1 - 1 - k else k, by split <;> omega, by show _ < x.2.2.1; split <;> omega, rfl, ?_⟩
        show _ = (if xorP x.2.2.2 w.2.2.2 = 1 then x.2.1 + x.2.2.1 - 1 - _ else x.2.1 + _)
        unfold xorP
        rcases fx with fx | fx <;> rcases fw with fw | fw <;> rw [fx, fw] <;> simp <;> omega
      constructor
      · intro g p q k
        have old : ∀ p q, Pr (b, x.2.1, x.2.2.1, xorP x.2.2.2 w.2.2.2) p q → Fam R p q := fun p q ⟨k, k0, k1, e1, e2⟩ => by
          have k1' : k < x.2.2.1 := k1
          have e1' : p = b + k := e1
          have e2' : q = (if xorP x.2.2.2 w.2.2.2 = 1 then x.2.1 + x.2.2.1 - 1 - k else x.2.1 + k) := e2
          have key : ∃ j : Int, 0 ≤ j ∧ j < x.2.2.1 ∧ p = b + (if w.2.2.2 = 1 then x.2.2.1 - 1 - j else j) ∧ q = (if x.2.2.2 = 1 then x.2.1 + x.2.2.1 - 1 - j else x.2.1 + j) := by
            refine ⟨if w.2.2.2 = 1 then x.2.2.1 - 1 - k else k, by split <;> omega, by split <;> omega, ?_, ?_⟩
            · rw [e1']
              split <;> omega
            · rw [e2']
              unfold xorP
              rcases fx with fx | fx <;> rcases fw with fw | fw <;> rw [fx, fw] <;> simp <;> omega
          obtain ⟨j, j0, j1, p1, p2⟩ := key
          rw [p1, p2]
          exact (lb j j0 j1).trans (g _ _ ⟨j, j0, j1, rfl, rfl⟩)
        rcases Pr.back k with k | k
        · exact old p q k
        · exact (old q p k).symm
      · intro g p q ⟨k, k0, k1, e1, e2⟩
        rw [e1, e2]
        refine (lb k k0 k1).symm.trans ?_
        rcases Pr.there (one k k0 k1) with u | u
        · exact g _ _ u
        · exact (g _ _ u).symm
  · rw [if_neg hc] at h
    cases h
/-- what stays of a leader that was cut has pairs of the leader -/
theorem cut_fam {x : M4} {e m : Int} (hx : Rok e x) (hl : xLead x = true) (h1 : x.2.1 ≤ m) (h3 : m < x.2.1 + x.2.2.1) {p q : Int} (k : Pr (cutX x m) p q) : Pr x p q := by
  obtain ⟨j, j0, j1, e1, e2⟩ := k
  have j1' : j < m - x.2.1 := j1
  have e1' : p = (if x.2.2.2 = 1 then x.1 + x.2.2.1 - (m - x.2.1) else x.1) + j := e1
  have e2' : q = (if x.2.2.2 = 1 then x.2.1 + (m - x.2.1) - 1 - j else x.2.1 + j) := e2
  by_cases f : x.2.2.2 = 1
  · rw [if_pos f] at e1' e2'
    exact ⟨x.2.2.1 - (m - x.2.1) + j, by omega, by omega, by omega, by rw [if_pos f]; omega⟩
  · rw [if_neg f] at e1' e2'
    exact ⟨j, by omega, by omega, by omega, by rw [if_neg f]; omega⟩
/-- a leader's pairs, seen below the cut -/
theorem fold_fam {x : M4} {e m : Int} (hx : Rok e x) (hl : xLead x = true) (h1 : x.2.1 ≤ m) (h3 : m < x.2.1 + x.2.2.1) {R : Int → Int → Prop} (hR : m - x.2.1 ≠ 0 → ∀ p q, Pr (cutX x m) p q → Fam R p q) (p q : Int) (k : Pr x p q) : Fam R (if p < m then p else toW x p) (if q < m then q else toW x q) := by
  obtain ⟨j, j0, j1, e1, e2⟩ := k
  have g2 := hx.op
  unfold toW
  by_cases f : x.2.2.2 = 1
  · rw [if_pos f] at e2
    rw [if_pos f, if_pos f]
    have l := lead_tu hl f
    rw [if_pos (show p < m by omega)]
    by_cases c : q < m
    · rw [if_pos c]
      refine hR (by omega) p q ⟨m - 1 - q, by omega, by show _ < m - x.2.1; omega, ?_, ?_⟩
      · show p = (if x.2.2.2 = 1 then x.1 + x.2.2.1 - (m - x.2.1) else x.1) + _
        rw [if_pos f]
        omega
      · show q = (if x.2.2.2 = 1 then x.2.1 + (m - x.2.1) - 1 - _ else _)
        rw [if_pos f]
        omega
    · rw [if_neg c]
      exact Fam.of_eq (by omega)
  · rw [if_neg f] at e2
    rw [if_neg f, if_neg f]
    have s1 := lead_st hl f
    by_cases c : q < m
    · rw [if_pos c, if_pos (show p < m by omega)]
      refine hR (by omega) p q ⟨j, j0, by show _ < m - x.2.1; omega, ?_, ?_⟩
      · show p = (if x.2.2.2 = 1 then x.1 + x.2.2.1 - (m - x.2.1) else x.1) + _
        rw [if_neg f]
        omega
      · show q = (if x.2.2.2 = 1 then x.2.1 + (m - x.2.1) - 1 - _ else _)
        rw [if_neg f]
        show q = x.2.1 + j
        omega
    · rw [if_neg c]
      have same : (q - x.1) % (x.2.1 - x.1) = (p - x.1) % (x.2.1 - x.1) := by
        rw [show q - x.1 = p - x.1 + (x.2.1 - x.1) by omega, Int.add_emod_right]
      rw [same]
      by_cases c2 : p < m
      · rw [if_pos c2]
        have m0 := Int.emod_nonneg (p - x.1) (show x.2.1 - x.1 ≠ 0 by omega)
        have m1 := Int.emod_lt_of_pos (p - x.1) (show 0 < x.2.1 - x.1 by omega)
        have d : x.2.1 - x.1 ∣ p - (x.1 + (p - x.1) % (x.2.1 - x.1)) := by
          refine ⟨(p - x.1) / (x.2.1 - x.1), ?_⟩
          have := Int.mul_ediv_add_emod (p - x.1) (x.2.1 - x.1)
          omega
        have le : (p - x.1) % (x.2.1 - x.1) ≤ p - x.1 := by
          have := Int.mul_ediv_add_emod (p - x.1) (x.2.1 - x.1)
          have h0 : 0 ≤ (x.2.1 - x.1) * ((p - x.1) / (x.2.1 - x.1)) := Int.mul_nonneg (by omega) (Int.ediv_nonneg (by omega) (by omega))
          omega
        generalize (p - x.1) % (x.2.1 - x.1) = r at m0 m1 d le
        refine (steps_many (a := x.1) (z := m) (s := x.2.1 - x.1) (by omega) (fun u u1 u2 => ?_) (by omega) (by omega) c2 d).symm
        refine hR (by omega) u _ ⟨u - x.1, by omega, by show _ < m - x.2.1; omega, ?_, ?_⟩
        · show u = (if x.2.2.2 = 1 then x.1 + x.2.2.1 - (m - x.2.1) else x.1) + _
          rw [if_neg f]
          omega
        · show _ = (if x.2.2.2 = 1 then x.2.1 + (m - x.2.1) - 1 - _ else x.2.1 + _)
          rw [if_neg f]
          omega
      · rw [if_neg c2]
        exact .refl

/-! ### what the moves told stays true of the families at the beginning -/
def evM : Ev → Int
  | .bare m _ => m
  | .fold m _ _ _ _ => m
def evE : Ev → Int
  | .bare _ e => e
  | .fold _ e _ _ _ => e
/-- where a fold leads a place -/
def evTo (e lo st f p : Int) : Int := if f = 1 then lo + e - 1 - p else lo + (p - lo) % (if st > 1 then st else 1)
/-- an event is right of the families by R -/
def Good (R : Int → Int → Prop) : Ev → Prop
  | .bare m e => 0 ≤ m ∧ ∀ p, m ≤ p → p < e → ∀ q, 0 ≤ q → Fam R p q → p ≤ q
  | .fold m e lo st f => (f = 0 ∨ f = 1) ∧ 0 ≤ m ∧ ∀ p, m ≤ p → p < e → 0 ≤ evTo e lo st f p ∧ evTo e lo st f p < m ∧ Fam R (evTo e lo st f p) p
/-- the events, the last first, from the top t up to n -/
def Chn (R : Int → Int → Prop) (n : Int) : Int → List Ev → Prop
  | t, [] => t = n
  | t, v :: r => evM v = t ∧ t ≤ evE v ∧ Good R v ∧ Chn R n (evE v) r
/-- an event that a move tells of the road X -/
def GoodX (X : FS) : Ev → Prop
  | .bare m e => 0 ≤ m ∧ ∀ p, m ≤ p → p < e → ∀ q, Fam (Gn X.S) p q → q = p
  | .fold m e lo st f => (f = 0 ∨ f = 1) ∧ 0 ≤ m ∧ ∀ p, m ≤ p → p < e → 0 ≤ evTo e lo st f p ∧ evTo e lo st f p < m ∧ Fam (Gn X.S) (evTo e lo st f p) p
def Same1 (X X' : FS) : Prop := ∀ p q : Int, 0 ≤ p → p < X'.e → 0 ≤ q → q < X'.e → (Fam (Gn X.S) p q ↔ Fam (Gn X'.S) p q)
def Told1 (X X' : FS) : Prop := (X'.e = X.e ∧ X'.L = X.L) ∨ ∃ v, X'.L = X.L ++ [v] ∧ evM v = X'.e ∧ evE v = X.e ∧ X'.e < X.e ∧ GoodX X v
theorem mkS_fam {X X' : FS} (wf : WF X) : ∀ {mo : Mo}, mkS X mo = some X' → Same1 X X' ∧ Told1 X X'
  | .idle i, q => by
    obtain ⟨S, hS, rfl⟩ := Option.map_eq_some_iff.mp (show (idleS X.S i).map (fun S => (⟨X.e, S, X.L⟩ : FS)) = some X' from q)
    refine ⟨?_, .inl ⟨rfl, rfl⟩⟩
    unfold idleS at hS
    split at hS
    · rename_i x hx
      split at hS
      · rename_i hc
        cases hS
        refine fun p q _ _ _ _ => fam_drop wf.up hx (fun p q ⟨k, k0, k1, e1, e2⟩ => Fam.of_eq ?_) p q
        rw [if_neg (by omega)] at e2
        omega
      · cases hS
    · cases hS
  | .halve i, q => by
    obtain ⟨S, hS, rfl⟩ := Option.map_eq_some_iff.mp (show (halveS X.S i).map (fun S => (⟨X.e, S, X.L⟩ : FS)) = some X' from q)
    refine ⟨?_, .inl ⟨rfl, rfl⟩⟩
    unfold halveS at hS
    split at hS
    · rename_i x hx
      have rk := wf.at hx
      split at hS
      · cases hS
      · rename_i hc
        have hf : x.2.2.2 = 1 := by
          rcases rk.f01 with z | z
          · exact absurd (.inl z) hc
          · exact z
        have hl : ¬ xLead x = true := fun z => hc (.inr z)
        split at hS
        · rename_i hz
          cases hS
          refine fun p q _ _ _ _ => fam_drop wf.up hx (halve_fam rk hf hl fun p q ⟨k, k0, k1, _⟩ => ?_) p q
          have : k < hlf x.1 x.2.1 x.2.2.1 := k1
          omega
        · rename_i hz
          cases hS
          have k := half_ok rk hz
          rw [nrm_id k.op]
          exact fun p q _ _ _ _ => fam_put wf.up hx (fun p q k => Gn.at hx (half_fam rk hf hl k)) (halve_fam rk hf hl fun p q k => .rel ⟨_, sput_self hx, k⟩) p q
    · cases hS
  | .merge i j, q => by
    obtain ⟨S, hS, rfl⟩ := Option.map_eq_some_iff.mp (show (mergeS X.S i j).map (fun S => (⟨X.e, S, X.L⟩ : FS)) = some X' from q)
    refine ⟨?_, .inl ⟨rfl, rfl⟩⟩
    unfold mergeS at hS
    split at hS
    · cases hS
    · rename_i hij
      split at hS
      · rename_i x y hx hy
        obtain ⟨z, hz, rfl⟩ := Option.map_eq_some_iff.mp hS
        have k := mrg_ok (wf.at hx) (wf.at hy) hz
        rw [nrm_id k.op]
        have nw := merged_fam hz (R := Gn (sdrop (sput X.S i z) j)) fun p q k => .rel ⟨_, sdrop_other (sput_self hx) hij, k⟩
        intro p q _ _ _ _
        constructor
        · refine Fam.mono fun p q ⟨s, hs, k⟩ => ?_
          by_cases c : s.1 = i
          · rw [keys_one wf.up hx hs c] at k
            exact nw.1 p q k
          · by_cases c2 : s.1 = j
            · rw [keys_one wf.up hy hs c2] at k
              exact nw.2 p q k
            · exact .rel ⟨s, sdrop_other (sput_other hs c) c2, k⟩
        · refine Fam.mono fun p q ⟨s, hs, k⟩ => ?_
          rcases sput_mem (sdrop_mem hs).1 with ⟨_, e⟩ | ⟨hs, _⟩
          · rw [e] at k
            exact merge_fam hz (fun p q k => Gn.at hx k) (fun p q k => Gn.at hy k) p q k
          · exact .rel ⟨s, hs, k⟩
      · cases hS
  | .lead j d i, q => by
    obtain ⟨S, hS, rfl⟩ := Option.map_eq_some_iff.mp (show (leadS X.S j d i).map (fun S => (⟨X.e, S, X.L⟩ : FS)) = some X' from q)
    refine ⟨?_, .inl ⟨rfl, rfl⟩⟩
    unfold leadS at hS
    split at hS
    · cases hS
    · rename_i hij
      split at hS
      · rename_i x w hx hw
        obtain ⟨y, hy, rfl⟩ := Option.map_eq_some_iff.mp hS
        have w1 := lead_fam (wf.at hx) (wf.at hw) hy (R := Gn X.S) fun p q k => Gn.at hw k
        have w2 := lead_fam (wf.at hx) (wf.at hw) hy (R := Gn (sput X.S j y)) fun p q k => .rel ⟨_, sput_other (sget_in hw) hij, k⟩
        exact fun p q _ _ _ _ => fam_put wf.up hx (w1.1 fun p q k => Gn.at hx k) (w2.2 fun p q k => .rel ⟨_, sput_self hx, k⟩) p q
      · cases hS
  | .fold i m, q => by
    have q' : foldS X i m = some X' := q
    unfold foldS at q'
    split at q'
    · rename_i x hx
      have rk := wf.at hx
      split at q'
      · rename_i hc
        obtain ⟨hl, h1, h2, h3, h4⟩ := hc
        cases q'
        have g0 := rk.o0
        have g1 := rk.op
        have h3' : m < x.2.1 + x.2.2.1 := by omega
        have others : ∀ s ∈ X.S, s.1 ≠ i → ∀ p q, Pr s.2 p q → p < m ∧ q < m := fun s hs hn p q ⟨k, k0, k1, e1, e2⟩ => by
          have r := wf.r s hs
          have z := rch_ge hs (b := some i) (fun q => hn (Option.some.inj q).symm)
          have := r.op
          refine ⟨by omega, ?_⟩
          split at e2 <;> omega
        refine ⟨?_, .inr ⟨_, rfl, rfl, rfl, h3, rk.f01, by omega, fun p p1 p2 => ?_⟩⟩
        · -- the new pairs, and the old ones seen below the cut
          have put : ∀ S' : StL, (∀ s ∈ X.S, s.1 ≠ i → s ∈ S') → (m - x.2.1 ≠ 0 → (i, cutX x m) ∈ S') → (∀ s ∈ S', s ∈ X.S ∨ (s.2 = cutX x m)) → ∀ p q : Int, p < m → q < m → (Fam (Gn X.S) p q ↔ Fam (Gn S') p q) := by
            intro S' a1 a2 a3 p q pm qm
            constructor
            · intro k
              have := Fam.map (g := fun p => if p < m then p else toW x p) (T := Gn S') (fun p q ⟨s, hs, k⟩ => by
                by_cases c : s.1 = i
                · rw [keys_one wf.up hx hs c] at k
                  exact fold_fam rk hl h2 h3' (fun ne p q k => .rel ⟨_, a2 ne, k⟩) p q k
                · obtain ⟨o1, o2⟩ := others s hs c p q k
                  simp only [if_pos o1, if_pos o2]
                  exact .rel ⟨s, a1 s hs c, k⟩) k
              simp only [if_pos pm, if_pos qm] at this
              exact this
            · refine Fam.mono fun p q ⟨s, hs, k⟩ => ?_
              rcases a3 s hs with h | h
              · exact .rel ⟨s, h, k⟩
              · rw [h] at k
                exact Gn.at hx (cut_fam rk hl h2 h3' k)
          intro p q p0 pm q0 qm
          by_cases z : m - x.2.1 = 0
          · simp only [if_pos z]
            exact put _ (fun s hs n => sdrop_other hs n) (fun n => absurd z n) (fun s hs => .inl (sdrop_mem hs).1) p q pm qm
          · simp only [if_neg z]
            refine put _ (fun s hs n => sput_other hs n) (fun n => sput_self hx) (fun s hs => ?_) p q pm qm
            rcases sput_mem hs with ⟨_, e⟩ | ⟨hs, _⟩
            · exact .inr e
            · exact .inl hs
        · have tw := toW_fam rk hl (R := Gn X.S) (fun p q k => Gn.at hx k) (q := p) (by omega) (by omega) (fun _ => by omega)
          have eq : evTo X.e x.1 (if x.2.2.2 = 1 then 0 else x.2.1 - x.1) x.2.2.2 p = toW x p := by
            unfold evTo toW
            by_cases f : x.2.2.2 = 1
            · rw [if_pos f, if_pos f]
              omega
            · rw [if_neg f, if_neg f, if_neg f]
              have s1 := lead_st hl f
              rw [show (if x.2.1 - x.1 > 1 then x.2.1 - x.1 else 1) = x.2.1 - x.1 by split <;> omega]
          rw [eq]
          exact ⟨tw.2.1, by omega, tw.1⟩
      · cases q'
    · cases q'
  | .bare m, q => by
    have q' : bareS X m = some X' := q
    unfold bareS at q'
    split at q'
    · rename_i hc
      cases q'
      refine ⟨fun p q _ _ _ _ => Iff.rfl, .inr ⟨_, rfl, rfl, rfl, hc.2, Int.le_trans (rch_0 _ _) hc.1, fun p p1 p2 q k => ?_⟩⟩
      refine (Fam.alone (a := p) (fun u v ⟨s, hs, j, j0, j1, e1, e2⟩ => ?_) k).mp rfl
      have z : s.2.2.1 + s.2.2.2.1 ≤ rch X.S none := rch_ge hs (b := none) (fun q => by cases q)
      have r := (wf.r s hs).op
      have z2 := hc.1
      have a : u < p := by omega
      have b : v < p := by split at e2 <;> omega
      exact ⟨fun h => by omega, fun h => by omega⟩
    · cases q'
/-- what holds of a road X that was made from X0 by moves -/
structure KptX (X0 X : FS) : Prop where
  fam : ∀ p q : Int, 0 ≤ p → p < X.e → 0 ≤ q → q < X.e → (Fam (Gn X0.S) p q ↔ Fam (Gn X.S) p q)
  chn : Chn (Gn X0.S) X0.e X.e X.L.reverse
theorem KptX.first (X0 : FS) (h : X0.L = []) : KptX X0 X0 := ⟨fun _ _ _ _ _ _ => Iff.rfl, by rw [h]; rfl⟩
theorem KptX.next {X0 X X' : FS} {mo : Mo} (h : KptX X0 X) (wf : WF X) (e : mkS X mo = some X') : KptX X0 X' := by
  obtain ⟨s, t⟩ := mkS_fam wf e
  have le : X'.e ≤ X.e := by
    rcases t with ⟨e, _⟩ | ⟨_, _, _, _, e, _⟩ <;> omega
  refine ⟨fun p q p0 p1 q0 q1 => (h.fam p q p0 (by omega) q0 (by omega)).trans (s p q p0 p1 q0 q1), ?_⟩
  rcases t with ⟨e1, e2⟩ | ⟨v, e1, e2, e3, e4, g⟩
  · rw [e1, e2]
    exact h.chn
  · rw [e1, List.reverse_append]
    refine ⟨e2, by omega, ?_, by rw [e3]; exact h.chn⟩
    cases v with
    | bare m x =>
      have e3' : x = X.e := e3
      have e2' : m = X'.e := e2
      refine ⟨g.1, fun p p1 p2 q q0 k => ?_⟩
      by_cases c : q < X.e
      · have gg := g.1
        have := g.2 p p1 p2 q ((h.fam p q (by omega) (by omega) q0 c).mp k)
        omega
      · omega
    | fold m x lo st f =>
      have e3' : x = X.e := e3
      have e2' : m = X'.e := e2
      refine ⟨g.1, g.2.1, fun p p1 p2 => ?_⟩
      obtain ⟨a1, a2, a3⟩ := g.2.2 p p1 p2
      have g2 := g.2.1
      exact ⟨a1, a2, (h.fam _ _ a1 (by omega) (by omega) (by omega)).mpr a3⟩

/-! ### heads of families: joined by pairs, each head not above its place -/
def rt (hs : List Int) : Nat → Int → Int
  | 0, p => p
  | k + 1, p => match hs[p.toNat]? with
    | some q => if q = p then p else rt hs k q
    | none => p
def Hok (hs : List Int) : Prop := ∀ (i : Nat) (q : Int), hs[i]? = some q → 0 ≤ q ∧ q ≤ i
theorem Hok.at {hs : List Int} (h : Hok hs) {p q : Int} (p0 : 0 ≤ p) (e : hs[p.toNat]? = some q) : 0 ≤ q ∧ q ≤ p := by
  have := h _ _ e
  omega
/-- the least of each family -/
structure IsRoots (R : Int → Int → Prop) (n : Nat) (rs : List Int) : Prop where
  len : rs.length = n
  at_ : ∀ (p : Nat) (r : Int), rs[p]? = some r → 0 ≤ r ∧ r ≤ p ∧ Fam R p r ∧ ∀ q : Int, 0 ≤ q → Fam R p q → r ≤ q
theorem IsRoots.same {R : Int → Int → Prop} {n : Nat} {rs : List Int} (h : IsRoots R n rs) {p q : Nat} {a b : Int} (ha : rs[p]? = some a) (hb : rs[q]? = some b) : a = b ↔ Fam R p q := by
  obtain ⟨a0, a1, a2, a3⟩ := h.at_ p a ha
  obtain ⟨b0, b1, b2, b3⟩ := h.at_ q b hb
  constructor
  · intro e
    rw [← e] at b2
    exact a2.trans b2.symm
  · intro k
    have x := a3 b b0 (k.trans b2)
    have y := b3 a a0 (k.symm.trans a2)
    omega

/-! ### pairs and ends, without the law's own (41_ends, k11f_root less what they read) -/
/-- the pairs at these addresses -/
def Prs (H : Hp) (ps : List Addr) (xs : List (Int × Int)) : Prop := Paired (fun a x => H a = some (.tup [.int x.1, .int x.2])) ps xs
theorem Paired.same {H H' : Hp} (e : Same H H') : ∀ {ps : List Addr} {xs : List (Int × Int)}, Prs H ps xs → Prs H' ps xs
  | _, _, .nil => .nil
  | _, _, .cons h r => .cons (e _ _ h) (Paired.same e r)
theorem Prs.same {H H' : Hp} {ps : List Addr} {xs : List (Int × Int)} (h : Prs H ps xs) (e : Same H H') : Prs H' ps xs := Paired.same e h
theorem Prs.snoc {H : Hp} : ∀ {ps : List Addr} {xs : List (Int × Int)} {a : Addr} {x : Int × Int}, Prs H ps xs → H a = some (.tup [.int x.1, .int x.2]) → Prs H (ps ++ [a]) (xs ++ [x])
  | _, _, _, _, .nil, h => .cons h .nil
  | _, _, _, _, .cons h r, h2 => .cons h (Prs.snoc r h2)
theorem Prs.length {H : Hp} : ∀ {ps : List Addr} {xs : List (Int × Int)}, Prs H ps xs → ps.length = xs.length
  | _, _, .nil => rfl
  | _, _, .cons _ r => congrArg (· + 1) (Prs.length r)
theorem Prs.get {H : Hp} : ∀ {ps : List Addr} {xs : List (Int × Int)}, Prs H ps xs → ∀ (i : Nat) (x : Int × Int), xs[i]? = some x → ∃ a, ps[i]? = some a ∧ H a = some (.tup [.int x.1, .int x.2])
  | _, _, .nil, i, x, h => by simp at h
  | _, _, .cons (a := a) h r, 0, x, e => by
    cases e
    exact ⟨a, rfl, h⟩
  | _, _, .cons h r, i + 1, x, e => Prs.get r i x e
theorem Prs.rp {H : Hp} : ∀ {ps : List Addr} {xs : List (Int × Int)}, Prs H ps xs → ∀ n, RpAll H (n + 1) (ps.map V.ref) (xs.map fun x => .tuple [.int x.1, .int x.2])
  | _, _, .nil, n => .nil _
  | _, _, .cons h r, n => .cons (.tup h (by show 2 ≤ 100000; decide) (.cons (.int _ _) (.cons (.int _ _) (.nil _)))) (Prs.rp r n)
/-! ### each right move makes a road less -/
def wt (x : M4) : Int := x.1 + x.2.1 + 2 * x.2.2.1
def wts : StL → Int
  | [] => 0
  | s :: r => wt s.2 + wts r
def mu (X : FS) : Int := X.e + wts X.S
theorem sput_none {S : StL} {i : Int} {y : M4} (h : ∀ s ∈ S, s.1 ≠ i) : sput S i y = S := by
  unfold sput
  induction S with
  | nil => rfl
  | cons s r ih =>
    rw [List.map_cons, if_neg (h s List.mem_cons_self), ih fun t ht => h t (List.mem_cons_of_mem _ ht)]
theorem sdrop_none {S : StL} {i : Int} (h : ∀ s ∈ S, s.1 ≠ i) : sdrop S i = S := List.filter_eq_self.mpr fun s hs => decide_eq_true (h s hs)
theorem wts_put : ∀ {S : StL}, (S.map (·.1)).Pairwise (· < ·) → ∀ {i : Int} {x y : M4}, sget S i = some x → wts (sput S i y) = wts S - wt x + wt y
  | s :: r, up, i, x, y, h => by
    have h' : (if s.1 = i then some s.2 else sget r i) = some x := h
    obtain ⟨u1, u2⟩ := List.pairwise_cons.mp (show (s.1 :: r.map (·.1)).Pairwise (· < ·) from up)
    by_cases c : s.1 = i
    · rw [if_pos c] at h'
      cases h'
      have e : sput r i y = r := sput_none fun t ht => by
        have := u1 t.1 (List.mem_map_of_mem ht)
        omega
      show wts ((if s.1 = i then (s.1, y) else s) :: sput r i y) = _
      rw [if_pos c, e]
      show wt y + wts r = wt s.2 + wts r - wt s.2 + wt y
      omega
    · rw [if_neg c] at h'
      show wts ((if s.1 = i then (s.1, y) else s) :: sput r i y) = _
      rw [if_neg c]
      show wt s.2 + wts (sput r i y) = wt s.2 + wts r - wt x + wt y
      rw [wts_put u2 h']
      omega
theorem wts_drop : ∀ {S : StL}, (S.map (·.1)).Pairwise (· < ·) → ∀ {i : Int} {x : M4}, sget S i = some x → wts (sdrop S i) = wts S - wt x
  | s :: r, up, i, x, h => by
    have h' : (if s.1 = i then some s.2 else sget r i) = some x := h
    obtain ⟨u1, u2⟩ := List.pairwise_cons.mp (show (s.1 :: r.map (·.1)).Pairwise (· < ·) from up)
    by_cases c : s.1 = i
    · rw [if_pos c] at h'
      cases h'
      have e : sdrop r i = r := sdrop_none fun t ht => by
        have := u1 t.1 (List.mem_map_of_mem ht)
        omega
      have e2 : sdrop (s :: r) i = sdrop r i := List.filter_cons_of_neg (by simpa using c)
      rw [e2, e]
      show wts r = wt s.2 + wts r - wt s.2
      omega
    · rw [if_neg c] at h'
      have e2 : sdrop (s :: r) i = s :: sdrop r i := List.filter_cons_of_pos (by simpa using c)
      rw [e2]
      show wt s.2 + wts (sdrop r i) = wt s.2 + wts r - wt x
      rw [wts_drop u2 h']
      omega
theorem wts_0 {X : FS} (wf : WF X) : 0 ≤ wts X.S := by
  have : ∀ S : StL, (∀ s ∈ S, Rok X.e s.2) → 0 ≤ wts S := fun S => by
    induction S with
    | nil => exact fun _ => Int.le_refl _
    | cons s r ih =>
      intro h
      have a := ih fun t ht => h t (List.mem_cons_of_mem _ ht)
      have k := h s List.mem_cons_self
      have := k.o0
      have := k.op
      have := k.m1
      show 0 ≤ wt s.2 + wts r
      unfold wt
      omega
  exact this _ wf.r
theorem mu_0 {X : FS} (wf : WF X) : 0 ≤ mu X := by
  have := wts_0 wf
  have := wf.e0
  unfold mu
  omega
theorem wt_nrm (x : M4) : wt (nrm x) = wt x := by
  unfold wt nrm
  show (if x.2.1 < x.1 then x.2.1 else x.1) + (if x.2.1 < x.1 then x.1 else x.2.1) + 2 * x.2.2.1 = _
  split <;> omega
theorem sget_put_other {S : StL} {i j : Int} {y : M4} (n : ¬ i = j) : sget (sput S i y) j = sget S j := by
  unfold sput
  induction S with
  | nil => rfl
  | cons s r ih =>
    show (if (if s.1 = i then (s.1, y) else s).1 = j then some (if s.1 = i then (s.1, y) else s).2 else sget (r.map _) j) = if s.1 = j then some s.2 else sget r j
    rw [ih]
    by_cases c : s.1 = i
    · rw [if_pos c]
      show (if s.1 = j then some y else sget r j) = _
      rw [if_neg (by omega), if_neg (by omega)]
    · rw [if_neg c]
theorem mkS_mu {X X' : FS} (wf : WF X) : ∀ {mo : Mo}, mkS X mo = some X' → mu X' < mu X
  | .idle i, q => by
    obtain ⟨S, hS, rfl⟩ := Option.map_eq_some_iff.mp (show (idleS X.S i).map (fun S => (⟨X.e, S, X.L⟩ : FS)) = some X' from q)
    unfold idleS at hS
    split at hS
    · rename_i x hx
      have k := wf.at hx
      split at hS
      · cases hS
        have := wts_drop wf.up hx
        have := k.o0
        have := k.op
        have := k.m1
        show X.e + wts (sdrop X.S i) < X.e + wts X.S
        unfold wt at *
        omega
      · cases hS
    · cases hS
  | .halve i, q => by
    obtain ⟨S, hS, rfl⟩ := Option.map_eq_some_iff.mp (show (halveS X.S i).map (fun S => (⟨X.e, S, X.L⟩ : FS)) = some X' from q)
    unfold halveS at hS
    split at hS
    · rename_i x hx
      have k := wf.at hx
      have h0 := k.o0
      have h1 := k.op
      have h2 := k.m1
      split at hS
      · cases hS
      · rename_i hc
        have hf : x.2.2.2 = 1 := by
          rcases k.f01 with z | z
          · exact absurd (.inl z) hc
          · exact z
        have hl : ¬ x.2.2.1 ≤ x.2.1 - x.1 := fun z => hc (.inr (by
          show (if x.2.2.2 = 1 then decide (x.2.2.1 ≤ x.2.1 - x.1) else _) = true
          rw [if_pos hf]
          exact decide_eq_true z))
        have e0 : hlf x.1 x.2.1 x.2.2.1 = (x.2.1 + x.2.2.1 - x.1) / 2 := rfl
        split at hS
        · cases hS
          have := wts_drop wf.up hx
          show X.e + wts (sdrop X.S i) < X.e + wts X.S
          unfold wt at *
          omega
        · cases hS
          have e := wts_put wf.up hx (y := nrm (x.1, x.2.1 + x.2.2.1 - hlf x.1 x.2.1 x.2.2.1, hlf x.1 x.2.1 x.2.2.1, x.2.2.2))
          rw [wt_nrm] at e
          show X.e + wts _ < X.e + wts X.S
          rw [e]
          generalize hlf x.1 x.2.1 x.2.2.1 = t at e0
          show X.e + (wts X.S - (x.1 + x.2.1 + 2 * x.2.2.1) + (x.1 + (x.2.1 + x.2.2.1 - t) + 2 * t)) < X.e + wts X.S
          omega
    · cases hS
  | .merge i j, q => by
    obtain ⟨S, hS, rfl⟩ := Option.map_eq_some_iff.mp (show (mergeS X.S i j).map (fun S => (⟨X.e, S, X.L⟩ : FS)) = some X' from q)
    unfold mergeS at hS
    split at hS
    · cases hS
    · rename_i hij
      split at hS
      · rename_i x y hx hy
        obtain ⟨z, hz, rfl⟩ := Option.map_eq_some_iff.mp hS
        have kx := wf.at hx
        have ky := wf.at hy
        have e1 := wts_put wf.up hx (y := nrm z)
        have e2 := wts_drop (S := sput X.S i (nrm z)) (by rw [sput_keys]; exact wf.up) (by rw [sget_put_other hij]; exact hy)
        rw [wt_nrm] at e1
        show X.e + wts _ < X.e + wts X.S
        rw [e2, e1]
        unfold mrg at hz
        split at hz
        · rename_i hc
          obtain ⟨r1, r2, hs⟩ := hc
          cases hz
          obtain ⟨_, a1, a2⟩ := isRep_of r1
          obtain ⟨_, b1, b2⟩ := isRep_of r2
          have hg1 : 1 ≤ Nat.gcd (x.2.1 - x.1).toNat (y.2.1 - y.1).toNat := Nat.gcd_pos_of_pos_left _ (by omega)
          have hs' : x.2.1 - x.1 + (y.2.1 - y.1) ≤ imin (x.2.1 + x.2.2.1) (y.2.1 + y.2.2.1) - imax x.1 y.1 := hs
          have g1 := kx.o0
          have g3 := ky.o0
          show X.e + (wts X.S - (x.1 + x.2.1 + 2 * x.2.2.1) + (imin x.1 y.1 + (imin x.1 y.1 + (Nat.gcd (x.2.1 - x.1).toNat (y.2.1 - y.1).toNat : Nat)) + 2 * (imax (x.2.1 + x.2.2.1) (y.2.1 + y.2.2.1) - imin x.1 y.1 - (Nat.gcd (x.2.1 - x.1).toNat (y.2.1 - y.1).toNat : Nat))) - (y.1 + y.2.1 + 2 * y.2.2.1)) < X.e + wts X.S
          generalize Nat.gcd (x.2.1 - x.1).toNat (y.2.1 - y.1).toNat = g at hg1
          unfold imin imax at *
          split at hs' <;> split at hs' <;> split <;> split <;> omega
        · cases hz
      · cases hS
  | .lead j d i, q => by
    obtain ⟨S, hS, rfl⟩ := Option.map_eq_some_iff.mp (show (leadS X.S j d i).map (fun S => (⟨X.e, S, X.L⟩ : FS)) = some X' from q)
    unfold leadS at hS
    split at hS
    · cases hS
    · split at hS
      · rename_i x w hx hw
        obtain ⟨y, hy, rfl⟩ := Option.map_eq_some_iff.mp hS
        have kx := wf.at hx
        have kw := wf.at hw
        have e := wts_put wf.up hx (y := y)
        show X.e + wts _ < X.e + wts X.S
        rw [e]
        unfold leadX at hy
        by_cases hc : (d = 0 ∨ d = 1) ∧ xLead w = true ∧ w.2.1 ≤ (if d = 1 then x.2.1 else x.1) ∧ (if d = 1 then x.2.1 else x.1) + x.2.2.1 ≤ w.2.1 + w.2.2.1
        · rw [if_pos hc] at hy
          obtain ⟨hd, hl, h1, h2⟩ := hc
          cases hy
          rw [wt_nrm]
          have m1 := kx.m1
          have less : ∀ at_ : Int, w.2.1 ≤ at_ → at_ + x.2.2.1 ≤ w.2.1 + w.2.2.1 → ledB w at_ x.2.2.1 < at_ := fun at_ a1 a2 => by
            unfold ledB
            by_cases f : w.2.2.2 = 1
            · rw [if_pos f]
              have := lead_tu hl f
              omega
            · rw [if_neg f]
              have s1 := lead_st hl f
              have := Int.emod_lt_of_pos (at_ - w.1) (show 0 < w.2.1 - w.1 by omega)
              omega
          by_cases z : d = 1
          · rw [if_pos z] at h1 h2
            have := less _ h1 h2
            simp only [if_pos z]
            show X.e + (wts X.S - (x.1 + x.2.1 + 2 * x.2.2.1) + (x.1 + ledB w x.2.1 x.2.2.1 + 2 * x.2.2.1)) < _
            omega
          · rw [if_neg z] at h1 h2
            have := less _ h1 h2
            simp only [if_neg z]
            show X.e + (wts X.S - (x.1 + x.2.1 + 2 * x.2.2.1) + (ledB w x.1 x.2.2.1 + x.2.1 + 2 * x.2.2.1)) < _
            omega
        · rw [if_neg hc] at hy
          cases hy
      · cases hS
  | .fold i m, q => by
    have q' : foldS X i m = some X' := q
    unfold foldS at q'
    split at q'
    · rename_i x hx
      have k := wf.at hx
      split at q'
      · rename_i hc
        obtain ⟨hl, h1, h2, h3, h4⟩ := hc
        cases q'
        have g0 := k.o0
        have g1 := k.op
        have g2 := k.m1
        by_cases z : m - x.2.1 = 0
        · have e := wts_drop wf.up hx
          show m + wts (if m - x.2.1 = 0 then _ else _) < X.e + wts X.S
          rw [if_pos z, e]
          unfold wt
          omega
        · have e := wts_put wf.up hx (y := cutX x m)
          show m + wts (if m - x.2.1 = 0 then _ else _) < X.e + wts X.S
          rw [if_neg z, e]
          show m + (wts X.S - (x.1 + x.2.1 + 2 * x.2.2.1) + ((if x.2.2.2 = 1 then x.1 + x.2.2.1 - (m - x.2.1) else x.1) + x.2.1 + 2 * (m - x.2.1))) < _
          split <;> omega
      · cases q'
    · cases q'
  | .bare m, q => by
    have q' : bareS X m = some X' := q
    unfold bareS at q'
    split at q'
    · rename_i hc
      cases q'
      show m + wts X.S < X.e + wts X.S
      omega
    · cases q'

/-! ### min(xs, key=f), told over the state of a def -/
section
open PySem.Spec PyProof.Rows
variable {X : Cx} {pins : List (Addr × Obj)} {σ : L2.St} {H : Hp} {l q I S : Addr} {xs : List V} {kf : Nat → Int}
theorem pin_two {s : Shared} {oS oI : Obj} (J : Inv X pins σ H s) (fS : FpOk X pins H S) (fI : FpOk X pins H I) (hS : s.heap.get? S = some oS) (hI : s.heap.get? I = some oI) (nS : ∀ v, oS.data ≠ .cell v) (nI : ∀ v, oI.data ≠ .cell v) : Inv X (pins ++ [(S, oS), (I, oI)]) σ H s :=
  J.pins_of fun p hp => by
    rcases List.mem_append.mp hp with hp | hp
    · exact J.pin p (List.mem_append_right _ hp)
    · rcases List.mem_cons.mp hp with rfl | hp
      · exact ⟨hS, fS.1, fS.2.1, fS.2.2.1, nS⟩
      · rw [List.mem_singleton.mp hp]
        exact ⟨hI, fI.1, fI.2.1, fI.2.2.1, nI⟩
theorem pin_at {s : Shared} {pl : List (Addr × Obj)} {p : Addr × Obj} (J : Inv X (pins ++ pl) σ H s) (hp : p ∈ pl) : s.heap.get? p.1 = some p.2 := (J.pin p (List.mem_append_right _ (List.mem_append_right _ hp))).1
theorem vals_at : ∀ {xs : List V} {us : List Value}, Vals xs us → ∀ {i : Nat} {v : Value}, us[i]? = some v → ∃ z, xs[i]? = some z ∧ L2.RelV z v
  | _, _, .nil, i, v, h => by simp at h
  | _, _, .cons r rr, 0, v, h => by
    cases h
    exact ⟨_, rfl, r⟩
  | _, _, .cons r rr, i + 1, v, h => vals_at rr h
/-- what a turn is asked: the key of the item, and all stays -/
def KTurn (X : Cx) (pins : List (Addr × Obj)) (σ : L2.St) (H : Hp) (q : Addr) (xs : List V) (kf : Nat → Int) : Prop :=
  ∀ (i : Nat) (z : V) (v : Value), xs[i]? = some z → L2.RelV z v → ∀ (pl : List (Addr × Obj)) (s : Shared), (∀ p ∈ pins, p ∈ pl) → Inv X pl σ H s → wpAny (model X.prog X.w) X.A.in1 (call (.ref q) [v]) (fun x s' => ∃ t, x = .int (kf i) t ∧ Inv X pl σ H s') (fun _ _ => False) s
def KBest (kf : Nat → Int) (i n : Nat) : Prop := ∀ j, j < n → kf i ≤ kf j ∧ (j < i → kf i < kf j)
theorem minK_loop {R : Result → Shared → Prop} (hh : X.A.handled = none) (hl : ∀ pl s, Inv X pl σ H s → ∃ its : List Value, Vals xs its ∧ s.heap.IsList l its.toArray) (hlI : l ≠ I) (hSI : S ≠ I) (fS : FpOk X pins H S) (fI : FpOk X pins H I) (turn : KTurn X pins σ H q xs kf)
    (hR : ∀ i z v s, xs[i]? = some z → L2.RelV z v → KBest kf i xs.length → Inv X pins σ H s → R (.ok (.ret v)) s) :
    ∀ (r j i : Nat) (s : Shared) (zb : V) (vb : Value) (tb : Tok) (c : Nat) (oI : Obj), xs.length - (j + 1) = r → j + 1 ≤ xs.length → Inv X (pins ++ [(S, seqObj "list" #[vb, .int (kf i) tb] c), (I, oI)]) σ H s → s.heap.IsListIter I l (j + 1) → (∀ v, oI.data ≠ .cell v) → xs[i]? = some zb → L2.RelV zb vb → i ≤ j → KBest kf i (j + 1) →
      codeAny (model X.prog X.w) X.A (.builtin "min.loop" ⟨[.ref I, .ref q, .ref S], []⟩) R s := by
  have hname : (toString "min" ++ toString ".loop" : String) = "min.loop" := by decide
  intro r
  induction r with
  | zero =>
    intro j i s zb vb tb c oI hr hj J hit nI hzb hvb hij hbest
    have hin : j + 1 = xs.length := by omega
    obtain ⟨its, rv, hls⟩ := hl _ _ J
    have W := Walks.list (prog := X.prog) (w := X.w) (A := X.A.in1) hh I l hlI its.toArray
    have hsz : its.toArray.size = xs.length := by rw [List.size_toArray, rv.length]
    have nS := pin_at J (p := (S, seqObj "list" #[vb, .int (kf i) tb] c)) (.head _)
    refine codeAny_builtin PySem.F.entry_min_loop ?_
    rw [Around.under_plainId PySem.F.plain_min_loop _]
    show wpAny _ X.A.in1 (seqItems? (.ref S) >>= _) _ _ _
    refine wpAny_bind (wpAny_seqItems nS rfl ?_)
    show wpAny _ X.A.in1 (tryCatch (pyNext (.ref I)) _ >>= _) _ _ _
    refine wpAny_bind (wpAny_tryCatch (W.done _ _ _ ⟨by rw [hsz, ← hin]; exact hit, hls⟩ fun h' tk' hk' => ?_))
    have J1 : Inv X pins σ H { s with heap := h', toks := tk' } := (J.unpinned).turnedL (ch := [I]) hk' (fun b hb => by rw [List.mem_singleton.mp hb]; exact fI)
    have hS' := hk' S _ (by simpa using hSI) nS
    have s1 := Heap.SameBut.update h' S (Obj.mapSeq fun _ => (#[] : Array Value))
    show wpAny _ X.A.in1 (updateSeq S (fun _ => #[]) >>= _) _ _ _
    refine wpAny_bind ?_
    refine wpAny_updateSeq hS' rfl (wpAny_bind (wpAny_letGo (wpAny_pure ?_)))
    refine hR i zb vb _ hzb hvb (by rw [← hin]; exact hbest) ?_
    exact J1.turnedL (ch := [S]) (fun b o hb e => (s1.2 b (by simpa using hb)).trans e) (fun b hb => by rw [List.mem_singleton.mp hb]; exact fS)
  | succ r ih =>
    intro j i s zb vb tb c oI hr hj J hit nI hzb hvb hij hbest
    have hlt : j + 1 < xs.length := by omega
    obtain ⟨its, rv, hls⟩ := hl _ _ J
    have W := Walks.list (prog := X.prog) (w := X.w) (A := X.A.in1) hh I l hlI its.toArray
    have hsz : its.toArray.size = xs.length := by rw [List.size_toArray, rv.length]
    have nS := pin_at J (p := (S, seqObj "list" #[vb, .int (kf i) tb] c)) (.head _)
    refine codeAny_builtin PySem.F.entry_min_loop ?_
    rw [Around.under_plainId PySem.F.plain_min_loop _]
    show wpAny _ X.A.in1 (seqItems? (.ref S) >>= _) _ _ _
    refine wpAny_bind (wpAny_seqItems nS rfl ?_)
    show wpAny _ X.A.in1 (tryCatch (pyNext (.ref I)) _ >>= _) _ _ _
    refine wpAny_bind (wpAny_tryCatch (W.item (j + 1) _ _ _ (by rw [hsz]; exact hlt) ⟨hit, hls⟩ fun v h' tk' hP hst' hk' => ?_))
    have hv : its[j + 1]? = some v := by simpa using hP
    obtain ⟨z, hz, rz⟩ := vals_at rv hv
    obtain ⟨oI', hoI', hoc, hod⟩ := id hst'.1
    have J1 : Inv X pins σ H { s with heap := h', toks := tk' } := (J.unpinned).turnedL (ch := [I]) hk' (fun b hb => by rw [List.mem_singleton.mp hb]; exact fI)
    have nI' : ∀ v, oI'.data ≠ .cell v := fun v z => by rw [hod] at z; cases z
    have J2 := pin_two J1 fS fI (hk' S _ (by simpa using hSI) nS) hoI' (fun v z => by cases z) nI'
    show wpAny _ X.A.in1 (tryCatch (holding [v] (call (.ref q) [v])) _ >>= _) _ _ _
    refine wpAny_bind (wpAny_tryCatch (wpAny_holding (wpAny_mono (turn (j + 1) z v hz rz _ _ (fun p hp => List.mem_append_left _ hp) J2) (fun x s2 he => ?_) fun _ _ hF => hF.elim)))
    obtain ⟨t2, rfl, J3⟩ := he
    have nS2 := pin_at J3 (p := (S, seqObj "list" #[vb, .int (kf i) tb] c)) (.head _)
    have nI2 := pin_at J3 (p := (I, oI')) (.tail _ (.head _))
    have hit2 : s2.heap.IsListIter I l (j + 1 + 1) := ⟨oI', nI2, hoc, hod⟩
    show wpAny _ X.A.in1 (tryCatch (holding [v, .int (kf (j + 1)) t2] (richCompare .Lt (.int (kf (j + 1)) t2) (.int (kf i) tb) >>= _)) _ >>= _) _ _ _
    refine wpAny_bind (wpAny_tryCatch (wpAny_holding (wpAny_bind (CmpOf.ints_lt (prog := X.prog) (w := X.w) (A := X.A.in1) (P := fun i v => ∃ t, v = .int (kf i) t) kf (fun i v h => h) (j + 1) i _ _ _ _ _ ⟨t2, rfl⟩ ⟨tb, rfl⟩ ?_))))
    refine wpAny_bind (wpAny_holding (wpAny_truthy_bool ?_))
    refine wpAny_bind (wpAny_letGo (wpAny_pure ?_))
    by_cases hb' : kf (j + 1) < kf i
    · have s1 := Heap.SameBut.update s2.heap S (Obj.mapSeq fun _ => #[v, .int (kf (j + 1)) t2])
      obtain ⟨c2, hc2⟩ : ∃ c2, (s2.heap.update S (Obj.mapSeq fun _ => #[v, .int (kf (j + 1)) t2])).get? S = some (seqObj "list" #[v, .int (kf (j + 1)) t2] c2) := ⟨_, get?_update_seq nS2 fun _ => #[v, .int (kf (j + 1)) t2]⟩
      simp only [hb', decide_true, if_true]
      refine wpAny_bind ?_
      refine wpAny_updateSeq nS2 rfl (wpAny_bind (wpAny_letGo ?_))
      rw [hname]
      refine wpAny_pure ⟨plainId_quiet PySem.F.plain_min_loop _, ih (j + 1) (j + 1) _ z v t2 c2 oI' (by omega) hlt ?_ ⟨oI', (s1.2 I hSI.symm).trans nI2, hoc, hod⟩ nI' hz rz (Nat.le_refl _) fun j' hj' => ?_⟩
      · refine pin_two ?_ fS fI hc2 ((s1.2 I hSI.symm).trans nI2) (fun v z => by cases z) nI'
        exact (J3.unpinned).turnedL (ch := [S]) (fun b o hb e => (s1.2 b (by simpa using hb)).trans e) (fun b hb => by rw [List.mem_singleton.mp hb]; exact fS)
      · by_cases e : j' = j + 1
        · subst e
          exact ⟨by omega, fun _ => by omega⟩
        · have hb1 := hbest j' (by omega)
          have hb2 := hb1.1
          exact ⟨by omega, fun _ => by omega⟩
    · simp only [hb', decide_false, Bool.false_eq_true, if_false]
      refine wpAny_bind (wpAny_letGo ?_)
      rw [hname]
      refine wpAny_pure ⟨plainId_quiet PySem.F.plain_min_loop _, ih (j + 1) i _ zb vb tb c oI' (by omega) hlt ?_ ⟨oI', nI2, hoc, hod⟩ nI' hzb hvb (by omega) fun j' hj' => ?_⟩
      · exact pin_two (J3.unpinned) fS fI nS2 nI2 (fun v z => by cases z) nI'
      · by_cases e : j' = j + 1
        · subst e
          exact ⟨by omega, fun _ => by omega⟩
        · exact hbest j' (by omega)
/-- min(l, key=q): an item with the least key -/
theorem minK_run {s : Shared} {Q : Value → Shared → Prop} {E : Value → Shared → Prop} (hh : X.A.handled = none) (J : Inv X pins σ H s) (hl : ∀ pl s, Inv X pl σ H s → ∃ its : List Value, Vals xs its ∧ s.heap.IsList l its.toArray) (hne : 0 < xs.length) (turn : KTurn X pins σ H q xs kf)
    (hQ : ∀ i z v s, xs[i]? = some z → L2.RelV z v → KBest kf i xs.length → Inv X pins σ H s → Q v s) :
    wpAny (model X.prog X.w) X.A (call (.builtin "min") [.ref l] [(Str.ofString "key", .ref q)]) Q E s := by
  have hname : (toString "min" ++ toString ".loop" : String) = "min.loop" := by decide
  obtain ⟨its0, rv0, hls⟩ := hl _ _ J
  obtain ⟨ol, hol, _⟩ := id hls
  have hll : l < s.heap.objs.size := Heap.lt_size hol
  refine kmk_tree PySem.F.kind_min PySem.F.plain_min PySem.F.entry_min (kmk_min_key _ _) ?_
  show wpAny _ X.A.in1 (Builtin.Builtins.bindParams "min" ["key", "default"] 0 ⟨[], [(Str.ofString "key", .ref q)]⟩ >>= _) _ _ s
  refine wpAny_bind (wpAny_of_eq (show Builtin.Builtins.bindParams "min" ["key", "default"] 0 ⟨[], [(Str.ofString "key", .ref q)]⟩ = pure [some (.ref q), none] from rfl) ?_)
  refine wpAny_bind (wpAny_pure ?_)
  refine wpAny_bind (wpAny_pyIter_list hls ?_)
  refine wpAny_bind (wpAny_newList ?_ (Nat.zero_le _))
  rw [hname]
  have hS : (s.heap.push { cls := .type "list_iterator", data := .fields #[.ref l, .int 0 0] }).objs.size = s.heap.objs.size + 1 := size_push' ..
  have hlI : l ≠ s.heap.objs.size := Nat.ne_of_lt hll
  have hSI : (s.heap.push { cls := .type "list_iterator", data := .fields #[.ref l, .int 0 0] }).objs.size ≠ s.heap.objs.size := by rw [hS]; exact Nat.ne_of_gt (Nat.lt_succ_self _)
  refine wpAny_pure ⟨plainId_quiet PySem.F.plain_min_loop _, ?_⟩
  have fI : FpOk X pins H s.heap.objs.size := J.fpOk (Nat.le_refl _) (J.hok.fresh (Nat.le_refl _))
  have fS : FpOk X pins H (s.heap.push { cls := .type "list_iterator", data := .fields #[.ref l, .int 0 0] }).objs.size := by
    rw [hS]
    exact J.fpOk (Nat.le_succ _) (J.hok.fresh (Nat.le_succ _))
  have gI : ((s.heap.push { cls := .type "list_iterator", data := .fields #[.ref l, .int 0 0] }).push (seqObj "list" #[] 0)).get? s.heap.objs.size = some { cls := .type "list_iterator", data := .fields #[.ref l, .int 0 0] } :=
    Heap.get?_push_of_some _ (Heap.get?_push_size _ rfl)
  have gS : ((s.heap.push { cls := .type "list_iterator", data := .fields #[.ref l, .int 0 0] }).push (seqObj "list" #[] 0)).get? (s.heap.push { cls := .type "list_iterator", data := .fields #[.ref l, .int 0 0] }).objs.size = some (seqObj "list" #[] 0) := Heap.get?_push_size _ rfl
  have J0 : ∀ tk, Inv X pins σ H { s with heap := (s.heap.push { cls := .type "list_iterator", data := .fields #[.ref l, .int 0 0] }).push (seqObj "list" #[] 0), toks := tk } := fun tk => J.kept fun b o e => Heap.get?_push_of_some _ (Heap.get?_push_of_some _ e)
  obtain ⟨its, rv, hls1⟩ := hl _ _ (J0 s.toks)
  have W := Walks.list (prog := X.prog) (w := X.w) (A := X.A.in1) hh s.heap.objs.size l hlI its.toArray
  have hsz : its.toArray.size = xs.length := by rw [List.size_toArray, rv.length]
  refine codeAny_builtin PySem.F.entry_min_loop ?_
  rw [Around.under_plainId PySem.F.plain_min_loop _]
  show wpAny _ X.A.in1 (seqItems? (.ref _) >>= _) _ _ _
  refine wpAny_bind (wpAny_seqItems gS rfl ?_)
  show wpAny _ X.A.in1 (tryCatch (pyNext (.ref s.heap.objs.size)) _ >>= _) _ _ _
  refine wpAny_bind (wpAny_tryCatch (W.item 0 _ _ _ (by rw [hsz]; exact hne) ⟨⟨_, gI, rfl, rfl⟩, hls1⟩ fun v h' tk' hP hst' hk' => ?_))
  have hv : its[0]? = some v := by simpa using hP
  obtain ⟨z, hz, rz⟩ := vals_at rv hv
  obtain ⟨oI', hoI', hoc, hod⟩ := id hst'.1
  have nI' : ∀ v, oI'.data ≠ .cell v := fun v z => by rw [hod] at z; cases z
  have J1 := Inv.turnedL (h' := h') (t' := tk') (ch := [s.heap.objs.size]) (J0 0) hk' (fun b hb => by rw [List.mem_singleton.mp hb]; exact fI)
  have J2 := pin_two J1 fS fI (hk' _ _ (by simpa using hSI) gS) hoI' (fun v z => by cases z) nI'
  show wpAny _ X.A.in1 (tryCatch (holding [v] (call (.ref q) [v])) _ >>= _) _ _ _
  refine wpAny_bind (wpAny_tryCatch (wpAny_holding (wpAny_mono (turn 0 z v hz rz _ _ (fun p hp => List.mem_append_left _ hp) J2) (fun x s2 he => ?_) fun _ _ hF => hF.elim)))
  obtain ⟨t2, rfl, J3⟩ := he
  have nS2 := pin_at J3 (p := ((s.heap.push { cls := .type "list_iterator", data := .fields #[.ref l, .int 0 0] }).objs.size, seqObj "list" #[] 0)) (.head _)
  have nI2 := pin_at J3 (p := (s.heap.objs.size, oI')) (.tail _ (.head _))
  have s1 := Heap.SameBut.update s2.heap (s.heap.push { cls := .type "list_iterator", data := .fields #[.ref l, .int 0 0] }).objs.size (Obj.mapSeq fun _ => #[v, .int (kf 0) t2])
  obtain ⟨c2, hc2⟩ : ∃ c2, (s2.heap.update (s.heap.push { cls := .type "list_iterator", data := .fields #[.ref l, .int 0 0] }).objs.size (Obj.mapSeq fun _ => #[v, .int (kf 0) t2])).get? (s.heap.push { cls := .type "list_iterator", data := .fields #[.ref l, .int 0 0] }).objs.size = some (seqObj "list" #[v, .int (kf 0) t2] c2) := ⟨_, get?_update_seq nS2 fun _ => #[v, .int (kf 0) t2]⟩
  show wpAny _ X.A.in1 (updateSeq (s.heap.push { cls := .type "list_iterator", data := .fields #[.ref l, .int 0 0] }).objs.size (fun _ => #[v, .int (kf 0) t2]) >>= _) _ _ _
  refine wpAny_bind ?_
  refine wpAny_updateSeq nS2 rfl ?_
  rw [hname]
  refine wpAny_pure ⟨plainId_quiet PySem.F.plain_min_loop _, minK_loop hh hl hlI hSI fS fI turn hQ _ 0 0 _ z v t2 c2 oI' rfl hne ?_ ⟨oI', (s1.2 _ hSI.symm).trans nI2, hoc, hod⟩ nI' hz rz (Nat.le_refl _) fun j' hj' => ?_⟩
  · refine pin_two ?_ fS fI hc2 ((s1.2 _ hSI.symm).trans nI2) (fun v z => by cases z) nI'
    exact (J3.unpinned).turnedL (ch := [(s.heap.push { cls := .type "list_iterator", data := .fields #[.ref l, .int 0 0] }).objs.size]) (fun b o hb e => (s1.2 b (by simpa using hb)).trans e) (fun b hb => by rw [List.mem_singleton.mp hb]; exact fS)
  · have e : j' = 0 := by omega
    subst e
    exact ⟨by omega, fun h => absurd h (Nat.lt_irrefl _)⟩
end

/-! ### min(xs, key=lambda y: ..) -/
section
open PySem.Spec PyProof.Rows LamX
/-- one parameter y, no other name of its own: captured ones and globals -/
structure LamS1 (y : Str) (sc scope : Scope) : Prop where
  kind : scope.kind = .function
  co : scope.isCoroutine = false
  gen : scope.isGenerator = false
  own : ∀ z ∈ scope.names, (z.2 = .local → z.1 = y) ∧ z.2 ≠ .cell
  par : scope.names.lookup y = some .local
  free : ∀ z ∈ scope.names, z.2 = .free → sc.names.lookup z.1 = some .cell ∨ sc.names.lookup z.1 = some .free
def lamSB1 (y : Str) (sc scope : Scope) : Bool :=
  decide (scope.kind = .function) && !scope.isCoroutine && !scope.isGenerator && decide (scope.names.lookup y = some .local) && scope.names.all fun z => (!decide (z.2 = .local) || decide (z.1 = y)) && !decide (z.2 = .cell) && (!decide (z.2 = .free) || decide (sc.names.lookup z.1 = some .cell) || decide (sc.names.lookup z.1 = some .free))
theorem lamS1_by {y : Str} {sc scope : Scope} (h : lamSB1 y sc scope = true) : LamS1 y sc scope := by
  unfold lamSB1 at h
  simp only [Bool.and_eq_true, Bool.or_eq_true, Bool.not_eq_true', decide_eq_true_eq, decide_eq_false_iff_not, List.all_eq_true] at h
  obtain ⟨⟨⟨⟨h1, h2⟩, h3⟩, h5⟩, h4⟩ := h
  refine ⟨h1, h2, h3, fun z hz => ⟨fun e => ?_, (h4 z hz).1.2⟩, h5, fun z hz e => ?_⟩
  · rcases (h4 z hz).1.1 with q | q
    · exact absurd e q
    · exact q
  · rcases (h4 z hz).2 with (q | q) | q
    · exact absurd e q
    · exact .inl q
    · exact .inr q
variable {X : Cx} {pins : List (Addr × Obj)} {σ : L2.St} {H : Hp} {s : Shared}
theorem LamS1.has {y : Str} {scope : Scope} (L : LamS1 y X.env.scope scope) (ok : X.Ok) : ∀ z ∈ scope.names, z.2 = .free → ∃ c, X.env.cells.lookup z.1 = some c := fun z hz e => by
  rcases L.free z hz e with k | k
  · exact ok.has _ (.inl k)
  · exact ok.has _ (.inr k)
theorem lam_start1 {A : Around} {E : XK} {scope : Scope} {f c' : Addr} {h₁ : Heap} {tk j : Nat} {y : Str} {z : V} {u : Value} (I : Inv X pins σ H s) (hN : X.N.Nodup) (hj : X.N[j]? = some y) (L : LamS1 y X.env.scope scope) (e0 : Env0 X.prog X.w X.K X.mg X.base A X.stack s H) (hd : A.handled = none)
    (rz : L2.RelV z u) (hns : h₁.Ns s.heap.objs.size fun x => ([(y, u)] : List (Str × Value)).reverse.lookup x) (kp : ∀ b o, s.heap.get? b = some o → h₁.get? b = some o) :
    Inv (lamCx X A X.stack s H E scope f c') [] (σ.set j (some z)) H { s with heap := h₁, toks := tk } := by
  have hfree := L.has I.ok
  have cm : ∀ {y c}, (cloFrom X.env.cells scope.names []).lookup y = some c → X.env.cells.lookup y = some c := fun {y c} e => by
    rcases cloFrom_mem (PySem.mem_of_lookup e) with hm | ⟨h1, h2⟩
    · cases hm
    · obtain ⟨c1, hc⟩ := hfree _ h1 rfl
      have hc : X.env.cells.lookup y = some c1 := hc
      have e2 : c = c1 := by
        rw [h2, hc] <;> rfl
      rw [e2]
      exact hc
  have look : ∀ {y}, scope.names.lookup y = some .free → ∃ c, (cloFrom X.env.cells scope.names []).lookup y = some c := fun {y} hl => by
    have hy : (y, NameKind.free) ∈ scope.names := PySem.mem_of_lookup hl
    exact mem_lookup (cloFrom_has (cells := X.env.cells) (acc := []) hy)
  have cellK : ∀ {c : Addr} {v : Option Value}, s.heap.IsCell c v → h₁.IsCell c v := fun {c v} ⟨o, ho, hd⟩ => ⟨o, kp _ _ ho, hd⟩
  have noA : ∀ b : Addr, b ∉ (lamCx X A X.stack s H E scope f c').ex := fun b z => absurd (show b ∈ ([] : List Addr) from z) (by simp)
  have len : j < X.N.length := (List.getElem?_eq_some_iff.mp hj).1
  refine ⟨⟨e0.mod, L.kind, rfl, rfl, Nat.le_refl _, fun y z c e1 e2 => I.ok.inj y z c (cm e1) (cm e2), fun y hy => ?_, fun y c z _ => ?_, fun _ => hd, Around.frames_deeper e0.frames, .inr ⟨rfl, rfl⟩, fun b z => absurd z (noA b), e0.bs, e0.bsz, fun b _ _ => noA b,
      fun b z => absurd z (noA b), e0.funs, e0.frf⟩,
    rfl, e0.bare, Un.kept kp, ⟨_, hns, fun i x v e1 e2 e3 => ?_⟩, fun y c e => ?_, e0.hok.fresh (Nat.le_refl _), fun y c e => I.freeC y c (cm e), fun q hq => absurd (show q ∈ ([] : List (Addr × Obj)) ++ [] from hq) (by simp), e0.hok.kept kp, ?_⟩
  · have hy : scope.names.lookup y = some .cell ∨ scope.names.lookup y = some .free := hy
    rcases hy with hy | hy
    · exact absurd rfl (L.own _ (PySem.mem_of_lookup hy)).2
    · exact look hy
  · have z : false = true := z
    cases z
  · have e1 : X.N[i]? = some x := e1
    have e3 : Vis scope x := e3
    by_cases ij : i = j
    · subst ij
      have xy : x = y := by
        rw [hj] at e1
        exact (Option.some.inj e1).symm
      subst xy
      rw [List.getElem?_set_self (by rw [I.len]; exact len)] at e2
      cases e2
      refine ⟨u, rz, .inl ⟨L.par, ?_⟩⟩
      show ([(x, u)] : List (Str × Value)).reverse.lookup x = some u
      simp
    · rw [List.getElem?_set_ne (Ne.symm ij)] at e2
      rcases e3 with k | k | k
      · have xy : x = y := (L.own _ (PySem.mem_of_lookup k)).1 rfl
        subst xy
        exact absurd (nodup_ix hN e1 hj) ij
      · exact absurd rfl (L.own _ (PySem.mem_of_lookup k)).2
      · obtain ⟨m, hn, hl⟩ := I.loc
        have hvis : Vis X.env.scope x := (L.free _ (PySem.mem_of_lookup k) rfl).elim (fun k => .inr (.inl k)) (fun k => .inr (.inr k))
        obtain ⟨w', r, q⟩ := hl i x v e1 e2 hvis
        obtain ⟨c2, h2⟩ := look k
        refine ⟨w', r, .inr ⟨.inr k, c2, h2, ?_⟩⟩
        have c1 := cm h2
        rcases q with ⟨k', _⟩ | ⟨_, c3, e', z⟩
        · have k' : X.env.scope.names.lookup x = some .local := k'
          rcases L.free _ (PySem.mem_of_lookup k) rfl with k2 | k2 <;> rw [show X.env.scope.names.lookup x = _ from k2] at k' <;> cases k'
        · rw [c1] at e'
          cases e'
          exact cellK z
  · obtain ⟨w', z⟩ := I.cell y c (cm e)
    exact ⟨w', cellK z⟩
  · rw [List.length_set]
    exact I.len
theorem no_e0 {P : Program} {w : World} {outer : List Env} {H : Hp} {s s' : Shared} {u : Value} {R : Prop} (h : L2.CX P w outer H s C8.E0 u s') : R := by
  obtain ⟨_, _, _, _, _, _, _, _, _, _, _, _, hE⟩ := h
  exact (show False from hE).elim
/-- the lambda called with one value, inside a built-in -/
theorem lam_run1 {scope : Scope} {f c' : Addr} {params : Arguments} {body : Expr} {pm ctv : Value} {k j : Nat} {y : Str} {z : V} {u : Value} {tb : TE} {Q : VK} (I : Inv X pins σ H s) (hN : X.N.Nodup) (hj : X.N[j]? = some y) (L : LamS1 y X.env.scope scope) (hr : Room (k + 2) X.A)
    (hf : s.heap.get? f = some (PySem.W.kla_obj "<lambda>" (X.env.qual ++ "<lambda>") params body scope (cloFrom X.env.cells scope.names []) pm c' ctv)) (hc : H c' = some (CodeO c' (X.env.qual ++ "<lambda>")))
    (hbind : bindArgs (PySem.W.kla_fn "<lambda>" (X.env.qual ++ "<lambda>") params body scope (cloFrom X.env.cells scope.names []) pm (.ref c') ctv) ⟨[u], []⟩ = pure [(y, u)]) (rz : L2.RelV z u)
    (hbody : ∀ (A : Around) (s : Shared) (H : Hp), Room k (A.deeper (lamEnv X scope s.heap.objs.size f c')) → PE (lamCx X A X.stack s H C8.E0 scope f c') body tb) (h : tb (σ.set j (some z)) H Q) :
    wpAny (model X.prog X.w) X.A.in1 (call (.ref f) [u]) (EP X pins σ Q) (fun _ _ => False) s := by
  have hr1 : Room (k + 1) X.A.in1 := hr.in1
  obtain ⟨⟨oc, vs, t, hoc, hdc, hvc⟩, _, _⟩ := I.hok c' _ hc
  have e1 : Env0 X.prog X.w X.K X.mg X.base X.A.in1 X.stack s H := ⟨I.env0.frames, I.env0.mod, I.env0.bs, I.env0.bsz, I.env0.funs, I.env0.frf, I.env0.hok, I.env0.bare⟩
  have rc : codeAny (model X.prog X.w) X.A.in1 (.call (.ref f) ⟨[u], []⟩) (CR (L2.CX X.prog X.w) X.stack X.prog X.w H s Q C8.E0) s := by
    refine PySem.W.kla_callFunE hr1.depth hf rfl L.co L.gen rfl ⟨c', oc, vs, t, rfl, hoc, hdc, hvc⟩ ?_
    rw [hbind]
    refine wpAny_pure (wpAny_newFunctionEnv (fun z hz => (L.own z hz).2) (fun z hz => by rw [List.mem_singleton.mp hz]; exact L.par) (fun h₁ hns hsb => ⟨I.nolimit.fresh _ hsb, ?_⟩) L.kind)
    show codeAny _ _ (.expr body (lamEnv X scope s.heap.objs.size f c')) _ _
    have kp : ∀ b o, s.heap.get? b = some o → h₁.get? b = some o := fun b o e => hsb.extBut b o (Nat.ne_of_lt (Heap.lt_size e)) (Heap.get?_push_of_some _ e)
    have J : Inv (lamCx X X.A.in1 X.stack s H C8.E0 scope f c') [] (σ.set j (some z)) H { s with heap := h₁, toks := s.toks + ([(y, u)] : List (Str × Value)).length } := lam_start1 I hN hj L e1 hr1.hd rz hns kp
    refine PySem.W.kla_codeExpr (wpAny_mono ((hbody _ s H (hr1.deeper _)).run [] _ _ H Q J h) (fun v s' hq => ?_) fun e s' hq => ?_)
    · obtain ⟨w', H', J', rv, q⟩ := hq
      exact ⟨w', H', J'.os, J'.bare, J'.base, J'.hok, rv, q⟩
    · exact hq
  refine wpAny_call (codeAny_mono rc fun r s' hq => ?_)
  cases r with
  | error e => exact no_e0 hq
  | ok fl =>
    cases fl with
    | ret u => exact I.after hq
    | next => exact False.elim hq
    | brk => exact False.elim hq
    | cont => exact False.elim hq
/-- min(xs, key=lambda y: body): the keys of the items, and an item with the least key -/
def tMinKey (K : PySem.W.Frag) (T : List (Addr × Str)) (j : Nat) (te tb : TE) : TE := fun σ H Q => te σ H fun x H0 => Tabs T H0 ∧ ∀ H1, ExtN H0 H1 → Tabs T H1 → ∃ (a : Addr) (xs : List V) (kf : Nat → Int), x = .ref a ∧ SqL K H1 a xs ∧ 0 < xs.length ∧
  (∀ i z, xs[i]? = some z → tb (σ.set j (some z)) H1 fun v H' => v = .int (kf i) ∧ H' = H1) ∧ ∀ i z, xs[i]? = some z → (∀ i', i' < xs.length → kf i ≤ kf i' ∧ (i' < i → kf i < kf i')) → Q z H1
theorem pe_minKey {T : List (Addr × Str)} {c P : Addr} {k j : Nat} {y : Str} {params : Arguments} {body : Expr} {scope : Scope} {e : Expr} {te tb : TE} {p lpos pos kp : Pos} (hg : Gl X "min") (hm : X.mg "min" = none) (he : PE X e te)
    (TB : TabB X.base X.mg c P) (hcode : X.env.code = .ref c) (hmT : (P, X.env.qual ++ "<lambda>") ∈ T) (hu : ∀ p ∈ T, p.1 = P → p.2 = X.env.qual ++ "<lambda>") (hr : Room (k + 2) X.A) (hN : X.N.Nodup) (hj : X.N[j]? = some y) (L : LamS1 y X.env.scope scope) (hdef : defaultsOf params X.env = ([], []))
    (hbind : ∀ (q : Str) (cl : List (Str × Addr)) (pm cv ctv v : Value), bindArgs (PySem.W.kla_fn "<lambda>" q params body scope cl pm cv ctv) ⟨[v], []⟩ = pure [(y, v)])
    (hbody : ∀ (A : Around) (s : Shared) (H : Hp) (f c' : Addr), Room k (A.deeper (lamEnv X scope s.heap.objs.size f c')) → PE (lamCx X A X.stack s H C8.E0 scope f c') body tb)
    (hst : frs X.stack = X.env.locals :: X.fs := by rfl) (na : starEach [e] X.env = (false, eval e X.env) :: starEach [] X.env := by rfl) (nb : backTo pos (starEach [e] X.env) = (false, eval e X.env) :: backTo pos (starEach [] X.env) := by rfl) (npl : (backTo pos (starEach [e] X.env)).any (·.1) = false := by rfl) :
    PE X (.Call (.Name "min" p) [e] [⟨some "key", .Lambda params body scope lpos, kp⟩] pos) (tMinKey X.K T j te tb) := by
  refine ⟨fun pins s σ H Q I h => ?_⟩
  refine wpAny_Call_Name_kw (ld_blt (u := .builtin "min") I hg hm (by decide +kernel) ?_)
  refine PyProof.Rows.callWith_kw (thn ((pa_cons he pa_nil na).run pos pins s σ H (fun vs H0 => match vs with
    | [x] => Tabs T H0 ∧ ∀ H1, ExtN H0 H1 → Tabs T H1 → ∃ (a : Addr) (xs : List V) (kf : Nat → Int), x = .ref a ∧ SqL X.K H1 a xs ∧ 0 < xs.length ∧ (∀ i z, xs[i]? = some z → tb (σ.set j (some z)) H1 fun v H' => v = .int (kf i) ∧ H' = H1) ∧ ∀ i z, xs[i]? = some z → (∀ i', i' < xs.length → kf i ≤ kf i' ∧ (i' < i → kf i < kf i')) → Q z H1
    | _ => False) I h) fun us s1 ⟨vs1, H0, I0, r0, q0⟩ => ?_) nb npl
  show wpAny _ _ (evalAll ((do let v ← eval (.Lambda params body scope lpos) X.env; standAt pos; pure v) :: [])) _ _ s1
  cases r0 with
  | nil => exact q0.elim
  | cons rx rr =>
    cases rr with
    | cons _ _ => exact q0.elim
    | nil =>
      obtain ⟨hT, rest⟩ := q0
      refine wpAny_evalAll_cons (wpAny_bind (lam_make2 I0 TB hcode hmT hu hT hdef (L.has I0.ok) fun f c' pm ctv H1 s' I1 eN T1 hf hfn hfr hco => wpAny_bind (wpAny_standAt (wpAny_pure (wpAny_evalAll_nil ?_)))))
      obtain ⟨a, xs, kf, rfl, hs, hne, keys, q⟩ := rest H1 eN T1
      cases rx
      obtain ⟨its, rv, hl', _⟩ := I1.list hs
      have fl : f ≠ X.env.locals ∧ f ∉ X.fs := by
        rw [hst] at hfr
        exact ⟨fun z => hfr (by rw [z]; exact List.mem_cons_self), fun z => hfr (List.mem_cons_of_mem _ z)⟩
      have I2 : Inv X (pins ++ [(f, PySem.W.kla_obj "<lambda>" (X.env.qual ++ "<lambda>") params body scope (cloFrom X.env.cells scope.names []) pm c' ctv)]) σ H1 s' := I1.pins_of fun p hp => by
        rcases List.mem_append.mp hp with hp | hp
        · exact I1.pin p (List.mem_append_right _ hp)
        · rw [List.mem_singleton.mp hp]
          exact ⟨hf, hfn, fl.1, fl.2, fun v z => by cases z⟩
      refine minK_run (X := X) (pins := pins ++ [(f, PySem.W.kla_obj "<lambda>" (X.env.qual ++ "<lambda>") params body scope (cloFrom X.env.cells scope.names []) pm c' ctv)]) (σ := σ) (H := H1) (xs := xs) (kf := kf) hr.hd I2 (fun pl s3 J => ?_) hne (fun i z v hz rz pl s3 sub J => ?_) fun i z v s3 hz rz hb J => ?_
      · obtain ⟨its', rv', hl3, _⟩ := J.list hs
        exact ⟨its', rv', hl3.isList⟩
      · have hf3 := (J.pin _ (List.mem_append_right _ (sub _ (List.mem_append_right _ List.mem_cons_self)))).1
        refine wpAny_mono (lam_run1 J hN hj L hr hf3 hco (hbind _ _ _ _ _ _) rz (fun A s H hr' => hbody A s H f c' hr') (keys i z hz)) (fun u s4 hq => ?_) fun _ _ hF => hF
        obtain ⟨v', H', J', rv', e1, e2⟩ := hq
        subst e1
        rw [e2] at J'
        obtain ⟨t, rfl⟩ := rv'
        exact ⟨t, rfl, J'⟩
      · exact ⟨z, H1, J.unpinned, rz, q i z hz hb⟩
end

/-! ### class Folder: make -/
abbrev N_Fo_make : List Str := ["self", "move"]
abbrev P_Fo_make : List Str := ["self", "move"]
theorem sc_Fo_make : FnScope N_Fo_make P_Fo_make (defScope s_Fo_make) := ⟨rfl, rfl, rfl, by decide +kernel, rfl, by decide +kernel, by decide +kernel⟩
def fo (a rw : Addr) : List (Str × V) := [("front", .ref a), ("row", .ref rw)]
structure FoT (K : PySem.W.Frag) (mg : Str → Option Value) (C2 : Addr) : Prop where
  gC : mg "Folder" = some (.ref C2)
  cl : Cls K C2
  nF : NoAttr K C2 "front"
  nR : NoAttr K C2 "row"
/-- a folder at g of the front at a; its row at rw holds the moves us -/
structure FoAt (C2 : Addr) (H : Hp) (g a rw : Addr) (us : List Addr) : Prop where
  at_g : ∃ dx, H g = some (.ins C2 dx (fo a rw))
  at_r : H rw = some (.lst (us.map V.ref))
theorem FoAt.same {C2 : Addr} {H H' : Hp} {g a rw : Addr} {us : List Addr} (h : FoAt C2 H g a rw us) (k : Same H H') : FoAt C2 H' g a rw us := ⟨h.at_g.elim fun dx e => ⟨dx, k _ _ e⟩, k _ _ h.at_r⟩
/-- all but the front and the row stands -/
def OffR (a s q rw : Addr) (H H' : Hp) : Prop := ∀ b o, H b = some o → b ≠ a → b ≠ s → b ≠ q → b ≠ rw → H' b = some o
theorem OffR.of_same {a s q rw : Addr} {H H' : Hp} (k : Same H H') : OffR a s q rw H H' := fun b o h _ _ _ _ => k b o h
theorem OffR.trans {a s q rw : Addr} {H H1 H2 : Hp} (x : OffR a s q rw H H1) (y : OffR a s q rw H1 H2) : OffR a s q rw H H2 := fun b o h n1 n2 n3 n4 => y b o (x b o h n1 n2 n3 n4) n1 n2 n3 n4
def spFoMake (C C2 : Addr) : Sp := fun vs H Q _ => ∃ (g a s q rw t : Addr) (us : List Addr) (X X' : FS) (mo : Mo), vs = [.ref g, .ref t] ∧ FrS C H a s q X ∧ FoAt C2 H g a rw us ∧ rw ≠ q ∧ WF X ∧ X.L.length ≤ 1000 ∧ us.length < 90000 ∧ H t = some (.tup (moV mo)) ∧ mkS X mo = some X' ∧ (∀ y ∈ moV mo, MV y) ∧
  ∀ H', FrS C H' a s q X' → FoAt C2 H' g a rw (us ++ [t]) → OffR a s q rw H H' → Q .non H'
theorem takes_none {X : Cx} : L2.Takes X (fun _ _ _ _ => False) := fun u s' ⟨a, B, sI, pins, σ, H, cls, d, e, I, nb, up, sky, na, os, ag, w⟩ => w.elim
section
variable {P : Program} {w : World} {K : PySem.W.Frag} {mg : Str → Option Value} {base : Heap} {C C2 CM : Addr}
theorem FrS.keepR {H H' : Hp} {a s q r : Addr} {X : FS} {xs : List V} (h : FrS C H a s q X) (hr : H r = some (.lst xs)) (n : q ≠ r) (k : Keep r H H') : FrS C H' a s q X := by
  obtain ⟨ps, ⟨⟨dx, ea⟩, ⟨kvs, es, st⟩, eq, up, len⟩, hp⟩ := h
  have kt : KeepT H H' := fun b xs hb => k.of hb (ne_of hb hr (fun z => by cases z))
  exact ⟨ps, ⟨⟨dx, k.of ea (ne_of ea hr (fun z => by cases z))⟩, ⟨kvs, k.of es (ne_of es hr (fun z => by cases z)), st.keep kt⟩, k.of eq n, up, len⟩, hp.keep kt⟩
theorem ok_FoMake {f fM : Addr} {fd fdM : FuncData} (F : Fun K "make" "Folder.make" s_Fo_make f fd) (T : FrT K mg C) (TFo_ : FoT K mg C2) (M_make : Meth K C "make" fM) (G_make : FnOk P w K mg base (L2.CX P w) 6 fM fdM P_Fmake (spMakeS C CM)) (b_make : Binds K fdM P_Fmake []) :
    FnOk P w K mg base CX0 7 f fd P_Fo_make (spFoMake C C2) := by
  refine F.ok sc_Fo_make (fun vs H Q E h => ?_) (fun cdv A outer s H vs Q E hr h => ?_)
  · obtain ⟨g, a, s, q, rw, t, us, X, X', mo, rfl, _⟩ := h
    rfl
  · obtain ⟨g, a, s, q, rw, t, us, X, X', mo, rfl, ff, fo', nrq, wf, hL, hus, em, hX, hmv, qq⟩ := h
    refine ⟨_, (pss_cons (ps_expr (pe_meth (pe_fld (pv 0) rfl) T.cl M_make G_make (hr.mono (by omega)) b_make .nil (passes_call takes_none fun _ _ _ _ h => h) (pa_cons (pv 1) pa_nil)))
      (pss_one (ps_expr (pe_bm PySem.F.plainAttrs_list PySem.F.slot_list_append PySem.F.type_list_append mt_append (pe_fld (pv 0) rfl) (pa_cons (pv 1) pa_nil))))), ?_⟩
    obtain ⟨psA, faA, hpA⟩ := id ff
    obtain ⟨dxA, eaA⟩ := faA.at_a
    obtain ⟨dx, eg⟩ := fo'.at_g
    have lmo : (moV mo).length ≤ 20 := by cases mo <;> simp [moV]
    have mvs : MvS (moV mo) X (some X') := ⟨.inl ⟨mo, rfl, hX.symm⟩, hmv, lmo⟩
    refine ⟨.ref g, rfl, g, C2, dx, _, .ref a, rfl, eg, TFo_.cl, TFo_.nF, rfl, a, dxA, _, rfl, eaA, fr_no (by decide +kernel) (by decide +kernel) (by decide +kernel), .ref t, rfl, a, s, q, t, X, moV mo, some X', rfl, ff, wf, hL, em, mvs, fun XN' eN HA fA oA => ?_, fun e => (by cases e)⟩
    cases eN
    have nga : g ≠ a := ne_of eg eaA (fun z => by cases z)
    obtain ⟨kvs, es, _⟩ := faA.at_s
    have egA := oA _ _ eg nga (ne_of eg es (fun z => by cases z)) (ne_of eg faA.at_q (fun z => by cases z))
    have erA := oA _ _ fo'.at_r (ne_of fo'.at_r eaA (fun z => by cases z)) (ne_of fo'.at_r es (fun z => by cases z)) nrq
    refine ⟨.ref g, rfl, g, C2, dx, _, .ref rw, rfl, egA, TFo_.cl, TFo_.nR, rfl, .inl ⟨rfl, _, SqL.of erA⟩, .ref t, rfl, rw, _, _, rfl, rfl, erA, sz_lt (by rw [List.length_map]; omega), ?_⟩
    have kr : Keep rw HA (upd HA rw (.lst (us.map V.ref ++ [.ref t]))) := Keep.upd
    refine qq _ (fA.keepR erA nrq.symm kr) ⟨⟨dx, kr.of egA (ne_of egA erA (fun z => by cases z))⟩, by rw [upd_same, List.map_append]; rfl⟩ fun b o hb n1 n2 n3 n4 => kr.of (oA _ _ hb n1 n2 n3) n4
end

/-! ### a folding under way -/
def runsF : FS → List Mo → FS → Prop
  | X, [], Y => X = Y
  | X, m :: r, Y => ∃ X1, mkS X m = some X1 ∧ runsF X1 r Y
theorem runsF.snoc {m : Mo} {Y Z : FS} (h2 : mkS Y m = some Z) : ∀ {mos : List Mo} {X : FS}, runsF X mos Y → runsF X (mos ++ [m]) Z
  | [], X, h => by
    have h : X = Y := h
    subst h
    exact ⟨Z, h2, rfl⟩
  | m' :: r, X, ⟨X1, e, h⟩ => ⟨X1, e, runsF.snoc h2 h⟩
def MvF (H : Hp) (us : List Addr) (mos : List Mo) : Prop := Paired (fun t m => H t = some (.tup (moV m))) us mos
theorem MvF.keep {H H' : Hp} (k : KeepT H H') {us : List Addr} {mos : List Mo} (h : MvF H us mos) : MvF H' us mos := Paired.mapP h fun t m e => k _ _ e
theorem MvF.snoc {H : Hp} {t : Addr} {m : Mo} (hs : H t = some (.tup (moV m))) : ∀ {us : List Addr} {mos : List Mo}, MvF H us mos → MvF H (us ++ [t]) (mos ++ [m])
  | _, _, .nil => .cons hs .nil
  | _, _, .cons h r => .cons h (MvF.snoc hs r)
theorem MvF.length {H : Hp} : ∀ {us : List Addr} {mos : List Mo}, MvF H us mos → us.length = mos.length
  | _, _, .nil => rfl
  | _, _, .cons _ r => congrArg (· + 1) (MvF.length r)
def KBf (X : FS) : Prop := ∀ s ∈ X.S, 0 ≤ s.1 ∧ s.1 ≤ 100
theorem KBf.drop {S : StL} (h : ∀ s ∈ S, 0 ≤ s.1 ∧ s.1 ≤ 100) (i : Int) : ∀ s ∈ sdrop S i, 0 ≤ s.1 ∧ s.1 ≤ 100 := fun s hs => h s (sdrop_mem hs).1
theorem KBf.put {S : StL} (h : ∀ s ∈ S, 0 ≤ s.1 ∧ s.1 ≤ 100) (i : Int) (x : M4) : ∀ s ∈ sput S i x, 0 ≤ s.1 ∧ s.1 ≤ 100 := fun s hs => by
  obtain ⟨t, ht, e⟩ := List.mem_map.mp hs
  have := h t ht
  by_cases c : t.1 = i
  · rw [if_pos c] at e
    rw [← e]
    exact this
  · rw [if_neg c] at e
    rw [← e]
    exact this
theorem mkS_kbf {X X' : FS} (h : KBf X) : ∀ {mo : Mo}, mkS X mo = some X' → KBf X'
  | .idle i, q => by
    obtain ⟨S, hS, rfl⟩ := Option.map_eq_some_iff.mp (show (idleS X.S i).map (fun S => (⟨X.e, S, X.L⟩ : FS)) = some X' from q)
    unfold idleS at hS
    split at hS
    · split at hS
      · cases hS
        exact KBf.drop h i
      · cases hS
    · cases hS
  | .halve i, q => by
    obtain ⟨S, hS, rfl⟩ := Option.map_eq_some_iff.mp (show (halveS X.S i).map (fun S => (⟨X.e, S, X.L⟩ : FS)) = some X' from q)
    unfold halveS at hS
    split at hS
    · split at hS
      · cases hS
      · split at hS
        · cases hS
          exact KBf.drop h i
        · cases hS
          exact KBf.put h i _
    · cases hS
  | .merge i j, q => by
    obtain ⟨S, hS, rfl⟩ := Option.map_eq_some_iff.mp (show (mergeS X.S i j).map (fun S => (⟨X.e, S, X.L⟩ : FS)) = some X' from q)
    unfold mergeS at hS
    split at hS
    · cases hS
    · split at hS
      · obtain ⟨z, hz, rfl⟩ := Option.map_eq_some_iff.mp hS
        exact KBf.drop (KBf.put h i _) j
      · cases hS
  | .lead j d i, q => by
    obtain ⟨S, hS, rfl⟩ := Option.map_eq_some_iff.mp (show (leadS X.S j d i).map (fun S => (⟨X.e, S, X.L⟩ : FS)) = some X' from q)
    unfold leadS at hS
    split at hS
    · cases hS
    · split at hS
      · obtain ⟨z, hz, rfl⟩ := Option.map_eq_some_iff.mp hS
        exact KBf.put h j _
      · cases hS
  | .fold i m, q => by
    have q' : foldS X i m = some X' := q
    unfold foldS at q'
    split at q'
    · split at q'
      · cases q'
        intro s hs
        have hs : s ∈ (if m - _ = 0 then sdrop X.S i else sput X.S i _) := hs
        split at hs
        · exact KBf.drop h i s hs
        · exact KBf.put h i _ s hs
      · cases q'
    · cases q'
  | .bare m, q => by
    have q' : bareS X m = some X' := q
    unfold bareS at q'
    split at q'
    · cases q'
      exact h
    · cases q'
/-- the moves that a folder chooses -/
inductive FoMove (X : FS) : Mo → Prop
  | bare : rch X.S none < X.e → FoMove X (.bare (rch X.S none))
  | fold {i : Int} {w : M4} : sget X.S i = some w → xLead w = true → w.2.1 + w.2.2.1 = X.e → (∀ s ∈ X.S, s.2.2.1 + s.2.2.2.1 = X.e → w.2.1 ≤ s.2.2.1) → (∀ s ∈ X.S, s.1 ≠ i → s.2.2.1 < w.2.1) → FoMove X (.fold i (max w.2.1 (rch X.S (some i))))
  | lead {i j : Int} {w x : M4} : ¬ i = j → sget X.S i = some w → xLead w = true → w.2.1 + w.2.2.1 = X.e → sget X.S j = some x → w.2.1 ≤ x.2.1 → FoMove X (.lead j 1 i)
  | halve {i : Int} {x : M4} : sget X.S i = some x → x.2.2.2 = 1 → ¬ xLead x = true → FoMove X (.halve i)
  | idle {i : Int} {x : M4} : sget X.S i = some x → x.2.2.2 = 0 → x.1 = x.2.1 → FoMove X (.idle i)
  | merge {i j : Int} {x y : M4} : ¬ i = j → sget X.S i = some x → sget X.S j = some y → isRep x.1 x.2.1 x.2.2.1 x.2.2.2 = true → isRep y.1 y.2.1 y.2.2.1 y.2.2.2 = true → x.2.1 - x.1 + (y.2.1 - y.1) ≤ shr x.1 x.2.1 x.2.2.1 y.1 y.2.1 y.2.2.1 → FoMove X (.merge i j)
/-- what bounds the rows: of the road as it stands and the number of moves made -/
structure LimOk (Lim : FS → Nat → Prop) : Prop where
  row : ∀ {X k}, WF X → Lim X k → k < 90000
  ev : ∀ {X k}, WF X → Lim X k → X.L.length ≤ 1000
  step : ∀ {X X' k mo}, WF X → FoMove X mo → mkS X mo = some X' → Lim X k → Lim X' (k + 1)
/-- short roads -/
def LimS (X : FS) (k : Nat) : Prop := (k : Int) + mu X < 90000 ∧ (X.L.length : Int) + X.e ≤ 1000
/-- a folder at g, its front at a, since the road X0 stood: Lim bounds the row -/
structure FoI (C C2 : Addr) (Lim : FS → Nat → Prop) (X0 : FS) (g a s q rw : Addr) (H : Hp) (X : FS) (us : List Addr) (mos : List Mo) : Prop where
  fr : FrS C H a s q X
  fo : FoAt C2 H g a rw us
  ne : rw ≠ q
  wf : WF X
  kb : KBf X
  run : runsF X0 mos X
  mv : MvF H us mos
  lim : Lim X us.length
theorem FoI.same {C C2 : Addr} {Lim : FS → Nat → Prop} {X0 : FS} {g a s q rw : Addr} {H H' : Hp} {X : FS} {us : List Addr} {mos : List Mo} (h : FoI C C2 Lim X0 g a s q rw H X us mos) (k : Same H H') : FoI C C2 Lim X0 g a s q rw H' X us mos :=
  ⟨h.fr.same k, h.fo.same k, h.ne, h.wf, h.kb, h.run, h.mv.keep fun b xs hb => k _ _ hb, h.lim⟩
theorem FoI.ln {C C2 : Addr} {Lim : FS → Nat → Prop} {X0 : FS} {g a s q rw : Addr} {H : Hp} {X : FS} {us : List Addr} {mos : List Mo} (LO : LimOk Lim) (h : FoI C C2 Lim X0 g a s q rw H X us mos) : X.L.length ≤ 1000 := LO.ev h.wf h.lim
def spFoStep (C C2 : Addr) (Lim : FS → Nat → Prop) : Sp := fun vs H Q _ => ∃ (X0 : FS) (g a s q rw t : Addr) (us : List Addr) (mos : List Mo) (X X' : FS) (mo : Mo), vs = [.ref g, .ref t] ∧ FoI C C2 Lim X0 g a s q rw H X us mos ∧ FoMove X mo ∧ H t = some (.tup (moV mo)) ∧ mkS X mo = some X' ∧ (∀ y ∈ moV mo, MV y) ∧
  ∀ H', FoI C C2 Lim X0 g a s q rw H' X' (us ++ [t]) (mos ++ [mo]) → OffR a s q rw H H' → Q .non H'
theorem FoI.offT {C C2 : Addr} {Lim : FS → Nat → Prop} {X0 : FS} {g a s q rw : Addr} {H H' : Hp} {X : FS} {us : List Addr} {mos : List Mo} (h : FoI C C2 Lim X0 g a s q rw H X us mos) (o : OffR a s q rw H H') : KeepT H H' := fun b xs hb => by
  obtain ⟨_, ⟨⟨dx, ea⟩, ⟨kvs, es, _⟩, eq, _, _⟩, _⟩ := h.fr
  exact o b _ hb (ne_of hb ea (fun z => by cases z)) (ne_of hb es (fun z => by cases z)) (ne_of hb eq (fun z => by cases z)) (ne_of hb h.fo.at_r (fun z => by cases z))
section
variable {P : Program} {w : World} {K : PySem.W.Frag} {mg : Str → Option Value} {base : Heap} {C C2 CM : Addr} {Lim : FS → Nat → Prop}
theorem ok_FoStep {f : Addr} {fd : FuncData} (LO : LimOk Lim) (G : FnOk P w K mg base CX0 7 f fd P_Fo_make (spFoMake C C2)) : FnOk P w K mg base CX0 7 f fd P_Fo_make (spFoStep C C2 Lim) := by
  refine G.imp fun vs H Q E h => ?_
  obtain ⟨X0, g, a, s, q, rw, t, us, mos, X, X', mo, rfl, I, fm, em, hX, hmv, qq⟩ := h
  refine ⟨g, a, s, q, rw, t, us, X, X', mo, rfl, I.fr, I.fo, I.ne, I.wf, I.ln LO, LO.row I.wf I.lim, em, hX, hmv, fun H' f' o' off => ?_⟩
  have kt := I.offT off
  refine qq H' ⟨f', o', I.ne, mkS_wf I.wf hX, mkS_kbf I.kb hX, I.run.snoc hX, MvF.snoc (kt _ _ em) (I.mv.keep kt), ?_⟩ off
  rw [List.length_append]
  exact LO.step I.wf fm hX I.lim
end

/-! ### what the folder does, told as data: each row is the only one -/
def mrgB (x y : M4) : Bool := decide (isRep x.1 x.2.1 x.2.2.1 x.2.2.2 = true ∧ isRep y.1 y.2.1 y.2.2.1 y.2.2.2 = true ∧ x.2.1 - x.1 + (y.2.1 - y.1) ≤ shr x.1 x.2.1 x.2.2.1 y.1 y.2.1 y.2.2.1)
def mrgAt (i : Int) (x : M4) (s : Int × M4) : Bool := decide (s.1 ≠ i) && mrgB x s.2
/-- the move that tidies the mating i -/
def tmF (X : FS) (i : Int) : Option Mo := match sget X.S i with
  | none => none
  | some x => if x.2.2.2 = 1 then (if xLead x = true then none else some (.halve i)) else if x.2.1 - x.1 = 0 then some (.idle i) else (X.S.find? (mrgAt i x)).map fun s => .merge i s.1
theorem tmF_none {X : FS} {i : Int} (h : sget X.S i = none) : tmF X i = none := by
  unfold tmF
  rw [h]
theorem tmF_lead {X : FS} {i : Int} {x : M4} (h : sget X.S i = some x) (f : x.2.2.2 = 1) (l : xLead x = true) : tmF X i = none := by
  unfold tmF
  rw [h]
  show (if x.2.2.2 = 1 then (if xLead x = true then none else some (Mo.halve i)) else _) = none
  rw [if_pos f, if_pos l]
theorem tmF_halve {X : FS} {i : Int} {x : M4} (h : sget X.S i = some x) (f : x.2.2.2 = 1) (l : ¬ xLead x = true) : tmF X i = some (.halve i) := by
  unfold tmF
  rw [h]
  show (if x.2.2.2 = 1 then (if xLead x = true then none else some (Mo.halve i)) else _) = _
  rw [if_pos f, if_neg l]
theorem tmF_idle {X : FS} {i : Int} {x : M4} (h : sget X.S i = some x) (f : ¬ x.2.2.2 = 1) (z : x.2.1 - x.1 = 0) : tmF X i = some (.idle i) := by
  unfold tmF
  rw [h]
  show (if x.2.2.2 = 1 then _ else if x.2.1 - x.1 = 0 then some (Mo.idle i) else _) = _
  rw [if_neg f, if_pos z]
theorem tmF_rest {X : FS} {i : Int} {x : M4} (h : sget X.S i = some x) (f : ¬ x.2.2.2 = 1) (z : ¬ x.2.1 - x.1 = 0) : tmF X i = (X.S.find? (mrgAt i x)).map fun s => .merge i s.1 := by
  unfold tmF
  rw [h]
  show (if x.2.2.2 = 1 then _ else if x.2.1 - x.1 = 0 then some (Mo.idle i) else _) = _
  rw [if_neg f, if_neg z]
theorem find_at {α : Type} {p : α → Bool} {l : List α} {n : Nat} {y : α} (hy : l[n]? = some y) (py : p y = true) (hb : ∀ z ∈ l.take n, ¬ p z = true) : l.find? p = some y := by
  induction l generalizing n with
  | nil => simp at hy
  | cons a r ih =>
    cases n with
    | zero =>
      have e : a = y := by simpa using hy
      rw [e, List.find?_cons_of_pos py]
    | succ n =>
      have na : ¬ p a = true := hb a (by simp)
      rw [List.find?_cons_of_neg na]
      exact ih (by simpa using hy) fun z hz => hb z (by rw [List.take_succ_cons]; exact List.mem_cons_of_mem _ hz)
theorem tmF_merge {X : FS} {i : Int} {x : M4} (h : sget X.S i = some x) (f : ¬ x.2.2.2 = 1) (z : ¬ x.2.1 - x.1 = 0) {n : Nat} {y : Int × M4} (hy : X.S[n]? = some y) (hm : mrgAt i x y = true) (hb : ∀ z ∈ X.S.take n, ¬ mrgAt i x z = true) : tmF X i = some (.merge i y.1) := by
  rw [tmF_rest h f z, find_at hy hm hb]
  rfl
theorem tmF_no {X : FS} {i : Int} {x : M4} (h : sget X.S i = some x) (f : ¬ x.2.2.2 = 1) (z : ¬ x.2.1 - x.1 = 0) (hb : ∀ z ∈ X.S, ¬ mrgAt i x z = true) : tmF X i = none := by
  rw [tmF_rest h f z, List.find?_eq_none.mpr hb]
  rfl
/-- leading one mating off -/
inductive LedR (i j low : Int) : FS → List Mo → FS → Prop
  | stop {X : FS} {x : M4} : sget X.S j = some x → x.2.1 < low → LedR i j low X [] X
  | go {X X1 Y : FS} {x : M4} {ms : List Mo} : sget X.S j = some x → low ≤ x.2.1 → mkS X (.lead j 1 i) = some X1 → LedR i j low X1 ms Y → LedR i j low X (.lead j 1 i :: ms) Y
/-- leading several off, one after another -/
inductive LedsR (i low : Int) : FS → List Int → List Mo → FS → Prop
  | nil {X : FS} : LedsR i low X [] [] X
  | cons {X X1 Y : FS} {j : Int} {js : List Int} {ms ms' : List Mo} : LedR i j low X ms X1 → LedsR i low X1 js ms' Y → LedsR i low X (j :: js) (ms ++ ms') Y
theorem LedsR.snoc {i low : Int} {X X1 Y : FS} {js : List Int} {j : Int} {ms ms' : List Mo} (h : LedsR i low X js ms X1) (h2 : LedR i j low X1 ms' Y) : LedsR i low X (js ++ [j]) (ms ++ ms') Y := by
  induction h with
  | nil =>
    have := LedsR.cons h2 .nil
    rwa [List.append_nil] at this
  | cons h1 _ ih =>
    rw [List.append_assoc]
    exact .cons h1 (ih h2)
/-- tidying: the numbers that wait, the last first -/
inductive TidR : FS → List Int → List Mo → FS → Prop
  | nil {X : FS} : TidR X [] [] X
  | skip {X Y : FS} {k : Int} {ws : List Int} {ms : List Mo} : tmF X k = none → TidR X ws ms Y → TidR X (k :: ws) ms Y
  | go {X X1 Y : FS} {k : Int} {ws : List Int} {mo : Mo} {ms : List Mo} : tmF X k = some mo → mkS X mo = some X1 → TidR X1 (k :: ws) ms Y → TidR X (k :: ws) (mo :: ms) Y
def endsAt (e : Int) (s : Int × M4) : Bool := decide (s.2.2.1 + s.2.2.2.1 = e)
def uponB (i low : Int) (s : Int × M4) : Bool := decide (s.1 ≠ i) && decide (low ≤ s.2.2.1)
/-- the mating at the top that begins first -/
def widF (X : FS) : Option Int := ((X.S.filter (endsAt X.e)).find? fun s => (X.S.filter (endsAt X.e)).all fun t => decide (s.2.2.1 ≤ t.2.2.1)).map (·.1)
/-- one round -/
inductive GoR (X : FS) : List Mo → FS → Prop
  | bare {Y : FS} : rch X.S none < X.e → mkS X (.bare (rch X.S none)) = some Y → GoR X [.bare (rch X.S none)] Y
  | fold {Y : FS} {i : Int} {w : M4} : ¬ rch X.S none < X.e → widF X = some i → sget X.S i = some w → X.S.filter (uponB i w.2.1) = [] → mkS X (.fold i (max w.2.1 (rch X.S (some i)))) = some Y → GoR X [.fold i (max w.2.1 (rch X.S (some i)))] Y
  | lead {X1 Y : FS} {i : Int} {w : M4} {ms ms' : List Mo} : ¬ rch X.S none < X.e → widF X = some i → sget X.S i = some w → X.S.filter (uponB i w.2.1) ≠ [] → LedsR i w.2.1 X ((X.S.filter (uponB i w.2.1)).map (·.1)) ms X1 → TidR X1 ((X.S.filter (uponB i w.2.1)).map (·.1)).reverse ms' Y → GoR X (ms ++ ms') Y
/-- round after round to the end -/
inductive RunR : FS → List Mo → FS → Prop
  | stop {X : FS} : ¬ 0 < X.e → RunR X [] X
  | go {X X1 Y : FS} {ms ms' : List Mo} : 0 < X.e → GoR X ms X1 → RunR X1 ms' Y → RunR X (ms ++ ms') Y
/-- the row by which a road is folded -/
def FoldR (X : FS) (mos : List Mo) (Y : FS) : Prop := ∃ (m1 m2 : List Mo) (X1 : FS), TidR X (X.S.map (·.1)).reverse m1 X1 ∧ RunR X1 m2 Y ∧ mos = m1 ++ m2
theorem Std.dget {H : Hp} {R : Addr} {kvs : List (Key × V)} {S : StL} (h : Std H kvs S) (e : H R = some (.dK kvs)) {k : Int} {x : M4} (hx : sget S k = some x) : ∃ tx, DGet H R (.int k) (some (.ref tx)) ∧ valV kvs (Sum.inl k) = some (.ref tx) ∧ H tx = some (t4 x) := by
  obtain ⟨tx, h1, h2⟩ := (h.get k).2 x hx
  refine ⟨tx, ?_, h1, h2⟩
  rw [← h1]
  exact DGet.k (k := Sum.inl k) e
theorem mvi {i : Int} (h0 : 0 ≤ i) (h1 : i ≤ 4000000000000000000) : MV (.int i) := .inl (IB.fv (.int (by omega)))
theorem mvs_idle : MV (.str "idle") := .inr ⟨_, rfl, by decide +kernel, by decide +kernel, by decide +kernel⟩
theorem mvs_halve : MV (.str "halve") := .inr ⟨_, rfl, by decide +kernel, by decide +kernel, by decide +kernel⟩
theorem mvs_merge : MV (.str "merge") := .inr ⟨_, rfl, by decide +kernel, by decide +kernel, by decide +kernel⟩
theorem mvs_lead : MV (.str "lead") := .inr ⟨_, rfl, by decide +kernel, by decide +kernel, by decide +kernel⟩
theorem mvs_fold : MV (.str "fold") := .inr ⟨_, rfl, by decide +kernel, by decide +kernel, by decide +kernel⟩
theorem mvs_bare : MV (.str "bare") := .inr ⟨_, rfl, by decide +kernel, by decide +kernel, by decide +kernel⟩
theorem al2 {α : Type} {P : α → Prop} {a b : α} (h1 : P a) (h2 : P b) : ∀ x ∈ [a, b], P x := fun x hx => by
  rcases List.mem_cons.mp hx with e | hx
  · rw [e]; exact h1
  rcases List.mem_cons.mp hx with e | hx
  · rw [e]; exact h2
  · cases hx
theorem al3 {α : Type} {P : α → Prop} {a b c : α} (h1 : P a) (h2 : P b) (h3 : P c) : ∀ x ∈ [a, b, c], P x := fun x hx => by
  rcases List.mem_cons.mp hx with e | hx
  · rw [e]; exact h1
  · exact al2 h2 h3 x hx
theorem al4 {α : Type} {P : α → Prop} {a b c d : α} (h1 : P a) (h2 : P b) (h3 : P c) (h4 : P d) : ∀ x ∈ [a, b, c, d], P x := fun x hx => by
  rcases List.mem_cons.mp hx with e | hx
  · rw [e]; exact h1
  · exact al3 h2 h3 h4 x hx

/-! ### Folder.lead_off -/
abbrev N_Fo_lead_off : List Str := ["self", "j", "i", "low"]
abbrev P_Fo_lead_off : List Str := ["self", "j", "i", "low"]
theorem sc_Fo_lead_off : FnScope N_Fo_lead_off P_Fo_lead_off (defScope s_Fo_lead_off) := ⟨rfl, rfl, rfl, by decide +kernel, rfl, by decide +kernel, by decide +kernel⟩
theorem sget_put_self {S : StL} {i : Int} {x y : M4} (h : sget S i = some x) : sget (sput S i y) i = some y := by
  unfold sput
  induction S with
  | nil => cases h
  | cons s r ih =>
    have h' : (if s.1 = i then some s.2 else sget r i) = some x := h
    show (if (if s.1 = i then (s.1, y) else s).1 = i then some (if s.1 = i then (s.1, y) else s).2 else sget (r.map _) i) = some y
    by_cases c : s.1 = i
    · rw [if_pos c]
      show (if s.1 = i then some y else _) = some y
      rw [if_pos c]
    · rw [if_neg c] at h' ⊢
      rw [if_neg c]
      exact ih h'
/-- a mating led off its leader's stretch, once -/
theorem lead_once {X : FS} {i j : Int} {x w : M4} (wf : WF X) (hij : ¬ i = j) (hx : sget X.S j = some x) (hw : sget X.S i = some w) (hl : xLead w = true) (he : w.2.1 + w.2.2.1 = X.e) (h : w.2.1 ≤ x.2.1) : ∃ y, mkS X (.lead j 1 i) = some ⟨X.e, sput X.S j y, X.L⟩ := by
  have pe := (wf.at hx).pe
  refine ⟨nrm (x.1, ledB w x.2.1 x.2.2.1, x.2.2.1, xorP x.2.2.2 w.2.2.2), ?_⟩
  show (leadS X.S j 1 i).map _ = _
  rw [leadS_eq hij hx hw]
  unfold leadX
  rw [if_pos ⟨.inr rfl, hl, by rw [if_pos rfl]; exact h, by rw [if_pos rfl]; omega⟩]
  rfl
/-- what leading off leaves -/
structure LedOff (X X' : FS) (j low : Int) : Prop where
  e : X'.e = X.e
  L : X'.L = X.L
  ks : X'.S.map (·.1) = X.S.map (·.1)
  oth : ∀ k, ¬ j = k → sget X'.S k = sget X.S k
  one : ∃ y, sget X'.S j = some y ∧ y.2.1 < low
def spLeadOff (C C2 : Addr) (Lim : FS → Nat → Prop) : Sp := fun vs H Q _ => ∃ (X0 : FS) (g a s q rw : Addr) (us : List Addr) (mos : List Mo) (X : FS) (i j : Int) (w x : M4), vs = [.ref g, .int j, .int i, .int w.2.1] ∧ FoI C C2 Lim X0 g a s q rw H X us mos ∧ ¬ i = j ∧ sget X.S i = some w ∧ xLead w = true ∧ w.2.1 + w.2.2.1 = X.e ∧ sget X.S j = some x ∧
  ∀ H' X' us' dn, FoI C C2 Lim X0 g a s q rw H' X' us' (mos ++ dn) → OffR a s q rw H H' → LedOff X X' j w.2.1 → LedR i j w.2.1 X dn X' → mu X' ≤ mu X → (w.2.1 ≤ x.2.1 → mu X' < mu X) → Q .non H'
section
variable {P : Program} {w : World} {K : PySem.W.Frag} {mg : Str → Option Value} {base : Heap} {C C2 CM : Addr} {Lim : FS → Nat → Prop}
theorem ok_leadOff {f fM : Addr} {fd fdM : FuncData} (F : Fun K "lead_off" "Folder.lead_off" s_Fo_lead_off f fd) (T : FrT K mg C) (TFo_ : FoT K mg C2) (M_Fo_make : Meth K C2 "make" fM) (G_Fo_make : FnOk P w K mg base CX0 7 fM fdM P_Fo_make (spFoStep C C2 Lim)) (b_Fo_make : Binds K fdM P_Fo_make []) :
    FnOk P w K mg base CX0 8 f fd P_Fo_lead_off (spLeadOff C C2 Lim) := by
  refine F.ok sc_Fo_lead_off (fun vs H Q E h => ?_) (fun cdv A outer s H vs Q E hr h => ?_)
  · obtain ⟨X0, g, a, s, q, rw, us, mos, X, i, j, w, x, rfl, _⟩ := h
    rfl
  · obtain ⟨X0, g, a, s, q, rw, us, mos, X, i, j, w, x, rfl, I, hij, hw, hl, he, hx, qq⟩ := h
    have hu := hu_of hr
    refine ⟨_, (pss_one (ps_while PassesOwn.never (pt_cmpR op_ge (pe_ix ix_tup (pe_dget hu (pe_fld (pe_fld (pv 0) rfl) rfl) (pv 1) (fun _ _ => rfl)) pe_int (fun _ _ => rfl)) (pv 3) (nomark _)) (pss_one (ps_expr (pe_meth (pv 0) TFo_.cl M_Fo_make G_Fo_make (hr.mono (by omega)) b_Fo_make .nil pass0 (pa_cons (pe_tup (pa_cons pe_str (pa_cons (pv 1) (pa_cons pe_int (pa_cons (pv 2) pa_nil))))) pa_nil)))))), ?_⟩
    refine ⟨fun m σ H2 => σ = [some (.ref g), some (.int j), some (.int i), some (.int w.2.1)] ∧ ∃ us2 dn X2 y, FoI C C2 Lim X0 g a s q rw H2 X2 us2 (mos ++ dn) ∧ OffR a s q rw H H2 ∧ X2.e = X.e ∧ X2.L = X.L ∧ X2.S.map (·.1) = X.S.map (·.1) ∧ (∀ k, ¬ j = k → sget X2.S k = sget X.S k) ∧ sget X2.S j = some y ∧ mu X2 ≤ mu X ∧ (mu X2 = mu X → y = x) ∧ (∀ ms Y, LedR i j w.2.1 X2 ms Y → LedR i j w.2.1 X (dn ++ ms) Y) ∧ m = (mu X2).toNat, ⟨_, rfl, us, [], X, x, by rw [List.append_nil]; exact I, OffR.of_same (Same.refl H), rfl, rfl, rfl, fun _ _ => rfl, hx, Int.le_refl _, fun _ => rfl, fun ms Y h => h, rfl⟩, ?_⟩
    rintro m σ H2 ⟨rfl, us2, dn, X2, y, I2, o2, e2, L2, k2, oth2, hy, le2, un2, rel2, rfl⟩
    obtain ⟨psA, faA, hpA⟩ := id I2.fr
    obtain ⟨dxA, eaA⟩ := faA.at_a
    obtain ⟨dx, eg⟩ := I2.fo.at_g
    obtain ⟨kvs, es, st⟩ := faA.at_s
    obtain ⟨t, dg, _, ht⟩ := st.dget es hy
    have hw2 : sget X2.S i = some w := by rw [oth2 i (fun z => hij z.symm)]; exact hw
    refine ⟨.ref g, rfl, g, C2, dx, _, .ref a, rfl, eg, TFo_.cl, TFo_.nF, rfl, a, C, dxA, _, .ref s, rfl, eaA, T.cl, T.nS, fr_standing X2.e s q, .int j, rfl, s, .ref t, rfl, dg, t, _, 1, .int y.2.1, rfl, rfl, SqT.of ht, at4_1, .int w.2.1, rfl, y.2.1, w.2.1, rfl, rfl, _, rfl, ite2 (fun c => ?_) (fun c => ?_)⟩
    · have c' : w.2.1 ≤ y.2.1 := of_decide_eq_true c
      obtain ⟨y2, hX⟩ := lead_once I2.wf hij hy hw2 hl (by rw [e2]; exact he) c'
      have bj := I2.kb _ (sget_in hy)
      have bi := I2.kb _ (sget_in hw2)
      have lt := mkS_mu I2.wf hX
      have m0 := mu_0 (mkS_wf I2.wf hX)
      refine ⟨fun σ H3 => σ = [some (.ref g), some (.int j), some (.int i), some (.int w.2.1)] ∧ ∃ us2' y, FoI C C2 Lim X0 g a s q rw H3 ⟨X2.e, sput X2.S j y, X2.L⟩ us2' (mos ++ (dn ++ [.lead j 1 i])) ∧ OffR a s q rw H H3 ∧ y = y2, fun σ' H3 ⟨e3, us3, y3, I3, o3, ey⟩ => ?_, ?_⟩
      · subst ey
        refine ⟨(mu ⟨X2.e, sput X2.S j y3, X2.L⟩).toNat, by omega, e3, us3, dn ++ [.lead j 1 i], ⟨X2.e, sput X2.S j y3, X2.L⟩, y3, I3, o3, e2, L2, ?_, fun k hk => ?_, sget_put_self hy, by omega, fun z => by omega, fun ms Y h => by rw [List.append_assoc]; exact rel2 (.lead j 1 i :: ms) Y (.go hy c' hX h), rfl⟩
        · show (sput X2.S j y3).map (·.1) = _
          rw [sput_keys]
          exact k2
        · show sget (sput X2.S j y3) k = _
          rw [sget_put_other hk]
          exact oth2 k hk
      · refine ⟨.ref g, rfl, g, dx, _, rfl, eg, rfl, .int j, rfl, .int i, rfl, by show 4 ≤ sizeLine; decide, fun tm ntm => ?_⟩
        refine ⟨X0, g, a, s, q, rw, tm, us2, mos ++ dn, X2, _, .lead j 1 i, rfl, I2.same (same_upd ntm), .lead hij hw2 hl (by rw [e2]; exact he) hy c', upd_same, hX, al4 mvs_lead (mvi bj.1 (by omega)) (mvi (by decide) (by decide)) (mvi bi.1 (by omega)), fun H3 I3 o3 => ?_⟩
        exact ⟨rfl, _, y2, by rw [← List.append_assoc]; exact I3, (o2.trans (OffR.of_same (same_upd ntm))).trans o3, rfl⟩
    · have c' : ¬ w.2.1 ≤ y.2.1 := fun z => c (decide_eq_true z)
      refine qq H2 X2 us2 dn I2 o2 ⟨e2, L2, k2, oth2, y, hy, by omega⟩ (by have := rel2 [] X2 (.stop hy (by omega)); rwa [List.append_nil] at this) le2 fun hle => ?_
      by_cases z : mu X2 = mu X
      · rw [un2 z] at c'
        exact absurd hle c'
      · omega
end

/-! ### Folder.tidy_move -/
abbrev N_Fo_tidy_move : List Str := ["self", "i", "mating", "j"]
abbrev P_Fo_tidy_move : List Str := ["self", "i"]
theorem sc_Fo_tidy_move : FnScope N_Fo_tidy_move P_Fo_tidy_move (defScope s_Fo_tidy_move) := ⟨rfl, rfl, rfl, by decide +kernel, rfl, by decide +kernel, by decide +kernel⟩
/-- a move that makes the mating i tidier -/
structure Tidier (X X' : FS) (i : Int) : Prop where
  e : X'.e = X.e
  L : X'.L = X.L
  oth : ∀ k y, ¬ i = k → sget X'.S k = some y → sget X.S k = some y
theorem sget_drop_some {S : StL} {i k : Int} {y : M4} (h : sget (sdrop S i) k = some y) : sget S k = some y := by
  unfold sdrop at h
  induction S with
  | nil => cases h
  | cons s r ih =>
    show (if s.1 = k then some s.2 else sget r k) = some y
    by_cases c : s.1 = i
    · rw [List.filter_cons_of_neg (by simpa using c)] at h
      by_cases d : s.1 = k
      · -- then k = i, and no other of that name is left
        have none : sget (r.filter fun s => decide (s.1 ≠ i)) k = none := by
          have : ∀ r : StL, sget (r.filter fun s => decide (s.1 ≠ i)) k = none := fun r => by
            induction r with
            | nil => rfl
            | cons t r ih =>
              by_cases z : t.1 = i
              · rw [List.filter_cons_of_neg (by simpa using z)]
                exact ih
              · rw [List.filter_cons_of_pos (by simpa using z)]
                show (if t.1 = k then some t.2 else _) = none
                rw [if_neg (by omega)]
                exact ih
          exact this r
        rw [none] at h
        cases h
      · rw [if_neg d]
        exact ih h
    · rw [List.filter_cons_of_pos (by simpa using c)] at h
      have h : (if s.1 = k then some s.2 else sget (r.filter fun s => decide (s.1 ≠ i)) k) = some y := h
      by_cases d : s.1 = k
      · rw [if_pos d] at h ⊢
        exact h
      · rw [if_neg d] at h ⊢
        exact ih h
def spTidyMove (C C2 : Addr) (Lim : FS → Nat → Prop) : Sp := fun vs H Q _ => ∃ (X0 : FS) (g a s q rw : Addr) (us : List Addr) (mos : List Mo) (X : FS) (i : Int), vs = [.ref g, .int i] ∧ FoI C C2 Lim X0 g a s q rw H X us mos ∧ 0 ≤ i ∧ i ≤ 100 ∧
  ((∀ x, sget X.S i = some x → xLead x = true) → tmF X i = none → ∀ H', Same H H' → Q .non H') ∧
  ∀ H' t mo X', Same H H' → H' t = some (.tup (moV mo)) → FoMove X mo → mkS X mo = some X' → (∀ y ∈ moV mo, MV y) → Tidier X X' i → tmF X i = some mo → Q (.ref t) H'
theorem halve_can {X : FS} {i : Int} {x : M4} (hx : sget X.S i = some x) (hf : x.2.2.2 = 1) (hl : ¬ xLead x = true) : ∃ X', mkS X (.halve i) = some X' ∧ Tidier X X' i := by
  by_cases z : hlf x.1 x.2.1 x.2.2.1 = 0
  · refine ⟨⟨X.e, sdrop X.S i, X.L⟩, ?_, rfl, rfl, fun k y _ h => sget_drop_some h⟩
    show (halveS X.S i).map _ = _
    unfold halveS
    rw [hx]
    show Option.map _ (if x.2.2.2 = 0 ∨ isLead x.1 x.2.1 x.2.2.1 x.2.2.2 = true then none else _) = _
    rw [if_neg (by rintro (h | h); omega; exact hl h), if_pos z]
    rfl
  · refine ⟨⟨X.e, sput X.S i (nrm (x.1, x.2.1 + x.2.2.1 - hlf x.1 x.2.1 x.2.2.1, hlf x.1 x.2.1 x.2.2.1, x.2.2.2)), X.L⟩, ?_, rfl, rfl, fun k y n h => by rw [← sget_put_other n]; exact h⟩
    show (halveS X.S i).map _ = _
    unfold halveS
    rw [hx]
    show Option.map _ (if x.2.2.2 = 0 ∨ isLead x.1 x.2.1 x.2.2.1 x.2.2.2 = true then none else _) = _
    rw [if_neg (by rintro (h | h); omega; exact hl h), if_neg z]
    rfl
theorem idle_can {X : FS} {i : Int} {x : M4} (hx : sget X.S i = some x) (hf : x.2.2.2 = 0) (h0 : x.1 = x.2.1) : ∃ X', mkS X (.idle i) = some X' ∧ Tidier X X' i := by
  refine ⟨⟨X.e, sdrop X.S i, X.L⟩, ?_, rfl, rfl, fun k y _ h => sget_drop_some h⟩
  show (idleS X.S i).map _ = _
  unfold idleS
  rw [hx]
  show Option.map _ (if x.2.2.2 = 0 ∧ x.1 = x.2.1 then _ else none) = _
  rw [if_pos ⟨hf, h0⟩]
  rfl
theorem merge_can {X : FS} {i j : Int} {x y : M4} (hij : ¬ i = j) (hx : sget X.S i = some x) (hy : sget X.S j = some y) (h1 : isRep x.1 x.2.1 x.2.2.1 x.2.2.2 = true) (h2 : isRep y.1 y.2.1 y.2.2.1 y.2.2.2 = true) (h3 : x.2.1 - x.1 + (y.2.1 - y.1) ≤ shr x.1 x.2.1 x.2.2.1 y.1 y.2.1 y.2.2.1) : ∃ X', mkS X (.merge i j) = some X' ∧ Tidier X X' i := by
  obtain ⟨z, hz⟩ : ∃ z, mrg x y = some z := by
    unfold mrg
    rw [if_pos ⟨h1, h2, h3⟩]
    exact ⟨_, rfl⟩
  refine ⟨⟨X.e, sdrop (sput X.S i (nrm z)) j, X.L⟩, ?_, rfl, rfl, fun k y n h => by rw [← sget_put_other n]; exact sget_drop_some h⟩
  show (mergeS X.S i j).map _ = _
  unfold mergeS
  rw [if_neg hij, hx, hy]
  show Option.map _ (Option.map _ (mrg x y)) = _
  rw [hz]
  rfl
section
variable {P : Program} {w : World} {K : PySem.W.Frag} {mg : Str → Option Value} {base : Heap} {C C2 CM : Addr} {Lim : FS → Nat → Prop}
theorem ok_tidyMove {f fL fS fM fE fR fC : Addr} {fd fdL fdS fdM fdE fdR fdC : FuncData} (F : Fun K "tidy_move" "Folder.tidy_move" s_Fo_tidy_move f fd) (T : FrT K mg C) (TFo_ : FoT K mg C2) (D_is_leader : DefAt K mg "is_leader" s_is_leader P_is_leader fL fdL) (D_step_of : DefAt K mg "step_of" s_step_of P_step_of fS fdS)
    (D_merged : DefAt K mg "merged" s_merged P_merged fM fdM) (D_end_of : DefAt K mg "end_of" s_end_of P_end_of fE fdE) (D_is_repeat : DefAt K mg "is_repeat" s_is_repeat P_is_repeat fR fdR) (D_common : DefAt K mg "common" s_common P_common fC fdC) (B : Bn mg) :
    FnOk P w K mg base CX0 4 f fd P_Fo_tidy_move (spTidyMove C C2 Lim) := by
  have G_step_of : FnOk P w K mg base CX0 1 fS fdS P_step_of spStep := ok_step D_step_of
  have G_is_leader : FnOk P w K mg base CX0 2 fL fdL P_is_leader spLead := ok_lead D_is_leader D_step_of
  have G_merged : FnOk P w K mg base CX0 3 fM fdM P_merged spMerged := ok_merged D_merged D_step_of D_end_of D_is_repeat D_common B
  refine F.ok sc_Fo_tidy_move (fun vs H Q E h => ?_) (fun cdv A outer s H vs Q E hr h => ?_)
  · obtain ⟨X0, g, a, s, q, rw, us, mos, X, i, rfl, _⟩ := h
    rfl
  · obtain ⟨X0, g, a, s, q, rw, us, mos, X, i, rfl, I, i0, i1, qn, qs⟩ := h
    have hu := hu_of hr
    refine ⟨_, (pss_cons (ps_set (i := 2) sc_Fo_tidy_move.nd rfl (.inl rfl) (pe_dget1 hu (pe_fld (pe_fld (pv 0) rfl) rfl) (pv 1) ⟨rfl, rfl, rfl, rfl⟩))
      (pss_cons (ps_if (pt_cmpR op_isN (pv 2) pe_non (nomark _)) (pss_one (ps_ret pe_non)) pss_nil)
      (pss_cons (ps_if (pt_cmpR op_eq (pe_ix ix_tup (pv 2) pe_int (fun _ _ => rfl)) pe_int (nomark _)) (pss_one (ps_ret (pe_ifExp (pt_val (pe_call G_is_leader (hr.mono (by omega)) (by rfl) D_is_leader.g D_is_leader.F.kp D_is_leader.b .nil pass0 (pa_cons (pv 2) pa_nil))) pe_non (pe_tup (pa_cons pe_str (pa_cons (pv 1) pa_nil)))))) pss_nil)
      (pss_cons (ps_if (pt_cmpR op_eq (pe_call G_step_of (hr.mono (by omega)) (by rfl) D_step_of.g D_step_of.F.kp D_step_of.b .nil pass0 (pa_cons (pv 2) pa_nil)) pe_int (nomark _)) (pss_one (ps_ret (pe_tup (pa_cons pe_str (pa_cons (pv 1) pa_nil))))) pss_nil)
      (pss_cons (ps_for PassesOwn.never rfl (pi_list (pe_callB (call_sortedDI rfl) (by rfl) B.sorted (by decide +kernel) (pa_cons (pe_fld (pe_fld (pv 0) rfl) rfl) pa_nil))) (pg_name (i := 3) sc_Fo_tidy_move.nd rfl (.inl rfl)) (pss_one (ps_if (PW.pt (pw_and (pt_cmpR op_ne (pv 3) (pv 1) (nomark _)) (pw_and1 (pt_cmpR op_notN (pe_call G_merged (hr.mono (by omega)) (by rfl) D_merged.g D_merged.F.kp D_merged.b .nil pass0 (pa_cons (pv 2) (pa_cons (pe_dget hu (pe_fld (pe_fld (pv 0) rfl) rfl) (pv 3) (fun _ _ => rfl)) pa_nil))) pe_non (nomark _))))) (pss_one (ps_ret (pe_tup (pa_cons pe_str (pa_cons (pv 1) (pa_cons (pv 3) pa_nil)))))) pss_nil)))
      (pss_one (ps_ret pe_non))))))), ?_⟩
    obtain ⟨ps, fa, hp⟩ := id I.fr
    obtain ⟨dx, ea⟩ := fa.at_a
    obtain ⟨dg, eg⟩ := I.fo.at_g
    obtain ⟨o, gg, g1, g2⟩ := get_at (i := i) fa
    refine ⟨.ref g, rfl, g, C2, dg, _, .ref a, rfl, eg, TFo_.cl, TFo_.nF, rfl, a, C, dx, _, .ref s, rfl, ea, T.cl, T.nS, fr_standing X.e s q, s, rfl, isD_of fa, .int i, rfl, o, gg, ?_⟩
    cases hx : sget X.S i with
    | none =>
      rw [g1 hx]
      exact ⟨.non, rfl, rfl, _, rfl, iteT (qn (fun x h => by rw [hx] at h; cases h) (tmF_none hx) H (Same.refl H))⟩
    | some x =>
      obtain ⟨t, rfl, ht⟩ := g2 x hx
      have rk := I.wf.at hx
      refine ⟨.ref t, rfl, rfl, _, rfl, iteF ?_⟩
      refine ⟨.ref t, rfl, t, _, 3, .int x.2.2.2, rfl, rfl, SqT.of ht, at4_3, rfl, _, rfl, ?_⟩
      refine ite2 (fun h0 => ?_) (fun h0 => ?_)
      · have hf : x.2.2.2 = 1 := V.int.inj (of_decide_eq_true h0)
        refine ⟨.ref t, rfl, t, x.1, x.2.1, x.2.2.1, x.2.2.2, rfl, ht, xLead x, rfl, ite2 (fun hl => ?_) (fun hl => ?_)⟩
        · exact qn (fun y h => by rw [hx] at h; cases h; exact hl) (tmF_lead hx hf hl) H (Same.refl H)
        · obtain ⟨X', hX, ti⟩ := halve_can hx hf hl
          exact ⟨.int i, rfl, by show 2 ≤ sizeLine; decide, fun tm ntm => qs _ tm (.halve i) X' (same_upd ntm) upd_same (.halve hx hf hl) hX (al2 mvs_halve (mvi i0 (by omega))) ti (tmF_halve hx hf hl)⟩
      · have h0' : ¬ x.2.2.2 = 1 := fun z => h0 (decide_eq_true (congrArg V.int z))
        have hf : x.2.2.2 = 0 := rk.f01.resolve_right h0'
        refine ⟨.ref t, rfl, t, x.1, x.2.1, x.2.2.1, x.2.2.2, rfl, ht, rfl, _, rfl, ite2 (fun hz => ?_) (fun hz => ?_)⟩
        · have hz' : x.2.1 - x.1 = 0 := V.int.inj (of_decide_eq_true hz)
          obtain ⟨X', hX, ti⟩ := idle_can hx hf (by omega)
          exact ⟨.int i, rfl, by show 2 ≤ sizeLine; decide, fun tm ntm => qs _ tm (.idle i) X' (same_upd ntm) upd_same (.idle hx hf (by omega)) hX (al2 mvs_idle (mvi i0 (by omega))) ti (tmF_idle hx h0' hz')⟩
        · have hz' : ¬ x.2.1 - x.1 = 0 := fun z => hz (decide_eq_true (congrArg V.int z))
          have op := rk.op
          have lead : xLead x = true := by
            show (if x.2.2.2 = 1 then _ else decide (1 ≤ x.2.1 - x.1)) = true
            rw [if_neg h0']
            exact decide_eq_true (by omega)
          obtain ⟨kvs, es, st⟩ := id fa.at_s
          have hlen := I.wf.len
          refine ⟨.ref g, rfl, g, C2, dg, _, .ref a, rfl, eg, TFo_.cl, TFo_.nF, rfl, a, C, dx, _, .ref s, rfl, ea, T.cl, T.nS, fr_standing X.e s q, s, kvs, X.S.map (·.1), rfl, .inl es, st.keys, by rw [List.length_map]; omega, fun ys p py so np => ?_⟩
          have ey := perm_sorted py so I.wf.up
          subst ey
          have s1 := same_upd (H := H) (o := .lst ((X.S.map (·.1)).map V.int)) np
          have ep : (upd H p (.lst ((X.S.map (·.1)).map V.int))) p = some (.lst ((X.S.map (·.1)).map V.int)) := upd_same
          generalize upd H p (.lst ((X.S.map (·.1)).map V.int)) = H1 at s1 ep
          refine ⟨p, rfl, ⟨_, SqL.of ep⟩, for_list (K := K) (a := p) (xs := (X.S.map (·.1)).map V.int) (fun n σ H2 => ∃ y3, σ = [some (.ref g), some (.int i), some (.ref t), y3] ∧ H1 = H2 ∧ ∀ z ∈ X.S.take n, ¬ mrgAt i x z = true) ⟨_, rfl, rfl, fun z hz => (by rw [List.take_zero] at hz; cases hz)⟩ (fun n σ H2 _ ⟨_, _, e, _⟩ => by rw [← e]; exact SqL.of ep) ?_ ?_⟩
          · rintro n v σ H2 hv ⟨y3, rfl, rfl, bf⟩
            rw [List.map_map, List.getElem?_map] at hv
            obtain ⟨y, hy, rfl⟩ := Option.map_eq_some_iff.mp hv
            have hmem := List.mem_of_getElem? hy
            have hgy := sget_mem I.wf.up hmem
            have st1 := st.keep (H' := H1) (fun b xs hb => s1 b _ hb)
            obtain ⟨ty, dy, _, hty⟩ := st1.dget (s1 _ _ es) hgy
            have kb := I.kb y hmem
            have nxt : ¬ mrgAt i x y = true → ∀ z ∈ X.S.take (n + 1), ¬ mrgAt i x z = true := fun hn z hz => by
              rw [List.take_add_one, hy] at hz
              rcases List.mem_append.mp hz with hz | hz
              · exact bf z hz
              · have hz : z ∈ [y] := hz
                rw [List.mem_singleton.mp hz]
                exact hn
            refine ⟨.int y.1, rfl, .int i, rfl, rfl, _, rfl, ?_⟩
            by_cases c : y.1 = i
            · rw [show (!decide (V.int y.1 = V.int i)) = false by rw [decide_eq_true (congrArg V.int c)]; rfl]
              exact iteF (iteF ⟨_, rfl, rfl, nxt (by unfold mrgAt; simp [c])⟩)
            · rw [show (!decide (V.int y.1 = V.int i)) = true by rw [decide_eq_false (fun z => c (V.int.inj z))]; rfl]
              refine iteT ?_
              refine ⟨.ref t, rfl, .ref g, rfl, g, C2, dg, _, .ref a, rfl, s1 _ _ eg, TFo_.cl, TFo_.nF, rfl, a, C, dx, _, .ref s, rfl, s1 _ _ ea, T.cl, T.nS, fr_standing X.e s q, .int y.1, rfl, s, .ref ty, rfl, dy, t, ty, x.1, x.2.1, x.2.2.1, x.2.2.2, y.2.1, y.2.2.1, y.2.2.2.1, y.2.2.2.2, rfl, s1 _ _ ht, hty, fun hn => ?_, fun r1 r2 r3 r nr => ?_⟩
              · refine ⟨rfl, _, rfl, ?_⟩
                rw [show (!decide (V.non = V.non)) = false by rw [decide_eq_true rfl]; rfl]
                exact iteF ⟨_, rfl, rfl, nxt (by unfold mrgAt mrgB; simp only [Bool.and_eq_true, decide_eq_true_eq]; exact fun z => hn z.2)⟩
              · refine ⟨rfl, _, rfl, ?_⟩
                rw [show (!decide (V.ref r = V.non)) = true by rw [decide_eq_false (fun h => by cases h)]; rfl]
                refine iteT ?_
                obtain ⟨X', hX, ti⟩ := merge_can (fun z => c z.symm) hx hgy r1 r2 r3
                exact ⟨.int i, rfl, .int y.1, rfl, by show 3 ≤ sizeLine; decide, fun tm ntm => qs _ tm (.merge i y.1) X' ((s1.trans (same_upd nr)).trans (same_upd ntm)) upd_same (.merge (fun z => c z.symm) hx hgy r1 r2 r3) hX (al3 mvs_merge (mvi i0 (by omega)) (mvi kb.1 (by omega))) ti (tmF_merge hx h0' hz' hy (by unfold mrgAt mrgB; simp only [Bool.and_eq_true, decide_eq_true_eq]; exact ⟨c, r1, r2, r3⟩) bf)⟩
          · rintro σ H2 ⟨y3, rfl, rfl, bf⟩
            rw [List.length_map, List.length_map, List.take_length] at bf
            exact qn (fun y h => by rw [hx] at h; cases h; exact lead) (tmF_no hx h0' hz' bf) H1 s1
end

/-! ### Folder.tidy -/
abbrev N_Fo_tidy : List Str := ["self", "numbers", "waiting", "i", "move"]
abbrev P_Fo_tidy : List Str := ["self", "numbers"]
theorem sc_Fo_tidy : FnScope N_Fo_tidy P_Fo_tidy (defScope s_Fo_tidy) := ⟨rfl, rfl, rfl, by decide +kernel, rfl, by decide +kernel, by decide +kernel⟩
theorem FoI.keepW {C C2 : Addr} {Lim : FS → Nat → Prop} {X0 : FS} {g a s q rw r : Addr} {H H' : Hp} {X : FS} {us : List Addr} {mos : List Mo} {xs : List V} (h : FoI C C2 Lim X0 g a s q rw H X us mos) (hr : H r = some (.lst xs)) (n1 : q ≠ r) (n2 : rw ≠ r) (k : Keep r H H') : FoI C C2 Lim X0 g a s q rw H' X us mos :=
  ⟨h.fr.keepR hr n1 k, ⟨h.fo.at_g.elim fun dx e => ⟨dx, k.of e (ne_of e hr (fun z => by cases z))⟩, k.of h.fo.at_r n2⟩, h.ne, h.wf, h.kb, h.run, h.mv.keep fun b xs hb => k.of hb (ne_of hb hr (fun z => by cases z)), h.lim⟩
theorem last_of {ws : List Int} {k : Int} : ((ws ++ [k]).map V.int)[((ws ++ [k]).map V.int).length - 1]? = some (.int k) := by
  simp
theorem drop_of {ws : List Int} {k : Int} : ((ws ++ [k]).map V.int).dropLast = ws.map V.int := by
  simp
def AllLead (X : FS) (ws : List Int) : Prop := ∀ k x, sget X.S k = some x → k ∉ ws → xLead x = true
def spTidy (C C2 : Addr) (Lim : FS → Nat → Prop) : Sp := fun vs H Q _ => ∃ (X0 : FS) (g a s q rw N : Addr) (us : List Addr) (mos : List Mo) (X : FS) (ks : List Int), vs = [.ref g, .ref N] ∧ FoI C C2 Lim X0 g a s q rw H X us mos ∧ H N = some (.lst (ks.map V.int)) ∧ (∀ k ∈ ks, 0 ≤ k ∧ k ≤ 100) ∧ ks.length ≤ 100 ∧ AllLead X ks ∧
  ∀ H' X' us' dn, FoI C C2 Lim X0 g a s q rw H' X' us' (mos ++ dn) → OffR a s q rw H H' → X'.e = X.e → X'.L = X.L → AllLead X' [] → TidR X ks.reverse dn X' → mu X' ≤ mu X → Q .non H'
section
variable {P : Program} {w : World} {K : PySem.W.Frag} {mg : Str → Option Value} {base : Heap} {C C2 CM : Addr} {Lim : FS → Nat → Prop}
theorem ok_tidy {f fM fT : Addr} {fd fdM fdT : FuncData} (F : Fun K "tidy" "Folder.tidy" s_Fo_tidy f fd) (TFo_ : FoT K mg C2) (M_Fo_make : Meth K C2 "make" fM) (G_Fo_make : FnOk P w K mg base CX0 7 fM fdM P_Fo_make (spFoStep C C2 Lim)) (b_Fo_make : Binds K fdM P_Fo_make [])
    (M_Fo_tidy_move : Meth K C2 "tidy_move" fT) (G_Fo_tidy_move : FnOk P w K mg base CX0 4 fT fdT P_Fo_tidy_move (spTidyMove C C2 Lim)) (b_Fo_tidy_move : Binds K fdT P_Fo_tidy_move []) (B : Bn mg) :
    FnOk P w K mg base CX0 8 f fd P_Fo_tidy (spTidy C C2 Lim) := by
  refine F.ok sc_Fo_tidy (fun vs H Q E h => ?_) (fun cdv A outer s H vs Q E hr h => ?_)
  · obtain ⟨X0, g, a, s, q, rw, N, us, mos, X, ks, rfl, _⟩ := h
    rfl
  · obtain ⟨X0, g, a, s, q, rw, N, us, mos, X, ks, rfl, I, eN, hks, lks, al, qq⟩ := h
    refine ⟨_, (pss_cons (ps_set (i := 2) sc_Fo_tidy.nd rfl (.inl rfl) (pe_callTy call_list_of (by rfl) B.list (by decide +kernel) (pa_cons (pv 1) pa_nil)))
      (pss_one (ps_while PassesOwn.never (pt_truth (pv 2) (fun _ => rfl)) (pss_cons (ps_set (i := 3) sc_Fo_tidy.nd rfl (.inl rfl) (pe_bm0 PySem.F.plainAttrs_list PySem.F.slot_list_pop PySem.F.type_list_pop mt_pop (pv 2)))
      (pss_cons (ps_set (i := 4) sc_Fo_tidy.nd rfl (.inl rfl) (pe_meth (pv 0) TFo_.cl M_Fo_tidy_move G_Fo_tidy_move (hr.mono (by omega)) b_Fo_tidy_move .nil pass0 (pa_cons (pv 3) pa_nil)))
      (pss_one (ps_if (pt_cmpR op_notN (pv 4) pe_non (nomark _)) (pss_cons (ps_expr (pe_meth (pv 0) TFo_.cl M_Fo_make G_Fo_make (hr.mono (by omega)) b_Fo_make .nil pass0 (pa_cons (pv 4) pa_nil)))
      (pss_one (ps_expr (pe_bm PySem.F.plainAttrs_list PySem.F.slot_list_append PySem.F.type_list_append mt_append (pv 2) (pa_cons (pv 3) pa_nil))))) pss_nil))))))), ?_⟩
    refine ⟨.ref N, rfl, N, _, rfl, .inl (SqL.of eN), fun Wd nW => ?_⟩
    have s1 := same_upd (H := H) (o := .lst (ks.map V.int)) nW
    obtain ⟨_, faH, _⟩ := id I.fr
    have nq : q ≠ Wd := ne_of_none faH.at_q nW
    have nr : rw ≠ Wd := ne_of_none I.fo.at_r nW
    refine ⟨fun m σ H2 => ∃ (ws : List Int) (X2 : FS) (us2 : List Addr) (dn : List Mo) (y3 y4 : Option V), σ = [some (.ref g), some (.ref N), some (.ref Wd), y3, y4] ∧ FoI C C2 Lim X0 g a s q rw H2 X2 us2 (mos ++ dn) ∧ OffR a s q rw H H2 ∧ H2 Wd = some (.lst (ws.map V.int)) ∧ (∀ k ∈ ws, 0 ≤ k ∧ k ≤ 100) ∧ ws.length ≤ 100 ∧ X2.e = X.e ∧ X2.L = X.L ∧ AllLead X2 ws ∧ mu X2 ≤ mu X ∧ (∀ ms Y, TidR X2 ws.reverse ms Y → TidR X ks.reverse (dn ++ ms) Y) ∧ m = (mu X2).toNat * 200 + ws.length,
      ⟨_, ks, X, us, [], none, none, rfl, by rw [List.append_nil]; exact I.same s1, OffR.of_same s1, upd_same, hks, lks, rfl, rfl, al, Int.le_refl _, fun ms Y h => h, rfl⟩, ?_⟩
    rintro m σ H2 ⟨ws, X2, us2, dn, y3, y4, rfl, I2, o2, eW, hws, lws, e2, L2, al2', le2, rel2, rfl⟩
    refine ⟨.ref Wd, rfl, _, .inl ⟨_, SqL.of eW, rfl⟩, ?_⟩
    rcases List.eq_nil_or_concat ws with rfl | ⟨ws0, k, hcat⟩
    · refine iteF ?_
      exact qq H2 X2 us2 dn I2 o2 e2 L2 al2' (by have := rel2 [] X2 .nil; rwa [List.append_nil] at this) le2
    · rw [List.concat_eq_append] at hcat
      subst hcat
      rw [show (!((ws0 ++ [k]).map V.int).isEmpty) = true by simp]
      refine iteT ?_
      have hk := hws k (List.mem_append_right _ List.mem_cons_self)
      have m0 := mu_0 I2.wf
      rw [List.length_append] at lws
      have lws' : ws0.length + 1 ≤ 100 := lws
      refine ⟨fun σ H3 => ∃ (ws : List Int) (X3 : FS) (us3 : List Addr) (dn3 : List Mo) (y3 y4 : Option V), σ = [some (.ref g), some (.ref N), some (.ref Wd), y3, y4] ∧ FoI C C2 Lim X0 g a s q rw H3 X3 us3 (mos ++ dn3) ∧ OffR a s q rw H H3 ∧ H3 Wd = some (.lst (ws.map V.int)) ∧ (∀ k ∈ ws, 0 ≤ k ∧ k ≤ 100) ∧ ws.length ≤ 100 ∧ X3.e = X.e ∧ X3.L = X.L ∧ AllLead X3 ws ∧ mu X3 ≤ mu X ∧ (∀ ms Y, TidR X3 ws.reverse ms Y → TidR X ks.reverse (dn3 ++ ms) Y) ∧ (mu X3).toNat * 200 + ws.length < (mu X2).toNat * 200 + (ws0 ++ [k]).length,
        fun σ' H3 ⟨ws3, X3, us3, dn3, z3, z4, a1, a2, a3, a4, a5, a6, a7, a8, a9, a10, a11, a12⟩ => ⟨_, a12, ws3, X3, us3, dn3, z3, z4, a1, a2, a3, a4, a5, a6, a7, a8, a9, a10, a11, rfl⟩, ?_⟩
      refine ⟨.ref Wd, rfl, .inl ⟨rfl, _, SqL.of eW⟩, Wd, _, .int k, rfl, rfl, eW, last_of, ?_⟩
      rw [drop_of]
      have k3 : Keep Wd H2 (upd H2 Wd (.lst (ws0.map V.int))) := Keep.upd
      have I3 := I2.keepW eW nq nr k3
      have o3 : OffR a s q rw H (upd H2 Wd (.lst (ws0.map V.int))) := fun b o hb n1 n2 n3 n4 => k3.of (o2 b o hb n1 n2 n3 n4) (ne_of_none hb nW)
      obtain ⟨dg, eg⟩ := I3.fo.at_g
      refine ⟨.ref g, rfl, g, dg, _, rfl, eg, rfl, .int k, rfl, X0, g, a, s, q, rw, us2, mos ++ dn, X2, k, rfl, I3, hk.1, hk.2, fun hl htm H4 s4 => ?_, fun H4 t mo X' s4 et fmv hX hmv ti htm => ?_⟩
      · refine ⟨.non, rfl, rfl, _, rfl, ?_⟩
        rw [show (!decide (V.non = V.non)) = false by rw [decide_eq_true rfl]; rfl]
        refine iteF ?_
        refine ⟨ws0, X2, us2, dn, _, _, rfl, I3.same s4, o3.trans (OffR.of_same s4), s4 _ _ upd_same, fun z hz => hws z (List.mem_append_left _ hz), by omega, e2, L2, fun z x hz hn => ?_, le2, fun ms Y h => rel2 _ _ (by rw [List.reverse_append]; exact .skip htm h), by rw [List.length_append]; show _ < _ + (ws0.length + 1); omega⟩
        by_cases c : z = k
        · rw [c] at hz
          exact hl x hz
        · refine al2' z x hz fun h => ?_
          rcases List.mem_append.mp h with h | h
          · exact hn h
          · exact c (List.mem_singleton.mp h)
      · refine ⟨.ref t, rfl, rfl, _, rfl, ?_⟩
        rw [show (!decide (V.ref t = V.non)) = true by rw [decide_eq_false (fun h => by cases h)]; rfl]
        refine iteT ?_
        have I4 := I3.same s4
        obtain ⟨dg4, eg4⟩ := I4.fo.at_g
        have eW4 : H4 Wd = some (.lst (ws0.map V.int)) := s4 _ _ upd_same
        have lt := mkS_mu I2.wf hX
        have m1 := mu_0 (mkS_wf I2.wf hX)
        refine ⟨.ref g, rfl, g, dg4, _, rfl, eg4, rfl, .ref t, rfl, X0, g, a, s, q, rw, t, us2, mos ++ dn, X2, X', mo, rfl, I4, fmv, et, hX, hmv, fun H5 I5 o5 => ?_⟩
        obtain ⟨_, ⟨⟨dx4, ea4⟩, ⟨kv4, es4, _⟩, eq4, _, _⟩, _⟩ := I4.fr
        have eW5 : H5 Wd = some (.lst (ws0.map V.int)) := o5 _ _ eW4 (ne_of eW4 ea4 (fun z => by cases z)) (ne_of eW4 es4 (fun z => by cases z)) nq.symm nr.symm
        refine ⟨.ref Wd, rfl, .inl ⟨rfl, _, SqL.of eW5⟩, .int k, rfl, Wd, _, _, rfl, rfl, eW5, sz_lt (by rw [List.length_map]; omega), ?_⟩
        have k6 : Keep Wd H5 (upd H5 Wd (.lst (ws0.map V.int ++ [.int k]))) := Keep.upd
        refine ⟨ws0 ++ [k], X', _, dn ++ [mo], _, _, rfl, by rw [← List.append_assoc]; exact I5.keepW eW5 nq nr k6, fun b o hb n1 n2 n3 n4 => k6.of (((o3.trans (OffR.of_same s4)).trans o5) b o hb n1 n2 n3 n4) (ne_of_none hb nW), by rw [upd_same, List.map_append]; rfl, hws, by rw [List.length_append]; exact lws, by rw [ti.e]; exact e2, by rw [ti.L]; exact L2, fun z x hz hn => ?_, by omega, fun ms Y h => by rw [List.append_assoc]; exact rel2 (mo :: ms) Y (by rw [List.reverse_append] at h ⊢; exact .go htm hX h), by omega⟩
        have zk : ¬ k = z := fun h => hn (by rw [h]; exact List.mem_append_right _ List.mem_cons_self)
        exact al2' z x (ti.oth z x zk hz) hn
end

/-! ### go_on: its moves can be made -/
theorem bare_can {X : FS} (h : rch X.S none < X.e) : mkS X (.bare (rch X.S none)) = some ⟨rch X.S none, X.S, X.L ++ [.bare (rch X.S none) X.e]⟩ := by
  show bareS X _ = _
  unfold bareS
  rw [if_pos ⟨Int.le_refl _, h⟩]
/-- some mating ends at the top -/
theorem top_end {X : FS} (wf : WF X) (h : ¬ rch X.S none < X.e) (e0 : 0 < X.e) : ∃ s ∈ X.S, s.2.2.1 + s.2.2.2.1 = X.e := by
  have le := rch_le wf none
  rcases fold_max_in (endsL X.S none) 0 with z | z
  · have : rch X.S none = 0 := z
    omega
  · obtain ⟨s, hs, e⟩ := List.mem_map.mp z
    refine ⟨s, (List.mem_filter.mp hs).1, ?_⟩
    have : rch X.S none = s.2.2.1 + s.2.2.2.1 := e.symm
    omega
/-- the leader that ends at the top folds, where no other reaches its place -/
theorem fold_can {X : FS} (wf : WF X) {i : Int} {w : M4} (hw : sget X.S i = some w) (hl : xLead w = true) (he : w.2.1 + w.2.2.1 = X.e) (least : ∀ s ∈ X.S, s.2.2.1 + s.2.2.2.1 = X.e → w.2.1 ≤ s.2.2.1) (lone : ∀ s ∈ X.S, s.1 ≠ i → s.2.2.1 < w.2.1) :
    ∃ X', mkS X (.fold i (max w.2.1 (rch X.S (some i)))) = some X' ∧ 0 ≤ max w.2.1 (rch X.S (some i)) ∧ max w.2.1 (rch X.S (some i)) < X.e := by
  have k := wf.at hw
  have m1 := k.m1
  have o0 := k.o0
  have op := k.op
  have rl : rch X.S (some i) < X.e := by
    have e0 := wf.e0
    rcases fold_max_in (endsL X.S (some i)) 0 with z | z
    · have : rch X.S (some i) = 0 := z
      omega
    · obtain ⟨s, hs, e⟩ := List.mem_map.mp z
      obtain ⟨hs1, hs2⟩ := List.mem_filter.mp hs
      have ne : s.1 ≠ i := fun q => (of_decide_eq_true hs2) (by rw [q])
      have pe := (wf.r s hs1).pe
      have e' : rch X.S (some i) = s.2.2.1 + s.2.2.2.1 := e.symm
      by_cases c : s.2.2.1 + s.2.2.2.1 = X.e
      · have a := least s hs1 c
        have b := lone s hs1 ne
        omega
      · omega
  refine ⟨⟨max w.2.1 (rch X.S (some i)), if max w.2.1 (rch X.S (some i)) - w.2.1 = 0 then sdrop X.S i else sput X.S i (cutX w (max w.2.1 (rch X.S (some i)))), X.L ++ [.fold (max w.2.1 (rch X.S (some i))) X.e w.1 (if w.2.2.2 = 1 then 0 else w.2.1 - w.1) w.2.2.2]⟩, ?_, by omega, by omega⟩
  · show foldS X i _ = _
    unfold foldS
    rw [hw]
    show (if xLead w = true ∧ w.2.1 + w.2.2.1 = X.e ∧ w.2.1 ≤ max w.2.1 (rch X.S (some i)) ∧ max w.2.1 (rch X.S (some i)) < X.e ∧ rch X.S (some i) ≤ max w.2.1 (rch X.S (some i)) then _ else none) = _
    rw [if_pos ⟨hl, he, by omega, by omega, by omega⟩]
/-- leaders stay leaders where others are led off -/
theorem LedOff.lead {X X' : FS} {j low : Int} {ws : List Int} (h : LedOff X X' j low) (al : AllLead X ws) : AllLead X' (j :: ws) := fun k x hk hn => by
  have n : ¬ j = k := fun z => hn (by rw [z]; exact List.mem_cons_self)
  rw [h.oth k n] at hk
  exact al k x hk fun z => hn (List.mem_cons_of_mem _ z)

/-! ### Folder.go_on -/
abbrev N_Fo_widest : List Str := ["self", "ending", "standing", "i"]
abbrev P_Fo_widest : List Str := ["self"]
theorem sc_Fo_widest : FnScope N_Fo_widest P_Fo_widest (defScope s_Fo_widest) := ⟨rfl, rfl, rfl, by decide +kernel, rfl, by decide +kernel, by decide +kernel⟩
abbrev N_Fo_go_on : List Str := ["self", "reach", "i", "low", "j", "upon"]
abbrev P_Fo_go_on : List Str := ["self"]
theorem sc_Fo_go_on : FnScope N_Fo_go_on P_Fo_go_on (defScope s_Fo_go_on) := ⟨rfl, rfl, rfl, by decide +kernel, rfl, by decide +kernel, by decide +kernel⟩
open LamX in
theorem FoI.extN {C C2 : Addr} {Lim : FS → Nat → Prop} {X0 : FS} {g a s q rw : Addr} {H H' : Hp} {X : FS} {us : List Addr} {mos : List Mo} (h : FoI C C2 Lim X0 g a s q rw H X us mos) (k : ExtN H H') : FoI C C2 Lim X0 g a s q rw H' X us mos := by
  have kt : KeepT H H' := fun b xs hb => k _ _ hb (fun ps z => by cases z)
  obtain ⟨ps, ⟨⟨dx, ea⟩, ⟨kvs, es, st⟩, eq, up, len⟩, hp⟩ := h.fr
  exact ⟨⟨ps, ⟨⟨dx, k _ _ ea (fun ps z => by cases z)⟩, ⟨kvs, k _ _ es (fun ps z => by cases z), st.keep kt⟩, k _ _ eq (fun ps z => by cases z), up, len⟩, hp.keep kt⟩,
    ⟨h.fo.at_g.elim fun dx e => ⟨dx, k _ _ e (fun ps z => by cases z)⟩, k _ _ h.fo.at_r (fun ps z => by cases z)⟩, h.ne, h.wf, h.kb, h.run, h.mv.keep kt, h.lim⟩
/-- all but the front, the row and tables stands -/
def OffN (a s q rw : Addr) (H H' : Hp) : Prop := ∀ b o, H b = some o → b ≠ a → b ≠ s → b ≠ q → b ≠ rw → (∀ ps, o ≠ .tbl ps) → H' b = some o
theorem OffN.of_off {a s q rw : Addr} {H H' : Hp} (h : OffR a s q rw H H') : OffN a s q rw H H' := fun b o e n1 n2 n3 n4 _ => h b o e n1 n2 n3 n4
theorem OffN.of_ext {a s q rw : Addr} {H H' : Hp} (h : LamX.ExtN H H') : OffN a s q rw H H' := fun b o e _ _ _ _ n => h b o e n
theorem OffN.trans {a s q rw : Addr} {H H1 H2 : Hp} (x : OffN a s q rw H H1) (y : OffN a s q rw H1 H2) : OffN a s q rw H H2 := fun b o h n1 n2 n3 n4 n5 => y b o (x b o h n1 n2 n3 n4 n5) n1 n2 n3 n4 n5
theorem tabs_offR {TT : List (Addr × Str)} {C C2 : Addr} {Lim : FS → Nat → Prop} {X0 : FS} {g a s q rw : Addr} {H H' : Hp} {X : FS} {us : List Addr} {mos : List Mo} (t : LamX.Tabs TT H) (h : FoI C C2 Lim X0 g a s q rw H X us mos) (o : OffR a s q rw H H') : LamX.Tabs TT H' := fun p hp => by
  obtain ⟨_, ⟨⟨dx, ea⟩, ⟨kvs, es, _⟩, eq, _, _⟩, _⟩ := h.fr
  have er := h.fo.at_r
  obtain ⟨ps, h1, h2, h3⟩ := t p hp
  refine ⟨ps, o _ _ h1 (ne_of h1 ea (fun z => by cases z)) (ne_of h1 es (fun z => by cases z)) (ne_of h1 eq (fun z => by cases z)) (ne_of h1 er (fun z => by cases z)), h2, fun pos cv hc => ?_⟩
  obtain ⟨c, e, hcc⟩ := h3 pos cv hc
  refine ⟨c, e, o _ _ hcc (ne_of hcc ea ?_) (ne_of hcc es ?_) (ne_of hcc eq ?_) (ne_of hcc er ?_)⟩
  all_goals
    intro z
    unfold LamX.CodeO at z
    cases z
theorem cut_lead {x : M4} {m : Int} (hl : xLead x = true) (h1 : x.2.1 ≤ m) (h2 : m < x.2.1 + x.2.2.1) : xLead (cutX x m) = true := by
  by_cases f : x.2.2.2 = 1
  · have := lead_tu hl f
    show (if x.2.2.2 = 1 then decide (m - x.2.1 ≤ x.2.1 - (if x.2.2.2 = 1 then x.1 + x.2.2.1 - (m - x.2.1) else x.1)) else _) = true
    rw [if_pos f, if_pos f]
    exact decide_eq_true (by omega)
  · have := lead_st hl f
    show (if x.2.2.2 = 1 then _ else decide (1 ≤ x.2.1 - (if x.2.2.2 = 1 then x.1 + x.2.2.1 - (m - x.2.1) else x.1))) = true
    rw [if_neg f, if_neg f]
    exact decide_eq_true this
/-- what stands behind a fold leads -/
theorem fold_lead {X X' : FS} {i m : Int} (al : AllLead X []) (h : mkS X (.fold i m) = some X') : AllLead X' [] := by
  have q' : foldS X i m = some X' := h
  unfold foldS at q'
  split at q'
  · rename_i x hx
    split at q'
    · rename_i hc
      obtain ⟨hl, h1, h2, h3, h4⟩ := hc
      cases q'
      intro k y hk _
      have hk : sget (if m - x.2.1 = 0 then sdrop X.S i else sput X.S i (cutX x m)) k = some y := hk
      split at hk
      · exact al k y (sget_drop_some hk) (by simp)
      · by_cases c : i = k
        · subst c
          rw [sget_put_self hx] at hk
          cases hk
          exact cut_lead hl h2 (by omega)
        · rw [sget_put_other c] at hk
          exact al k y hk (by simp)
    · cases q'
  · cases q'
def spWidest (C C2 : Addr) (Lim : FS → Nat → Prop) (TT : List (Addr × Str)) : Sp := fun vs H Q _ => ∃ (X0 : FS) (g a s q rw : Addr) (us : List Addr) (mos : List Mo) (X : FS), vs = [.ref g] ∧ FoI C C2 Lim X0 g a s q rw H X us mos ∧ LamX.Tabs TT H ∧ (∃ t ∈ X.S, t.2.2.1 + t.2.2.2.1 = X.e) ∧
  ∀ H' i w, LamX.ExtN H H' → LamX.Tabs TT H' → sget X.S i = some w → w.2.1 + w.2.2.1 = X.e → (∀ t ∈ X.S, t.2.2.1 + t.2.2.2.1 = X.e → w.2.1 ≤ t.2.2.1) → widF X = some i → Q (.int i) H'
def spGoOn (C C2 : Addr) (Lim : FS → Nat → Prop) (TT : List (Addr × Str)) : Sp := fun vs H Q _ => ∃ (X0 : FS) (g a s q rw : Addr) (us : List Addr) (mos : List Mo) (X : FS), vs = [.ref g] ∧ FoI C C2 Lim X0 g a s q rw H X us mos ∧ LamX.Tabs TT H ∧ 0 < X.e ∧ AllLead X [] ∧
  ∀ H' X' us' dn, FoI C C2 Lim X0 g a s q rw H' X' us' (mos ++ dn) → OffN a s q rw H H' → LamX.Tabs TT H' → AllLead X' [] → GoR X dn X' → mu X' < mu X → Q .non H'

theorem filter_step {α : Type} {p : α → Bool} {S : List α} {i : Nat} {z : α} (hz : S[i]? = some z) : (S.take (i + 1)).filter p = (S.take i).filter p ++ (if p z = true then [z] else []) := by
  rw [List.take_add_one, hz, List.filter_append]
  congr 1
  show List.filter p [z] = _
  rw [List.filter_cons, List.filter_nil]
/-! ### Folder.go_on, read -/
section
variable {P : Program} {w : World} {K : PySem.W.Frag} {mg : Str → Option Value} {base : Heap} {C C2 CM : Addr} {Lim : FS → Nat → Prop} {TT : List (Addr × Str)}
theorem ok_goOn {f fM fW fL fT fR fP : Addr} {fd fdM fdW fdL fdT fdR fdP : FuncData} (F : Fun K "go_on" "Folder.go_on" s_Fo_go_on f fd) (T : FrT K mg C) (TFo_ : FoT K mg C2) (M_Fo_make : Meth K C2 "make" fM) (G_Fo_make : FnOk P w K mg base CX0 7 fM fdM P_Fo_make (spFoStep C C2 Lim)) (b_Fo_make : Binds K fdM P_Fo_make [])
    (M_Fo_widest : Meth K C2 "widest" fW) (G_Fo_widest : FnOk P w K mg base CX0 8 fW fdW P_Fo_widest (spWidest C C2 Lim TT)) (b_Fo_widest : Binds K fdW P_Fo_widest []) (M_Fo_lead_off : Meth K C2 "lead_off" fL) (G_Fo_lead_off : FnOk P w K mg base CX0 8 fL fdL P_Fo_lead_off (spLeadOff C C2 Lim)) (b_Fo_lead_off : Binds K fdL P_Fo_lead_off [])
    (M_Fo_tidy : Meth K C2 "tidy" fT) (G_Fo_tidy : FnOk P w K mg base CX0 8 fT fdT P_Fo_tidy (spTidy C C2 Lim)) (b_Fo_tidy : Binds K fdT P_Fo_tidy []) (M_reach : Meth K C "reach" fR) (G_reach : FnOk P w K mg base CX0 2 fR fdR P_Freach (spReach C)) (b_reach : Binds K fdR P_Freach [])
    (M_top : Meth K C "top" fP) (G_top : FnOk P w K mg base CX0 1 fP fdP P_Ftop (spTop C)) (b_top : Binds K fdP P_Ftop []) (B : Bn mg) : FnOk P w K mg base CX0 9 f fd P_Fo_go_on (spGoOn C C2 Lim TT) := by
  refine F.ok sc_Fo_go_on (fun vs H Q E h => ?_) (fun cdv A outer s H vs Q E hr h => ?_)
  · obtain ⟨X0, g, a, s, q, rw, us, mos, X, rfl, _⟩ := h
    rfl
  · obtain ⟨X0, g, a, s, q, rw, us, mos, X, rfl, I, hT, e0, al, qq⟩ := h
    have hu := hu_of hr
    refine ⟨_, (pss_cons (ps_set (i := 1) sc_Fo_go_on.nd rfl (.inl rfl) (pe_meth (pe_fld (pv 0) rfl) T.cl M_reach G_reach (hr.mono (by omega)) b_reach .nil pass0 (pa_cons pe_non pa_nil)))
      (pss_cons (ps_if (pt_cmpR op_lt (pv 1) (pe_meth0 (pe_fld (pv 0) rfl) T.cl M_top G_top (hr.mono (by omega)) b_top .nil pass0) (nomark _)) (pss_cons (ps_expr (pe_meth (pv 0) TFo_.cl M_Fo_make G_Fo_make (hr.mono (by omega)) b_Fo_make .nil pass0 (pa_cons (pe_tup (pa_cons pe_str (pa_cons (pv 1) pa_nil))) pa_nil)))
      (pss_one ps_retN)) pss_nil)
      (pss_cons (ps_set (i := 2) sc_Fo_go_on.nd rfl (.inr rfl) (pe_meth0 (pv 0) TFo_.cl M_Fo_widest G_Fo_widest (hr.mono (by omega)) b_Fo_widest .nil pass0))
      (pss_cons (ps_set (i := 3) sc_Fo_go_on.nd rfl (.inr rfl) (pe_ix ix_tup (pe_dget hu (pe_fld (pe_fld (pv 0) rfl) rfl) (pv 2) (fun _ _ => rfl)) pe_int (fun _ _ => rfl)))
      (pss_cons (ps_setLc (i := 5) (own := [("j", 4)]) (g := gName 4) (by rfl) sc_Fo_go_on.nd rfl rfl (sw_true rfl rfl rfl (by decide +kernel)) (pi_list (pe_callB (call_sortedDI rfl) (by rfl) B.sorted (by decide +kernel) (pa_cons (pe_fld (pe_fld (pv 0) rfl) rfl) pa_nil))) (blkOk_by (own := [("j", 4)]) (N := N_Fo_go_on) (sc := defScope s_Fo_go_on) (by decide +kernel)) (fun _ _ _ _ _ => (pg_name (i := 4) sc_Fo_go_on.nd rfl (.inl rfl))) (fun _ _ _ _ _ => (pts_one (PW.pt (pw_and (pt_cmpR op_ne (pv 4) (pv 2) (nomark _)) (pw_and1 (pt_cmpR op_ge (pe_ix (show IxR _ (rIxT K) from ix_tup) (pe_dget hu (pe_fldK (K := K) rfl (pe_fldK (K := K) rfl (pv 0) rfl) rfl) (pv 4) (fun _ _ => rfl)) pe_int (fun _ _ => rfl)) (pv 3) (nomark _))))))) (fun _ _ _ _ _ => (pv 4)))
      (pss_cons (ps_if (pt_not (pt_truth (pv 5) (fun _ => rfl))) (pss_cons (ps_expr (pe_meth (pv 0) TFo_.cl M_Fo_make G_Fo_make (hr.mono (by omega)) b_Fo_make .nil pass0 (pa_cons (pe_tup (pa_cons pe_str (pa_cons (pv 2) (pa_cons (pe_callB (call_max2 rfl) (by rfl) B.max (by decide +kernel) (pa_cons (pv 3) (pa_cons (pe_meth (pe_fld (pv 0) rfl) T.cl M_reach G_reach (hr.mono (by omega)) b_reach .nil pass0 (pa_cons (pv 2) pa_nil)) pa_nil))) pa_nil)))) pa_nil)))
      (pss_one ps_retN)) pss_nil)
      (pss_cons (ps_for PassesOwn.never rfl (pi_list (pv 5)) (pg_name (i := 4) sc_Fo_go_on.nd rfl (.inl rfl)) (pss_one (ps_expr (pe_meth (pv 0) TFo_.cl M_Fo_lead_off G_Fo_lead_off (hr.mono (by omega)) b_Fo_lead_off .nil pass0 (pa_cons (pv 4) (pa_cons (pv 2) (pa_cons (pv 3) pa_nil)))))))
      (pss_one (ps_expr (pe_meth (pv 0) TFo_.cl M_Fo_tidy G_Fo_tidy (hr.mono (by omega)) b_Fo_tidy .nil pass0 (pa_cons (pv 5) pa_nil))))))))))), ?_⟩
    obtain ⟨ps, fa, hp⟩ := id I.fr
    obtain ⟨dx, ea⟩ := fa.at_a
    obtain ⟨dg, eg⟩ := I.fo.at_g
    have e1' := I.wf.e1
    refine ⟨.ref g, rfl, g, C2, dg, _, .ref a, rfl, eg, TFo_.cl, TFo_.nF, rfl, a, dx, _, rfl, ea, put_no, a, s, q, .non, none, X, rfl, .inl ⟨rfl, rfl⟩, I.fr, I.wf, fun H1 s1 => ?_⟩
    have I1 := I.same s1
    have T1 := hT.ext s1
    have eg1 := s1 _ _ eg
    have ea1 := s1 _ _ ea
    refine ⟨.int (rch X.S none), rfl, .ref g, rfl, g, C2, dg, _, .ref a, rfl, eg1, TFo_.cl, TFo_.nF, rfl, a, dx, _, rfl, ea1, put_no, a, s, q, X.e, X.S, ps, rfl, fa.same s1, _, _, rfl, rfl, _, rfl, ite2 (fun c => ?_) (fun c => ?_)⟩
    · have c' : rch X.S none < X.e := of_decide_eq_true c
      have r0 := rch_0 X.S none
      have hX := bare_can c'
      refine ⟨.ref g, rfl, g, dg, _, rfl, eg1, rfl, .int (rch X.S none), rfl, by show 2 ≤ sizeLine; decide, fun tm ntm => ?_⟩
      have s2 := s1.trans (same_upd (o := .tup [.str "bare", .int (rch X.S none)]) ntm)
      refine ⟨X0, g, a, s, q, rw, tm, us, mos, X, _, .bare (rch X.S none), rfl, I.same s2, .bare c', upd_same, hX, al2 mvs_bare (mvi r0 (by omega)), fun H3 I3 o3 => ?_⟩
      exact qq H3 _ _ _ I3 (OffN.of_off ((OffR.of_same s2).trans o3)) (tabs_offR (hT.ext s2) (I.same s2) o3) (fun k x hk hn => al k x hk hn) (.bare c' hX) (mkS_mu I.wf hX)
    · have c' : ¬ rch X.S none < X.e := fun z => c (decide_eq_true z)
      refine ⟨.ref g, rfl, g, dg, _, rfl, eg1, rfl, X0, g, a, s, q, rw, us, mos, X, rfl, I1, T1, top_end I.wf c' e0, fun H2 i w x2 T2 hw he least hwid => ?_⟩
      have I2 := I1.extN x2
      obtain ⟨ps2, fa2, hp2⟩ := id I2.fr
      obtain ⟨dx2, ea2⟩ := fa2.at_a
      obtain ⟨dg2, eg2⟩ := I2.fo.at_g
      obtain ⟨kvs, es, st⟩ := fa2.at_s
      obtain ⟨t, dw, _, ht⟩ := st.dget es hw
      have hlen := I.wf.len
      have hlw : xLead w = true := al i w hw (by simp)
      refine ⟨.ref g, rfl, g, C2, dg2, _, .ref a, rfl, eg2, TFo_.cl, TFo_.nF, rfl, a, C, dx2, _, .ref s, rfl, ea2, T.cl, T.nS, fr_standing X.e s q, .int i, rfl, s, .ref t, rfl, dw, t, _, 1, .int w.2.1, rfl, rfl, SqT.of ht, at4_1, ?_⟩
      refine ⟨.ref g, rfl, g, C2, dg2, _, .ref a, rfl, eg2, TFo_.cl, TFo_.nF, rfl, a, C, dx2, _, .ref s, rfl, ea2, T.cl, T.nS, fr_standing X.e s q, s, kvs, X.S.map (·.1), rfl, .inl es, st.keys, by rw [List.length_map]; omega, fun ys p py so np => ?_⟩
      have ey := perm_sorted py so I.wf.up
      subst ey
      have s3 := same_upd (H := H2) (o := .lst ((X.S.map (·.1)).map V.int)) np
      have ep : (upd H2 p (.lst ((X.S.map (·.1)).map V.int))) p = some (.lst ((X.S.map (·.1)).map V.int)) := upd_same
      generalize upd H2 p (.lst ((X.S.map (·.1)).map V.int)) = H3 at s3 ep
      refine ⟨p, rfl, ⟨_, SqL.of ep⟩, fun L nL => lc_list (K := K) (a := p) (xs := (X.S.map (·.1)).map V.int) (fun n H4 => Same H3 H4 ∧ H4 L = some (.lst ((((X.S.take n).filter (uponB i w.2.1)).map (·.1)).map V.int)))
        ⟨same_upd nL, upd_same⟩ (fun n H4 _ ⟨sm, _⟩ => SqL.of (sm _ _ ep)) ?_ ?_⟩
      · rintro n v H4 hv ⟨s4, eL⟩
        rw [List.map_map, List.getElem?_map] at hv
        obtain ⟨y, hy, rfl⟩ := Option.map_eq_some_iff.mp hv
        have hmem := List.mem_of_getElem? hy
        have s24 := s3.trans s4
        have st4 := st.keep (H' := H4) (fun b xs hb => s24 b _ hb)
        obtain ⟨ty, dy, _, hty⟩ := st4.dget (s24 _ _ es) (sget_mem I.wf.up hmem)
        have hn : n < X.S.length := (List.getElem?_eq_some_iff.mp hy).1
        have fs := filter_step (p := uponB i w.2.1) hy
        refine ⟨rfl, .int y.1, rfl, .int i, rfl, rfl, _, rfl, ?_⟩
        by_cases c : y.1 = i
        · rw [show (!decide (V.int y.1 = V.int i)) = false by rw [decide_eq_true (congrArg V.int c)]; rfl]
          refine iteF (iteF ?_)
          rw [if_neg (by unfold uponB; simp [c]), List.append_nil] at fs
          exact ⟨s4, by rw [fs]; exact eL⟩
        · rw [show (!decide (V.int y.1 = V.int i)) = true by rw [decide_eq_false (fun z => c (V.int.inj z))]; rfl]
          refine iteT ?_
          refine ⟨.ref g, rfl, g, C2, dg2, _, .ref a, rfl, s24 _ _ eg2, TFo_.cl, TFo_.nF, rfl, a, C, dx2, _, .ref s, rfl, s24 _ _ ea2, T.cl, T.nS, fr_standing X.e s q, .int y.1, rfl, s, .ref ty, rfl, dy, ty, _, 1, .int y.2.2.1, rfl, rfl, SqT.of hty, at4_1, .int w.2.1, rfl, _, _, rfl, rfl, _, rfl, ite2 (fun d => ?_) (fun d => ?_)⟩
          · have d' : w.2.1 ≤ y.2.2.1 := of_decide_eq_true d
            rw [if_pos (by unfold uponB; simp [c, d'])] at fs
            have ll := List.length_filter_le (uponB i w.2.1) (X.S.take n)
            rw [List.length_take] at ll
            refine ⟨.int y.1, rfl, _, eL, sz_lt (by rw [List.length_map, List.length_map]; omega), fun b o hb => ?_, ?_⟩
            · rw [upd_ne (ne_of_none hb nL)]
              exact s4 _ _ hb
            · rw [upd_same, fs, List.map_append, List.map_append]
              rfl
          · have d' : ¬ w.2.1 ≤ y.2.2.1 := fun z => d (decide_eq_true z)
            rw [if_neg (by unfold uponB; simp [d']), List.append_nil] at fs
            exact ⟨s4, by rw [fs]; exact eL⟩
      rintro H4 ⟨s4, eL⟩
      rw [List.length_map, List.length_map, List.take_length] at eL
      have s24 := s3.trans s4
      have I4 := I2.same s24
      have T4 := T2.ext s24
      have o4 : OffN a s q rw H H4 := ((OffN.of_off (OffR.of_same s1)).trans (OffN.of_ext x2)).trans (OffN.of_off (OffR.of_same s24))
      have bi := I.kb _ (sget_in hw)
      refine ⟨.ref L, rfl, _, .inl ⟨_, SqL.of eL, rfl⟩, ?_⟩
      have memE : ∀ y ∈ X.S.filter (uponB i w.2.1), y ∈ X.S ∧ y.1 ≠ i ∧ w.2.1 ≤ y.2.2.1 := fun y hy => by
        obtain ⟨h1, h2⟩ := List.mem_filter.mp hy
        unfold uponB at h2
        rw [Bool.and_eq_true] at h2
        exact ⟨h1, of_decide_eq_true h2.1, of_decide_eq_true h2.2⟩
      have lone : ∀ t ∈ X.S, t.1 ≠ i → t ∉ X.S.filter (uponB i w.2.1) → t.2.2.1 < w.2.1 := fun t ht hn hf => by
        by_cases z : w.2.1 ≤ t.2.2.1
        · exact absurd (List.mem_filter.mpr ⟨ht, by unfold uponB; simp [hn, z]⟩) hf
        · omega
      have upE : ((X.S.filter (uponB i w.2.1)).map (·.1)).Pairwise (· < ·) := List.Pairwise.sublist (List.Sublist.map _ List.filter_sublist) I.wf.up
      have lE := List.length_filter_le (uponB i w.2.1) X.S
      have goL : ∀ {ms ms' : List Mo} {X1 Y : FS}, X.S.filter (uponB i w.2.1) ≠ [] → LedsR i w.2.1 X ((X.S.filter (uponB i w.2.1)).map (·.1)) ms X1 → TidR X1 ((X.S.filter (uponB i w.2.1)).map (·.1)).reverse ms' Y → GoR X (ms ++ ms') Y := fun h1 h2 h3 => .lead c' hwid hw h1 h2 h3
      have goF : ∀ {Y : FS}, X.S.filter (uponB i w.2.1) = [] → mkS X (.fold i (max w.2.1 (rch X.S (some i)))) = some Y → GoR X [.fold i (max w.2.1 (rch X.S (some i)))] Y := fun h1 h2 => .fold c' hwid hw h1 h2
      generalize X.S.filter (uponB i w.2.1) = EE at eL memE lone upE lE goL goF
      cases EE with
      | nil =>
        refine iteT ?_
        obtain ⟨X', hX, m0, m1⟩ := fold_can I.wf hw hlw he least (fun t ht hn => lone t ht hn (by simp))
        refine ⟨.ref g, rfl, g, dg2, _, rfl, s24 _ _ eg2, rfl, .int i, rfl, .int w.2.1, rfl, .ref g, rfl, g, C2, dg2, _, .ref a, rfl, s24 _ _ eg2, TFo_.cl, TFo_.nF, rfl, a, dx2, _, rfl, s24 _ _ ea2, put_no, .int i, rfl, a, s, q, .int i, some i, X, rfl, .inr ⟨i, rfl, rfl⟩, I4.fr, I4.wf, fun H5 s5 => ⟨w.2.1, rch X.S (some i), rfl, by show 3 ≤ sizeLine; decide, fun tm ntm => ?_⟩⟩
        have mx : (if rch X.S (some i) > w.2.1 then rch X.S (some i) else w.2.1) = max w.2.1 (rch X.S (some i)) := by split <;> omega
        rw [mx]
        have s6 := s5.trans (same_upd (o := .tup (moV (.fold i (max w.2.1 (rch X.S (some i)))))) ntm)
        refine ⟨X0, g, a, s, q, rw, tm, us, mos, X, X', .fold i (max w.2.1 (rch X.S (some i))), rfl, I4.same s6, .fold hw hlw he least (fun t ht hn => lone t ht hn (by simp)), upd_same, hX, al3 mvs_fold (mvi bi.1 (by omega)) (mvi m0 (by omega)), fun H6 I6 o6 => ?_⟩
        exact qq H6 _ _ _ I6 (o4.trans (OffN.of_off ((OffR.of_same s6).trans o6))) (tabs_offR (T4.ext s6) (I4.same s6) o6) (fold_lead al hX) (goF rfl hX) (mkS_mu I.wf hX)
      | cons e0' er =>
        refine iteF ?_
        have neE : e0' :: er ≠ [] := by simp
        generalize hEE : e0' :: er = EE at eL memE lone upE lE goL neE
        have posE : 0 < EE.length := by rw [← hEE]; exact Nat.succ_pos _
        have nLq : L ≠ q := by
          obtain ⟨_, f3, _⟩ := (I2.same s3).fr
          exact (ne_of_none f3.at_q nL).symm
        have nLr : L ≠ rw := (ne_of_none (I2.same s3).fo.at_r nL).symm
        have keepL : ∀ {H5 : Hp}, OffR a s q rw H4 H5 → H5 L = some (.lst ((EE.map (·.1)).map V.int)) := fun o5 => by
          obtain ⟨_, ⟨⟨dx4, ea4⟩, ⟨kv4, es4, _⟩, eq4, _, _⟩, _⟩ := I4.fr
          exact o5 _ _ eL (ne_of eL ea4 (fun z => by cases z)) (ne_of eL es4 (fun z => by cases z)) nLq nLr
        refine ⟨.ref L, rfl, L, rfl, ⟨_, SqL.of eL⟩, for_list (K := K) (a := L) (xs := (EE.map (·.1)).map V.int) (fun n σ H5 => ∃ (y4 : Option V) (X5 : FS) (us5 : List Addr) (dn : List Mo), σ = [some (.ref g), some (.int (rch X.S none)), some (.int i), some (.int w.2.1), y4, some (.ref L)] ∧ FoI C C2 Lim X0 g a s q rw H5 X5 us5 (mos ++ dn) ∧ LedsR i w.2.1 X ((EE.take n).map (·.1)) dn X5 ∧ OffR a s q rw H4 H5 ∧ X5.e = X.e ∧ X5.L = X.L ∧ X5.S.map (·.1) = X.S.map (·.1) ∧ (∀ k, k ∉ (EE.take n).map (·.1) → sget X5.S k = sget X.S k) ∧ mu X5 ≤ mu X ∧ (0 < n → mu X5 < mu X))
          ⟨_, X, us, [], rfl, by rw [List.append_nil]; exact I4, .nil, OffR.of_same (Same.refl H4), rfl, rfl, rfl, fun _ _ => rfl, Int.le_refl _, fun z => absurd z (Nat.lt_irrefl 0)⟩ (fun n σ H5 _ ⟨_, _, _, _, _, _, _, o5, _⟩ => SqL.of (keepL o5)) ?_ ?_⟩
        · rintro n v σ H5 hv ⟨y4, X5, us5, dn, rfl, I5, rl5, o5, e5, L5, k5, oth5, le5, lt5⟩
          rw [List.map_map, List.getElem?_map] at hv
          obtain ⟨y, hy, rfl⟩ := Option.map_eq_some_iff.mp hv
          obtain ⟨y1, y2, y3⟩ := memE y (List.mem_of_getElem? hy)
          have nin : y.1 ∉ (EE.take n).map (·.1) := fun z => by
            rw [List.map_take] at z
            obtain ⟨m, hm, em⟩ := List.mem_iff_getElem.mp z
            rw [List.length_take] at hm
            rw [List.getElem_take] at em
            have hn : n < (EE.map (·.1)).length := by rw [List.length_map]; exact (List.getElem?_eq_some_iff.mp hy).1
            have := List.pairwise_iff_getElem.mp upE m n (by omega) hn (by omega)
            have e2 : (EE.map (·.1))[n] = y.1 := by
              rw [List.getElem_map]
              exact congrArg (·.1) (List.getElem?_eq_some_iff.mp hy).2
            omega
          have iin : i ∉ (EE.take n).map (·.1) := fun z => by
            obtain ⟨q', hq, e⟩ := List.mem_map.mp z
            exact (memE q' (List.mem_of_mem_take hq)).2.1 e
          have hw5 : sget X5.S i = some w := by rw [oth5 i iin]; exact hw
          have hy5 : sget X5.S y.1 = some y.2 := by rw [oth5 _ nin]; exact sget_mem I.wf.up y1
          obtain ⟨dg5, eg5⟩ := I5.fo.at_g
          refine ⟨.ref g, rfl, g, dg5, _, rfl, eg5, rfl, .int y.1, rfl, .int i, rfl, .int w.2.1, rfl, X0, g, a, s, q, rw, us5, mos ++ dn, X5, i, y.1, w, y.2, rfl, I5, fun z => y2 z.symm, hw5, hlw, by rw [e5]; exact he, hy5, fun H6 X6 us6 dn6 I6 o6 lo lr le lt => ?_⟩
          have lt' := lt y3
          refine ⟨_, X6, us6, dn ++ dn6, rfl, by rw [← List.append_assoc]; exact I6, by rw [List.take_add_one, hy, List.map_append]; exact rl5.snoc lr, o5.trans o6, lo.e.trans e5, lo.L.trans L5, lo.ks.trans k5, fun k hk => ?_, by omega, fun _ => by omega⟩
          rw [List.take_add_one, hy, List.map_append] at hk
          rw [lo.oth k (fun z => hk (List.mem_append_right _ (by rw [← z]; exact List.mem_cons_self)))]
          exact oth5 k fun z => hk (List.mem_append_left _ z)
        · rintro σ H5 ⟨y4, X5, us5, dn, rfl, I5, rl5, o5, e5, L5, k5, oth5, le5, lt5⟩
          rw [List.length_map, List.length_map] at lt5
          rw [List.length_map, List.length_map, List.take_length] at oth5 rl5
          obtain ⟨dg5, eg5⟩ := I5.fo.at_g
          refine ⟨.ref g, rfl, g, dg5, _, rfl, eg5, rfl, .ref L, rfl, X0, g, a, s, q, rw, L, us5, mos ++ dn, X5, EE.map (·.1), rfl, I5, keepL o5, fun k hk => ?_, by rw [List.length_map]; omega, fun k x hk hn => ?_, fun H6 X6 us6 dn6 I6 o6 e6 L6 al6 tr6 le6 => ?_⟩
          · obtain ⟨y, hy, rfl⟩ := List.mem_map.mp hk
            exact I.kb y (memE y hy).1
          · rw [oth5 k hn] at hk
            exact al k x hk (by simp)
          · have := lt5 posE
            exact qq H6 X6 us6 (dn ++ dn6) (by rw [← List.append_assoc]; exact I6) (o4.trans (OffN.of_off (o5.trans o6))) (tabs_offR T4 I4 (o5.trans o6)) al6 (goL neE rl5 tr6) (by omega)
end

/-! ### Folder.widest -/
-- MINHEAD: (T := TT) (k := 5) TB rfl mT huT (hr.mono (by omega)) sc_Fo_widest.nd rfl (show LamS1 "i" (defScope s_Fo_widest) _ from lamS1_by (by decide +kernel)) rfl (fun _ _ _ _ _ _ => rfl)
abbrev TWid (Pt : Addr) : List (Addr × Str) := [(Pt, "Folder.widest.<locals>.<lambda>")]
theorem tWid_mem {Pt : Addr} : (Pt, ("Folder.widest.<locals>.<lambda>" : Str)) ∈ TWid Pt := List.mem_cons_self
theorem tWid_hu {Pt : Addr} : ∀ p ∈ TWid Pt, p.1 = Pt → p.2 = "Folder.widest.<locals>.<lambda>" := fun p hp _ => by rw [List.mem_singleton.mp hp]
section
open PySem.Spec PyProof.Rows LamX
variable {P : Program} {w : World} {K : PySem.W.Frag} {mg : Str → Option Value} {base : Heap} {C C2 CM : Addr} {Lim : FS → Nat → Prop} {TT : List (Addr × Str)}
theorem ok_widest {f fE fP c Pt : Addr} {fdE fdP : FuncData} {kV doc pm ct oc : Value} {an od : Option Addr} {osl : Array (Option Value)}
    (lk : K.lookup f = some ⟨oc, od, .func (PySem.W.fnOf "widest" "Folder.widest" (defArgs s_Fo_widest) (defBody s_Fo_widest) (defScope s_Fo_widest) .none kV doc pm an (.ref c) ct), osl⟩) (hcd : PySem.W.codeIn K (.ref c) "Folder.widest" = true) (TB : LamX.TabB base mg c Pt)
    (T : FrT K mg C) (TFo_ : FoT K mg C2) (D_end_of : DefAt K mg "end_of" s_end_of P_end_of fE fdE) (M_top : Meth K C "top" fP) (G_top : FnOk P w K mg base CX0 1 fP fdP P_Ftop (spTop C)) (b_top : Binds K fdP P_Ftop []) (B : Bn mg) (mT : (Pt, ("Folder.widest.<locals>.<lambda>" : Str)) ∈ TT) (huT : ∀ p ∈ TT, p.1 = Pt → p.2 = "Folder.widest.<locals>.<lambda>") :
    FnOk P w K mg base CX0 8 f (PySem.W.fnOf "widest" "Folder.widest" (defArgs s_Fo_widest) (defBody s_Fo_widest) (defScope s_Fo_widest) .none kV doc pm an (.ref c) ct) P_Fo_widest (spWidest C C2 Lim TT) := by
  have G_end_of : FnOk P w K mg base CX0 1 fE fdE P_end_of spEnd := ok_end D_end_of
  refine fn_of lk hcd sc_Fo_widest (fun vs H Q E h => ?_) (fun A outer s H vs Q E hr h => ?_)
  · obtain ⟨X0, g, a, s, q, rw, us, mos, X, rfl, _⟩ := h
    rfl
  · obtain ⟨X0, g, a, s', q, rw, us, mos, X, rfl, I, hT, hex, qq⟩ := h
    suffices hh : ∃ t, PSs (cxOf CX0 P w K mg base N_Fo_widest "Folder.widest" (defScope s_Fo_widest) f (.ref c) A outer s H E).nox (defBody s_Fo_widest) t ∧ t { nx := fun _ H' => Q .non H', rt := Q } (L2.start N_Fo_widest [.ref g]) H by
      obtain ⟨t, h1, h2⟩ := hh
      exact ⟨t, h1.nox, h2⟩
    have hu := hu_of hr
    refine ⟨_, (pss_cons (ps_set (i := 2) sc_Fo_widest.nd rfl (.inr rfl) (pe_fld (pe_fld (pv 0) rfl) rfl))
      (pss_cons (ps_setLc (i := 1) (own := [("i", 3)]) (g := gName 3) (by rfl) sc_Fo_widest.nd rfl rfl (sw_true rfl rfl rfl (by decide +kernel)) (pi_list (pe_callB (call_sortedDI rfl) (by rfl) B.sorted (by decide +kernel) (pa_cons (pv 2) pa_nil))) (blkOk_by (own := [("i", 3)]) (N := N_Fo_widest) (sc := defScope s_Fo_widest) (by decide +kernel)) (fun _ _ _ _ _ => (pg_name (i := 3) sc_Fo_widest.nd rfl (.inl rfl))) (fun _ _ _ _ _ => (pts_one (pt_cmpR op_eq (pe_call G_end_of (hr.mono (by omega)) (by rfl) D_end_of.g D_end_of.F.kp D_end_of.b .nil pass0 (pa_cons (pe_dget hu (pv 2) (pv 3) (fun _ _ => rfl)) pa_nil)) (pe_meth0 (pe_fldK (K := K) rfl (pv 0) rfl) T.cl M_top G_top (hr.mono (by omega)) b_top .nil pass0) (nomark _)))) (fun _ _ _ _ _ => (pv 3)))
      (pss_one (ps_ret (pe_minKey (y := "i") (j := 3) (by rfl) B.min (pv 1) (T := TT) (k := 5) TB rfl mT huT (hr.mono (by omega)) sc_Fo_widest.nd rfl (show LamS1 "i" (defScope s_Fo_widest) _ from lamS1_by (by decide +kernel)) rfl (fun _ _ _ _ _ _ => rfl) (fun A1 s1 H1 f1 c1 hr1 => (pe_ix (show IxR _ (rIxT K) from ix_tup) (pe_dget (hu_of hr1) (pv 2) (pv 3) (fun _ _ => rfl)) pe_int (fun _ _ => rfl)))))))), ?_⟩
    obtain ⟨ps, fa, hp⟩ := id I.fr
    obtain ⟨dx, ea⟩ := fa.at_a
    obtain ⟨dg, eg⟩ := I.fo.at_g
    obtain ⟨kvs, es, st⟩ := fa.at_s
    have hlen := I.wf.len
    refine ⟨.ref g, rfl, g, C2, dg, _, .ref a, rfl, eg, TFo_.cl, TFo_.nF, rfl, a, C, dx, _, .ref s', rfl, ea, T.cl, T.nS, fr_standing X.e s' q, ?_⟩
    refine ⟨.ref s', rfl, s', kvs, X.S.map (·.1), rfl, .inl es, st.keys, by rw [List.length_map]; omega, fun ys p py so np => ?_⟩
    have ey := perm_sorted py so I.wf.up
    subst ey
    have s3 := same_upd (H := H) (o := .lst ((X.S.map (·.1)).map V.int)) np
    have ep : (upd H p (.lst ((X.S.map (·.1)).map V.int))) p = some (.lst ((X.S.map (·.1)).map V.int)) := upd_same
    generalize upd H p (.lst ((X.S.map (·.1)).map V.int)) = H3 at s3 ep
    refine ⟨p, rfl, ⟨_, SqL.of ep⟩, fun L nL => lc_list (K := K) (a := p) (xs := (X.S.map (·.1)).map V.int) (fun n H4 => Same H3 H4 ∧ H4 L = some (.lst ((((X.S.take n).filter (endsAt X.e)).map (·.1)).map V.int)))
      ⟨same_upd nL, upd_same⟩ (fun n H4 _ ⟨sm, _⟩ => SqL.of (sm _ _ ep)) ?_ ?_⟩
    · rintro n v H4 hv ⟨s4, eL⟩
      rw [List.map_map, List.getElem?_map] at hv
      obtain ⟨y, hy, rfl⟩ := Option.map_eq_some_iff.mp hv
      have hmem := List.mem_of_getElem? hy
      have s24 := s3.trans s4
      have st4 := st.keep (H' := H4) (fun b xs hb => s24 b _ hb)
      obtain ⟨ty, dy, _, hty⟩ := st4.dget (s24 _ _ es) (sget_mem I.wf.up hmem)
      have hn : n < X.S.length := (List.getElem?_eq_some_iff.mp hy).1
      have fs := filter_step (p := endsAt X.e) hy
      refine ⟨rfl, .ref s', rfl, .int y.1, rfl, s', .ref ty, rfl, dy, ty, y.2.1, y.2.2.1, y.2.2.2.1, y.2.2.2.2, rfl, hty, .ref g, rfl, g, C2, dg, _, .ref a, rfl, s24 _ _ eg, TFo_.cl, TFo_.nF, rfl, a, dx, _, rfl, s24 _ _ ea, put_no, a, s', q, X.e, X.S, ps, rfl, fa.same s24, rfl, _, rfl, ite2 (fun d => ?_) (fun d => ?_)⟩
      · have d' : y.2.2.1 + y.2.2.2.1 = X.e := V.int.inj (of_decide_eq_true d)
        rw [if_pos (by unfold endsAt; simp [d'])] at fs
        have ll := List.length_filter_le (endsAt X.e) (X.S.take n)
        rw [List.length_take] at ll
        refine ⟨.int y.1, rfl, _, eL, sz_lt (by rw [List.length_map, List.length_map]; omega), fun b o hb => ?_, ?_⟩
        · rw [upd_ne (ne_of_none hb nL)]
          exact s4 _ _ hb
        · rw [upd_same, fs, List.map_append, List.map_append]
          rfl
      · have d' : ¬ y.2.2.1 + y.2.2.2.1 = X.e := fun z => d (decide_eq_true (congrArg V.int z))
        rw [if_neg (by unfold endsAt; simp [d']), List.append_nil] at fs
        exact ⟨s4, by rw [fs]; exact eL⟩
    rintro H4 ⟨s4, eL⟩
    rw [List.length_map, List.length_map, List.take_length] at eL
    have s24 := s3.trans s4
    have memE : ∀ y, y ∈ X.S.filter (endsAt X.e) ↔ y ∈ X.S ∧ y.2.2.1 + y.2.2.2.1 = X.e := fun y => by
      rw [List.mem_filter]
      unfold endsAt
      rw [decide_eq_true_iff]
    have lE := List.length_filter_le (endsAt X.e) X.S
    have wd : ∀ {i : Int}, (((X.S.filter (endsAt X.e)).find? fun s => (X.S.filter (endsAt X.e)).all fun t => decide (s.2.2.1 ≤ t.2.2.1)).map (·.1)) = some i → widF X = some i := fun h => h
    generalize X.S.filter (endsAt X.e) = EE at eL memE lE wd
    refine ⟨.ref L, rfl, hT.ext s24, fun H5 x5 T5 => ⟨L, (EE.map (·.1)).map V.int, fun i => (EE[i]?.map (·.2.2.1)).getD 0, rfl, SqL.of (x5 _ _ eL (fun ps z => by cases z)), ?_, fun i z hz => ?_, fun i z hz hb => ?_⟩⟩
    · obtain ⟨t, ht, et⟩ := hex
      have := List.length_pos_of_mem ((memE t).mpr ⟨ht, et⟩)
      rw [List.length_map, List.length_map]
      exact this
    · rw [List.map_map, List.getElem?_map] at hz
      obtain ⟨y, hy, rfl⟩ := Option.map_eq_some_iff.mp hz
      have hmem := ((memE y).mp (List.mem_of_getElem? hy)).1
      have x25 : LamX.ExtN H H5 := (LamX.ExtN.of s24).trans x5
      have st5 := st.keep (H' := H5) (fun b xs hb => x25 b _ hb (fun ps z => by cases z))
      obtain ⟨ty, dy, _, hty⟩ := st5.dget (x25 _ _ es (fun ps z => by cases z)) (sget_mem I.wf.up hmem)
      refine ⟨.ref s', rfl, .int y.1, rfl, s', .ref ty, rfl, dy, ty, _, 1, .int y.2.2.1, rfl, rfl, SqT.of hty, at4_1, ?_, rfl⟩
      simp only [hy]
      rfl
    · rw [List.map_map, List.getElem?_map] at hz
      obtain ⟨y, hy, rfl⟩ := Option.map_eq_some_iff.mp hz
      obtain ⟨m1, m2⟩ := (memE y).mp (List.mem_of_getElem? hy)
      refine qq H5 y.1 y.2 ((LamX.ExtN.of s24).trans x5) T5 (sget_mem I.wf.up m1) m2 (fun t ht et => ?_) (wd ?_)
      · obtain ⟨j, hj⟩ := List.mem_iff_getElem?.mp ((memE t).mpr ⟨ht, et⟩)
        have lt := (List.getElem?_eq_some_iff.mp hj).1
        have := (hb j (by rw [List.length_map, List.length_map]; exact lt)).1
        simp only [hy, hj] at this
        exact this
      · have hall : (EE.all fun t => decide (y.2.2.1 ≤ t.2.2.1)) = true := List.all_eq_true.mpr fun t ht => by
          obtain ⟨j, hj⟩ := List.mem_iff_getElem?.mp ht
          have lt := (List.getElem?_eq_some_iff.mp hj).1
          have := (hb j (by rw [List.length_map, List.length_map]; exact lt)).1
          simp only [hy, hj] at this
          exact decide_eq_true this
        rw [find_at (p := fun s : Int × M4 => EE.all fun t => decide (s.2.2.1 ≤ t.2.2.1)) hy hall fun z hz hp => ?_]
        · rfl
        · obtain ⟨j, hjl, ez⟩ := List.mem_iff_getElem.mp hz
          rw [List.length_take] at hjl
          rw [List.getElem_take] at ez
          have hj : EE[j]? = some z := by
            rw [← ez]
            exact List.getElem?_eq_getElem (by omega)
          have lt := (List.getElem?_eq_some_iff.mp hj).1
          have st := (hb j (by rw [List.length_map, List.length_map]; exact lt)).2 (by omega)
          simp only [hy, hj] at st
          have le := of_decide_eq_true (List.all_eq_true.mp hp y (List.mem_of_getElem? hy))
          have st : y.2.2.1 < z.2.2.1 := st
          omega
end

/-! ### fold_down -/
abbrev N_Fo_init : List Str := ["self", "front"]
abbrev P_Fo_init : List Str := ["self", "front"]
theorem sc_Fo_init : FnScope N_Fo_init P_Fo_init (defScope s_Fo_init) := ⟨rfl, rfl, rfl, by decide +kernel, rfl, by decide +kernel, by decide +kernel⟩
abbrev N_fold_down : List Str := ["front", "folder"]
abbrev P_fold_down : List Str := ["front"]
theorem sc_fold_down : FnScope N_fold_down P_fold_down (defScope s_fold_down) := ⟨rfl, rfl, rfl, by decide +kernel, rfl, by decide +kernel, by decide +kernel⟩
theorem same_new {H : Hp} {x dx C : Addr} (nx : H x = none) (nd : H dx = none) : Same H (upd (upd H dx (.own x)) x (.ins C dx [])) := fun b o h => by
  rw [upd_ne (ne_of_none h nx), upd_ne (ne_of_none h nd)]
  exact h
theorem Keep.new {x : Addr} {H H1 H2 : Hp} (s : Same H H1) (nx : H x = none) (k : Keep x H1 H2) : Same H H2 := fun b o h => k b o (ne_of_none h nx) (s b o h)
def spFoInit (C2 : Addr) : Sp := fun vs H Q _ => ∃ (g a dx : Addr), vs = [.ref g, .ref a] ∧ H g = some (.ins C2 dx []) ∧
  ∀ H' rw, H' g = some (.ins C2 dx (fo a rw)) → H' rw = some (.lst []) → H rw = none → Keep g H H' → Q .non H'
/-- all but the front and tables stands -/
def OffF (a s q : Addr) (H H' : Hp) : Prop := ∀ b o, H b = some o → b ≠ a → b ≠ s → b ≠ q → (∀ ps, o ≠ .tbl ps) → H' b = some o
def spFoldDown (C : Addr) (Lim : FS → Nat → Prop) (TT : List (Addr × Str)) : Sp := fun vs H Q _ => ∃ (a s q : Addr) (X0 : FS), vs = [.ref a] ∧ FrS C H a s q X0 ∧ WF X0 ∧ KBf X0 ∧ Lim X0 0 ∧ LamX.Tabs TT H ∧
  ∀ H' rw us mos Y, FrS C H' a s q Y → Y.e = 0 → WF Y → Y.L.length ≤ 1000 → runsF X0 mos Y → FoldR X0 mos Y → H' rw = some (.lst (us.map V.ref)) → H rw = none → MvF H' us mos → us.length < 90000 → OffF a s q H H' → LamX.Tabs TT H' → Q (.ref rw) H'
section
variable {P : Program} {w : World} {K : PySem.W.Frag} {mg : Str → Option Value} {base : Heap} {C C2 CM : Addr} {Lim : FS → Nat → Prop} {TT : List (Addr × Str)}
theorem ok_FoInit {f : Addr} {fd : FuncData} (F : Fun K "__init__" "Folder.__init__" s_Fo_init f fd) (TFo_ : FoT K mg C2) : FnOk P w K mg base CX0 1 f fd P_Fo_init (spFoInit C2) := by
  refine F.ok sc_Fo_init (fun vs H Q E h => ?_) (fun cdv A outer s H vs Q E hr h => ?_)
  · obtain ⟨g, a, dx, rfl, _⟩ := h
    rfl
  · obtain ⟨g, a, dx, rfl, hg, qq⟩ := h
    refine ⟨_, (pss_cons (ps_fld (pv 0) (pv 1) rfl)
      (pss_one (ps_fld (pv 0) (pe_lst pa_nil) rfl))), ?_⟩
    refine ⟨.ref a, rfl, .ref g, rfl, g, C2, dx, [], rfl, hg, TFo_.cl, TFo_.nF, by show 0 < 1000; decide, ?_⟩
    refine ⟨Nat.zero_le _, fun r nr => ?_⟩
    have nrg : r ≠ g := fun z => by
      rw [z, upd_same] at nr
      cases nr
    refine ⟨.ref g, rfl, g, C2, dx, _, rfl, by rw [upd_ne nrg.symm]; exact upd_same, TFo_.cl, TFo_.nR, by show 1 < 1000; decide, ?_⟩
    rw [upd_ne nrg] at nr
    refine qq _ r upd_same ?_ nr fun b o n hb => ?_
    · rw [upd_ne nrg]
      exact upd_same
    · rw [upd_ne n, upd_ne (ne_of_none hb nr), upd_ne n]
      exact hb
theorem ok_foldDown {f fI fT fG fP : Addr} {fd fdI fdT fdG fdP : FuncData} (LO : LimOk Lim) (D : DefAt K mg "fold_down" s_fold_down P_fold_down f fd) (T : FrT K mg C) (TFo_ : FoT K mg C2) (mkFo_ : Mk K C2 fI) (G_Fo_init : FnOk P w K mg base CX0 1 fI fdI P_Fo_init (spFoInit C2)) (b_Fo_init : Binds K fdI P_Fo_init [])
    (M_Fo_tidy : Meth K C2 "tidy" fT) (G_Fo_tidy : FnOk P w K mg base CX0 8 fT fdT P_Fo_tidy (spTidy C C2 Lim)) (b_Fo_tidy : Binds K fdT P_Fo_tidy []) (M_Fo_go_on : Meth K C2 "go_on" fG) (G_Fo_go_on : FnOk P w K mg base CX0 9 fG fdG P_Fo_go_on (spGoOn C C2 Lim TT)) (b_Fo_go_on : Binds K fdG P_Fo_go_on [])
    (M_top : Meth K C "top" fP) (G_top : FnOk P w K mg base CX0 1 fP fdP P_Ftop (spTop C)) (b_top : Binds K fdP P_Ftop []) (B : Bn mg) : FnOk P w K mg base CX0 10 f fd P_fold_down (spFoldDown C Lim TT) := by
  refine D.F.ok sc_fold_down (fun vs H Q E h => ?_) (fun cdv A outer s H vs Q E hr h => ?_)
  · obtain ⟨a, s, q, X0, rfl, _⟩ := h
    rfl
  · obtain ⟨a, s', q, X0, rfl, fr, wf, kb, hlim, hT, qq⟩ := h
    refine ⟨_, (pss_cons (ps_set (i := 1) sc_fold_down.nd rfl (.inl rfl) (pe_make mkFo_ G_Fo_init (hr.mono (by omega)) (by rfl) TFo_.gC b_Fo_init .nil pass0 (pa_cons (pv 0) pa_nil)))
      (pss_cons (ps_expr (pe_meth (pv 1) TFo_.cl M_Fo_tidy G_Fo_tidy (hr.mono (by omega)) b_Fo_tidy .nil pass0 (pa_cons (pe_callB (call_sortedDI rfl) (by rfl) B.sorted (by decide +kernel) (pa_cons (pe_fld (pv 0) rfl) pa_nil)) pa_nil)))
      (pss_cons (ps_while PassesOwn.never (pt_cmpR op_gt (pe_meth0 (pv 0) T.cl M_top G_top (hr.mono (by omega)) b_top .nil pass0) pe_int (nomark _)) (pss_one (ps_expr (pe_meth0 (pv 1) TFo_.cl M_Fo_go_on G_Fo_go_on (hr.mono (by omega)) b_Fo_go_on .nil pass0))))
      (pss_one (ps_ret (pe_fld (pv 1) rfl)))))), ?_⟩
    refine ⟨.ref a, rfl, fun g dg ng ndg nex => ?_⟩
    have s0 := same_new (C := C2) ng ndg
    have eg0 : (upd (upd H dg (.own g)) g (.ins C2 dg [])) g = some (.ins C2 dg []) := upd_same
    generalize upd (upd H dg (.own g)) g (.ins C2 dg []) = H0 at s0 eg0
    refine ⟨g, a, dg, rfl, eg0, fun H1 rw eg1 er1 nr1 k1 => ⟨rfl, ?_⟩⟩
    have s1 : Same H H1 := Keep.new s0 ng k1
    have fr1 := fr.same s1
    have hT1 := hT.ext s1
    obtain ⟨ps1, fa1, hp1⟩ := id fr1
    obtain ⟨dx1, ea1⟩ := fa1.at_a
    obtain ⟨kvs, es1, st1⟩ := fa1.at_s
    have hlen := wf.len
    have nrq : rw ≠ q := fun z => by
      obtain ⟨_, fa0, _⟩ := fr.same s0
      rw [z, fa0.at_q] at nr1
      cases nr1
    have I1 : FoI C C2 Lim X0 g a s' q rw H1 X0 [] [] := ⟨fr1, ⟨⟨dg, eg1⟩, er1⟩, nrq, wf, kb, rfl, .nil, hlim⟩
    refine ⟨.ref g, rfl, g, dg, _, rfl, eg1, rfl, .ref a, rfl, a, C, dx1, _, .ref s', rfl, ea1, T.cl, T.nS, fr_standing X0.e s' q, s', kvs, X0.S.map (·.1), rfl, .inl es1, st1.keys, by rw [List.length_map]; omega, fun ys p py so np => ?_⟩
    have ey := perm_sorted py so wf.up
    subst ey
    have s2 := same_upd (H := H1) (o := .lst ((X0.S.map (·.1)).map V.int)) np
    refine ⟨X0, g, a, s', q, rw, p, [], [], X0, X0.S.map (·.1), rfl, I1.same s2, upd_same, fun k hk => ?_, by rw [List.length_map]; omega, fun k x hk hn => absurd (List.mem_map.mpr ⟨_, sget_in hk, rfl⟩) hn, fun H3 X3 us3 mos3 I3 o3 e3 L3 al3 tr3 le3 => ?_⟩
    · obtain ⟨z, hz, rfl⟩ := List.mem_map.mp hk
      exact kb z hz
    have hT3 := tabs_offR (hT1.ext s2) (I1.same s2) o3
    have nrH : H rw = none := s0.free nr1
    refine ⟨fun m σ H4 => ∃ (X4 : FS) (us4 : List Addr) (mos4 : List Mo), σ = [some (.ref a), some (.ref g)] ∧ FoI C C2 Lim X0 g a s' q rw H4 X4 us4 mos4 ∧ OffN a s' q rw H1 H4 ∧ LamX.Tabs TT H4 ∧ AllLead X4 [] ∧ (∀ ms Y, RunR X4 ms Y → ∃ m2, RunR X3 m2 Y ∧ mos4 ++ ms = mos3 ++ m2) ∧ m = (mu X4).toNat,
      ⟨_, X3, us3, mos3, rfl, I3, OffN.of_off ((OffR.of_same s2).trans o3), hT3, al3, fun ms Y h => ⟨ms, h, rfl⟩, rfl⟩, ?_⟩
    rintro m σ H4 ⟨X4, us4, mos4, rfl, I4, o4, T4, al4, rel4, rfl⟩
    obtain ⟨ps4, fa4, hp4⟩ := id I4.fr
    obtain ⟨dx4, ea4⟩ := fa4.at_a
    obtain ⟨dg4, eg4⟩ := I4.fo.at_g
    refine ⟨.ref a, rfl, a, dx4, _, rfl, ea4, put_no, a, s', q, X4.e, X4.S, ps4, rfl, fa4, X4.e, 0, rfl, rfl, _, rfl, ite2 (fun c => ?_) (fun c => ?_)⟩
    · have c' : 0 < X4.e := of_decide_eq_true c
      refine ⟨fun σ H5 => ∃ (X5 : FS) (us5 : List Addr) (mos5 : List Mo), σ = [some (.ref a), some (.ref g)] ∧ FoI C C2 Lim X0 g a s' q rw H5 X5 us5 mos5 ∧ OffN a s' q rw H1 H5 ∧ LamX.Tabs TT H5 ∧ AllLead X5 [] ∧ (∀ ms Y, RunR X5 ms Y → ∃ m2, RunR X3 m2 Y ∧ mos5 ++ ms = mos3 ++ m2) ∧ mu X5 < mu X4, fun σ' H5 ⟨X5, us5, mos5, a1, a2, a3, a4, a5, a6, a7⟩ => ⟨(mu X5).toNat, ?_, X5, us5, mos5, a1, a2, a3, a4, a5, a6, rfl⟩, ?_⟩
      · have := mu_0 a2.wf
        omega
      · refine ⟨.ref g, rfl, g, dg4, _, rfl, eg4, rfl, X0, g, a, s', q, rw, us4, mos4, X4, rfl, I4, T4, c', al4, fun H5 X5 us5 dn5 I5 o5 T5 al5 gr5 lt5 => ?_⟩
        exact ⟨X5, us5, mos4 ++ dn5, rfl, I5, o4.trans o5, T5, al5, fun ms Y h => by rw [List.append_assoc]; exact rel4 _ _ (.go c' gr5 h), lt5⟩
    · have c' : ¬ 0 < X4.e := fun z => c (decide_eq_true z)
      have e0 := I4.wf.e0
      refine ⟨.ref g, rfl, g, C2, dg4, _, .ref rw, rfl, eg4, TFo_.cl, TFo_.nR, rfl, ?_⟩
      obtain ⟨m2, hr2, em2⟩ := rel4 [] X4 (.stop c')
      rw [List.append_nil] at em2
      exact qq H4 rw us4 mos4 X4 I4.fr (by omega) I4.wf (I4.ln LO) I4.run ⟨mos3, m2, X3, tr3, hr2, em2⟩ I4.fo.at_r nrH I4.mv (LO.row I4.wf I4.lim) (fun b o hb n1 n2 n3 n4 => o4 b o (s1 _ _ hb) n1 n2 n3 (ne_of_none hb nrH) n4) T4
end

/-! ### sums over places -/
/-- the sum of f over the n places from b on -/
def sumI (f : Int → Int) (b : Int) : Nat → Int
  | 0 => 0
  | n + 1 => sumI f b n + f (b + n)
theorem sumI_congr {f g : Int → Int} {b : Int} : ∀ {n : Nat}, (∀ p, b ≤ p → p < b + n → f p = g p) → sumI f b n = sumI g b n
  | 0, _ => rfl
  | n + 1, h => by
    show sumI f b n + f (b + n) = sumI g b n + g (b + n)
    rw [sumI_congr (n := n) fun p h1 h2 => h p h1 (by omega), h (b + n) (by omega) (by omega)]
theorem sumI_add (f g : Int → Int) (b : Int) : ∀ n : Nat, sumI (fun p => f p + g p) b n = sumI f b n + sumI g b n
  | 0 => rfl
  | n + 1 => by
    show sumI (fun p => f p + g p) b n + (f (b + n) + g (b + n)) = sumI f b n + f (b + n) + (sumI g b n + g (b + n))
    rw [sumI_add f g b n]
    omega
theorem sumI_mul (c : Int) (f : Int → Int) (b : Int) : ∀ n : Nat, sumI (fun p => c * f p) b n = c * sumI f b n
  | 0 => by show 0 = c * 0; omega
  | n + 1 => by
    show sumI (fun p => c * f p) b n + c * f (b + n) = c * (sumI f b n + f (b + n))
    rw [sumI_mul c f b n, Int.mul_add]
theorem sumI_zero (b : Int) (n : Nat) {f : Int → Int} (h : ∀ p, b ≤ p → p < b + n → f p = 0) : sumI f b n = 0 := by
  rw [sumI_congr (g := fun _ => (0 : Int) * 0) h, sumI_mul]
  omega
theorem sumI_split (f : Int → Int) (b : Int) (n : Nat) : ∀ m : Nat, sumI f b (n + m) = sumI f b n + sumI f (b + n) m
  | 0 => by show _ = _ + 0; rw [Nat.add_zero]; omega
  | m + 1 => by
    show sumI f b (n + m) + f (b + ((n + m : Nat) : Int)) = sumI f b n + (sumI f (b + n) m + f (b + n + m))
    rw [sumI_split f b n m, show b + ((n + m : Nat) : Int) = b + n + m by omega]
    omega
theorem sumI_swap (f : Int → Int → Int) (b : Int) (n : Nat) (c : Int) : ∀ m : Nat, sumI (fun p => sumI (f p) c m) b n = sumI (fun q => sumI (fun p => f p q) b n) c m
  | 0 => sumI_zero b n fun _ _ _ => rfl
  | m + 1 => by
    show sumI (fun p => sumI (f p) c m + f p (c + m)) b n = sumI (fun q => sumI (fun p => f p q) b n) c m + sumI (fun p => f p (c + m)) b n
    rw [sumI_add, sumI_swap f b n c m]
theorem sumI_nonneg {f : Int → Int} {b : Int} : ∀ {n : Nat}, (∀ p, b ≤ p → p < b + n → 0 ≤ f p) → 0 ≤ sumI f b n
  | 0, _ => Int.le_refl 0
  | n + 1, h => by
    have a := sumI_nonneg (n := n) fun p h1 h2 => h p h1 (by omega)
    have b' := h (b + n) (by omega) (by omega)
    show 0 ≤ sumI f b n + f (b + n)
    omega
theorem sumI_ge {f : Int → Int} {b : Int} {n : Nat} {q : Int} (h : ∀ p, b ≤ p → p < b + n → 0 ≤ f p) (h1 : b ≤ q) (h2 : q < b + n) : f q ≤ sumI f b n := by
  induction n with
  | zero => omega
  | succ n ih =>
    show f q ≤ sumI f b n + f (b + n)
    by_cases c : q = b + n
    · have := sumI_nonneg (n := n) fun p h1 h2 => h p h1 (by omega)
      rw [c]
      omega
    · have := ih (fun p a1 a2 => h p a1 (by omega)) (by omega)
      have := h (b + n) (by omega) (by omega)
      omega
/-- a sum with one place in it -/
theorem sumI_one {f : Int → Int} {b : Int} {n : Nat} {q : Int} (h1 : b ≤ q) (h2 : q < b + n) (h : ∀ p, b ≤ p → p < b + n → p ≠ q → f p = 0) : sumI f b n = f q := by
  induction n with
  | zero => omega
  | succ n ih =>
    show sumI f b n + f (b + n) = f q
    by_cases c : q = b + n
    · rw [sumI_zero b n fun p a1 a2 => h p a1 (by omega) (by omega), c]
      omega
    · rw [ih (by omega) fun p a1 a2 a3 => h p a1 (by omega) a3, h (b + n) (by omega) (by omega) (by omega)]
      omega
/-- the sum of a part is the whole's where nothing else weighs -/
theorem sumI_part {f : Int → Int} {b c : Int} {n m : Nat} (h1 : b ≤ c) (h2 : c + m ≤ b + n) (h : ∀ p, b ≤ p → p < b + n → (p < c ∨ c + m ≤ p) → f p = 0) : sumI f b n = sumI f c m := by
  obtain ⟨k, hk⟩ := Int.eq_ofNat_of_zero_le (show 0 ≤ c - b by omega)
  obtain ⟨j, hj⟩ := Int.eq_ofNat_of_zero_le (show 0 ≤ b + n - (c + m) by omega)
  have hk' : c - b = (k : Int) := hk
  have hj' : b + n - (c + m) = (j : Int) := hj
  have e : n = k + m + j := by omega
  rw [e, sumI_split, sumI_split, show b + (k : Int) = c by omega, show b + ((k + m : Nat) : Int) = c + m by omega]
  rw [sumI_zero b k fun p a1 a2 => h p a1 (by omega) (.inl (by omega)), sumI_zero (c + m) j fun p a1 a2 => h p (by omega) (by omega) (.inr a1)]
  omega
/-! ### weights told by marks, and by pieces -/
abbrev Pc := Int × Int × Int
def inP (c : Pc) (p : Int) : Int := if c.1 ≤ p ∧ p < c.2.1 then c.2.2 else 0
def pw (l : List Pc) (p : Int) : Int := (l.map fun c => inP c p).sum
def mw (l : List (Int × Int)) (p : Int) : Int := (l.map fun k => if k.1 ≤ p then k.2 else 0).sum
def tot (l : List (Int × Int)) : Int := (l.map fun k => k.2).sum
theorem pw_nil (p : Int) : pw [] p = 0 := rfl
theorem pw_cons (c : Pc) (l : List Pc) (p : Int) : pw (c :: l) p = inP c p + pw l p := rfl
theorem pw_append (l k : List Pc) (p : Int) : pw (l ++ k) p = pw l p + pw k p := by
  unfold pw
  rw [List.map_append, List.sum_append]
theorem pw_one (c : Pc) (p : Int) : pw [c] p = inP c p := by
  rw [pw_cons, pw_nil]
  omega
theorem pw_reverse (l : List Pc) (p : Int) : pw l.reverse p = pw l p := by
  induction l with
  | nil => rfl
  | cons c r ih =>
    rw [List.reverse_cons, pw_append, pw_one, pw_cons, ih]
    omega
theorem mw_tot {l : List (Int × Int)} {p : Int} (h : ∀ k ∈ l, k.1 ≤ p) : mw l p = tot l := by
  unfold mw tot
  congr 1
  exact List.map_congr_left fun k hk => if_pos (h k hk)
/-! ### where events lead a place -/
def evStep : Ev → Int → Int
  | .bare _ _, x => x
  | .fold m e lo st f, x => if m ≤ x ∧ x < e then evTo e lo st f x else x
def dnL : List Ev → Int → Int
  | [], x => x
  | v :: r, x => dnL r (evStep v x)
theorem dnL_snoc (v : Ev) : ∀ (l : List Ev) (x : Int), dnL (l ++ [v]) x = evStep v (dnL l x)
  | [], _ => rfl
  | w :: r, x => dnL_snoc v r (evStep w x)
/-- the events from the top n down to t -/
def ChF (R : Int → Int → Prop) (n : Int) : List Ev → Int → Prop
  | [], t => n = t
  | v :: r, t => evE v = n ∧ evM v ≤ n ∧ Good R v ∧ ChF R (evM v) r t
theorem ChF.snoc {R : Int → Int → Prop} {v : Ev} : ∀ {l : List Ev} {n t : Int}, ChF R n l t → evE v = t → evM v ≤ t → Good R v → ChF R n (l ++ [v]) (evM v)
  | [], n, t, h, h1, h2, h3 => by
    have h : n = t := h
    exact ⟨by rw [h1, h], by rw [h]; exact h2, h3, rfl⟩
  | w :: r, n, t, ⟨a1, a2, a3, a4⟩, h1, h2, h3 => ⟨a1, a2, a3, ChF.snoc a4 h1 h2 h3⟩
theorem ChF.of {R : Int → Int → Prop} {n : Int} : ∀ {l : List Ev} {t : Int}, Chn R n t l → ChF R n l.reverse t
  | [], t, h => Eq.symm h
  | v :: r, t, ⟨h1, h2, h3, h4⟩ => by
    rw [List.reverse_cons, ← h1]
    exact (ChF.of h4).snoc rfl (by rw [h1]; exact h2) h3
theorem Good.m0 {R : Int → Int → Prop} : ∀ {v : Ev}, Good R v → 0 ≤ evM v
  | .bare _ _, h => h.1
  | .fold _ _ _ _ _, h => h.2.1
theorem ChF.le {R : Int → Int → Prop} : ∀ {l : List Ev} {n t : Int}, ChF R n l t → t ≤ n
  | [], n, t, h => by have h : n = t := h; omega
  | v :: r, n, t, ⟨h1, h2, h3, h4⟩ => by have := h4.le; omega
/-- what stands above stays -/
theorem ChF.above {R : Int → Int → Prop} {x : Int} : ∀ {l : List Ev} {n t : Int}, ChF R n l t → n ≤ x → dnL l x = x
  | [], _, _, _, _ => rfl
  | v :: r, n, t, ⟨h1, h2, h3, h4⟩, hx => by
    have e : evStep v x = x := by
      cases v with
      | bare m e => rfl
      | fold m e lo st f =>
        show (if m ≤ x ∧ x < e then _ else x) = x
        have h1 : e = n := h1
        rw [if_neg (by omega)]
    show dnL r (evStep v x) = x
    rw [e]
    exact h4.above (by omega)
/-- a place comes to the least of its family -/
theorem ChF.least {R : Int → Int → Prop} : ∀ {l : List Ev} {n : Int}, ChF R n l 0 → ∀ x, 0 ≤ x → x < n → 0 ≤ dnL l x ∧ dnL l x ≤ x ∧ Fam R (dnL l x) x ∧ ∀ q, 0 ≤ q → Fam R x q → dnL l x ≤ q
  | [], n, h, x, h0, h1 => by have h : n = 0 := h; omega
  | v :: r, n, ⟨e1, e2, g, c⟩, x, h0, h1 => by
    show 0 ≤ dnL r (evStep v x) ∧ _
    cases v with
    | bare m e =>
      have e1 : e = n := e1
      show 0 ≤ dnL r x ∧ dnL r x ≤ x ∧ Fam R (dnL r x) x ∧ ∀ q, 0 ≤ q → Fam R x q → dnL r x ≤ q
      by_cases k : m ≤ x
      · have c : ChF R m r 0 := c
        rw [c.above k]
        exact ⟨h0, Int.le_refl _, .refl, fun q q0 f => g.2 x k (by omega) q q0 f⟩
      · exact c.least x h0 (by show x < m; omega)
    | fold m e lo st f =>
      have e1 : e = n := e1
      have c : ChF R m r 0 := c
      by_cases k : m ≤ x
      · have es : evStep (.fold m e lo st f) x = evTo e lo st f x := if_pos ⟨k, by omega⟩
        obtain ⟨t0, t1, t2⟩ := g.2.2 x k (by omega)
        obtain ⟨a1, a2, a3, a4⟩ := c.least (evTo e lo st f x) t0 t1
        show 0 ≤ dnL r (evStep (.fold m e lo st f) x) ∧ dnL r (evStep (.fold m e lo st f) x) ≤ x ∧ Fam R (dnL r (evStep (.fold m e lo st f) x)) x ∧ ∀ q, 0 ≤ q → Fam R x q → dnL r (evStep (.fold m e lo st f) x) ≤ q
        rw [es]
        exact ⟨a1, by omega, a3.trans t2, fun q q0 z => a4 q q0 (t2.trans z)⟩
      · have es : evStep (.fold m e lo st f) x = x := if_neg (by omega)
        show 0 ≤ dnL r (evStep (.fold m e lo st f) x) ∧ dnL r (evStep (.fold m e lo st f) x) ≤ x ∧ Fam R (dnL r (evStep (.fold m e lo st f) x)) x ∧ ∀ q, 0 ≤ q → Fam R x q → dnL r (evStep (.fold m e lo st f) x) ≤ q
        rw [es]
        exact c.least x h0 (by omega)
/-! ### how many places come to a place -/
def hit (l : List Ev) (p x : Int) : Int := if dnL l x = p then 1 else 0
/-- of the k places from b on -/
def wtL (l : List Ev) (b : Int) (k : Nat) (p : Int) : Int := sumI (hit l p) b k
theorem wtL_nil (b : Int) (k : Nat) (p : Int) : wtL [] b k p = if b ≤ p ∧ p < b + k then 1 else 0 := by
  unfold wtL
  by_cases c : b ≤ p ∧ p < b + k
  · rw [if_pos c, sumI_one (f := hit [] p) (q := p) c.1 c.2 fun q _ _ n => if_neg n]
    exact if_pos rfl
  · rw [if_neg c]
    exact sumI_zero b k fun q h1 h2 => if_neg fun z => c (by have z : q = p := z; omega)
theorem wtL_bare (l : List Ev) (b : Int) (k : Nat) (m e p : Int) : wtL (l ++ [.bare m e]) b k p = wtL l b k p := by
  unfold wtL
  refine sumI_congr fun x _ _ => ?_
  unfold hit
  rw [dnL_snoc]
  rfl
/-- a fold leads what lies above its place on -/
theorem wtL_fold {R : Int → Int → Prop} {l : List Ev} {b : Int} {k : Nat} {m e lo st f p : Int} (g : Good R (.fold m e lo st f)) (hm : m ≤ e) :
    wtL (l ++ [.fold m e lo st f]) b k p = (if m ≤ p ∧ p < e then 0 else wtL l b k p) + sumI (fun y => wtL l b k y * (if evTo e lo st f y = p then 1 else 0)) m (e - m).toNat := by
  have step : ∀ x, hit (l ++ [.fold m e lo st f]) p x = (if m ≤ p ∧ p < e then 0 else hit l p x) + sumI (fun y => hit l y x * (if evTo e lo st f y = p then 1 else 0)) m (e - m).toNat := fun x => by
    have top : hit (l ++ [.fold m e lo st f]) p x = if evStep (.fold m e lo st f) (dnL l x) = p then 1 else 0 := by
      unfold hit
      rw [dnL_snoc]
    rw [top]
    generalize hy : dnL l x = y
    have hh : ∀ q, hit l q x = if y = q then 1 else 0 := fun q => by
      unfold hit
      rw [hy]
    by_cases c : m ≤ y ∧ y < e
    · have es : evStep (.fold m e lo st f) y = evTo e lo st f y := if_pos c
      rw [es, sumI_one (q := y) c.1 (by omega) (fun q _ _ n => by rw [hh, if_neg (fun z => n z.symm)]; omega), hh, hh, if_pos rfl]
      obtain ⟨_, t1, _⟩ := g.2.2 y c.1 c.2
      by_cases z : y = p
      · rw [if_pos (show m ≤ p ∧ p < e by omega)]
        omega
      · rw [if_neg z]
        split <;> omega
    · have es : evStep (.fold m e lo st f) y = y := if_neg c
      rw [es, sumI_zero m _ (fun q h1 h2 => by rw [hh, if_neg (fun z => c (by omega))]; omega), hh]
      by_cases z : y = p
      · rw [if_neg (show ¬ (m ≤ p ∧ p < e) by omega)]
        omega
      · rw [if_neg z]
        split <;> omega
  have e1 : wtL (l ++ [.fold m e lo st f]) b k p = sumI (fun x => (if m ≤ p ∧ p < e then 0 else hit l p x) + sumI (fun y => hit l y x * (if evTo e lo st f y = p then 1 else 0)) m (e - m).toNat) b k := sumI_congr fun x _ _ => step x
  rw [e1, sumI_add, sumI_swap]
  congr 1
  · by_cases c : m ≤ p ∧ p < e
    · simp only [if_pos c]
      exact sumI_zero b k fun _ _ _ => rfl
    · simp only [if_neg c]
      rfl
  · refine sumI_congr fun y _ _ => ?_
    show sumI (fun x => hit l y x * (if evTo e lo st f y = p then 1 else 0)) b k = wtL l b k y * (if evTo e lo st f y = p then 1 else 0)
    rw [Int.mul_comm, show wtL l b k y = sumI (hit l y) b k from rfl, ← sumI_mul]
    exact sumI_congr fun x _ _ => Int.mul_comm _ _
/-- pieces led on, each place by itself -/
theorem pw_led {to : Int → Int} {m e p : Int} : ∀ {l : List Pc}, (∀ c ∈ l, m ≤ c.1 ∧ c.1 ≤ c.2.1 ∧ c.2.1 ≤ e) → sumI (fun y => pw l y * (if to y = p then 1 else 0)) m (e - m).toNat = (l.map fun c => c.2.2 * sumI (fun y => if to y = p then 1 else 0) c.1 (c.2.1 - c.1).toNat).sum
  | [], _ => sumI_zero m _ fun y _ _ => by rw [pw_nil]; omega
  | c :: l, h => by
    have hc := h c List.mem_cons_self
    rw [sumI_congr (g := fun y => inP c y * (if to y = p then 1 else 0) + pw l y * (if to y = p then 1 else 0)) fun y _ _ => by rw [pw_cons, Int.add_mul], sumI_add, pw_led fun c hc => h c (List.mem_cons_of_mem _ hc)]
    rw [List.map_cons, List.sum_cons, ← sumI_mul]
    congr 1
    rw [sumI_part (c := c.1) (m := (c.2.1 - c.1).toNat) hc.1 (by omega) fun y h1 h2 z => by unfold inP; rw [if_neg (by omega)]; omega]
    refine sumI_congr fun y h1 h2 => ?_
    show inP c y * _ = c.2.2 * _
    unfold inP
    rw [if_pos ⟨h1, by omega⟩]

/-! ### pieces led by a fold -/
theorem div_mod_is {a b q r : Int} (hb : 0 < b) (h : b * q + r = a) (h0 : 0 ≤ r) (h1 : r < b) : a / b = q ∧ a % b = r := (Int.ediv_emod_unique hb).mpr ⟨by omega, h0, h1⟩
theorem turned_sum {lo e p b : Int} (n : Nat) : sumI (fun y => if lo + e - 1 - y = p then 1 else 0) b n = if lo + e - (b + n) ≤ p ∧ p < lo + e - b then 1 else 0 := by
  induction n with
  | zero =>
    rw [if_neg (by omega)]
    rfl
  | succ n ih =>
    show sumI _ b n + (if lo + e - 1 - (b + n) = p then 1 else 0) = _
    rw [ih]
    by_cases c : lo + e - 1 - (b + n) = p
    · rw [if_pos c, if_neg (by omega), if_pos (by omega)]
      rfl
    · rw [if_neg c]
      by_cases d : lo + e - (b + n) ≤ p ∧ p < lo + e - b
      · rw [if_pos d, if_pos (by omega)]
        rfl
      · rw [if_neg d, if_neg (by omega)]
        rfl
/-- the three pieces to which one comes -/
def wnd (low step : Int) (c : Pc) : List Pc :=
  [(low, low + step, (c.2.1 - c.1) / step * c.2.2),
   (low + (c.1 - low) % step, (if low + step < low + (c.1 - low) % step + (c.2.1 - c.1) % step then low + step else low + (c.1 - low) % step + (c.2.1 - c.1) % step), c.2.2),
   (low, low + (if low + (c.1 - low) % step + (c.2.1 - c.1) % step - (low + step) > 0 then low + (c.1 - low) % step + (c.2.1 - c.1) % step - (low + step) else 0), c.2.2)]
theorem wound_sum {low s b p : Int} (hs : 0 < s) : ∀ n : Nat, sumI (fun y => if low + (y - low) % s = p then 1 else 0) b n
    = (n : Int) / s * (if low ≤ p ∧ p < low + s then 1 else 0) + (if low + (b - low) % s ≤ p ∧ p < (if low + s < low + (b - low) % s + (n : Int) % s then low + s else low + (b - low) % s + (n : Int) % s) then 1 else 0)
      + (if low ≤ p ∧ p < low + (if low + (b - low) % s + (n : Int) % s - (low + s) > 0 then low + (b - low) % s + (n : Int) % s - (low + s) else 0) then 1 else 0)
  | 0 => by
    have r0 := Int.emod_nonneg (b - low) (show s ≠ 0 by omega)
    have r1 := Int.emod_lt_of_pos (b - low) hs
    rw [show ((0 : Nat) : Int) / s = 0 from Int.zero_ediv s, show ((0 : Nat) : Int) % s = 0 from Int.zero_emod s]
    generalize (b - low) % s = r at r0 r1
    rw [if_neg (show ¬ (low + s < low + r + 0) by omega), if_neg (show ¬ (low + r + 0 - (low + s) > 0) by omega), if_neg (show ¬ (low + r ≤ p ∧ p < low + r + 0) by omega), if_neg (show ¬ (low ≤ p ∧ p < low + 0) by omega)]
    show 0 = _
    omega
  | n + 1 => by
    have r0 := Int.emod_nonneg (b - low) (show s ≠ 0 by omega)
    have r1 := Int.emod_lt_of_pos (b - low) hs
    have q0 := Int.emod_nonneg (n : Int) (show s ≠ 0 by omega)
    have q1 := Int.emod_lt_of_pos (n : Int) hs
    have er := Int.mul_ediv_add_emod (b - low) s
    have eq := Int.mul_ediv_add_emod (n : Int) s
    show sumI _ b n + (if low + (b + n - low) % s = p then 1 else 0) = _
    rw [wound_sum hs n]
    -- the next place's rest
    have nx : (b + n - low) % s = if (b - low) % s + (n : Int) % s < s then (b - low) % s + (n : Int) % s else (b - low) % s + (n : Int) % s - s := by
      split
      · exact (div_mod_is (q := (b - low) / s + (n : Int) / s) hs (by rw [Int.mul_add]; omega) (by omega) (by omega)).2
      · exact (div_mod_is (q := (b - low) / s + (n : Int) / s + 1) hs (by rw [Int.mul_add, Int.mul_add]; omega) (by omega) (by omega)).2
    rw [nx]
    by_cases c : (n : Int) % s + 1 < s
    · obtain ⟨d1, d2⟩ := div_mod_is (a := ((n + 1 : Nat) : Int)) (q := (n : Int) / s) (r := (n : Int) % s + 1) hs (by omega) (by omega) c
      rw [d1, d2]
      generalize (b - low) % s = r at *
      generalize (n : Int) % s = k at *
      generalize (n : Int) / s * _ = z
      by_cases e : r + k < s
      · rw [if_pos e, if_neg (show ¬ (low + s < low + r + k) by omega), if_neg (show ¬ (low + s < low + r + (k + 1)) by omega), if_neg (show ¬ (low + r + k - (low + s) > 0) by omega), if_neg (show ¬ (low + r + (k + 1) - (low + s) > 0) by omega)]
        by_cases f : low + (r + k) = p
        · rw [if_pos f, if_neg (show ¬ (low + r ≤ p ∧ p < low + r + k) by omega), if_pos (show low + r ≤ p ∧ p < low + r + (k + 1) by omega)]
          omega
        · rw [if_neg f]
          by_cases g : low + r ≤ p ∧ p < low + r + k
          · rw [if_pos g, if_pos (show low + r ≤ p ∧ p < low + r + (k + 1) by omega)]
            omega
          · rw [if_neg g, if_neg (show ¬ (low + r ≤ p ∧ p < low + r + (k + 1)) by omega)]
            omega
      · rw [if_neg e]
        have z1 : (if low + s < low + r + k then low + s else low + r + k) = low + s := by split <;> omega
        have z2 : (if low + s < low + r + (k + 1) then low + s else low + r + (k + 1)) = low + s := by split <;> omega
        have z3 : (if low + r + k - (low + s) > 0 then low + r + k - (low + s) else 0) = r + k - s := by split <;> omega
        have z4 : (if low + r + (k + 1) - (low + s) > 0 then low + r + (k + 1) - (low + s) else 0) = r + k - s + 1 := by split <;> omega
        rw [z1, z2, z3, z4]
        by_cases f : low + (r + k - s) = p
        · rw [if_pos f, if_neg (show ¬ (low ≤ p ∧ p < low + (r + k - s)) by omega), if_pos (show low ≤ p ∧ p < low + (r + k - s + 1) by omega)]
          omega
        · rw [if_neg f]
          by_cases g : low ≤ p ∧ p < low + (r + k - s)
          · rw [if_pos g, if_pos (show low ≤ p ∧ p < low + (r + k - s + 1) by omega)]
            omega
          · rw [if_neg g, if_neg (show ¬ (low ≤ p ∧ p < low + (r + k - s + 1)) by omega)]
            omega
    · obtain ⟨d1, d2⟩ := div_mod_is (a := ((n + 1 : Nat) : Int)) (q := (n : Int) / s + 1) (r := 0) hs (by rw [Int.mul_add]; omega) (by omega) (by omega)
      rw [d1, d2, Int.add_mul]
      generalize (b - low) % s = r at *
      generalize (n : Int) % s = k at *
      generalize (n : Int) / s * _ = z
      have k1 : k = s - 1 := by omega
      subst k1
      rw [if_neg (show ¬ (low + s < low + r + 0) by omega), if_neg (show ¬ (low + r + 0 - (low + s) > 0) by omega), if_neg (show ¬ (low + r ≤ p ∧ p < low + r + 0) by omega), if_neg (show ¬ (low ≤ p ∧ p < low + 0) by omega)]
      by_cases e : r + (s - 1) < s
      · have : r = 0 := by omega
        subst this
        rw [if_pos e, if_neg (show ¬ (low + s < low + 0 + (s - 1)) by omega), if_neg (show ¬ (low + 0 + (s - 1) - (low + s) > 0) by omega)]
        by_cases f : low ≤ p ∧ p < low + s
        · rw [if_pos f]
          by_cases g : low + (0 + (s - 1)) = p
          · rw [if_pos g, if_neg (by omega), if_neg (by omega)]
            omega
          · rw [if_neg g, if_pos (by omega), if_neg (by omega)]
            omega
        · rw [if_neg f, if_neg (by omega), if_neg (by omega), if_neg (by omega)]
          omega
      · rw [if_neg e]
        have z1 : (if low + s < low + r + (s - 1) then low + s else low + r + (s - 1)) = low + s := by split <;> omega
        have z3 : (if low + r + (s - 1) - (low + s) > 0 then low + r + (s - 1) - (low + s) else 0) = r - 1 := by split <;> omega
        rw [z1, z3]
        by_cases f : low ≤ p ∧ p < low + s
        · rw [if_pos f]
          by_cases g : low + (r + (s - 1) - s) = p
          · rw [if_pos g, if_neg (show ¬ (low + r ≤ p ∧ p < low + s) by omega), if_neg (show ¬ (low ≤ p ∧ p < low + (r - 1)) by omega)]
            omega
          · rw [if_neg g]
            by_cases h : low + r ≤ p
            · rw [if_pos (show low + r ≤ p ∧ p < low + s by omega), if_neg (show ¬ (low ≤ p ∧ p < low + (r - 1)) by omega)]
              omega
            · rw [if_neg (show ¬ (low + r ≤ p ∧ p < low + s) by omega), if_pos (show low ≤ p ∧ p < low + (r - 1) by omega)]
              omega
        · rw [if_neg f, if_neg (show ¬ (low + r ≤ p ∧ p < low + s) by omega), if_neg (show ¬ (low ≤ p ∧ p < low + (r - 1)) by omega), if_neg (show ¬ (low + (r + (s - 1) - s) = p) by omega)]
          omega
/-- where a fold leads a piece -/
def ledP (e lo st f : Int) (c : Pc) : List Pc := if f = 1 then [(lo + e - c.2.1, lo + e - c.1, c.2.2)] else wnd lo st c
theorem mul_ite {c : Int} {P : Prop} [Decidable P] : c * (if P then 1 else 0) = if P then c else 0 := by
  split <;> omega
theorem ledP_pw {e lo st f p : Int} {c : Pc} (hs : f = 1 ∨ 1 ≤ st) (h : c.1 ≤ c.2.1) : pw (ledP e lo st f c) p = c.2.2 * sumI (fun y => if evTo e lo st f y = p then 1 else 0) c.1 (c.2.1 - c.1).toNat := by
  have hn : (((c.2.1 - c.1).toNat : Nat) : Int) = c.2.1 - c.1 := by omega
  unfold ledP evTo
  by_cases k : f = 1
  · simp only [if_pos k]
    rw [turned_sum, hn, pw_one, mul_ite]
    unfold inP
    show (if lo + e - c.2.1 ≤ p ∧ p < lo + e - c.1 then _ else _) = _
    rw [show c.1 + (c.2.1 - c.1) = c.2.1 by omega]
  · simp only [if_neg k]
    have st1 : (if st > 1 then st else 1) = st := by split <;> omega
    rw [st1, wound_sum (by omega), hn]
    unfold wnd
    rw [pw_cons, pw_cons, pw_one, Int.mul_add, Int.mul_add, ← Int.mul_assoc, mul_ite, mul_ite, mul_ite]
    unfold inP
    rw [Int.mul_comm c.2.2]
    exact (Int.add_assoc _ _ _).symm

/-! ### marks: a list of pairs, each key once -/
abbrev Mks := List (Int × Int)
def mS (φ : Int → Int) (D : Mks) : Int := (D.map fun k => φ k.1 * k.2).sum
def mval (D : Mks) (k : Int) : Option Int := (D.find? fun kv => decide (kv.1 = k)).map (·.2)
def mdrop (D : Mks) (k : Int) : Mks := D.filter fun kv => decide (kv.1 ≠ k)
def mput (D : Mks) (k v : Int) : Mks := if (D.any fun kv => decide (kv.1 = k)) = true then D.map (fun kv => if kv.1 = k then (kv.1, v) else kv) else D ++ [(k, v)]
abbrev mkeys (D : Mks) : List Int := D.map (·.1)
theorem mS_cons (φ : Int → Int) (k : Int × Int) (D : Mks) : mS φ (k :: D) = φ k.1 * k.2 + mS φ D := rfl
theorem mS_append (φ : Int → Int) (D E : Mks) : mS φ (D ++ E) = mS φ D + mS φ E := by
  unfold mS
  rw [List.map_append, List.sum_append]
theorem mw_mS (D : Mks) (p : Int) : mw D p = mS (fun k => if k ≤ p then 1 else 0) D := by
  unfold mw mS
  congr 1
  exact List.map_congr_left fun k _ => by show _ = (if k.1 ≤ p then 1 else 0) * k.2; split <;> omega
theorem tot_mS (D : Mks) : tot D = mS (fun _ => 1) D := by
  unfold tot mS
  congr 1
  exact List.map_congr_left fun k _ => by show _ = 1 * k.2; omega
theorem mval_in {D : Mks} {k : Int} (h : k ∈ mkeys D) : ∃ v, mval D k = some v := by
  cases e : mval D k with
  | some v => exact ⟨v, rfl⟩
  | none =>
    obtain ⟨x, hx, rfl⟩ := List.mem_map.mp h
    have := List.find?_eq_none.mp (Option.map_eq_none_iff.mp e) x hx
    simp at this
theorem mdrop_not {D : Mks} {k : Int} (h : k ∉ mkeys D) : mdrop D k = D := List.filter_eq_self.mpr fun x hx => decide_eq_true fun z => h (List.mem_map.mpr ⟨x, hx, z⟩)
theorem mS_drop {φ : Int → Int} {k : Int} : ∀ {D : Mks}, (mkeys D).Nodup → mS φ (mdrop D k) = mS φ D - φ k * (mval D k).getD 0
  | [], _ => by
    show 0 = 0 - φ k * 0
    omega
  | x :: D, h => by
    obtain ⟨h1, h2⟩ := List.nodup_cons.mp (show (x.1 :: mkeys D).Nodup from h)
    by_cases c : x.1 = k
    · have e1 : mdrop (x :: D) k = D := by
        unfold mdrop
        rw [List.filter_cons_of_neg (by simpa using c)]
        exact mdrop_not (by rw [← c]; exact h1)
      have e2 : mval (x :: D) k = some x.2 := by
        unfold mval
        rw [List.find?_cons_of_pos (by simpa using c)]
        rfl
      rw [e1, e2, mS_cons, ← c]
      show _ = _ - φ x.1 * x.2
      omega
    · have e1 : mdrop (x :: D) k = x :: mdrop D k := by
        unfold mdrop
        rw [List.filter_cons_of_pos (by simpa using c)]
      have e2 : mval (x :: D) k = mval D k := by
        unfold mval
        rw [List.find?_cons_of_neg (by simpa using c)]
      rw [e1, e2, mS_cons, mS_cons, mS_drop h2]
      omega
theorem any_keys {D : Mks} {k : Int} : (D.any fun kv => decide (kv.1 = k)) = true ↔ k ∈ mkeys D := by
  rw [List.any_eq_true]
  constructor
  · rintro ⟨x, hx, e⟩
    exact List.mem_map.mpr ⟨x, hx, of_decide_eq_true e⟩
  · intro h
    obtain ⟨x, hx, e⟩ := List.mem_map.mp h
    exact ⟨x, hx, decide_eq_true e⟩
theorem mput_keys_in {D : Mks} {k v : Int} (h : k ∈ mkeys D) : mkeys (mput D k v) = mkeys D := by
  unfold mput
  rw [if_pos (any_keys.mpr h)]
  unfold mkeys
  rw [List.map_map]
  refine List.map_congr_left fun x _ => ?_
  show (if x.1 = k then (x.1, v) else x).1 = x.1
  split <;> rfl
theorem mput_new {D : Mks} {k v : Int} (h : k ∉ mkeys D) : mput D k v = D ++ [(k, v)] := by
  unfold mput
  rw [if_neg fun z => h (any_keys.mp z)]
theorem mS_map {φ : Int → Int} {k v : Int} : ∀ {D : Mks}, (mkeys D).Nodup → k ∈ mkeys D → mS φ (D.map fun kv => if kv.1 = k then (kv.1, v) else kv) = mS φ (mdrop D k) + φ k * v
  | x :: D, h, hk => by
    obtain ⟨h1, h2⟩ := List.nodup_cons.mp (show (x.1 :: mkeys D).Nodup from h)
    rw [List.map_cons, mS_cons]
    by_cases c : x.1 = k
    · have e1 : mdrop (x :: D) k = D := by
        unfold mdrop
        rw [List.filter_cons_of_neg (by simpa using c)]
        exact mdrop_not (by rw [← c]; exact h1)
      have e2 : (D.map fun kv => if kv.1 = k then (kv.1, v) else kv) = D := by
        refine (List.map_congr_left fun y hy => ?_).trans (List.map_id D)
        show _ = y
        rw [if_neg fun z => h1 (List.mem_map.mpr ⟨y, hy, by rw [z, c]⟩)]
      rw [e1, e2, if_pos c, ← c]
      show φ x.1 * v + _ = _
      omega
    · have e1 : mdrop (x :: D) k = x :: mdrop D k := by
        unfold mdrop
        rw [List.filter_cons_of_pos (by simpa using c)]
      rcases List.mem_cons.mp (show k ∈ x.1 :: mkeys D from hk) with z | z
      · exact absurd z.symm c
      · rw [e1, mS_map h2 z, if_neg c, mS_cons]
        omega
theorem mS_put {φ : Int → Int} {D : Mks} {k v : Int} (h : (mkeys D).Nodup) : mS φ (mput D k v) = mS φ (mdrop D k) + φ k * v := by
  by_cases c : k ∈ mkeys D
  · unfold mput
    rw [if_pos (any_keys.mpr c)]
    exact mS_map h c
  · rw [mput_new c, mdrop_not c, mS_append]
    show _ + (φ k * v + 0) = _
    omega
theorem mdrop_keys {D : Mks} {k x : Int} : x ∈ mkeys (mdrop D k) ↔ x ∈ mkeys D ∧ x ≠ k := by
  constructor
  · intro h
    obtain ⟨y, hy, rfl⟩ := List.mem_map.mp h
    obtain ⟨h1, h2⟩ := List.mem_filter.mp hy
    exact ⟨List.mem_map.mpr ⟨y, h1, rfl⟩, of_decide_eq_true h2⟩
  · rintro ⟨h, n⟩
    obtain ⟨y, hy, rfl⟩ := List.mem_map.mp h
    exact List.mem_map.mpr ⟨y, List.mem_filter.mpr ⟨hy, decide_eq_true n⟩, rfl⟩
theorem mdrop_nodup {D : Mks} {k : Int} (h : (mkeys D).Nodup) : (mkeys (mdrop D k)).Nodup := List.Pairwise.sublist (List.Sublist.map _ List.filter_sublist) h
theorem mput_nodup {D : Mks} {k v : Int} (h : (mkeys D).Nodup) : (mkeys (mput D k v)).Nodup := by
  by_cases c : k ∈ mkeys D
  · rw [mput_keys_in c]
    exact h
  · rw [mput_new c]
    unfold mkeys
    rw [List.map_append, List.nodup_append]
    refine ⟨h, List.nodup_cons.mpr ⟨by simp, List.nodup_nil⟩, fun x hx y hy z => ?_⟩
    have hy : y = k := List.mem_singleton.mp hy
    rw [z, hy] at hx
    exact c hx
theorem mput_keys {D : Mks} {k v x : Int} (h : x ∈ mkeys (mput D k v)) : x ∈ mkeys D ∨ x = k := by
  by_cases c : k ∈ mkeys D
  · rw [mput_keys_in c] at h
    exact .inl h
  · rw [mput_new c] at h
    unfold mkeys at h
    rw [List.map_append] at h
    rcases List.mem_append.mp h with h | h
    · exact .inl h
    · exact .inr (List.mem_singleton.mp h)
/-- the weight changed by so much at a mark -/
def mchg (D : Mks) (k by_ : Int) : Mks := if (mval D k).getD 0 + by_ = 0 then mdrop D k else mput D k ((mval D k).getD 0 + by_)
theorem mS_chg {φ : Int → Int} {D : Mks} {k d : Int} (h : (mkeys D).Nodup) : mS φ (mchg D k d) = mS φ D + φ k * d := by
  unfold mchg
  split
  · rename_i c
    rw [mS_drop h, show d = - (mval D k).getD 0 by omega, Int.mul_neg]
    omega
  · rw [mS_put h, mS_drop h, Int.mul_add]
    omega
theorem mchg_nodup {D : Mks} {k d : Int} (h : (mkeys D).Nodup) : (mkeys (mchg D k d)).Nodup := by
  unfold mchg
  split
  · exact mdrop_nodup h
  · exact mput_nodup h
theorem mchg_keys {D : Mks} {k d x : Int} (h : x ∈ mkeys (mchg D k d)) : x ∈ mkeys D ∨ x = k := by
  unfold mchg at h
  split at h
  · exact .inl (mdrop_keys.mp h).1
  · exact mput_keys h
theorem mw_chg {D : Mks} {k d : Int} (h : (mkeys D).Nodup) (p : Int) : mw (mchg D k d) p = mw D p + if k ≤ p then d else 0 := by
  rw [mw_mS, mw_mS, mS_chg h]
  congr 1
  split <;> omega
theorem tot_chg {D : Mks} {k d : Int} (h : (mkeys D).Nodup) : tot (mchg D k d) = tot D + d := by
  rw [tot_mS, tot_mS, mS_chg h]
  omega
/-- marks of places up to T that come to nothing in all -/
structure MkI (T : Int) (D : Mks) : Prop where
  nd : (mkeys D).Nodup
  rg : ∀ k ∈ mkeys D, 0 ≤ k ∧ k ≤ T
  t0 : tot D = 0
def mlay (D : Mks) (b e w : Int) : Mks := if b < e ∧ w ≠ 0 then mchg (mchg D b w) e (-w) else D
theorem MkI.lay {T : Int} {D : Mks} (h : MkI T D) {b e w : Int} (hbe : b < e → w ≠ 0 → 0 ≤ b ∧ e ≤ T) : MkI T (mlay D b e w) ∧ ∀ p, mw (mlay D b e w) p = mw D p + inP (b, e, w) p := by
  unfold mlay
  split
  · rename_i c
    have n1 := mchg_nodup (k := b) (d := w) h.nd
    have hbe := hbe c.1 c.2
    refine ⟨⟨mchg_nodup n1, fun k hk => ?_, by rw [tot_chg n1, tot_chg h.nd, h.t0]; omega⟩, fun p => ?_⟩
    · rcases mchg_keys hk with z | z
      · rcases mchg_keys z with z | z
        · exact h.rg k z
        · omega
      · omega
    · rw [mw_chg n1, mw_chg h.nd]
      unfold inP
      show _ = mw D p + (if b ≤ p ∧ p < e then w else 0)
      by_cases a1 : b ≤ p
      · rw [if_pos a1]
        by_cases a2 : e ≤ p
        · rw [if_pos a2, if_neg (by omega)]
          omega
        · rw [if_neg a2, if_pos (by omega)]
          omega
      · rw [if_neg a1, if_neg (by omega), if_neg (by omega)]
        omega
  · rename_i c
    refine ⟨h, fun p => ?_⟩
    unfold inP
    show _ = mw D p + (if b ≤ p ∧ p < e then w else 0)
    by_cases z : b ≤ p ∧ p < e
    · rw [if_pos z]
      have : w = 0 := by
        by_cases w0 : w = 0
        · exact w0
        · exact absurd ⟨by omega, w0⟩ c
      omega
    · rw [if_neg z]
      omega
/-- pieces falling, from T down to low -/
structure PcsF (low T : Int) (pcs : List Pc) : Prop where
  fall : pcs.Pairwise fun a b => b.2.1 ≤ a.1
  rg : ∀ c ∈ pcs, low ≤ c.1 ∧ c.1 < c.2.1 ∧ c.2.1 ≤ T ∧ c.2.2 ≠ 0
theorem pw_below {pcs : List Pc} {p : Int} (h : ∀ c ∈ pcs, p < c.1) : pw pcs p = 0 := by
  induction pcs with
  | nil => rfl
  | cons c r ih =>
    rw [pw_cons, ih fun c hc => h c (List.mem_cons_of_mem _ hc)]
    unfold inP
    have := h c List.mem_cons_self
    rw [if_neg (by omega)]
    rfl
theorem PcsF.snoc {low T : Int} {pcs : List Pc} (h : PcsF low T pcs) {c : Pc} (h1 : low ≤ c.1) (h2 : c.1 < c.2.1) (h3 : c.2.1 ≤ T) (h4 : c.2.2 ≠ 0) (h5 : ∀ x ∈ pcs, c.2.1 ≤ x.1) : PcsF low T (pcs ++ [c]) := by
  refine ⟨List.pairwise_append.mpr ⟨h.fall, List.pairwise_singleton _ _, fun a ha b hb => ?_⟩, fun x hx => ?_⟩
  · rw [List.mem_singleton.mp hb]
    exact h5 a ha
  · rcases List.mem_append.mp hx with hx | hx
    · exact h.rg x hx
    · rw [List.mem_singleton.mp hx]
      exact ⟨h1, h2, h3, h4⟩
/-- taking off, under way: rest are the marks above low that are left -/
structure CutI (D : Mks) (low T : Int) (ab rest : List Int) (Di : Mks) (w en : Int) (pcs : List Pc) : Prop where
  nd : (mkeys Di).Nodup
  sub : ∀ k ∈ mkeys Di, 0 ≤ k ∧ k ≤ T
  rst : ∀ k, k ∈ rest ↔ k ∈ mkeys Di ∧ low < k
  rs : rest.Pairwise (· > ·)
  tw : w = tot Di
  ex : ∃ E, low ≤ E ∧ E ≤ T ∧ (∀ k ∈ mkeys Di, k ≤ E) ∧ (∀ p, E ≤ p → pw pcs p = mw D p) ∧ (∀ p, p < E → mw Di p = mw D p) ∧ (w = 0 ∨ (en = E ∧ low < E ∧ ∀ k ∈ mkeys Di, k < E)) ∧ (∀ c ∈ pcs, E ≤ c.1)
  pc : PcsF low T pcs
  ln : pcs.length + rest.length ≤ D.length
  dl : Di.length ≤ D.length
  cn : Di.length + pcs.length ≤ D.length
  ds : Di.length + (ab.length - rest.length) ≤ D.length
  re : rest.length ≤ ab.length
  su : ∀ k ∈ rest, k ∈ ab
  en_ : w ≠ 0 → en ∈ ab
  ends : ∀ c ∈ pcs, c.1 ∈ ab ∧ c.2.1 ∈ ab
theorem CutI.start {D : Mks} {low T : Int} {rest : List Int} (h : MkI T D) (hl : low ≤ T) (hr : ∀ k, k ∈ rest ↔ k ∈ mkeys D ∧ low < k) (rs : rest.Pairwise (· > ·)) (ln : rest.length ≤ D.length) : CutI D low T rest rest D 0 low [] :=
  ⟨h.nd, h.rg, hr, rs, h.t0.symm, ⟨T, hl, Int.le_refl _, fun k hk => (h.rg k hk).2, fun p hp => by
    have e : mw D p = tot D := mw_tot fun k hk => Int.le_trans (h.rg k.1 (List.mem_map.mpr ⟨k, hk, rfl⟩)).2 hp
    rw [e, h.t0]
    rfl, fun _ _ => rfl, .inl rfl, fun c hc => by cases hc⟩, ⟨List.Pairwise.nil, fun c hc => by cases hc⟩, by show 0 + _ ≤ _; omega, Nat.le_refl _, Nat.le_refl _, by omega, Nat.le_refl _, fun _ h => h, fun z => absurd rfl z, fun c hc => (by cases hc)⟩
theorem mw_tot' {D : Mks} {p : Int} (h : ∀ k ∈ mkeys D, k ≤ p) : mw D p = tot D := mw_tot fun k hk => h k.1 (List.mem_map.mpr ⟨k, hk, rfl⟩)
theorem mdrop_less {D : Mks} {k : Int} (h : k ∈ mkeys D) : (mdrop D k).length + 1 ≤ D.length := by
  induction D with
  | nil => cases h
  | cons x D ih =>
    unfold mdrop
    by_cases c : x.1 = k
    · rw [List.filter_cons_of_neg (by simpa using c), List.length_cons]
      have := List.length_filter_le (fun kv : Int × Int => decide (kv.1 ≠ k)) D
      omega
    · rw [List.filter_cons_of_pos (by simpa using c), List.length_cons, List.length_cons]
      rcases List.mem_cons.mp (show k ∈ x.1 :: mkeys D from h) with z | z
      · exact absurd z.symm c
      · have : (mdrop D k).length + 1 ≤ D.length := ih z
        unfold mdrop at this
        omega
theorem CutI.step {D : Mks} {low T : Int} {k : Int} {ab rest : List Int} {Di : Mks} {w en v : Int} {pcs : List Pc} (h : CutI D low T ab (k :: rest) Di w en pcs) (hv : mval Di k = some v) :
    CutI D low T ab rest (mdrop Di k) (w - v) k (if w ≠ 0 then pcs ++ [(k, en, w)] else pcs) := by
  obtain ⟨E, e1, e2, e3, e4, e5, e6, e7⟩ := h.ex
  obtain ⟨r1, r2⟩ := List.pairwise_cons.mp h.rs
  have hk := (h.rst k).mp List.mem_cons_self
  have below : ∀ x ∈ mkeys (mdrop Di k), x < k := fun x hx => by
    obtain ⟨a, b⟩ := mdrop_keys.mp hx
    by_cases c : low < x
    · rcases List.mem_cons.mp ((h.rst x).mpr ⟨a, c⟩) with z | z
      · exact absurd z b
      · exact r1 x z
    · omega
  have le : ∀ x ∈ mkeys Di, x ≤ k := fun x hx => by
    by_cases c : x = k
    · omega
    · have := below x (mdrop_keys.mpr ⟨hx, c⟩)
      omega
  have kE := e3 k hk.1
  have td : tot (mdrop Di k) = tot Di - v := by
    rw [tot_mS, tot_mS, mS_drop h.nd, hv]
    show _ - 1 * v = _
    omega
  have mdw : ∀ p, p < k → mw (mdrop Di k) p = mw Di p := fun p hp => by
    rw [mw_mS, mw_mS, mS_drop h.nd, if_neg (by omega)]
    omega
  have mid : ∀ p, k ≤ p → p < E → mw D p = w := fun p h1 h2 => by
    rw [← e5 p h2, mw_tot' fun x hx => Int.le_trans (le x hx) h1, h.tw]
  refine ⟨mdrop_nodup h.nd, fun x hx => h.sub x (mdrop_keys.mp hx).1, fun x => ?_, r2, by rw [td, h.tw], ⟨k, by omega, by omega, fun x hx => by have := below x hx; omega, fun p hp => ?_, fun p hp => ?_, .inr ⟨rfl, hk.2, below⟩, fun c hc => ?_⟩, ?_, ?_, Nat.le_trans (List.length_filter_le _ _) h.dl, ?_, ?_, ?_, fun x hx => h.su x (List.mem_cons_of_mem _ hx), fun _ => h.su k List.mem_cons_self, ?_⟩
  · constructor
    · intro hx
      have a := (h.rst x).mp (List.mem_cons_of_mem _ hx)
      have b := r1 x hx
      exact ⟨mdrop_keys.mpr ⟨a.1, by omega⟩, a.2⟩
    · rintro ⟨a, b⟩
      obtain ⟨a1, a2⟩ := mdrop_keys.mp a
      rcases List.mem_cons.mp ((h.rst x).mpr ⟨a1, b⟩) with z | z
      · exact absurd z a2
      · exact z
  · by_cases w0 : w = 0
    · rw [if_neg (by omega)]
      by_cases c : E ≤ p
      · exact e4 p c
      · rw [pw_below fun c hc => by have := e7 c hc; omega, mid p hp (by omega), w0]
    · rw [if_pos w0, pw_append, pw_one]
      obtain ⟨f1, f2, f3⟩ := e6.resolve_left w0
      unfold inP
      show _ + (if k ≤ p ∧ p < en then w else 0) = _
      by_cases c : E ≤ p
      · rw [if_neg (by omega), e4 p c]
        omega
      · rw [if_pos (by omega), pw_below fun c hc => by have := e7 c hc; omega, mid p hp (by omega)]
        omega
  · rw [mdw p hp]
    exact e5 p (by omega)
  · split at hc
    · rename_i w0
      rcases List.mem_append.mp hc with hc | hc
      · have := e7 c hc
        omega
      · rw [List.mem_singleton.mp hc]
        exact Int.le_refl _
    · have := e7 c hc
      omega
  · split
    · rename_i w0
      obtain ⟨f1, f2, f3⟩ := e6.resolve_left w0
      refine h.pc.snoc (by show low ≤ k; omega) (by show k < en; have := f3 k hk.1; omega) (by show en ≤ T; omega) w0 fun x hx => ?_
      have := e7 x hx
      show en ≤ x.1
      omega
    · exact h.pc
  · have ln : pcs.length + (rest.length + 1) ≤ D.length := h.ln
    split
    · rw [List.length_append]
      show pcs.length + 1 + _ ≤ _
      omega
    · omega
  · have cn := h.cn
    have ml := mdrop_less hk.1
    split
    · rw [List.length_append]
      show _ + (pcs.length + 1) ≤ _
      omega
    · omega
  · have ds := h.ds
    have re : rest.length + 1 ≤ ab.length := h.re
    have ds : Di.length + (ab.length - (rest.length + 1)) ≤ D.length := ds
    have ml := mdrop_less hk.1
    omega
  · have re : rest.length + 1 ≤ ab.length := h.re
    omega
  · intro c hc
    split at hc
    · rename_i w0
      rcases List.mem_append.mp hc with hc | hc
      · exact h.ends c hc
      · rw [List.mem_singleton.mp hc]
        exact ⟨h.su k List.mem_cons_self, h.en_ w0⟩
    · exact h.ends c hc
/-- what taking off leaves and tells -/
structure CutDone (D : Mks) (low T : Int) (D' : Mks) (pcs : List Pc) : Prop where
  ok : MkI low D'
  lo : ∀ p, p < low → mw D' p = mw D p
  hi : ∀ p, low ≤ p → pw pcs p = mw D p
  no : ∀ p, p < low → pw pcs p = 0
  pc : PcsF low T pcs
  ln : pcs.length ≤ D.length + 1
  cn : D'.length + pcs.length ≤ D.length + 2
  ends : ∃ ab : List Int, D'.length + ab.length ≤ D.length + 1 ∧ ∀ c ∈ pcs, (c.1 = low ∨ c.1 ∈ ab) ∧ c.2.1 ∈ ab
theorem mput_len1 {D : Mks} {k v : Int} : (mput D k v).length ≤ D.length + 1 := by
  unfold mput
  split
  · rw [List.length_map]
    omega
  · rw [List.length_append]
    exact Nat.le_refl _
theorem mchg_len1 {D : Mks} {k d : Int} : (mchg D k d).length ≤ D.length + 1 := by
  unfold mchg
  split
  · have := List.length_filter_le (fun kv : Int × Int => decide (kv.1 ≠ k)) D
    unfold mdrop
    omega
  · exact mput_len1
theorem CutI.fin {D : Mks} {low T : Int} {ab : List Int} {Di : Mks} {w en : Int} {pcs : List Pc} (l0 : 0 ≤ low) (h : CutI D low T ab [] Di w en pcs) : CutDone D low T (if w ≠ 0 then mchg Di low (-w) else Di) (if w ≠ 0 then pcs ++ [(low, en, w)] else pcs) := by
  obtain ⟨E, e1, e2, e3, e4, e5, e6, e7⟩ := h.ex
  have le : ∀ x ∈ mkeys Di, x ≤ low := fun x hx => by
    by_cases c : low < x
    · have := (h.rst x).mpr ⟨hx, c⟩
      cases this
    · omega
  have mid : ∀ p, low ≤ p → p < E → mw D p = w := fun p h1 h2 => by
    rw [← e5 p h2, mw_tot' fun x hx => Int.le_trans (le x hx) h1, h.tw]
  by_cases w0 : w = 0
  · rw [if_neg (by omega), if_neg (by omega)]
    refine ⟨⟨h.nd, fun x hx => ⟨(h.sub x hx).1, le x hx⟩, by rw [← h.tw, w0]⟩, fun p hp => e5 p (by omega), fun p hp => ?_, fun p hp => ?_, h.pc, by have := h.ln; omega, by have := h.cn; omega, ab, by have ds : Di.length + (ab.length - 0) ≤ D.length := h.ds; omega, fun c hc => ⟨.inr (h.ends c hc).1, (h.ends c hc).2⟩⟩
    · by_cases c : E ≤ p
      · exact e4 p c
      · rw [pw_below fun c hc => by have := e7 c hc; omega, mid p hp (by omega), w0]
    · exact pw_below fun c hc => by have := e7 c hc; omega
  · rw [if_pos w0, if_pos w0]
    obtain ⟨f1, f2, f3⟩ := e6.resolve_left w0
    have pc' := h.pc.snoc (c := (low, en, w)) (Int.le_refl _) (by show low < en; omega) (by show en ≤ T; omega) w0 fun x hx => by have := e7 x hx; show en ≤ x.1; omega
    refine ⟨⟨mchg_nodup h.nd, fun x hx => ?_, by rw [tot_chg h.nd, ← h.tw]; omega⟩, fun p hp => ?_, fun p hp => ?_, fun p hp => ?_, pc', ?_, ?_, ab, ?_, fun c hc => ?_⟩
    · rcases mchg_keys hx with z | z
      · exact ⟨(h.sub x z).1, le x z⟩
      · omega
    · rw [mw_chg h.nd, if_neg (by omega), e5 p (by omega)]
      omega
    · rw [pw_append, pw_one]
      unfold inP
      show _ + (if low ≤ p ∧ p < en then w else 0) = _
      by_cases c : E ≤ p
      · rw [if_neg (by omega), e4 p c]
        omega
      · rw [if_pos (by omega), pw_below fun c hc => by have := e7 c hc; omega, mid p hp (by omega)]
        omega
    · rw [pw_append, pw_one, pw_below fun c hc => by have := e7 c hc; omega]
      unfold inP
      show _ + (if low ≤ p ∧ p < en then w else 0) = _
      rw [if_neg (by omega)]
      rfl
    · rw [List.length_append]
      have := h.ln
      show pcs.length + 1 ≤ _
      omega
    · rw [List.length_append]
      have := h.cn
      have := mchg_len1 (D := Di) (k := low) (d := -w)
      show _ + (pcs.length + 1) ≤ _
      omega
    · have ds : Di.length + (ab.length - 0) ≤ D.length := h.ds
      have := mchg_len1 (D := Di) (k := low) (d := -w)
      omega
    · rcases List.mem_append.mp hc with hc | hc
      · exact ⟨.inr (h.ends c hc).1, (h.ends c hc).2⟩
      · rw [List.mem_singleton.mp hc]
        exact ⟨.inl rfl, h.en_ w0⟩

/-! ### what settling tells -/
def layAll (D : Mks) (l : List Pc) : Mks := l.foldl (fun D c => mlay D c.1 c.2.1 c.2.2) D
theorem layAll_ok {T : Int} : ∀ {l : List Pc} {D : Mks}, MkI T D → (∀ c ∈ l, c.1 < c.2.1 → c.2.2 ≠ 0 → 0 ≤ c.1 ∧ c.2.1 ≤ T) → MkI T (layAll D l) ∧ ∀ p, mw (layAll D l) p = mw D p + pw l p
  | [], D, h, _ => ⟨h, fun p => by rw [pw_nil]; show mw D p = _; omega⟩
  | c :: l, D, h, hl => by
    obtain ⟨h1, h2⟩ := h.lay (hl c List.mem_cons_self)
    obtain ⟨k1, k2⟩ := layAll_ok h1 fun c hc => hl c (List.mem_cons_of_mem _ hc)
    refine ⟨k1, fun p => ?_⟩
    show mw (layAll (mlay D c.1 c.2.1 c.2.2) l) p = _
    rw [k2, h2, pw_cons, Int.add_assoc]
def ledAll (e lo st f : Int) (l : List Pc) : List Pc := l.flatMap (ledP e lo st f)
theorem pw_ledAll {e lo st f p : Int} (hs : f = 1 ∨ 1 ≤ st) : ∀ {l : List Pc}, (∀ c ∈ l, c.1 ≤ c.2.1) → pw (ledAll e lo st f l) p = (l.map fun c => c.2.2 * sumI (fun y => if evTo e lo st f y = p then 1 else 0) c.1 (c.2.1 - c.1).toNat).sum
  | [], _ => rfl
  | c :: l, h => by
    show pw (ledP e lo st f c ++ ledAll e lo st f l) p = _
    rw [pw_append, ledP_pw hs (h c List.mem_cons_self), pw_ledAll hs fun c hc => h c (List.mem_cons_of_mem _ hc), List.map_cons, List.sum_cons]
/-- a place of a led piece is one to which a place is led -/
theorem ledP_hit {e lo st f p : Int} {c d : Pc} (hs : f = 1 ∨ 1 ≤ st) (h : c.1 ≤ c.2.1) (hd : d ∈ ledP e lo st f c) (d0 : d.2.2 ≠ 0) (h1 : d.1 ≤ p) (h2 : p < d.2.1) : ∃ y, c.1 ≤ y ∧ y < c.2.1 ∧ evTo e lo st f y = p := by
  refine Classical.byContradiction fun no => ?_
  have z : sumI (fun y => if evTo e lo st f y = p then 1 else 0) c.1 (c.2.1 - c.1).toNat = 0 := sumI_zero _ _ fun y a1 a2 => if_neg fun q => no ⟨y, a1, by omega, q⟩
  have hn : (((c.2.1 - c.1).toNat : Nat) : Int) = c.2.1 - c.1 := by omega
  unfold ledP at hd
  unfold evTo at z
  by_cases k : f = 1
  · simp only [if_pos k] at hd z
    have hd := List.mem_singleton.mp hd
    rw [turned_sum, hn] at z
    rw [hd] at h1 h2
    have h1 : lo + e - c.2.1 ≤ p := h1
    have h2 : p < lo + e - c.1 := h2
    rw [if_pos (by omega)] at z
    omega
  · simp only [if_neg k] at hd z
    have st1 : (if st > 1 then st else 1) = st := by split <;> omega
    rw [st1, wound_sum (by omega), hn] at z
    have q0 : 0 ≤ (c.2.1 - c.1) / st := Int.ediv_nonneg (by omega) (by omega)
    have ind : ∀ (P : Prop) [Decidable P], 0 ≤ (if P then 1 else 0 : Int) := fun P _ => by split <;> omega
    have m0 : 0 ≤ (c.2.1 - c.1) / st * (if lo ≤ p ∧ p < lo + st then 1 else 0) := Int.mul_nonneg q0 (ind _)
    have i1 := ind (lo + (c.1 - lo) % st ≤ p ∧ p < if lo + st < lo + (c.1 - lo) % st + (c.2.1 - c.1) % st then lo + st else lo + (c.1 - lo) % st + (c.2.1 - c.1) % st)
    have i2 := ind (lo ≤ p ∧ p < lo + if lo + (c.1 - lo) % st + (c.2.1 - c.1) % st - (lo + st) > 0 then lo + (c.1 - lo) % st + (c.2.1 - c.1) % st - (lo + st) else 0)
    unfold wnd at hd
    rcases List.mem_cons.mp hd with hd | hd
    · rw [hd] at h1 h2 d0
      have h1 : lo ≤ p := h1
      have h2 : p < lo + st := h2
      have d0 : (c.2.1 - c.1) / st * c.2.2 ≠ 0 := d0
      have n0 : (c.2.1 - c.1) / st ≠ 0 := fun q => d0 (by rw [q]; exact Int.zero_mul _)
      rw [if_pos (show lo ≤ p ∧ p < lo + st from ⟨h1, h2⟩)] at z m0
      omega
    rcases List.mem_cons.mp hd with hd | hd
    · rw [hd] at h1 h2
      rw [if_pos (show lo + (c.1 - lo) % st ≤ p ∧ p < _ from ⟨h1, h2⟩)] at z
      omega
    · have hd := List.mem_singleton.mp hd
      rw [hd] at h1 h2
      rw [if_pos (show lo ≤ p ∧ p < lo + (if lo + (c.1 - lo) % st + (c.2.1 - c.1) % st - (lo + st) > 0 then _ else _) from ⟨h1, h2⟩)] at z
      omega
/-! ### how many marks there are at most -/
theorem nd_sub : ∀ {l s : List Int}, l.Nodup → (∀ x ∈ l, x ∈ s) → l.length ≤ s.length
  | [], _, _, _ => Nat.zero_le _
  | a :: r, s, nd, h => by
    obtain ⟨na, nr⟩ := List.nodup_cons.mp nd
    have ha := h a List.mem_cons_self
    have k := nd_sub (l := r) (s := s.erase a) nr fun x hx => (List.mem_erase_of_ne (fun z => na (by rw [← z]; exact hx))).mpr (h x (List.mem_cons_of_mem _ hx))
    have e := List.length_erase_of_mem ha
    have : 0 < s.length := List.length_pos_of_mem ha
    rw [List.length_cons]
    omega
theorem mlay_keys {D : Mks} {b e w x : Int} (h : x ∈ mkeys (mlay D b e w)) : x ∈ mkeys D ∨ x = b ∨ x = e := by
  unfold mlay at h
  split at h
  · rcases mchg_keys h with h | h
    · rcases mchg_keys h with h | h
      · exact .inl h
      · exact .inr (.inl h)
    · exact .inr (.inr h)
  · exact .inl h
theorem layAll_keys : ∀ {l : List Pc} {D : Mks} {x : Int}, x ∈ mkeys (layAll D l) → x ∈ mkeys D ∨ ∃ c ∈ l, x = c.1 ∨ x = c.2.1
  | [], D, x, h => .inl h
  | c :: l, D, x, h => by
    rcases layAll_keys (l := l) (D := mlay D c.1 c.2.1 c.2.2) h with h | ⟨d, hd, e⟩
    · rcases mlay_keys h with h | h
      · exact .inl h
      · exact .inr ⟨c, List.mem_cons_self, h⟩
    · exact .inr ⟨d, List.mem_cons_of_mem _ hd, e⟩
/-- the ends of led pieces are led ends -/
def ledE (e lo st f x : Int) : Int := if f = 1 then lo + e - x else lo + (x - lo) % st
theorem ledP_ends {e lo st f : Int} (hs : f = 1 ∨ 1 ≤ st) {c d : Pc} (hd : d ∈ ledP e lo st f c) : ∀ x, (x = d.1 ∨ x = d.2.1) → x = lo ∨ x = lo + st ∨ x = ledE e lo st f c.1 ∨ x = ledE e lo st f c.2.1 := by
  intro x hx
  unfold ledP at hd
  unfold ledE
  by_cases k : f = 1
  · simp only [if_pos k] at hd ⊢
    rw [List.mem_singleton.mp hd] at hx
    rcases hx with hx | hx
    · exact .inr (.inr (.inr hx))
    · exact .inr (.inr (.inl hx))
  · simp only [if_neg k] at hd ⊢
    have s1 : 1 ≤ st := by omega
    have r1 := Int.emod_nonneg (c.1 - lo) (show st ≠ 0 by omega)
    have r2 := Int.emod_lt_of_pos (c.1 - lo) (show 0 < st by omega)
    have r3 := Int.emod_nonneg (c.2.1 - c.1) (show st ≠ 0 by omega)
    have r4 := Int.emod_lt_of_pos (c.2.1 - c.1) (show 0 < st by omega)
    have key : (c.2.1 - lo) % st = if (c.1 - lo) % st + (c.2.1 - c.1) % st < st then (c.1 - lo) % st + (c.2.1 - c.1) % st else (c.1 - lo) % st + (c.2.1 - c.1) % st - st := by
      rw [show c.2.1 - lo = (c.1 - lo) + (c.2.1 - c.1) by omega, Int.add_emod]
      split
      · exact Int.emod_eq_of_lt (by omega) (by omega)
      · rw [show (c.1 - lo) % st + (c.2.1 - c.1) % st = (c.1 - lo) % st + (c.2.1 - c.1) % st - st + st * 1 by omega, Int.add_mul_emod_self_left]
        rw [show (c.1 - lo) % st + (c.2.1 - c.1) % st - st + st * 1 - st = (c.1 - lo) % st + (c.2.1 - c.1) % st - st by omega]
        exact Int.emod_eq_of_lt (by omega) (by omega)
    rw [key]
    unfold wnd at hd
    generalize (c.1 - lo) % st = u at *
    generalize (c.2.1 - c.1) % st = v at *
    rcases List.mem_cons.mp hd with hd | hd
    · rw [hd] at hx
      rcases hx with hx | hx
      · exact .inl hx
      · exact .inr (.inl hx)
    rcases List.mem_cons.mp hd with hd | hd
    · rw [hd] at hx
      rcases hx with hx | hx
      · exact .inr (.inr (.inl hx))
      · have hx : x = (if lo + st < lo + u + v then lo + st else lo + u + v) := hx
        split at hx
        · exact .inr (.inl hx)
        · split <;> omega
    · have hd := List.mem_singleton.mp hd
      rw [hd] at hx
      rcases hx with hx | hx
      · exact .inl hx
      · have hx : x = lo + (if lo + u + v - (lo + st) > 0 then lo + u + v - (lo + st) else 0) := hx
        split at hx
        · split <;> omega
        · omega
theorem lay_count {D D' : Mks} {low T e lo st f : Int} {pcs : List Pc} (hs : f = 1 ∨ 1 ≤ st) (c : CutDone D low T D' pcs) (nd : (mkeys (layAll D' (ledAll e lo st f pcs))).Nodup) : (layAll D' (ledAll e lo st f pcs)).length ≤ D.length + 4 := by
  obtain ⟨ab, la, he⟩ := c.ends
  have k := nd_sub (s := mkeys D' ++ (lo :: (lo + st) :: (low :: ab).map (ledE e lo st f))) nd fun x hx => by
    refine List.mem_append.mpr ?_
    rcases layAll_keys hx with h | ⟨d, hd, hx⟩
    · exact .inl h
    · right
      obtain ⟨c, hc, hd⟩ := List.mem_flatMap.mp hd
      obtain ⟨h1, h2⟩ := he c hc
      rcases ledP_ends hs hd x hx with z | z | z | z
      · rw [z]
        exact List.mem_cons_self
      · rw [z]
        exact List.mem_cons_of_mem _ List.mem_cons_self
      · refine List.mem_cons_of_mem _ (List.mem_cons_of_mem _ (List.mem_map.mpr ⟨c.1, ?_, z.symm⟩))
        rcases h1 with h1 | h1
        · rw [h1]
          exact List.mem_cons_self
        · exact List.mem_cons_of_mem _ h1
      · exact List.mem_cons_of_mem _ (List.mem_cons_of_mem _ (List.mem_map.mpr ⟨c.2.1, List.mem_cons_of_mem _ h2, z.symm⟩))
  rw [List.length_append, List.length_cons, List.length_cons, List.length_map, List.length_map, List.length_map, List.length_cons] at k
  omega
/-- settling, under way: the events done lead down to t -/
structure SetI (n b : Int) (k : Nat) (done : List Ev) (t : Int) (D : Mks) (home : List Pc) : Prop where
  ok : MkI t D
  lo : ∀ p, 0 ≤ p → p < t → mw D p = wtL done b k p
  hi : ∀ p, t ≤ p → pw home p = wtL done b k p
  pc : PcsF t n home
  cnt : D.length + home.length ≤ 2 + 4 * done.length
theorem SetI.start {n b : Int} {k : Nat} (n0 : 0 ≤ n) (b0 : 0 ≤ b) (h : b + k ≤ n) : SetI n b k [] n (mlay [] b (b + k) 1) [] := by
  have m0 : MkI n [] := ⟨List.nodup_nil, fun k hk => (by cases hk), rfl⟩
  obtain ⟨h1, h2⟩ := m0.lay (b := b) (e := b + k) (w := 1) fun _ _ => ⟨b0, h⟩
  refine ⟨h1, fun p p0 pn => ?_, fun p hp => ?_, ⟨List.Pairwise.nil, fun c hc => by cases hc⟩, ?_⟩
  · rw [h2, wtL_nil]
    show 0 + _ = _
    rw [Int.zero_add]
    rfl
  · rw [wtL_nil, if_neg (by omega)]
    rfl
  · show (mlay [] b (b + k) 1).length + 0 ≤ 2
    unfold mlay
    split
    · have a := mchg_len1 (D := []) (k := b) (d := 1)
      have a : (mchg [] b 1).length ≤ 1 := a
      have b := mchg_len1 (D := mchg [] b 1) (k := b + k) (d := -1)
      omega
    · exact Nat.zero_le _
theorem SetI.bare {n b : Int} {k : Nat} {done : List Ev} {t m : Int} {D D' : Mks} {home pcs : List Pc} (h : SetI n b k done t D home) (hm : 0 ≤ m) (mt : m ≤ t) (tn : t ≤ n) (c : CutDone D m t D' pcs) : SetI n b k (done ++ [.bare m t]) m D' (home ++ pcs) := by
  refine ⟨c.ok, fun p p0 pm => ?_, fun p hp => ?_, ⟨List.pairwise_append.mpr ⟨h.pc.fall, c.pc.fall, fun x hx y hy => Int.le_trans (c.pc.rg y hy).2.2.1 (h.pc.rg x hx).1⟩, fun x hx => ?_⟩, ?_⟩
  · rw [c.lo p pm, wtL_bare]
    exact h.lo p p0 (by omega)
  · rw [pw_append, wtL_bare, c.hi p hp]
    by_cases z : t ≤ p
    · rw [h.hi p z, mw_tot' fun x hx => Int.le_trans (h.ok.rg x hx).2 z, h.ok.t0]
      omega
    · rw [pw_below fun c hc => by have := (h.pc.rg c hc).1; omega, h.lo p (by omega) (by omega)]
      omega
  · rcases List.mem_append.mp hx with hx | hx
    · have := h.pc.rg x hx
      exact ⟨by omega, this.2⟩
    · have := c.pc.rg x hx
      exact ⟨this.1, this.2.1, by omega, this.2.2.2⟩
  · rw [List.length_append, List.length_append]
    have := h.cnt
    have := c.cn
    show _ ≤ 2 + 4 * (done.length + 1)
    omega
theorem SetI.fold {R : Int → Int → Prop} {n b : Int} {k : Nat} {done : List Ev} {t m lo st f : Int} {D D' : Mks} {home pcs : List Pc} (h : SetI n b k done t D home) (g : Good R (.fold m t lo st f)) (hs : f = 1 ∨ 1 ≤ st) (mt : m ≤ t) (c : CutDone D m t D' pcs) : SetI n b k (done ++ [.fold m t lo st f]) m (layAll D' (ledAll t lo st f pcs)) home := by
  have hm : 0 ≤ m := g.2.1
  obtain ⟨k1, k2⟩ := layAll_ok (l := ledAll t lo st f pcs) c.ok fun d hd d1 d2 => by
    obtain ⟨x, hx, hd⟩ := List.mem_flatMap.mp hd
    have rx := c.pc.rg x hx
    have top : ∀ p, d.1 ≤ p → p < d.2.1 → 0 ≤ p ∧ p < m := fun p p1 p2 => by
      obtain ⟨y, y1, y2, y3⟩ := ledP_hit hs (by omega) hd d2 p1 p2
      obtain ⟨a1, a2, _⟩ := g.2.2 y (by omega) (by omega)
      omega
    have a := top d.1 (Int.le_refl _) d1
    have b := top (d.2.1 - 1) (by omega) (by omega)
    omega
  have sum : ∀ p, pw (ledAll t lo st f pcs) p = sumI (fun y => wtL done b k y * (if evTo t lo st f y = p then 1 else 0)) m (t - m).toNat := fun p => by
    rw [pw_ledAll hs fun x hx => by have := (c.pc.rg x hx).2.1; omega, ← pw_led (m := m) (e := t) fun x hx => by have := c.pc.rg x hx; omega]
    refine sumI_congr fun y y1 y2 => ?_
    show pw pcs y * _ = _
    rw [c.hi y y1, h.lo y (by omega) (by omega)]
  refine ⟨k1, fun p p0 pm => ?_, fun p hp => ?_, ⟨h.pc.fall, fun x hx => ?_⟩, ?_⟩
  · rw [k2, wtL_fold g mt, if_neg (by omega), c.lo p pm, h.lo p p0 (by omega), sum]
  · have zero : sumI (fun y => wtL done b k y * (if evTo t lo st f y = p then 1 else 0)) m (t - m).toNat = 0 := sumI_zero _ _ fun y y1 y2 => by
      obtain ⟨a1, a2, _⟩ := g.2.2 y y1 (by omega)
      rw [if_neg (by omega)]
      omega
    rw [wtL_fold g mt, zero]
    by_cases z : t ≤ p
    · rw [if_neg (by omega), h.hi p z]
      omega
    · rw [if_pos (by omega), pw_below fun c hc => by have := (h.pc.rg c hc).1; omega]
      omega
  · have := h.pc.rg x hx
    exact ⟨by omega, this.2⟩
  · have a := h.cnt
    have b := lay_count hs c k1.nd
    rw [List.length_append]
    show _ ≤ 2 + 4 * (done.length + 1)
    omega
/-! ### pieces, rising -/
structure PcsR (n : Int) (pcs : List Pc) : Prop where
  rise : pcs.Pairwise fun a b => a.2.1 ≤ b.1
  rg : ∀ c ∈ pcs, 0 ≤ c.1 ∧ c.1 < c.2.1 ∧ c.2.1 ≤ n ∧ c.2.2 ≠ 0
theorem PcsF.rev {n : Int} {pcs : List Pc} (h : PcsF 0 n pcs) : PcsR n pcs.reverse := ⟨List.pairwise_reverse.mpr h.fall, fun c hc => h.rg c (List.mem_reverse.mp hc)⟩
/-- one more piece, made one with the last where it can be -/
def jnA (acc : List Pc) (c : Pc) : List Pc := match acc.getLast? with
  | some d => if d.2.1 = c.1 ∧ d.2.2 = c.2.2 then acc.dropLast ++ [(d.1, c.2.1, c.2.2)] else acc ++ [c]
  | none => acc ++ [c]
def jn (pcs : List Pc) : List Pc := pcs.foldl jnA []
structure JnI (n : Int) (all acc rest : List Pc) : Prop where
  ok : PcsR n acc
  sep : acc.Pairwise fun a b => a.2.1 = b.1 → a.2.2 ≠ b.2.2
  rs : PcsR n rest
  lt : ∀ a ∈ acc, ∀ c ∈ rest, a.2.1 ≤ c.1
  eq : ∀ p, pw acc p + pw rest p = pw all p
theorem PcsR.snoc {n : Int} {pcs : List Pc} (h : PcsR n pcs) {c : Pc} (h1 : 0 ≤ c.1) (h2 : c.1 < c.2.1) (h3 : c.2.1 ≤ n) (h4 : c.2.2 ≠ 0) (h5 : ∀ x ∈ pcs, x.2.1 ≤ c.1) : PcsR n (pcs ++ [c]) := by
  refine ⟨List.pairwise_append.mpr ⟨h.rise, List.pairwise_singleton _ _, fun a ha b hb => ?_⟩, fun x hx => ?_⟩
  · rw [List.mem_singleton.mp hb]
    exact h5 a ha
  · rcases List.mem_append.mp hx with hx | hx
    · exact h.rg x hx
    · rw [List.mem_singleton.mp hx]
      exact ⟨h1, h2, h3, h4⟩
theorem JnI.step {n : Int} {all acc rest : List Pc} {c : Pc} (h : JnI n all acc (c :: rest)) : JnI n all (jnA acc c) rest := by
  obtain ⟨r1, r2⟩ := List.pairwise_cons.mp h.rs.rise
  have rc := h.rs.rg c List.mem_cons_self
  have rs : PcsR n rest := ⟨r2, fun x hx => h.rs.rg x (List.mem_cons_of_mem _ hx)⟩
  have lc : ∀ a ∈ acc, a.2.1 ≤ c.1 := fun a ha => h.lt a ha c List.mem_cons_self
  have plain : (∀ d, acc.getLast? = some d → ¬ (d.2.1 = c.1 ∧ d.2.2 = c.2.2)) → JnI n all (acc ++ [c]) rest := fun nd => by
    refine ⟨h.ok.snoc rc.1 rc.2.1 rc.2.2.1 rc.2.2.2 lc, List.pairwise_append.mpr ⟨h.sep, List.pairwise_singleton _ _, fun a ha b hb => ?_⟩, rs, fun a ha x hx => ?_, fun p => ?_⟩
    · rw [List.mem_singleton.mp hb]
      intro e1 e2
      -- then a is the last one
      rcases List.eq_nil_or_concat acc with z | ⟨l, d, z⟩
      · rw [z] at ha
        cases ha
      · rw [List.concat_eq_append] at z
        subst z
        have gl : (l ++ [d]).getLast? = some d := by simp
        rcases List.mem_append.mp ha with ha | ha
        · have q := (List.pairwise_append.mp h.ok.rise).2.2 a ha d (List.mem_singleton.mpr rfl)
          have rd := h.ok.rg d (List.mem_append_right _ (List.mem_singleton.mpr rfl))
          have := lc d (List.mem_append_right _ (List.mem_singleton.mpr rfl))
          omega
        · rw [List.mem_singleton.mp ha] at e1 e2
          exact nd d gl ⟨e1, e2⟩
    · rcases List.mem_append.mp ha with ha | ha
      · exact h.lt a ha x (List.mem_cons_of_mem _ hx)
      · rw [List.mem_singleton.mp ha]
        exact r1 x hx
    · rw [← h.eq p, pw_append, pw_one, pw_cons]
      omega
  unfold jnA
  cases gl : acc.getLast? with
  | none => exact plain fun d hd => by rw [gl] at hd; cases hd
  | some d =>
    show JnI n all (if d.2.1 = c.1 ∧ d.2.2 = c.2.2 then acc.dropLast ++ [(d.1, c.2.1, c.2.2)] else acc ++ [c]) rest
    split
    · rename_i hd
      rcases List.eq_nil_or_concat acc with z | ⟨l, d', z⟩
      · rw [z] at gl
        cases gl
      · rw [List.concat_eq_append] at z
        subst z
        have ed : d' = d := by simpa using gl
        subst ed
        have dl : (l ++ [d']).dropLast = l := by simp
        rw [dl]
        have rd := h.ok.rg d' (List.mem_append_right _ (List.mem_singleton.mpr rfl))
        obtain ⟨a1, _, a3⟩ := List.pairwise_append.mp h.ok.rise
        obtain ⟨b1, _, b3⟩ := List.pairwise_append.mp h.sep
        have okl : PcsR n l := ⟨a1, fun x hx => h.ok.rg x (List.mem_append_left _ hx)⟩
        refine ⟨okl.snoc rd.1 (by show d'.1 < c.2.1; omega) rc.2.2.1 rc.2.2.2 fun x hx => a3 x hx d' (List.mem_singleton.mpr rfl), List.pairwise_append.mpr ⟨b1, List.pairwise_singleton _ _, fun a ha b hb => ?_⟩, rs, fun a ha x hx => ?_, fun p => ?_⟩
        · rw [List.mem_singleton.mp hb]
          show a.2.1 = d'.1 → a.2.2 ≠ c.2.2
          rw [← hd.2]
          exact b3 a ha d' (List.mem_singleton.mpr rfl)
        · rcases List.mem_append.mp ha with ha | ha
          · exact h.lt a (List.mem_append_left _ ha) x (List.mem_cons_of_mem _ hx)
          · rw [List.mem_singleton.mp ha]
            exact r1 x hx
        · rw [← h.eq p, pw_append, pw_append, pw_one, pw_one, pw_cons]
          have : inP (d'.1, c.2.1, c.2.2) p = inP d' p + inP c p := by
            unfold inP
            show (if d'.1 ≤ p ∧ p < c.2.1 then c.2.2 else 0) = _
            by_cases q : p < c.1
            · rw [if_neg (show ¬ (c.1 ≤ p ∧ p < c.2.1) by omega)]
              by_cases q2 : d'.1 ≤ p
              · rw [if_pos (show d'.1 ≤ p ∧ p < c.2.1 by omega), if_pos (show d'.1 ≤ p ∧ p < d'.2.1 by omega)]
                omega
              · rw [if_neg (show ¬ (d'.1 ≤ p ∧ p < c.2.1) by omega), if_neg (show ¬ (d'.1 ≤ p ∧ p < d'.2.1) by omega)]
                rfl
            · rw [if_neg (show ¬ (d'.1 ≤ p ∧ p < d'.2.1) by omega)]
              by_cases q2 : p < c.2.1
              · rw [if_pos (show d'.1 ≤ p ∧ p < c.2.1 by omega), if_pos (show c.1 ≤ p ∧ p < c.2.1 by omega)]
                omega
              · rw [if_neg (show ¬ (d'.1 ≤ p ∧ p < c.2.1) by omega), if_neg (show ¬ (c.1 ≤ p ∧ p < c.2.1) by omega)]
                rfl
          rw [this]
          omega
    · rename_i hd
      exact plain fun d2 h2 => by rw [gl] at h2; cases h2; exact hd
theorem jn_fold {n : Int} {all : List Pc} : ∀ {rest acc : List Pc}, JnI n all acc rest → JnI n all (rest.foldl jnA acc) []
  | [], _, h => h
  | c :: r, acc, h => jn_fold (rest := r) (acc := jnA acc c) h.step
theorem jn_ok {n : Int} {pcs : List Pc} (h : PcsR n pcs) : PcsR n (jn pcs) ∧ ((jn pcs).Pairwise fun a b => a.2.1 = b.1 → a.2.2 ≠ b.2.2) ∧ ∀ p, pw (jn pcs) p = pw pcs p := by
  have k := jn_fold (all := pcs) (acc := []) (rest := pcs) (n := n) ⟨⟨List.Pairwise.nil, fun c hc => by cases hc⟩, List.Pairwise.nil, h, fun a ha => (by cases ha), fun p => by rw [pw_nil]; omega⟩
  exact ⟨k.ok, k.sep, fun p => by have := k.eq p; rw [pw_nil] at this; show pw (pcs.foldl jnA []) p = _; omega⟩
theorem sumI_ones (b : Int) : ∀ n : Nat, sumI (fun _ => 1) b n = n
  | 0 => rfl
  | n + 1 => by
    show sumI (fun _ => 1) b n + 1 = _
    rw [sumI_ones b n]
    omega
/-- how many places weigh anything -/
theorem cnt_pcs {n : Int} : ∀ {pcs : List Pc}, PcsR n pcs → sumI (fun p => if pw pcs p = 0 then 0 else 1) 0 n.toNat = (pcs.map fun c => c.2.1 - c.1).sum
  | [], _ => sumI_zero _ _ fun p _ _ => if_pos rfl
  | c :: r, h => by
    obtain ⟨r1, r2⟩ := List.pairwise_cons.mp h.rise
    have rc := h.rg c List.mem_cons_self
    rw [List.map_cons, List.sum_cons, ← cnt_pcs (pcs := r) ⟨r2, fun x hx => h.rg x (List.mem_cons_of_mem _ hx)⟩]
    have e : sumI (fun p => if pw (c :: r) p = 0 then 0 else 1) 0 n.toNat = sumI (fun p => (if c.1 ≤ p ∧ p < c.2.1 then 1 else 0) + (if pw r p = 0 then 0 else 1)) 0 n.toNat := sumI_congr fun p _ _ => by
      rw [pw_cons]
      unfold inP
      by_cases z : c.1 ≤ p ∧ p < c.2.1
      · have zz : pw r p = 0 := pw_below fun x hx => by have := r1 x hx; omega
        rw [zz]
        simp only [if_pos z]
        rw [if_neg (by have := rc.2.2.2; omega), if_pos trivial]
        rfl
      · simp only [if_neg z]
        rw [Int.zero_add, Int.zero_add]
    rw [e, sumI_add]
    congr 1
    rw [sumI_part (c := c.1) (m := (c.2.1 - c.1).toNat) rc.1 (by omega) fun p _ _ z => if_neg (by omega), sumI_congr (g := fun _ => 1) fun p p1 p2 => if_pos (by omega), sumI_ones]
    omega
/-- the pieces of all places of a road tell its least places -/
theorem wtL_least {R : Int → Int → Prop} {L : List Ev} {n : Int} (c : ChF R n L 0) {p : Int} (p0 : 0 ≤ p) (pn : p < n) : wtL L 0 n.toNat p ≠ 0 ↔ dnL L p = p := by
  constructor
  · intro h
    refine Classical.byContradiction fun no => h (sumI_zero _ _ fun x x0 x1 => if_neg fun z => no ?_)
    have x1 : x < n := by omega
    obtain ⟨a1, a2, a3, a4⟩ := c.least x x0 x1
    obtain ⟨b1, b2, b3, b4⟩ := c.least p p0 pn
    rw [z] at a1 a2 a3 a4
    have := a4 _ b1 (a3.symm.trans b3.symm)
    omega
  · intro h
    have : 1 ≤ wtL L 0 n.toNat p := by
      have k := sumI_ge (f := hit L p) (b := 0) (n := n.toNat) (q := p) (fun x _ _ => by unfold hit; split <;> omega) p0 (by omega)
      have e : hit L p p = 1 := if_pos h
      rw [e] at k
      exact k
    omega

/-! ### class Shares -/
abbrev N_Sh_init : List Str := ["self"]
abbrev P_Sh_init : List Str := ["self"]
theorem sc_Sh_init : FnScope N_Sh_init P_Sh_init (defScope s_Sh_init) := ⟨rfl, rfl, rfl, by decide +kernel, rfl, by decide +kernel, by decide +kernel⟩
abbrev N_Sh_change : List Str := ["self", "mark", "by", "weight"]
abbrev P_Sh_change : List Str := ["self", "mark", "by"]
theorem sc_Sh_change : FnScope N_Sh_change P_Sh_change (defScope s_Sh_change) := ⟨rfl, rfl, rfl, by decide +kernel, rfl, by decide +kernel, by decide +kernel⟩
abbrev N_Sh_lay : List Str := ["self", "begin", "end", "weight"]
abbrev P_Sh_lay : List Str := ["self", "begin", "end", "weight"]
theorem sc_Sh_lay : FnScope N_Sh_lay P_Sh_lay (defScope s_Sh_lay) := ⟨rfl, rfl, rfl, by decide +kernel, rfl, by decide +kernel, by decide +kernel⟩
def kvD (D : Mks) : List (Key × V) := D.map fun k => (Sum.inl k.1, V.int k.2)
theorem valV_kvD (k : Int) : ∀ D : Mks, valV (kvD D) (Sum.inl k) = (mval D k).map V.int
  | [] => rfl
  | x :: D => by
    show valV ((Sum.inl x.1, V.int x.2) :: kvD D) (Sum.inl k) = _
    by_cases c : x.1 = k
    · rw [valV_pos (show (Sum.inl x.1 : Key) = Sum.inl k by rw [c])]
      unfold mval
      rw [List.find?_cons_of_pos (by simpa using c)]
      rfl
    · rw [valV_neg (fun z => c (Sum.inl.inj z)), valV_kvD k D]
      unfold mval
      rw [List.find?_cons_of_neg (by simpa using c)]
theorem dropK_kvD (k : Int) (D : Mks) : dropK (kvD D) (Sum.inl k) = kvD (mdrop D k) := by
  unfold dropK kvD mdrop
  rw [List.filter_map]
  congr 1
  refine List.filter_congr fun x _ => ?_
  show decide (Sum.inl x.1 ≠ (Sum.inl k : Key)) = decide (x.1 ≠ k)
  by_cases c : x.1 = k
  · rw [c]
    simp
  · simp [c]
theorem putK_kvD (k v : Int) (D : Mks) : putK (kvD D) (Sum.inl k) (.int v) = kvD (mput D k v) := by
  have e : ((kvD D).any fun kv => decide (kv.1 = Sum.inl k)) = (D.any fun kv => decide (kv.1 = k)) := by
    unfold kvD
    rw [List.any_map]
    congr 1
    funext x
    show decide (Sum.inl x.1 = (Sum.inl k : Key)) = decide (x.1 = k)
    by_cases c : x.1 = k
    · rw [c]
      simp
    · rw [decide_eq_false c, decide_eq_false (fun z => c (Sum.inl.inj z))]
  unfold putK mput
  rw [e]
  split
  · unfold kvD
    rw [List.map_map, List.map_map]
    refine List.map_congr_left fun x _ => ?_
    show (if (Sum.inl x.1 : Key) = Sum.inl k then ((Sum.inl x.1 : Key), V.int v) else (Sum.inl x.1, V.int x.2)) = (Sum.inl (if x.1 = k then (x.1, v) else x).1, V.int (if x.1 = k then (x.1, v) else x).2)
    by_cases c : x.1 = k
    · rw [if_pos (by rw [c]), if_pos c]
    · rw [if_neg (fun z => c (Sum.inl.inj z)), if_neg c]
  · unfold kvD
    rw [List.map_append]
    rfl
structure ShT (K : PySem.W.Frag) (mg : Str → Option Value) (C3 : Addr) : Prop where
  gC : mg "Shares" = some (.ref C3)
  cl : Cls K C3
  nM : NoAttr K C3 "marks"
structure ShAt (C3 : Addr) (H : Hp) (g m : Addr) (D : Mks) : Prop where
  at_g : ∃ dx, H g = some (.ins C3 dx [("marks", .ref m)])
  at_m : H m = some (.dK (kvD D))
theorem ShAt.same {C3 : Addr} {H H' : Hp} {g m : Addr} {D : Mks} (h : ShAt C3 H g m D) (k : Same H H') : ShAt C3 H' g m D := ⟨h.at_g.elim fun dx e => ⟨dx, k _ _ e⟩, k _ _ h.at_m⟩
theorem ShAt.put {C3 : Addr} {H : Hp} {g m : Addr} {D D' : Mks} (h : ShAt C3 H g m D) : ShAt C3 (upd H m (.dK (kvD D'))) g m D' :=
  ⟨h.at_g.elim fun dx e => ⟨dx, by rw [upd_ne (ne_of e h.at_m (fun z => by cases z))]; exact e⟩, upd_same⟩
def spShInit (C3 : Addr) : Sp := fun vs H Q _ => ∃ (g dx : Addr), vs = [.ref g] ∧ H g = some (.ins C3 dx []) ∧ ∀ H' m, ShAt C3 H' g m [] → H m = none → Keep g H H' → Q .non H'
def spChange (C3 : Addr) : Sp := fun vs H Q _ => ∃ (g m : Addr) (D : Mks) (k d : Int), vs = [.ref g, .int k, .int d] ∧ ShAt C3 H g m D ∧ d ≠ 0 ∧ D.length < 50000 ∧ ∀ H', ShAt C3 H' g m (mchg D k d) → Keep m H H' → Q .non H'
def spLay (C3 : Addr) : Sp := fun vs H Q _ => ∃ (g m : Addr) (D : Mks) (b e x : Int), vs = [.ref g, .int b, .int e, .int x] ∧ ShAt C3 H g m D ∧ D.length < 40000 ∧ ∀ H', ShAt C3 H' g m (mlay D b e x) → Keep m H H' → Q .non H'
theorem mput_length {D : Mks} {k v : Int} : (mput D k v).length ≤ D.length + 1 := by
  unfold mput
  split
  · rw [List.length_map]
    omega
  · rw [List.length_append]
    exact Nat.le_refl _
theorem mchg_length {D : Mks} {k d : Int} : (mchg D k d).length ≤ D.length + 1 := by
  unfold mchg
  split
  · have := List.length_filter_le (fun kv : Int × Int => decide (kv.1 ≠ k)) D
    unfold mdrop
    omega
  · exact mput_length
section
variable {P : Program} {w : World} {K : PySem.W.Frag} {mg : Str → Option Value} {base : Heap} {C3 : Addr}
theorem ok_ShInit {f : Addr} {fd : FuncData} (F : Fun K "__init__" "Shares.__init__" s_Sh_init f fd) (TSh_ : ShT K mg C3) : FnOk P w K mg base CX0 1 f fd P_Sh_init (spShInit C3) := by
  refine F.ok sc_Sh_init (fun vs H Q E h => ?_) (fun cdv A outer s H vs Q E hr h => ?_)
  · obtain ⟨g, dx, rfl, _⟩ := h
    rfl
  · obtain ⟨g, dx, rfl, hg, qq⟩ := h
    refine ⟨_, (pss_one (ps_fld (pv 0) pe_dnewK rfl)), ?_⟩
    intro m nm
    have nmg : m ≠ g := (ne_of_none hg nm).symm
    refine ⟨.ref g, rfl, g, C3, dx, [], rfl, by rw [upd_ne nmg.symm]; exact hg, TSh_.cl, TSh_.nM, by show 0 < 1000; decide, ?_⟩
    refine qq _ m ⟨⟨dx, upd_same⟩, ?_⟩ nm fun b o n hb => ?_
    · rw [upd_ne nmg]
      exact upd_same
    · rw [upd_ne n, upd_ne (ne_of_none hb nm)]
      exact hb
theorem ok_change {f : Addr} {fd : FuncData} (F : Fun K "change" "Shares.change" s_Sh_change f fd) (TSh_ : ShT K mg C3) : FnOk P w K mg base CX0 1 f fd P_Sh_change (spChange C3) := by
  refine F.ok sc_Sh_change (fun vs H Q E h => ?_) (fun cdv A outer s H vs Q E hr h => ?_)
  · obtain ⟨g, m, D, k, d, rfl, _⟩ := h
    rfl
  · obtain ⟨g, m, D, k, d, rfl, sh, d0, hl, qq⟩ := h
    have hu := hu_of hr
    refine ⟨_, (pss_cons (ps_set (i := 3) sc_Sh_change.nd rfl (.inl rfl) (pe_op op_add (pe_dget2 hu (pe_fld (pv 0) rfl) (pv 1) pe_int ⟨rfl, rfl, rfl, rfl⟩) (pv 2)))
      (pss_one (ps_if (pt_cmpR op_eq (pv 3) pe_int (nomark _)) (pss_one (ps_ddel (pe_fld (pv 0) rfl) (pv 1))) (pss_one (ps_dput hu (pe_fld (pv 0) rfl) (pv 1) (pv 3) rfl))))), ?_⟩
    obtain ⟨dx, eg⟩ := sh.at_g
    have em := sh.at_m
    have gt : DGet H m (.int k) ((mval D k).map V.int) := by
      rw [← valV_kvD]
      exact DGet.k (k := Sum.inl k) em
    have gd : ((mval D k).map V.int).getD (.int 0) = .int ((mval D k).getD 0) := by cases mval D k <;> rfl
    refine ⟨.ref g, rfl, g, C3, dx, _, .ref m, rfl, eg, TSh_.cl, TSh_.nM, rfl, m, rfl, .inl ⟨_, .inl em⟩, .int k, rfl, _, gt, ?_⟩
    rw [gd]
    refine ⟨.int d, rfl, _, _, rfl, rfl, .int ((mval D k).getD 0 + d), rfl, rfl, _, rfl, ite2 (fun c => ?_) (fun c => ?_)⟩
    · have c' : (mval D k).getD 0 + d = 0 := V.int.inj (of_decide_eq_true c)
      obtain ⟨v, hv⟩ : ∃ v, mval D k = some v := by
        cases e : mval D k with
        | some v => exact ⟨v, rfl⟩
        | none =>
          rw [e] at c'
          have : (0 : Int) + d = 0 := c'
          omega
      refine ⟨.ref g, rfl, g, C3, dx, _, .ref m, rfl, eg, TSh_.cl, TSh_.nM, rfl, .int k, rfl, m, _, Sum.inl k, rfl, em, rfl, by rw [valV_kvD, hv]; rfl, ?_⟩
      rw [dropK_kvD, show mdrop D k = mchg D k d by unfold mchg; rw [if_pos c']]
      exact qq _ sh.put Keep.upd
    · have c' : ¬ (mval D k).getD 0 + d = 0 := fun z => c (decide_eq_true (congrArg V.int z))
      refine ⟨.int ((mval D k).getD 0 + d), rfl, .ref g, rfl, g, C3, dx, _, .ref m, rfl, eg, TSh_.cl, TSh_.nM, rfl, .int k, rfl, m, _, rfl, DPut.k (k := Sum.inl k) em (sz_lt (by unfold kvD; rw [List.length_map]; omega)), ?_⟩
      rw [putK_kvD, show mput D k ((mval D k).getD 0 + d) = mchg D k d by unfold mchg; rw [if_neg c']]
      exact qq _ sh.put Keep.upd
theorem ok_lay {f fC : Addr} {fd fdC : FuncData} (F : Fun K "lay" "Shares.lay" s_Sh_lay f fd) (TSh_ : ShT K mg C3) (M_Sh_change : Meth K C3 "change" fC) (G_Sh_change : FnOk P w K mg base CX0 1 fC fdC P_Sh_change (spChange C3)) (b_Sh_change : Binds K fdC P_Sh_change []) : FnOk P w K mg base CX0 2 f fd P_Sh_lay (spLay C3) := by
  refine F.ok sc_Sh_lay (fun vs H Q E h => ?_) (fun cdv A outer s H vs Q E hr h => ?_)
  · obtain ⟨g, m, D, b, e, x, rfl, _⟩ := h
    rfl
  · obtain ⟨g, m, D, b, e, x, rfl, sh, hl, qq⟩ := h
    refine ⟨_, (pss_one (ps_if (PW.pt (pw_and (pt_cmpR op_lt (pv 1) (pv 2) (nomark _)) (pw_and1 (pt_cmpR op_ne (pv 3) pe_int (nomark _))))) (pss_cons (ps_expr (pe_meth (pv 0) TSh_.cl M_Sh_change G_Sh_change (hr.mono (by omega)) b_Sh_change .nil pass0 (pa_cons (pv 1) (pa_cons (pv 3) pa_nil))))
      (pss_one (ps_expr (pe_meth (pv 0) TSh_.cl M_Sh_change G_Sh_change (hr.mono (by omega)) b_Sh_change .nil pass0 (pa_cons (pv 2) (pa_cons (pe_un un_neg (pv 3)) pa_nil)))))) pss_nil)), ?_⟩
    obtain ⟨dx, eg⟩ := sh.at_g
    refine ⟨.int b, rfl, .int e, rfl, b, e, rfl, rfl, _, rfl, ite2 (fun c => ?_) (fun c => ?_)⟩
    · have c1 : b < e := of_decide_eq_true c
      refine ⟨.int x, rfl, rfl, _, rfl, ite2 (fun d => ?_) (fun d => ?_)⟩
      · have x0 : x ≠ 0 := fun z => by
          rw [z] at d
          exact absurd d (by decide)
        refine ⟨.ref g, rfl, g, dx, _, rfl, eg, rfl, .int b, rfl, .int x, rfl, g, m, D, b, x, rfl, sh, x0, by omega, fun H1 sh1 k1 => ?_⟩
        obtain ⟨dx1, eg1⟩ := sh1.at_g
        have ln := mchg_length (D := D) (k := b) (d := x)
        refine ⟨.ref g, rfl, g, dx1, _, rfl, eg1, rfl, .int e, rfl, .int x, rfl, x, rfl, g, m, _, e, -x, rfl, sh1, by omega, by omega, fun H2 sh2 k2 => ?_⟩
        rw [show mchg (mchg D b x) e (-x) = mlay D b e x by unfold mlay; rw [if_pos ⟨c1, x0⟩]] at sh2
        exact qq _ sh2 (k1.trans k2)
      · have x0 : x = 0 := by
          by_cases z : x = 0
          · exact z
          · exact absurd (by rw [decide_eq_false (fun q => z (V.int.inj q))]; rfl) d
        refine qq _ ?_ (Keep.refl _ _)
        rw [show mlay D b e x = D by unfold mlay; rw [if_neg (fun z => z.2 x0)]]
        exact sh
    · have c1 : ¬ b < e := fun z => c (decide_eq_true z)
      refine qq _ ?_ (Keep.refl _ _)
      rw [show mlay D b e x = D by unfold mlay; rw [if_neg (fun z => c1 z.1)]]
      exact sh
end

/-! ### Shares.cut_off -/
abbrev N_Sh_cut_off : List Str := ["self", "low", "pieces", "weight", "end", "mark", "above"]
abbrev P_Sh_cut_off : List Str := ["self", "low"]
theorem sc_Sh_cut_off : FnScope N_Sh_cut_off P_Sh_cut_off (defScope s_Sh_cut_off) := ⟨rfl, rfl, rfl, by decide +kernel, rfl, by decide +kernel, by decide +kernel⟩
def t3 (c : Pc) : HO := .tup [.int c.1, .int c.2.1, .int c.2.2]
/-- pieces as tuples -/
def PcH (H : Hp) (ts : List Addr) (pcs : List Pc) : Prop := Paired (fun t c => H t = some (t3 c)) ts pcs
theorem PcH.keep {H H' : Hp} (k : KeepT H H') {ts : List Addr} {pcs : List Pc} (h : PcH H ts pcs) : PcH H' ts pcs := Paired.mapP h fun t c e => k _ _ e
theorem PcH.snoc {H : Hp} {t : Addr} {c : Pc} (hs : H t = some (t3 c)) : ∀ {ts : List Addr} {pcs : List Pc}, PcH H ts pcs → PcH H (ts ++ [t]) (pcs ++ [c])
  | _, _, .nil => .cons hs .nil
  | _, _, .cons h r => .cons h (PcH.snoc hs r)
theorem PcH.length {H : Hp} : ∀ {ts : List Addr} {pcs : List Pc}, PcH H ts pcs → ts.length = pcs.length
  | _, _, .nil => rfl
  | _, _, .cons _ r => congrArg (· + 1) (PcH.length r)
theorem PcH.at {H : Hp} : ∀ {ts : List Addr} {pcs : List Pc}, PcH H ts pcs → ∀ {i : Nat} {t : Addr}, ts[i]? = some t → ∃ c, pcs[i]? = some c ∧ H t = some (t3 c)
  | _, _, .nil, i, t, h => by simp at h
  | _, _, .cons h r, 0, t, e => by
    cases e
    exact ⟨_, rfl, h⟩
  | _, _, .cons h r, i + 1, t, e => PcH.at r e
theorem keepT_of {d : Addr} {o : HO} {H H' : Hp} (k : Keep d H H') (hd : H d = some o) (no : ∀ xs, o ≠ .tup xs) : KeepT H H' := fun b xs hb => k.of hb (ne_of hb hd (fun z => no xs z.symm))
def spCut (C3 : Addr) : Sp := fun vs H Q _ => ∃ (g m : Addr) (D : Mks) (low T : Int), vs = [.ref g, .int low] ∧ ShAt C3 H g m D ∧ MkI T D ∧ 0 ≤ low ∧ low ≤ T ∧ D.length ≤ 10000 ∧
  ∀ H' L ts D' pcs, CutDone D low T D' pcs → ShAt C3 H' g m D' → H' L = some (.lst (ts.map V.ref)) → PcH H' ts pcs → H L = none → Keep m H H' → Q (.ref L) H'
theorem nd_gt {ns : List Int} (h : ns.Pairwise (· ≥ ·)) (n : ns.Nodup) : ns.Pairwise (· > ·) := List.Pairwise.imp₂ (fun a b h1 h2 => by omega) h n
section
variable {P : Program} {w : World} {K : PySem.W.Frag} {mg : Str → Option Value} {base : Heap} {C3 : Addr}
theorem ok_cut {f fC : Addr} {fd fdC : FuncData} (F : Fun K "cut_off" "Shares.cut_off" s_Sh_cut_off f fd) (TSh_ : ShT K mg C3) (M_Sh_change : Meth K C3 "change" fC) (G_Sh_change : FnOk P w K mg base CX0 1 fC fdC P_Sh_change (spChange C3)) (b_Sh_change : Binds K fdC P_Sh_change []) (B : Bn mg) : FnOk P w K mg base CX0 2 f fd P_Sh_cut_off (spCut C3) := by
  refine F.ok sc_Sh_cut_off (fun vs H Q E h => ?_) (fun cdv A outer s H vs Q E hr h => ?_)
  · obtain ⟨g, m, D, low, T, rfl, _⟩ := h
    rfl
  · obtain ⟨g, m, D, low, T, rfl, sh, mk, l0, lT, hl, qq⟩ := h
    refine ⟨_, (pss_cons (ps_set (i := 2) sc_Sh_cut_off.nd rfl (.inl rfl) (pe_lst pa_nil))
      (pss_cons (ps_set (i := 3) sc_Sh_cut_off.nd rfl (.inl rfl) pe_int)
      (pss_cons (ps_set (i := 4) sc_Sh_cut_off.nd rfl (.inl rfl) (pv 1))
      (pss_cons (ps_set (i := 6) sc_Sh_cut_off.nd rfl (.inl rfl) (pe_callBK (cr_sortedRev (b := true)) (by rfl) B.sorted (by decide +kernel) (pa_cons (pe_lock (pe_lc (own := [("mark", 5)]) (g := gName 5) (by rfl) sc_Sh_cut_off.nd (pi_keys (pe_fld (pv 0) rfl)) (blkOk_by (own := [("mark", 5)]) (N := N_Sh_cut_off) (sc := defScope s_Sh_cut_off) (by decide +kernel)) (fun _ _ _ _ _ => (pg_name (i := 5) sc_Sh_cut_off.nd rfl (.inl rfl))) (fun _ _ _ _ _ => (pts_one (pt_cmpR op_gt (pv 5) (pv 1) (nomark _)))) (fun _ _ _ _ _ => (pv 5)))) pa_nil) (pk_cons pe_bl pk_nil)))
      (pss_cons (ps_for PassesOwn.never rfl (pi_list (pv 6)) (pg_name (i := 5) sc_Sh_cut_off.nd rfl (.inl rfl)) (C8.pss_cut (ps_if (pt_cmpR op_ne (pv 3) pe_int (nomark _)) (pss_one (ps_expr (pe_bm PySem.F.plainAttrs_list PySem.F.slot_list_append PySem.F.type_list_append mt_append (pv 2) (pa_cons (pe_tup (pa_cons (pv 5) (pa_cons (pv 4) (pa_cons (pv 3) pa_nil)))) pa_nil)))) pss_nil)
      (pss_cons (ps_aug (i := 3) sc_Sh_cut_off.nd rfl (.inl rfl) (pe_dpop1 (pe_fld (pv 0) rfl) (pv 5) ⟨rfl, rfl, rfl, rfl⟩) ip_sub)
      (pss_one (ps_set (i := 4) sc_Sh_cut_off.nd rfl (.inl rfl) (pv 5))))))
      (pss_cons (ps_if (pt_cmpR op_ne (pv 3) pe_int (nomark _)) (pss_cons (ps_expr (pe_bm PySem.F.plainAttrs_list PySem.F.slot_list_append PySem.F.type_list_append mt_append (pv 2) (pa_cons (pe_tup (pa_cons (pv 1) (pa_cons (pv 4) (pa_cons (pv 3) pa_nil)))) pa_nil)))
      (pss_one (ps_expr (pe_meth (pv 0) TSh_.cl M_Sh_change G_Sh_change (hr.mono (by omega)) b_Sh_change .nil pass0 (pa_cons (pv 1) (pa_cons (pe_un un_neg (pv 3)) pa_nil)))))) pss_nil)
      (pss_one (ps_ret (pv 2))))))))), ?_⟩
    refine ⟨Nat.zero_le _, fun L nL => ?_⟩
    have s1 := same_upd (H := H) (o := .lst []) nL
    have eL1 : (upd H L (.lst [])) L = some (.lst []) := upd_same
    generalize upd H L (.lst []) = H1 at s1 eL1
    have sh1 := sh.same s1
    obtain ⟨dx, eg⟩ := sh1.at_g
    have em := sh1.at_m
    have ngm : g ≠ m := ne_of eg em (fun z => by cases z)
    refine ⟨.int low, rfl, m, .dK (kvD D), em, trivial, fun od => ?_⟩
    have sl : ∀ {c : Addr} {o : HO}, H1 c = some o → c ≠ m → (upd H1 m (.frz od (.dK (kvD D)))) c = some o := fun h n => by rw [upd_ne n]; exact h
    refine ⟨.ref g, rfl, g, C3, dx, _, .ref m, rfl, sl eg ngm, TSh_.cl, TSh_.nM, rfl, m, od, rfl, .inl ⟨kvD D, upd_same, fun A2 nA => lc_it walk_keys (fun i H2 => Same (upd H1 m (.frz od (.dK (kvD D)))) H2 ∧ H2 A2 = some (.lst ((((mkeys D).take i).filter fun k => decide (low < k)).map V.int)))
      ⟨same_upd nA, upd_same⟩ (fun i H2 _ ⟨sm, _⟩ => sm _ _ upd_same) ?_ ?_⟩⟩
    · rintro i x H2 H3 hi ⟨sm, eA⟩ ⟨rfl, k, v2, hk, rfl⟩
      unfold kvD at hk
      rw [List.getElem?_map] at hk
      obtain ⟨z, hz, ez⟩ := Option.map_eq_some_iff.mp hk
      cases ez
      have hz' : (mkeys D)[i]? = some z.1 := by rw [List.getElem?_map, hz]; rfl
      have fs := filter_step (p := fun k => decide (low < k)) hz'
      refine ⟨rfl, .int z.1, rfl, .int low, rfl, z.1, low, rfl, rfl, _, rfl, ite2 (fun c => ?_) (fun c => ?_)⟩
      · have c' : low < z.1 := of_decide_eq_true c
        rw [if_pos (decide_eq_true c')] at fs
        have ll := List.length_filter_le (fun k => decide (low < k)) ((mkeys D).take i)
        rw [List.length_take, List.length_map] at ll
        refine ⟨.int z.1, rfl, _, eA, sz_lt (by rw [List.length_map]; omega), fun b o hb => ?_, ?_⟩
        · rw [upd_ne (ne_of_none hb nA)]
          exact sm _ _ hb
        · rw [upd_same, fs, List.map_append]
          rfl
      · have c' : ¬ low < z.1 := fun z => c (decide_eq_true z)
        rw [if_neg (by simpa using c'), List.append_nil] at fs
        exact ⟨sm, by rw [fs]; exact eA⟩
    rintro H2 ⟨sm, eA⟩
    have lk : (kvD D).length = D.length := by unfold kvD; rw [List.length_map]
    rw [lk, show D.length = (mkeys D).length by rw [List.length_map], List.take_length] at eA
    have nAm : A2 ≠ m := fun z => by
      rw [z, upd_same] at nA
      cases nA
    have s3 : Same H1 (upd H2 m (.dK (kvD D))) := fun c o hc => by
      by_cases z : c = m
      · rw [z] at hc ⊢
        rw [em] at hc
        rw [upd_same]
        exact hc
      · rw [upd_ne z]
        exact sm _ _ (sl hc z)
    have eA3 : (upd H2 m (.dK (kvD D))) A2 = some (.lst (((mkeys D).filter fun k => decide (low < k)).map V.int)) := by
      rw [upd_ne nAm]
      exact eA
    refine ⟨sm _ _ upd_same, A2, _, rfl, rfl, SqL.of eA3, fun ab S pm so nS => ?_⟩
    have so : ab.Pairwise (· ≥ ·) := so
    have s4 : Same H1 (upd (upd H2 m (.dK (kvD D))) S (.lst (ab.map V.int))) := s3.trans (same_upd nS)
    have eS : (upd (upd H2 m (.dK (kvD D))) S (.lst (ab.map V.int))) S = some (.lst (ab.map V.int)) := upd_same
    have nSL : S ≠ L := (ne_of_none (s3 _ _ eL1) nS).symm
    generalize upd (upd H2 m (.dK (kvD D))) S (.lst (ab.map V.int)) = H4 at s4 eS
    have sh4 := sh1.same s4
    have eL4 := s4 _ _ eL1
    have nLm : L ≠ m := ne_of eL1 em (fun z => by cases z)
    have nSm : S ≠ m := ne_of eS sh4.at_m (fun z => by cases z)
    have hab : ∀ k, k ∈ ab ↔ k ∈ mkeys D ∧ low < k := fun k => by
      rw [pm.mem_iff, List.mem_filter, decide_eq_true_iff]
    have ndab : ab.Nodup := pm.nodup_iff.mpr (List.Pairwise.sublist List.filter_sublist mk.nd)
    have lab : ab.length ≤ D.length := by
      rw [pm.length_eq]
      have := List.length_filter_le (fun k => decide (low < k)) (mkeys D)
      rw [List.length_map] at this
      exact this
    have C0 : CutI D low T ab ab D 0 low [] := CutI.start mk lT hab (nd_gt so ndab) lab
    have k04 : Keep m H H4 := keepS (s1.trans s4)
    refine ⟨.ref S, rfl, S, rfl, ⟨_, SqL.of eS⟩, for_list (K := K) (a := S) (xs := ab.map V.int) (fun n σ H5 => ∃ (y5 : Option V) (Di : Mks) (w en : Int) (pcs : List Pc) (ts : List Addr), σ = [some (.ref g), some (.int low), some (.ref L), some (.int w), some (.int en), y5, some (.ref S)] ∧ CutI D low T ab (ab.drop n) Di w en pcs ∧ ShAt C3 H5 g m Di ∧ H5 L = some (.lst (ts.map V.ref)) ∧ PcH H5 ts pcs ∧ H5 S = some (.lst (ab.map V.int)) ∧ Keep m H H5)
      ⟨_, D, 0, low, [], [], rfl, C0, sh4, eL4, .nil, eS, k04⟩ (fun n σ H5 _ ⟨_, _, _, _, _, _, _, _, _, _, _, h, _⟩ => SqL.of h) ?_ ?_⟩
    · rintro n v σ H5 hv ⟨y5, Di, w, en, pcs, ts, rfl, CI, sh5, eL5, hp5, eS5, k5⟩
      rw [List.getElem?_map] at hv
      obtain ⟨k, hk, rfl⟩ := Option.map_eq_some_iff.mp hv
      obtain ⟨hn, ek⟩ := List.getElem?_eq_some_iff.mp hk
      have ed : ab.drop n = k :: ab.drop (n + 1) := by rw [List.drop_eq_getElem_cons hn, ek]
      rw [ed] at CI
      obtain ⟨vv, hvv⟩ := mval_in ((CI.rst k).mp List.mem_cons_self).1
      have st := CI.step hvv
      have lnp := CI.ln
      have ltp := hp5.length
      have lnp' : pcs.length + ((ab.drop (n + 1)).length + 1) ≤ D.length := lnp
      refine ⟨fun σ H6 => ∃ (ts' : List Addr), σ = [some (.ref g), some (.int low), some (.ref L), some (.int w), some (.int en), some (.int k), some (.ref S)] ∧ ShAt C3 H6 g m Di ∧ H6 L = some (.lst (ts'.map V.ref)) ∧ PcH H6 ts' (if w ≠ 0 then pcs ++ [(k, en, w)] else pcs) ∧ H6 S = some (.lst (ab.map V.int)) ∧ Keep m H H6, ?_, ?_⟩
      · refine ⟨.int w, rfl, rfl, _, rfl, ?_⟩
        by_cases w0 : w = 0
        · rw [show (!decide (V.int w = V.int 0)) = false by rw [w0]; rfl]
          refine iteF ⟨ts, rfl, sh5, eL5, ?_, eS5, k5⟩
          rw [if_neg (fun z => z w0)]
          exact hp5
        · rw [show (!decide (V.int w = V.int 0)) = true by rw [decide_eq_false (fun z => w0 (V.int.inj z))]; rfl]
          refine iteT ?_
          refine ⟨.ref L, rfl, .inl ⟨rfl, _, SqL.of eL5⟩, .int k, rfl, .int en, rfl, .int w, rfl, by show 3 ≤ sizeLine; decide, fun t nt => ?_⟩
          have s6 := same_upd (H := H5) (o := .tup [.int k, .int en, .int w]) nt
          have et : (upd H5 t (.tup [.int k, .int en, .int w])) t = some (t3 (k, en, w)) := upd_same
          generalize upd H5 t (.tup [.int k, .int en, .int w]) = H6 at s6 et
          refine ⟨L, _, _, rfl, rfl, s6 _ _ eL5, sz_lt (by rw [List.length_map]; omega), ?_⟩
          have k7 : Keep L H6 (upd H6 L (.lst (ts.map V.ref ++ [.ref t]))) := Keep.upd
          have kt7 := keepT_of k7 (s6 _ _ eL5) (fun xs z => by cases z)
          have sh6 := sh5.same s6
          obtain ⟨dx6, eg6⟩ := sh6.at_g
          refine ⟨ts ++ [t], rfl, ⟨⟨dx6, k7.of eg6 (ne_of eg6 (s6 _ _ eL5) (fun z => by cases z))⟩, k7.of sh6.at_m nLm.symm⟩, by rw [upd_same, List.map_append]; rfl, ?_, k7.of (s6 _ _ eS5) nSL, fun b o n hb => ?_⟩
          · rw [if_pos w0]
            exact PcH.snoc (kt7 _ _ et) ((hp5.keep fun b xs hb => s6 _ _ hb).keep kt7)
          · rw [upd_ne (ne_of_none hb nL)]
            exact s6 _ _ (k5 b o n hb)
      · rintro σ' H6 ⟨ts', rfl, sh6, eL6, hp6, eS6, k6⟩
        obtain ⟨dx6, eg6⟩ := sh6.at_g
        have em6 := sh6.at_m
        refine ⟨.int w, rfl, .ref g, rfl, g, C3, dx6, _, .ref m, rfl, eg6, TSh_.cl, TSh_.nM, rfl, m, rfl, .inl ⟨_, .inl em6⟩, .int k, rfl, _, Sum.inl k, .int vv, em6, rfl, by rw [valV_kvD, hvv]; rfl, w, vv, rfl, rfl, .int k, rfl, ?_⟩
        rw [dropK_kvD]
        have k7 : Keep m H6 (upd H6 m (.dK (kvD (mdrop Di k)))) := Keep.upd
        exact ⟨_, _, _, _, _, ts', rfl, st, sh6.put, k7.of eL6 nLm, hp6.keep (keepT_of k7 em6 (fun xs z => by cases z)), k7.of eS6 nSm, k6.trans k7⟩
    · rintro σ H5 ⟨y5, Di, w, en, pcs, ts, rfl, CI, sh5, eL5, hp5, eS5, k5⟩
      rw [show ab.drop (ab.map V.int).length = [] by rw [List.length_map]; exact List.drop_length] at CI
      have fin := CI.fin l0
      have lnp := CI.ln
      have ltp := hp5.length
      have lnp' : pcs.length + 0 ≤ D.length := lnp
      refine ⟨.int w, rfl, rfl, _, rfl, ?_⟩
      by_cases w0 : w = 0
      · rw [show (!decide (V.int w = V.int 0)) = false by rw [w0]; rfl]
        rw [if_neg (fun z => z w0), if_neg (fun z => z w0)] at fin
        exact iteF ⟨.ref L, rfl, qq _ L ts Di pcs fin sh5 eL5 hp5 nL k5⟩
      · rw [show (!decide (V.int w = V.int 0)) = true by rw [decide_eq_false (fun z => w0 (V.int.inj z))]; rfl]
        rw [if_pos w0, if_pos w0] at fin
        refine iteT ?_
        refine ⟨.ref L, rfl, .inl ⟨rfl, _, SqL.of eL5⟩, .int low, rfl, .int en, rfl, .int w, rfl, by show 3 ≤ sizeLine; decide, fun t nt => ?_⟩
        have s6 := same_upd (H := H5) (o := .tup [.int low, .int en, .int w]) nt
        have et : (upd H5 t (.tup [.int low, .int en, .int w])) t = some (t3 (low, en, w)) := upd_same
        generalize upd H5 t (.tup [.int low, .int en, .int w]) = H6 at s6 et
        refine ⟨L, _, _, rfl, rfl, s6 _ _ eL5, sz_lt (by rw [List.length_map]; omega), ?_⟩
        have k7 : Keep L H6 (upd H6 L (.lst (ts.map V.ref ++ [.ref t]))) := Keep.upd
        have kt7 := keepT_of k7 (s6 _ _ eL5) (fun xs z => by cases z)
        have sh6 := sh5.same s6
        obtain ⟨dx6, eg6⟩ := sh6.at_g
        have sh7 : ShAt C3 (upd H6 L (.lst (ts.map V.ref ++ [.ref t]))) g m Di := ⟨⟨dx6, k7.of eg6 (ne_of eg6 (s6 _ _ eL5) (fun z => by cases z))⟩, k7.of sh6.at_m nLm.symm⟩
        have eL7 : (upd H6 L (.lst (ts.map V.ref ++ [.ref t]))) L = some (.lst ((ts ++ [t]).map V.ref)) := by rw [upd_same, List.map_append]; rfl
        have hp7 : PcH (upd H6 L (.lst (ts.map V.ref ++ [.ref t]))) (ts ++ [t]) (pcs ++ [(low, en, w)]) := PcH.snoc (kt7 _ _ et) ((hp5.keep fun b xs hb => s6 _ _ hb).keep kt7)
        have kk7 : Keep m H (upd H6 L (.lst (ts.map V.ref ++ [.ref t]))) := fun b o n hb => by
          rw [upd_ne (ne_of_none hb nL)]
          exact s6 _ _ (k5 b o n hb)
        generalize upd H6 L (.lst (ts.map V.ref ++ [.ref t])) = H7 at sh7 eL7 hp7 kk7
        obtain ⟨dx7, eg7⟩ := sh7.at_g
        have dl := CI.dl
        refine ⟨.ref g, rfl, g, dx7, _, rfl, eg7, rfl, .int low, rfl, .int w, rfl, w, rfl, g, m, Di, low, -w, rfl, sh7, by omega, by omega, fun H8 sh8 k8 => ?_⟩
        exact ⟨.ref L, rfl, qq _ L _ _ _ fin sh8 (k8.of eL7 nLm) (hp7.keep (keepT_of k8 sh7.at_m (fun xs z => by cases z))) nL (kk7.trans k8)⟩
end

/-! ### led_by, wound, led_pieces -/
abbrev N_led_by : List Str := ["event", "place", "name", "begin", "end", "low", "step", "turned"]
abbrev P_led_by : List Str := ["event", "place"]
theorem sc_led_by : FnScope N_led_by P_led_by (defScope s_led_by) := ⟨rfl, rfl, rfl, by decide +kernel, rfl, by decide +kernel, by decide +kernel⟩
abbrev N_wound : List Str := ["low", "step", "piece", "begin", "end", "weight", "rounds", "rest", "start", "over"]
abbrev P_wound : List Str := ["low", "step", "piece"]
theorem sc_wound : FnScope N_wound P_wound (defScope s_wound) := ⟨rfl, rfl, rfl, by decide +kernel, rfl, by decide +kernel, by decide +kernel⟩
abbrev N_led_pieces : List Str := ["event", "pieces", "name", "begin", "end", "low", "step", "turned", "first", "behind", "weight", "piece", "told"]
abbrev P_led_pieces : List Str := ["event", "pieces"]
theorem sc_led_pieces : FnScope N_led_pieces P_led_pieces (defScope s_led_pieces) := ⟨rfl, rfl, rfl, by decide +kernel, rfl, by decide +kernel, by decide +kernel⟩
/-- a comprehension of two loops: the outer one over a list -/
theorem lc2_list {K : PySem.W.Frag} {a : Addr} {xs : List V} {g : TG} {tt : TT} {wi1 : TI} {g1 : TG} {tt1 : TT} {te : TE} {vs vs1 : List Nat} {σ : St} {H1 : Hp} {D : Addr} {Qd : Hp → Prop} (Pv : Nat → Hp → Prop) (h0 : Pv 0 (upd H1 D (.lst []))) (hl : ∀ i H, i ≤ xs.length → Pv i H → SqL K H a xs)
    (hs : ∀ i x H, xs[i]? = some x → Pv i H → g x (wipe σ vs) H fun σ2 H2 => wipe σ2 vs = wipe σ vs ∧ tt σ2 H2 fun b H3 =>
      if b = true then wi1 σ2 H3 fun J1 H4 => ∃ W1 : Nat → Nat → Hp → Prop, (∃ m, W1 0 m H4) ∧ ∀ j k H, W1 j k H →
        (J1.stop j H ∧ Pv (i + 1) H) ∨ (J1.go j H ∧ ∃ Nx1 : Hp → Prop, (∀ H', Nx1 H' → ∃ k', k' < k ∧ W1 (j + 1) k' H') ∧ ∀ x H', J1.yld j H x H' → g1 x (wipe σ2 vs1) H' fun σ3 H5 => wipe σ3 vs1 = wipe σ2 vs1 ∧ tt1 σ3 H5 fun b H6 =>
          if b = true then te σ3 H6 fun y H7 => ∃ acc, H7 D = some (.lst acc) ∧ acc.length < sizeLine ∧ Nx1 (upd H7 D (.lst (acc ++ [y]))) else Nx1 H6)
      else Pv (i + 1) H3) (hd : ∀ H, Pv xs.length H → Qd H) :
    ∃ W : Nat → Nat → Hp → Prop, (∃ m, W 0 m (upd H1 D (.lst []))) ∧ ∀ i m H, W i m H →
      ((Itl K a).stop i H ∧ Qd H) ∨ ((Itl K a).go i H ∧ ∃ Nx : Hp → Prop, (∀ H', Nx H' → ∃ m', m' < m ∧ W (i + 1) m' H') ∧ ∀ x H', (Itl K a).yld i H x H' → g x (wipe σ vs) H' fun σ2 H2 => wipe σ2 vs = wipe σ vs ∧ tt σ2 H2 fun b H3 =>
        if b = true then wi1 σ2 H3 fun J1 H4 => ∃ W1 : Nat → Nat → Hp → Prop, (∃ m, W1 0 m H4) ∧ ∀ j k H, W1 j k H →
          (J1.stop j H ∧ Nx H) ∨ (J1.go j H ∧ ∃ Nx1 : Hp → Prop, (∀ H', Nx1 H' → ∃ k', k' < k ∧ W1 (j + 1) k' H') ∧ ∀ x H', J1.yld j H x H' → g1 x (wipe σ2 vs1) H' fun σ3 H5 => wipe σ3 vs1 = wipe σ2 vs1 ∧ tt1 σ3 H5 fun b H6 =>
            if b = true then te σ3 H6 fun y H7 => ∃ acc, H7 D = some (.lst acc) ∧ acc.length < sizeLine ∧ Nx1 (upd H7 D (.lst (acc ++ [y]))) else Nx1 H6)
        else Nx H3) := by
  refine ⟨fun i m H => m = xs.length - i ∧ i ≤ xs.length ∧ Pv i H, ⟨xs.length, by simp, Nat.zero_le _, h0⟩, ?_⟩
  rintro i m H ⟨rfl, hi, p⟩
  have q := hl i H hi p
  by_cases hlt : i < xs.length
  · refine .inr ⟨⟨xs, xs[i], q, by simp [hlt]⟩, Pv (i + 1), fun H' p' => ⟨xs.length - (i + 1), by omega, rfl, hlt, p'⟩, fun x H' y => ?_⟩
    obtain ⟨e, y⟩ := y
    subst e
    exact hs i x _ (y xs q) p
  · have e : i = xs.length := by omega
    subst e
    exact .inl ⟨⟨xs, q, Nat.le_refl _⟩, hd H p⟩
/-- the same, told of the whole reading -/
theorem tLc2_var {K : PySem.W.Frag} {i0 : Nat} {a : Addr} {xs : List V} {g : TG} {tt : TT} {wi1 : TI} {g1 : TG} {tt1 : TT} {te : TE} {vs vs1 : List Nat} {σ : St} {H : Hp} {Q : VK} (hσ : σ[i0]? = some (some (.ref a))) (hq : SqL K H a xs)
    (h : ∀ D, H D = none → ∃ Pv : Nat → Hp → Prop, Pv 0 (upd H D (.lst [])) ∧ (∀ i H, i ≤ xs.length → Pv i H → SqL K H a xs) ∧ (∀ i x H, xs[i]? = some x → Pv i H → g x (wipe σ vs) H fun σ2 H2 => wipe σ2 vs = wipe σ vs ∧ tt σ2 H2 fun b H3 =>
      if b = true then wi1 σ2 H3 fun J1 H4 => ∃ W1 : Nat → Nat → Hp → Prop, (∃ m, W1 0 m H4) ∧ ∀ j k H, W1 j k H →
        (J1.stop j H ∧ Pv (i + 1) H) ∨ (J1.go j H ∧ ∃ Nx1 : Hp → Prop, (∀ H', Nx1 H' → ∃ k', k' < k ∧ W1 (j + 1) k' H') ∧ ∀ x H', J1.yld j H x H' → g1 x (wipe σ2 vs1) H' fun σ3 H5 => wipe σ3 vs1 = wipe σ2 vs1 ∧ tt1 σ3 H5 fun b H6 =>
          if b = true then te σ3 H6 fun y H7 => ∃ acc, H7 D = some (.lst acc) ∧ acc.length < sizeLine ∧ Nx1 (upd H7 D (.lst (acc ++ [y]))) else Nx1 H6)
      else Pv (i + 1) H3) ∧ ∀ H, Pv xs.length H → Q (.ref D) H) : tLc2 (iList K (tVar i0)) g tt wi1 g1 tt1 te vs vs1 σ H Q :=
  ⟨.ref a, hσ, a, rfl, ⟨_, hq⟩, fun D nD => by
    obtain ⟨Pv, h0, hl, hs, hd⟩ := h D nD
    exact lc2_list Pv h0 hl hs hd⟩
/-- its inner loop, over a list -/
theorem lc1_list {K : PySem.W.Frag} {a : Addr} {xs : List V} {g1 : TG} {tt1 : TT} {te : TE} {vs1 : List Nat} {σ2 : St} {H4 : Hp} {D : Addr} {Nx : Hp → Prop} (Pv : Nat → Hp → Prop) (h0 : Pv 0 H4) (hl : ∀ i H, i ≤ xs.length → Pv i H → SqL K H a xs)
    (hs : ∀ j x H, xs[j]? = some x → Pv j H → g1 x (wipe σ2 vs1) H fun σ3 H5 => wipe σ3 vs1 = wipe σ2 vs1 ∧ tt1 σ3 H5 fun b H6 =>
      if b = true then te σ3 H6 fun y H7 => ∃ acc, H7 D = some (.lst acc) ∧ acc.length < sizeLine ∧ Pv (j + 1) (upd H7 D (.lst (acc ++ [y]))) else Pv (j + 1) H6) (hd : ∀ H, Pv xs.length H → Nx H) :
    ∃ W1 : Nat → Nat → Hp → Prop, (∃ m, W1 0 m H4) ∧ ∀ j k H, W1 j k H →
      ((Itl K a).stop j H ∧ Nx H) ∨ ((Itl K a).go j H ∧ ∃ Nx1 : Hp → Prop, (∀ H', Nx1 H' → ∃ k', k' < k ∧ W1 (j + 1) k' H') ∧ ∀ x H', (Itl K a).yld j H x H' → g1 x (wipe σ2 vs1) H' fun σ3 H5 => wipe σ3 vs1 = wipe σ2 vs1 ∧ tt1 σ3 H5 fun b H6 =>
        if b = true then te σ3 H6 fun y H7 => ∃ acc, H7 D = some (.lst acc) ∧ acc.length < sizeLine ∧ Nx1 (upd H7 D (.lst (acc ++ [y]))) else Nx1 H6) := by
  refine ⟨fun i m H => m = xs.length - i ∧ i ≤ xs.length ∧ Pv i H, ⟨xs.length, by simp, Nat.zero_le _, h0⟩, ?_⟩
  rintro i m H ⟨rfl, hi, p⟩
  have q := hl i H hi p
  by_cases hlt : i < xs.length
  · refine .inr ⟨⟨xs, xs[i], q, by simp [hlt]⟩, Pv (i + 1), fun H' p' => ⟨xs.length - (i + 1), by omega, rfl, hlt, p'⟩, fun x H' y => ?_⟩
    obtain ⟨e, y⟩ := y
    subst e
    exact hs i x _ (y xs q) p
  · have e : i = xs.length := by omega
    subst e
    exact .inl ⟨⟨xs, q, Nat.le_refl _⟩, hd H p⟩
def spLedBy : Sp := fun vs H Q _ => ∃ (t : Addr) (m e lo st f p : Int), vs = [.ref t, .int p] ∧ H t = some (.tup (evV (.fold m e lo st f))) ∧ (f = 1 ∨ 1 ≤ st) ∧ Q (.int (evTo e lo st f p)) H
def spWound : Sp := fun vs H Q _ => ∃ (t : Addr) (lo st : Int) (c : Pc), vs = [.int lo, .int st, .ref t] ∧ H t = some (t3 c) ∧ 1 ≤ st ∧ st ≤ 4000000000000000000 ∧ c.1 ≤ c.2.1 ∧ c.2.1 - c.1 ≤ 1000000000000000000 ∧
  ∀ H' L ts, H' L = some (.lst (ts.map V.ref)) → PcH H' ts (wnd lo st c) → Same H H' → H L = none → Q (.ref L) H'
def spLedP : Sp := fun vs H Q _ => ∃ (t L : Addr) (m e lo st f : Int) (ts : List Addr) (pcs : List Pc), vs = [.ref t, .ref L] ∧ H t = some (.tup (evV (.fold m e lo st f))) ∧ (f = 1 ∨ 1 ≤ st) ∧ st ≤ 4000000000000000000 ∧ H L = some (.lst (ts.map V.ref)) ∧ PcH H ts pcs ∧ (∀ c ∈ pcs, c.1 ≤ c.2.1 ∧ c.2.1 - c.1 ≤ 1000000000000000000) ∧ pcs.length ≤ 20000 ∧
  ∀ H' L' ts', H' L' = some (.lst (ts'.map V.ref)) → PcH H' ts' (ledAll e lo st f pcs) → Same H H' → H L' = none → Q (.ref L') H'
theorem ledAll_step {e lo st f : Int} {pcs : List Pc} {i : Nat} {c : Pc} (h : pcs[i]? = some c) : ledAll e lo st f (pcs.take (i + 1)) = ledAll e lo st f (pcs.take i) ++ ledP e lo st f c := by
  unfold ledAll
  rw [List.take_add_one, h, List.flatMap_append]
  congr 1
  show ledP e lo st f c ++ [] = _
  rw [List.append_nil]
theorem PcH.append {H : Hp} {us : List Addr} {ds : List Pc} (hu : PcH H us ds) : ∀ {ts : List Addr} {pcs : List Pc}, PcH H ts pcs → PcH H (ts ++ us) (pcs ++ ds)
  | _, _, .nil => hu
  | _, _, .cons h r => .cons h (PcH.append hu r)
theorem ledP_length (e lo st f : Int) (c : Pc) : (ledP e lo st f c).length ≤ 3 := by
  unfold ledP wnd
  split <;> simp
theorem ledAll_length {e lo st f : Int} : ∀ (pcs : List Pc), (ledAll e lo st f pcs).length ≤ 3 * pcs.length
  | [] => Nat.le_refl _
  | c :: r => by
    show (ledP e lo st f c ++ ledAll e lo st f r).length ≤ _
    rw [List.length_append, List.length_cons]
    have := ledP_length e lo st f c
    have := ledAll_length (e := e) (lo := lo) (st := st) (f := f) r
    omega
section
variable {P : Program} {w : World} {K : PySem.W.Frag} {mg : Str → Option Value} {base : Heap}
theorem ok_ledBy {f : Addr} {fd : FuncData} (D : DefAt K mg "led_by" s_led_by P_led_by f fd) : FnOk P w K mg base CX0 1 f fd P_led_by spLedBy := by
  refine D.F.ok sc_led_by (fun vs H Q E h => ?_) (fun cdv A outer s H vs Q E hr h => ?_)
  · obtain ⟨t, m, e, lo, st, f, p, rfl, _⟩ := h
    rfl
  · obtain ⟨t, m, e, lo, st, f, p, rfl, ht, hs, q⟩ := h
    refine ⟨_, (pss_cons (ps_asg (pv 0) (pg_tup (by rfl) (pgs_cons (pg_name (i := 2) sc_led_by.nd rfl (.inl rfl)) (pgs_cons (pg_name (i := 3) sc_led_by.nd rfl (.inl rfl)) (pgs_cons (pg_name (i := 4) sc_led_by.nd rfl (.inl rfl)) (pgs_cons (pg_name (i := 5) sc_led_by.nd rfl (.inl rfl)) (pgs_cons (pg_name (i := 6) sc_led_by.nd rfl (.inl rfl)) (pgs_cons (pg_name (i := 7) sc_led_by.nd rfl (.inl rfl)) pgs_nil))))))))
      (pss_cons (ps_if (pt_cmpR op_eq (pv 7) pe_int (nomark _)) (pss_one (ps_ret (pe_op op_sub (pe_op op_sub (pe_op op_add (pv 5) (pv 4)) pe_int) (pv 1)))) pss_nil)
      (pss_one (ps_ret (pe_op op_add (pv 5) (pe_op op_mod (pe_op op_sub (pv 1) (pv 5)) (pv 6))))))), ?_⟩
    refine ⟨.ref t, rfl, t, _, rfl, SqT.of ht, rfl, .str "fold", _, rfl, .int m, _, rfl, .int e, _, rfl, .int lo, _, rfl, .int st, _, rfl, .int f, _, rfl, rfl, ?_⟩
    unfold evTo at q
    refine ⟨.int f, rfl, rfl, _, rfl, ite2 (fun c => ?_) (fun c => ?_)⟩
    · have c' : f = 1 := V.int.inj (of_decide_eq_true c)
      rw [if_pos c'] at q
      exact ⟨.int lo, rfl, .int e, rfl, _, _, rfl, rfl, _, _, rfl, rfl, .int p, rfl, _, _, rfl, rfl, q⟩
    · have c' : ¬ f = 1 := fun z => c (decide_eq_true (congrArg V.int z))
      rw [if_neg c', show (if st > 1 then st else 1) = st by split <;> omega] at q
      exact ⟨.int lo, rfl, .int p, rfl, .int lo, rfl, _, _, rfl, rfl, .int st, rfl, _, _, rfl, rfl, (by show 0 < st; omega), _, _, rfl, rfl, q⟩
theorem ok_wound {f : Addr} {fd : FuncData} (D : DefAt K mg "wound" s_wound P_wound f fd) (zDm : mg "divmod" = none) (B : Bn mg) : FnOk P w K mg base CX0 1 f fd P_wound spWound := by
  refine D.F.ok sc_wound (fun vs H Q E h => ?_) (fun cdv A outer s H vs Q E hr h => ?_)
  · obtain ⟨t, lo, st, c, rfl, _⟩ := h
    rfl
  · obtain ⟨t, lo, st, c, rfl, ht, h1, h2, h3, h4, q⟩ := h
    refine ⟨_, (pss_cons (ps_asg (pv 2) (pg_tup (by rfl) (pgs_cons (pg_name (i := 3) sc_wound.nd rfl (.inl rfl)) (pgs_cons (pg_name (i := 4) sc_wound.nd rfl (.inl rfl)) (pgs_cons (pg_name (i := 5) sc_wound.nd rfl (.inl rfl)) pgs_nil)))))
      (pss_cons (ps_asg (pe_callB call_divmodW (by rfl) zDm (by decide +kernel) (pa_cons (pe_op op_sub (pv 4) (pv 3)) (pa_cons (pv 1) pa_nil))) (pg_tup (by rfl) (pgs_cons (pg_name (i := 6) sc_wound.nd rfl (.inl rfl)) (pgs_cons (pg_name (i := 7) sc_wound.nd rfl (.inl rfl)) pgs_nil))))
      (pss_cons (ps_set (i := 8) sc_wound.nd rfl (.inl rfl) (pe_op op_add (pv 0) (pe_op op_mod (pe_op op_sub (pv 3) (pv 0)) (pv 1))))
      (pss_cons (ps_set (i := 9) sc_wound.nd rfl (.inl rfl) (pe_op op_sub (pe_op op_add (pv 8) (pv 7)) (pe_op op_add (pv 0) (pv 1))))
      (pss_one (ps_ret (pe_lst (pa_cons (pe_tup (pa_cons (pv 0) (pa_cons (pe_op op_add (pv 0) (pv 1)) (pa_cons (pe_op op_mul (pv 6) (pv 5)) pa_nil)))) (pa_cons (pe_tup (pa_cons (pv 8) (pa_cons (pe_callB (call_min2 rfl) (by rfl) B.min (by decide +kernel) (pa_cons (pe_op op_add (pv 8) (pv 7)) (pa_cons (pe_op op_add (pv 0) (pv 1)) pa_nil))) (pa_cons (pv 5) pa_nil)))) (pa_cons (pe_tup (pa_cons (pv 0) (pa_cons (pe_op op_add (pv 0) (pe_callB (call_max2 rfl) (by rfl) B.max (by decide +kernel) (pa_cons pe_int (pa_cons (pv 9) pa_nil)))) (pa_cons (pv 5) pa_nil)))) pa_nil)))))))))), ?_⟩
    have q0 : 0 ≤ (c.2.1 - c.1) / st := Int.ediv_nonneg (by omega) (by omega)
    have q1 : (c.2.1 - c.1) / st ≤ c.2.1 - c.1 := Int.ediv_le_self _ (by omega)
    refine ⟨.ref t, rfl, t, _, rfl, SqT.of ht, rfl, .int c.1, _, rfl, .int c.2.1, _, rfl, .int c.2.2, _, rfl, rfl, ?_⟩
    refine ⟨.int c.2.1, rfl, .int c.1, rfl, _, _, rfl, rfl, .int st, rfl, _, _, rfl, ⟨by omega, PyProof.noPylong_of_log2 (wide_div (i := 0) (b := 64) (by omega) (by omega) (by decide) (by decide)).2⟩, fun t2 nt2 => ?_⟩
    have s2 := same_upd (H := H) (o := .tup [.int ((c.2.1 - c.1) / st), .int ((c.2.1 - c.1) % st)]) nt2
    have e2 : (upd H t2 (.tup [.int ((c.2.1 - c.1) / st), .int ((c.2.1 - c.1) % st)])) t2 = some (.tup [.int ((c.2.1 - c.1) / st), .int ((c.2.1 - c.1) % st)]) := upd_same
    generalize upd H t2 (.tup [.int ((c.2.1 - c.1) / st), .int ((c.2.1 - c.1) % st)]) = H2 at s2 e2
    refine ⟨t2, _, rfl, SqT.of e2, rfl, .int ((c.2.1 - c.1) / st), _, rfl, .int ((c.2.1 - c.1) % st), _, rfl, rfl, ?_⟩
    refine ⟨.int lo, rfl, .int c.1, rfl, .int lo, rfl, _, _, rfl, rfl, .int st, rfl, _, _, rfl, rfl, (by show 0 < st; omega), _, _, rfl, rfl, ?_⟩
    refine ⟨.int (lo + (c.1 - lo) % st), rfl, .int ((c.2.1 - c.1) % st), rfl, _, _, rfl, rfl, .int lo, rfl, .int st, rfl, _, _, rfl, rfl, _, _, rfl, rfl, ?_⟩
    refine ⟨.int lo, rfl, .int lo, rfl, .int st, rfl, _, _, rfl, rfl, .int ((c.2.1 - c.1) / st), rfl, .int c.2.2, rfl, _, _, rfl, rfl, .inl ⟨by omega, by omega⟩, by show 3 ≤ sizeLine; decide, fun u1 n1 => ?_⟩
    refine ⟨.int (lo + (c.1 - lo) % st), rfl, .int (lo + (c.1 - lo) % st), rfl, .int ((c.2.1 - c.1) % st), rfl, _, _, rfl, rfl, .int lo, rfl, .int st, rfl, _, _, rfl, rfl, _, _, rfl, .int c.2.2, rfl, by show 3 ≤ sizeLine; decide, fun u2 n2 => ?_⟩
    refine ⟨.int lo, rfl, .int lo, rfl, .int _, rfl, 0, _, rfl, _, _, rfl, rfl, .int c.2.2, rfl, by show 3 ≤ sizeLine; decide, fun u3 n3 => ?_⟩
    refine ⟨by show 3 ≤ sizeLine; decide, fun L nL => ?_⟩
    have sA := same_upd (H := H2) (o := .tup [.int lo, .int (lo + st), .int ((c.2.1 - c.1) / st * c.2.2)]) n1
    refine q _ L [u1, u2, u3] upd_same (.cons ?_ (.cons ?_ (.cons ?_ .nil))) (((s2.trans (same_upd n1)).trans (same_upd n2)).trans ((same_upd n3).trans (same_upd nL))) ((((s2.trans (same_upd n1)).trans (same_upd n2)).trans (same_upd n3)).free nL)
    · exact (same_upd nL) _ _ ((same_upd n3) _ _ ((same_upd n2) _ _ upd_same))
    · exact (same_upd nL) _ _ ((same_upd n3) _ _ upd_same)
    · exact (same_upd nL) _ _ upd_same
end

section
variable {P : Program} {w : World} {K : PySem.W.Frag} {mg : Str → Option Value} {base : Heap}
theorem ok_ledP {f fW : Addr} {fd fdW : FuncData} (D : DefAt K mg "led_pieces" s_led_pieces P_led_pieces f fd) (D_wound : DefAt K mg "wound" s_wound P_wound fW fdW) (zDm : mg "divmod" = none) (B : Bn mg) : FnOk P w K mg base CX0 2 f fd P_led_pieces spLedP := by
  have G_wound : FnOk P w K mg base CX0 1 fW fdW P_wound spWound := ok_wound D_wound zDm B
  refine D.F.ok sc_led_pieces (fun vs H Q E h => ?_) (fun cdv A outer s H vs Q E hr h => ?_)
  · obtain ⟨t, L, m, e, lo, st, f, ts, pcs, rfl, _⟩ := h
    rfl
  · obtain ⟨t, L, m, e, lo, st, f, ts, pcs, rfl, ht, hs, hst, eL, hp, hc, hl, q⟩ := h
    refine ⟨_, (C8.pss_cut (ps_asg (pv 0) (pg_tup (by rfl) (pgs_cons (pg_name (i := 2) sc_led_pieces.nd rfl (.inl rfl)) (pgs_cons (pg_name (i := 3) sc_led_pieces.nd rfl (.inl rfl)) (pgs_cons (pg_name (i := 4) sc_led_pieces.nd rfl (.inr rfl)) (pgs_cons (pg_name (i := 5) sc_led_pieces.nd rfl (.inr rfl)) (pgs_cons (pg_name (i := 6) sc_led_pieces.nd rfl (.inr rfl)) (pgs_cons (pg_name (i := 7) sc_led_pieces.nd rfl (.inl rfl)) pgs_nil))))))))
      (pss_cons (ps_if (pt_cmpR op_eq (pv 7) pe_int (nomark _)) (pss_one (ps_ret (pe_lc (own := [("first", 8), ("behind", 9), ("weight", 10)]) (g := gTup K 3 (gCons (gName 8) (gCons (gName 9) (gCons (gName 10) gNil)))) (by rfl) sc_led_pieces.nd (pi_list (pv 1)) (blkOk_by (own := [("first", 8), ("behind", 9), ("weight", 10)]) (N := N_led_pieces) (sc := defScope s_led_pieces) (by decide +kernel)) (fun _ _ _ _ _ => (pg_tup (by rfl) (pgs_cons (pg_name (i := 8) sc_led_pieces.nd rfl (.inl rfl)) (pgs_cons (pg_name (i := 9) sc_led_pieces.nd rfl (.inl rfl)) (pgs_cons (pg_name (i := 10) sc_led_pieces.nd rfl (.inl rfl)) pgs_nil))))) (fun _ _ _ _ _ => pts_nil) (fun _ _ _ _ _ => (pe_tup (pa_cons (pe_op op_sub (pe_op op_add (pv 5) (pv 4)) (pv 9)) (pa_cons (pe_op op_sub (pe_op op_add (pv 5) (pv 4)) (pv 8)) (pa_cons (pv 10) pa_nil)))))))) pss_nil)
      (pss_one (ps_ret (pe_lc2 (own := [("piece", 11), ("told", 12)]) (vs1 := [12]) (g := gName 11) (g1 := gName 12) (by rfl) sc_led_pieces.nd (pi_list (pv 1)) (blkOk_by (own := [("piece", 11), ("told", 12)]) (N := N_led_pieces) (sc := defScope s_led_pieces) (by decide +kernel)) (by decide) (fun _ _ _ _ _ => (pg_name (i := 11) sc_led_pieces.nd rfl (.inl rfl))) (fun _ _ _ _ _ => pts_nil) (fun _ _ _ _ _ => (show PI _ _ _ (iList K _) from (pi_list (pe_call G_wound (hr.mono (by omega)) (by rfl) D_wound.g D_wound.F.kp D_wound.b .nil pass0 (pa_cons (pv 5) (pa_cons (pv 6) (pa_cons (pv 11) pa_nil))))))) (fun _ _ _ _ _ => (pg_name (i := 12) sc_led_pieces.nd rfl (.inl rfl))) (fun _ _ _ _ _ => pts_nil) (fun _ _ _ _ _ => (pv 12))))))), ?_⟩
    have lts := hp.length
    refine ⟨fun σ H' => σ = [some (.ref t), some (.ref L), some (.str "fold"), some (.int m), some (.int e), some (.int lo), some (.int st), some (.int f), none, none, none, none, none] ∧ H = H', ⟨.ref t, rfl, t, _, rfl, SqT.of ht, rfl, .str "fold", _, rfl, .int m, _, rfl, .int e, _, rfl, .int lo, _, rfl, .int st, _, rfl, .int f, _, rfl, rfl, rfl, rfl⟩, ?_⟩
    rintro σ _ ⟨rfl, rfl⟩
    refine ⟨.int f, rfl, rfl, _, rfl, ite2 (fun c => ?_) (fun c => ?_)⟩
    · have c' : f = 1 := V.int.inj (of_decide_eq_true c)
      refine ⟨.ref L, rfl, L, rfl, ⟨_, SqL.of eL⟩, fun D2 nD => lc_list (K := K) (a := L) (xs := ts.map V.ref) (fun n H2 => ∃ ts2, Same H H2 ∧ H2 D2 = some (.lst (ts2.map V.ref)) ∧ PcH H2 ts2 (ledAll e lo st f (pcs.take n)))
        ⟨[], same_upd nD, upd_same, .nil⟩ (fun n H2 _ ⟨_, sm, _⟩ => SqL.of (sm _ _ eL)) ?_ ?_⟩
      · rintro n v H2 hv ⟨ts2, sm, eD, h2⟩
        rw [List.getElem?_map] at hv
        obtain ⟨u, hu, rfl⟩ := Option.map_eq_some_iff.mp hv
        obtain ⟨x, hx, eu⟩ := hp.at hu
        have ls := ledAll_step (e := e) (lo := lo) (st := st) (f := f) hx
        have l2 := h2.length
        have l3 := ledAll_length (e := e) (lo := lo) (st := st) (f := f) (pcs.take n)
        rw [List.length_take] at l3
        refine ⟨u, _, rfl, SqT.of (sm _ _ eu), rfl, .int x.1, _, rfl, .int x.2.1, _, rfl, .int x.2.2, _, rfl, rfl, ?_⟩
        refine ⟨rfl, ?_⟩
        refine ⟨.int lo, rfl, .int e, rfl, lo, e, rfl, rfl, ?_⟩
        refine ⟨.int x.2.1, rfl, lo + e, x.2.1, rfl, rfl, ?_⟩
        refine ⟨.int lo, rfl, .int e, rfl, lo, e, rfl, rfl, ?_⟩
        refine ⟨.int x.1, rfl, lo + e, x.1, rfl, rfl, ?_⟩
        refine ⟨.int x.2.2, rfl, by show 3 ≤ sizeLine; decide, fun y ny => ?_⟩
        have s3 := same_upd (H := H2) (o := .tup [.int (lo + e - x.2.1), .int (lo + e - x.1), .int x.2.2]) ny
        have ey : (upd H2 y (.tup [.int (lo + e - x.2.1), .int (lo + e - x.1), .int x.2.2])) y = some (t3 (lo + e - x.2.1, lo + e - x.1, x.2.2)) := upd_same
        generalize upd H2 y (.tup [.int (lo + e - x.2.1), .int (lo + e - x.1), .int x.2.2]) = H3 at s3 ey
        refine ⟨_, s3 _ _ eD, sz_lt (by rw [List.length_map]; omega), ts2 ++ [y], fun b o hb => ?_, by rw [upd_same, List.map_append]; rfl, ?_⟩
        · rw [upd_ne (ne_of_none hb nD)]
          exact s3 _ _ (sm _ _ hb)
        · have k4 : Keep D2 H3 (upd H3 D2 (.lst (ts2.map V.ref ++ [.ref y]))) := Keep.upd
          have kt := keepT_of k4 (s3 _ _ eD) (fun xs z => by cases z)
          rw [ls, show ledP e lo st f x = [(lo + e - x.2.1, lo + e - x.1, x.2.2)] by unfold ledP; rw [if_pos c']]
          exact PcH.snoc (kt _ _ ey) ((h2.keep fun b xs hb => s3 _ _ hb).keep kt)
      · rintro H2 ⟨ts2, sm, eD, h2⟩
        rw [List.length_map, lts, List.take_length] at h2
        exact q H2 D2 ts2 eD h2 sm nD
    · have c' : ¬ f = 1 := fun z => c (decide_eq_true (congrArg V.int z))
      refine tLc2_var (K := K) (i0 := 1) (a := L) (xs := ts.map V.ref) rfl (SqL.of eL) fun D2 nD => ⟨fun n H2 => ∃ ts2, Same H H2 ∧ H2 D2 = some (.lst (ts2.map V.ref)) ∧ PcH H2 ts2 (ledAll e lo st f (pcs.take n)),
        ⟨[], same_upd nD, upd_same, .nil⟩, fun n H2 _ ⟨_, sm, _⟩ => SqL.of (sm _ _ eL), ?_, ?_⟩
      · rintro n v H2 hv ⟨ts2, sm, eD, h2⟩
        rw [List.getElem?_map] at hv
        obtain ⟨u, hu, rfl⟩ := Option.map_eq_some_iff.mp hv
        obtain ⟨x, hx, eu⟩ := hp.at hu
        have hcx := hc x (List.mem_of_getElem? hx)
        have ls := ledAll_step (e := e) (lo := lo) (st := st) (f := f) hx
        rw [show ledP e lo st f x = wnd lo st x by unfold ledP; rw [if_neg c']] at ls
        have l2 := h2.length
        have l3 := ledAll_length (e := e) (lo := lo) (st := st) (f := f) (pcs.take n)
        rw [List.length_take] at l3
        refine ⟨rfl, .int lo, rfl, .int st, rfl, .ref u, rfl, u, lo, st, x, rfl, sm _ _ eu, by omega, hst, hcx.1, hcx.2, fun H3 L3 us e3 h3 s3 n3 => ?_⟩
        have lu : us.length = 3 := h3.length
        have nL3 : L3 ≠ D2 := (ne_of_none eD n3).symm
        refine ⟨L3, rfl, ⟨_, SqL.of e3⟩, lc1_list (K := K) (a := L3) (xs := us.map V.ref) (fun j H4 => Keep D2 H3 H4 ∧ H4 D2 = some (.lst ((ts2 ++ us.take j).map V.ref))) ⟨Keep.refl _ _, by rw [List.take_zero, List.append_nil]; exact s3 _ _ eD⟩ (fun j H4 _ ⟨k4, _⟩ => SqL.of (k4.of e3 nL3)) ?_ ?_⟩
        · rintro j v H4 hv ⟨k4, e4⟩
          rw [List.getElem?_map] at hv
          obtain ⟨z, hz, rfl⟩ := Option.map_eq_some_iff.mp hv
          refine ⟨rfl, .ref z, rfl, _, e4, sz_lt (by rw [List.length_map, List.length_append, List.length_take]; omega), k4.trans Keep.upd, ?_⟩
          rw [upd_same, List.take_add_one, hz, ← List.append_assoc, List.map_append (l₂ := (some z).toList)]
          rfl
        · rintro H4 ⟨k4, e4⟩
          rw [List.length_map, List.take_length] at e4
          have kt := keepT_of k4 (s3 _ _ eD) (fun xs z => by cases z)
          refine ⟨ts2 ++ us, fun b o hb => k4.of (s3 _ _ (sm _ _ hb)) (ne_of_none hb nD), e4, ?_⟩
          rw [ls]
          exact PcH.append (h3.keep kt) ((h2.keep fun b xs hb => s3 _ _ hb).keep kt)
      · rintro H2 ⟨ts2, sm, eD, h2⟩
        rw [List.length_map, lts, List.take_length] at h2
        exact q H2 D2 ts2 eD h2 sm nD
end

/-! ### settled -/
abbrev N_settled : List Str := ["events", "begin", "end", "shares", "home", "event", "pieces", "first", "behind", "weight"]
abbrev P_settled : List Str := ["events", "begin", "end"]
theorem sc_settled : FnScope N_settled P_settled (defScope s_settled) := ⟨rfl, rfl, rfl, by decide +kernel, rfl, by decide +kernel, by decide +kernel⟩
def EvS : Ev → Prop
  | .bare _ _ => True
  | .fold _ _ _ st f => (f = 1 ∨ 1 ≤ st) ∧ st ≤ 4000000000000000000
theorem PcsF.len : ∀ {pcs : List Pc} {low T : Int}, PcsF low T pcs → low ≤ T → (pcs.length : Int) ≤ T - low
  | [], low, T, _, h => by show (0 : Int) ≤ _; omega
  | c :: r, low, T, h, hT => by
    obtain ⟨f1, f2⟩ := List.pairwise_cons.mp h.fall
    have rc := h.rg c List.mem_cons_self
    have k := PcsF.len (pcs := r) (low := low) (T := c.1) ⟨f2, fun x hx => by
      have a := h.rg x (List.mem_cons_of_mem _ hx)
      exact ⟨a.1, a.2.1, f1 x hx, a.2.2.2⟩⟩ rc.1
    rw [List.length_cons]
    omega
theorem PcH.rev {H : Hp} : ∀ {ts : List Addr} {pcs : List Pc}, PcH H ts pcs → PcH H ts.reverse pcs.reverse
  | _, _, .nil => .nil
  | _, _, .cons h r => by
    rw [List.reverse_cons, List.reverse_cons]
    exact PcH.snoc h (PcH.rev r)
theorem mlay_length {D : Mks} {b e x : Int} : (mlay D b e x).length ≤ D.length + 2 := by
  unfold mlay
  split
  · have a := mchg_length (D := D) (k := b) (d := x)
    have b := mchg_length (D := mchg D b x) (k := e) (d := -x)
    omega
  · omega
theorem layAll_length : ∀ {l : List Pc} {D : Mks}, (layAll D l).length ≤ D.length + 2 * l.length
  | [], D => Nat.le_refl _
  | c :: l, D => by
    have a := mlay_length (D := D) (b := c.1) (e := c.2.1) (x := c.2.2)
    have b := layAll_length (l := l) (D := mlay D c.1 c.2.1 c.2.2)
    show (layAll (mlay D c.1 c.2.1 c.2.2) l).length ≤ _
    rw [List.length_cons]
    omega
theorem layAll_step {D : Mks} {l : List Pc} {j : Nat} {c : Pc} (h : l[j]? = some c) : layAll D (l.take (j + 1)) = mlay (layAll D (l.take j)) c.1 c.2.1 c.2.2 := by
  unfold layAll
  rw [List.take_add_one, h, List.foldl_append]
  rfl
/-- what the events of a folding to the end are -/
structure EvsOk (R : Int → Int → Prop) (n : Int) (evs : List Ev) : Prop where
  ch : ChF R n evs.reverse 0
  st : ∀ v ∈ evs, EvS v
  ln : evs.length ≤ 1000
  cr : Chn R n 0 evs
theorem Past.at {H : Hp} : ∀ {ps : List V} {L : List Ev}, Past H ps L → ∀ {i : Nat} {v : V}, ps[i]? = some v → ∃ ev t, L[i]? = some ev ∧ v = .ref t ∧ H t = some (.tup (evV ev))
  | _, _, .nil, i, v, h => by simp at h
  | _, _, .cons h r, 0, v, e => by
    cases e
    obtain ⟨t, a, b⟩ := h
    exact ⟨_, t, rfl, a, b⟩
  | _, _, .cons h r, i + 1, v, e => Past.at r e
def spSettled : Sp := fun vs H Q _ => ∃ (L : Addr) (ps : List V) (evs : List Ev) (R : Int → Int → Prop) (n b : Int) (k : Nat), vs = [.ref L, .int b, .int (b + k)] ∧ H L = some (.lst ps) ∧ Past H ps evs ∧ EvsOk R n evs ∧ 0 ≤ b ∧ b + k ≤ n ∧ n ≤ 1000000000000000000 ∧
  ∀ H' L' ts pcs, PcsR n pcs → pcs.length ≤ 5000 → (∀ p, 0 ≤ p → pw pcs p = wtL evs.reverse b k p) → H' L' = some (.lst (ts.map V.ref)) → PcH H' ts pcs → Same H H' → H L' = none → Q (.ref L') H'
section
variable {P : Program} {w : World} {K : PySem.W.Frag} {mg : Str → Option Value} {base : Heap} {C3 : Addr}
theorem ok_settled {f fI fY fC fL : Addr} {fd fdI fdY fdC fdL : FuncData} (D : DefAt K mg "settled" s_settled P_settled f fd) (TSh_ : ShT K mg C3) (mkSh_ : Mk K C3 fI) (G_Sh_init : FnOk P w K mg base CX0 1 fI fdI P_Sh_init (spShInit C3)) (b_Sh_init : Binds K fdI P_Sh_init [])
    (M_Sh_lay : Meth K C3 "lay" fY) (G_Sh_lay : FnOk P w K mg base CX0 2 fY fdY P_Sh_lay (spLay C3)) (b_Sh_lay : Binds K fdY P_Sh_lay []) (M_Sh_cut_off : Meth K C3 "cut_off" fC) (G_Sh_cut_off : FnOk P w K mg base CX0 2 fC fdC P_Sh_cut_off (spCut C3)) (b_Sh_cut_off : Binds K fdC P_Sh_cut_off [])
    (D_led_pieces : DefAt K mg "led_pieces" s_led_pieces P_led_pieces fL fdL) (G_led_pieces : FnOk P w K mg base CX0 2 fL fdL P_led_pieces spLedP) (zRv : mg "reversed" = none) : FnOk P w K mg base CX0 3 f fd P_settled spSettled := by
  refine D.F.ok sc_settled (fun vs H Q E h => ?_) (fun cdv A outer s H vs Q E hr h => ?_)
  · obtain ⟨L, ps, evs, R, n, b, k, rfl, _⟩ := h
    rfl
  · obtain ⟨L, ps, evs, R, n, b, k, rfl, eL, hpa, ok, b0, bn, n1, qq⟩ := h
    refine ⟨_, (pss_cons (ps_set (i := 3) sc_settled.nd rfl (.inl rfl) (pe_make0 mkSh_ G_Sh_init (hr.mono (by omega)) (by rfl) TSh_.gC b_Sh_init .nil pass0))
      (pss_cons (ps_expr (pe_meth (pv 3) TSh_.cl M_Sh_lay G_Sh_lay (hr.mono (by omega)) b_Sh_lay .nil pass0 (pa_cons (pv 1) (pa_cons (pv 2) (pa_cons pe_int pa_nil)))))
      (pss_cons (ps_set (i := 4) sc_settled.nd rfl (.inl rfl) (pe_lst pa_nil))
      (pss_cons (ps_for PassesOwn.never rfl (pi_reversed (by rfl) zRv (pa_cons (pv 0) pa_nil)) (pg_name (i := 5) sc_settled.nd rfl (.inl rfl)) (pss_cons (ps_set (i := 6) sc_settled.nd rfl (.inl rfl) (pe_meth (pv 3) TSh_.cl M_Sh_cut_off G_Sh_cut_off (hr.mono (by omega)) b_Sh_cut_off .nil pass0 (pa_cons (pe_ix ix_tup (pv 5) pe_int (fun _ _ => rfl)) pa_nil)))
      (pss_one (ps_if (pt_cmpR op_eq (pe_ix ix_tup (pv 5) pe_int (fun _ _ => rfl)) pe_str (nomark _)) (pss_one (ps_expr (pe_bm PySem.F.plainAttrs_list PySem.F.slot_list_extend PySem.F.type_list_extend mt_extend (pv 4) (pa_cons (pv 6) pa_nil)))) (pss_one (ps_for PassesOwn.never rfl (pi_list (pe_call G_led_pieces (hr.mono (by omega)) (by rfl) D_led_pieces.g D_led_pieces.F.kp D_led_pieces.b .nil pass0 (pa_cons (pv 5) (pa_cons (pv 6) pa_nil)))) (pg_tup (by rfl) (pgs_cons (pg_name (i := 7) sc_settled.nd rfl (.inl rfl)) (pgs_cons (pg_name (i := 8) sc_settled.nd rfl (.inl rfl)) (pgs_cons (pg_name (i := 9) sc_settled.nd rfl (.inl rfl)) pgs_nil)))) (pss_one (ps_expr (pe_meth (pv 3) TSh_.cl M_Sh_lay G_Sh_lay (hr.mono (by omega)) b_Sh_lay .nil pass0 (pa_cons (pv 7) (pa_cons (pv 8) (pa_cons (pv 9) pa_nil))))))))))))
      (pss_cons (ps_expr (pe_bm0 PySem.F.plainAttrs_list PySem.F.slot_list_reverse PySem.F.type_list_reverse mt_reverse (pv 4)))
      (pss_one (ps_ret (pv 4)))))))), ?_⟩
    have lev := ok.ln
    have lps := hpa.length
    have n0 := ok.ch.le
    refine fun g dg ng ndg nex => ?_
    have s0 := same_new (C := C3) ng ndg
    have eg0 : (upd (upd H dg (.own g)) g (.ins C3 dg [])) g = some (.ins C3 dg []) := upd_same
    generalize upd (upd H dg (.own g)) g (.ins C3 dg []) = H0 at s0 eg0
    refine ⟨g, dg, rfl, eg0, fun H1 m sh1 nm1 k1 => ⟨rfl, ?_⟩⟩
    have s1 : Same H H1 := Keep.new s0 ng k1
    have nm : H m = none := s0.free nm1
    obtain ⟨dg1, eg1⟩ := sh1.at_g
    refine ⟨.ref g, rfl, g, dg1, _, rfl, eg1, rfl, .int b, rfl, .int (b + k), rfl, g, m, [], b, b + k, 1, rfl, sh1, by decide, fun H2 sh2 k2 => ?_⟩
    have s2 : Same H H2 := Keep.new s1 nm k2
    refine ⟨Nat.zero_le _, fun hm nhm => ?_⟩
    have s3 := same_upd (H := H2) (o := .lst []) nhm
    have ehm : (upd H2 hm (.lst [])) hm = some (.lst []) := upd_same
    have nhm0 : H hm = none := s2.free nhm
    generalize upd H2 hm (.lst []) = H3 at s3 ehm
    have sh3 := sh2.same s3
    have nhmm : hm ≠ m := ne_of ehm sh3.at_m (fun z => by cases z)
    have s03 := s2.trans s3
    refine ⟨.ref L, rfl, L, ps, rfl, SqL.of (s03 _ _ eL), for_it walk_rev (fun i σ H4 => ∃ (y5 y6 y7 y8 y9 : Option V) (t : Int) (Dm : Mks) (home : List Pc) (ts : List Addr), σ = [some (.ref L), some (.int b), some (.int (b + k)), some (.ref g), some (.ref hm), y5, y6, y7, y8, y9] ∧ t ≤ n ∧ ChF R t (evs.reverse.drop i) 0 ∧ SetI n b k (evs.reverse.take i) t Dm home ∧ ShAt C3 H4 g m Dm ∧ H4 hm = some (.lst (ts.map V.ref)) ∧ PcH H4 ts home ∧ Same H H4)
      ⟨none, none, none, none, none, n, _, [], [], rfl, Int.le_refl _, ok.ch, SetI.start n0 b0 bn, sh3, ehm, .nil, s03⟩ (fun i σ H4 _ ⟨_, _, _, _, _, _, _, _, _, _, _, _, _, _, _, _, sm⟩ => SqL.of (sm _ _ eL)) ?_ ?_⟩
    · rintro i x σ H4 _ hi ⟨y5, y6, y7, y8, y9, t, Dm, home, ts, rfl, tn, ch, SI, sh4, ehm4, hp4, s4⟩ ⟨rfl, hx⟩
      obtain ⟨ev, te, hev, rfl, ete⟩ := hpa.at hx
      rw [lps] at hev hi
      have hr' : evs.reverse[i]? = some ev := by
        rw [List.getElem?_reverse hi]
        exact hev
      have hlt : i < evs.reverse.length := by rw [List.length_reverse]; exact hi
      have ed : evs.reverse.drop i = ev :: evs.reverse.drop (i + 1) := by
        rw [List.drop_eq_getElem_cons hlt]
        congr 1
        exact (List.getElem?_eq_some_iff.mp hr').2
      have et : evs.reverse.take (i + 1) = evs.reverse.take i ++ [ev] := by
        rw [List.take_add_one, hr']
        rfl
      rw [ed] at ch
      obtain ⟨c1, c2, c3, c4⟩ := ch
      have m0 := c3.m0
      have evs' := ok.st ev (List.mem_of_getElem? hev)
      have at1 : atI (evV ev) 1 = some (.int (evM ev)) := by
        cases ev with
        | bare a b => exact atI_nat (j := 1) rfl
        | fold a b c d e => exact atI_nat (j := 1) rfl
      obtain ⟨dg4, eg4⟩ := sh4.at_g
      have cnt := SI.cnt
      rw [List.length_take, List.length_reverse] at cnt
      refine ⟨.ref g, rfl, g, dg4, _, rfl, eg4, rfl, .ref te, rfl, te, _, 1, .int (evM ev), rfl, rfl, SqT.of (s4 _ _ ete), at1, g, m, Dm, evM ev, t, rfl, sh4, SI.ok, m0, by omega, by omega, fun H5 L5 us D5 pcs cd sh5 eL5 hp5 nL5 k5 => ?_⟩
      have s5 : Same H H5 := Keep.new s4 nm k5
      have ete5 := s5 _ _ ete
      have ehm5 := k5.of ehm4 nhmm
      have nL5h : L5 ≠ hm := (ne_of_none ehm4 nL5).symm
      have lpcs := cd.ln
      have lts := hp4.length
      have lus := hp5.length
      have hp45 := hp4.keep (keepT_of k5 sh4.at_m (fun xs z => by cases z))
      cases ev with
      | bare m' e' =>
        have c1 : e' = t := c1
        subst c1
        refine ⟨.ref te, rfl, te, _, 0, .str "bare", rfl, rfl, SqT.of ete5, atI_nat (j := 0) rfl, rfl, _, rfl, iteT ?_⟩
        refine ⟨.ref hm, rfl, .inl ⟨rfl, _, SqL.of ehm5⟩, .ref L5, rfl, hm, L5, _, _, rfl, rfl, ehm5, eL5, ?_, ?_⟩
        · rw [List.length_map, List.length_map]
          exact Nat.le_of_lt (sz_lt (by omega))
        · have k6 : Keep hm H5 (upd H5 hm (.lst (ts.map V.ref ++ us.map V.ref))) := Keep.upd
          have kt6 := keepT_of k6 ehm5 (fun xs z => by cases z)
          obtain ⟨dg5, eg5⟩ := sh5.at_g
          refine ⟨_, _, _, _, _, m', D5, home ++ pcs, ts ++ us, rfl, by show m' ≤ n; have c2 : m' ≤ e' := c2; omega, c4, ?_, ⟨⟨dg5, k6.of eg5 (ne_of eg5 ehm5 (fun z => by cases z))⟩, k6.of sh5.at_m nhmm.symm⟩, by rw [upd_same, List.map_append], PcH.append (hp5.keep kt6) (hp45.keep kt6), fun x o hx => k6.of (s5 _ _ hx) (ne_of_none hx nhm0)⟩
          rw [et]
          exact SI.bare m0 c2 tn cd
      | fold m' e' lo st f' =>
        have c1 : e' = t := c1
        subst c1
        have c2 : m' ≤ e' := c2
        obtain ⟨hs, hst⟩ := evs'
        refine ⟨.ref te, rfl, te, _, 0, .str "fold", rfl, rfl, SqT.of ete5, atI_nat (j := 0) rfl, rfl, _, rfl, iteF ?_⟩
        refine ⟨.ref te, rfl, .ref L5, rfl, te, L5, m', e', lo, st, f', us, pcs, rfl, ete5, hs, hst, eL5, hp5, fun c hc => ?_, by omega, fun H6 L6 us6 eL6 hp6 s6 nL6 => ?_⟩
        · have := cd.pc.rg c hc
          have m0 : 0 ≤ m' := m0
          have a1 : m' ≤ c.1 := this.1
          omega
        · have l6 := hp6.length
          have ll := ledAll_length (e := e') (lo := lo) (st := st) (f := f') pcs
          have ld5 := cd.cn
          have nL6m : L6 ≠ m := (ne_of_none sh5.at_m nL6).symm
          refine ⟨L6, rfl, ⟨_, SqL.of eL6⟩, for_list (K := K) (a := L6) (xs := us6.map V.ref) (fun j σ H7 => ∃ (y7 y8 y9 : Option V), σ = [some (.ref L), some (.int b), some (.int (b + k)), some (.ref g), some (.ref hm), some (.ref te), some (.ref L5), y7, y8, y9] ∧ ShAt C3 H7 g m (layAll D5 ((ledAll e' lo st f' pcs).take j)) ∧ Keep m H6 H7)
            ⟨_, _, _, rfl, by rw [List.take_zero]; exact sh5.same s6, Keep.refl _ _⟩ (fun j σ H7 _ ⟨_, _, _, _, _, k7⟩ => SqL.of (k7.of eL6 nL6m)) ?_ ?_⟩
          · rintro j v σ H7 hv ⟨y7, y8, y9, rfl, sh7, k7⟩
            rw [List.getElem?_map] at hv
            obtain ⟨u, hu, rfl⟩ := Option.map_eq_some_iff.mp hv
            obtain ⟨c, hc, eu⟩ := hp6.at hu
            have hj := (List.getElem?_eq_some_iff.mp hc).1
            have sm6 := (sh5.same s6).at_m
            have eu7 := k7.of eu (ne_of eu sm6 (fun z => by cases z))
            have lst := layAll_step (D := D5) hc
            have la := layAll_length (l := (ledAll e' lo st f' pcs).take j) (D := D5)
            rw [List.length_take] at la
            obtain ⟨dg7, eg7⟩ := sh7.at_g
            refine ⟨u, _, rfl, SqT.of eu7, rfl, .int c.1, _, rfl, .int c.2.1, _, rfl, .int c.2.2, _, rfl, rfl, ?_⟩
            refine ⟨.ref g, rfl, g, dg7, _, rfl, eg7, rfl, .int c.1, rfl, .int c.2.1, rfl, .int c.2.2, rfl, g, m, _, c.1, c.2.1, c.2.2, rfl, sh7, by omega, fun H8 sh8 k8 => ?_⟩
            exact ⟨_, _, _, rfl, by rw [lst]; exact sh8, k7.trans k8⟩
          · rintro σ H7 ⟨y7, y8, y9, rfl, sh7, k7⟩
            rw [List.length_map, l6, List.take_length] at sh7
            have sm6 := (sh5.same s6).at_m
            have kt7 := keepT_of k7 sm6 (fun xs z => by cases z)
            refine ⟨_, _, _, _, _, m', _, home, ts, rfl, by omega, c4, ?_, sh7, k7.of (s6 _ _ ehm5) nhmm, (hp45.keep fun b xs hb => s6 _ _ hb).keep kt7, Keep.new (s5.trans s6) nm k7⟩
            rw [et]
            exact SI.fold c3 hs c2 cd
    · rintro σ H4 ⟨y5, y6, y7, y8, y9, t, Dm, home, ts, rfl, tn, ch, SI, sh4, ehm4, hp4, s4⟩
      rw [lps, show evs.length = evs.reverse.length by rw [List.length_reverse], List.take_length] at SI
      rw [lps, show evs.length = evs.reverse.length by rw [List.length_reverse], List.drop_length] at ch
      have t0 : t = 0 := ch
      subst t0
      refine ⟨.ref hm, rfl, .inl ⟨rfl, _, SqL.of ehm4⟩, hm, _, rfl, rfl, ehm4, ?_⟩
      have k5 : Keep hm H4 (upd H4 hm (.lst (ts.map V.ref).reverse)) := Keep.upd
      have kt5 := keepT_of k5 ehm4 (fun xs z => by cases z)
      have cnt := SI.cnt
      rw [List.length_reverse] at cnt
      refine ⟨.ref hm, rfl, qq _ hm ts.reverse home.reverse SI.pc.rev (by rw [List.length_reverse]; omega) (fun p p0 => ?_) (by rw [upd_same, List.map_reverse]) (hp4.keep kt5).rev (fun x o hx => k5.of (s4 _ _ hx) (ne_of_none hx nhm0)) nhm0⟩
      rw [pw_reverse]
      exact SI.hi p p0
end

/-! ### last_up_to, joined, first_ranks -/
abbrev N_last_up_to : List Str := ["rising", "number", "low", "high", "middle"]
abbrev P_last_up_to : List Str := ["rising", "number"]
theorem sc_last_up_to : FnScope N_last_up_to P_last_up_to (defScope s_last_up_to) := ⟨rfl, rfl, rfl, by decide +kernel, rfl, by decide +kernel, by decide +kernel⟩
abbrev N_joined : List Str := ["pieces", "told", "begin", "end", "weight"]
abbrev P_joined : List Str := ["pieces"]
theorem sc_joined : FnScope N_joined P_joined (defScope s_joined) := ⟨rfl, rfl, rfl, by decide +kernel, rfl, by decide +kernel, by decide +kernel⟩
abbrev N_first_ranks : List Str := ["pieces", "ranks", "rank", "begin", "end", "weight"]
abbrev P_first_ranks : List Str := ["pieces"]
theorem sc_first_ranks : FnScope N_first_ranks P_first_ranks (defScope s_first_ranks) := ⟨rfl, rfl, rfl, by decide +kernel, rfl, by decide +kernel, by decide +kernel⟩
def spLast : Sp := fun vs H Q _ => ∃ (L : Addr) (ns : List Int) (x a : Int), vs = [.ref L, .int x] ∧ H L = some (.lst (ns.map V.int)) ∧ ns.length ≤ 90000 ∧ ns[0]? = some a ∧ a ≤ x ∧ ns.Pairwise (· ≤ ·) ∧
  ∀ (i : Nat) (v : Int), ns[i]? = some v → v ≤ x → (∀ (j : Nat) (v' : Int), i < j → ns[j]? = some v' → x < v') → Q (.int i) H
def rks : Int → List Pc → List Int
  | _, [] => []
  | r, c :: l => r :: rks (r + (c.2.1 - c.1)) l
theorem rks_snoc (c : Pc) : ∀ (l : List Pc) (r : Int), rks r (l ++ [c]) = rks r l ++ [r + (l.map fun c => c.2.1 - c.1).sum]
  | [], r => by show [r] = [r + 0]; rw [Int.add_zero]
  | d :: l, r => by
    show r :: rks (r + (d.2.1 - d.1)) (l ++ [c]) = r :: (rks (r + (d.2.1 - d.1)) l ++ _)
    rw [rks_snoc c l, List.map_cons, List.sum_cons, Int.add_assoc]
theorem rks_length : ∀ (l : List Pc) (r : Int), (rks r l).length = l.length
  | [], _ => rfl
  | _ :: l, _ => congrArg (· + 1) (rks_length l _)
def spJoined : Sp := fun vs H Q _ => ∃ (L : Addr) (ts : List Addr) (pcs : List Pc), vs = [.ref L] ∧ H L = some (.lst (ts.map V.ref)) ∧ PcH H ts pcs ∧ pcs.length ≤ 90000 ∧
  ∀ H' L' ts', H' L' = some (.lst (ts'.map V.ref)) → PcH H' ts' (jn pcs) → Same H H' → H L' = none → Q (.ref L') H'
def spRanks : Sp := fun vs H Q _ => ∃ (L : Addr) (ts : List Addr) (pcs : List Pc), vs = [.ref L] ∧ H L = some (.lst (ts.map V.ref)) ∧ PcH H ts pcs ∧ pcs.length ≤ 90000 ∧
  ∀ H' L', H' L' = some (.lst ((rks 0 pcs).map V.int)) → Same H H' → H L' = none → Q (.ref L') H'
theorem PcH.split {H : Hp} {d : Pc} : ∀ {l : List Pc} {ts : List Addr}, PcH H ts (l ++ [d]) → ∃ us t, ts = us ++ [t] ∧ PcH H us l ∧ H t = some (t3 d)
  | [], _, .cons h .nil => ⟨[], _, rfl, .nil, h⟩
  | c :: l, _, .cons h r => by
    obtain ⟨us, t, e, a, b⟩ := PcH.split (l := l) r
    exact ⟨_ :: us, t, by rw [e]; rfl, .cons h a, b⟩
theorem jnA_length (acc : List Pc) (c : Pc) : (jnA acc c).length ≤ acc.length + 1 := by
  unfold jnA
  split
  · split
    · rw [List.length_append, List.length_dropLast]
      show _ - 1 + 1 ≤ _
      omega
    · rw [List.length_append]
      exact Nat.le_refl _
  · rw [List.length_append]
    exact Nat.le_refl _
theorem foldl_jnA_length : ∀ (l acc : List Pc), (l.foldl jnA acc).length ≤ acc.length + l.length
  | [], _ => Nat.le_refl _
  | c :: l, acc => by
    have a := jnA_length acc c
    have b := foldl_jnA_length l (jnA acc c)
    show (l.foldl jnA (jnA acc c)).length ≤ _
    rw [List.length_cons]
    omega
section
variable {P : Program} {w : World} {K : PySem.W.Frag} {mg : Str → Option Value} {base : Heap}
theorem ok_last {f : Addr} {fd : FuncData} (D : DefAt K mg "last_up_to" s_last_up_to P_last_up_to f fd) (B : Bn mg) : FnOk P w K mg base CX0 1 f fd P_last_up_to spLast := by
  refine D.F.ok sc_last_up_to (fun vs H Q E h => ?_) (fun cdv A outer s H vs Q E hr h => ?_)
  · obtain ⟨L, ns, x, a, rfl, _⟩ := h
    rfl
  · obtain ⟨L, ns, x, a, rfl, eL, hl, ha, hax, up, q⟩ := h
    refine ⟨_, (pss_cons (ps_set (i := 2) sc_last_up_to.nd rfl (.inl rfl) pe_int)
      (pss_cons (ps_set (i := 3) sc_last_up_to.nd rfl (.inl rfl) (pe_callB call_len_seq (by rfl) B.len (by decide +kernel) (pa_cons (pv 0) pa_nil)))
      (pss_cons (ps_while PassesOwn.never (pt_cmpR op_gt (pe_op op_sub (pv 3) (pv 2)) pe_int (nomark _)) (pss_cons (ps_set (i := 4) sc_last_up_to.nd rfl (.inl rfl) (pe_op op_fdivW (pe_op op_add (pv 2) (pv 3)) pe_int))
      (pss_one (ps_if (pt_cmpR op_le (pe_ix ix_list (pv 0) (pv 4) (fun _ _ => rfl)) (pv 1) (nomark _)) (pss_one (ps_set (i := 2) sc_last_up_to.nd rfl (.inl rfl) (pv 4))) (pss_one (ps_set (i := 3) sc_last_up_to.nd rfl (.inl rfl) (pv 4)))))))
      (pss_one (ps_ret (pv 2)))))), ?_⟩
    have pos : 0 < ns.length := (List.getElem?_eq_some_iff.mp ha).1
    refine ⟨.ref L, rfl, L, _, rfl, .inl (SqL.of eL), ?_⟩
    refine ⟨fun m σ H2 => ∃ (lo hi : Nat) (v : Int) (y4 : Option V), σ = [some (.ref L), some (.int x), some (.int lo), some (.int hi), y4] ∧ H = H2 ∧ lo < hi ∧ hi ≤ ns.length ∧ ns[lo]? = some v ∧ v ≤ x ∧ (∀ (j : Nat) (v' : Int), hi ≤ j → ns[j]? = some v' → x < v') ∧ m = hi - lo,
      ⟨_, 0, ns.length, a, none, ?_, rfl, pos, Nat.le_refl _, ha, hax, fun j v' h1 h2 => ?_, rfl⟩, ?_⟩
    · show [some (V.ref L), some (V.int x), some (V.int 0), some (V.int (((ns.map V.int).length : Nat) : Int)), none] = _
      rw [List.length_map]
      rfl
    · have := (List.getElem?_eq_some_iff.mp h2).1
      omega
    · rintro m σ H2 ⟨lo, hi, v, y4, rfl, rfl, h1, h2, hv, hvx, hh, rfl⟩
      refine ⟨.int hi, rfl, .int lo, rfl, _, _, rfl, rfl, _, _, rfl, rfl, _, rfl, ite2 (fun c => ?_) (fun c => ?_)⟩
      · have c' : (1 : Int) < hi - lo := of_decide_eq_true c
        refine ⟨fun σ H2 => ∃ (lo2 hi2 : Nat) (v : Int) (y4 : Option V), σ = [some (.ref L), some (.int x), some (.int lo2), some (.int hi2), y4] ∧ H = H2 ∧ lo2 < hi2 ∧ hi2 ≤ ns.length ∧ ns[lo2]? = some v ∧ v ≤ x ∧ (∀ (j : Nat) (v' : Int), hi2 ≤ j → ns[j]? = some v' → x < v') ∧ hi2 - lo2 < hi - lo,
          fun σ' H3 ⟨a1, a2, a3, a4, a5, a6, a7, a8, a9, a10, a11, a12⟩ => ⟨_, a12, a1, a2, a3, a4, a5, a6, a7, a8, a9, a10, a11, rfl⟩, ?_⟩
        have em : ((lo : Int) + hi) / 2 = ((lo + hi) / 2 : Nat) := by omega
        have hm : (lo + hi) / 2 < ns.length := by omega
        have hme := List.getElem?_eq_getElem hm
        generalize hvm : ns[(lo + hi) / 2] = vm at hme
        refine ⟨.int lo, rfl, .int hi, rfl, _, _, rfl, rfl, _, _, rfl, rfl, ⟨by decide, by decide⟩, ?_⟩
        refine ⟨.ref L, rfl, .int (((lo : Int) + hi) / 2), rfl, L, _, _, .int vm, rfl, rfl, SqL.of eL, by rw [em]; exact atI_nat (by rw [List.getElem?_map, hme]; rfl), .int x, rfl, vm, x, rfl, rfl, _, rfl, ite2 (fun d => ?_) (fun d => ?_)⟩
        · have d' : vm ≤ x := of_decide_eq_true d
          refine ⟨.int (((lo : Int) + hi) / 2), rfl, (lo + hi) / 2, hi, vm, some (.int (((lo : Int) + hi) / 2)), ?_, rfl, by omega, h2, hme, d', hh, by omega⟩
          show [some (V.ref L), some (V.int x), some (V.int (((lo : Int) + hi) / 2)), some (V.int hi), some (V.int (((lo : Int) + hi) / 2))] = _
          rw [em]
        · have d' : ¬ vm ≤ x := fun z => d (decide_eq_true z)
          refine ⟨.int (((lo : Int) + hi) / 2), rfl, lo, (lo + hi) / 2, v, some (.int (((lo : Int) + hi) / 2)), ?_, rfl, by omega, by omega, hv, hvx, fun j v' j1 j2 => ?_, by omega⟩
          · show [some (V.ref L), some (V.int x), some (V.int lo), some (V.int (((lo : Int) + hi) / 2)), some (V.int (((lo : Int) + hi) / 2))] = _
            rw [em]
          by_cases z : j = (lo + hi) / 2
          · rw [z, hme] at j2
            cases j2
            omega
          · obtain ⟨hj, ej⟩ := List.getElem?_eq_some_iff.mp j2
            have := List.pairwise_iff_getElem.mp up ((lo + hi) / 2) j hm hj (by omega)
            rw [hvm, ej] at this
            omega
      · have c' : ¬ (1 : Int) < hi - lo := fun z => c (decide_eq_true z)
        exact ⟨.int lo, rfl, q lo v hv hvx fun j v' j1 j2 => hh j v' (by omega) j2⟩
theorem ok_joined {f : Addr} {fd : FuncData} (D : DefAt K mg "joined" s_joined P_joined f fd) : FnOk P w K mg base CX0 1 f fd P_joined spJoined := by
  refine D.F.ok sc_joined (fun vs H Q E h => ?_) (fun cdv A outer s H vs Q E hr h => ?_)
  · obtain ⟨L, ts, pcs, rfl, _⟩ := h
    rfl
  · obtain ⟨L, ts, pcs, rfl, eL, hp, hl, q⟩ := h
    refine ⟨_, (pss_cons (ps_set (i := 1) sc_joined.nd rfl (.inl rfl) (pe_lst pa_nil))
      (pss_cons (ps_for PassesOwn.never rfl (pi_list (pv 0)) (pg_tup (by rfl) (pgs_cons (pg_name (i := 2) sc_joined.nd rfl (.inl rfl)) (pgs_cons (pg_name (i := 3) sc_joined.nd rfl (.inl rfl)) (pgs_cons (pg_name (i := 4) sc_joined.nd rfl (.inl rfl)) pgs_nil)))) (C8.pss_cut (ps_if (PW.pt (pw_and (pt_truth (pv 1) (fun _ => rfl)) (pw_and (pt_cmpR op_eq (pe_ix ix_tup (pe_ix ix_list (pv 1) (pe_un un_neg pe_int) (fun _ _ => rfl)) pe_int (fun _ _ => rfl)) (pv 2) (nomark _)) (pw_and1 (pt_cmpR op_eq (pe_ix ix_tup (pe_ix ix_list (pv 1) (pe_un un_neg pe_int) (fun _ _ => rfl)) pe_int (fun _ _ => rfl)) (pv 4) (nomark _)))))) (pss_one (ps_set (i := 2) sc_joined.nd rfl (.inl rfl) (pe_ix ix_tup (pe_bm0 PySem.F.plainAttrs_list PySem.F.slot_list_pop PySem.F.type_list_pop mt_pop (pv 1)) pe_int (fun _ _ => rfl)))) pss_nil)
      (pss_one (ps_expr (pe_bm PySem.F.plainAttrs_list PySem.F.slot_list_append PySem.F.type_list_append mt_append (pv 1) (pa_cons (pe_tup (pa_cons (pv 2) (pa_cons (pv 3) (pa_cons (pv 4) pa_nil)))) pa_nil))))))
      (pss_one (ps_ret (pv 1))))), ?_⟩
    have lts := hp.length
    refine ⟨Nat.zero_le _, fun T nT => ?_⟩
    have s1 := same_upd (H := H) (o := .lst []) nT
    have eT1 : (upd H T (.lst [])) T = some (.lst []) := upd_same
    generalize upd H T (.lst []) = H1 at s1 eT1
    refine ⟨.ref L, rfl, L, rfl, ⟨_, SqL.of (s1 _ _ eL)⟩, for_list (K := K) (a := L) (xs := ts.map V.ref) (fun n σ H2 => ∃ (y2 y3 y4 : Option V) (us : List Addr), σ = [some (.ref L), some (.ref T), y2, y3, y4] ∧ H2 T = some (.lst (us.map V.ref)) ∧ PcH H2 us ((pcs.take n).foldl jnA []) ∧ Same H H2)
      ⟨none, none, none, [], rfl, eT1, .nil, s1⟩ (fun n σ H2 _ ⟨_, _, _, _, _, _, _, sm⟩ => SqL.of (sm _ _ eL)) ?_ ?_⟩
    · rintro n v σ H2 hv ⟨y2, y3, y4, us, rfl, eT, hu, s2⟩
      rw [List.getElem?_map] at hv
      obtain ⟨t, ht, rfl⟩ := Option.map_eq_some_iff.mp hv
      obtain ⟨c, hc, et⟩ := hp.at ht
      have hn := (List.getElem?_eq_some_iff.mp hc).1
      have st : (pcs.take (n + 1)).foldl jnA [] = jnA ((pcs.take n).foldl jnA []) c := by
        rw [List.take_add_one, hc, List.foldl_append]
        rfl
      have la := foldl_jnA_length (pcs.take n) []
      rw [List.length_take] at la
      have la : ((pcs.take n).foldl jnA []).length ≤ 0 + min n pcs.length := la
      rw [st]
      have lus := hu.length
      generalize (pcs.take n).foldl jnA [] = acc at hu la lus
      refine ⟨t, _, rfl, SqT.of (s2 _ _ et), rfl, .int c.1, _, rfl, .int c.2.1, _, rfl, .int c.2.2, _, rfl, rfl, ?_⟩
      refine ⟨fun σ H3 => ∃ (us' : List Addr) (acc' : List Pc) (b' : Int), σ = [some (.ref L), some (.ref T), some (.int b'), some (.int c.2.1), some (.int c.2.2)] ∧ H3 T = some (.lst (us'.map V.ref)) ∧ PcH H3 us' acc' ∧ Same H H3 ∧ jnA acc c = acc' ++ [(b', c.2.1, c.2.2)] ∧ us'.length ≤ n, ?_, ?_⟩
      · refine ⟨.ref T, rfl, _, .inl ⟨_, SqL.of eT, rfl⟩, ?_⟩
        rcases List.eq_nil_or_concat acc with rfl | ⟨l, d, hcat⟩
        · cases hu
          exact iteF (iteF ⟨[], [], c.1, rfl, eT, .nil, s2, rfl, Nat.zero_le _⟩)
        · rw [List.concat_eq_append] at hcat
          subst hcat
          obtain ⟨us0, t0, rfl, hu0, et0⟩ := hu.split
          have gl : (l ++ [d]).getLast? = some d := by simp
          have eT' : H2 T = some (.lst (us0.map V.ref ++ [.ref t0])) := by rw [eT, List.map_append]; rfl
          rw [show (!((us0 ++ [t0]).map V.ref).isEmpty) = true by simp]
          refine iteT ?_
          have keep : ∀ (z : ¬ (d.2.1 = c.1 ∧ d.2.2 = c.2.2)), ∃ (us' : List Addr) (acc' : List Pc) (b' : Int), [some (V.ref L), some (V.ref T), some (.int c.1), some (.int c.2.1), some (.int c.2.2)] = [some (.ref L), some (.ref T), some (.int b'), some (.int c.2.1), some (.int c.2.2)] ∧ H2 T = some (.lst (us'.map V.ref)) ∧ PcH H2 us' acc' ∧ Same H H2 ∧ jnA (l ++ [d]) c = acc' ++ [(b', c.2.1, c.2.2)] ∧ us'.length ≤ n := fun z => by
            refine ⟨us0 ++ [t0], l ++ [d], c.1, rfl, eT, hu, s2, ?_, by omega⟩
            unfold jnA
            rw [gl]
            show (if d.2.1 = c.1 ∧ d.2.2 = c.2.2 then _ else _) = _
            rw [if_neg z]
          refine ⟨.ref T, rfl, 1, rfl, T, _, -1, .ref t0, rfl, rfl, SqL.of eT', atI_last _ _, t0, _, 1, .int d.2.1, rfl, rfl, SqT.of et0, atI_nat (j := 1) rfl, .int c.1, rfl, rfl, _, rfl, ite2 (fun e1 => ?_) (fun e1 => ?_)⟩
          · have e1' : d.2.1 = c.1 := V.int.inj (of_decide_eq_true e1)
            refine ⟨.ref T, rfl, 1, rfl, T, _, -1, .ref t0, rfl, rfl, SqL.of eT', atI_last _ _, t0, _, 2, .int d.2.2, rfl, rfl, SqT.of et0, atI_nat (j := 2) rfl, .int c.2.2, rfl, rfl, _, rfl, ite2 (fun e2 => ?_) (fun e2 => ?_)⟩
            · have e2' : d.2.2 = c.2.2 := V.int.inj (of_decide_eq_true e2)
              refine ⟨.ref T, rfl, .inl ⟨rfl, _, SqL.of eT'⟩, T, _, .ref t0, rfl, rfl, eT', by simp, ?_⟩
              rw [show (us0.map V.ref ++ [V.ref t0]).dropLast = us0.map V.ref by simp]
              have k3 : Keep T H2 (upd H2 T (.lst (us0.map V.ref))) := Keep.upd
              have kt3 := keepT_of k3 eT (fun xs z => by cases z)
              refine ⟨t0, _, 0, .int d.1, rfl, rfl, SqT.of (kt3 _ _ et0), atI_nat (j := 0) rfl, us0, l, d.1, rfl, upd_same, hu0.keep kt3, fun b o hb => k3.of (s2 _ _ hb) (ne_of_none hb nT), ?_, ?_⟩
              · unfold jnA
                rw [gl]
                show (if d.2.1 = c.1 ∧ d.2.2 = c.2.2 then (l ++ [d]).dropLast ++ _ else _) = _
                rw [if_pos ⟨e1', e2'⟩, show (l ++ [d]).dropLast = l by simp]
              · have : (us0 ++ [t0]).length = us0.length + 1 := by simp
                omega
            · exact keep fun z => e2 (decide_eq_true (congrArg V.int z.2))
          · exact keep fun z => e1 (decide_eq_true (congrArg V.int z.1))
      · rintro σ' H3 ⟨us', acc', b', rfl, eT3, hu3, s3, ej, lu3⟩
        refine ⟨.ref T, rfl, .inl ⟨rfl, _, SqL.of eT3⟩, .int b', rfl, .int c.2.1, rfl, .int c.2.2, rfl, by show 3 ≤ sizeLine; decide, fun u nu => ?_⟩
        have s4 := same_upd (H := H3) (o := .tup [.int b', .int c.2.1, .int c.2.2]) nu
        have eu : (upd H3 u (.tup [.int b', .int c.2.1, .int c.2.2])) u = some (t3 (b', c.2.1, c.2.2)) := upd_same
        generalize upd H3 u (.tup [.int b', .int c.2.1, .int c.2.2]) = H4 at s4 eu
        refine ⟨T, _, _, rfl, rfl, s4 _ _ eT3, sz_lt (by rw [List.length_map]; omega), ?_⟩
        have k5 : Keep T H4 (upd H4 T (.lst (us'.map V.ref ++ [.ref u]))) := Keep.upd
        have kt5 := keepT_of k5 (s4 _ _ eT3) (fun xs z => by cases z)
        refine ⟨_, _, _, us' ++ [u], rfl, by rw [upd_same, List.map_append]; rfl, ?_, fun b o hb => k5.of (s4 _ _ (s3 _ _ hb)) (ne_of_none hb nT)⟩
        rw [ej]
        exact PcH.snoc (kt5 _ _ eu) ((hu3.keep fun b xs hb => s4 _ _ hb).keep kt5)
    · rintro σ H2 ⟨y2, y3, y4, us, rfl, eT, hu, s2⟩
      rw [List.length_map, lts, List.take_length] at hu
      exact ⟨.ref T, rfl, q H2 T us eT hu s2 nT⟩
theorem ok_ranks {f : Addr} {fd : FuncData} (D : DefAt K mg "first_ranks" s_first_ranks P_first_ranks f fd) : FnOk P w K mg base CX0 1 f fd P_first_ranks spRanks := by
  refine D.F.ok sc_first_ranks (fun vs H Q E h => ?_) (fun cdv A outer s H vs Q E hr h => ?_)
  · obtain ⟨L, ts, pcs, rfl, _⟩ := h
    rfl
  · obtain ⟨L, ts, pcs, rfl, eL, hp, hl, q⟩ := h
    refine ⟨_, (pss_cons (ps_set (i := 1) sc_first_ranks.nd rfl (.inl rfl) (pe_lst pa_nil))
      (pss_cons (ps_set (i := 2) sc_first_ranks.nd rfl (.inl rfl) pe_int)
      (pss_cons (ps_for PassesOwn.never rfl (pi_list (pv 0)) (pg_tup (by rfl) (pgs_cons (pg_name (i := 3) sc_first_ranks.nd rfl (.inl rfl)) (pgs_cons (pg_name (i := 4) sc_first_ranks.nd rfl (.inl rfl)) (pgs_cons (pg_name (i := 5) sc_first_ranks.nd rfl (.inl rfl)) pgs_nil)))) (pss_cons (ps_expr (pe_bm PySem.F.plainAttrs_list PySem.F.slot_list_append PySem.F.type_list_append mt_append (pv 1) (pa_cons (pv 2) pa_nil)))
      (pss_one (ps_aug (i := 2) sc_first_ranks.nd rfl (.inl rfl) (pe_op op_sub (pv 4) (pv 3)) ip_add))))
      (pss_one (ps_ret (pv 1)))))), ?_⟩
    have lts := hp.length
    refine ⟨Nat.zero_le _, fun T nT => ?_⟩
    have s1 := same_upd (H := H) (o := .lst []) nT
    have eT1 : (upd H T (.lst [])) T = some (.lst []) := upd_same
    generalize upd H T (.lst []) = H1 at s1 eT1
    refine ⟨.ref L, rfl, L, rfl, ⟨_, SqL.of (s1 _ _ eL)⟩, for_list (K := K) (a := L) (xs := ts.map V.ref) (fun n σ H2 => ∃ (y3 y4 y5 : Option V), σ = [some (.ref L), some (.ref T), some (.int (((pcs.take n).map fun c => c.2.1 - c.1).sum)), y3, y4, y5] ∧ H2 T = some (.lst ((rks 0 (pcs.take n)).map V.int)) ∧ Same H H2)
      ⟨none, none, none, rfl, eT1, s1⟩ (fun n σ H2 _ ⟨_, _, _, _, _, sm⟩ => SqL.of (sm _ _ eL)) ?_ ?_⟩
    · rintro n v σ H2 hv ⟨y3, y4, y5, rfl, eT, s2⟩
      rw [List.getElem?_map] at hv
      obtain ⟨t, ht, rfl⟩ := Option.map_eq_some_iff.mp hv
      obtain ⟨c, hc, et⟩ := hp.at ht
      have hn := (List.getElem?_eq_some_iff.mp hc).1
      have e1 : pcs.take (n + 1) = pcs.take n ++ [c] := by rw [List.take_add_one, hc]; rfl
      refine ⟨t, _, rfl, SqT.of (s2 _ _ et), rfl, .int c.1, _, rfl, .int c.2.1, _, rfl, .int c.2.2, _, rfl, rfl, ?_⟩
      refine ⟨.ref T, rfl, .inl ⟨rfl, _, SqL.of eT⟩, .int (((pcs.take n).map fun c => c.2.1 - c.1).sum), rfl, T, _, _, rfl, rfl, eT, sz_lt (by rw [List.length_map, rks_length, List.length_take]; omega), ?_⟩
      refine ⟨.int (((pcs.take n).map fun c => c.2.1 - c.1).sum), rfl, .int c.2.1, rfl, .int c.1, rfl, _, _, rfl, rfl, _, _, rfl, rfl, some (.int c.1), some (.int c.2.1), some (.int c.2.2), ?_, ?_, fun b o hb => ?_⟩
      · rw [e1, List.map_append, List.sum_append]
        show _ = [some (V.ref L), some (V.ref T), some (V.int (_ + (c.2.1 - c.1 + 0))), _, _, _]
        rw [Int.add_zero]
        rfl
      · rw [upd_same, e1, rks_snoc, List.map_append, Int.zero_add]
        rfl
      · rw [upd_ne (ne_of_none hb nT)]
        exact s2 _ _ hb
    · rintro σ H2 ⟨y3, y4, y5, rfl, eT, s2⟩
      rw [List.length_map, lts, List.take_length] at eT
      exact ⟨.ref T, rfl, q H2 T eT s2 nT⟩
end

/-! ### a road as told at first -/
theorem en_mem : ∀ (k : Nat) (l : List M4) (s : Int × M4), s ∈ en k l → ∃ x ∈ l, s.2 = nrm x
  | k, y :: r, s, h => by
    rcases List.mem_cons.mp h with rfl | h
    · exact ⟨y, List.mem_cons_self, rfl⟩
    · obtain ⟨x, hx, e⟩ := en_mem (k + 1) r s h
      exact ⟨x, List.mem_cons_of_mem _ hx, e⟩
theorem first_wf2 {n : Int} {ms : List M4} (n0 : 0 ≤ n) (n1 : n ≤ 4000000000000000000) (h : ∀ x ∈ ms, Mok n x) (hl : ms.length ≤ 60) : WF ⟨n, en 0 ms, []⟩ ∧ KBf ⟨n, en 0 ms, []⟩ := by
  refine ⟨⟨n0, n1, fun s hs => ?_, en_up 0 ms, by show (en 0 ms).length ≤ 60; rw [en_length]; exact hl⟩, fun s hs => ?_⟩
  · obtain ⟨x, hx, e⟩ := en_mem 0 ms s hs
    obtain ⟨hf, hm, h1, h2, h3, h4⟩ := h x hx
    rw [e]
    exact nrm_ok h1 h2 hm h3 h4 hf
  · have := en_ge 0 ms s hs
    constructor <;> omega
theorem first_wf {n : Int} {ms : List M4} (n0 : 0 ≤ n) (n1 : n ≤ 1000000000000000000) (h : ∀ x ∈ ms, Mok n x) (hl : ms.length ≤ 24) : WF ⟨n, en 0 ms, []⟩ ∧ KBf ⟨n, en 0 ms, []⟩ := first_wf2 n0 (by omega) h (by omega)
theorem wts_le {n : Int} : ∀ {S : StL}, (∀ s ∈ S, Rok n s.2) → 0 ≤ n → wts S ≤ 4 * n * S.length
  | [], _, _ => by show (0 : Int) ≤ 4 * n * (0 : Nat); simp
  | s :: r, h, n0 => by
    have k := h s List.mem_cons_self
    have a := wts_le (n := n) (S := r) (fun s hs => h s (List.mem_cons_of_mem _ hs)) n0
    have e : 4 * n * (((s :: r).length : Nat) : Int) = 4 * n * (r.length : Int) + 4 * n := by
      rw [List.length_cons, Int.natCast_add, Int.mul_add]
      simp
    have x1 := k.op
    have x2 := k.pe
    have x3 := k.m1
    have x4 := k.o0
    show wt s.2 + wts r ≤ _
    unfold wt
    omega
theorem mu_first {n : Int} {ms : List M4} (wf : WF ⟨n, en 0 ms, []⟩) (hn : n ≤ 200) : mu ⟨n, en 0 ms, []⟩ < 90000 := by
  have a := wts_le (n := n) (S := en 0 ms) (fun s hs => wf.r s hs) wf.e0
  have l : (en 0 ms).length ≤ 60 := wf.len
  have n0 : 0 ≤ n := wf.e0
  show n + wts (en 0 ms) < 90000
  have b : 4 * n * ((en 0 ms).length : Int) ≤ 800 * ((en 0 ms).length : Int) := Int.mul_le_mul_of_nonneg_right (by omega) (by omega)
  omega
/-! ### the events that a row of moves makes -/
def isFB : Mo → Bool
  | .fold _ _ => true
  | .bare _ => true
  | _ => false
theorem mkS_ev {X X' : FS} (wf : WF X) : ∀ {mo : Mo}, mkS X mo = some X' → (isFB mo = true ∧ ∃ v, X'.L = X.L ++ [v] ∧ EvS v) ∨ (isFB mo = false ∧ X'.L = X.L)
  | .idle i, q => by
    obtain ⟨S, _, rfl⟩ := Option.map_eq_some_iff.mp (show (idleS X.S i).map (fun S => (⟨X.e, S, X.L⟩ : FS)) = some X' from q)
    exact .inr ⟨rfl, rfl⟩
  | .halve i, q => by
    obtain ⟨S, _, rfl⟩ := Option.map_eq_some_iff.mp (show (halveS X.S i).map (fun S => (⟨X.e, S, X.L⟩ : FS)) = some X' from q)
    exact .inr ⟨rfl, rfl⟩
  | .merge i j, q => by
    obtain ⟨S, _, rfl⟩ := Option.map_eq_some_iff.mp (show (mergeS X.S i j).map (fun S => (⟨X.e, S, X.L⟩ : FS)) = some X' from q)
    exact .inr ⟨rfl, rfl⟩
  | .lead j d i, q => by
    obtain ⟨S, _, rfl⟩ := Option.map_eq_some_iff.mp (show (leadS X.S j d i).map (fun S => (⟨X.e, S, X.L⟩ : FS)) = some X' from q)
    exact .inr ⟨rfl, rfl⟩
  | .fold i m, q => by
    have q' : foldS X i m = some X' := q
    unfold foldS at q'
    split at q'
    · rename_i x hx
      have rk := wf.at hx
      split at q'
      · rename_i hc
        cases q'
        refine .inl ⟨rfl, _, rfl, ?_⟩
        have e1 := wf.e1
        have a1 := rk.o0
        have a2 := rk.pe
        have a3 := rk.m1
        by_cases f : x.2.2.2 = 1
        · exact ⟨.inl f, by rw [if_pos f]; decide⟩
        · have := lead_st hc.1 f
          exact ⟨.inr (by rw [if_neg f]; exact this), by rw [if_neg f]; omega⟩
      · cases q'
    · cases q'
  | .bare m, q => by
    have q' : bareS X m = some X' := q
    unfold bareS at q'
    split at q'
    · cases q'
      exact .inl ⟨rfl, _, rfl, trivial⟩
    · cases q'
theorem runsF_all {X0 : FS} : ∀ {mos : List Mo} {X Y : FS}, WF X → KptX X0 X → (∀ v ∈ X.L, EvS v) → runsF X mos Y → KptX X0 Y ∧ (∀ v ∈ Y.L, EvS v) ∧ Y.L.length = X.L.length + (mos.filter isFB).length
  | [], X, Y, wf, k, h, r => by
    have r : X = Y := r
    subst r
    exact ⟨k, h, rfl⟩
  | m :: r, X, Y, wf, k, h, ⟨X1, e, rr⟩ => by
    have w1 := mkS_wf wf e
    have k1 := k.next wf e
    rcases mkS_ev wf e with ⟨f, v, hL, hv⟩ | ⟨f, hL⟩
    · have h1 : ∀ v ∈ X1.L, EvS v := fun u hu => by
        rw [hL] at hu
        rcases List.mem_append.mp hu with hu | hu
        · exact h u hu
        · rw [List.mem_singleton.mp hu]
          exact hv
      obtain ⟨a, b, c⟩ := runsF_all w1 k1 h1 rr
      refine ⟨a, b, ?_⟩
      have e2 : (X.L ++ [v]).length = X.L.length + 1 := by simp
      have e3 : ((m :: r).filter isFB).length = (r.filter isFB).length + 1 := by rw [List.filter_cons_of_pos f, List.length_cons]
      rw [c, hL, e2, e3]
      omega
    · obtain ⟨a, b, c⟩ := runsF_all w1 k1 (by rw [hL]; exact h) rr
      refine ⟨a, b, ?_⟩
      rw [c, hL, List.filter_cons_of_neg (by rw [f]; decide)]
/-- which moves told an event, the last first -/
def mkrU (mos : List Mo) : List Int := ((List.range mos.length).filter fun i => (mos[i]?.map isFB).getD false).map fun (i : Nat) => (i : Int)
theorem mkrU_len : ∀ (mos : List Mo), (mkrU mos).length = (mos.filter isFB).length := by
  have key : ∀ (mos : List Mo) (n : Nat), n ≤ mos.length → ((List.range n).filter fun i => (mos[i]?.map isFB).getD false).length = ((mos.take n).filter isFB).length := fun mos n => by
    induction n with
    | zero => exact fun _ => rfl
    | succ n ih =>
      intro hn
      have hlt : n < mos.length := hn
      have e := List.getElem?_eq_getElem hlt
      rw [List.range_succ, List.filter_append, List.length_append, ih (by omega), List.take_add_one, e, List.filter_append, List.length_append]
      congr 1
      show (List.filter _ [n]).length = (List.filter isFB [mos[n]]).length
      rw [List.filter_cons, List.filter_nil, List.filter_cons, List.filter_nil, e]
      show (if isFB mos[n] = true then [n] else []).length = _
      split <;> rfl
  intro mos
  unfold mkrU
  rw [List.length_map, key mos mos.length (Nat.le_refl _), List.take_length]
/-- what a folding of the road with the pairs R knows -/
structure FgM (R : Int → Int → Prop) (n : Int) (evs : List Ev) (mos : List Mo) (pcs : List Pc) : Prop where
  ev : EvsOk R n evs
  mak : ((mkrU mos).reverse).length = evs.length
  pc : PcsR n pcs
  sep : pcs.Pairwise fun a b => a.2.1 = b.1 → a.2.2 ≠ b.2.2
  wt : ∀ p, 0 ≤ p → pw pcs p = wtL evs.reverse 0 n.toNat p
  nl : n ≤ 1000000000000000000
  pl : pcs.length ≤ 5000
  ml : mos.length < 90000

/-! ### Folding.__init__ -/
abbrev P_fault_of : List Str := ["front", "moves"]
abbrev N_Fg_init : List Str := ["self", "length", "matings", "moves", "front", "at", "event", "piece", "move"]
abbrev P_Fg_init : List Str := ["self", "length", "matings", "moves"]
theorem sc_Fg_init : FnScope N_Fg_init P_Fg_init (defScope s_Fg_init) := ⟨rfl, rfl, rfl, by decide +kernel, rfl, by decide +kernel, by decide +kernel⟩
def fgF (rw : Addr) (n : Int) (ev mk bg pc ft rk : Addr) : List (Str × V) := [("row", .ref rw), ("extent", .int n), ("events", .ref ev), ("makers", .ref mk), ("begins", .ref bg), ("pieces", .ref pc), ("firsts", .ref ft), ("ranks", .ref rk)]
structure FgA where
  dx : Addr
  rw : Addr
  ev : Addr
  mr : Addr
  bg : Addr
  pc : Addr
  ft : Addr
  rk : Addr
  us : List Addr
  ps : List V
  ts : List Addr
structure FgT (K : PySem.W.Frag) (mg : Str → Option Value) (C4 : Addr) : Prop where
  gC : mg "Folding" = some (.ref C4)
  cl : Cls K C4
  nRow : NoAttr K C4 "row"
  nExt : NoAttr K C4 "extent"
  nEv : NoAttr K C4 "events"
  nMk : NoAttr K C4 "makers"
  nBg : NoAttr K C4 "begins"
  nPc : NoAttr K C4 "pieces"
  nFt : NoAttr K C4 "firsts"
  nRk : NoAttr K C4 "ranks"
/-- a folding as it lies in memory -/
structure FgAt (C4 : Addr) (H : Hp) (g : Addr) (n : Int) (evs : List Ev) (mos : List Mo) (pcs : List Pc) (z : FgA) : Prop where
  at_g : H g = some (.ins C4 z.dx (fgF z.rw n z.ev z.mr z.bg z.pc z.ft z.rk))
  at_rw : H z.rw = some (.lst (z.us.map V.ref))
  mv : MvF H z.us mos
  at_ev : H z.ev = some (.lst z.ps)
  pa : Past H z.ps evs
  at_mk : H z.mr = some (.lst (((mkrU mos).reverse).map V.int))
  at_bg : H z.bg = some (.lst ((evs.map evM).map V.int))
  at_pc : H z.pc = some (.lst (z.ts.map V.ref))
  ph : PcH H z.ts pcs
  at_ft : H z.ft = some (.lst ((pcs.map (·.1)).map V.int))
  at_rk : H z.rk = some (.lst ((rks 0 pcs).map V.int))
theorem FgAt.same {C4 : Addr} {H H' : Hp} {g : Addr} {n : Int} {evs : List Ev} {mos : List Mo} {pcs : List Pc} {z : FgA} (h : FgAt C4 H g n evs mos pcs z) (k : Same H H') : FgAt C4 H' g n evs mos pcs z :=
  ⟨k _ _ h.at_g, k _ _ h.at_rw, h.mv.keep fun b xs hb => k _ _ hb, k _ _ h.at_ev, h.pa.keep fun b xs hb => k _ _ hb, k _ _ h.at_mk, k _ _ h.at_bg, k _ _ h.at_pc, h.ph.keep fun b xs hb => k _ _ hb, k _ _ h.at_ft, k _ _ h.at_rk⟩
/-- all but g and tables stands -/
def KeepN (g : Addr) (H H' : Hp) : Prop := ∀ b o, b ≠ g → H b = some o → (∀ ps, o ≠ .tbl ps) → H' b = some o
theorem KeepN.trans {g : Addr} {H H1 H2 : Hp} (a : KeepN g H H1) (b : KeepN g H1 H2) : KeepN g H H2 := fun c o n h t => b c o n (a c o n h t) t
theorem KeepN.of {g : Addr} {H H' : Hp} (k : Keep g H H') : KeepN g H H' := fun c o n h _ => k c o n h
/-- the moves that were made, to the end -/
def RunTo (n : Int) (ms : List M4) (evs : List Ev) (mos : List Mo) : Prop := ∃ Y, runsF ⟨n, en 0 ms, []⟩ mos Y ∧ Y.e = 0 ∧ evs = Y.L.reverse ∧ FoldR ⟨n, en 0 ms, []⟩ mos Y
theorem LimS.first {n : Int} {ms : List M4} (n0 : 0 ≤ n) (n1 : n ≤ 200) (h : ∀ x ∈ ms, Mok n x) (hl : ms.length ≤ 24) : LimS ⟨n, en 0 ms, []⟩ 0 := by
  have a := mu_first (first_wf n0 (by omega) h hl).1 n1
  exact ⟨by omega, by show ((0 : Nat) : Int) + n ≤ 1000; omega⟩
theorem RunTo.none {evs : List Ev} {mos : List Mo} (h : RunTo 0 [] evs mos) : mos = [] := by
  obtain ⟨Y, r, _⟩ := h
  cases mos with
  | nil => rfl
  | cons m r' =>
    obtain ⟨X1, e, _⟩ := r
    cases m with
    | idle i => cases e
    | halve i => cases e
    | merge i j =>
      have e : (mergeS [] i j).map _ = some X1 := e
      unfold mergeS at e
      split at e <;> cases e
    | lead j d i =>
      have e : (leadS [] j d i).map _ = some X1 := e
      unfold leadS at e
      split at e <;> cases e
    | fold i m => cases e
    | bare m =>
      have e : bareS ⟨0, en 0 [], []⟩ m = some X1 := e
      unfold bareS at e
      split at e
      · rename_i c
        have a : (0 : Int) ≤ m := Int.le_trans (rch_0 _ _) c.1
        have b : m < 0 := c.2
        omega
      · cases e
def spFgInit (C4 : Addr) (Lim : FS → Nat → Prop) (TT : List (Addr × Str)) : Sp := fun vs H Q _ => ∃ (g dx L : Addr) (n : Int) (ts : List Addr) (ms : List M4), vs = [.ref g, .int n, .ref L, .non] ∧ H g = some (.ins C4 dx []) ∧ 0 ≤ n ∧ n ≤ 1000000000000000000 ∧ Lim ⟨n, en 0 ms, []⟩ 0 ∧ H L = some (.lst (ts.map V.ref)) ∧ Mts H ts ms ∧ (∀ y ∈ ms, Mok n y) ∧ ms.length ≤ 24 ∧ LamX.Tabs TT H ∧
  ∀ H' evs mos pcs z, FgAt C4 H' g n evs mos pcs z → FgM (Gn (en 0 ms)) n evs mos pcs → RunTo n ms evs mos → KeepN g H H' → LamX.Tabs TT H' → Q .non H'
/-- the same, and the row is a new one -/
def spFgInitN (C4 : Addr) (Lim : FS → Nat → Prop) (TT : List (Addr × Str)) : Sp := fun vs H Q _ => ∃ (g dx L : Addr) (n : Int) (ts : List Addr) (ms : List M4), vs = [.ref g, .int n, .ref L, .non] ∧ H g = some (.ins C4 dx []) ∧ 0 ≤ n ∧ n ≤ 1000000000000000000 ∧ Lim ⟨n, en 0 ms, []⟩ 0 ∧ H L = some (.lst (ts.map V.ref)) ∧ Mts H ts ms ∧ (∀ y ∈ ms, Mok n y) ∧ ms.length ≤ 24 ∧ LamX.Tabs TT H ∧
  ∀ H' evs mos pcs z, FgAt C4 H' g n evs mos pcs z → FgM (Gn (en 0 ms)) n evs mos pcs → RunTo n ms evs mos → H z.rw = none → KeepN g H H' → LamX.Tabs TT H' → Q .non H'
theorem PcsR.len {n : Int} {pcs : List Pc} (h : PcsR n pcs) (n0 : 0 ≤ n) : (pcs.length : Int) ≤ n := by
  have k := PcsF.len (pcs := pcs.reverse) (low := 0) (T := n) ⟨List.pairwise_reverse.mpr h.rise, fun c hc => h.rg c (List.mem_reverse.mp hc)⟩ n0
  rw [List.length_reverse] at k
  omega
theorem Past.revP {H : Hp} : ∀ {ps : List V} {L : List Ev}, Past H ps L → Past H ps.reverse L.reverse
  | _, _, .nil => .nil
  | _, _, .cons h r => by
    rw [List.reverse_cons, List.reverse_cons]
    exact Past.snoc h (Past.revP r)
theorem MvF.at {H : Hp} : ∀ {us : List Addr} {mos : List Mo}, MvF H us mos → ∀ {i : Nat} {t : Addr}, us[i]? = some t → ∃ m, mos[i]? = some m ∧ H t = some (.tup (moV m))
  | _, _, .nil, i, t, h => by simp at h
  | _, _, .cons h r, 0, t, e => by
    cases e
    exact ⟨_, rfl, h⟩
  | _, _, .cons h r, i + 1, t, e => MvF.at r e
def mkrT (mos : List Mo) (n : Nat) : List Int := ((List.range n).filter fun i => (mos[i]?.map isFB).getD false).map fun (i : Nat) => (i : Int)
theorem mkrT_step {mos : List Mo} {n : Nat} {m : Mo} (h : mos[n]? = some m) : mkrT mos (n + 1) = mkrT mos n ++ (if isFB m = true then [(n : Int)] else []) := by
  unfold mkrT
  rw [List.range_succ, List.filter_append, List.map_append]
  congr 1
  show (List.filter _ [n]).map _ = _
  rw [List.filter_cons, List.filter_nil, h]
  show (if isFB m = true then [n] else []).map _ = _
  split <;> rfl
theorem mkrT_len (mos : List Mo) (n : Nat) : (mkrT mos n).length ≤ n := by
  unfold mkrT
  rw [List.length_map]
  have := List.length_filter_le (fun i => (mos[i]?.map isFB).getD false) (List.range n)
  rw [List.length_range] at this
  exact this
def moN : Mo → Str
  | .idle _ => "idle"
  | .halve _ => "halve"
  | .merge _ _ => "merge"
  | .lead _ _ _ => "lead"
  | .fold _ _ => "fold"
  | .bare _ => "bare"
theorem moV_at0 (m : Mo) : atI (moV m) 0 = some (.str (moN m)) := by
  cases m <;> exact atI_nat (j := 0) rfl
theorem moN_in (m : Mo) : inV (.str (moN m)) [.str "fold", .str "bare"] = isFB m := by
  cases m <;> rfl
section
variable {P : Program} {w : World} {K : PySem.W.Frag} {mg : Str → Option Value} {base : Heap} {C C4 CM : Addr} {Lim : FS → Nat → Prop} {TT : List (Addr × Str)}
theorem ok_FgInitN {f fFI fD fFl fLo fJ fS fR : Addr} {fd fdFI fdD fdFl fdLo fdJ fdS fdR : FuncData} (F : FunD K "__init__" "Folding.__init__" (defArgs s_Fg_init) (defBody s_Fg_init) (defScope s_Fg_init) [] [("moves", .non)] f fd) (T : FrT K mg C) (TFg_ : FgT K mg C4) (mkF : Mk K C fFI) (G_init : FnOk P w K mg base CX0 5 fFI fdFI P_Finit (spFinit K C)) (b_init : Binds K fdFI P_Finit [])
    (D_fold_down : DefAt K mg "fold_down" s_fold_down P_fold_down fD fdD) (G_fold_down : FnOk P w K mg base CX0 10 fD fdD P_fold_down (spFoldDown C Lim TT)) (D_fault_of : DefAt K mg "fault_of" s_fault_of P_fault_of fFl fdFl) (M_led_on : Meth K C "led_on" fLo) (G_led_on : FnOk P w K mg base CX0 1 fLo fdLo P_Fled_on (spLedOn C)) (b_led_on : Binds K fdLo P_Fled_on [])
    (D_joined : DefAt K mg "joined" s_joined P_joined fJ fdJ) (D_settled : DefAt K mg "settled" s_settled P_settled fS fdS) (G_settled : FnOk P w K mg base CX0 3 fS fdS P_settled spSettled) (D_first_ranks : DefAt K mg "first_ranks" s_first_ranks P_first_ranks fR fdR) (zE : mg "enumerate" = none) (B : Bn mg) :
    FnOk P w K mg base CX0 11 f fd P_Fg_init (spFgInitN C4 Lim TT) := by
  have G_joined : FnOk P w K mg base CX0 1 fJ fdJ P_joined spJoined := ok_joined D_joined
  have G_first_ranks : FnOk P w K mg base CX0 1 fR fdR P_first_ranks spRanks := ok_ranks D_first_ranks
  have G_fault_of : FnOk P w K mg base CX0 0 fFl fdFl P_fault_of spBot := ok_bot
  refine F.ok sc_Fg_init (fun vs H Q E h => ?_) (fun cdv A outer s H vs Q E hr h => ?_)
  · obtain ⟨g, dx, L, n, ts, ms, rfl, _⟩ := h
    rfl
  · obtain ⟨g, dx, L, n, ts, ms, rfl, hg, n0, n1, lim, eL, hM, mok, hl, hT, qq⟩ := h
    suffices hh : ∃ t, PSs (cxOf CX0 P w K mg base N_Fg_init "Folding.__init__" (defScope s_Fg_init) f cdv A outer s H E).nox (defBody s_Fg_init) t ∧ t { nx := fun _ H' => Q .non H', rt := Q } (L2.start N_Fg_init [.ref g, .int n, .ref L, .non]) H by
      obtain ⟨t, h1, h2⟩ := hh
      exact ⟨t, h1.nox, h2⟩
    refine ⟨_, (pss_cons (ps_set (i := 4) sc_Fg_init.nd rfl (.inl rfl) (pe_make mkF G_init (hr.mono (by omega)) (by rfl) T.gC b_init .nil pass0 (pa_cons (pv 1) (pa_cons (pv 2) pa_nil))))
      (C8.pss_cut (ps_if (pt_cmpR op_isN (pv 3) pe_non (nomark _)) (pss_one (ps_fld (pv 0) (pe_call G_fold_down (hr.mono (by omega)) (by rfl) D_fold_down.g D_fold_down.F.kp D_fold_down.b .nil pass0 (pa_cons (pv 4) pa_nil)) rfl)) (pss_cons (ps_set (i := 5) sc_Fg_init.nd rfl (.inl rfl) (pe_call G_fault_of (hr.mono (by omega)) (by rfl) D_fault_of.g D_fault_of.F.kp D_fault_of.b .nil pass0 (pa_cons (pv 4) (pa_cons (pv 3) pa_nil))))
      (pss_cons (ps_if (pt_cmpR op_notN (pv 5) pe_non (nomark _)) (pss_one ps_never) pss_nil)
      (pss_one (ps_fld (pv 0) (pe_callTy call_list_of (by rfl) B.list (by decide +kernel) (pa_cons (pv 3) pa_nil)) rfl)))))
      (pss_cons (ps_fld (pv 0) (pv 1) rfl)
      (pss_cons (ps_fld (pv 0) (pe_revL (pe_meth0 (pv 4) T.cl M_led_on G_led_on (hr.mono (by omega)) b_led_on .nil pass0)) rfl)
      (pss_cons (ps_fld (pv 0) (pe_revL (pe_lc (own := [("at", 5), ("move", 8)]) (g := gTup K 2 (gCons (gName 5) (gCons (gName 8) gNil))) (by rfl) sc_Fg_init.nd (pi_enum (by rfl) zE (pa_cons (pe_fld (pv 0) rfl) pa_nil)) (blkOk_by (own := [("at", 5), ("move", 8)]) (N := N_Fg_init) (sc := defScope s_Fg_init) (by decide +kernel)) (fun _ _ _ _ _ => (pg_tup (by rfl) (pgs_cons (pg_name (i := 5) sc_Fg_init.nd rfl (.inl rfl)) (pgs_cons (pg_name (i := 8) sc_Fg_init.nd rfl (.inl rfl)) pgs_nil)))) (fun _ _ _ _ _ => (pts_one (pt_cmpR (show OpR _ _ (rIn K false) from op_in_seq) (pe_ix (show IxR _ (rIxT K) from ix_tup) (pv 8) pe_int (fun _ _ => rfl)) (pe_tup (pa_cons pe_str (pa_cons pe_str pa_nil))) (by rfl)))) (fun _ _ _ _ _ => (pv 5)))) rfl)
      (pss_cons (ps_fld (pv 0) (pe_lc (own := [("event", 6)]) (g := gName 6) (by rfl) sc_Fg_init.nd (pi_list (pe_fld (pv 0) rfl)) (blkOk_by (own := [("event", 6)]) (N := N_Fg_init) (sc := defScope s_Fg_init) (by decide +kernel)) (fun _ _ _ _ _ => (pg_name (i := 6) sc_Fg_init.nd rfl (.inl rfl))) (fun _ _ _ _ _ => pts_nil) (fun _ _ _ _ _ => (pe_ix (show IxR _ (rIxT K) from ix_tup) (pv 6) pe_int (fun _ _ => rfl)))) rfl)
      (pss_cons (ps_fld (pv 0) (pe_call G_joined (hr.mono (by omega)) (by rfl) D_joined.g D_joined.F.kp D_joined.b .nil pass0 (pa_cons (pe_call G_settled (hr.mono (by omega)) (by rfl) D_settled.g D_settled.F.kp D_settled.b .nil pass0 (pa_cons (pe_fld (pv 0) rfl) (pa_cons pe_int (pa_cons (pv 1) pa_nil)))) pa_nil)) rfl)
      (pss_cons (ps_fld (pv 0) (pe_lc (own := [("piece", 7)]) (g := gName 7) (by rfl) sc_Fg_init.nd (pi_list (pe_fld (pv 0) rfl)) (blkOk_by (own := [("piece", 7)]) (N := N_Fg_init) (sc := defScope s_Fg_init) (by decide +kernel)) (fun _ _ _ _ _ => (pg_name (i := 7) sc_Fg_init.nd rfl (.inl rfl))) (fun _ _ _ _ _ => pts_nil) (fun _ _ _ _ _ => (pe_ix (show IxR _ (rIxT K) from ix_tup) (pv 7) pe_int (fun _ _ => rfl)))) rfl)
      (pss_one (ps_fld (pv 0) (pe_call G_first_ranks (hr.mono (by omega)) (by rfl) D_first_ranks.g D_first_ranks.F.kp D_first_ranks.b .nil pass0 (pa_cons (pe_fld (pv 0) rfl) pa_nil)) rfl)))))))))), ?_⟩
    obtain ⟨wf, kb⟩ := first_wf n0 n1 mok hl
    refine ⟨.int n, rfl, .ref L, rfl, fun a da na nda nea => ?_⟩
    have s0 := same_new (C := C) na nda
    have ea0 : (upd (upd H da (.own a)) a (.ins C da [])) a = some (.ins C da []) := upd_same
    generalize upd (upd H da (.own a)) a (.ins C da []) = H0 at s0 ea0
    refine ⟨a, da, L, n, ts, ms, rfl, ea0, n0, by omega, s0 _ _ eL, hM.keep (fun b xs hb => s0 _ _ hb), mok, hl, fun H1 sa qa fa1 nsa nqa off1 => ⟨rfl, ?_⟩⟩
    have s1 : Same H H1 := fun b o hb => off1 b o (s0 _ _ hb) (ne_of_none hb na)
    have fr1 : FrS C H1 a sa qa ⟨n, en 0 ms, []⟩ := ⟨[], fa1, .nil⟩
    have nga : g ≠ a := ne_of_none hg na
    refine ⟨fun σ H3 => ∃ (rw : Addr) (us : List Addr) (mos : List Mo) (Y : FS), σ = [some (.ref g), some (.int n), some (.ref L), some .non, some (.ref a), none, none, none, none] ∧ H3 g = some (.ins C4 dx [("row", .ref rw)]) ∧ FrS C H3 a sa qa Y ∧ Y.e = 0 ∧ Y.L.length ≤ 1000 ∧ runsF ⟨n, en 0 ms, []⟩ mos Y ∧ FoldR ⟨n, en 0 ms, []⟩ mos Y ∧ H rw = none ∧ H3 rw = some (.lst (us.map V.ref)) ∧ MvF H3 us mos ∧ us.length < 90000 ∧ KeepN g H H3 ∧ LamX.Tabs TT H3, ?_, ?_⟩
    · refine ⟨.non, rfl, rfl, _, rfl, iteT ?_⟩
      refine ⟨.ref a, rfl, a, sa, qa, ⟨n, en 0 ms, []⟩, rfl, fr1, wf, kb, lim, hT.ext s1, fun H2 rw us mos Y fr2 e2 wf2 l2 run fr er nr mv lu off2 T2 => ?_⟩
      have hg1 := s1 _ _ hg
      obtain ⟨_, ⟨⟨_, ea1⟩, ⟨_, es1, _⟩, eq1, _, _⟩, _⟩ := fr1
      have hg2 := off2 _ _ hg1 nga (ne_of hg1 es1 (fun z => by cases z)) (ne_of hg1 eq1 (fun z => by cases z)) (fun ps z => by cases z)
      refine ⟨.ref g, rfl, g, C4, dx, [], rfl, hg2, TFg_.cl, TFg_.nRow, by show 0 < 1000; decide, ?_⟩
      have k3 : Keep g H2 (upd H2 g (.ins C4 dx (putF "row" (.ref rw) []))) := Keep.upd
      have kt3 := keepT_of k3 hg2 (fun xs z => by cases z)
      refine ⟨rw, us, mos, Y, rfl, upd_same, ?_, e2, l2, run, fr, s1.free nr, k3.of er (ne_of er hg2 (fun z => by cases z)), mv.keep kt3, lu, fun b o n hb t => ?_, ?_⟩
      · obtain ⟨ps, ⟨⟨dx', ea2⟩, ⟨kvs, es2, st2⟩, eq2, up2, len2⟩, hp2⟩ := fr2
        exact ⟨ps, ⟨⟨dx', k3.of ea2 nga.symm⟩, ⟨kvs, k3.of es2 (ne_of es2 hg2 (fun z => by cases z)), st2.keep kt3⟩, k3.of eq2 (ne_of eq2 hg2 (fun z => by cases z)), up2, len2⟩, hp2.keep kt3⟩
      · refine k3.of (off2 b o (s1 _ _ hb) (ne_of_none hb na) (ne_of_none (s0 _ _ hb) nsa) (ne_of_none (s0 _ _ hb) nqa) t) n
      · intro p hp
        obtain ⟨ps, h1, h2, h3⟩ := T2 p hp
        refine ⟨ps, k3.of h1 (ne_of h1 hg2 (fun z => by cases z)), h2, fun pos cv hc => ?_⟩
        obtain ⟨c, ec, hcc⟩ := h3 pos cv hc
        exact ⟨c, ec, k3.of hcc (ne_of hcc hg2 (by intro z; unfold LamX.CodeO at z; cases z))⟩
    rintro σ H3 ⟨rw, us, mos, Y, rfl, hg3, fr3, e3, l3, run, fod, nrw, er3, mv3, lu3, kn3, T3⟩
    obtain ⟨kpt, evS, evL⟩ := runsF_all wf (KptX.first _ rfl) (fun v hv => by cases hv) run
    have hch : ChF (Gn (en 0 ms)) n Y.L.reverse.reverse 0 := by
      have := ChF.of kpt.chn
      rw [e3] at this
      exact this
    have evok : EvsOk (Gn (en 0 ms)) n Y.L.reverse := ⟨hch, fun v hv => evS v (List.mem_reverse.mp hv), by rw [List.length_reverse]; exact l3, by have := kpt.chn; rw [e3] at this; exact this⟩
    -- a store into g keeps tables
    have tabG : ∀ {G G' : Hp} {o : HO} (_ : LamX.Tabs TT G) (_ : G g = some o) (_ : (∀ ps, o ≠ .tbl ps)) (_ : ∀ c q, o ≠ LamX.CodeO c q) (_ : Keep g G G'), LamX.Tabs TT G' := by
      intro G G' o T eg n1 n2 k p hp
      obtain ⟨ps, h1, h2, h3⟩ := T p hp
      refine ⟨ps, k.of h1 (ne_of h1 eg (fun z => n1 ps z.symm)), h2, fun pos cv hc => ?_⟩
      obtain ⟨c, ec, hcc⟩ := h3 pos cv hc
      exact ⟨c, ec, k.of hcc (ne_of hcc eg (fun z => n2 _ _ z.symm))⟩
    have insT : ∀ (fs : List (Str × V)), (∀ ps, (HO.ins C4 dx fs) ≠ .tbl ps) ∧ ∀ c q, (HO.ins C4 dx fs) ≠ LamX.CodeO c q := fun fs => ⟨fun ps z => (by cases z), fun c q z => (by unfold LamX.CodeO at z; cases z)⟩
    -- extent
    refine ⟨.int n, rfl, .ref g, rfl, g, C4, dx, _, rfl, hg3, TFg_.cl, TFg_.nExt, by show 1 < 1000; decide, ?_⟩
    have k4 : Keep g H3 (upd H3 g (.ins C4 dx (putF "extent" (.int n) [("row", .ref rw)]))) := Keep.upd
    have kt4 := keepT_of k4 hg3 (fun xs z => by cases z)
    have hg4 : (upd H3 g (.ins C4 dx (putF "extent" (.int n) [("row", .ref rw)]))) g = some (.ins C4 dx [("row", .ref rw), ("extent", .int n)]) := upd_same
    have T4 := tabG T3 hg3 (insT _).1 (insT _).2 k4
    generalize upd H3 g (.ins C4 dx (putF "extent" (.int n) [("row", .ref rw)])) = H4 at k4 kt4 hg4 T4
    have fr4 : FrS C H4 a sa qa Y := by
      obtain ⟨ps, ⟨⟨dx', ea2⟩, ⟨kvs, es2, st2⟩, eq2, up2, len2⟩, hp2⟩ := fr3
      exact ⟨ps, ⟨⟨dx', k4.of ea2 nga.symm⟩, ⟨kvs, k4.of es2 (ne_of es2 hg3 (fun z => by cases z)), st2.keep kt4⟩, k4.of eq2 (ne_of eq2 hg3 (fun z => by cases z)), up2, len2⟩, hp2.keep kt4⟩
    have er4 := k4.of er3 (ne_of er3 hg3 (fun z => by cases z))
    have mv4 := mv3.keep kt4
    have kn4 := kn3.trans (KeepN.of k4)
    -- events
    obtain ⟨ps, fa4, hp4⟩ := id fr4
    obtain ⟨dxa, ea4⟩ := fa4.at_a
    refine ⟨.ref a, rfl, a, dxa, _, rfl, ea4, put_no, a, sa, qa, Y.e, Y.S, ps, rfl, fa4, fun r1 nr1 => ⟨r1, ps, rfl, SqL.of upd_same, fun ev nev => ?_⟩⟩
    have s5 := (same_upd (H := H4) (o := .lst ps) nr1).trans (same_upd (o := .lst ps.reverse) nev)
    have eev : (upd (upd H4 r1 (.lst ps)) ev (.lst ps.reverse)) ev = some (.lst ps.reverse) := upd_same
    generalize upd (upd H4 r1 (.lst ps)) ev (.lst ps.reverse) = H5 at s5 eev
    have hg5 := s5 _ _ hg4
    refine ⟨.ref g, rfl, g, C4, dx, _, rfl, hg5, TFg_.cl, TFg_.nEv, by show 2 < 1000; decide, ?_⟩
    have k6 : Keep g H5 (upd H5 g (.ins C4 dx (putF "events" (.ref ev) [("row", .ref rw), ("extent", .int n)]))) := Keep.upd
    have kt6 := keepT_of k6 hg5 (fun xs z => by cases z)
    have hg6 : (upd H5 g (.ins C4 dx (putF "events" (.ref ev) [("row", .ref rw), ("extent", .int n)]))) g = some (.ins C4 dx [("row", .ref rw), ("extent", .int n), ("events", .ref ev)]) := upd_same
    have T6 := tabG (T4.ext s5) hg5 (insT _).1 (insT _).2 k6
    generalize upd H5 g (.ins C4 dx (putF "events" (.ref ev) [("row", .ref rw), ("extent", .int n)])) = H6 at k6 kt6 hg6 T6
    have kt46 : KeepT H4 H6 := fun b xs hb => kt6 _ _ (s5 _ _ hb)
    have er6 := k6.of (s5 _ _ er4) (ne_of (s5 _ _ er4) hg5 (fun z => by cases z))
    have mv6 := mv4.keep kt46
    have eev6 := k6.of eev (ne_of eev hg5 (fun z => by cases z))
    have pa6 : Past H6 ps.reverse Y.L.reverse := (hp4.keep kt46).revP
    have kn6 := (kn4.trans (KeepN.of (keepS s5))).trans (KeepN.of k6)
    have lus := mv6.length
    have lps : ps.length = Y.L.length := hp4.length
    -- makers
    refine ⟨.ref g, rfl, g, C4, dx, _, .ref rw, rfl, hg6, TFg_.cl, TFg_.nRow, rfl, rw, _, rfl, SqL.of er6, fun D1 nD1 => lc_it walk_enum (fun i G => Same H6 G ∧ G D1 = some (.lst ((mkrT mos i).map V.int)))
      ⟨same_upd nD1, upd_same⟩ (fun i G _ ⟨sm, _⟩ => SqL.of (sm _ _ er6)) ?_ ?_⟩
    · rintro i x G G' hi ⟨sm, eD⟩ ⟨Tn, x1, y1, rfl, nTn, rfl, hx, hy⟩
      cases hx
      have hy : (us.map V.ref)[i]? = some y1 := hy
      rw [List.getElem?_map] at hy
      obtain ⟨t, ht, rfl⟩ := Option.map_eq_some_iff.mp hy
      obtain ⟨m, hm, et⟩ := mv6.at ht
      rw [List.length_map] at hi
      have s7 := same_upd (H := G) (o := .tup [.int (i : Nat), .ref t]) nTn
      have e7 : (upd G Tn (.tup [.int (i : Nat), .ref t])) Tn = some (.tup [.int (i : Nat), .ref t]) := upd_same
      generalize upd G Tn (.tup [.int (i : Nat), .ref t]) = G7 at s7 e7
      have st := mkrT_step hm
      have ml := mkrT_len mos i
      refine ⟨Tn, _, rfl, SqT.of e7, rfl, .int (i : Nat), _, rfl, .ref t, _, rfl, rfl, ?_⟩
      refine ⟨rfl, ?_⟩
      refine ⟨.ref t, rfl, t, _, 0, .str (moN m), rfl, rfl, SqT.of (s7 _ _ (sm _ _ et)), moV_at0 m, by show 2 ≤ sizeLine; decide, fun q nq => ?_⟩
      refine ⟨q, _, rfl, .inr (SqT.of upd_same), rfl, rfl, _, rfl, ?_⟩
      have s8 := s7.trans (same_upd (o := .tup [.str "fold", .str "bare"]) nq)
      generalize upd G7 q (.tup [.str "fold", .str "bare"]) = G8 at s8
      rw [show (if false = true then !inV (V.str (moN m)) [V.str "fold", V.str "bare"] else inV (V.str (moN m)) [V.str "fold", V.str "bare"]) = isFB m from moN_in m]
      refine ite2 (fun c => ?_) (fun c => ?_)
      · rw [if_pos c] at st
        refine ⟨.int (i : Nat), rfl, _, s8 _ _ eD, sz_lt (by rw [List.length_map]; omega), fun b o hb => ?_, by rw [upd_same, st, List.map_append]; rfl⟩
        rw [upd_ne (ne_of_none hb nD1)]
        exact s8 _ _ (sm _ _ hb)
      · rw [if_neg c, List.append_nil] at st
        exact ⟨sm.trans s8, by rw [st]; exact s8 _ _ eD⟩
    rintro G ⟨sm, eD⟩
    rw [List.length_map, lus] at eD
    refine ⟨D1, _, rfl, SqL.of eD, fun mk nmk => ?_⟩
    have s7 := sm.trans (same_upd (H := G) (o := .lst ((mkrT mos mos.length).map V.int).reverse) nmk)
    have emk : (upd G mk (.lst ((mkrT mos mos.length).map V.int).reverse)) mk = some (.lst (((mkrU mos).reverse).map V.int)) := by
      rw [upd_same, List.map_reverse]
      rfl
    generalize upd G mk (.lst ((mkrT mos mos.length).map V.int).reverse) = H7 at s7 emk
    have hg7 := s7 _ _ hg6
    refine ⟨.ref g, rfl, g, C4, dx, _, rfl, hg7, TFg_.cl, TFg_.nMk, by show 3 < 1000; decide, ?_⟩
    have k8 : Keep g H7 (upd H7 g (.ins C4 dx (putF "makers" (.ref mk) [("row", .ref rw), ("extent", .int n), ("events", .ref ev)]))) := Keep.upd
    have kt8 := keepT_of k8 hg7 (fun xs z => by cases z)
    have hg8 : (upd H7 g (.ins C4 dx (putF "makers" (.ref mk) [("row", .ref rw), ("extent", .int n), ("events", .ref ev)]))) g = some (.ins C4 dx [("row", .ref rw), ("extent", .int n), ("events", .ref ev), ("makers", .ref mk)]) := upd_same
    have T8 := tabG (T6.ext s7) hg7 (insT _).1 (insT _).2 k8
    generalize upd H7 g (.ins C4 dx (putF "makers" (.ref mk) [("row", .ref rw), ("extent", .int n), ("events", .ref ev)])) = H8 at k8 kt8 hg8 T8
    have lst8 : ∀ {b : Addr} {xs : List V}, H6 b = some (.lst xs) → H8 b = some (.lst xs) := fun {b xs} e => k8.of (s7 _ _ e) (ne_of (s7 _ _ e) hg7 (fun z => by cases z))
    have kt68 : KeepT H6 H8 := fun b xs hb => kt8 _ _ (s7 _ _ hb)
    have er8 := lst8 er6
    have mv8 := mv6.keep kt68
    have eev8 := lst8 eev6
    have pa8 := pa6.keep kt68
    have emk8 := k8.of emk (ne_of emk hg7 (fun z => by cases z))
    have kn8 := (kn6.trans (KeepN.of (keepS s7))).trans (KeepN.of k8)
    -- begins
    have lpr : ps.reverse.length = Y.L.reverse.length := by rw [List.length_reverse, List.length_reverse]; exact lps
    refine ⟨.ref g, rfl, g, C4, dx, _, .ref ev, rfl, hg8, TFg_.cl, TFg_.nEv, rfl, ev, rfl, ⟨_, SqL.of eev8⟩, fun D2 nD2 => lc_list (K := K) (a := ev) (xs := ps.reverse) (fun i G => Same H8 G ∧ G D2 = some (.lst (((Y.L.reverse.take i).map evM).map V.int)))
      ⟨same_upd nD2, upd_same⟩ (fun i G _ ⟨sm, _⟩ => SqL.of (sm _ _ eev8)) ?_ ?_⟩
    · rintro i v G hv ⟨sm, eD⟩
      obtain ⟨e, t, he, rfl, et⟩ := pa8.at hv
      have hlt := (List.getElem?_eq_some_iff.mp he).1
      rw [List.length_reverse] at hlt
      have at1 : atI (evV e) 1 = some (.int (evM e)) := by
        cases e with
        | bare a b => exact atI_nat (j := 1) rfl
        | fold a b c d e => exact atI_nat (j := 1) rfl
      refine ⟨rfl, ?_⟩
      refine ⟨.ref t, rfl, t, _, 1, .int (evM e), rfl, rfl, SqT.of (sm _ _ et), at1, _, eD, sz_lt (by rw [List.length_map, List.length_map, List.length_take]; omega), fun b o hb => ?_, ?_⟩
      · rw [upd_ne (ne_of_none hb nD2)]
        exact sm _ _ hb
      · rw [upd_same, List.take_add_one, he, List.map_append, List.map_append]
        rfl
    rintro H9 ⟨s9, ebg⟩
    rw [lpr, List.take_length] at ebg
    have hg9 := s9 _ _ hg8
    refine ⟨.ref g, rfl, g, C4, dx, _, rfl, hg9, TFg_.cl, TFg_.nBg, by show 4 < 1000; decide, ?_⟩
    have k10 : Keep g H9 (upd H9 g (.ins C4 dx (putF "begins" (.ref D2) [("row", .ref rw), ("extent", .int n), ("events", .ref ev), ("makers", .ref mk)]))) := Keep.upd
    have kt10 := keepT_of k10 hg9 (fun xs z => by cases z)
    have hg10 : (upd H9 g (.ins C4 dx (putF "begins" (.ref D2) [("row", .ref rw), ("extent", .int n), ("events", .ref ev), ("makers", .ref mk)]))) g = some (.ins C4 dx [("row", .ref rw), ("extent", .int n), ("events", .ref ev), ("makers", .ref mk), ("begins", .ref D2)]) := upd_same
    have T10 := tabG (T8.ext s9) hg9 (insT _).1 (insT _).2 k10
    generalize upd H9 g (.ins C4 dx (putF "begins" (.ref D2) [("row", .ref rw), ("extent", .int n), ("events", .ref ev), ("makers", .ref mk)])) = H10 at k10 kt10 hg10 T10
    have lst10 : ∀ {b : Addr} {xs : List V}, H9 b = some (.lst xs) → H10 b = some (.lst xs) := fun {b xs} e => k10.of e (ne_of e hg9 (fun z => by cases z))
    have kt810 : KeepT H8 H10 := fun b xs hb => kt10 _ _ (s9 _ _ hb)
    have er10 := lst10 (s9 _ _ er8)
    have mv10 := mv8.keep kt810
    have eev10 := lst10 (s9 _ _ eev8)
    have pa10 := pa8.keep kt810
    have emk10 := lst10 (s9 _ _ emk8)
    have ebg10 := lst10 ebg
    have kn10 := (kn8.trans (KeepN.of (keepS s9))).trans (KeepN.of k10)
    -- pieces
    refine ⟨.ref g, rfl, g, C4, dx, _, .ref ev, rfl, hg10, TFg_.cl, TFg_.nEv, rfl, .int n, rfl, ev, ps.reverse, Y.L.reverse, Gn (en 0 ms), n, 0, n.toNat, by rw [show (0 : Int) + (n.toNat : Int) = n by omega]; rfl, eev10, pa10, evok, Int.le_refl _, by omega, by omega, fun H11 L11 ts11 pcs0 pr lp0 pwt e11 h11 s11 n11 => ?_⟩
    refine ⟨L11, ts11, pcs0, rfl, e11, h11, by omega, fun H12 pc ts12 e12 h12 s12 n12 => ?_⟩
    have s1012 := s11.trans s12
    have hg12 := s1012 _ _ hg10
    refine ⟨.ref g, rfl, g, C4, dx, _, rfl, hg12, TFg_.cl, TFg_.nPc, by show 5 < 1000; decide, ?_⟩
    have k13 : Keep g H12 (upd H12 g (.ins C4 dx (putF "pieces" (.ref pc) [("row", .ref rw), ("extent", .int n), ("events", .ref ev), ("makers", .ref mk), ("begins", .ref D2)]))) := Keep.upd
    have kt13 := keepT_of k13 hg12 (fun xs z => by cases z)
    have hg13 : (upd H12 g (.ins C4 dx (putF "pieces" (.ref pc) [("row", .ref rw), ("extent", .int n), ("events", .ref ev), ("makers", .ref mk), ("begins", .ref D2)]))) g = some (.ins C4 dx [("row", .ref rw), ("extent", .int n), ("events", .ref ev), ("makers", .ref mk), ("begins", .ref D2), ("pieces", .ref pc)]) := upd_same
    have T13 := tabG (T10.ext s1012) hg12 (insT _).1 (insT _).2 k13
    generalize upd H12 g (.ins C4 dx (putF "pieces" (.ref pc) [("row", .ref rw), ("extent", .int n), ("events", .ref ev), ("makers", .ref mk), ("begins", .ref D2)])) = H13 at k13 kt13 hg13 T13
    have lst13 : ∀ {b : Addr} {xs : List V}, H12 b = some (.lst xs) → H13 b = some (.lst xs) := fun {b xs} e => k13.of e (ne_of e hg12 (fun z => by cases z))
    have kt1013 : KeepT H10 H13 := fun b xs hb => kt13 _ _ (s1012 _ _ hb)
    have er13 := lst13 (s1012 _ _ er10)
    have mv13 := mv10.keep kt1013
    have eev13 := lst13 (s1012 _ _ eev10)
    have pa13 := pa10.keep kt1013
    have emk13 := lst13 (s1012 _ _ emk10)
    have ebg13 := lst13 (s1012 _ _ ebg10)
    have epc13 := lst13 e12
    have ph13 := h12.keep kt13
    have kn13 := (kn10.trans (KeepN.of (keepS s1012))).trans (KeepN.of k13)
    have ljn := foldl_jnA_length pcs0 []
    have ljn : (jn pcs0).length ≤ 0 + pcs0.length := ljn
    have lts12 := ph13.length
    -- firsts
    refine ⟨.ref g, rfl, g, C4, dx, _, .ref pc, rfl, hg13, TFg_.cl, TFg_.nPc, rfl, pc, rfl, ⟨_, SqL.of epc13⟩, fun D3 nD3 => lc_list (K := K) (a := pc) (xs := ts12.map V.ref) (fun i G => Same H13 G ∧ G D3 = some (.lst ((((jn pcs0).take i).map (·.1)).map V.int)))
      ⟨same_upd nD3, upd_same⟩ (fun i G _ ⟨sm, _⟩ => SqL.of (sm _ _ epc13)) ?_ ?_⟩
    · rintro i v G hv ⟨sm, eD⟩
      rw [List.getElem?_map] at hv
      obtain ⟨t, ht, rfl⟩ := Option.map_eq_some_iff.mp hv
      obtain ⟨c, hc, et⟩ := ph13.at ht
      have hlt := (List.getElem?_eq_some_iff.mp hc).1
      refine ⟨rfl, ?_⟩
      refine ⟨.ref t, rfl, t, _, 0, .int c.1, rfl, rfl, SqT.of (sm _ _ et), atI_nat (j := 0) rfl, _, eD, sz_lt (by rw [List.length_map, List.length_map, List.length_take]; omega), fun b o hb => ?_, ?_⟩
      · rw [upd_ne (ne_of_none hb nD3)]
        exact sm _ _ hb
      · rw [upd_same, List.take_add_one, hc, List.map_append, List.map_append]
        rfl
    rintro H14 ⟨s14, eft⟩
    rw [List.length_map, lts12, List.take_length] at eft
    have hg14 := s14 _ _ hg13
    refine ⟨.ref g, rfl, g, C4, dx, _, rfl, hg14, TFg_.cl, TFg_.nFt, by show 6 < 1000; decide, ?_⟩
    have k15 : Keep g H14 (upd H14 g (.ins C4 dx (putF "firsts" (.ref D3) [("row", .ref rw), ("extent", .int n), ("events", .ref ev), ("makers", .ref mk), ("begins", .ref D2), ("pieces", .ref pc)]))) := Keep.upd
    have kt15 := keepT_of k15 hg14 (fun xs z => by cases z)
    have hg15 : (upd H14 g (.ins C4 dx (putF "firsts" (.ref D3) [("row", .ref rw), ("extent", .int n), ("events", .ref ev), ("makers", .ref mk), ("begins", .ref D2), ("pieces", .ref pc)]))) g = some (.ins C4 dx [("row", .ref rw), ("extent", .int n), ("events", .ref ev), ("makers", .ref mk), ("begins", .ref D2), ("pieces", .ref pc), ("firsts", .ref D3)]) := upd_same
    have T15 := tabG (T13.ext s14) hg14 (insT _).1 (insT _).2 k15
    generalize upd H14 g (.ins C4 dx (putF "firsts" (.ref D3) [("row", .ref rw), ("extent", .int n), ("events", .ref ev), ("makers", .ref mk), ("begins", .ref D2), ("pieces", .ref pc)])) = H15 at k15 kt15 hg15 T15
    have lst15 : ∀ {b : Addr} {xs : List V}, H14 b = some (.lst xs) → H15 b = some (.lst xs) := fun {b xs} e => k15.of e (ne_of e hg14 (fun z => by cases z))
    have kt1315 : KeepT H13 H15 := fun b xs hb => kt15 _ _ (s14 _ _ hb)
    have epc15 := lst15 (s14 _ _ epc13)
    have ph15 := ph13.keep kt1315
    -- ranks
    refine ⟨.ref g, rfl, g, C4, dx, _, .ref pc, rfl, hg15, TFg_.cl, TFg_.nPc, rfl, pc, ts12, jn pcs0, rfl, epc15, ph15, by omega, fun H16 rk erk s16 n16 => ?_⟩
    have hg16 := s16 _ _ hg15
    refine ⟨.ref g, rfl, g, C4, dx, _, rfl, hg16, TFg_.cl, TFg_.nRk, by show 7 < 1000; decide, ?_⟩
    have k17 : Keep g H16 (upd H16 g (.ins C4 dx (putF "ranks" (.ref rk) [("row", .ref rw), ("extent", .int n), ("events", .ref ev), ("makers", .ref mk), ("begins", .ref D2), ("pieces", .ref pc), ("firsts", .ref D3)]))) := Keep.upd
    have kt17 := keepT_of k17 hg16 (fun xs z => by cases z)
    have lst17 : ∀ {b : Addr} {xs : List V}, H16 b = some (.lst xs) → (upd H16 g (.ins C4 dx (putF "ranks" (.ref rk) [("row", .ref rw), ("extent", .int n), ("events", .ref ev), ("makers", .ref mk), ("begins", .ref D2), ("pieces", .ref pc), ("firsts", .ref D3)]))) b = some (.lst xs) := fun {b xs} e => k17.of e (ne_of e hg16 (fun z => by cases z))
    have lstA : ∀ {b : Addr} {xs : List V}, H13 b = some (.lst xs) → (upd H16 g (.ins C4 dx (putF "ranks" (.ref rk) [("row", .ref rw), ("extent", .int n), ("events", .ref ev), ("makers", .ref mk), ("begins", .ref D2), ("pieces", .ref pc), ("firsts", .ref D3)]))) b = some (.lst xs) := fun {b xs} e => lst17 (s16 _ _ (lst15 (s14 _ _ e)))
    have ktA : KeepT H13 (upd H16 g (.ins C4 dx (putF "ranks" (.ref rk) [("row", .ref rw), ("extent", .int n), ("events", .ref ev), ("makers", .ref mk), ("begins", .ref D2), ("pieces", .ref pc), ("firsts", .ref D3)]))) := fun b xs hb => kt17 _ _ (s16 _ _ (kt1315 _ _ hb))
    obtain ⟨j1, j2, j3⟩ := jn_ok pr
    refine qq _ Y.L.reverse mos (jn pcs0) ⟨dx, rw, ev, mk, D2, pc, D3, rk, us, ps.reverse, ts12⟩ ⟨upd_same, lstA er13, mv13.keep ktA, lstA eev13, pa13.keep ktA, lstA emk13, lstA ebg13, lstA epc13, ph13.keep ktA, lst17 (s16 _ _ (lst15 eft)), lst17 erk⟩
      ⟨evok, ?_, j1, j2, fun p p0 => by rw [j3, pwt p p0], by omega, by omega, by rw [← lus]; exact lu3⟩ ⟨Y, run, e3, rfl, fod⟩ nrw ?_ (tabG (T15.ext s16) hg16 (insT _).1 (insT _).2 k17)
    · rw [List.length_reverse, mkrU_len, List.length_reverse, evL]
      exact (Nat.zero_add _).symm
    · exact (((kn13.trans (KeepN.of (keepS s14))).trans (KeepN.of k15)).trans (KeepN.of (keepS s16))).trans (KeepN.of k17)
theorem ok_FgInit {f fFI fD fFl fLo fJ fS fR : Addr} {fd fdFI fdD fdFl fdLo fdJ fdS fdR : FuncData} (F : FunD K "__init__" "Folding.__init__" (defArgs s_Fg_init) (defBody s_Fg_init) (defScope s_Fg_init) [] [("moves", .non)] f fd) (T : FrT K mg C) (TFg_ : FgT K mg C4) (mkF : Mk K C fFI) (G_init : FnOk P w K mg base CX0 5 fFI fdFI P_Finit (spFinit K C)) (b_init : Binds K fdFI P_Finit [])
    (D_fold_down : DefAt K mg "fold_down" s_fold_down P_fold_down fD fdD) (G_fold_down : FnOk P w K mg base CX0 10 fD fdD P_fold_down (spFoldDown C Lim TT)) (D_fault_of : DefAt K mg "fault_of" s_fault_of P_fault_of fFl fdFl) (M_led_on : Meth K C "led_on" fLo) (G_led_on : FnOk P w K mg base CX0 1 fLo fdLo P_Fled_on (spLedOn C)) (b_led_on : Binds K fdLo P_Fled_on [])
    (D_joined : DefAt K mg "joined" s_joined P_joined fJ fdJ) (D_settled : DefAt K mg "settled" s_settled P_settled fS fdS) (G_settled : FnOk P w K mg base CX0 3 fS fdS P_settled spSettled) (D_first_ranks : DefAt K mg "first_ranks" s_first_ranks P_first_ranks fR fdR) (zE : mg "enumerate" = none) (B : Bn mg) :
    FnOk P w K mg base CX0 11 f fd P_Fg_init (spFgInit C4 Lim TT) :=
  (ok_FgInitN F T TFg_ mkF G_init b_init D_fold_down G_fold_down D_fault_of M_led_on G_led_on b_led_on D_joined D_settled G_settled D_first_ranks zE B).imp fun vs H Q E ⟨g, dx, L, n, ts, ms, e, h1, h2, h3, h4, h5, h6, h7, h8, h9, qq⟩ => ⟨g, dx, L, n, ts, ms, e, h1, h2, h3, h4, h5, h6, h7, h8, h9, fun H' evs mos pcs z fa fm rt _ kn tt => qq H' evs mos pcs z fa fm rt kn tt⟩
end

/-! ### trails -/
abbrev N_need_place : List Str := ["length", "place"]
abbrev P_need_place : List Str := ["length", "place"]
theorem sc_need_place : FnScope N_need_place P_need_place (defScope s_need_place) := ⟨rfl, rfl, rfl, by decide +kernel, rfl, by decide +kernel, by decide +kernel⟩
abbrev N_Fg_trail : List Str := ["self", "place", "told", "at"]
abbrev P_Fg_trail : List Str := ["self", "place"]
theorem sc_Fg_trail : FnScope N_Fg_trail P_Fg_trail (defScope s_Fg_trail) := ⟨rfl, rfl, rfl, by decide +kernel, rfl, by decide +kernel, by decide +kernel⟩
theorem ChF.inE {R : Int → Int → Prop} : ∀ {l : List Ev} {n t : Int}, ChF R n l t → ∀ v ∈ l, evE v ≤ n
  | w :: r, n, t, ⟨h1, h2, h3, h4⟩, v, hv => by
    rcases List.mem_cons.mp hv with rfl | hv
    · omega
    · have := ChF.inE h4 v hv
      omega
theorem step_low {R : Int → Int → Prop} {v : Ev} (g : Good R v) {x : Int} (h1 : evM v ≤ x) (h2 : x < evE v) : evStep v x ≤ x := by
  cases v with
  | bare m e => exact Int.le_refl _
  | fold m e lo st f =>
    obtain ⟨_, a, _⟩ := g.2.2 x h1 h2
    have h1 : m ≤ x := h1
    show (if m ≤ x ∧ x < e then evTo e lo st f x else x) ≤ x
    rw [if_pos ⟨h1, h2⟩]
    omega
theorem step_off {v : Ev} {x : Int} (h : x < evM v) : evStep v x = x := by
  cases v with
  | bare m e => rfl
  | fold m e lo st f =>
    have h : x < m := h
    exact if_neg (by omega)
/-- the event that meets a place leads it on its way -/
theorem ChF.via {R : Int → Int → Prop} : ∀ {l : List Ev} {n t : Int}, ChF R n l t → ∀ {v : Ev} {x : Int}, v ∈ l → evM v ≤ x → x < evE v → dnL l x = dnL l (evStep v x)
  | w :: r, n, t, ⟨h1, h2, h3, h4⟩, v, x, hv, a, b => by
    show dnL r (evStep w x) = dnL r (evStep w (evStep v x))
    by_cases c : evM w ≤ x
    · have e : v = w := by
        rcases List.mem_cons.mp hv with e | hv
        · exact e
        · have := ChF.inE h4 v hv
          omega
      subst e
      congr 1
      cases v with
      | bare m e => rfl
      | fold m e lo st f =>
        have a : m ≤ x := a
        have es : evStep (.fold m e lo st f) x = evTo e lo st f x := if_pos ⟨a, b⟩
        obtain ⟨_, t1, _⟩ := h3.2.2 x a b
        rw [es, step_off (v := .fold m e lo st f) t1]
    · rcases List.mem_cons.mp hv with e | hv
      · subst e
        exact absurd a c
      · rw [step_off (v := w) (by omega)]
        have g : evStep v x ≤ x := by
          cases v with
          | bare m e => exact Int.le_refl _
          | fold m e lo st f =>
            have gg : ∀ {l : List Ev} {n t : Int}, ChF R n l t → ∀ v ∈ l, Good R v := by
              intro l
              induction l with
              | nil => intro n t _ v hv; cases hv
              | cons w r ih =>
                rintro n t ⟨_, _, g, c⟩ v hv
                rcases List.mem_cons.mp hv with rfl | hv
                · exact g
                · exact ih c v hv
            exact step_low (gg h4 _ hv) a b
        rw [step_off (v := w) (by omega)]
        exact ChF.via h4 hv a b
theorem ChF.good {R : Int → Int → Prop} : ∀ {l : List Ev} {n t : Int}, ChF R n l t → ∀ v ∈ l, Good R v
  | w :: r, n, t, ⟨_, _, g, c⟩, v, hv => by
    rcases List.mem_cons.mp hv with rfl | hv
    · exact g
    · exact ChF.good c v hv
theorem Chn.rise {R : Int → Int → Prop} {n : Int} : ∀ {evs : List Ev} {t : Int}, Chn R n t evs → (evs.map evM).Pairwise (· ≤ ·) ∧ ∀ v ∈ evs, t ≤ evM v
  | [], t, _ => ⟨List.Pairwise.nil, fun v hv => (by cases hv)⟩
  | w :: r, t, ⟨h1, h2, h3, h4⟩ => by
    obtain ⟨a, b⟩ := Chn.rise h4
    refine ⟨List.pairwise_cons.mpr ⟨fun x hx => ?_, a⟩, fun v hv => ?_⟩
    · obtain ⟨v, hv, rfl⟩ := List.mem_map.mp hx
      have := b v hv
      omega
    · rcases List.mem_cons.mp hv with rfl | hv
      · omega
      · have := b v hv
        omega
theorem Chn.cover {R : Int → Int → Prop} {n : Int} : ∀ {evs : List Ev} {t : Int}, Chn R n t evs → ∀ {i : Nat} {v : Ev} {x : Int}, evs[i]? = some v → x < n → (∀ (j : Nat) (v' : Int), i < j → (evs.map evM)[j]? = some v' → x < v') → x < evE v
  | w :: r, t, ⟨h1, h2, h3, h4⟩, 0, v, x, hv, hx, h => by
    cases hv
    cases r with
    | nil =>
      have h4 : evE w = n := h4
      omega
    | cons u r' =>
      have e : evM u = evE w := h4.1
      have := h 1 (evM u) (by omega) rfl
      omega
  | w :: r, t, ⟨h1, h2, h3, h4⟩, i + 1, v, x, hv, hx, h => Chn.cover h4 (show r[i]? = some v from hv) hx fun j v' hj e => h (j + 1) v' (by omega) e
/-- the trail of a place -/
inductive Trl (evs : List Ev) (mks : List Int) : Int → List (Int × Int) → Prop
  | stop {x m e : Int} {i : Nat} : evs[i]? = some (.bare m e) → m ≤ x → x < e → Trl evs mks x []
  | go {x m e lo st f k : Int} {i : Nat} {l : List (Int × Int)} : evs[i]? = some (.fold m e lo st f) → m ≤ x → x < e → mks[i]? = some k → Trl evs mks (evTo e lo st f x) l → Trl evs mks x ((k, evTo e lo st f x) :: l)
theorem Trl.down {R : Int → Int → Prop} {n : Int} {evs : List Ev} {mks : List Int} (c : ChF R n evs.reverse 0) {x : Int} {l : List (Int × Int)} (h : Trl evs mks x l) : 0 ≤ x → x < n → dnL evs.reverse x = ((l.getLast?).map (·.2)).getD x := by
  induction h with
  | stop hi a b =>
    intro x0 x1
    obtain ⟨h1, h2, h3, h4⟩ := c.least _ x0 x1
    have g := c.good _ (List.mem_reverse.mpr (List.mem_of_getElem? hi))
    have := g.2 _ a b _ h1 h3.symm
    show _ = _
    simp only [List.getLast?_nil, Option.map_none, Option.getD_none]
    omega
  | @go x m e lo st f k i l hi a b hk _ ih =>
    intro x0 x1
    have mem := List.mem_reverse.mpr (List.mem_of_getElem? hi)
    obtain ⟨t0, t1, _⟩ := (c.good _ mem).2.2 x a b
    have v := c.via mem a b
    have es : evStep (.fold m e lo st f) x = evTo e lo st f x := if_pos ⟨a, b⟩
    rw [es] at v
    rw [v, ih t0 (by omega)]
    cases l with
    | nil => rfl
    | cons y r =>
      rw [List.getLast?_cons_cons]
      have : ∃ z, (y :: r).getLast? = some z := by
        cases h : (y :: r).getLast? with
        | none => simp at h
        | some z => exact ⟨z, rfl⟩
      obtain ⟨z, hz⟩ := this
      rw [hz]
      rfl
def spNeedPl : Sp := fun vs H Q _ => ∃ (n p : Int), vs = [.int n, .int p] ∧ 0 ≤ p ∧ p < n ∧ Q .non H
def spTrail (C4 : Addr) : Sp := fun vs H Q _ => ∃ (g : Addr) (R : Int → Int → Prop) (n x : Int) (evs : List Ev) (mos : List Mo) (pcs : List Pc) (z : FgA), vs = [.ref g, .int x] ∧ FgAt C4 H g n evs mos pcs z ∧ FgM R n evs mos pcs ∧ 0 ≤ x ∧ x < n ∧
  ∀ H' L ts l, Trl evs (mkrU mos).reverse x l → H' L = some (.lst (ts.map V.ref)) → Prs H' ts l → Same H H' → H L = none → Q (.ref L) H'
theorem Prs.snocP {H : Hp} {t : Addr} {c : Int × Int} (hs : H t = some (.tup [.int c.1, .int c.2])) : ∀ {ts : List Addr} {l : List (Int × Int)}, Prs H ts l → Prs H (ts ++ [t]) (l ++ [c])
  | _, _, .nil => .cons hs .nil
  | _, _, .cons h r => .cons h (Prs.snocP hs r)
theorem Prs.keepT {H H' : Hp} (k : KeepT H H') {ts : List Addr} {l : List (Int × Int)} (h : Prs H ts l) : Prs H' ts l := Paired.mapP h fun t c e => k _ _ e
theorem Prs.len {H : Hp} : ∀ {ts : List Addr} {l : List (Int × Int)}, Prs H ts l → ts.length = l.length
  | _, _, .nil => rfl
  | _, _, .cons _ r => congrArg (· + 1) (Prs.len r)
theorem Prs.split {H : Hp} {d : Int × Int} : ∀ {l : List (Int × Int)} {ts : List Addr}, Prs H ts (l ++ [d]) → ∃ us t, ts = us ++ [t] ∧ H t = some (.tup [.int d.1, .int d.2])
  | [], _, .cons h .nil => ⟨[], _, rfl, h⟩
  | c :: l, _, .cons h r => by
    obtain ⟨us, t, e, b⟩ := Prs.split (l := l) r
    exact ⟨_ :: us, t, by rw [e]; rfl, b⟩
section
variable {P : Program} {w : World} {K : PySem.W.Frag} {mg : Str → Option Value} {base : Heap} {C4 : Addr}
theorem ok_needPl {f : Addr} {fd : FuncData} (D : DefAt K mg "need_place" s_need_place P_need_place f fd) (B : Bn mg) : FnOk P w K mg base CX0 1 f fd P_need_place spNeedPl := by
  refine D.F.ok sc_need_place (fun vs H Q E h => ?_) (fun cdv A outer s H vs Q E hr h => ?_)
  · obtain ⟨n, p, rfl, _⟩ := h
    rfl
  · obtain ⟨n, p, rfl, p0, p1, q⟩ := h
    refine ⟨_, (pss_one (ps_if (PW.pt (pw_or (pt_val (pe_callB call_isi (by rfl) B.isinstance (by decide +kernel) (pa_cons (pv 1) (pa_cons (pe_bltn (v := .ty "bool") (by rfl) B.bool (by decide +kernel) rfl) pa_nil)))) (pw_or (pt_cmpR op_lt (pv 1) pe_int (nomark _)) (pw_or1 (pt_cmpR op_ge (pv 1) (pv 0) (nomark _)))))) (pss_one ps_never) pss_nil)), ?_⟩
    refine ⟨.int p, rfl, _, _, _, _, false, rfl, ClsV.ty _, TyX.base (TyOf.int _), kit_ty (by decide +kernel), _, rfl, iteF ?_⟩
    refine ⟨.int p, rfl, p, 0, rfl, rfl, _, rfl, ite2 (fun h => absurd (of_decide_eq_true h) (by omega)) (fun _ => ?_)⟩
    exact ⟨.int p, rfl, .int n, rfl, p, n, rfl, rfl, _, rfl, ite2 (fun h => absurd (of_decide_eq_true h) (by omega)) (fun _ => q)⟩
theorem ok_trail {f fN fL fB : Addr} {fd fdN fdL fdB : FuncData} (F : Fun K "trail" "Folding.trail" s_Fg_trail f fd) (TFg_ : FgT K mg C4) (D_need_place : DefAt K mg "need_place" s_need_place P_need_place fN fdN) (D_last_up_to : DefAt K mg "last_up_to" s_last_up_to P_last_up_to fL fdL) (D_led_by : DefAt K mg "led_by" s_led_by P_led_by fB fdB) (B : Bn mg) : FnOk P w K mg base CX0 2 f fd P_Fg_trail (spTrail C4) := by
  have G_need_place : FnOk P w K mg base CX0 1 fN fdN P_need_place spNeedPl := ok_needPl D_need_place B
  have G_last_up_to : FnOk P w K mg base CX0 1 fL fdL P_last_up_to spLast := ok_last D_last_up_to B
  have G_led_by : FnOk P w K mg base CX0 1 fB fdB P_led_by spLedBy := ok_ledBy D_led_by
  refine F.ok sc_Fg_trail (fun vs H Q E h => ?_) (fun cdv A outer s H vs Q E hr h => ?_)
  · obtain ⟨g, R, n, x, evs, mos, pcs, z, rfl, _⟩ := h
    rfl
  · obtain ⟨g, R, n, x, evs, mos, pcs, z, rfl, fa, fm, x0, x1, q⟩ := h
    refine ⟨_, (pss_cons (ps_expr (pe_call G_need_place (hr.mono (by omega)) (by rfl) D_need_place.g D_need_place.F.kp D_need_place.b .nil pass0 (pa_cons (pe_fld (pv 0) rfl) (pa_cons (pv 1) pa_nil))))
      (pss_cons (ps_set (i := 2) sc_Fg_trail.nd rfl (.inl rfl) (pe_lst pa_nil))
      (pss_cons (ps_set (i := 3) sc_Fg_trail.nd rfl (.inl rfl) (pe_call G_last_up_to (hr.mono (by omega)) (by rfl) D_last_up_to.g D_last_up_to.F.kp D_last_up_to.b .nil pass0 (pa_cons (pe_fld (pv 0) rfl) (pa_cons (pv 1) pa_nil))))
      (pss_cons (ps_while PassesOwn.never (pt_cmpR op_eq (pe_ix ix_tup (pe_ix ix_list (pe_fld (pv 0) rfl) (pv 3) (fun _ _ => rfl)) pe_int (fun _ _ => rfl)) pe_str (nomark _)) (pss_cons (ps_set (i := 1) sc_Fg_trail.nd rfl (.inl rfl) (pe_call G_led_by (hr.mono (by omega)) (by rfl) D_led_by.g D_led_by.F.kp D_led_by.b .nil pass0 (pa_cons (pe_ix ix_list (pe_fld (pv 0) rfl) (pv 3) (fun _ _ => rfl)) (pa_cons (pv 1) pa_nil))))
      (pss_cons (ps_expr (pe_bm PySem.F.plainAttrs_list PySem.F.slot_list_append PySem.F.type_list_append mt_append (pv 2) (pa_cons (pe_tup (pa_cons (pe_ix ix_list (pe_fld (pv 0) rfl) (pv 3) (fun _ _ => rfl)) (pa_cons (pv 1) pa_nil))) pa_nil)))
      (pss_one (ps_set (i := 3) sc_Fg_trail.nd rfl (.inl rfl) (pe_call G_last_up_to (hr.mono (by omega)) (by rfl) D_last_up_to.g D_last_up_to.F.kp D_last_up_to.b .nil pass0 (pa_cons (pe_fld (pv 0) rfl) (pa_cons (pv 1) pa_nil))))))))
      (pss_one (ps_ret (pv 2))))))), ?_⟩
    have lev := fm.ev.ln
    have lpa := fa.pa.length
    obtain ⟨rise, low⟩ := fm.ev.cr.rise
    have lbg : ((evs.map evM)).length ≤ 90000 := by rw [List.length_map]; omega
    have first : ∃ a, (evs.map evM)[0]? = some a ∧ a = 0 := by
      have c := fm.ev.cr
      revert c
      cases evs with
      | nil =>
        intro c
        have c : (0 : Int) = n := c
        omega
      | cons v r => exact fun c => ⟨evM v, rfl, c.1⟩
    obtain ⟨a0, ha0, ea0⟩ := first
    refine ⟨.ref g, rfl, g, C4, z.dx, _, .int n, rfl, fa.at_g, TFg_.cl, TFg_.nExt, rfl, .int x, rfl, n, x, rfl, x0, x1, ?_⟩
    refine ⟨Nat.zero_le _, fun T nT => ?_⟩
    have s1 := same_upd (H := H) (o := .lst []) nT
    have eT1 : (upd H T (.lst [])) T = some (.lst []) := upd_same
    generalize upd H T (.lst []) = H1 at s1 eT1
    have fa1 := fa.same s1
    refine ⟨.ref g, rfl, g, C4, z.dx, _, .ref z.bg, rfl, fa1.at_g, TFg_.cl, TFg_.nBg, rfl, .int x, rfl, z.bg, evs.map evM, x, a0, rfl, fa1.at_bg, lbg, ha0, by omega, rise, fun i v hv hvx hup => ?_⟩
    refine ⟨fun m σ H2 => ∃ (p : Int) (i : Nat) (v : Int) (acc : List (Int × Int)) (ts : List Addr), σ = [some (.ref g), some (.int p), some (.ref T), some (.int i)] ∧ 0 ≤ p ∧ p < n ∧ (evs.map evM)[i]? = some v ∧ v ≤ p ∧ (∀ (j : Nat) (v' : Int), i < j → (evs.map evM)[j]? = some v' → p < v') ∧ H2 T = some (.lst (ts.map V.ref)) ∧ Prs H2 ts acc ∧ Same H H2 ∧ (∀ l, Trl evs (mkrU mos).reverse p l → Trl evs (mkrU mos).reverse x (acc ++ l)) ∧ acc.length + i ≤ evs.length ∧ m = p.toNat,
      ⟨_, x, i, v, [], [], rfl, x0, x1, hv, hvx, hup, eT1, .nil, s1, fun l h => h, by have := (List.getElem?_eq_some_iff.mp hv).1; rw [List.length_map] at this; show 0 + i ≤ _; omega, rfl⟩, ?_⟩
    rintro m σ H2 ⟨p, i, v, acc, ts, rfl, p0, p1, hv, hvp, hup, eT, hpr, s2, htr, hln, rfl⟩
    rw [List.getElem?_map] at hv
    obtain ⟨ev, hev, rfl⟩ := Option.map_eq_some_iff.mp hv
    have hlt := (List.getElem?_eq_some_iff.mp hev).1
    have fa2 := fa.same s2
    have cov := fm.ev.cr.cover hev p1 hup
    obtain ⟨pv, hpv⟩ : ∃ pv, z.ps[i]? = some pv := ⟨_, List.getElem?_eq_getElem (by omega)⟩
    obtain ⟨ev', t, hev', rfl, et⟩ := fa2.pa.at hpv
    rw [hev] at hev'
    cases hev'
    have lts := hpr.len
    refine ⟨.ref g, rfl, g, C4, z.dx, _, .ref z.ev, rfl, fa2.at_g, TFg_.cl, TFg_.nEv, rfl, .int i, rfl, z.ev, _, _, .ref t, rfl, rfl, SqL.of fa2.at_ev, atI_nat hpv, t, _, 0, .str (match ev with | .bare _ _ => "bare" | .fold _ _ _ _ _ => "fold"), rfl, rfl, SqT.of et, by cases ev <;> exact atI_nat (j := 0) rfl, ?_⟩
    cases ev with
    | bare m e =>
      refine ⟨rfl, _, rfl, iteF ?_⟩
      have tr := htr [] (.stop hev hvp cov)
      rw [List.append_nil] at tr
      exact ⟨.ref T, rfl, q H2 T ts acc tr eT hpr s2 nT⟩
    | fold m e lo st f =>
      have hvp : m ≤ p := hvp
      have cov : p < e := cov
      obtain ⟨hs, hst⟩ := fm.ev.st _ (List.mem_of_getElem? hev)
      have g1 := fm.ev.ch.good _ (List.mem_reverse.mpr (List.mem_of_getElem? hev))
      obtain ⟨t0, t1, _⟩ := g1.2.2 p hvp cov
      have lmk := fm.mak
      obtain ⟨k, hk⟩ : ∃ k, (mkrU mos).reverse[i]? = some k := ⟨_, List.getElem?_eq_getElem (by omega)⟩
      refine ⟨rfl, _, rfl, iteT ?_⟩
      refine ⟨fun σ H2 => ∃ (p' : Int) (i : Nat) (v : Int) (acc : List (Int × Int)) (ts : List Addr), σ = [some (.ref g), some (.int p'), some (.ref T), some (.int i)] ∧ 0 ≤ p' ∧ p' < n ∧ (evs.map evM)[i]? = some v ∧ v ≤ p' ∧ (∀ (j : Nat) (v' : Int), i < j → (evs.map evM)[j]? = some v' → p' < v') ∧ H2 T = some (.lst (ts.map V.ref)) ∧ Prs H2 ts acc ∧ Same H H2 ∧ (∀ l, Trl evs (mkrU mos).reverse p' l → Trl evs (mkrU mos).reverse x (acc ++ l)) ∧ acc.length + i ≤ evs.length ∧ p'.toNat < p.toNat,
        fun σ' H3 ⟨a1, a2, a3, a4, a5, b1, b2, b3, b4, b5, b6, b7, b8, b9, b10, b11, b12⟩ => ⟨_, b12, a1, a2, a3, a4, a5, b1, b2, b3, b4, b5, b6, b7, b8, b9, b10, b11, rfl⟩, ?_⟩
      refine ⟨.ref g, rfl, g, C4, z.dx, _, .ref z.ev, rfl, fa2.at_g, TFg_.cl, TFg_.nEv, rfl, .int i, rfl, z.ev, _, _, .ref t, rfl, rfl, SqL.of fa2.at_ev, atI_nat hpv, .int p, rfl, t, m, e, lo, st, f, p, rfl, et, hs, ?_⟩
      refine ⟨.ref T, rfl, .inl ⟨rfl, _, SqL.of eT⟩, .ref g, rfl, g, C4, z.dx, _, .ref z.mr, rfl, fa2.at_g, TFg_.cl, TFg_.nMk, rfl, .int i, rfl, z.mr, _, _, .int k, rfl, rfl, SqL.of fa2.at_mk, atI_nat (by rw [List.getElem?_map, hk]; rfl), .int (evTo e lo st f p), rfl, by show 2 ≤ sizeLine; decide, fun u nu => ?_⟩
      have s3 := same_upd (H := H2) (o := .tup [.int k, .int (evTo e lo st f p)]) nu
      have eu : (upd H2 u (.tup [.int k, .int (evTo e lo st f p)])) u = some (.tup [.int k, .int (evTo e lo st f p)]) := upd_same
      generalize upd H2 u (.tup [.int k, .int (evTo e lo st f p)]) = H3 at s3 eu
      refine ⟨T, _, _, rfl, rfl, s3 _ _ eT, sz_lt (by rw [List.length_map]; omega), ?_⟩
      have k4 : Keep T H3 (upd H3 T (.lst (ts.map V.ref ++ [.ref u]))) := Keep.upd
      have kt4 := keepT_of k4 (s3 _ _ eT) (fun xs z => by cases z)
      have s4 : Same H (upd H3 T (.lst (ts.map V.ref ++ [.ref u]))) := fun b o hb => k4.of (s3 _ _ (s2 _ _ hb)) (ne_of_none hb nT)
      have eT4 : (upd H3 T (.lst (ts.map V.ref ++ [.ref u]))) T = some (.lst ((ts ++ [u]).map V.ref)) := by rw [upd_same, List.map_append]; rfl
      have pr4 : Prs (upd H3 T (.lst (ts.map V.ref ++ [.ref u]))) (ts ++ [u]) (acc ++ [(k, evTo e lo st f p)]) := Prs.snocP (kt4 _ _ eu) ((Prs.keepT (fun b xs hb => s3 _ _ hb) hpr).keepT kt4)
      generalize upd H3 T (.lst (ts.map V.ref ++ [.ref u])) = H4 at s4 eT4 pr4
      have fa4 := fa.same s4
      refine ⟨.ref g, rfl, g, C4, z.dx, _, .ref z.bg, rfl, fa4.at_g, TFg_.cl, TFg_.nBg, rfl, .int (evTo e lo st f p), rfl, z.bg, evs.map evM, evTo e lo st f p, a0, rfl, fa4.at_bg, lbg, ha0, by omega, rise, fun i' v' hv' hvx' hup' => ?_⟩
      refine ⟨evTo e lo st f p, i', v', acc ++ [(k, evTo e lo st f p)], ts ++ [u], rfl, t0, by omega, hv', hvx', hup', eT4, pr4, s4, fun l hl => ?_, ?_, by omega⟩
      · rw [List.append_assoc]
        exact htr _ (.go hev hvp cov hk hl)
      · have hm : (evs.map evM)[i]? = some m := by rw [List.getElem?_map, hev]; rfl
        obtain ⟨li, ei⟩ := List.getElem?_eq_some_iff.mp hm
        obtain ⟨lj, ej⟩ := List.getElem?_eq_some_iff.mp hv'
        have hi' : i' < i := by
          refine Nat.lt_of_not_le fun z => ?_
          rcases Nat.lt_or_eq_of_le z with z | z
          · have := (List.pairwise_iff_getElem.mp rise) i i' li lj z
            omega
          · subst z
            omega
        rw [List.length_append]
        show acc.length + 1 + i' ≤ _
        omega
end

/-! ### two matings: what a move makes of them -/
def Is2 (S : StL) (x y : M4) : Prop := ∃ i j : Int, i ≠ j ∧ (S = [(i, x), (j, y)] ∨ S = [(j, y), (i, x)])
def Is1 (S : StL) (x : M4) : Prop := ∃ i : Int, S = [(i, x)]
theorem Is2.sym {S : StL} {x y : M4} (h : Is2 S x y) : Is2 S y x := by
  obtain ⟨i, j, n, e⟩ := h
  exact ⟨j, i, fun z => n z.symm, e.symm⟩
theorem sget2 {i j k : Int} {x y z : M4} (h : sget [(i, x), (j, y)] k = some z) : (k = i ∧ z = x) ∨ (k = j ∧ z = y) := by
  have h' : (if i = k then some x else if j = k then some y else none) = some z := h
  by_cases c : i = k
  · rw [if_pos c] at h'
    exact .inl ⟨c.symm, (Option.some.inj h').symm⟩
  · rw [if_neg c] at h'
    by_cases d : j = k
    · rw [if_pos d] at h'
      exact .inr ⟨d.symm, (Option.some.inj h').symm⟩
    · rw [if_neg d] at h'
      cases h'
section
variable {i j : Int} {x y z : M4}
theorem sput2a (n : i ≠ j) : sput [(i, x), (j, y)] i z = [(i, z), (j, y)] := by
  show [if i = i then (i, z) else (i, x), if j = i then (j, z) else (j, y)] = _
  rw [if_pos rfl, if_neg (fun q => n q.symm)]
theorem sput2b (n : i ≠ j) : sput [(i, x), (j, y)] j z = [(i, x), (j, z)] := by
  show [if i = j then (i, z) else (i, x), if j = j then (j, z) else (j, y)] = _
  rw [if_pos rfl, if_neg n]
theorem sdrop2a (n : i ≠ j) : sdrop [(i, x), (j, y)] i = [(j, y)] := by
  unfold sdrop
  rw [List.filter_cons, if_neg (by simp), List.filter_cons, if_pos (by simp; exact fun q => n q.symm), List.filter_nil]
theorem sdrop2b (n : i ≠ j) : sdrop [(i, x), (j, y)] j = [(i, x)] := by
  unfold sdrop
  rw [List.filter_cons, if_pos (by simpa using n), List.filter_cons, if_neg (by simp), List.filter_nil]
theorem rch2 : rch [(i, x), (j, y)] none = max (max 0 (x.2.1 + x.2.2.1)) (y.2.1 + y.2.2.1) := rfl
theorem rch2a (n : i ≠ j) : rch [(i, x), (j, y)] (some i) = max 0 (y.2.1 + y.2.2.1) := by
  unfold rch endsL
  rw [List.filter_cons, if_neg (by simp), List.filter_cons, if_pos (by simp; exact n), List.filter_nil]
  rfl
theorem rch2b (n : i ≠ j) : rch [(i, x), (j, y)] (some j) = max 0 (x.2.1 + x.2.2.1) := by
  unfold rch endsL
  rw [List.filter_cons, if_pos (by simp; exact fun q => n q.symm), List.filter_cons, if_neg (by simp), List.filter_nil]
  rfl
end
/-- a move upon the first or by it -/
inductive Act (e o p w f o2 p2 w2 f2 : Int) : Int → StL → Prop
  | halve0 {S : StL} : f = 1 → ¬ w ≤ p - o → (p + w - o) / 2 = 0 → Is1 S (o2, p2, w2, f2) → Act e o p w f o2 p2 w2 f2 e S
  | halve {S : StL} {h : Int} : f = 1 → ¬ w ≤ p - o → h = (p + w - o) / 2 → h ≠ 0 → Is2 S (o, p + w - h, h, 1) (o2, p2, w2, f2) → Act e o p w f o2 p2 w2 f2 e S
  | idle {S : StL} : f = 0 → o = p → Is1 S (o2, p2, w2, f2) → Act e o p w f o2 p2 w2 f2 e S
  | fold0 {S : StL} : (f = 1 → w ≤ p - o) → (f = 0 → 1 ≤ p - o) → p + w = e → (p2 + w2 = e → p ≤ p2) → p2 < p → p2 + w2 ≤ p → Is1 S (o2, p2, w2, f2) → Act e o p w f o2 p2 w2 f2 p S
  | fold {S : StL} {o' : Int} : (f = 1 → w ≤ p - o) → (f = 0 → 1 ≤ p - o) → p + w = e → (p2 + w2 = e → p ≤ p2) → p2 < p → p < p2 + w2 → p2 + w2 < e → (f = 1 → o' = o + w - (p2 + w2 - p)) → (f = 0 → o' = o) → Is2 S (o', p, p2 + w2 - p, f) (o2, p2, w2, f2) → Act e o p w f o2 p2 w2 f2 (p2 + w2) S
  | lead {S : StL} {a b v g : Int} : (f = 1 → w ≤ p - o) → (f = 0 → 1 ≤ p - o) → p + w = e → p ≤ p2 → (f = 1 → v = o + w - (p2 - p) - w2) → (f = 0 → o ≤ v ∧ v < p ∧ v ≤ p2 - (p - o) ∧ (p2 - o < 2 * (p - o) → v = p2 - (p - o))) → (f = f2 → g = 0) → (f ≠ f2 → g = 1) → a ≤ b → ((a = o2 ∧ b = v) ∨ (a = v ∧ b = o2)) → Is2 S (o, p, w, f) (a, b, w2, g) → Act e o p w f o2 p2 w2 f2 e S
theorem nrm_two (a b c d : Int) : ∃ a' b', a' ≤ b' ∧ ((a' = a ∧ b' = b) ∨ (a' = b ∧ b' = a)) ∧ nrm (a, b, c, d) = (a', b', c, d) := by
  by_cases h : b < a
  · refine ⟨b, a, by omega, .inr ⟨rfl, rfl⟩, ?_⟩
    show ((if b < a then b else a), (if b < a then a else b), c, d) = _
    rw [if_pos h, if_pos h]
  · refine ⟨a, b, by omega, .inl ⟨rfl, rfl⟩, ?_⟩
    show ((if b < a then b else a), (if b < a then a else b), c, d) = _
    rw [if_neg h, if_neg h]
theorem xLead_iff {o p w f : Int} (f01 : f = 0 ∨ f = 1) : (xLead (o, p, w, f) = true → (f = 1 → w ≤ p - o) ∧ (f = 0 → 1 ≤ p - o)) ∧ (f = 1 → ¬ xLead (o, p, w, f) = true → ¬ w ≤ p - o) := by
  refine ⟨fun h => ?_, fun e h q => h ?_⟩
  · have h : (if f = 1 then decide (w ≤ p - o) else decide (1 ≤ p - o)) = true := h
    rcases f01 with rfl | rfl
    · rw [if_neg (by decide)] at h
      exact ⟨fun z => absurd z (by decide), fun _ => of_decide_eq_true h⟩
    · rw [if_pos rfl] at h
      exact ⟨fun _ => of_decide_eq_true h, fun z => absurd z (by decide)⟩
  · show (if f = 1 then decide (w ≤ p - o) else decide (1 ≤ p - o)) = true
    rw [if_pos e]
    exact decide_eq_true q
theorem led_facts {o p w f p2 w2 : Int} (l0 : f = 0 → 1 ≤ p - o) (h : p ≤ p2) : (f = 1 → ledB (o, p, w, f) p2 w2 = o + w - (p2 - p) - w2) ∧ (f = 0 → o ≤ ledB (o, p, w, f) p2 w2 ∧ ledB (o, p, w, f) p2 w2 < p ∧ ledB (o, p, w, f) p2 w2 ≤ p2 - (p - o) ∧ (p2 - o < 2 * (p - o) → ledB (o, p, w, f) p2 w2 = p2 - (p - o))) := by
  refine ⟨fun e => if_pos e, fun e => ?_⟩
  have l := l0 e
  have q : ledB (o, p, w, f) p2 w2 = o + (p2 - o) % (p - o) := if_neg (by show ¬ f = 1; omega)
  rw [q]
  have m0 := Int.emod_nonneg (p2 - o) (show p - o ≠ 0 by omega)
  have m1 := Int.emod_lt_of_pos (p2 - o) (show 0 < p - o by omega)
  have m2 : (p2 - o) % (p - o) = (p2 - o - (p - o)) % (p - o) := by
    rw [Int.sub_emod_right]
  have m3 : (p2 - o - (p - o)) % (p - o) ≤ p2 - o - (p - o) := by
    have d0 := Int.ediv_nonneg (show 0 ≤ p2 - o - (p - o) by omega) (show 0 ≤ p - o by omega)
    have d1 := Int.mul_nonneg (show 0 ≤ p - o by omega) d0
    rw [Int.emod_def]
    omega
  refine ⟨by omega, by omega, by omega, fun c => ?_⟩
  rw [m2, Int.emod_eq_of_lt (by omega) (by omega)]
  omega
section
variable {X X' : FS} {mo : Mo} {o p w f o2 p2 w2 f2 : Int}
theorem two_ord {i j : Int} (n : i ≠ j) (hS : X.S = [(i, (o, p, w, f)), (j, (o2, p2, w2, f2))]) (ht : f = 1 ∨ f2 = 1) (wf : WF X) (fm : FoMove X mo) (q : mkS X mo = some X') :
    (p + w < X.e ∧ p2 + w2 < X.e) ∨ Act X.e o p w f o2 p2 w2 f2 X'.e X'.S ∨ Act X.e o2 p2 w2 f2 o p w f X'.e X'.S := by
  obtain ⟨Xe, XS, XL⟩ := X
  have hS : XS = [(i, (o, p, w, f)), (j, (o2, p2, w2, f2))] := hS
  subst hS
  have r1 : Rok Xe (o, p, w, f) := wf.r _ List.mem_cons_self
  have r2 : Rok Xe (o2, p2, w2, f2) := wf.r _ (List.mem_cons_of_mem _ List.mem_cons_self)
  have a1 : 0 ≤ o := r1.o0
  have a2 : o ≤ p := r1.op
  have a3 : 1 ≤ w := r1.m1
  have a4 : p + w ≤ Xe := r1.pe
  have a5 : f = 0 ∨ f = 1 := r1.f01
  have b1 : 0 ≤ o2 := r2.o0
  have b2 : o2 ≤ p2 := r2.op
  have b3 : 1 ≤ w2 := r2.m1
  have b4 : p2 + w2 ≤ Xe := r2.pe
  have b5 : f2 = 0 ∨ f2 = 1 := r2.f01
  have fold_ : ∀ {k : Int} {z : M4} {m : Int}, sget [(i, (o, p, w, f)), (j, (o2, p2, w2, f2))] k = some z → mkS ⟨Xe, [(i, (o, p, w, f)), (j, (o2, p2, w2, f2))], XL⟩ (.fold k m) = some X' → m < Xe ∧ X'.e = m ∧ X'.S = (if m - z.2.1 = 0 then sdrop [(i, (o, p, w, f)), (j, (o2, p2, w2, f2))] k else sput [(i, (o, p, w, f)), (j, (o2, p2, w2, f2))] k (cutX z m)) := fun {k z m} hg e => by
    have e : foldS ⟨Xe, [(i, (o, p, w, f)), (j, (o2, p2, w2, f2))], XL⟩ k m = some X' := e
    unfold foldS at e
    have hg' : sget (⟨Xe, [(i, (o, p, w, f)), (j, (o2, p2, w2, f2))], XL⟩ : FS).S k = some z := hg
    rw [hg'] at e
    dsimp only at e
    split at e
    · rename_i c
      cases e
      exact ⟨c.2.2.2.1, rfl, rfl⟩
    · cases e
  cases fm with
  | bare h =>
    have h : rch [(i, (o, p, w, f)), (j, (o2, p2, w2, f2))] none < Xe := h
    rw [rch2] at h
    dsimp only at h
    exact .inl ⟨by show p + w < Xe; omega, by show p2 + w2 < Xe; omega⟩
  | @fold k z hg hl he hmin hall =>
    rcases sget2 hg with ⟨rfl, rfl⟩ | ⟨rfl, rfl⟩
    · refine .inr (.inl ?_)
      have l := (xLead_iff a5).1 hl
      have he : p + w = Xe := he
      have hm := hmin _ (List.mem_cons_of_mem _ List.mem_cons_self)
      have hm : p2 + w2 = Xe → p ≤ p2 := hm
      have ha : p2 < p := hall _ (List.mem_cons_of_mem _ List.mem_cons_self) (fun z => n z.symm)
      obtain ⟨c1, c2, c3⟩ := fold_ hg q
      have em : max p (rch [(k, (o, p, w, f)), (j, (o2, p2, w2, f2))] (some k)) = if p2 + w2 ≤ p then p else p2 + w2 := by
        rw [rch2a n]
        dsimp only
        split <;> omega
      have c1 : max p (rch [(k, (o, p, w, f)), (j, (o2, p2, w2, f2))] (some k)) < Xe := c1
      have c2 : X'.e = max p (rch [(k, (o, p, w, f)), (j, (o2, p2, w2, f2))] (some k)) := c2
      have c3 : X'.S = (if max p (rch [(k, (o, p, w, f)), (j, (o2, p2, w2, f2))] (some k)) - p = 0 then sdrop [(k, (o, p, w, f)), (j, (o2, p2, w2, f2))] k else sput [(k, (o, p, w, f)), (j, (o2, p2, w2, f2))] k (cutX (o, p, w, f) (max p (rch [(k, (o, p, w, f)), (j, (o2, p2, w2, f2))] (some k))))) := c3
      rw [em] at c1 c2 c3
      by_cases d : p2 + w2 ≤ p
      · rw [if_pos d] at c1 c2 c3
        rw [if_pos (by omega), sdrop2a n] at c3
        rw [c2, c3]
        exact .fold0 l.1 l.2 he hm ha d ⟨_, rfl⟩
      · rw [if_neg d] at c1 c2 c3
        rw [if_neg (by omega), sput2a n] at c3
        rw [c2, c3]
        exact .fold l.1 l.2 he hm ha (by omega) c1 (o' := if f = 1 then o + w - (p2 + w2 - p) else o) (fun z => if_pos z) (fun z => if_neg (by omega)) ⟨_, _, n, .inl rfl⟩
    · refine .inr (.inr ?_)
      have l := (xLead_iff b5).1 hl
      have he : p2 + w2 = Xe := he
      have hm := hmin _ List.mem_cons_self
      have hm : p + w = Xe → p2 ≤ p := hm
      have ha : p < p2 := hall _ List.mem_cons_self n
      obtain ⟨c1, c2, c3⟩ := fold_ hg q
      have em : max p2 (rch [(i, (o, p, w, f)), (k, (o2, p2, w2, f2))] (some k)) = if p + w ≤ p2 then p2 else p + w := by
        rw [rch2b n]
        dsimp only
        split <;> omega
      have c1 : max p2 (rch [(i, (o, p, w, f)), (k, (o2, p2, w2, f2))] (some k)) < Xe := c1
      have c2 : X'.e = max p2 (rch [(i, (o, p, w, f)), (k, (o2, p2, w2, f2))] (some k)) := c2
      have c3 : X'.S = (if max p2 (rch [(i, (o, p, w, f)), (k, (o2, p2, w2, f2))] (some k)) - p2 = 0 then sdrop [(i, (o, p, w, f)), (k, (o2, p2, w2, f2))] k else sput [(i, (o, p, w, f)), (k, (o2, p2, w2, f2))] k (cutX (o2, p2, w2, f2) (max p2 (rch [(i, (o, p, w, f)), (k, (o2, p2, w2, f2))] (some k))))) := c3
      rw [em] at c1 c2 c3
      by_cases d : p + w ≤ p2
      · rw [if_pos d] at c1 c2 c3
        rw [if_pos (by omega), sdrop2b n] at c3
        rw [c2, c3]
        exact .fold0 l.1 l.2 he hm ha d ⟨_, rfl⟩
      · rw [if_neg d] at c1 c2 c3
        rw [if_neg (by omega), sput2b n] at c3
        rw [c2, c3]
        exact .fold l.1 l.2 he hm ha (by omega) c1 (o' := if f2 = 1 then o2 + w2 - (p + w - p2) else o2) (fun z => if_pos z) (fun z => if_neg (by omega)) ⟨_, _, fun z => n z.symm, .inr rfl⟩
  | @lead k k2 z z2 hne hi hl he hj hle =>
    have q : (leadS [(i, (o, p, w, f)), (j, (o2, p2, w2, f2))] k2 1 k).map (fun S => (⟨Xe, S, XL⟩ : FS)) = some X' := q
    obtain ⟨S, hS, rfl⟩ := Option.map_eq_some_iff.mp q
    unfold leadS at hS
    rw [if_neg hne, show sget [(i, (o, p, w, f)), (j, (o2, p2, w2, f2))] k2 = some z2 from hj, show sget [(i, (o, p, w, f)), (j, (o2, p2, w2, f2))] k = some z from hi] at hS
    dsimp only at hS
    obtain ⟨y, hy, rfl⟩ := Option.map_eq_some_iff.mp hS
    unfold leadX at hy
    simp only [eq_self, if_true] at hy
    split at hy
    · rename_i c
      cases hy
      rcases sget2 hi with ⟨rfl, rfl⟩ | ⟨rfl, rfl⟩
      · rcases sget2 hj with ⟨rfl, _⟩ | ⟨rfl, rfl⟩
        · exact absurd rfl hne
        · refine .inr (.inl ?_)
          have l := (xLead_iff a5).1 hl
          have he : p + w = Xe := he
          have hle : p ≤ p2 := hle
          obtain ⟨v1, v0⟩ := led_facts (w := w) (w2 := w2) l.2 hle
          show Act Xe o p w f o2 p2 w2 f2 Xe (sput _ _ _)
          rw [sput2b n]
          obtain ⟨a', b', h1, h2, h3⟩ := nrm_two o2 (ledB (o, p, w, f) p2 w2) w2 (xorP f2 f)
          refine .lead (a := a') (b := b') (v := ledB (o, p, w, f) p2 w2) (g := xorP f2 f) l.1 l.2 he hle v1 v0 (fun z => if_pos z.symm) (fun z => if_neg fun y => z y.symm) h1 h2 ⟨_, _, n, .inl ?_⟩
          rw [← h3]
      · rcases sget2 hj with ⟨rfl, rfl⟩ | ⟨rfl, _⟩
        · refine .inr (.inr ?_)
          have l := (xLead_iff b5).1 hl
          have he : p2 + w2 = Xe := he
          have hle : p2 ≤ p := hle
          obtain ⟨v1, v0⟩ := led_facts (w := w2) (w2 := w) l.2 hle
          show Act Xe o2 p2 w2 f2 o p w f Xe (sput _ _ _)
          rw [sput2a n]
          obtain ⟨a', b', h1, h2, h3⟩ := nrm_two o (ledB (o2, p2, w2, f2) p w) w (xorP f f2)
          refine .lead (a := a') (b := b') (v := ledB (o2, p2, w2, f2) p w) (g := xorP f f2) l.1 l.2 he hle v1 v0 (fun z => if_pos z.symm) (fun z => if_neg fun y => z y.symm) h1 h2 ⟨_, _, fun z => n z.symm, .inr ?_⟩
          rw [← h3]
        · exact absurd rfl hne
    · cases hy
  | @halve k z hg hf hn =>
    have q : (halveS [(i, (o, p, w, f)), (j, (o2, p2, w2, f2))] k).map (fun S => (⟨Xe, S, XL⟩ : FS)) = some X' := q
    obtain ⟨S, hS, rfl⟩ := Option.map_eq_some_iff.mp q
    unfold halveS at hS
    rw [show sget [(i, (o, p, w, f)), (j, (o2, p2, w2, f2))] k = some z from hg] at hS
    dsimp only at hS
    split at hS
    · cases hS
    · rcases sget2 hg with ⟨rfl, rfl⟩ | ⟨rfl, rfl⟩
      · refine .inr (.inl ?_)
        have hf : f = 1 := hf
        have nl := (xLead_iff a5).2 hf hn
        have hS : (if hlf o p w = 0 then some (sdrop [(k, (o, p, w, f)), (j, (o2, p2, w2, f2))] k) else some (sput [(k, (o, p, w, f)), (j, (o2, p2, w2, f2))] k (nrm (o, p + w - hlf o p w, hlf o p w, f)))) = some S := hS
        rw [sdrop2a n, sput2a n] at hS
        split at hS
        · rename_i c
          cases hS
          exact .halve0 hf nl c ⟨_, rfl⟩
        · rename_i c
          cases hS
          have ch : (p + w - o) / 2 ≠ 0 := c
          have lo : o ≤ p + w - hlf o p w := by
            unfold hlf
            omega
          exact .halve (h := hlf o p w) hf nl rfl ch ⟨_, _, n, .inl (by rw [nrm_id (x := (o, p + w - hlf o p w, hlf o p w, f)) lo, hf])⟩
      · refine .inr (.inr ?_)
        have hf : f2 = 1 := hf
        have nl := (xLead_iff b5).2 hf hn
        have hS : (if hlf o2 p2 w2 = 0 then some (sdrop [(i, (o, p, w, f)), (k, (o2, p2, w2, f2))] k) else some (sput [(i, (o, p, w, f)), (k, (o2, p2, w2, f2))] k (nrm (o2, p2 + w2 - hlf o2 p2 w2, hlf o2 p2 w2, f2)))) = some S := hS
        rw [sdrop2b n, sput2b n] at hS
        split at hS
        · rename_i c
          cases hS
          exact .halve0 hf nl c ⟨_, rfl⟩
        · rename_i c
          cases hS
          have ch : (p2 + w2 - o2) / 2 ≠ 0 := c
          have lo : o2 ≤ p2 + w2 - hlf o2 p2 w2 := by
            unfold hlf
            omega
          exact .halve (h := hlf o2 p2 w2) hf nl rfl ch ⟨_, _, fun z => n z.symm, .inr (by rw [nrm_id (x := (o2, p2 + w2 - hlf o2 p2 w2, hlf o2 p2 w2, f2)) lo, hf])⟩
  | @idle k z hg hf hx =>
    have q : (idleS [(i, (o, p, w, f)), (j, (o2, p2, w2, f2))] k).map (fun S => (⟨Xe, S, XL⟩ : FS)) = some X' := q
    obtain ⟨S, hS, rfl⟩ := Option.map_eq_some_iff.mp q
    unfold idleS at hS
    rw [show sget [(i, (o, p, w, f)), (j, (o2, p2, w2, f2))] k = some z from hg] at hS
    dsimp only at hS
    split at hS
    · cases hS
      rcases sget2 hg with ⟨rfl, rfl⟩ | ⟨rfl, rfl⟩
      · exact .inr (.inl (.idle hf hx ⟨_, sdrop2a n⟩))
      · exact .inr (.inr (.idle hf hx ⟨_, sdrop2b n⟩))
    · cases hS
  | @merge k k2 z z2 hne hx hy s1 s2 hs =>
    have g1 : z.2.2.2 = 0 := (of_decide_eq_true s1).1
    have g2 : z2.2.2.2 = 0 := (of_decide_eq_true s2).1
    exfalso
    rcases sget2 hx with ⟨rfl, rfl⟩ | ⟨rfl, rfl⟩ <;> rcases sget2 hy with ⟨rfl, rfl⟩ | ⟨rfl, rfl⟩
    · exact hne rfl
    · have g1 : f = 0 := g1
      have g2 : f2 = 0 := g2
      omega
    · have g1 : f2 = 0 := g1
      have g2 : f = 0 := g2
      omega
    · exact hne rfl
theorem two_inv (h : Is2 X.S (o, p, w, f) (o2, p2, w2, f2)) (ht : f = 1 ∨ f2 = 1) (wf : WF X) (fm : FoMove X mo) (q : mkS X mo = some X') :
    (p + w < X.e ∧ p2 + w2 < X.e) ∨ Act X.e o p w f o2 p2 w2 f2 X'.e X'.S ∨ Act X.e o2 p2 w2 f2 o p w f X'.e X'.S := by
  obtain ⟨i, j, n, hS | hS⟩ := h
  · exact two_ord n hS ht wf fm q
  · rcases two_ord (fun z => n z.symm) hS ht.symm wf fm q with z | z | z
    · exact .inl ⟨z.2, z.1⟩
    · exact .inr (.inr z)
    · exact .inr (.inl z)
end

/-! ### at most so many moves from here on -/
def Term : Nat → FS → Prop
  | 0, X => ∀ mo X', FoMove X mo → mkS X mo = some X' → False
  | m + 1, X => ∀ mo X', FoMove X mo → mkS X mo = some X' → Term m X'
theorem Term.up : ∀ {m : Nat} {X : FS}, Term m X → Term (m + 1) X
  | 0, _, h => fun mo X' fm q => (h mo X' fm q).elim
  | _ + 1, _, h => fun mo X' fm q => (h mo X' fm q).up
theorem Term.le {m k : Nat} (h : m ≤ k) {X : FS} (t : Term m X) : Term k X := by
  induction h with
  | refl => exact t
  | step _ ih => exact ih.up
def LimT (X : FS) (k : Nat) : Prop := X.L.length ≤ k ∧ ∃ m, k + m ≤ 60 ∧ Term m X
theorem mkS_L1 {X X' : FS} {mo : Mo} (wf : WF X) (q : mkS X mo = some X') : X'.L.length ≤ X.L.length + 1 := by
  rcases (mkS_fam wf q).2 with ⟨e1, e2⟩ | ⟨_, e1, _, _, _, _⟩
  · first
      | (rw [e1]; exact Nat.le_succ _)
      | (rw [e2]; exact Nat.le_succ _)
  · rw [e1, List.length_append]
    exact Nat.le_refl _
theorem limT : LimOk LimT := by
  refine ⟨fun {X k} _ h => ?_, fun {X k} _ h => ?_, fun {X X' k mo} wf fm q h => ?_⟩
  · obtain ⟨_, m, a, _⟩ := h
    omega
  · obtain ⟨l, m, a, _⟩ := h
    omega
  · obtain ⟨l, m, a, t⟩ := h
    have l1 := mkS_L1 wf q
    cases m with
    | zero => exact (t mo X' fm q).elim
    | succ m => exact ⟨by omega, m, by omega, t mo X' fm q⟩
/-! ### none, one -/
theorem t_none {X : FS} (h : X.S = []) : Term 1 X := by
  have z : ∀ {Y : FS} {mo : Mo} {Y' : FS}, Y.S = [] → FoMove Y mo → mkS Y mo = some Y' → 0 < Y.e ∧ Y'.e = 0 ∧ Y'.S = [] := fun {Y mo Y'} hY fm q => by
    obtain ⟨Ye, YS, YL⟩ := Y
    have hY : YS = [] := hY
    subst hY
    cases fm with
    | bare h =>
      have h : (0 : Int) < Ye := h
      have q : (if rch [] none ≤ rch [] none ∧ rch [] none < Ye then some (⟨rch [] none, [], YL ++ [.bare (rch [] none) Ye]⟩ : FS) else none) = some Y' := q
      split at q
      · cases q
        exact ⟨h, rfl, rfl⟩
      · cases q
    | fold hg _ _ _ _ => cases hg
    | lead _ hi _ _ _ _ => cases hi
    | halve hg _ _ => cases hg
    | idle hg _ _ => cases hg
    | merge _ hx _ _ _ _ => cases hx
  intro mo X' fm q mo2 X2 fm2 q2
  obtain ⟨_, a, b⟩ := z h fm q
  have := (z b fm2 q2).1
  omega
theorem sget1 {i k : Int} {x z : M4} (h : sget [(i, x)] k = some z) : k = i ∧ z = x := by
  have h' : (if i = k then some x else none) = some z := h
  by_cases c : i = k
  · rw [if_pos c] at h'
    exact ⟨c.symm, (Option.some.inj h').symm⟩
  · rw [if_neg c] at h'
    cases h'
section
variable {X X' : FS} {mo : Mo} {o p w f : Int}
/-- what a move makes of one mating -/
theorem one_inv (h : Is1 X.S (o, p, w, f)) (wf : WF X) (fm : FoMove X mo) (q : mkS X mo = some X') :
    (p + w < X.e ∧ X'.e = p + w ∧ Is1 X'.S (o, p, w, f)) ∨ X'.S = [] ∨ (f = 1 ∧ ¬ w ≤ p - o ∧ X'.e = X.e ∧ Is1 X'.S (o, p + w - (p + w - o) / 2, (p + w - o) / 2, 1)) := by
  obtain ⟨Xe, XS, XL⟩ := X
  obtain ⟨i, h⟩ := h
  have h : XS = [(i, (o, p, w, f))] := h
  subst h
  have r1 : Rok Xe (o, p, w, f) := wf.r _ List.mem_cons_self
  have a1 : 0 ≤ o := r1.o0
  have a2 : o ≤ p := r1.op
  have a3 : 1 ≤ w := r1.m1
  have a5 : f = 0 ∨ f = 1 := r1.f01
  have sp : ∀ y : M4, sput [(i, (o, p, w, f))] i y = [(i, y)] := fun y => by
    show [if i = i then (i, y) else (i, (o, p, w, f))] = _
    rw [if_pos rfl]
  have sd : sdrop [(i, (o, p, w, f))] i = [] := by
    unfold sdrop
    rw [List.filter_cons, if_neg (by simp), List.filter_nil]
  cases fm with
  | bare h =>
    have er : rch [(i, (o, p, w, f))] none = p + w := by
      show max 0 (p + w) = p + w
      omega
    have h : rch [(i, (o, p, w, f))] none < Xe := h
    have q : (if rch [(i, (o, p, w, f))] none ≤ rch [(i, (o, p, w, f))] none ∧ rch [(i, (o, p, w, f))] none < Xe then some (⟨rch [(i, (o, p, w, f))] none, [(i, (o, p, w, f))], XL ++ [.bare (rch [(i, (o, p, w, f))] none) Xe]⟩ : FS) else none) = some X' := q
    rw [er] at h q
    split at q
    · cases q
      exact .inl ⟨h, rfl, i, rfl⟩
    · cases q
  | @fold k z hg hl he hmin hall =>
    obtain ⟨rfl, rfl⟩ := sget1 hg
    have er : max p (rch [(k, (o, p, w, f))] (some k)) = p := by
      have : rch [(k, (o, p, w, f))] (some k) = 0 := by
        unfold rch endsL
        rw [List.filter_cons, if_neg (by simp), List.filter_nil]
        rfl
      rw [this]
      omega
    have q : foldS ⟨Xe, [(k, (o, p, w, f))], XL⟩ k (max p (rch [(k, (o, p, w, f))] (some k))) = some X' := q
    rw [er] at q
    unfold foldS at q
    rw [show sget (⟨Xe, [(k, (o, p, w, f))], XL⟩ : FS).S k = some (o, p, w, f) from hg] at q
    dsimp only at q
    split at q
    · rw [if_pos (by omega)] at q
      cases q
      exact .inr (.inl sd)
    · cases q
  | lead hne hi _ _ hj _ => exact absurd ((sget1 hi).1.trans (sget1 hj).1.symm) hne
  | @halve k z hg hf hn =>
    obtain ⟨rfl, rfl⟩ := sget1 hg
    have hf : f = 1 := hf
    have nl := (xLead_iff a5).2 hf hn
    have q : (halveS [(k, (o, p, w, f))] k).map (fun S => (⟨Xe, S, XL⟩ : FS)) = some X' := q
    obtain ⟨S, hS, rfl⟩ := Option.map_eq_some_iff.mp q
    unfold halveS at hS
    rw [show sget [(k, (o, p, w, f))] k = some (o, p, w, f) from hg] at hS
    dsimp only at hS
    split at hS
    · cases hS
    · have hS : (if hlf o p w = 0 then some (sdrop [(k, (o, p, w, f))] k) else some (sput [(k, (o, p, w, f))] k (nrm (o, p + w - hlf o p w, hlf o p w, f)))) = some S := hS
      rw [sd, sp] at hS
      split at hS
      · cases hS
        exact .inr (.inl rfl)
      · cases hS
        have lo : o ≤ p + w - hlf o p w := by
          unfold hlf
          omega
        exact .inr (.inr ⟨hf, nl, rfl, k, by rw [nrm_id (x := (o, p + w - hlf o p w, hlf o p w, f)) lo, hf]; rfl⟩)
  | @idle k z hg hf hx =>
    obtain ⟨rfl, rfl⟩ := sget1 hg
    have q : (idleS [(k, (o, p, w, f))] k).map (fun S => (⟨Xe, S, XL⟩ : FS)) = some X' := q
    obtain ⟨S, hS, rfl⟩ := Option.map_eq_some_iff.mp q
    unfold idleS at hS
    rw [show sget [(k, (o, p, w, f))] k = some (o, p, w, f) from hg] at hS
    dsimp only at hS
    split at hS
    · cases hS
      exact .inr (.inl sd)
    · cases hS
  | merge hne hx hy _ _ _ => exact absurd ((sget1 hx).1.trans (sget1 hy).1.symm) hne
end
theorem t_one4 {X : FS} {o p w f : Int} (h : Is1 X.S (o, p, w, f)) (wf : WF X) : Term 5 X := by
  have wfn : ∀ {Y : FS} {mo : Mo} {Y' : FS}, WF Y → mkS Y mo = some Y' → WF Y' := fun wf q => mkS_wf wf q
  -- one that leads, or is straight, at the top
  have a1 : ∀ {Y : FS} {o p w f : Int}, Is1 Y.S (o, p, w, f) → WF Y → p + w = Y.e → (f = 1 → w ≤ p - o) → Term 2 Y := fun {Y o p w f} h wf he hl mo Y' fm q => by
    rcases one_inv h wf fm q with ⟨a, _, _⟩ | a | ⟨a, b, _, _⟩
    · omega
    · exact t_none a
    · exact absurd (hl a) b
  have a2 : ∀ {Y : FS} {o p w f : Int}, Is1 Y.S (o, p, w, f) → WF Y → (f = 1 → w ≤ p - o) → Term 3 Y := fun {Y o p w f} h wf hl mo Y' fm q => by
    rcases one_inv h wf fm q with ⟨a, b, c⟩ | a | ⟨a, b, _, _⟩
    · exact a1 c (wfn wf q) b.symm hl
    · exact (t_none a).up
    · exact absurd (hl a) b
  have a3 : ∀ {Y : FS} {o p w f : Int}, Is1 Y.S (o, p, w, f) → WF Y → p + w = Y.e → Term 4 Y := fun {Y o p w f} h wf he mo Y' fm q => by
    rcases one_inv h wf fm q with ⟨a, b, c⟩ | a | ⟨a, b, _, c⟩
    · omega
    · exact (t_none a).le (by decide)
    · exact a2 c (wfn wf q) (fun _ => by omega)
  intro mo X' fm q
  rcases one_inv h wf fm q with ⟨a, b, c⟩ | a | ⟨a, b, _, c⟩
  · exact a3 c (wfn wf q) b.symm
  · exact (t_none a).le (by decide)
  · exact (a2 c (wfn wf q) (fun _ => by omega)).le (by decide)
theorem t_one {X : FS} {x : M4} (h : Is1 X.S x) (wf : WF X) : Term 5 X := t_one4 (o := x.1) (p := x.2.1) (w := x.2.2.1) (f := x.2.2.2) h wf

/-! ### two mirrors: the shapes that a folder meets (T turned, N straight from 0) -/
section
variable {X : FS}
theorem two_ok {o p w f o2 p2 w2 f2 : Int} (h : Is2 X.S (o, p, w, f) (o2, p2, w2, f2)) (wf : WF X) : (0 ≤ o ∧ o ≤ p ∧ 1 ≤ w ∧ p + w ≤ X.e) ∧ 0 ≤ o2 ∧ o2 ≤ p2 ∧ 1 ≤ w2 ∧ p2 + w2 ≤ X.e := by
  obtain ⟨i, j, _, h⟩ := h
  have a : (i, ((o, p, w, f) : M4)) ∈ X.S := by
    rcases h with h | h <;> rw [h]
    · exact List.mem_cons_self
    · exact List.mem_cons_of_mem _ List.mem_cons_self
  have b : (j, ((o2, p2, w2, f2) : M4)) ∈ X.S := by
    rcases h with h | h <;> rw [h]
    · exact List.mem_cons_of_mem _ List.mem_cons_self
    · exact List.mem_cons_self
  have ra := wf.r _ a
  have rb := wf.r _ b
  exact ⟨⟨ra.o0, ra.op, ra.m1, ra.pe⟩, rb.o0, rb.op, rb.m1, rb.pe⟩
theorem two_go {m : Nat} {o p w f o2 p2 w2 f2 : Int} (h : Is2 X.S (o, p, w, f) (o2, p2, w2, f2)) (wf : WF X) (ht : f = 1 ∨ f2 = 1) (nb : ¬ (p + w < X.e ∧ p2 + w2 < X.e))
    (hA : ∀ {Y : FS} {e' : Int} {S' : StL}, Y.e = e' → Y.S = S' → WF Y → Act X.e o p w f o2 p2 w2 f2 e' S' → Term m Y)
    (hB : ∀ {Y : FS} {e' : Int} {S' : StL}, Y.e = e' → Y.S = S' → WF Y → Act X.e o2 p2 w2 f2 o p w f e' S' → Term m Y) : Term (m + 1) X := fun mo X' fm q => by
  rcases two_inv h ht wf fm q with z | z | z
  · exact absurd z nb
  · exact hA rfl rfl (mkS_wf wf q) z
  · exact hB rfl rfl (mkS_wf wf q) z
theorem t_ya {a b c o p w : Int} (h : Is2 X.S (a, b, c, 1) (o, p, w, 1)) (wf : WF X) (he : p + w = X.e) (hl : w ≤ p - o) (hb : b + c ≤ p) (ha : c ≤ b - a) : Term 6 X := by
  have k := two_ok h wf
  refine two_go h wf (.inl rfl) (by omega) (fun {Y e' S'} hX hS wf' z => ?_) (fun {Y e' S'} hX hS wf' z => ?_)
  · cases z <;> omega
  · cases z with
    | fold0 _ _ _ _ _ _ s => exact t_one (hS ▸ s) wf'
    | _ => omega
theorem t_yb {a b c o p w : Int} (h : Is2 X.S (a, b, c, 1) (o, p, w, 1)) (wf : WF X) (he : p + w = X.e) (hl : w ≤ p - o) (hb : b + c ≤ p) : Term 7 X := by
  by_cases ha : c ≤ b - a
  · exact (t_ya h wf he hl hb ha).up
  · have k := two_ok h wf
    refine two_go h wf (.inl rfl) (by omega) (fun {Y e' S'} hX hS wf' z => ?_) (fun {Y e' S'} hX hS wf' z => ?_)
    · cases z with
      | halve0 _ _ _ s => exact (t_one (hS ▸ s) wf').up
      | halve _ _ e1 e2 s => exact t_ya (hS ▸ s) wf' (by omega) hl (by omega) (by omega)
      | _ => omega
    · cases z with
      | fold0 _ _ _ _ _ _ s => exact (t_one (hS ▸ s) wf').up
      | _ => omega
/-- N and a leading T at the top -/
theorem t_y1 {s c o p w : Int} (h : Is2 X.S (0, s, c, 0) (o, p, w, 1)) (wf : WF X) (h1 : s + c = X.e) (h2 : p + w = X.e) (h3 : p < s) (hl : w ≤ p - o) : Term 8 X := by
  have k := two_ok h wf
  refine two_go h wf (.inr rfl) (by omega) (fun {Y e' S'} hX hS wf' z => ?_) (fun {Y e' S'} hX hS wf' z => ?_)
  · cases z <;> omega
  · cases z with
    | @lead _ a b v g _ _ _ _ hv _ g0 g1 ab oab r =>
      obtain rfl : g = 1 := g1 (by omega)
      have hv := hv rfl
      exact t_yb (hS ▸ r.sym) wf' (by omega) hl (by omega)
    | _ => omega
theorem t_zl {s c o p w : Int} (h : Is2 X.S (0, s, c, 0) (o, p, w, 1)) (wf : WF X) (h1 : s + c = X.e) (h2 : p + w < X.e) (h3 : p < s) (hl : w ≤ p - o) : Term 9 X := by
  have k := two_ok h wf
  refine two_go h wf (.inr rfl) (by omega) (fun {Y e' S'} hX hS wf' z => ?_) (fun {Y e' S'} hX hS wf' z => ?_)
  · cases z with
    | fold0 _ _ _ _ _ _ r => exact (t_one (hS ▸ r) wf').le (by decide)
    | @fold _ o' _ _ _ _ _ _ _ _ ho r =>
      obtain rfl : o' = 0 := ho rfl
      exact t_y1 (hS ▸ r) wf' (by omega) (by omega) h3 hl
    | _ => omega
  · cases z <;> omega
/-- a leading T that stands higher by less than s -/
theorem t_zm {s c o p w : Int} (h : Is2 X.S (0, s, c, 0) (o, p, w, 1)) (wf : WF X) (h1 : s + c = X.e) (h2 : o < s) (h3 : s ≤ p) (h4 : p < 2 * s) (h5 : p + w - o ≤ s) (hl : w ≤ p - o) : Term 10 X := by
  have k := two_ok h wf
  refine two_go h wf (.inr rfl) (by omega) (fun {Y e' S'} hX hS wf' z => ?_) (fun {Y e' S'} hX hS wf' z => ?_)
  · cases z with
    | @lead _ a b v g _ _ _ _ _ hv g0 g1 ab oab r =>
      obtain rfl : g = 1 := g1 (by omega)
      obtain ⟨_, _, _, hv⟩ := hv rfl
      have hv := hv (by omega)
      exact t_zl (hS ▸ r) wf' (by omega) (by omega) (by omega) (by omega)
    | _ => omega
  · cases z with
    | @lead _ a b v g _ _ _ _ hv _ g0 g1 ab oab r =>
      obtain rfl : g = 1 := g1 (by omega)
      have hv := hv rfl
      exact (t_yb (hS ▸ r.sym) wf' (by omega) hl (by omega)).le (by decide)
    | _ => omega
theorem t_y0 {s c o p w : Int} (h : Is2 X.S (0, s, c, 0) (o, p, w, 1)) (wf : WF X) (h1 : s + c = X.e) (h2 : p + w = X.e) (h3 : p < s) (h4 : 2 * w ≤ s) (hl : ¬ w ≤ p - o) : Term 11 X := by
  have k := two_ok h wf
  refine two_go h wf (.inr rfl) (by omega) (fun {Y e' S'} hX hS wf' z => ?_) (fun {Y e' S'} hX hS wf' z => ?_)
  · cases z <;> omega
  · cases z with
    | halve0 _ _ _ r => exact (t_one (hS ▸ r) wf').le (by decide)
    | @halve _ g _ _ e1 e2 r =>
      by_cases c : p + w - g < s
      · exact (t_y1 (hS ▸ r.sym) wf' (by omega) (by omega) c (by omega)).le (by decide)
      · exact t_zm (hS ▸ r.sym) wf' (by omega) (by omega) (by omega) (by omega) (by omega) (by omega)
    | _ => omega
theorem t_z2 {s c o p w : Int} (h : Is2 X.S (0, s, c, 0) (o, p, w, 1)) (wf : WF X) (h1 : s + c = X.e) (h2 : p + w < X.e) (h3 : p < s) (h4 : 2 * w ≤ s) : Term 12 X := by
  by_cases hl : w ≤ p - o
  · exact (t_zl h wf h1 h2 h3 hl).le (by decide)
  have k := two_ok h wf
  refine two_go h wf (.inr rfl) (by omega) (fun {Y e' S'} hX hS wf' z => ?_) (fun {Y e' S'} hX hS wf' z => ?_)
  · cases z with
    | fold0 _ _ _ _ _ _ r => exact (t_one (hS ▸ r) wf').le (by decide)
    | @fold _ o' _ _ _ _ _ _ _ _ ho r =>
      obtain rfl : o' = 0 := ho rfl
      exact t_y0 (hS ▸ r) wf' (by omega) (by omega) h3 h4 hl
    | _ => omega
  · cases z with
    | halve0 _ _ _ r => exact (t_one (hS ▸ r) wf').le (by decide)
    | @halve _ g _ _ e1 e2 r =>
      by_cases c : p + w - g < s
      · exact (t_zl (hS ▸ r.sym) wf' (by omega) (by omega) c (by omega)).le (by decide)
      · exact (t_zm (hS ▸ r.sym) wf' (by omega) (by omega) (by omega) (by omega) (by omega) (by omega)).le (by decide)
    | _ => omega
theorem t_z1 {s c o p w : Int} (h : Is2 X.S (0, s, c, 0) (o, p, w, 1)) (wf : WF X) (h1 : s + c = X.e) (h2 : p + w < X.e) (h3 : o < s) (h4 : 2 * w ≤ s) : Term 14 X := by
  by_cases h5 : p < s
  · exact (t_z2 h wf h1 h2 h5 h4).le (by decide)
  have lead_ : ∀ {Z : FS} {p w : Int}, Is2 Z.S (0, s, c, 0) (o, p, w, 1) → WF Z → s + c = Z.e → p + w < Z.e → s ≤ p → 2 * w ≤ s → w ≤ p - o → Term 13 Z := fun {Z p w} h wf h1 h2 h5 h4 hl => by
    have k := two_ok h wf
    refine two_go h wf (.inr rfl) (by omega) (fun {Y e' S'} hX hS wf' z => ?_) (fun {Y e' S'} hX hS wf' z => ?_)
    · cases z with
      | @lead _ a b v g _ _ _ _ _ hv g0 g1 ab oab r =>
        obtain rfl : g = 1 := g1 (by omega)
        obtain ⟨_, _, _, _⟩ := hv rfl
        exact t_z2 (hS ▸ r) wf' (by omega) (by omega) (by omega) h4
      | _ => omega
    · cases z <;> omega
  by_cases hl : w ≤ p - o
  · exact (lead_ h wf h1 h2 (by omega) h4 hl).up
  have k := two_ok h wf
  refine two_go h wf (.inr rfl) (by omega) (fun {Y e' S'} hX hS wf' z => ?_) (fun {Y e' S'} hX hS wf' z => ?_)
  · cases z with
    | @lead _ a b v g _ _ _ _ _ hv g0 g1 ab oab r =>
      obtain rfl : g = 1 := g1 (by omega)
      obtain ⟨_, _, _, _⟩ := hv rfl
      exact (t_z2 (hS ▸ r) wf' (by omega) (by omega) (by omega) h4).up
    | _ => omega
  · cases z with
    | halve0 _ _ _ r => exact (t_one (hS ▸ r) wf').le (by decide)
    | @halve _ g _ _ e1 e2 r => exact lead_ (hS ▸ r.sym) wf' (by omega) (by omega) (by omega) (by omega) (by omega)
    | _ => omega
/-- both at the top, N lower -/
theorem t_w {s c o p w : Int} (h : Is2 X.S (0, s, c, 0) (o, p, w, 1)) (wf : WF X) (h1 : s + c = X.e) (h2 : p + w = X.e) (h3 : s < p) (h4 : 2 * w ≤ s) (hl : w ≤ p - o) : Term 15 X := by
  have k := two_ok h wf
  refine two_go h wf (.inr rfl) (by omega) (fun {Y e' S'} hX hS wf' z => ?_) (fun {Y e' S'} hX hS wf' z => ?_)
  · cases z with
    | @lead _ a b v g _ _ _ _ _ hv g0 g1 ab oab r =>
      obtain rfl : g = 1 := g1 (by omega)
      obtain ⟨_, _, _, _⟩ := hv rfl
      exact t_z1 (hS ▸ r) wf' (by omega) (by omega) (by omega) h4
    | _ => omega
  · cases z <;> omega
theorem t_v {s c p w : Int} (h : Is2 X.S (0, s, c, 0) (0, p, w, 1)) (wf : WF X) (h1 : s + c < X.e) (h2 : p + w = X.e) (h3 : w ≤ p) (h4 : 2 * (s + c - p) ≤ s) (h5 : 1 ≤ s) : Term 16 X := by
  have k := two_ok h wf
  refine two_go h wf (.inr rfl) (by omega) (fun {Y e' S'} hX hS wf' z => ?_) (fun {Y e' S'} hX hS wf' z => ?_)
  · cases z <;> omega
  · cases z with
    | fold0 _ _ _ _ _ _ r => exact (t_one (hS ▸ r) wf').le (by decide)
    | @fold _ o' _ _ _ _ _ _ _ ho _ r =>
      have ho := ho rfl
      exact t_w (hS ▸ r.sym) wf' (by omega) (by omega) (by omega) (by omega) (by omega)
    | @lead _ a b v g _ _ _ _ hv _ g0 g1 ab oab r =>
      obtain rfl : g = 1 := g1 (by omega)
      have hv := hv rfl
      exact (t_yb (hS ▸ r.sym) wf' (by omega) (by omega) (by omega)).le (by decide)
    | _ => omega
/-- a leading one at the top, a straight one below it -/
theorem t_a {a b c o p w : Int} (h : Is2 X.S (a, b, c, 0) (o, p, w, 1)) (wf : WF X) (h1 : b + c ≤ p) (h2 : p + w = X.e) (hl : w ≤ p - o) : Term 6 X := by
  have k := two_ok h wf
  refine two_go h wf (.inr rfl) (by omega) (fun {Y e' S'} hX hS wf' z => ?_) (fun {Y e' S'} hX hS wf' z => ?_)
  · cases z with
    | idle _ _ r => exact t_one (hS ▸ r) wf'
    | _ => omega
  · cases z with
    | fold0 _ _ _ _ _ _ r => exact t_one (hS ▸ r) wf'
    | _ => omega
/-- both mirrors, the greater one cut -/
theorem t_r {s n2 c b2 hb : Int} (h : Is2 X.S (s, n2, c, 1) (0, b2, hb, 1)) (wf : WF X) (h1 : n2 + c = X.e) (h2 : b2 + hb = X.e) (h3 : hb ≤ b2) (h4 : b2 ≤ hb + 1) (h5 : c ≤ n2 - s) (h6 : n2 - s ≤ c + 1) (h7 : 1 ≤ s) : Term 17 X := by
  have k := two_ok h wf
  refine two_go h wf (.inl rfl) (by omega) (fun {Y e' S'} hX hS wf' z => ?_) (fun {Y e' S'} hX hS wf' z => ?_)
  · cases z with
    | @lead _ a b v g _ _ _ _ hv _ g0 g1 ab oab r =>
      obtain rfl : g = 0 := g0 rfl
      have hv := hv rfl
      exact (t_a (hS ▸ r.sym) wf' (by omega) (by omega) (by omega)).le (by decide)
    | _ => omega
  · cases z with
    | @lead _ a b v g _ _ _ _ hv _ g0 g1 ab oab r =>
      obtain rfl : g = 0 := g0 rfl
      have hv := hv rfl
      obtain rfl : a = 0 := by omega
      exact t_v (hS ▸ r.sym) wf' (by omega) (by omega) (by omega) (by omega) (by omega)
    | _ => omega
theorem t_r1 {s n2 c b : Int} (h : Is2 X.S (s, n2, c, 1) (0, 0, b, 1)) (wf : WF X) (h1 : n2 + c = X.e) (h2 : b = X.e) (h5 : c ≤ n2 - s) (h6 : n2 - s ≤ c + 1) (h7 : 1 ≤ s) : Term 18 X := by
  have k := two_ok h wf
  refine two_go h wf (.inl rfl) (by omega) (fun {Y e' S'} hX hS wf' z => ?_) (fun {Y e' S'} hX hS wf' z => ?_)
  · cases z <;> omega
  · cases z with
    | halve0 _ _ _ r => exact (t_one (hS ▸ r) wf').le (by decide)
    | @halve _ g _ _ e1 e2 r => exact t_r (hS ▸ r.sym) wf' (by omega) (by omega) (by omega) (by omega) h5 h6 h7
    | _ => omega
theorem t_q {n2 m b2 hb : Int} (h : Is2 X.S (0, n2, m, 1) (0, b2, hb, 1)) (wf : WF X) (h1 : n2 + m = X.e) (h2 : b2 + hb < X.e) (h3 : hb ≤ b2) (h4 : b2 ≤ hb + 1) (h5 : m ≤ n2) (h6 : n2 ≤ m + 1) : Term 18 X := by
  have k := two_ok h wf
  refine two_go h wf (.inl rfl) (by omega) (fun {Y e' S'} hX hS wf' z => ?_) (fun {Y e' S'} hX hS wf' z => ?_)
  · cases z with
    | fold0 _ _ _ _ _ _ r => exact (t_one (hS ▸ r) wf').le (by decide)
    | @fold _ o' _ _ _ _ _ _ _ ho _ r =>
      have ho := ho rfl
      exact t_r (hS ▸ r) wf' (by omega) (by omega) h3 h4 (by omega) (by omega) (by omega)
    | @lead _ a b v g _ _ _ _ hv _ g0 g1 ab oab r =>
      obtain rfl : g = 0 := g0 rfl
      have hv := hv rfl
      exact (t_a (hS ▸ r.sym) wf' (by omega) (by omega) (by omega)).le (by decide)
    | _ => omega
  · cases z <;> omega
theorem t_p1 {n2 m b : Int} (h : Is2 X.S (0, n2, m, 1) (0, 0, b, 1)) (wf : WF X) (h1 : n2 + m = X.e) (h2 : b < X.e) (h5 : m ≤ n2) (h6 : n2 ≤ m + 1) : Term 19 X := by
  have k := two_ok h wf
  refine two_go h wf (.inl rfl) (by omega) (fun {Y e' S'} hX hS wf' z => ?_) (fun {Y e' S'} hX hS wf' z => ?_)
  · cases z with
    | fold0 _ _ _ _ _ _ r => exact (t_one (hS ▸ r) wf').le (by decide)
    | @fold _ o' _ _ _ _ _ _ _ ho _ r =>
      have ho := ho rfl
      exact t_r1 (hS ▸ r) wf' (by omega) (by omega) (by omega) (by omega) (by omega)
    | _ => omega
  · cases z with
    | halve0 _ _ _ r => exact (t_one (hS ▸ r) wf').le (by decide)
    | @halve _ g _ _ e1 e2 r => exact t_q (hS ▸ r.sym) wf' (by omega) (by omega) (by omega) (by omega) h5 h6
    | _ => omega
theorem t_p2 {n b2 hb : Int} (h : Is2 X.S (0, 0, n, 1) (0, b2, hb, 1)) (wf : WF X) (h1 : n = X.e) (h2 : b2 + hb < X.e) (h3 : hb ≤ b2) (h4 : b2 ≤ hb + 1) : Term 19 X := by
  have k := two_ok h wf
  refine two_go h wf (.inl rfl) (by omega) (fun {Y e' S'} hX hS wf' z => ?_) (fun {Y e' S'} hX hS wf' z => ?_)
  · cases z with
    | halve0 _ _ _ r => exact (t_one (hS ▸ r) wf').le (by decide)
    | @halve _ g _ _ e1 e2 r => exact t_q (hS ▸ r) wf' (by omega) (by omega) h3 h4 (by omega) (by omega)
    | _ => omega
  · cases z <;> omega
theorem t_u {n b : Int} (h : Is2 X.S (0, 0, n, 1) (0, 0, b, 1)) (wf : WF X) (h1 : n = X.e) (h2 : b < X.e) : Term 20 X := by
  have k := two_ok h wf
  refine two_go h wf (.inl rfl) (by omega) (fun {Y e' S'} hX hS wf' z => ?_) (fun {Y e' S'} hX hS wf' z => ?_)
  · cases z with
    | halve0 _ _ _ r => exact (t_one (hS ▸ r) wf').le (by decide)
    | @halve _ g _ _ e1 e2 r => exact t_p1 (hS ▸ r) wf' (by omega) (by omega) (by omega) (by omega)
    | _ => omega
  · cases z with
    | halve0 _ _ _ r => exact (t_one (hS ▸ r) wf').le (by decide)
    | @halve _ g _ _ e1 e2 r => exact t_p2 (hS ▸ r.sym) wf' (by omega) (by omega) (by omega) (by omega)
    | _ => omega
end
/-- the two mirrors told in one order or the other -/
theorem LimT.mirrors {n b : Int} {ms : List M4} (hm : ms = [(0, 0, n, 1), (0, 0, b, 1)] ∨ ms = [(0, 0, b, 1), (0, 0, n, 1)]) (hb : 1 ≤ b) (hn : b < n) (n1 : n ≤ 1000000000000000000) (wf : WF ⟨n, en 0 ms, []⟩) : LimT ⟨n, en 0 ms, []⟩ 0 := by
  refine ⟨Nat.zero_le _, 20, by decide, ?_⟩
  have nm : ∀ m : Int, nrm (0, 0, m, 1) = (0, 0, m, 1) := fun m => nrm_id (x := (0, 0, m, 1)) (Int.le_refl _)
  refine t_u (n := n) (b := b) ?_ wf rfl hn
  rcases hm with rfl | rfl
  · refine ⟨0, 1, by decide, .inl ?_⟩
    show [(((0 : Nat) : Int), nrm (0, 0, n, 1)), (((1 : Nat) : Int), nrm (0, 0, b, 1))] = _
    rw [nm, nm]
    rfl
  · refine ⟨1, 0, by decide, .inr ?_⟩
    show [(((0 : Nat) : Int), nrm (0, 0, b, 1)), (((1 : Nat) : Int), nrm (0, 0, n, 1))] = _
    rw [nm, nm]
    rfl

/-! ### Folding.least -/
abbrev N_Fg_least : List Str := ["self", "place", "trail"]
abbrev P_Fg_least : List Str := ["self", "place"]
theorem sc_Fg_least : FnScope N_Fg_least P_Fg_least (defScope s_Fg_least) := ⟨rfl, rfl, rfl, by decide +kernel, rfl, by decide +kernel, by decide +kernel⟩
def spLeast (C4 : Addr) : Sp := fun vs H Q _ => ∃ (g : Addr) (R : Int → Int → Prop) (n x : Int) (evs : List Ev) (mos : List Mo) (pcs : List Pc) (z : FgA), vs = [.ref g, .int x] ∧ FgAt C4 H g n evs mos pcs z ∧ FgM R n evs mos pcs ∧ 0 ≤ x ∧ x < n ∧
  ∀ H', Same H H' → Q (.int (dnL evs.reverse x)) H'
section
variable {P : Program} {w : World} {K : PySem.W.Frag} {mg : Str → Option Value} {base : Heap} {C4 : Addr}
theorem ok_least {f fT : Addr} {fd fdT : FuncData} (F : Fun K "least" "Folding.least" s_Fg_least f fd) (TFg_ : FgT K mg C4) (M_Fg_trail : Meth K C4 "trail" fT) (G_Fg_trail : FnOk P w K mg base CX0 2 fT fdT P_Fg_trail (spTrail C4)) (b_Fg_trail : Binds K fdT P_Fg_trail []) : FnOk P w K mg base CX0 3 f fd P_Fg_least (spLeast C4) := by
  refine F.ok sc_Fg_least (fun vs H Q E h => ?_) (fun cdv A outer s H vs Q E hr h => ?_)
  · obtain ⟨g, R, n, x, evs, mos, pcs, z, rfl, _⟩ := h
    rfl
  · obtain ⟨g, R, n, x, evs, mos, pcs, z, rfl, fa, fm, x0, x1, q⟩ := h
    refine ⟨_, (pss_cons (ps_set (i := 2) sc_Fg_least.nd rfl (.inl rfl) (pe_meth (pv 0) TFg_.cl M_Fg_trail G_Fg_trail (hr.mono (by omega)) b_Fg_trail .nil pass0 (pa_cons (pv 1) pa_nil)))
      (pss_one (ps_ret (pe_ifExp (pt_truth (pv 2) (fun _ => rfl)) (pe_ix ix_tup (pe_ix ix_list (pv 2) (pe_un un_neg pe_int) (fun _ _ => rfl)) pe_int (fun _ _ => rfl)) (pv 1))))), ?_⟩
    refine ⟨.ref g, rfl, g, z.dx, _, rfl, fa.at_g, rfl, .int x, rfl, g, R, n, x, evs, mos, pcs, z, rfl, fa, fm, x0, x1, fun H1 L ts l tr eL pr s1 nL => ?_⟩
    have dn := tr.down fm.ev.ch x0 x1
    refine ⟨.ref L, rfl, _, .inl ⟨_, SqL.of eL, rfl⟩, ?_⟩
    rcases List.eq_nil_or_concat l with rfl | ⟨l0, d, hc⟩
    · cases pr
      refine iteF ?_
      have dn : dnL evs.reverse x = x := dn
      rw [dn] at q
      exact ⟨.int x, rfl, q H1 s1⟩
    · rw [List.concat_eq_append] at hc
      subst hc
      obtain ⟨us, t, rfl, et⟩ := pr.split
      rw [show (!((us ++ [t]).map V.ref).isEmpty) = true by simp]
      refine iteT ?_
      have dn : dnL evs.reverse x = d.2 := by rw [dn]; simp
      rw [dn] at q
      have eL' : H1 L = some (.lst (us.map V.ref ++ [.ref t])) := by rw [eL, List.map_append]; rfl
      exact ⟨.ref L, rfl, 1, rfl, L, _, -1, .ref t, rfl, rfl, SqL.of eL', atI_last _ _, t, _, 1, .int d.2, rfl, rfl, SqT.of et, atI_nat (j := 1) rfl, q H1 s1⟩
end

/-! ### Folding.count -/
abbrev N_Fg_count : List Str := ["self", "begin", "end", "size"]
abbrev P_Fg_count : List Str := ["self"]
theorem sc_Fg_count : FnScope N_Fg_count P_Fg_count (defScope s_Fg_count) := ⟨rfl, rfl, rfl, by decide +kernel, rfl, by decide +kernel, by decide +kernel⟩
def spCount (C4 : Addr) : Sp := fun vs H Q _ => ∃ (g : Addr) (n : Int) (evs : List Ev) (mos : List Mo) (pcs : List Pc) (z : FgA), vs = [.ref g] ∧ FgAt C4 H g n evs mos pcs z ∧ pcs.length ≤ 90000 ∧ ∀ H', Same H H' → Q (.int ((pcs.map fun c => c.2.1 - c.1).sum)) H'
section
variable {P : Program} {w : World} {K : PySem.W.Frag} {mg : Str → Option Value} {base : Heap} {C4 : Addr}
theorem ok_count {f : Addr} {fd : FuncData} (F : Fun K "count" "Folding.count" s_Fg_count f fd) (TFg_ : FgT K mg C4) (zSum : mg "sum" = none) : FnOk P w K mg base CX0 1 f fd P_Fg_count (spCount C4) := by
  refine F.ok sc_Fg_count (fun vs H Q E h => ?_) (fun cdv A outer s H vs Q E hr h => ?_)
  · obtain ⟨g, n, evs, mos, pcs, z, rfl, _⟩ := h
    rfl
  · obtain ⟨g, n, evs, mos, pcs, z, rfl, fa, ln, q⟩ := h
    refine ⟨_, (pss_one (ps_ret (pe_callB (cr_sum rfl) (by rfl) zSum (by decide +kernel) (pa_cons (pe_lc (own := [("begin", 1), ("end", 2), ("size", 3)]) (g := gTup K 3 (gCons (gName 1) (gCons (gName 2) (gCons (gName 3) gNil)))) (by rfl) sc_Fg_count.nd (pi_list (pe_fld (pv 0) rfl)) (blkOk_by (own := [("begin", 1), ("end", 2), ("size", 3)]) (N := N_Fg_count) (sc := defScope s_Fg_count) (by decide +kernel)) (fun _ _ _ _ _ => (pg_tup (by rfl) (pgs_cons (pg_name (i := 1) sc_Fg_count.nd rfl (.inl rfl)) (pgs_cons (pg_name (i := 2) sc_Fg_count.nd rfl (.inl rfl)) (pgs_cons (pg_name (i := 3) sc_Fg_count.nd rfl (.inl rfl)) pgs_nil))))) (fun _ _ _ _ _ => pts_nil) (fun _ _ _ _ _ => (pe_op op_sub (pv 2) (pv 1)))) pa_nil)))), ?_⟩
    have lts := fa.ph.length
    refine ⟨.ref g, rfl, g, C4, z.dx, _, .ref z.pc, rfl, fa.at_g, TFg_.cl, TFg_.nPc, rfl, z.pc, rfl, ⟨_, SqL.of fa.at_pc⟩, fun D2 nD => lc_list (K := K) (a := z.pc) (xs := z.ts.map V.ref) (fun i G => Same H G ∧ G D2 = some (.lst (((pcs.take i).map fun c => c.2.1 - c.1).map V.int)))
      ⟨same_upd nD, upd_same⟩ (fun i G _ ⟨sm, _⟩ => SqL.of (sm _ _ fa.at_pc)) ?_ ?_⟩
    · rintro i v G hv ⟨sm, eD⟩
      rw [List.getElem?_map] at hv
      obtain ⟨t, ht, rfl⟩ := Option.map_eq_some_iff.mp hv
      obtain ⟨c, hc, et⟩ := fa.ph.at ht
      have hlt := (List.getElem?_eq_some_iff.mp hc).1
      refine ⟨t, _, rfl, SqT.of (sm _ _ et), rfl, .int c.1, _, rfl, .int c.2.1, _, rfl, .int c.2.2, _, rfl, rfl, ?_⟩
      refine ⟨rfl, ?_⟩
      refine ⟨.int c.2.1, rfl, .int c.1, rfl, _, _, rfl, rfl, _, eD, sz_lt (by rw [List.length_map, List.length_map, List.length_take]; omega), fun b o hb => ?_, ?_⟩
      · rw [upd_ne (ne_of_none hb nD)]
        exact sm _ _ hb
      · rw [upd_same, List.take_add_one, hc, List.map_append, List.map_append]
        rfl
    · rintro G ⟨sm, eD⟩
      rw [List.length_map, lts, List.take_length] at eD
      exact ⟨D2, _, rfl, SqL.of eD, q G sm⟩
end

/-! ### the bare places of a road whose matings make no ring -/
def bareL : List Ev → Int
  | [] => 0
  | .bare m e :: r => (e - m) + bareL r
  | .fold _ _ _ _ _ :: r => bareL r
theorem bare_count {R : Int → Int → Prop} : ∀ {l : List Ev} {n : Int}, ChF R n l 0 → sumI (fun p => if dnL l p = p then 1 else 0) 0 n.toNat = bareL l
  | [], n, h => by
    have h : n = 0 := h
    subst h
    rfl
  | v :: r, n, ⟨h1, h2, h3, h4⟩ => by
    have m0 := h3.m0
    have ih := bare_count h4
    have en : n.toNat = (evM v).toNat + (n - evM v).toNat := by omega
    rw [en, sumI_split]
    have low : sumI (fun p => if dnL (v :: r) p = p then 1 else 0) 0 (evM v).toNat = bareL r := by
      rw [← ih]
      refine sumI_congr fun p p0 p1 => ?_
      have : evStep v p = p := by
        cases v with
        | bare m e => rfl
        | fold m e lo st f =>
          have p1 : p < 0 + ((m.toNat : Nat) : Int) := p1
          have m0 : 0 ≤ m := m0
          exact if_neg (by omega)
      show (if dnL r (evStep v p) = p then 1 else 0) = _
      rw [this]
    rw [low]
    cases v with
    | bare m e =>
      have h1 : e = n := h1
      have h2 : m ≤ n := h2
      have m0 : 0 ≤ m := m0
      have h4 : ChF R m r 0 := h4
      have hi : sumI (fun p => if dnL (Ev.bare m e :: r) p = p then 1 else 0) (0 + ((m.toNat : Nat) : Int)) (n - m).toNat = sumI (fun _ => 1) (0 + ((m.toNat : Nat) : Int)) (n - m).toNat := sumI_congr fun p p0 p1 => by
        have : dnL r p = p := h4.above (x := p) (by omega)
        exact if_pos this
      show bareL r + sumI _ (0 + ((m.toNat : Nat) : Int)) (n - m).toNat = (e - m) + bareL r
      rw [hi, sumI_ones]
      omega
    | fold m e lo st f =>
      have h1 : e = n := h1
      have h2 : m ≤ n := h2
      have m0 : 0 ≤ m := m0
      have h4 : ChF R m r 0 := h4
      have h3 := h3.2.2
      show bareL r + sumI _ (0 + ((m.toNat : Nat) : Int)) (n - m).toNat = bareL r
      rw [sumI_zero _ _ fun p p0 p1 => if_neg fun z => ?_]
      · omega
      · have a := h3 p (by omega) (by omega)
        have z : dnL r (evStep (.fold m e lo st f) p) = p := z
        rw [show evStep (.fold m e lo st f) p = evTo e lo st f p from if_pos ⟨by omega, by omega⟩] at z
        have := (h4.least _ a.1 a.2.1).2.1
        omega
theorem lenS_bare {R : Int → Int → Prop} {n : Int} {evs : List Ev} {mos : List Mo} {pcs : List Pc} (fm : FgM R n evs mos pcs) : (pcs.map fun c => c.2.1 - c.1).sum = bareL evs.reverse := by
  rw [← cnt_pcs fm.pc, ← bare_count fm.ev.ch]
  refine sumI_congr fun p p0 p1 => ?_
  rw [fm.wt p p0]
  by_cases h : dnL evs.reverse p = p
  · rw [if_pos h, if_neg ((wtL_least fm.ev.ch p0 (by omega)).mpr h)]
  · rw [if_neg h, if_pos (Classical.byContradiction fun z => h ((wtL_least fm.ev.ch p0 (by omega)).mp z))]

/-! ### pieces and their places -/
/-! ### the law's table of code objects -/
theorem tabs_keep {T : List (Addr × Str)} {H H' : Hp} {d l : Addr} (t : LamX.Tabs T H) (D : Draw H d l) (k : Keep d H H') : LamX.Tabs T H' := fun p hp => by
  obtain ⟨ps, h1, h2, h3⟩ := t p hp
  obtain ⟨ns, i, z, s, W⟩ := D
  refine ⟨ps, k.of h1 (ne_of h1 W.at_d (fun e => by cases e)), h2, fun pos cv hc => ?_⟩
  obtain ⟨c, e1, e2⟩ := h3 pos cv hc
  exact ⟨c, e1, k.of e2 (ne_of e2 W.at_d (fun e => by unfold LamX.CodeO at e; cases e))⟩
theorem draw_extN {H H' : Hp} {d l : Addr} (D : Draw H d l) (e : LamX.ExtN H H') : Draw H' d l := by
  obtain ⟨ns, i, z, s, W⟩ := D
  exact ⟨ns, i, z, s, { W with at_d := e _ _ W.at_d (fun _ q => by cases q), at_l := e _ _ W.at_l (fun _ q => by cases q) }⟩
def spLawT (K : PySem.W.Frag) (Pt : Addr) : Sp := fun vs H Q _ => ∃ (a : Addr) (ns : List Int), vs = [.ref a] ∧ SqL K H a (ns.map V.int) ∧ ns.length ≤ 63 ∧ H Pt = some (.tbl #[]) ∧ ∀ H', Q (.bl true) H'
/-! ### least places by the list of roots; a road in memory -/
/-- a road in memory -/
structure RdAt (H : Hp) (n : Int) (L : Addr) (ts : List Addr) (ms : List M4) : Prop where
  at_L : H L = some (.lst (ts.map V.ref))
  mts : Mts H ts ms
  mrd : ∀ x ∈ ms, Mrd n x
  len : ms.length ≤ 24
  n0 : 0 ≤ n
  n1 : n ≤ 40
theorem RdAt.ext {H H' : Hp} {n : Int} {L : Addr} {ts : List Addr} {ms : List M4} (h : RdAt H n L ts ms) (e : LamX.ExtN H H') : RdAt H' n L ts ms := ⟨e _ _ h.at_L (fun ps z => by cases z), h.mts.keep fun b xs hb => e _ _ hb (fun ps z => by cases z), h.mrd, h.len, h.n0, h.n1⟩
theorem Mrd.ok {n : Int} {x : M4} (h : Mrd n x) : Mok n x := ⟨h.f01, h.m1, h.o0, h.p0, h.o1, h.p1⟩
theorem KeepN.ext {g : Addr} {H H1 H2 : Hp} (s : Same H H1) (n : H g = none) (k : KeepN g H1 H2) : LamX.ExtN H H2 := fun b o hb t => k b o (ne_of_none hb n) (s _ _ hb) t

/-! ### a list stored anew, beside the table and the drawing -/
/-! ### a folding stands while the drawing goes on -/
/-- all but tables and the drawing list stands -/
def KeepD (H H' : Hp) : Prop := ∀ b o, H b = some o → (∀ ps, o ≠ .tbl ps) → (∀ (l : Addr) (i z s : Int), o ≠ .lst [.ref l, .int i, .int z, .int s]) → H' b = some o
theorem KeepD.trans {H H1 H2 : Hp} (a : KeepD H H1) (b : KeepD H1 H2) : KeepD H H2 := fun c o h t n => b c o (a c o h t n) t n
theorem KeepD.ext {H H' : Hp} (e : LamX.ExtN H H') : KeepD H H' := fun b o h t _ => e b o h t
theorem KeepD.same {H H' : Hp} (s : Same H H') : KeepD H H' := fun b o h _ _ => s b o h
theorem KeepD.draw {H H' : Hp} {d l : Addr} (D : Draw H d l) (k : Keep d H H') : KeepD H H' := fun b o h _ n => k.of h fun z => by
  obtain ⟨_, i, zz, s, W⟩ := D
  rw [z, W.at_d] at h
  exact n _ _ _ _ (Option.some.inj h).symm
theorem KeepD.ints {H H' : Hp} (k : KeepD H H') {b : Addr} {xs : List Int} (h : H b = some (.lst (xs.map V.int))) : H' b = some (.lst (xs.map V.int)) :=
  k _ _ h (fun _ z => by cases z) fun l i z s e => by
    cases xs with
    | nil => cases e
    | cons x r => cases e
theorem KeepD.refs {H H' : Hp} (k : KeepD H H') {b : Addr} {xs : List Addr} (h : H b = some (.lst (xs.map V.ref))) : H' b = some (.lst (xs.map V.ref)) :=
  k _ _ h (fun _ z => by cases z) fun l i z s e => by
    cases xs with
    | nil => cases e
    | cons x r =>
      cases r with
      | nil => cases e
      | cons y r => cases e
theorem KeepD.tup {H H' : Hp} (k : KeepD H H') : KeepT H H' := fun b xs h => k _ _ h (fun _ z => by cases z) (fun _ _ _ _ z => by cases z)
theorem FgAt.kd {C4 : Addr} {H H' : Hp} {g : Addr} {n : Int} {evs : List Ev} {mos : List Mo} {pcs : List Pc} {z : FgA} (h : FgAt C4 H g n evs mos pcs z) (k : KeepD H H') : FgAt C4 H' g n evs mos pcs z := by
  refine ⟨k _ _ h.at_g (fun _ z => by cases z) (fun _ _ _ _ z => by cases z), k.refs h.at_rw, h.mv.keep fun b xs hb => k.tup _ _ hb, k _ _ h.at_ev (fun _ z => by cases z) fun l i u s e => ?_, h.pa.keep fun b xs hb => k.tup _ _ hb, k.ints h.at_mk, k.ints h.at_bg, k.refs h.at_pc, h.ph.keep fun b xs hb => k.tup _ _ hb, k.ints h.at_ft, k.ints h.at_rk⟩
  have e' : z.ps = [.ref l, .int i, .int u, .int s] := HO.lst.inj e
  obtain ⟨_, t, _, q, _⟩ := h.pa.at (i := 1) (v := .int i) (by rw [e']; rfl)
  cases q
theorem FV.ty {K : PySem.W.Frag} {H : Hp} {x : V} (h : FV x) : ∃ t, TyX K H x t ∧ PySem.W.kitOne K t (.type "bool") = some (isB x) := by
  rcases h with ⟨i, rfl, hi⟩ | ⟨b, rfl⟩
  · exact ⟨_, TyX.base (TyOf.int _), kit_ty (r := false) (by decide +kernel)⟩
  · exact ⟨_, TyX.base (TyOf.bl _), kit_ty (r := true) (by decide +kernel)⟩
mutual
theorem Rp.extN {H H' : Hp} (e : LamX.ExtN H H') : ∀ {n : Nat} {v : V} {d : PyData}, Rp H n v d → Rp H' n v d
  | _, _, _, .non n => .non n
  | _, _, _, .bl n b => .bl n b
  | _, _, _, .int n i => .int n i
  | _, _, _, .str n x => .str n x
  | _, _, _, .lst h l r => .lst (e _ _ h (fun _ z => by cases z)) l (RpAll.extN e r)
  | _, _, _, .tup h l r => .tup (e _ _ h (fun _ z => by cases z)) l (RpAll.extN e r)
theorem RpAll.extN {H H' : Hp} (e : LamX.ExtN H H') : ∀ {n : Nat} {vs : List V} {ds : List PyData}, RpAll H n vs ds → RpAll H' n vs ds
  | _, _, _, .nil n => .nil n
  | _, _, _, .cons h r => .cons (Rp.extN e h) (RpAll.extN e r)
end

/-! ### matings as data -/
/-! ### matings that lead kin to kin -/
/-- the pairs of a row of matings -/
def Gm (ms : List M4) (p q : Int) : Prop := ∃ x ∈ ms, Pr x p q
theorem en_memG : ∀ (k : Nat) (ms : List M4) (s : Int × M4), s ∈ en k ms → ∃ x ∈ ms, s.2 = nrm x
  | k, y :: r, s, h => by
    rcases List.mem_cons.mp h with rfl | h
    · exact ⟨y, List.mem_cons_self, rfl⟩
    · obtain ⟨x, hx, e⟩ := en_memG (k + 1) r s h
      exact ⟨x, List.mem_cons_of_mem _ hx, e⟩
theorem en_has : ∀ (k : Nat) (ms : List M4) (x : M4), x ∈ ms → ∃ s ∈ en k ms, s.2 = nrm x
  | k, y :: r, x, h => by
    rcases List.mem_cons.mp h with rfl | h
    · exact ⟨_, List.mem_cons_self, rfl⟩
    · obtain ⟨s, hs, e⟩ := en_has (k + 1) r x h
      exact ⟨s, List.mem_cons_of_mem _ hs, e⟩
theorem fam_gm {ms : List M4} {p q : Int} : Fam (Gn (en 0 ms)) p q ↔ Fam (Gm ms) p q := by
  constructor
  · refine Fam.mono fun p q ⟨s, hs, k⟩ => ?_
    obtain ⟨x, hx, e⟩ := en_memG 0 ms s hs
    rw [e] at k
    rcases Pr.back k with k | k
    · exact .rel ⟨x, hx, k⟩
    · exact Fam.symm (.rel ⟨x, hx, k⟩)
  · refine Fam.mono fun p q ⟨x, hx, k⟩ => ?_
    obtain ⟨s, hs, e⟩ := en_has 0 ms x hx
    rcases Pr.there k with k | k
    · exact .rel ⟨s, hs, by rw [e]; exact k⟩
    · exact Fam.symm (.rel ⟨s, hs, by rw [e]; exact k⟩)

/-! ### _law_any, _law_odd -/
abbrev N_any : List Str := ["_law_draw", "_law_some"]
abbrev P_any : List Str := ["_law_draw", "_law_some"]
theorem sc_any : FnScope N_any P_any (defScope s_any) := ⟨rfl, rfl, rfl, by decide +kernel, rfl, by decide +kernel, by decide +kernel⟩
def spAny : Sp := fun vs H Q _ => ∃ (d l L : Addr) (xs : List V), vs = [.ref d, .ref L] ∧ Draw H d l ∧ H L = some (.lst xs) ∧ L ≠ d ∧ 1 ≤ xs.length ∧ xs.length ≤ 1000 ∧ ∀ (x : V) (H' : Hp), x ∈ xs → Draw H' d l → Keep d H H' → Q x H'
section
variable {P : Program} {w : World} {K : PySem.W.Frag} {mg : Str → Option Value} {base : Heap}
theorem ok_any {f fP : Addr} {fd fdP : FuncData} (D : DefAt K mg "_law_any" s_any P_any f fd) (D_pull : DefAt K mg "_law_pull" s_pull P_pull fP fdP) (B : Bn mg) : FnOk P w K mg base CX0 2 f fd P_any spAny := by
  have G_pull : FnOk P w K mg base CX0 1 fP fdP P_pull spPull := ok_pull D_pull B
  refine D.F.ok sc_any (fun vs H Q E h => ?_) (fun cdv A outer s H vs Q E hr h => ?_)
  · obtain ⟨d, l, L, xs, rfl, _⟩ := h
    rfl
  · obtain ⟨d, l, L, xs, rfl, hD, hL, nL, l1, l2, q⟩ := h
    refine ⟨_, (pss_one (ps_ret (pe_ix ix_list (pv 1) (pe_call G_pull (hr.mono (by omega)) (by rfl) D_pull.g D_pull.F.kp D_pull.b .nil pass0 (pa_cons (pv 0) (pa_cons (pe_callB call_len_seq (by rfl) B.len (by decide +kernel) (pa_cons (pv 1) pa_nil)) pa_nil))) (fun _ _ => rfl)))), ?_⟩
    refine ⟨.ref L, rfl, .ref d, rfl, .ref L, rfl, L, xs, rfl, .inl (SqL.of hL), d, l, _, rfl, hD, by omega, by omega, fun v H1 v0 v1 D1 k1 => ?_⟩
    obtain ⟨j, rfl⟩ : ∃ j : Nat, v = (j : Int) := ⟨v.toNat, by omega⟩
    have hj : j < xs.length := by omega
    exact ⟨L, xs, (j : Int), xs[j], rfl, rfl, SqL.of (k1.of hL nL), atI_nat (List.getElem?_eq_getElem hj), q _ _ (List.getElem_mem hj) D1 k1⟩
end

/-! ### the families of two mirrors -/
def mirs (n b : Int) : List M4 := [(0, 0, n, 1), (0, 0, b, 1)]
/-- the least place of x's family: s = n - b -/
def mirD (n b x : Int) : Int := if (b - 1 - x % (n - b)) % (n - b) < x % (n - b) then (b - 1 - x % (n - b)) % (n - b) else x % (n - b)
theorem mod_subM (k st : Int) : (k - st) % st = k % st := by simp
theorem sub_modM (c x s : Int) : (c - x % s) % s = (c - x) % s := by
  rw [Int.sub_emod, Int.emod_emod_of_dvd x (Int.dvd_refl s), ← Int.sub_emod]
theorem mirD_le (n b : Int) (bn : b < n) {p : Int} (p0 : 0 ≤ p) : 0 ≤ mirD n b p ∧ mirD n b p ≤ p := by
  have r0 := Int.emod_nonneg p (show n - b ≠ 0 by omega)
  have r1 := Int.emod_nonneg (b - 1 - p % (n - b)) (show n - b ≠ 0 by omega)
  have dv := Int.emod_add_mul_ediv p (n - b)
  have q0 : 0 ≤ p / (n - b) := Int.ediv_nonneg p0 (by omega)
  have t0 : 0 ≤ (n - b) * (p / (n - b)) := Int.mul_nonneg (by omega) q0
  unfold mirD
  split <;> omega
section
variable {n b : Int} {ms : List M4} (hm : ms = mirs n b ∨ ms = (mirs n b).reverse)
include hm
theorem mir_pr {p q : Int} : Gm ms p q ↔ (0 ≤ p ∧ p < n ∧ q = n - 1 - p) ∨ (0 ≤ p ∧ p < b ∧ q = b - 1 - p) := by
  have mem : ∀ x : M4, x ∈ ms ↔ x = (0, 0, n, 1) ∨ x = (0, 0, b, 1) := fun x => by
    rcases hm with rfl | rfl
    · simp [mirs]
    · simp [mirs, or_comm]
  constructor
  · rintro ⟨x, hx, k, k0, k1, e1, e2⟩
    rcases (mem x).mp hx with rfl | rfl
    · have k1 : k < n := k1
      have e1 : p = 0 + k := e1
      have e2 : q = 0 + n - 1 - k := e2
      exact .inl ⟨by omega, by omega, by omega⟩
    · have k1 : k < b := k1
      have e1 : p = 0 + k := e1
      have e2 : q = 0 + b - 1 - k := e2
      exact .inr ⟨by omega, by omega, by omega⟩
  · rintro (⟨p0, p1, e⟩ | ⟨p0, p1, e⟩)
    · exact ⟨_, (mem _).mpr (.inl rfl), p, p0, p1, (by show p = 0 + p; omega), (by show q = 0 + n - 1 - p; omega)⟩
    · exact ⟨_, (mem _).mpr (.inr rfl), p, p0, p1, (by show p = 0 + p; omega), (by show q = 0 + b - 1 - p; omega)⟩
variable (b1 : 1 ≤ b) (bn : b < n)
include b1 bn
theorem mir_down : ∀ (j : Nat) {p : Int}, p = p % (n - b) + (n - b) * j → 0 ≤ p → p < n → Fam (Gm ms) p (p % (n - b))
  | 0, p, e, p0, p1 => .of_eq (by rw [e]; simp)
  | j + 1, p, e, p0, p1 => by
    have e' : p = p % (n - b) + (n - b) * (j : Int) + (n - b) := by
      rw [show ((j + 1 : Nat) : Int) = (j : Int) + 1 by omega, Int.mul_add, Int.mul_one] at e
      omega
    have r0 := Int.emod_nonneg p (show n - b ≠ 0 by omega)
    have t0 : 0 ≤ (n - b) * (j : Int) := Int.mul_nonneg (by omega) (by omega)
    have er : (p - (n - b)) % (n - b) = p % (n - b) := mod_subM p (n - b)
    have s1 : Fam (Gm ms) p (n - 1 - p) := .rel ((mir_pr hm).mpr (.inl ⟨p0, p1, rfl⟩))
    have s2 : Fam (Gm ms) (n - 1 - p) (p - (n - b)) := .rel ((mir_pr hm).mpr (.inr ⟨by omega, by omega, by omega⟩))
    have := mir_down j (p := p - (n - b)) (by rw [er]; omega) (by omega) (by omega)
    rw [er] at this
    exact (s1.trans s2).trans this
theorem mir_red {p : Int} (p0 : 0 ≤ p) (p1 : p < n) : Fam (Gm ms) p (p % (n - b)) := by
  have dv := Int.emod_add_mul_ediv p (n - b)
  have q0 : 0 ≤ p / (n - b) := Int.ediv_nonneg p0 (by omega)
  exact mir_down hm b1 bn (p / (n - b)).toNat (p := p) (by rw [Int.toNat_of_nonneg q0]; omega) p0 p1
theorem mir_fam {p : Int} (p0 : 0 ≤ p) (p1 : p < n) : Fam (Gm ms) p (mirD n b p) := by
  unfold mirD
  split
  · have s1 : Fam (Gm ms) p (n - 1 - p) := .rel ((mir_pr hm).mpr (.inl ⟨p0, p1, rfl⟩))
    have s2 := mir_red hm b1 bn (p := n - 1 - p) (by omega) (by omega)
    have e : (n - 1 - p) % (n - b) = (b - 1 - p % (n - b)) % (n - b) := by
      rw [sub_modM, ← mod_subM (n - 1 - p) (n - b), show n - 1 - p - (n - b) = b - 1 - p by omega]
    rw [e] at s2
    exact s1.trans s2
  · exact mir_red hm b1 bn p0 p1
omit b1 bn in
theorem mirD_pair {p q : Int} (h : Gm ms p q) : mirD n b p = mirD n b q := by
  have key : ∀ u v u' v' : Int, u' = v → v' = u → (if v < u then v else u) = (if v' < u' then v' else u') := fun u v u' v' h1 h2 => by
    subst h1 h2
    split <;> split <;> omega
  unfold mirD
  rw [sub_modM, sub_modM]
  rcases (mir_pr hm).mp h with ⟨_, _, rfl⟩ | ⟨_, _, rfl⟩
  · refine key _ _ _ _ ?_ ?_
    · rw [← mod_subM (n - 1 - p) (n - b), show n - 1 - p - (n - b) = b - 1 - p by omega]
    · rw [show b - 1 - (n - 1 - p) = p - (n - b) by omega, mod_subM]
  · refine key _ _ _ _ rfl ?_
    rw [show b - 1 - (b - 1 - p) = p by omega]
theorem mir_dn {evs : List Ev} {mos : List Mo} {pcs : List Pc} (fm : FgM (Gn (en 0 ms)) n evs mos pcs) {p : Int} (p0 : 0 ≤ p) (p1 : p < n) : dnL evs.reverse p = mirD n b p := by
  obtain ⟨a1, a2, c, d⟩ := fm.ev.ch.least p p0 p1
  have l1 := mirD_le n b bn p0
  have le := d _ l1.1 (fam_gm.mpr (mir_fam hm b1 bn p0 p1))
  have cc := fam_gm.mp c
  have con : mirD n b (dnL evs.reverse p) = mirD n b p := by
    have := (Fam.inside (P := fun x => mirD n b x = mirD n b p) (fun u v r => by rw [mirD_pair hm r]) cc).mpr rfl
    exact this
  have l2 := mirD_le n b bn a1
  omega
end
theorem sumI_inM {a b : Int} (a0 : 0 ≤ a) (ab : a ≤ b) {r : Int} (br : b ≤ r) : sumI (fun p => if a ≤ p ∧ p < b then 1 else 0) 0 r.toNat = b - a := by
  rw [sumI_part (c := a) (m := (b - a).toNat) (by omega) (by omega) (fun p p0 p1 h => if_neg (by omega)), sumI_congr (g := fun _ => 1) (fun p p0 p1 => if_pos (by omega)), sumI_ones]
  omega
/-- how many places are fixed by the mirror of a ring of s -/
def mirLone (n b : Int) : Int := if (n - b) % 2 = 1 then 1 else if (b - 1) % 2 = 0 then 2 else 0
theorem mir_count {n b : Int} {ms : List M4} (hm : ms = mirs n b ∨ ms = (mirs n b).reverse) (b1 : 1 ≤ b) (bn : b < n) {evs : List Ev} {mos : List Mo} {pcs : List Pc} (fm : FgM (Gn (en 0 ms)) n evs mos pcs) : (pcs.map fun c => c.2.1 - c.1).sum = (n - b + mirLone n b) / 2 := by
  rw [lenS_bare fm, ← bare_count fm.ev.ch]
  have c0 := Int.emod_nonneg (b - 1) (show n - b ≠ 0 by omega)
  have c1 := Int.emod_lt_of_pos (b - 1) (show 0 < n - b by omega)
  have par : (n - b) % 2 = 0 → (b - 1) % (n - b) % 2 = (b - 1) % 2 := fun h => Int.emod_emod_of_dvd _ (Int.dvd_of_emod_eq_zero h)
  have red : ∀ p, 0 ≤ p → p < n - b → (b - 1 - p) % (n - b) = if p ≤ (b - 1) % (n - b) then (b - 1) % (n - b) - p else (b - 1) % (n - b) - p + (n - b) := fun p p0 p1 => by
    have e : (b - 1 - p) % (n - b) = ((b - 1) % (n - b) - p) % (n - b) := by
      rw [Int.sub_emod, Int.sub_emod ((b - 1) % (n - b)) p, Int.emod_emod_of_dvd _ (Int.dvd_refl _)]
    rw [e]
    split
    · exact Int.emod_eq_of_lt (by omega) (by omega)
    · have e2 := mod_subM ((b - 1) % (n - b) - p + (n - b)) (n - b)
      rw [Int.add_sub_cancel] at e2
      rw [e2]
      exact Int.emod_eq_of_lt (by omega) (by omega)
  generalize (b - 1) % (n - b) = c at c0 c1 par red
  have ind : ∀ p, 0 ≤ p → p < 0 + ((n.toNat : Nat) : Int) → (if dnL evs.reverse p = p then (1 : Int) else 0) = (if 0 ≤ p ∧ p < c / 2 + 1 then 1 else 0) + (if c + 1 ≤ p ∧ p < (c + (n - b)) / 2 + 1 then 1 else 0) := fun p p0 p1 => by
    rw [mir_dn hm b1 bn fm p0 (by omega)]
    unfold mirD
    have r0 := Int.emod_nonneg p (show n - b ≠ 0 by omega)
    have r1 := Int.emod_lt_of_pos p (show 0 < n - b by omega)
    by_cases hp : p < n - b
    · rw [Int.emod_eq_of_lt p0 hp, red p p0 hp]
      by_cases hc : p ≤ c
      · rw [if_pos hc]
        split <;> split <;> split <;> split <;> omega
      · rw [if_neg hc]
        split <;> split <;> split <;> split <;> omega
    · have r2 := Int.emod_nonneg (b - 1 - p % (n - b)) (show n - b ≠ 0 by omega)
      split <;> split <;> split <;> split <;> omega
  rw [sumI_congr ind, sumI_add, sumI_inM (by omega) (by omega) (by omega), sumI_inM (by omega) (by omega) (by omega)]
  unfold mirLone
  split
  · omega
  · have := par (by omega)
    split <;> omega

/-! ### mirror where it answers -/
abbrev N_mirror : List Str := ["at", "many"]
abbrev P_mirror : List Str := ["at", "many"]
theorem sc_mirror : FnScope N_mirror P_mirror (defScope s_mirror) := ⟨rfl, rfl, rfl, by decide +kernel, rfl, by decide +kernel, by decide +kernel⟩
def spMirror0 : Sp := fun vs H Q _ => ∃ o m : Int, vs = [.int o, .int m] ∧ 0 ≤ o ∧ 1 ≤ m ∧ ∀ r, H r = none → Q (.ref r) (upd H r (t4 (o, o, m, 1)))
section
variable {P : Program} {w : World} {K : PySem.W.Frag} {mg : Str → Option Value} {base : Heap}
theorem ok_mirror0 {f fN : Addr} {fd fdN : FuncData} (D : DefAt K mg "mirror" s_mirror P_mirror f fd) (D_need_from : DefAt K mg "need_from" s_need_from P_need_from fN fdN) (B : Bn mg) : FnOk P w K mg base CX0 2 f fd P_mirror spMirror0 := by
  have G_need_from : FnOk P w K mg base CX0 1 fN fdN P_need_from spFrom0 := ok_from0 D_need_from B
  refine D.F.ok sc_mirror (fun vs H Q E h => ?_) (fun cdv A outer s H vs Q E hr h => ?_)
  · obtain ⟨o, m, rfl, _⟩ := h
    rfl
  · obtain ⟨o, m, rfl, o0, m1, q⟩ := h
    refine ⟨_, (pss_cons (ps_expr (pe_call G_need_from (hr.mono (by omega)) (by rfl) D_need_from.g D_need_from.F.kp D_need_from.b .nil pass0 (pa_cons pe_int (pa_cons (pv 0) pa_nil))))
      (pss_cons (ps_expr (pe_call G_need_from (hr.mono (by omega)) (by rfl) D_need_from.g D_need_from.F.kp D_need_from.b .nil pass0 (pa_cons pe_int (pa_cons (pv 1) pa_nil))))
      (pss_one (ps_ret (pe_tup (pa_cons (pv 0) (pa_cons (pv 0) (pa_cons (pv 1) (pa_cons pe_int pa_nil))))))))), ?_⟩
    refine ⟨.int o, rfl, 0, o, rfl, o0, .int m, rfl, 1, m, rfl, m1, ?_⟩
    exact ⟨.int o, rfl, .int o, rfl, .int m, rfl, by show 4 ≤ sizeLine; decide, fun r nr => q r nr⟩
end

/-! ### law -/
abbrev N_law : List Str := ["_law_script", "_law_draw", "_law_turn", "_law_length", "_law_some", "_law_begin", "_law_step", "_law_matings", "_law_folding", "_law_lone", "_law_again", "_law_place", "_law_here", "_law_due"]
abbrev P_law : List Str := ["_law_script"]
theorem sc_law : FnScope N_law P_law (defScope s_law) := ⟨rfl, rfl, rfl, by decide +kernel, rfl, by decide +kernel, by decide +kernel⟩
theorem draw_intsM {H : Hp} {d l A : Addr} {xs : List Int} (D : Draw H d l) (e : H A = some (.lst (xs.map V.int))) : A ≠ d := by
  obtain ⟨ns, i, z, s, W⟩ := D
  refine ne_of e W.at_d fun z => ?_
  cases xs with
  | nil => cases z
  | cons x r => cases z
theorem draw_refsM {H : Hp} {d l A : Addr} {ts : List Addr} (D : Draw H d l) (e : H A = some (.lst (ts.map V.ref))) : A ≠ d := by
  obtain ⟨ns, i, z, s, W⟩ := D
  refine ne_of e W.at_d fun z => ?_
  cases ts with
  | nil => cases z
  | cons x r =>
    cases r with
    | nil => cases z
    | cons y r => cases z
theorem Mts.rev {H : Hp} : ∀ {ts : List Addr} {ms : List M4}, Mts H ts ms → Mts H ts.reverse ms.reverse
  | _, _, .nil => .nil
  | _, _, .cons h r => by
    rw [List.reverse_cons, List.reverse_cons]
    exact Mts.snoc h (Mts.rev r)
/-- what stands while a folding of two mirrors is asked -/
structure W23 (C4 : Addr) (TT : List (Addr × Str)) (G : Hp) (d l fg : Addr) (n : Int) (evs : List Ev) (mos : List Mo) (pcs : List Pc) (z : FgA) : Prop where
  fa : FgAt C4 G fg n evs mos pcs z
  dr : Draw G d l
  tb : LamX.Tabs TT G
section
variable {C4 : Addr} {TT : List (Addr × Str)} {G G' : Hp} {d l fg : Addr} {n : Int} {evs : List Ev} {mos : List Mo} {pcs : List Pc} {z : FgA}
theorem W23.same (h : W23 C4 TT G d l fg n evs mos pcs z) (s : Same G G') : W23 C4 TT G' d l fg n evs mos pcs z := ⟨h.fa.same s, h.dr.same s, h.tb.ext s⟩
theorem W23.draw (h : W23 C4 TT G d l fg n evs mos pcs z) (D : Draw G' d l) (k : Keep d G G') : W23 C4 TT G' d l fg n evs mos pcs z := ⟨h.fa.kd (KeepD.draw h.dr k), D, tabs_keep h.tb h.dr k⟩
end
section
variable {P : Program} {w : World} {K : PySem.W.Frag} {mg : Str → Option Value} {base : Heap} {C4 Pt : Addr}
theorem ok_law {f fO fP fA fL fMi fN fFg fC fLe : Addr} {fd fdO fdP fdA fdL fdMi fdN fdFg fdC fdLe : FuncData} {dsM : List Value} (F : Fun K "law" "law" s_law f fd) (D_open : DefAt K mg "_law_open" s_open P_open fO fdO) (D_pull : DefAt K mg "_law_pull" s_pull P_pull fP fdP)
    (D_any : DefAt K mg "_law_any" s_any P_any fA fdA) (D_like : DefAt K mg "_law_like" s_like P_like fL fdL) (D_mirror : DefAt K mg "mirror" s_mirror P_mirror fMi fdMi) (D_need_from : DefAt K mg "need_from" s_need_from P_need_from fN fdN)
    (TFg_ : FgT K mg C4) (mkFg_ : Mk K C4 fFg) (G_Fg_init : FnOk P w K mg base CX0 11 fFg fdFg P_Fg_init (spFgInit C4 LimT (TWid Pt))) (b_Fg_init : Binds K fdFg P_Fg_init dsM) (dv_Fg : Vals [.non] dsM)
    (M_Fg_count : Meth K C4 "count" fC) (G_Fg_count : FnOk P w K mg base CX0 1 fC fdC P_Fg_count (spCount C4)) (b_Fg_count : Binds K fdC P_Fg_count [])
    (M_Fg_least : Meth K C4 "least" fLe) (G_Fg_least : FnOk P w K mg base CX0 3 fLe fdLe P_Fg_least (spLeast C4)) (b_Fg_least : Binds K fdLe P_Fg_least [])
    (B : Bn mg) :
    FnOk P w K mg base CX0 13 f fd P_law (spLawT K Pt) := by
  have G_open : FnOk P w K mg base CX0 1 fO fdO P_open (spOpen K) := ok_open D_open B
  have G_pull : FnOk P w K mg base CX0 1 fP fdP P_pull spPull := ok_pull D_pull B
  have G_any : FnOk P w K mg base CX0 2 fA fdA P_any spAny := ok_any D_any D_pull B
  have G_mirror : FnOk P w K mg base CX0 2 fMi fdMi P_mirror spMirror0 := ok_mirror0 D_mirror D_need_from B
  have G_like : FnOk P w K mg base CX0 4 fL fdL P_like (spLike 3) := ok_like D_like B 3
  refine F.ok sc_law (fun vs H Q E h => ?_) (fun cdv A0 outer s H vs Q E hr h => ?_)
  · obtain ⟨a, ns, rfl, _⟩ := h
    rfl
  · obtain ⟨a, ns, rfl, hS, hlen, hPt, q⟩ := h
    refine ⟨_, (pss_cons (ps_set (i := 1) sc_law.nd rfl (.inl rfl) (pe_call G_open (hr.mono (by omega)) (by rfl) D_open.g D_open.F.kp D_open.b .nil pass0 (pa_cons (pv 0) pa_nil)))
      (pss_cons (ps_for PassesOwn.never rfl (pi_range1 (by rfl) B.range (pa_cons pe_int pa_nil)) (pg_name (i := 2) sc_law.nd rfl (.inl rfl)) (C8.pss_cut (ps_set (i := 3) sc_law.nd rfl (.inl rfl) (pe_op op_add pe_int (pe_call G_pull (hr.mono (by omega)) (by rfl) D_pull.g D_pull.F.kp D_pull.b .nil pass0 (pa_cons (pv 1) (pa_cons (pe_ix ix_list (pe_lst (pa_cons pe_int (pa_cons (pe_op op_pow pe_int pe_int) (pa_cons (pe_op op_sub (pe_op op_pow pe_int pe_int) pe_int) pa_nil)))) (pe_call G_pull (hr.mono (by omega)) (by rfl) D_pull.g D_pull.F.kp D_pull.b .nil pass0 (pa_cons (pv 1) (pa_cons pe_int pa_nil))) (fun _ _ => rfl)) pa_nil)))))
      (C8.pss_cut (ps_set (i := 4) sc_law.nd rfl (.inl rfl) (pe_lst (pa_cons pe_int (pa_cons (pe_op op_sub (pv 3) pe_int) (pa_cons (pe_op op_fdivW (pv 3) pe_int) (pa_cons (pe_op op_add (pe_op op_fdivW (pv 3) pe_int) pe_int) (pa_cons (pe_op op_sub (pv 3) pe_int) (pa_cons (pe_op op_add pe_int (pe_call G_pull (hr.mono (by omega)) (by rfl) D_pull.g D_pull.F.kp D_pull.b .nil pass0 (pa_cons (pv 1) (pa_cons (pe_op op_sub (pv 3) pe_int) pa_nil)))) pa_nil))))))))
      (C8.pss_cut (ps_set (i := 5) sc_law.nd rfl (.inl rfl) (pe_call G_any (hr.mono (by omega)) (by rfl) D_any.g D_any.F.kp D_any.b .nil pass0 (pa_cons (pv 1) (pa_cons (pe_op op_cat (pv 4) (pe_lst (pa_cons (pe_op op_sub (pe_op op_sub (pv 3) pe_int) (pe_call G_pull (hr.mono (by omega)) (by rfl) D_pull.g D_pull.F.kp D_pull.b .nil pass0 (pa_cons (pv 1) (pa_cons (pe_callB (call_min2 rfl) (by rfl) B.min (by decide +kernel) (pa_cons pe_int (pa_cons (pe_op op_sub (pv 3) pe_int) pa_nil))) pa_nil)))) pa_nil))) pa_nil))))
      (C8.pss_cut (ps_set (i := 5) sc_law.nd rfl (.inl rfl) (pe_callB (call_min2 rfl) (by rfl) B.min (by decide +kernel) (pa_cons (pe_op op_sub (pv 3) pe_int) (pa_cons (pe_callB (call_max2 rfl) (by rfl) B.max (by decide +kernel) (pa_cons pe_int (pa_cons (pv 5) pa_nil))) pa_nil))))
      (pss_cons (ps_set (i := 6) sc_law.nd rfl (.inl rfl) (pe_op op_sub (pv 3) (pv 5)))
      (C8.pss_cut (ps_set (i := 7) sc_law.nd rfl (.inl rfl) (pe_lst (pa_cons (pe_call G_mirror (hr.mono (by omega)) (by rfl) D_mirror.g D_mirror.F.kp D_mirror.b .nil pass0 (pa_cons pe_int (pa_cons (pv 3) pa_nil))) (pa_cons (pe_call G_mirror (hr.mono (by omega)) (by rfl) D_mirror.g D_mirror.F.kp D_mirror.b .nil pass0 (pa_cons pe_int (pa_cons (pv 5) pa_nil))) pa_nil))))
      (C8.pss_cut (ps_set (i := 8) sc_law.nd rfl (.inl rfl) (pe_make mkFg_ G_Fg_init (hr.mono (by omega)) (by rfl) TFg_.gC b_Fg_init dv_Fg pass0 (pa_cons (pv 3) (pa_cons (pe_ifExp (pt_cmpR op_eq (pe_call G_pull (hr.mono (by omega)) (by rfl) D_pull.g D_pull.F.kp D_pull.b .nil pass0 (pa_cons (pv 1) (pa_cons pe_int pa_nil))) pe_int (nomark _)) (pe_revL (pv 7)) (pv 7)) pa_nil))))
      (C8.pss_cut (ps_set (i := 9) sc_law.nd rfl (.inl rfl) (pe_ifExp (pt_cmpR op_eq (pe_op op_mod (pv 6) pe_int) pe_int (nomark _)) pe_int (pe_ifExp (pt_cmpR op_eq (pe_op op_mod (pe_op op_sub (pv 5) pe_int) pe_int) pe_int (nomark _)) pe_int pe_int)))
      (C8.pss_cut (ps_if (pt_not (pt_val (pe_call G_like (hr.mono (by omega)) (by rfl) D_like.g D_like.F.kp D_like.b .nil pass0 (pa_cons (pe_meth0 (pv 8) TFg_.cl M_Fg_count G_Fg_count (hr.mono (by omega)) b_Fg_count .nil pass0) (pa_cons (pe_op op_fdivW (pe_op op_add (pv 6) (pv 9)) pe_int) pa_nil))))) (pss_one (ps_ret pe_bl)) pss_nil)
      (pss_one (ps_for PassesOwn.never rfl (pi_range1 (by rfl) B.range (pa_cons pe_int pa_nil)) (pg_name (i := 10) sc_law.nd rfl (.inl rfl)) (C8.pss_cut (ps_set (i := 11) sc_law.nd rfl (.inl rfl) (pe_call G_any (hr.mono (by omega)) (by rfl) D_any.g D_any.F.kp D_any.b .nil pass0 (pa_cons (pv 1) (pa_cons (pe_lst (pa_cons (pe_call G_pull (hr.mono (by omega)) (by rfl) D_pull.g D_pull.F.kp D_pull.b .nil pass0 (pa_cons (pv 1) (pa_cons (pv 3) pa_nil))) (pa_cons (pe_op op_sub (pv 5) pe_int) (pa_cons (pv 5) (pa_cons (pe_op op_sub (pv 3) pe_int) (pa_cons pe_int pa_nil)))))) pa_nil))))
      (pss_cons (ps_set (i := 12) sc_law.nd rfl (.inl rfl) (pe_op op_mod (pv 11) (pv 6)))
      (C8.pss_cut (ps_set (i := 13) sc_law.nd rfl (.inl rfl) (pe_callB (call_min2 rfl) (by rfl) B.min (by decide +kernel) (pa_cons (pv 12) (pa_cons (pe_op op_mod (pe_op op_sub (pe_op op_sub (pv 5) pe_int) (pv 12)) (pv 6)) pa_nil))))
      (pss_one (ps_if (pt_not (pt_val (pe_call G_like (hr.mono (by omega)) (by rfl) D_like.g D_like.F.kp D_like.b .nil pass0 (pa_cons (pe_meth (pv 8) TFg_.cl M_Fg_least G_Fg_least (hr.mono (by omega)) b_Fg_least .nil pass0 (pa_cons (pv 11) pa_nil)) (pa_cons (pv 13) pa_nil))))) (pss_one (ps_ret pe_bl)) pss_nil)))))))))))))))))
      (pss_one (ps_ret pe_bl)))), ?_⟩
    refine ⟨.ref a, rfl, a, ns, rfl, hS, hlen, fun H1 d l sm nd nl hD => ?_⟩
    have T1 : LamX.Tabs (TWid Pt) H1 := fun p hp => by
      rw [List.mem_singleton.mp hp]
      exact LamX.TabS.nil (sm _ _ hPt)
    have one : (1 : Nat) ≤ sizeLine := by decide
    have two : (2 : Nat) ≤ sizeLine := by decide
    have three : (3 : Nat) ≤ sizeLine := by decide
    refine ⟨3, rfl, by decide, by decide, for_range (lo := 0) (n := 3) (fun i σ G => ∃ (y2 y3 y4 y5 y6 y7 y8 y9 y10 y11 y12 y13 : Option V), σ = [some (.ref a), some (.ref d), y2, y3, y4, y5, y6, y7, y8, y9, y10, y11, y12, y13] ∧ Draw G d l ∧ LamX.Tabs (TWid Pt) G)
      ⟨none, none, none, none, none, none, none, none, none, none, none, none, rfl, hD, T1⟩ ?_ ?_⟩
    · rintro i σ G hi ⟨y2, y3, y4, y5, y6, y7, y8, y9, y10, y11, y12, y13, rfl, DG, TG⟩
      generalize hui : V.int (0 + (i : Int)) = ui
      clear hi hui
      -- the length
      refine ⟨fun σ G2 => ∃ n : Int, σ = [some (.ref a), some (.ref d), some ui, some (.int n), y4, y5, y6, y7, y8, y9, y10, y11, y12, y13] ∧ 2 ≤ n ∧ n ≤ 1000000000000000000 ∧ Draw G2 d l ∧ LamX.Tabs (TWid Pt) G2, ?_, ?_⟩
      · refine ⟨.ref d, rfl, 10, 6, rfl, rfl, ⟨by decide, by decide, by decide⟩, 10, 18, rfl, rfl, ⟨by decide, by decide, by decide⟩, _, _, rfl, rfl, three, fun L2 nL2 => ?_⟩
        have s2 := same_upd (H := G) (o := .lst [.int 40, .int 1000000, .int 999999999999999998]) nL2
        have e2 : (upd G L2 (.lst [.int 40, .int 1000000, .int 999999999999999998])) L2 = some (.lst [.int 40, .int 1000000, .int 999999999999999998]) := upd_same
        have nL2d := (draw_apart DG nL2).1.symm
        have T2 := TG.ext s2
        have D2 := DG.same s2
        refine ⟨.ref d, rfl, d, l, 3, rfl, D2, by decide, by decide, fun u H4 u0 u1 D4 k4 => ?_⟩
        obtain ⟨c, hc, hc1, hc2⟩ : ∃ c : Int, atI [V.int 40, V.int 1000000, V.int 999999999999999998] u = some (.int c) ∧ 1 ≤ c ∧ c ≤ 999999999999999998 := by
          rcases (show u = 0 ∨ u = 1 ∨ u = 2 by omega) with rfl | rfl | rfl
          · exact ⟨_, atI_nat (j := 0) rfl, by decide, by decide⟩
          · exact ⟨_, atI_nat (j := 1) rfl, by decide, by decide⟩
          · exact ⟨_, atI_nat (j := 2) rfl, by decide, by decide⟩
        refine ⟨L2, _, u, .int c, rfl, rfl, SqL.of (k4.of e2 nL2d), hc, d, l, c, rfl, D4, hc1, by omega, fun v H5 v0 v1 D5 k5 => ?_⟩
        exact ⟨2, v, rfl, rfl, 2 + v, rfl, by omega, by omega, D5, tabs_keep (tabs_keep T2 D2 k4) D4 k5⟩
      clear DG TG
      rintro σ G2 ⟨n, rfl, n2, n18, D2, T2⟩
      -- some begins
      refine ⟨fun σ G3 => ∃ (L : Addr) (xs : List Int), σ = [some (.ref a), some (.ref d), some ui, some (.int n), some (.ref L), y5, y6, y7, y8, y9, y10, y11, y12, y13] ∧ G3 L = some (.lst (xs.map V.int)) ∧ xs.length = 6 ∧ Draw G3 d l ∧ LamX.Tabs (TWid Pt) G3, ?_, ?_⟩
      · refine ⟨.int n, rfl, _, _, rfl, rfl, .int n, rfl, _, _, rfl, rfl, ⟨by decide, by decide⟩, .int n, rfl, _, _, rfl, rfl, ⟨by decide, by decide⟩, _, _, rfl, rfl, .int n, rfl, _, _, rfl, rfl, .ref d, rfl, .int n, rfl, _, _, rfl, rfl, d, l, n - 1, rfl, D2, by omega, by omega, fun v G3 v0 v1 D3 k3 => ?_⟩
        refine ⟨1, v, rfl, rfl, by show 6 ≤ sizeLine; decide, fun L nL => ?_⟩
        have s4 := same_upd (H := G3) (o := .lst [.int 1, .int (n - 1), .int (n / 2), .int (n / 2 + 1), .int (n - 2), .int (1 + v)]) nL
        exact ⟨L, [1, n - 1, n / 2, n / 2 + 1, n - 2, 1 + v], rfl, upd_same, rfl, D3.same s4, (tabs_keep T2 D2 k3).ext s4⟩
      clear D2 T2
      rintro σ G3 ⟨L, xs, rfl, eL, lx, D3, T3⟩
      have nLd := draw_intsM D3 eL
      -- the begin drawn
      refine ⟨fun σ G4 => ∃ b : Int, σ = [some (.ref a), some (.ref d), some ui, some (.int n), some (.ref L), some (.int b), y6, y7, y8, y9, y10, y11, y12, y13] ∧ Draw G4 d l ∧ LamX.Tabs (TWid Pt) G4, ?_, ?_⟩
      · refine ⟨.ref d, rfl, .ref L, rfl, .int n, rfl, _, _, rfl, rfl, .ref d, rfl, .int n, rfl, _, _, rfl, rfl, ?_⟩
        have hmn : 1 ≤ (if n - 1 < 9 then n - 1 else 9) ∧ (if n - 1 < 9 then n - 1 else 9) ≤ 9 := by split <;> omega
        refine ⟨9, n - 1, rfl, d, l, _, rfl, D3, hmn.1, by omega, fun v G4 v0 v1 D4 k4 => ?_⟩
        refine ⟨_, _, rfl, rfl, one, fun L5 nL5 => ?_⟩
        have eL4 := k4.of eL nLd
        have s5 := same_upd (H := G4) (o := .lst [.int (n - 1 - v)]) nL5
        have e5 : (upd G4 L5 (.lst [.int (n - 1 - v)])) L5 = some (.lst [.int (n - 1 - v)]) := upd_same
        generalize upd G4 L5 (.lst [.int (n - 1 - v)]) = G5 at s5 e5
        refine ⟨L, L5, xs.map V.int, [.int (n - 1 - v)], rfl, rfl, s5 _ _ eL4, e5, by rw [List.length_map, lx]; show 6 + 1 ≤ sizeLine; decide, fun L6 nL6 => ?_⟩
        have s6 := same_upd (H := G5) (o := .lst (xs.map V.int ++ [.int (n - 1 - v)])) nL6
        have e6 : (upd G5 L6 (.lst (xs.map V.int ++ [.int (n - 1 - v)]))) L6 = some (.lst ((xs ++ [n - 1 - v]).map V.int)) := by rw [upd_same, List.map_append]; rfl
        generalize upd G5 L6 (.lst (xs.map V.int ++ [.int (n - 1 - v)])) = G6 at s6 e6
        have D6 := (D4.same s5).same s6
        have T6 := ((tabs_keep T3 D3 k4).ext s5).ext s6
        refine ⟨d, l, L6, _, rfl, D6, e6, draw_intsM D6 e6, by rw [List.length_map, List.length_append, lx]; show 1 ≤ 6 + 1; decide, by rw [List.length_map, List.length_append, lx]; show 6 + 1 ≤ 1000; decide, fun y G7 hy D7 k7 => ?_⟩
        obtain ⟨b, _, rfl⟩ := List.mem_map.mp hy
        exact ⟨b, rfl, D7, tabs_keep T6 D6 k7⟩
      clear D3 T3 eL
      rintro σ G4 ⟨b0, rfl, D4, T4⟩
      -- the begin
      refine ⟨fun σ G5 => ∃ b : Int, σ = [some (.ref a), some (.ref d), some ui, some (.int n), some (.ref L), some (.int b), y6, y7, y8, y9, y10, y11, y12, y13] ∧ 1 ≤ b ∧ b < n ∧ G5 = G4, ?_, ?_⟩
      · refine ⟨.int n, rfl, _, _, rfl, rfl, .int b0, rfl, 1, b0, rfl, n - 1, _, rfl, ?_⟩
        refine ⟨_, rfl, ?_, ?_, rfl⟩
        · split <;> split <;> omega
        · split <;> split <;> omega
      rintro σ G5 ⟨b, rfl, b1, bn, rfl⟩
      clear nLd lx
      refine ⟨.int n, rfl, .int b, rfl, _, _, rfl, rfl, ?_⟩
      -- the mirrors
      refine ⟨fun σ G6 => ∃ (M : Addr) (ts : List Addr), σ = [some (.ref a), some (.ref d), some ui, some (.int n), some (.ref L), some (.int b), some (.int (n - b)), some (.ref M), y8, y9, y10, y11, y12, y13] ∧ G6 M = some (.lst (ts.map V.ref)) ∧ Mts G6 ts (mirs n b) ∧ Draw G6 d l ∧ LamX.Tabs (TWid Pt) G6, ?_, ?_⟩
      · refine ⟨.int n, rfl, 0, n, rfl, by decide, by omega, fun t1 nt1 => ?_⟩
        have s1 := same_upd (H := G5) (o := t4 (0, 0, n, 1)) nt1
        have e1 : (upd G5 t1 (t4 (0, 0, n, 1))) t1 = some (t4 (0, 0, n, 1)) := upd_same
        generalize upd G5 t1 (t4 (0, 0, n, 1)) = G6 at s1 e1
        refine ⟨.int b, rfl, 0, b, rfl, by decide, by omega, fun t2 nt2 => ?_⟩
        have s2 := same_upd (H := G6) (o := t4 (0, 0, b, 1)) nt2
        have e2 : (upd G6 t2 (t4 (0, 0, b, 1))) t2 = some (t4 (0, 0, b, 1)) := upd_same
        generalize upd G6 t2 (t4 (0, 0, b, 1)) = G7 at s2 e2
        refine ⟨two, fun M nM => ?_⟩
        have s3 := same_upd (H := G7) (o := .lst [.ref t1, .ref t2]) nM
        exact ⟨M, [t1, t2], rfl, upd_same, .cons (s3 _ _ (s2 _ _ e1)) (.cons (s3 _ _ e2) .nil), ((D4.same s1).same s2).same s3, ((T4.ext s1).ext s2).ext s3⟩
      clear D4 T4
      rintro σ G6 ⟨M, ts, rfl, eM, hM, D6, T6⟩
      have lts := hM.length
      -- the folding
      refine ⟨fun σ G7 => ∃ (fg : Addr) (ms : List M4) (evs : List Ev) (mos : List Mo) (pcs : List Pc) (z : FgA), σ = [some (.ref a), some (.ref d), some ui, some (.int n), some (.ref L), some (.int b), some (.int (n - b)), some (.ref M), some (.ref fg), y9, y10, y11, y12, y13] ∧ (ms = mirs n b ∨ ms = (mirs n b).reverse) ∧ W23 C4 (TWid Pt) G7 d l fg n evs mos pcs z ∧ FgM (Gn (en 0 ms)) n evs mos pcs, ?_, ?_⟩
      · have ok1 : ∀ y ∈ mirs n b, Mok n y := fun y hy => by
          rcases List.mem_cons.mp hy with rfl | hy
          · exact ⟨.inr rfl, by show 1 ≤ n; omega, Int.le_refl _, Int.le_refl _, by show 0 + n ≤ n; omega, by show 0 + n ≤ n; omega⟩
          · rw [List.mem_singleton.mp hy]
            exact ⟨.inr rfl, by show 1 ≤ b; omega, Int.le_refl _, Int.le_refl _, by show 0 + b ≤ n; omega, by show 0 + b ≤ n; omega⟩
        have ok2 : ∀ y ∈ (mirs n b).reverse, Mok n y := fun y hy => ok1 y (List.mem_reverse.mp hy)
        refine ⟨.int n, rfl, .ref d, rfl, d, l, 2, rfl, D6, by decide, by decide, fun v G7 v0 v1 D7 k7 => ?_⟩
        have T7 := tabs_keep T6 D6 k7
        have eM7 := k7.of eM (draw_refsM D6 eM)
        have hM7 := hM.keep (D6.keepT k7)
        refine ⟨rfl, _, rfl, ite2 (fun c => ?_) (fun c => ?_)⟩
        · refine ⟨.ref M, rfl, M, _, rfl, SqL.of eM7, fun R nR => ?_⟩
          have s8 := same_upd (H := G7) (o := .lst (ts.map V.ref).reverse) nR
          have e8 : (upd G7 R (.lst (ts.map V.ref).reverse)) R = some (.lst (ts.reverse.map V.ref)) := by rw [upd_same, List.map_reverse]
          generalize upd G7 R (.lst (ts.map V.ref).reverse) = G8 at s8 e8
          have hM8 := (hM7.keep (H' := G8) fun b xs hb => s8 _ _ hb).rev
          have D8 := D7.same s8
          have T8 := T7.ext s8
          refine fun fg dg nfg ndg nex => ?_
          have s9 := same_new (C := C4) nfg ndg
          have ef : (upd (upd G8 dg (.own fg)) fg (.ins C4 dg [])) fg = some (.ins C4 dg []) := upd_same
          generalize upd (upd G8 dg (.own fg)) fg (.ins C4 dg []) = G9 at s9 ef
          refine ⟨fg, dg, R, n, ts.reverse, (mirs n b).reverse, rfl, ef, by omega, by omega, LimT.mirrors (.inr rfl) b1 bn n18 (first_wf2 (by omega) (by omega) ok2 (by show 2 ≤ 60; decide)).1, s9 _ _ e8, hM8.keep (fun b xs hb => s9 _ _ hb), ok2, by show 2 ≤ 24; decide, T8.ext s9, fun G10 evs mos pcs z fa fm run kn T10 => ⟨rfl, fg, (mirs n b).reverse, evs, mos, pcs, z, rfl, .inr rfl, ⟨fa, draw_extN D8 (KeepN.ext s9 nfg kn), T10⟩, fm⟩⟩
        · refine ⟨.ref M, rfl, fun fg dg nfg ndg nex => ?_⟩
          have s9 := same_new (C := C4) nfg ndg
          have ef : (upd (upd G7 dg (.own fg)) fg (.ins C4 dg [])) fg = some (.ins C4 dg []) := upd_same
          generalize upd (upd G7 dg (.own fg)) fg (.ins C4 dg []) = G9 at s9 ef
          refine ⟨fg, dg, M, n, ts, mirs n b, rfl, ef, by omega, by omega, LimT.mirrors (.inl rfl) b1 bn n18 (first_wf2 (by omega) (by omega) ok1 (by show 2 ≤ 60; decide)).1, s9 _ _ eM7, hM7.keep (fun b xs hb => s9 _ _ hb), ok1, by show 2 ≤ 24; decide, T7.ext s9, fun G10 evs mos pcs z fa fm run kn T10 => ⟨rfl, fg, mirs n b, evs, mos, pcs, z, rfl, .inl rfl, ⟨fa, draw_extN D7 (KeepN.ext s9 nfg kn), T10⟩, fm⟩⟩
      clear D6 T6 eM hM lts
      rintro σ G7 ⟨fg, ms, evs, mos, pcs, z, rfl, hm, W, fm⟩
      have pl := fm.pl
      have cnt := mir_count hm b1 bn fm
      have sp : 0 < n - b := by omega
      -- the lone ones
      refine ⟨fun σ G8 => σ = [some (.ref a), some (.ref d), some ui, some (.int n), some (.ref L), some (.int b), some (.int (n - b)), some (.ref M), some (.ref fg), some (.int (mirLone n b)), y10, y11, y12, y13] ∧ G8 = G7, ?_, ?_⟩
      · refine ⟨.int (n - b), rfl, _, _, rfl, rfl, (by show (0 : Int) < 2; decide), rfl, _, rfl, ?_⟩
        unfold mirLone
        refine ite2 (fun c => ?_) (fun c => ?_)
        · have c : (n - b) % 2 = 1 := by simpa using c
          rw [if_pos c]
          exact ⟨rfl, rfl⟩
        · have c : ¬ (n - b) % 2 = 1 := fun z => c (by simpa using z)
          rw [if_neg c]
          refine ⟨.int b, rfl, _, _, rfl, rfl, _, _, rfl, rfl, (by show (0 : Int) < 2; decide), rfl, _, rfl, ite2 (fun e => ?_) (fun e => ?_)⟩
          · have e : (b - 1) % 2 = 0 := by simpa using e
            rw [if_pos e]
            exact ⟨rfl, rfl⟩
          · have e : ¬ (b - 1) % 2 = 0 := fun z => e (by simpa using z)
            rw [if_neg e]
            exact ⟨rfl, rfl⟩
      rintro σ G8 ⟨rfl, rfl⟩
      -- how many
      refine ⟨fun σ G9 => σ = [some (.ref a), some (.ref d), some ui, some (.int n), some (.ref L), some (.int b), some (.int (n - b)), some (.ref M), some (.ref fg), some (.int (mirLone n b)), y10, y11, y12, y13] ∧ W23 C4 (TWid Pt) G9 d l fg n evs mos pcs z, ?_, ?_⟩
      · refine ⟨.ref fg, rfl, fg, z.dx, _, rfl, W.fa.at_g, rfl, fg, n, evs, mos, pcs, z, rfl, W.fa, by omega, fun G9 s9 => ?_⟩
        refine ⟨.int (n - b), rfl, .int (mirLone n b), rfl, _, _, rfl, rfl, _, _, rfl, rfl, ⟨by decide, by decide⟩, ?_⟩
        refine ⟨.int _, .int _, .int ((n - b + mirLone n b) / 2), rfl, by rw [cnt]; exact .int _ _, .int _ _, fun G10 s10 => ⟨true, rfl, iteF ⟨rfl, (W.same s9).same s10⟩⟩⟩
      clear W cnt
      rintro σ G9 ⟨rfl, W⟩
      refine ⟨8, rfl, by decide, by decide, for_range (lo := 0) (n := 8) (fun j σ G => ∃ (y10 y11 y12 y13 : Option V), σ = [some (.ref a), some (.ref d), some ui, some (.int n), some (.ref L), some (.int b), some (.int (n - b)), some (.ref M), some (.ref fg), some (.int (mirLone n b)), y10, y11, y12, y13] ∧ W23 C4 (TWid Pt) G d l fg n evs mos pcs z) ⟨_, _, _, _, rfl, W⟩ ?_ ?_⟩
      · clear W
        rintro j σ G hj ⟨y10, y11, y12, y13, rfl, W⟩
        generalize V.int (0 + (j : Int)) = uj
        -- the place
        refine ⟨fun σ G1 => ∃ x : Int, σ = [some (.ref a), some (.ref d), some ui, some (.int n), some (.ref L), some (.int b), some (.int (n - b)), some (.ref M), some (.ref fg), some (.int (mirLone n b)), some uj, some (.int x), y12, y13] ∧ 0 ≤ x ∧ x < n ∧ W23 C4 (TWid Pt) G1 d l fg n evs mos pcs z, ?_, ?_⟩
        · refine ⟨.ref d, rfl, .ref d, rfl, .int n, rfl, d, l, n, rfl, W.dr, by omega, by omega, fun v G1 v0 v1 D1 k1 => ?_⟩
          have W1 := W.draw D1 k1
          refine ⟨.int b, rfl, _, _, rfl, rfl, .int b, rfl, .int n, rfl, _, _, rfl, rfl, by show 5 ≤ sizeLine; decide, fun Lc nLc => ?_⟩
          have s2 := same_upd (H := G1) (o := .lst [.int v, .int (b - 1), .int b, .int (n - 1), .int 0]) nLc
          have e2 : (upd G1 Lc (.lst [.int v, .int (b - 1), .int b, .int (n - 1), .int 0])) Lc = some (.lst [.int v, .int (b - 1), .int b, .int (n - 1), .int 0]) := upd_same
          generalize upd G1 Lc (.lst [.int v, .int (b - 1), .int b, .int (n - 1), .int 0]) = G2 at s2 e2
          have W2 := W1.same s2
          refine ⟨d, l, Lc, _, rfl, W2.dr, e2, draw_intsM (xs := [v, b - 1, b, n - 1, 0]) W2.dr e2, by show 1 ≤ 5; decide, by show 5 ≤ 1000; decide, fun y G3 hy D3 k3 => ?_⟩
          obtain ⟨x, rfl, x0, x1⟩ : ∃ x : Int, y = .int x ∧ 0 ≤ x ∧ x < n := by
            have hy : y ∈ [V.int v, V.int (b - 1), V.int b, V.int (n - 1), V.int 0] := hy
            simp only [List.mem_cons, List.mem_nil_iff, or_false] at hy
            rcases hy with rfl | rfl | rfl | rfl | rfl
            · exact ⟨_, rfl, v0, v1⟩
            · exact ⟨_, rfl, by omega, by omega⟩
            · exact ⟨_, rfl, by omega, by omega⟩
            · exact ⟨_, rfl, by omega, by omega⟩
            · exact ⟨_, rfl, by omega, by omega⟩
          exact ⟨x, rfl, x0, x1, W2.draw D3 k3⟩
        clear W
        rintro σ G1 ⟨x, rfl, x0, x1, W1⟩
        refine ⟨.int x, rfl, .int (n - b), rfl, _, _, rfl, rfl, sp, ?_⟩
        -- what is due
        refine ⟨fun σ G2 => σ = [some (.ref a), some (.ref d), some ui, some (.int n), some (.ref L), some (.int b), some (.int (n - b)), some (.ref M), some (.ref fg), some (.int (mirLone n b)), some uj, some (.int x), some (.int (x % (n - b))), some (.int (mirD n b x))] ∧ G2 = G1, ?_, ?_⟩
        · refine ⟨.int (x % (n - b)), rfl, .int b, rfl, _, _, rfl, rfl, .int (x % (n - b)), rfl, _, _, rfl, rfl, .int (n - b), rfl, _, _, rfl, rfl, sp, _, _, rfl, ?_⟩
          exact ⟨rfl, rfl⟩
        rintro σ G2 ⟨rfl, rfl⟩
        have edn := mir_dn hm b1 bn fm x0 x1
        refine ⟨.ref fg, rfl, fg, z.dx, _, rfl, W1.fa.at_g, rfl, .int x, rfl, fg, _, n, x, evs, mos, pcs, z, rfl, W1.fa, fm, x0, x1, fun G3 s3 => ?_⟩
        rw [edn]
        exact ⟨.int (mirD n b x), rfl, .int _, .int _, .int (mirD n b x), rfl, .int _ _, .int _ _, fun G4 s4 => ⟨true, rfl, iteF ⟨_, _, _, _, rfl, (W1.same s3).same s4⟩⟩⟩
      · rintro σ G ⟨y10, y11, y12, y13, rfl, W⟩
        exact ⟨_, _, _, _, _, _, _, _, _, _, _, _, rfl, W.dr, W.tb⟩
    · rintro σ G ⟨y2, y3, y4, y5, y6, y7, y8, y9, y10, y11, y12, y13, rfl, DG, TG⟩
      exact q G
end

/-! ### how the makers bind -/
theorem fg_binds {K : PySem.W.Frag} {f : Addr} {fd : FuncData} (F : FunD K "__init__" "Folding.__init__" (defArgs s_Fg_init) (defBody s_Fg_init) (defScope s_Fg_init) [] [("moves", .non)] f fd) : ∃ ds, Vals [.non] ds ∧ Binds K fd P_Fg_init ds :=
  F.binds0 (ps := P_Fg_init) 3 (by simp) rfl fun D doc pm an cdv ct us ks hu hk => match us, hu, ks, hk with | [_, _, _], _, [_], _ => ⟨_, _, _, _, _, _, rfl, rfl, rfl⟩

/-! ### the head by a run: what the top leaves, told by names -/
theorem len1 {α : Type} {M : List α → Prop} (h : ∀ a, M [a]) : ∀ us : List α, us.length = 1 → M us
  | [a], _ => h a
theorem len2 {α : Type} {M : List α → Prop} (h : ∀ a b, M [a, b]) : ∀ us : List α, us.length = 2 → M us
  | [a, b], _ => h a b
theorem len3 {α : Type} {M : List α → Prop} (h : ∀ a b c, M [a, b, c]) : ∀ us : List α, us.length = 3 → M us
  | [a, b, c], _ => h a b c
theorem len4 {α : Type} {M : List α → Prop} (h : ∀ a b c d, M [a, b, c, d]) : ∀ us : List α, us.length = 4 → M us
  | [a, b, c, d], _ => h a b c d
section
variable {K : PySem.W.Frag} {fas : List He.Fa} {fns : List He.DefD}
theorem raw_of {x q : Str} {ar : Arguments} {bd : List Stmt} {sc : Scope} {f : Addr} {fd : FuncData} (F : FunD K x q ar bd sc [] [] f fd) :
    ∃ oc od osl kV doc pm an cd ct, K.lookup f = some ⟨oc, od, .func (PySem.W.fnOf x q ar bd sc .none kV doc pm an cd ct), osl⟩ ∧ PySem.W.codeIn K cd q = true ∧ PySem.W.keepIn K (.ref f) = true := by
  obtain ⟨⟨oc, od, dV, kV, doc, pm, an, cd, ct, osl, rfl, hlk, hco, hdf, _⟩, hkp⟩ := F
  rcases hdf with ⟨_, hz⟩ | ⟨hne, _⟩
  · subst hz
    exact ⟨oc, od, osl, kV, doc, pm, an, cd, ct, hlk, hco, hkp⟩
  · exact absurd rfl hne
theorem say_def (c : He.SaysD fas fns K) (i : Nat) {x : Str} {st : Stmt} (e : fns[i]? = some (dD x st)) :
    ∃ oc od osl kV doc pm an cd ct, K.lookup (He.ga K x) = some ⟨oc, od, .func (PySem.W.fnOf x x (defArgs st) (defBody st) (defScope st) .none kV doc pm an cd ct), osl⟩ ∧ PySem.W.codeIn K cd x = true ∧ PySem.W.keepIn K (.ref (He.ga K x)) = true := by
  obtain ⟨fd, F⟩ := c.def_ i e
  exact raw_of F
theorem say_meth (c : He.SaysD fas fns K) (i : Nat) {C m q : Str} {st : Stmt} (e : fns[i]? = some (dM C m q st)) :
    ∃ oc od osl kV doc pm an cd ct, K.lookup (He.ma K (He.ga K C) m) = some ⟨oc, od, .func (PySem.W.fnOf m q (defArgs st) (defBody st) (defScope st) .none kV doc pm an cd ct), osl⟩ ∧ PySem.W.codeIn K cd q = true ∧ PySem.W.keepIn K (.ref (He.ma K (He.ga K C) m)) = true := by
  obtain ⟨fd, F⟩ := c.def_ i e
  exact raw_of F
theorem say_far (c : He.SaysD fas fns K) (i : Nat) {C m q : Str} {st : Stmt} (e : fns[i]? = some (dMs C m q st)) :
    ∃ fd, FunD K m q (defArgs st) (defBody st) (defScope st) [.str ""] [] (He.ma K (He.ga K C) m) fd := by
  obtain ⟨fd, F⟩ := c.def_ i e
  exact ⟨fd, F⟩
theorem say_methT (c : He.SaysD fas fns K) (i : Nat) {C m q : Str} {st : Stmt} (e : fns[i]? = some (dM C m q st)) :
    ∃ oc od osl kV doc pm an ct, K.lookup (He.ma K (He.ga K C) m) = some ⟨oc, od, .func (PySem.W.fnOf m q (defArgs st) (defBody st) (defScope st) .none kV doc pm an (.ref (He.cT K (C, some m)).1) ct), osl⟩ ∧ PySem.W.codeIn K (.ref (He.cT K (C, some m)).1) q = true ∧ PySem.W.keepIn K (.ref (He.ma K (He.ga K C) m)) = true := by
  obtain ⟨oc, od, osl, kV, doc, pm, an, cd, ct, h1, h2, h3⟩ := say_meth c i e
  obtain ⟨z, rfl⟩ := He.codeIn_ref h2
  have hz : He.codeOf K (C, some m) = z := He.codeOf_eq (p := (C, some m)) h1 rfl
  have hz2 : (He.cT K (C, some m)).1 = z := hz
  rw [hz2]
  exact ⟨oc, od, osl, kV, doc, pm, an, ct, h1, h2, h3⟩
theorem say_int (c : He.SaysD fas fns K) (j : Nat) {x : Str} {i : Int} (e : fas[j]? = some (.int x i)) : ∃ t, PySem.W.nsIn K mainGlobals x = some (some (.int i t)) := by
  have q : (match PySem.W.nsIn K mainGlobals x with | some (some (.int u _)) => decide (u = i) | _ => false) = true := c.fact j e
  split at q
  · rename_i k t hk
    have hki := of_decide_eq_true q
    subst hki
    exact ⟨t, hk⟩
  · cases q
theorem all_at {l : List Bool} (h : l.all (fun b => b) = true) (i : Nat) {b : Bool} (e : l[i]? = some b) : b = true := List.all_eq_true.mp h b (List.mem_of_getElem? e)
theorem errB_ok {C : Addr} (h : errB K C = true) : ErrT K C := by
  obtain ⟨h0, h⟩ := He.ba h
  obtain ⟨h1, h⟩ := He.ba h
  obtain ⟨h2, h⟩ := He.ba h
  obtain ⟨h3, h⟩ := He.ba h
  obtain ⟨h4, h5⟩ := He.ba h
  refine ⟨⟨?_, He.eqO_ok h1, of_decide_eq_true h2, of_decide_eq_true h3, h4⟩, He.eqO_ok h5⟩
  split at h0
  · rename_i t dd cd sl hC
    obtain ⟨g1, g⟩ := He.ba h0
    obtain ⟨g2, g⟩ := He.ba g
    obtain ⟨g3, g⟩ := He.ba g
    have e1 : t = "type" := of_decide_eq_true g1
    subst e1
    split at g
    · rename_i D bm y0 y1 y2 y3 n y5 hm hs
      obtain ⟨e2, g⟩ := He.ba g
      obtain ⟨e3, e4⟩ := He.ba g
      have e2' := of_decide_eq_true e2
      have e3' := of_decide_eq_true e3
      subst e2' e3'
      obtain ⟨nm, bs, mro, ns, qn, hd, sn, sub, ab, col, del⟩ := cd
      obtain ⟨sll⟩ := sl
      have e5 : mro = .ref D :: bm := hm
      have e6 : hd = true := g2
      have e7 : del = false := by
        cases del with
        | false => rfl
        | true => cases g3
      have e8 : sll = [y0, y1, y2, y3, some (.builtin "ValueError.__new__"), y5] := hs
      subst e5 e6 e7 e8
      exact ⟨nm, qn, ns, bs, bm, sn, sub, ab, col, dd, y0, y1, y2, y3, y5, hC, e4⟩
    · cases g
  · cases h0
theorem excB_ok {C : Addr} (h : excB K C = true) : ExcC K C := by
  obtain ⟨h0, h⟩ := He.ba h
  obtain ⟨h1, h⟩ := He.ba h
  obtain ⟨h2, h⟩ := He.ba h
  obtain ⟨h3, h4⟩ := He.ba h
  have x := xfB_ok h0
  exact ⟨x.ga, x.gg, x.exC, x.hdC, He.eqO_ok h1, He.eqO_ok h2, of_decide_eq_true h3, of_decide_eq_true h4⟩
theorem cfnB_ok {C f : Addr} {m : Str} (h : cfnB K C m f = true) : ClsFn K C m f := by
  obtain ⟨h0, h⟩ := He.ba h
  obtain ⟨h1, h⟩ := He.ba h
  obtain ⟨h2, h3⟩ := He.ba h
  refine ⟨He.eqO_ok h0, h1, ?_, h3⟩
  split at h2
  · rename_i g hg
    have e := of_decide_eq_true h2
    subst e
    exact hg
  · cases h2
theorem bltB_ok {T m b : String} (h : bltB K T m b = true) : PySem.W.findCls K (.type T) (.type "type") m = some (.val (.builtin b)) := by
  unfold bltB at h
  split at h
  · rename_i g hg
    have e := of_decide_eq_true h
    subst e
    exact hg
  · cases h
theorem far_binds {f : Addr} {fd : FuncData} (F : FunD K "__init__" "FarError.__init__" (defArgs s_farinit) (defBody s_farinit) (defScope s_farinit) [.str ""] [] f fd) : Binds K fd N_farinit [] := by
  obtain ⟨ds, v, b⟩ := F.binds1 (ps := N_farinit) 2 1 (by simp) rfl fun T kV doc pm an cdv ct us its hu hi => match us, hu, its, hi with | [_, _], _, [_], _ => ⟨_, rfl, rfl⟩
  cases v
  exact b
end
/-! ### the hook: what the names reach, and the statics -/
structure SaysY (fas : List He.Fa) (fns : List He.DefD) (ex : PySem.W.Frag → List Bool) (h : Heap) (K : PySem.W.Frag) : Prop where
  d : He.SaysD fas fns K
  more : (ex K).all (fun b => b) = true
  hd : PySem.W.codeHdIn K (He.cT K lawAt).1 (He.cT K lawAt).2 = true
  out : K.lookup (He.cT K lawAt).2 = none
  mt : h.get? (He.cT K lawAt).2 = some (PySem.W.tabObj #[])
abbrev AlY : Type := He.AlD × Bool
def obsY (fas : List He.Fa) (fns : List He.DefD) (ex : PySem.W.Frag → List Bool) (g : Addr → Option Obj) : AlY := (He.obsD fas fns (seenY g), (ex (seenY g)).all (fun b => b) && tabY g (seenY g))
theorem saysY_of {fas : List He.Fa} {fns : List He.DefD} {ex : PySem.W.Frag → List Bool} {h : Heap} (e : obsY fas fns ex h.get? = (He.valD fns, true)) : SaysY fas fns ex h (seenY h.get?) := by
  have e1 : He.obsD fas fns (seenY h.get?) = He.valD fns := congrArg (fun z : AlY => z.1) e
  have e2 : ((ex (seenY h.get?)).all (fun b => b) && tabY h.get? (seenY h.get?)) = true := congrArg (fun z : AlY => z.2) e
  obtain ⟨m1, m2⟩ := He.ba e2
  obtain ⟨m3, m4⟩ := He.ba m2
  have m5 : ∃ u, h.get? (He.cT (seenY h.get?) lawAt).2 = some u ∧ He.emptyTab u = true := by
    cases q : h.get? (He.cT (seenY h.get?) lawAt).2 with
    | none =>
      rw [q] at m4
      cases m4
    | some u =>
      rw [q] at m4
      exact ⟨u, rfl, m4⟩
  obtain ⟨u, hu, hv⟩ := m5
  exact ⟨e1, m1, m3, He.frT_none hu hv, hu.trans (congrArg some (He.emptyTab_eq hv))⟩
def hookY (fas : List He.Fa) (fns : List He.DefD) (ex : PySem.W.Frag → List Bool) : PySem.W.Hook where
  α := AlY
  obs := fun s => obsY fas fns ex s.heap.get?
  val := fun _ => (He.valD fns, true)
  says := fun _ h => ∃ K : PySem.W.Frag, K.In h ∧ SaysY fas fns ex h K
  of := fun _ _ e => ⟨_, He.frT_in, saysY_of e⟩
  keeps := fun _ _ _ ⟨K, a, b⟩ k => ⟨K, PySem.W.Frag.In.keeps a k, b.d, b.more, b.hd, b.out, k _ _ b.mt⟩
theorem obsY_eq {fas : List He.Fa} {fns : List He.DefD} {ex : PySem.W.Frag → List Bool} (s : PySem.W.SharedT) : obsY fas fns ex (HandSHeadRun.getT s) = (hookY fas fns ex).obs s.abs := by
  have e : HandSHeadRun.getT s = s.abs.heap.get? := funext (HandSHeadRun.getT_eq s)
  rw [e]
  rfl
/-! ### the run by parts: each looks at one thing -/
section
open HandSHeadRun PyProof.Rows PySem.Calls PySem.W
theorem run_parts {r : PySem.W.OpenRow} {q : Program} {M : Nat} {loose : List Str} {fas : List He.Fa} {fns : List He.DefD} {ex : PySem.W.Frag → List Bool} (e1 : SeenEq r q M loose) (e2 : PartEq r.prog M (fun s => okY fas fns ex (getT s) (seenY (getT s))) fun _ => true)
    (e4 : PartEq r.prog M (fun s => fns.map fun d => He.fnW (seenY (getT s)) d.at_) fun _ => fns.map He.DefD.val) (w : World) : RunEq r q (hookY fas fns ex) (fun s => obsY fas fns ex (getT s)) M loose w := fun os => by
  obtain ⟨s, hs, h1⟩ := Option.map_eq_some_iff.mp (e1 w os)
  have at_s : ∀ {β : Type} {f : PySem.W.SharedT → β} {v : World → β}, PartEq r.prog M f v → f s = v w := fun h => by
    have z := h w os
    rw [hs] at z
    exact Option.some.inj z
  obtain ⟨a1, a2⟩ := Prod.mk.inj h1
  obtain ⟨b1, b2⟩ := He.ba (show (((fas.all fun f => f.ok (seenY (getT s))) && fns.all fun d => d.ok (seenY (getT s))) && ((ex (seenY (getT s))).all (fun b => b) && tabY (getT s) (seenY (getT s)))) = true from at_s e2)
  rw [hs]
  exact congrArg some (Prod.ext a1 (Prod.ext a2 (Prod.ext (Prod.ext b1 (at_s e4)) b2)))
end
theorem all_mk {l : PySem.W.OpenLaw} {w : World} {K : PySem.W.Frag} {h : Heap} {mg : Str → Option Value} {fa : Addr}
    {f0 : Addr} {od0 an0 : Option Addr} {sl0 : Array (Option Value)} {oc0 kV0 dc0 pm0 ct0 cd0 : Value}
    {f1 : Addr} {od1 an1 : Option Addr} {sl1 : Array (Option Value)} {oc1 kV1 dc1 pm1 ct1 cd1 : Value}
    {f2 : Addr} {od2 an2 : Option Addr} {sl2 : Array (Option Value)} {oc2 kV2 dc2 pm2 ct2 cd2 : Value}
    {f3 : Addr} {od3 an3 : Option Addr} {sl3 : Array (Option Value)} {oc3 kV3 dc3 pm3 ct3 cd3 : Value}
    {f4 : Addr} {od4 an4 : Option Addr} {sl4 : Array (Option Value)} {oc4 kV4 dc4 pm4 ct4 cd4 : Value}
    {f5 : Addr} {od5 an5 : Option Addr} {sl5 : Array (Option Value)} {oc5 kV5 dc5 pm5 ct5 cd5 : Value}
    {f6 : Addr} {od6 an6 : Option Addr} {sl6 : Array (Option Value)} {oc6 kV6 dc6 pm6 ct6 cd6 : Value}
    {f7 : Addr} {od7 an7 : Option Addr} {sl7 : Array (Option Value)} {oc7 kV7 dc7 pm7 ct7 cd7 : Value}
    {f8 : Addr} {od8 an8 : Option Addr} {sl8 : Array (Option Value)} {oc8 kV8 dc8 pm8 ct8 cd8 : Value}
    {f9 : Addr} {od9 an9 : Option Addr} {sl9 : Array (Option Value)} {oc9 kV9 dc9 pm9 ct9 cd9 : Value}
    {f10 : Addr} {od10 an10 : Option Addr} {sl10 : Array (Option Value)} {oc10 kV10 dc10 pm10 ct10 cd10 : Value}
    {f11 : Addr} {od11 an11 : Option Addr} {sl11 : Array (Option Value)} {oc11 kV11 dc11 pm11 ct11 cd11 : Value}
    {f12 : Addr} {od12 an12 : Option Addr} {sl12 : Array (Option Value)} {oc12 kV12 dc12 pm12 ct12 cd12 : Value}
    {f13 : Addr} {od13 an13 : Option Addr} {sl13 : Array (Option Value)} {oc13 kV13 dc13 pm13 ct13 cd13 : Value}
    {f14 : Addr} {od14 an14 : Option Addr} {sl14 : Array (Option Value)} {oc14 kV14 dc14 pm14 ct14 cd14 : Value}
    {f15 : Addr} {od15 an15 : Option Addr} {sl15 : Array (Option Value)} {oc15 kV15 dc15 pm15 ct15 cd15 : Value}
    {f16 : Addr} {od16 an16 : Option Addr} {sl16 : Array (Option Value)} {oc16 kV16 dc16 pm16 ct16 cd16 : Value}
    {f17 : Addr} {od17 an17 : Option Addr} {sl17 : Array (Option Value)} {oc17 kV17 dc17 pm17 ct17 cd17 : Value}
    {f18 : Addr} {od18 an18 : Option Addr} {sl18 : Array (Option Value)} {oc18 kV18 dc18 pm18 ct18 cd18 : Value}
    {f19 : Addr} {od19 an19 : Option Addr} {sl19 : Array (Option Value)} {oc19 kV19 dc19 pm19 ct19 cd19 : Value}
    {f20 : Addr} {od20 an20 : Option Addr} {sl20 : Array (Option Value)} {oc20 kV20 dc20 pm20 ct20 cd20 : Value}
    {f21 : Addr} {od21 an21 : Option Addr} {sl21 : Array (Option Value)} {oc21 kV21 dc21 pm21 ct21 cd21 : Value}
    {f22 : Addr} {od22 an22 : Option Addr} {sl22 : Array (Option Value)} {oc22 kV22 dc22 pm22 ct22 cd22 : Value}
    {f23 : Addr} {od23 an23 : Option Addr} {sl23 : Array (Option Value)} {oc23 kV23 dc23 pm23 ct23 cd23 : Value}
    {f24 : Addr} {od24 an24 : Option Addr} {sl24 : Array (Option Value)} {oc24 kV24 dc24 pm24 ct24 cd24 : Value}
    {f25 : Addr} {od25 an25 : Option Addr} {sl25 : Array (Option Value)} {oc25 kV25 dc25 pm25 ct25 cd25 : Value}
    {f26 : Addr} {od26 an26 : Option Addr} {sl26 : Array (Option Value)} {oc26 kV26 dc26 pm26 ct26 cd26 : Value}
    {f27 : Addr} {od27 an27 : Option Addr} {sl27 : Array (Option Value)} {oc27 kV27 dc27 pm27 ct27 cd27 : Value}
    {f28 : Addr} {od28 an28 : Option Addr} {sl28 : Array (Option Value)} {oc28 kV28 dc28 pm28 ct28 cd28 : Value}
    {f29 : Addr} {od29 an29 : Option Addr} {sl29 : Array (Option Value)} {oc29 kV29 dc29 pm29 ct29 cd29 : Value}
    {f30 : Addr} {od30 an30 : Option Addr} {sl30 : Array (Option Value)} {oc30 kV30 dc30 pm30 ct30 cd30 : Value}
    {f31 : Addr} {od31 an31 : Option Addr} {sl31 : Array (Option Value)} {oc31 kV31 dc31 pm31 ct31 cd31 : Value}
    {f32 : Addr} {od32 an32 : Option Addr} {sl32 : Array (Option Value)} {oc32 kV32 dc32 pm32 ct32 cd32 : Value}
    {f33 : Addr} {od33 an33 : Option Addr} {sl33 : Array (Option Value)} {oc33 kV33 dc33 pm33 ct33 cd33 : Value}
    {f34 c Pt : Addr} {od34 an34 : Option Addr} {sl34 : Array (Option Value)} {oc34 kV34 dc34 pm34 ct34 cd34 : Value}
    {C_FarError f_FarError : Addr} {fdF : FuncData}
    {C_BadMove f_BadMove : Addr} {od_BadMove an_BadMove : Option Addr} {sl_BadMove : Array (Option Value)} {oc_BadMove kV_BadMove dc_BadMove pm_BadMove cd_BadMove ct_BadMove : Value}
    {C_Front : Addr}
    {fm___init__ : Addr} {odm___init__ anm___init__ : Option Addr} {slm___init__ : Array (Option Value)} {ocm___init__ kVm___init__ dcm___init__ pmm___init__ ctm___init__ cdm___init__ : Value}
    {fm_make : Addr} {odm_make anm_make : Option Addr} {slm_make : Array (Option Value)} {ocm_make kVm_make dcm_make pmm_make ctm_make cdm_make : Value}
    {fm_made : Addr} {odm_made anm_made : Option Addr} {slm_made : Array (Option Value)} {ocm_made kVm_made dcm_made pmm_made ctm_made cdm_made : Value}
    {fm_idle : Addr} {odm_idle anm_idle : Option Addr} {slm_idle : Array (Option Value)} {ocm_idle kVm_idle dcm_idle pmm_idle ctm_idle cdm_idle : Value}
    {fm_halve : Addr} {odm_halve anm_halve : Option Addr} {slm_halve : Array (Option Value)} {ocm_halve kVm_halve dcm_halve pmm_halve ctm_halve cdm_halve : Value}
    {fm_merge : Addr} {odm_merge anm_merge : Option Addr} {slm_merge : Array (Option Value)} {ocm_merge kVm_merge dcm_merge pmm_merge ctm_merge cdm_merge : Value}
    {fm_lead : Addr} {odm_lead anm_lead : Option Addr} {slm_lead : Array (Option Value)} {ocm_lead kVm_lead dcm_lead pmm_lead ctm_lead cdm_lead : Value}
    {fm_fold : Addr} {odm_fold anm_fold : Option Addr} {slm_fold : Array (Option Value)} {ocm_fold kVm_fold dcm_fold pmm_fold ctm_fold cdm_fold : Value}
    {fm_bare : Addr} {odm_bare anm_bare : Option Addr} {slm_bare : Array (Option Value)} {ocm_bare kVm_bare dcm_bare pmm_bare ctm_bare cdm_bare : Value}
    {fm_put : Addr} {odm_put anm_put : Option Addr} {slm_put : Array (Option Value)} {ocm_put kVm_put dcm_put pmm_put ctm_put cdm_put : Value}
    {fm_leader : Addr} {odm_leader anm_leader : Option Addr} {slm_leader : Array (Option Value)} {ocm_leader kVm_leader dcm_leader pmm_leader ctm_leader cdm_leader : Value}
    {fm_reach : Addr} {odm_reach anm_reach : Option Addr} {slm_reach : Array (Option Value)} {ocm_reach kVm_reach dcm_reach pmm_reach ctm_reach cdm_reach : Value}
    {fm_top : Addr} {odm_top anm_top : Option Addr} {slm_top : Array (Option Value)} {ocm_top kVm_top dcm_top pmm_top ctm_top cdm_top : Value}
    {fm_led_on : Addr} {odm_led_on anm_led_on : Option Addr} {slm_led_on : Array (Option Value)} {ocm_led_on kVm_led_on dcm_led_on pmm_led_on ctm_led_on cdm_led_on : Value}
    {C_Folder : Addr}
    {fm_Fo___init__ : Addr} {odm_Fo___init__ anm_Fo___init__ : Option Addr} {slm_Fo___init__ : Array (Option Value)} {ocm_Fo___init__ kVm_Fo___init__ dcm_Fo___init__ pmm_Fo___init__ ctm_Fo___init__ cdm_Fo___init__ : Value}
    {fm_Fo_make : Addr} {odm_Fo_make anm_Fo_make : Option Addr} {slm_Fo_make : Array (Option Value)} {ocm_Fo_make kVm_Fo_make dcm_Fo_make pmm_Fo_make ctm_Fo_make cdm_Fo_make : Value}
    {fm_Fo_go_on : Addr} {odm_Fo_go_on anm_Fo_go_on : Option Addr} {slm_Fo_go_on : Array (Option Value)} {ocm_Fo_go_on kVm_Fo_go_on dcm_Fo_go_on pmm_Fo_go_on ctm_Fo_go_on cdm_Fo_go_on : Value}
    {fm_Fo_widest : Addr} {odm_Fo_widest anm_Fo_widest : Option Addr} {slm_Fo_widest : Array (Option Value)} {ocm_Fo_widest kVm_Fo_widest dcm_Fo_widest pmm_Fo_widest ctm_Fo_widest : Value}
    {fm_Fo_lead_off : Addr} {odm_Fo_lead_off anm_Fo_lead_off : Option Addr} {slm_Fo_lead_off : Array (Option Value)} {ocm_Fo_lead_off kVm_Fo_lead_off dcm_Fo_lead_off pmm_Fo_lead_off ctm_Fo_lead_off cdm_Fo_lead_off : Value}
    {fm_Fo_tidy : Addr} {odm_Fo_tidy anm_Fo_tidy : Option Addr} {slm_Fo_tidy : Array (Option Value)} {ocm_Fo_tidy kVm_Fo_tidy dcm_Fo_tidy pmm_Fo_tidy ctm_Fo_tidy cdm_Fo_tidy : Value}
    {fm_Fo_tidy_move : Addr} {odm_Fo_tidy_move anm_Fo_tidy_move : Option Addr} {slm_Fo_tidy_move : Array (Option Value)} {ocm_Fo_tidy_move kVm_Fo_tidy_move dcm_Fo_tidy_move pmm_Fo_tidy_move ctm_Fo_tidy_move cdm_Fo_tidy_move : Value}
    {C_Shares : Addr}
    {fm_Sh___init__ : Addr} {odm_Sh___init__ anm_Sh___init__ : Option Addr} {slm_Sh___init__ : Array (Option Value)} {ocm_Sh___init__ kVm_Sh___init__ dcm_Sh___init__ pmm_Sh___init__ ctm_Sh___init__ cdm_Sh___init__ : Value}
    {fm_Sh_lay : Addr} {odm_Sh_lay anm_Sh_lay : Option Addr} {slm_Sh_lay : Array (Option Value)} {ocm_Sh_lay kVm_Sh_lay dcm_Sh_lay pmm_Sh_lay ctm_Sh_lay cdm_Sh_lay : Value}
    {fm_Sh_change : Addr} {odm_Sh_change anm_Sh_change : Option Addr} {slm_Sh_change : Array (Option Value)} {ocm_Sh_change kVm_Sh_change dcm_Sh_change pmm_Sh_change ctm_Sh_change cdm_Sh_change : Value}
    {fm_Sh_cut_off : Addr} {odm_Sh_cut_off anm_Sh_cut_off : Option Addr} {slm_Sh_cut_off : Array (Option Value)} {ocm_Sh_cut_off kVm_Sh_cut_off dcm_Sh_cut_off pmm_Sh_cut_off ctm_Sh_cut_off cdm_Sh_cut_off : Value}
    {C_Folding : Addr}
    {fm_Fg_least : Addr} {odm_Fg_least anm_Fg_least : Option Addr} {slm_Fg_least : Array (Option Value)} {ocm_Fg_least kVm_Fg_least dcm_Fg_least pmm_Fg_least ctm_Fg_least cdm_Fg_least : Value}
    {fm_Fg_trail : Addr} {odm_Fg_trail anm_Fg_trail : Option Addr} {slm_Fg_trail : Array (Option Value)} {ocm_Fg_trail kVm_Fg_trail dcm_Fg_trail pmm_Fg_trail ctm_Fg_trail cdm_Fg_trail : Value}
    {fm_Fg_count : Addr} {odm_Fg_count anm_Fg_count : Option Addr} {slm_Fg_count : Array (Option Value)} {ocm_Fg_count kVm_Fg_count dcm_Fg_count pmm_Fg_count ctm_Fg_count cdm_Fg_count : Value}
    {fm_Fg___init__ : Addr} {fdm_Fg___init__ : FuncData}
    {tk_FAR : Tok}
    {tk_MOST : Tok}
    (X : K.In h) (G : h.Ns mainGlobals mg) (hfa : mg "law" = some (.ref fa)) (hT : h.get? Pt = some (PySem.W.tabObj #[]))
    (a0 : PySem.W.nsIn K mainGlobals "_law_open" = some (some (.ref f0))) (l0 : K.lookup f0 = some ⟨oc0, od0, .func (PySem.W.fnOf "_law_open" "_law_open" (defArgs s_open) (defBody s_open) (defScope s_open) .none kV0 dc0 pm0 an0 cd0 ct0), sl0⟩) (c0 : PySem.W.codeIn K cd0 "_law_open" = true) (k0 : PySem.W.keepIn K (.ref f0) = true)
    (a1 : PySem.W.nsIn K mainGlobals "_law_pull" = some (some (.ref f1))) (l1 : K.lookup f1 = some ⟨oc1, od1, .func (PySem.W.fnOf "_law_pull" "_law_pull" (defArgs s_pull) (defBody s_pull) (defScope s_pull) .none kV1 dc1 pm1 an1 cd1 ct1), sl1⟩) (c1 : PySem.W.codeIn K cd1 "_law_pull" = true) (k1 : PySem.W.keepIn K (.ref f1) = true)
    (a2 : PySem.W.nsIn K mainGlobals "_law_like" = some (some (.ref f2))) (l2 : K.lookup f2 = some ⟨oc2, od2, .func (PySem.W.fnOf "_law_like" "_law_like" (defArgs s_like) (defBody s_like) (defScope s_like) .none kV2 dc2 pm2 an2 cd2 ct2), sl2⟩) (c2 : PySem.W.codeIn K cd2 "_law_like" = true) (k2 : PySem.W.keepIn K (.ref f2) = true)
    (a3 : PySem.W.nsIn K mainGlobals "_law_any" = some (some (.ref f3))) (l3 : K.lookup f3 = some ⟨oc3, od3, .func (PySem.W.fnOf "_law_any" "_law_any" (defArgs s_any) (defBody s_any) (defScope s_any) .none kV3 dc3 pm3 an3 cd3 ct3), sl3⟩) (c3 : PySem.W.codeIn K cd3 "_law_any" = true) (k3 : PySem.W.keepIn K (.ref f3) = true)
    (a4 : PySem.W.nsIn K mainGlobals "mirror" = some (some (.ref f4))) (l4 : K.lookup f4 = some ⟨oc4, od4, .func (PySem.W.fnOf "mirror" "mirror" (defArgs s_mirror) (defBody s_mirror) (defScope s_mirror) .none kV4 dc4 pm4 an4 cd4 ct4), sl4⟩) (c4 : PySem.W.codeIn K cd4 "mirror" = true) (k4 : PySem.W.keepIn K (.ref f4) = true)
    (a5 : PySem.W.nsIn K mainGlobals "need_from" = some (some (.ref f5))) (l5 : K.lookup f5 = some ⟨oc5, od5, .func (PySem.W.fnOf "need_from" "need_from" (defArgs s_need_from) (defBody s_need_from) (defScope s_need_from) .none kV5 dc5 pm5 an5 cd5 ct5), sl5⟩) (c5 : PySem.W.codeIn K cd5 "need_from" = true) (k5 : PySem.W.keepIn K (.ref f5) = true)
    (a6 : PySem.W.nsIn K mainGlobals "need_within" = some (some (.ref f6))) (l6 : K.lookup f6 = some ⟨oc6, od6, .func (PySem.W.fnOf "need_within" "need_within" (defArgs s_need_within) (defBody s_need_within) (defScope s_need_within) .none kV6 dc6 pm6 an6 cd6 ct6), sl6⟩) (c6 : PySem.W.codeIn K cd6 "need_within" = true) (k6 : PySem.W.keepIn K (.ref f6) = true)
    (a7 : PySem.W.nsIn K mainGlobals "need_length" = some (some (.ref f7))) (l7 : K.lookup f7 = some ⟨oc7, od7, .func (PySem.W.fnOf "need_length" "need_length" (defArgs s_need_length) (defBody s_need_length) (defScope s_need_length) .none kV7 dc7 pm7 an7 cd7 ct7), sl7⟩) (c7 : PySem.W.codeIn K cd7 "need_length" = true) (k7 : PySem.W.keepIn K (.ref f7) = true)
    (a8 : PySem.W.nsIn K mainGlobals "need_mating" = some (some (.ref f8))) (l8 : K.lookup f8 = some ⟨oc8, od8, .func (PySem.W.fnOf "need_mating" "need_mating" (defArgs s_need_mating) (defBody s_need_mating) (defScope s_need_mating) .none kV8 dc8 pm8 an8 cd8 ct8), sl8⟩) (c8 : PySem.W.codeIn K cd8 "need_mating" = true) (k8 : PySem.W.keepIn K (.ref f8) = true)
    (a9 : PySem.W.nsIn K mainGlobals "need_road" = some (some (.ref f9))) (l9 : K.lookup f9 = some ⟨oc9, od9, .func (PySem.W.fnOf "need_road" "need_road" (defArgs s_need_road) (defBody s_need_road) (defScope s_need_road) .none kV9 dc9 pm9 an9 cd9 ct9), sl9⟩) (c9 : PySem.W.codeIn K cd9 "need_road" = true) (k9 : PySem.W.keepIn K (.ref f9) = true)
    (a10 : PySem.W.nsIn K mainGlobals "is_mating" = some (some (.ref f10))) (l10 : K.lookup f10 = some ⟨oc10, od10, .func (PySem.W.fnOf "is_mating" "is_mating" (defArgs s_is_mating) (defBody s_is_mating) (defScope s_is_mating) .none kV10 dc10 pm10 an10 cd10 ct10), sl10⟩) (c10 : PySem.W.codeIn K cd10 "is_mating" = true) (k10 : PySem.W.keepIn K (.ref f10) = true)
    (a11 : PySem.W.nsIn K mainGlobals "need_place" = some (some (.ref f11))) (l11 : K.lookup f11 = some ⟨oc11, od11, .func (PySem.W.fnOf "need_place" "need_place" (defArgs s_need_place) (defBody s_need_place) (defScope s_need_place) .none kV11 dc11 pm11 an11 cd11 ct11), sl11⟩) (c11 : PySem.W.codeIn K cd11 "need_place" = true) (k11 : PySem.W.keepIn K (.ref f11) = true)
    (a12 : PySem.W.nsIn K mainGlobals "normal" = some (some (.ref f12))) (l12 : K.lookup f12 = some ⟨oc12, od12, .func (PySem.W.fnOf "normal" "normal" (defArgs s_normal) (defBody s_normal) (defScope s_normal) .none kV12 dc12 pm12 an12 cd12 ct12), sl12⟩) (c12 : PySem.W.codeIn K cd12 "normal" = true) (k12 : PySem.W.keepIn K (.ref f12) = true)
    (a13 : PySem.W.nsIn K mainGlobals "back" = some (some (.ref f13))) (l13 : K.lookup f13 = some ⟨oc13, od13, .func (PySem.W.fnOf "back" "back" (defArgs s_back) (defBody s_back) (defScope s_back) .none kV13 dc13 pm13 an13 cd13 ct13), sl13⟩) (c13 : PySem.W.codeIn K cd13 "back" = true) (k13 : PySem.W.keepIn K (.ref f13) = true)
    (a14 : PySem.W.nsIn K mainGlobals "halved" = some (some (.ref f14))) (l14 : K.lookup f14 = some ⟨oc14, od14, .func (PySem.W.fnOf "halved" "halved" (defArgs s_halved) (defBody s_halved) (defScope s_halved) .none kV14 dc14 pm14 an14 cd14 ct14), sl14⟩) (c14 : PySem.W.codeIn K cd14 "halved" = true) (k14 : PySem.W.keepIn K (.ref f14) = true)
    (a15 : PySem.W.nsIn K mainGlobals "is_leader" = some (some (.ref f15))) (l15 : K.lookup f15 = some ⟨oc15, od15, .func (PySem.W.fnOf "is_leader" "is_leader" (defArgs s_is_leader) (defBody s_is_leader) (defScope s_is_leader) .none kV15 dc15 pm15 an15 cd15 ct15), sl15⟩) (c15 : PySem.W.codeIn K cd15 "is_leader" = true) (k15 : PySem.W.keepIn K (.ref f15) = true)
    (a16 : PySem.W.nsIn K mainGlobals "step_of" = some (some (.ref f16))) (l16 : K.lookup f16 = some ⟨oc16, od16, .func (PySem.W.fnOf "step_of" "step_of" (defArgs s_step_of) (defBody s_step_of) (defScope s_step_of) .none kV16 dc16 pm16 an16 cd16 ct16), sl16⟩) (c16 : PySem.W.codeIn K cd16 "step_of" = true) (k16 : PySem.W.keepIn K (.ref f16) = true)
    (a17 : PySem.W.nsIn K mainGlobals "end_of" = some (some (.ref f17))) (l17 : K.lookup f17 = some ⟨oc17, od17, .func (PySem.W.fnOf "end_of" "end_of" (defArgs s_end_of) (defBody s_end_of) (defScope s_end_of) .none kV17 dc17 pm17 an17 cd17 ct17), sl17⟩) (c17 : PySem.W.codeIn K cd17 "end_of" = true) (k17 : PySem.W.keepIn K (.ref f17) = true)
    (a18 : PySem.W.nsIn K mainGlobals "is_repeat" = some (some (.ref f18))) (l18 : K.lookup f18 = some ⟨oc18, od18, .func (PySem.W.fnOf "is_repeat" "is_repeat" (defArgs s_is_repeat) (defBody s_is_repeat) (defScope s_is_repeat) .none kV18 dc18 pm18 an18 cd18 ct18), sl18⟩) (c18 : PySem.W.codeIn K cd18 "is_repeat" = true) (k18 : PySem.W.keepIn K (.ref f18) = true)
    (a19 : PySem.W.nsIn K mainGlobals "common" = some (some (.ref f19))) (l19 : K.lookup f19 = some ⟨oc19, od19, .func (PySem.W.fnOf "common" "common" (defArgs s_common) (defBody s_common) (defScope s_common) .none kV19 dc19 pm19 an19 cd19 ct19), sl19⟩) (c19 : PySem.W.codeIn K cd19 "common" = true) (k19 : PySem.W.keepIn K (.ref f19) = true)
    (a20 : PySem.W.nsIn K mainGlobals "merged" = some (some (.ref f20))) (l20 : K.lookup f20 = some ⟨oc20, od20, .func (PySem.W.fnOf "merged" "merged" (defArgs s_merged) (defBody s_merged) (defScope s_merged) .none kV20 dc20 pm20 an20 cd20 ct20), sl20⟩) (c20 : PySem.W.codeIn K cd20 "merged" = true) (k20 : PySem.W.keepIn K (.ref f20) = true)
    (a21 : PySem.W.nsIn K mainGlobals "holds" = some (some (.ref f21))) (l21 : K.lookup f21 = some ⟨oc21, od21, .func (PySem.W.fnOf "holds" "holds" (defArgs s_holds) (defBody s_holds) (defScope s_holds) .none kV21 dc21 pm21 an21 cd21 ct21), sl21⟩) (c21 : PySem.W.codeIn K cd21 "holds" = true) (k21 : PySem.W.keepIn K (.ref f21) = true)
    (a22 : PySem.W.nsIn K mainGlobals "part" = some (some (.ref f22))) (l22 : K.lookup f22 = some ⟨oc22, od22, .func (PySem.W.fnOf "part" "part" (defArgs s_part) (defBody s_part) (defScope s_part) .none kV22 dc22 pm22 an22 cd22 ct22), sl22⟩) (c22 : PySem.W.codeIn K cd22 "part" = true) (k22 : PySem.W.keepIn K (.ref f22) = true)
    (a23 : PySem.W.nsIn K mainGlobals "led_back" = some (some (.ref f23))) (l23 : K.lookup f23 = some ⟨oc23, od23, .func (PySem.W.fnOf "led_back" "led_back" (defArgs s_led_back) (defBody s_led_back) (defScope s_led_back) .none kV23 dc23 pm23 an23 cd23 ct23), sl23⟩) (c23 : PySem.W.codeIn K cd23 "led_back" = true) (k23 : PySem.W.keepIn K (.ref f23) = true)
    (a24 : PySem.W.nsIn K mainGlobals "clipped" = some (some (.ref f24))) (l24 : K.lookup f24 = some ⟨oc24, od24, .func (PySem.W.fnOf "clipped" "clipped" (defArgs s_clipped) (defBody s_clipped) (defScope s_clipped) .none kV24 dc24 pm24 an24 cd24 ct24), sl24⟩) (c24 : PySem.W.codeIn K cd24 "clipped" = true) (k24 : PySem.W.keepIn K (.ref f24) = true)
    (a25 : PySem.W.nsIn K mainGlobals "fault_of" = some (some (.ref f25))) (l25 : K.lookup f25 = some ⟨oc25, od25, .func (PySem.W.fnOf "fault_of" "fault_of" (defArgs s_fault_of) (defBody s_fault_of) (defScope s_fault_of) .none kV25 dc25 pm25 an25 cd25 ct25), sl25⟩) (c25 : PySem.W.codeIn K cd25 "fault_of" = true) (k25 : PySem.W.keepIn K (.ref f25) = true)
    (a26 : PySem.W.nsIn K mainGlobals "fold_down" = some (some (.ref f26))) (l26 : K.lookup f26 = some ⟨oc26, od26, .func (PySem.W.fnOf "fold_down" "fold_down" (defArgs s_fold_down) (defBody s_fold_down) (defScope s_fold_down) .none kV26 dc26 pm26 an26 cd26 ct26), sl26⟩) (c26 : PySem.W.codeIn K cd26 "fold_down" = true) (k26 : PySem.W.keepIn K (.ref f26) = true)
    (a27 : PySem.W.nsIn K mainGlobals "led_by" = some (some (.ref f27))) (l27 : K.lookup f27 = some ⟨oc27, od27, .func (PySem.W.fnOf "led_by" "led_by" (defArgs s_led_by) (defBody s_led_by) (defScope s_led_by) .none kV27 dc27 pm27 an27 cd27 ct27), sl27⟩) (c27 : PySem.W.codeIn K cd27 "led_by" = true) (k27 : PySem.W.keepIn K (.ref f27) = true)
    (a28 : PySem.W.nsIn K mainGlobals "wound" = some (some (.ref f28))) (l28 : K.lookup f28 = some ⟨oc28, od28, .func (PySem.W.fnOf "wound" "wound" (defArgs s_wound) (defBody s_wound) (defScope s_wound) .none kV28 dc28 pm28 an28 cd28 ct28), sl28⟩) (c28 : PySem.W.codeIn K cd28 "wound" = true) (k28 : PySem.W.keepIn K (.ref f28) = true)
    (a29 : PySem.W.nsIn K mainGlobals "led_pieces" = some (some (.ref f29))) (l29 : K.lookup f29 = some ⟨oc29, od29, .func (PySem.W.fnOf "led_pieces" "led_pieces" (defArgs s_led_pieces) (defBody s_led_pieces) (defScope s_led_pieces) .none kV29 dc29 pm29 an29 cd29 ct29), sl29⟩) (c29 : PySem.W.codeIn K cd29 "led_pieces" = true) (k29 : PySem.W.keepIn K (.ref f29) = true)
    (a30 : PySem.W.nsIn K mainGlobals "settled" = some (some (.ref f30))) (l30 : K.lookup f30 = some ⟨oc30, od30, .func (PySem.W.fnOf "settled" "settled" (defArgs s_settled) (defBody s_settled) (defScope s_settled) .none kV30 dc30 pm30 an30 cd30 ct30), sl30⟩) (c30 : PySem.W.codeIn K cd30 "settled" = true) (k30 : PySem.W.keepIn K (.ref f30) = true)
    (a31 : PySem.W.nsIn K mainGlobals "last_up_to" = some (some (.ref f31))) (l31 : K.lookup f31 = some ⟨oc31, od31, .func (PySem.W.fnOf "last_up_to" "last_up_to" (defArgs s_last_up_to) (defBody s_last_up_to) (defScope s_last_up_to) .none kV31 dc31 pm31 an31 cd31 ct31), sl31⟩) (c31 : PySem.W.codeIn K cd31 "last_up_to" = true) (k31 : PySem.W.keepIn K (.ref f31) = true)
    (a32 : PySem.W.nsIn K mainGlobals "joined" = some (some (.ref f32))) (l32 : K.lookup f32 = some ⟨oc32, od32, .func (PySem.W.fnOf "joined" "joined" (defArgs s_joined) (defBody s_joined) (defScope s_joined) .none kV32 dc32 pm32 an32 cd32 ct32), sl32⟩) (c32 : PySem.W.codeIn K cd32 "joined" = true) (k32 : PySem.W.keepIn K (.ref f32) = true)
    (a33 : PySem.W.nsIn K mainGlobals "first_ranks" = some (some (.ref f33))) (l33 : K.lookup f33 = some ⟨oc33, od33, .func (PySem.W.fnOf "first_ranks" "first_ranks" (defArgs s_first_ranks) (defBody s_first_ranks) (defScope s_first_ranks) .none kV33 dc33 pm33 an33 cd33 ct33), sl33⟩) (c33 : PySem.W.codeIn K cd33 "first_ranks" = true) (k33 : PySem.W.keepIn K (.ref f33) = true)
    (a34 : PySem.W.nsIn K mainGlobals "law" = some (some (.ref f34))) (l34 : K.lookup f34 = some ⟨oc34, od34, .func (PySem.W.fnOf "law" "law" (defArgs s_law) (defBody s_law) (defScope s_law) .none kV34 dc34 pm34 an34 cd34 ct34), sl34⟩) (c34 : PySem.W.codeIn K cd34 "law" = true) (k34 : PySem.W.keepIn K (.ref f34) = true)
    (z0 : PySem.W.nsIn K mainGlobals "len" = some none) (z1 : PySem.W.nsIn K mainGlobals "list" = some none) (z2 : PySem.W.nsIn K mainGlobals "tuple" = some none) (z3 : PySem.W.nsIn K mainGlobals "bool" = some none)
    (z4 : PySem.W.nsIn K mainGlobals "int" = some none) (z5 : PySem.W.nsIn K mainGlobals "str" = some none) (z6 : PySem.W.nsIn K mainGlobals "isinstance" = some none) (z7 : PySem.W.nsIn K mainGlobals "all" = some none)
    (z8 : PySem.W.nsIn K mainGlobals "any" = some none) (z9 : PySem.W.nsIn K mainGlobals "range" = some none) (z10 : PySem.W.nsIn K mainGlobals "max" = some none) (z11 : PySem.W.nsIn K mainGlobals "min" = some none)
    (z12 : PySem.W.nsIn K mainGlobals "dict" = some none) (z13 : PySem.W.nsIn K mainGlobals "sorted" = some none) (zV : PySem.W.nsIn K mainGlobals "ValueError" = some none) (hP : PySem.W.codeHdIn K c Pt = true)
    (nP : K.lookup Pt = none) (gF : PySem.W.nsIn K mainGlobals "FarError" = some (some (.ref C_FarError))) (TF : ClsFn K C_FarError "__init__" f_FarError) (FF : FunD K "__init__" "FarError.__init__" (defArgs s_farinit) (defBody s_farinit) (defScope s_farinit) [.str ""] [] f_FarError fdF)
    (fF8 : PySem.W.findCls K (.type "ValueError") (.type "type") "__init__" = some (.val (.builtin "ValueError.__init__"))) (g_BadMove : PySem.W.nsIn K mainGlobals "BadMove" = some (some (.ref C_BadMove))) (E_BadMove : ErrT K C_BadMove) (XF_BadMove : XfC K C_BadMove)
    (EC_BadMove : ExcC K C_BadMove) (M_BadMove : PySem.W.exmOne K (.ref C_BadMove) (.ref C_FarError) = some true) (n_BadMove_move : PySem.W.findIn K (.ref C_BadMove) "move" = some none) (i_BadMove : PySem.W.findIn K (.ref C_BadMove) "__init__" = some (some (.ref f_BadMove)))
    (t_BadMove : PySem.W.typeIn K (.ref f_BadMove) = some (.type "function")) (l_BadMove : K.lookup f_BadMove = some ⟨oc_BadMove, od_BadMove, .func (PySem.W.fnOf "__init__" "BadMove.__init__" (defArgs s_bminit) (defBody s_bminit) (defScope s_bminit) .none kV_BadMove dc_BadMove pm_BadMove an_BadMove cd_BadMove ct_BadMove), sl_BadMove⟩) (c_BadMove : PySem.W.codeIn K cd_BadMove "BadMove.__init__" = true) (k_BadMove : PySem.W.keepIn K (.ref f_BadMove) = true)
    (zf_enumerate : PySem.W.nsIn K mainGlobals "enumerate" = some none) (zf_divmod : PySem.W.nsIn K mainGlobals "divmod" = some none) (zf_reversed : PySem.W.nsIn K mainGlobals "reversed" = some none) (zf_sum : PySem.W.nsIn K mainGlobals "sum" = some none)
    (g_Front : PySem.W.nsIn K mainGlobals "Front" = some (some (.ref C_Front))) (cl_Front : Cls K C_Front) (mk_Front : PySem.W.makesIn K C_Front = true) (kc_Front : PySem.W.keepIn K (.ref C_Front) = true)
    (na_edge : PySem.W.findIn K (.ref C_Front) "edge" = some none) (na_standing : PySem.W.findIn K (.ref C_Front) "standing" = some none) (na_past : PySem.W.findIn K (.ref C_Front) "past" = some none) (ma___init__ : PySem.W.findIn K (.ref C_Front) "__init__" = some (some (.ref fm___init__)))
    (mi___init__ : PySem.W.isFn K (.ref fm___init__) = true) (ml___init__ : K.lookup fm___init__ = some ⟨ocm___init__, odm___init__, .func (PySem.W.fnOf "__init__" "Front.__init__" (defArgs s_Finit) (defBody s_Finit) (defScope s_Finit) .none kVm___init__ dcm___init__ pmm___init__ anm___init__ cdm___init__ ctm___init__), slm___init__⟩) (mc___init__ : PySem.W.codeIn K cdm___init__ "Front.__init__" = true) (mp___init__ : PySem.W.keepIn K (.ref fm___init__) = true)
    (ma_make : PySem.W.findIn K (.ref C_Front) "make" = some (some (.ref fm_make))) (mi_make : PySem.W.isFn K (.ref fm_make) = true) (ml_make : K.lookup fm_make = some ⟨ocm_make, odm_make, .func (PySem.W.fnOf "make" "Front.make" (defArgs s_Fmake) (defBody s_Fmake) (defScope s_Fmake) .none kVm_make dcm_make pmm_make anm_make cdm_make ctm_make), slm_make⟩) (mc_make : PySem.W.codeIn K cdm_make "Front.make" = true)
    (mp_make : PySem.W.keepIn K (.ref fm_make) = true) (ma_made : PySem.W.findIn K (.ref C_Front) "made" = some (some (.ref fm_made))) (mi_made : PySem.W.isFn K (.ref fm_made) = true) (ml_made : K.lookup fm_made = some ⟨ocm_made, odm_made, .func (PySem.W.fnOf "made" "Front.made" (defArgs s_Fmade) (defBody s_Fmade) (defScope s_Fmade) .none kVm_made dcm_made pmm_made anm_made cdm_made ctm_made), slm_made⟩)
    (mc_made : PySem.W.codeIn K cdm_made "Front.made" = true) (mp_made : PySem.W.keepIn K (.ref fm_made) = true) (ma_idle : PySem.W.findIn K (.ref C_Front) "idle" = some (some (.ref fm_idle))) (mi_idle : PySem.W.isFn K (.ref fm_idle) = true)
    (ml_idle : K.lookup fm_idle = some ⟨ocm_idle, odm_idle, .func (PySem.W.fnOf "idle" "Front.idle" (defArgs s_Fidle) (defBody s_Fidle) (defScope s_Fidle) .none kVm_idle dcm_idle pmm_idle anm_idle cdm_idle ctm_idle), slm_idle⟩) (mc_idle : PySem.W.codeIn K cdm_idle "Front.idle" = true) (mp_idle : PySem.W.keepIn K (.ref fm_idle) = true) (ma_halve : PySem.W.findIn K (.ref C_Front) "halve" = some (some (.ref fm_halve)))
    (mi_halve : PySem.W.isFn K (.ref fm_halve) = true) (ml_halve : K.lookup fm_halve = some ⟨ocm_halve, odm_halve, .func (PySem.W.fnOf "halve" "Front.halve" (defArgs s_Fhalve) (defBody s_Fhalve) (defScope s_Fhalve) .none kVm_halve dcm_halve pmm_halve anm_halve cdm_halve ctm_halve), slm_halve⟩) (mc_halve : PySem.W.codeIn K cdm_halve "Front.halve" = true) (mp_halve : PySem.W.keepIn K (.ref fm_halve) = true)
    (ma_merge : PySem.W.findIn K (.ref C_Front) "merge" = some (some (.ref fm_merge))) (mi_merge : PySem.W.isFn K (.ref fm_merge) = true) (ml_merge : K.lookup fm_merge = some ⟨ocm_merge, odm_merge, .func (PySem.W.fnOf "merge" "Front.merge" (defArgs s_Fmerge) (defBody s_Fmerge) (defScope s_Fmerge) .none kVm_merge dcm_merge pmm_merge anm_merge cdm_merge ctm_merge), slm_merge⟩) (mc_merge : PySem.W.codeIn K cdm_merge "Front.merge" = true)
    (mp_merge : PySem.W.keepIn K (.ref fm_merge) = true) (ma_lead : PySem.W.findIn K (.ref C_Front) "lead" = some (some (.ref fm_lead))) (mi_lead : PySem.W.isFn K (.ref fm_lead) = true) (ml_lead : K.lookup fm_lead = some ⟨ocm_lead, odm_lead, .func (PySem.W.fnOf "lead" "Front.lead" (defArgs s_Flead) (defBody s_Flead) (defScope s_Flead) .none kVm_lead dcm_lead pmm_lead anm_lead cdm_lead ctm_lead), slm_lead⟩)
    (mc_lead : PySem.W.codeIn K cdm_lead "Front.lead" = true) (mp_lead : PySem.W.keepIn K (.ref fm_lead) = true) (ma_fold : PySem.W.findIn K (.ref C_Front) "fold" = some (some (.ref fm_fold))) (mi_fold : PySem.W.isFn K (.ref fm_fold) = true)
    (ml_fold : K.lookup fm_fold = some ⟨ocm_fold, odm_fold, .func (PySem.W.fnOf "fold" "Front.fold" (defArgs s_Ffold) (defBody s_Ffold) (defScope s_Ffold) .none kVm_fold dcm_fold pmm_fold anm_fold cdm_fold ctm_fold), slm_fold⟩) (mc_fold : PySem.W.codeIn K cdm_fold "Front.fold" = true) (mp_fold : PySem.W.keepIn K (.ref fm_fold) = true) (ma_bare : PySem.W.findIn K (.ref C_Front) "bare" = some (some (.ref fm_bare)))
    (mi_bare : PySem.W.isFn K (.ref fm_bare) = true) (ml_bare : K.lookup fm_bare = some ⟨ocm_bare, odm_bare, .func (PySem.W.fnOf "bare" "Front.bare" (defArgs s_Fbare) (defBody s_Fbare) (defScope s_Fbare) .none kVm_bare dcm_bare pmm_bare anm_bare cdm_bare ctm_bare), slm_bare⟩) (mc_bare : PySem.W.codeIn K cdm_bare "Front.bare" = true) (mp_bare : PySem.W.keepIn K (.ref fm_bare) = true)
    (ma_put : PySem.W.findIn K (.ref C_Front) "put" = some (some (.ref fm_put))) (mi_put : PySem.W.isFn K (.ref fm_put) = true) (ml_put : K.lookup fm_put = some ⟨ocm_put, odm_put, .func (PySem.W.fnOf "put" "Front.put" (defArgs s_Fput) (defBody s_Fput) (defScope s_Fput) .none kVm_put dcm_put pmm_put anm_put cdm_put ctm_put), slm_put⟩) (mc_put : PySem.W.codeIn K cdm_put "Front.put" = true)
    (mp_put : PySem.W.keepIn K (.ref fm_put) = true) (ma_leader : PySem.W.findIn K (.ref C_Front) "leader" = some (some (.ref fm_leader))) (mi_leader : PySem.W.isFn K (.ref fm_leader) = true) (ml_leader : K.lookup fm_leader = some ⟨ocm_leader, odm_leader, .func (PySem.W.fnOf "leader" "Front.leader" (defArgs s_Fleader) (defBody s_Fleader) (defScope s_Fleader) .none kVm_leader dcm_leader pmm_leader anm_leader cdm_leader ctm_leader), slm_leader⟩)
    (mc_leader : PySem.W.codeIn K cdm_leader "Front.leader" = true) (mp_leader : PySem.W.keepIn K (.ref fm_leader) = true) (ma_reach : PySem.W.findIn K (.ref C_Front) "reach" = some (some (.ref fm_reach))) (mi_reach : PySem.W.isFn K (.ref fm_reach) = true)
    (ml_reach : K.lookup fm_reach = some ⟨ocm_reach, odm_reach, .func (PySem.W.fnOf "reach" "Front.reach" (defArgs s_Freach) (defBody s_Freach) (defScope s_Freach) .none kVm_reach dcm_reach pmm_reach anm_reach cdm_reach ctm_reach), slm_reach⟩) (mc_reach : PySem.W.codeIn K cdm_reach "Front.reach" = true) (mp_reach : PySem.W.keepIn K (.ref fm_reach) = true) (ma_top : PySem.W.findIn K (.ref C_Front) "top" = some (some (.ref fm_top)))
    (mi_top : PySem.W.isFn K (.ref fm_top) = true) (ml_top : K.lookup fm_top = some ⟨ocm_top, odm_top, .func (PySem.W.fnOf "top" "Front.top" (defArgs s_Ftop) (defBody s_Ftop) (defScope s_Ftop) .none kVm_top dcm_top pmm_top anm_top cdm_top ctm_top), slm_top⟩) (mc_top : PySem.W.codeIn K cdm_top "Front.top" = true) (mp_top : PySem.W.keepIn K (.ref fm_top) = true)
    (ma_led_on : PySem.W.findIn K (.ref C_Front) "led_on" = some (some (.ref fm_led_on))) (mi_led_on : PySem.W.isFn K (.ref fm_led_on) = true) (ml_led_on : K.lookup fm_led_on = some ⟨ocm_led_on, odm_led_on, .func (PySem.W.fnOf "led_on" "Front.led_on" (defArgs s_Fled_on) (defBody s_Fled_on) (defScope s_Fled_on) .none kVm_led_on dcm_led_on pmm_led_on anm_led_on cdm_led_on ctm_led_on), slm_led_on⟩) (mc_led_on : PySem.W.codeIn K cdm_led_on "Front.led_on" = true)
    (mp_led_on : PySem.W.keepIn K (.ref fm_led_on) = true) (g_Folder : PySem.W.nsIn K mainGlobals "Folder" = some (some (.ref C_Folder))) (cl_Folder : Cls K C_Folder) (mk_Folder : PySem.W.makesIn K C_Folder = true)
    (kc_Folder : PySem.W.keepIn K (.ref C_Folder) = true) (na_Fo_front : PySem.W.findIn K (.ref C_Folder) "front" = some none) (na_Fo_row : PySem.W.findIn K (.ref C_Folder) "row" = some none) (ma_Fo___init__ : PySem.W.findIn K (.ref C_Folder) "__init__" = some (some (.ref fm_Fo___init__)))
    (mi_Fo___init__ : PySem.W.isFn K (.ref fm_Fo___init__) = true) (ml_Fo___init__ : K.lookup fm_Fo___init__ = some ⟨ocm_Fo___init__, odm_Fo___init__, .func (PySem.W.fnOf "__init__" "Folder.__init__" (defArgs s_Fo_init) (defBody s_Fo_init) (defScope s_Fo_init) .none kVm_Fo___init__ dcm_Fo___init__ pmm_Fo___init__ anm_Fo___init__ cdm_Fo___init__ ctm_Fo___init__), slm_Fo___init__⟩) (mc_Fo___init__ : PySem.W.codeIn K cdm_Fo___init__ "Folder.__init__" = true) (mp_Fo___init__ : PySem.W.keepIn K (.ref fm_Fo___init__) = true)
    (ma_Fo_make : PySem.W.findIn K (.ref C_Folder) "make" = some (some (.ref fm_Fo_make))) (mi_Fo_make : PySem.W.isFn K (.ref fm_Fo_make) = true) (ml_Fo_make : K.lookup fm_Fo_make = some ⟨ocm_Fo_make, odm_Fo_make, .func (PySem.W.fnOf "make" "Folder.make" (defArgs s_Fo_make) (defBody s_Fo_make) (defScope s_Fo_make) .none kVm_Fo_make dcm_Fo_make pmm_Fo_make anm_Fo_make cdm_Fo_make ctm_Fo_make), slm_Fo_make⟩) (mc_Fo_make : PySem.W.codeIn K cdm_Fo_make "Folder.make" = true)
    (mp_Fo_make : PySem.W.keepIn K (.ref fm_Fo_make) = true) (ma_Fo_go_on : PySem.W.findIn K (.ref C_Folder) "go_on" = some (some (.ref fm_Fo_go_on))) (mi_Fo_go_on : PySem.W.isFn K (.ref fm_Fo_go_on) = true) (ml_Fo_go_on : K.lookup fm_Fo_go_on = some ⟨ocm_Fo_go_on, odm_Fo_go_on, .func (PySem.W.fnOf "go_on" "Folder.go_on" (defArgs s_Fo_go_on) (defBody s_Fo_go_on) (defScope s_Fo_go_on) .none kVm_Fo_go_on dcm_Fo_go_on pmm_Fo_go_on anm_Fo_go_on cdm_Fo_go_on ctm_Fo_go_on), slm_Fo_go_on⟩)
    (mc_Fo_go_on : PySem.W.codeIn K cdm_Fo_go_on "Folder.go_on" = true) (mp_Fo_go_on : PySem.W.keepIn K (.ref fm_Fo_go_on) = true) (ma_Fo_widest : PySem.W.findIn K (.ref C_Folder) "widest" = some (some (.ref fm_Fo_widest))) (mi_Fo_widest : PySem.W.isFn K (.ref fm_Fo_widest) = true)
    (ml_Fo_widest : K.lookup fm_Fo_widest = some ⟨ocm_Fo_widest, odm_Fo_widest, .func (PySem.W.fnOf "widest" "Folder.widest" (defArgs s_Fo_widest) (defBody s_Fo_widest) (defScope s_Fo_widest) .none kVm_Fo_widest dcm_Fo_widest pmm_Fo_widest anm_Fo_widest (.ref c) ctm_Fo_widest), slm_Fo_widest⟩) (mc_Fo_widest : PySem.W.codeIn K (.ref c) "Folder.widest" = true) (mp_Fo_widest : PySem.W.keepIn K (.ref fm_Fo_widest) = true) (ma_Fo_lead_off : PySem.W.findIn K (.ref C_Folder) "lead_off" = some (some (.ref fm_Fo_lead_off)))
    (mi_Fo_lead_off : PySem.W.isFn K (.ref fm_Fo_lead_off) = true) (ml_Fo_lead_off : K.lookup fm_Fo_lead_off = some ⟨ocm_Fo_lead_off, odm_Fo_lead_off, .func (PySem.W.fnOf "lead_off" "Folder.lead_off" (defArgs s_Fo_lead_off) (defBody s_Fo_lead_off) (defScope s_Fo_lead_off) .none kVm_Fo_lead_off dcm_Fo_lead_off pmm_Fo_lead_off anm_Fo_lead_off cdm_Fo_lead_off ctm_Fo_lead_off), slm_Fo_lead_off⟩) (mc_Fo_lead_off : PySem.W.codeIn K cdm_Fo_lead_off "Folder.lead_off" = true) (mp_Fo_lead_off : PySem.W.keepIn K (.ref fm_Fo_lead_off) = true)
    (ma_Fo_tidy : PySem.W.findIn K (.ref C_Folder) "tidy" = some (some (.ref fm_Fo_tidy))) (mi_Fo_tidy : PySem.W.isFn K (.ref fm_Fo_tidy) = true) (ml_Fo_tidy : K.lookup fm_Fo_tidy = some ⟨ocm_Fo_tidy, odm_Fo_tidy, .func (PySem.W.fnOf "tidy" "Folder.tidy" (defArgs s_Fo_tidy) (defBody s_Fo_tidy) (defScope s_Fo_tidy) .none kVm_Fo_tidy dcm_Fo_tidy pmm_Fo_tidy anm_Fo_tidy cdm_Fo_tidy ctm_Fo_tidy), slm_Fo_tidy⟩) (mc_Fo_tidy : PySem.W.codeIn K cdm_Fo_tidy "Folder.tidy" = true)
    (mp_Fo_tidy : PySem.W.keepIn K (.ref fm_Fo_tidy) = true) (ma_Fo_tidy_move : PySem.W.findIn K (.ref C_Folder) "tidy_move" = some (some (.ref fm_Fo_tidy_move))) (mi_Fo_tidy_move : PySem.W.isFn K (.ref fm_Fo_tidy_move) = true) (ml_Fo_tidy_move : K.lookup fm_Fo_tidy_move = some ⟨ocm_Fo_tidy_move, odm_Fo_tidy_move, .func (PySem.W.fnOf "tidy_move" "Folder.tidy_move" (defArgs s_Fo_tidy_move) (defBody s_Fo_tidy_move) (defScope s_Fo_tidy_move) .none kVm_Fo_tidy_move dcm_Fo_tidy_move pmm_Fo_tidy_move anm_Fo_tidy_move cdm_Fo_tidy_move ctm_Fo_tidy_move), slm_Fo_tidy_move⟩)
    (mc_Fo_tidy_move : PySem.W.codeIn K cdm_Fo_tidy_move "Folder.tidy_move" = true) (mp_Fo_tidy_move : PySem.W.keepIn K (.ref fm_Fo_tidy_move) = true) (g_Shares : PySem.W.nsIn K mainGlobals "Shares" = some (some (.ref C_Shares))) (cl_Shares : Cls K C_Shares)
    (mk_Shares : PySem.W.makesIn K C_Shares = true) (kc_Shares : PySem.W.keepIn K (.ref C_Shares) = true) (na_Sh_marks : PySem.W.findIn K (.ref C_Shares) "marks" = some none) (ma_Sh___init__ : PySem.W.findIn K (.ref C_Shares) "__init__" = some (some (.ref fm_Sh___init__)))
    (mi_Sh___init__ : PySem.W.isFn K (.ref fm_Sh___init__) = true) (ml_Sh___init__ : K.lookup fm_Sh___init__ = some ⟨ocm_Sh___init__, odm_Sh___init__, .func (PySem.W.fnOf "__init__" "Shares.__init__" (defArgs s_Sh_init) (defBody s_Sh_init) (defScope s_Sh_init) .none kVm_Sh___init__ dcm_Sh___init__ pmm_Sh___init__ anm_Sh___init__ cdm_Sh___init__ ctm_Sh___init__), slm_Sh___init__⟩) (mc_Sh___init__ : PySem.W.codeIn K cdm_Sh___init__ "Shares.__init__" = true) (mp_Sh___init__ : PySem.W.keepIn K (.ref fm_Sh___init__) = true)
    (ma_Sh_lay : PySem.W.findIn K (.ref C_Shares) "lay" = some (some (.ref fm_Sh_lay))) (mi_Sh_lay : PySem.W.isFn K (.ref fm_Sh_lay) = true) (ml_Sh_lay : K.lookup fm_Sh_lay = some ⟨ocm_Sh_lay, odm_Sh_lay, .func (PySem.W.fnOf "lay" "Shares.lay" (defArgs s_Sh_lay) (defBody s_Sh_lay) (defScope s_Sh_lay) .none kVm_Sh_lay dcm_Sh_lay pmm_Sh_lay anm_Sh_lay cdm_Sh_lay ctm_Sh_lay), slm_Sh_lay⟩) (mc_Sh_lay : PySem.W.codeIn K cdm_Sh_lay "Shares.lay" = true)
    (mp_Sh_lay : PySem.W.keepIn K (.ref fm_Sh_lay) = true) (ma_Sh_change : PySem.W.findIn K (.ref C_Shares) "change" = some (some (.ref fm_Sh_change))) (mi_Sh_change : PySem.W.isFn K (.ref fm_Sh_change) = true) (ml_Sh_change : K.lookup fm_Sh_change = some ⟨ocm_Sh_change, odm_Sh_change, .func (PySem.W.fnOf "change" "Shares.change" (defArgs s_Sh_change) (defBody s_Sh_change) (defScope s_Sh_change) .none kVm_Sh_change dcm_Sh_change pmm_Sh_change anm_Sh_change cdm_Sh_change ctm_Sh_change), slm_Sh_change⟩)
    (mc_Sh_change : PySem.W.codeIn K cdm_Sh_change "Shares.change" = true) (mp_Sh_change : PySem.W.keepIn K (.ref fm_Sh_change) = true) (ma_Sh_cut_off : PySem.W.findIn K (.ref C_Shares) "cut_off" = some (some (.ref fm_Sh_cut_off))) (mi_Sh_cut_off : PySem.W.isFn K (.ref fm_Sh_cut_off) = true)
    (ml_Sh_cut_off : K.lookup fm_Sh_cut_off = some ⟨ocm_Sh_cut_off, odm_Sh_cut_off, .func (PySem.W.fnOf "cut_off" "Shares.cut_off" (defArgs s_Sh_cut_off) (defBody s_Sh_cut_off) (defScope s_Sh_cut_off) .none kVm_Sh_cut_off dcm_Sh_cut_off pmm_Sh_cut_off anm_Sh_cut_off cdm_Sh_cut_off ctm_Sh_cut_off), slm_Sh_cut_off⟩) (mc_Sh_cut_off : PySem.W.codeIn K cdm_Sh_cut_off "Shares.cut_off" = true) (mp_Sh_cut_off : PySem.W.keepIn K (.ref fm_Sh_cut_off) = true) (g_Folding : PySem.W.nsIn K mainGlobals "Folding" = some (some (.ref C_Folding)))
    (cl_Folding : Cls K C_Folding) (mk_Folding : PySem.W.makesIn K C_Folding = true) (kc_Folding : PySem.W.keepIn K (.ref C_Folding) = true) (na_Fg_row : PySem.W.findIn K (.ref C_Folding) "row" = some none)
    (na_Fg_extent : PySem.W.findIn K (.ref C_Folding) "extent" = some none) (na_Fg_events : PySem.W.findIn K (.ref C_Folding) "events" = some none) (na_Fg_makers : PySem.W.findIn K (.ref C_Folding) "makers" = some none) (na_Fg_begins : PySem.W.findIn K (.ref C_Folding) "begins" = some none)
    (na_Fg_pieces : PySem.W.findIn K (.ref C_Folding) "pieces" = some none) (na_Fg_firsts : PySem.W.findIn K (.ref C_Folding) "firsts" = some none) (na_Fg_ranks : PySem.W.findIn K (.ref C_Folding) "ranks" = some none) (ma_Fg_least : PySem.W.findIn K (.ref C_Folding) "least" = some (some (.ref fm_Fg_least)))
    (mi_Fg_least : PySem.W.isFn K (.ref fm_Fg_least) = true) (ml_Fg_least : K.lookup fm_Fg_least = some ⟨ocm_Fg_least, odm_Fg_least, .func (PySem.W.fnOf "least" "Folding.least" (defArgs s_Fg_least) (defBody s_Fg_least) (defScope s_Fg_least) .none kVm_Fg_least dcm_Fg_least pmm_Fg_least anm_Fg_least cdm_Fg_least ctm_Fg_least), slm_Fg_least⟩) (mc_Fg_least : PySem.W.codeIn K cdm_Fg_least "Folding.least" = true) (mp_Fg_least : PySem.W.keepIn K (.ref fm_Fg_least) = true)
    (ma_Fg_trail : PySem.W.findIn K (.ref C_Folding) "trail" = some (some (.ref fm_Fg_trail))) (mi_Fg_trail : PySem.W.isFn K (.ref fm_Fg_trail) = true) (ml_Fg_trail : K.lookup fm_Fg_trail = some ⟨ocm_Fg_trail, odm_Fg_trail, .func (PySem.W.fnOf "trail" "Folding.trail" (defArgs s_Fg_trail) (defBody s_Fg_trail) (defScope s_Fg_trail) .none kVm_Fg_trail dcm_Fg_trail pmm_Fg_trail anm_Fg_trail cdm_Fg_trail ctm_Fg_trail), slm_Fg_trail⟩) (mc_Fg_trail : PySem.W.codeIn K cdm_Fg_trail "Folding.trail" = true)
    (mp_Fg_trail : PySem.W.keepIn K (.ref fm_Fg_trail) = true) (ma_Fg_count : PySem.W.findIn K (.ref C_Folding) "count" = some (some (.ref fm_Fg_count))) (mi_Fg_count : PySem.W.isFn K (.ref fm_Fg_count) = true) (ml_Fg_count : K.lookup fm_Fg_count = some ⟨ocm_Fg_count, odm_Fg_count, .func (PySem.W.fnOf "count" "Folding.count" (defArgs s_Fg_count) (defBody s_Fg_count) (defScope s_Fg_count) .none kVm_Fg_count dcm_Fg_count pmm_Fg_count anm_Fg_count cdm_Fg_count ctm_Fg_count), slm_Fg_count⟩)
    (mc_Fg_count : PySem.W.codeIn K cdm_Fg_count "Folding.count" = true) (mp_Fg_count : PySem.W.keepIn K (.ref fm_Fg_count) = true) (ma_Fg___init__ : PySem.W.findIn K (.ref C_Folding) "__init__" = some (some (.ref fm_Fg___init__))) (mi_Fg___init__ : PySem.W.isFn K (.ref fm_Fg___init__) = true)
    (FD_Fg___init__ : FunD K "__init__" "Folding.__init__" (defArgs s_Fg_init) (defBody s_Fg_init) (defScope s_Fg_init) [] [("moves", .non)] fm_Fg___init__ fdm_Fg___init__) (g_FAR : PySem.W.nsIn K mainGlobals "FAR" = some (some (.int 1000000000000000000 tk_FAR))) (g_MOST : PySem.W.nsIn K mainGlobals "MOST" = some (some (.int 24 tk_MOST))) :
    LamX.LawAtS l w K CX0 13 63 "_law_script" mg fa h := by
  have e := hfa.symm.trans (PySem.W.mg_of X G a34)
  cases e
  have B : Bn mg := ⟨PySem.W.mg_none_of X G z0, PySem.W.mg_none_of X G z1, PySem.W.mg_none_of X G z2, PySem.W.mg_none_of X G z3, PySem.W.mg_none_of X G z4, PySem.W.mg_none_of X G z5, PySem.W.mg_none_of X G z6, PySem.W.mg_none_of X G z7, PySem.W.mg_none_of X G z8, PySem.W.mg_none_of X G z9, PySem.W.mg_none_of X G z10, PySem.W.mg_none_of X G z11, PySem.W.mg_none_of X G z12, PySem.W.mg_none_of X G z13⟩
  have F0 := fun_mk (st := s_open) l0 c0 k0
  have D_open : DefAt K mg "_law_open" s_open P_open _ _ := ⟨F0, F0.binds (ps := P_open) fun _ _ _ _ _ _ => by exact len1 (fun _ => rfl), PySem.W.mg_of X G a0⟩
  have F1 := fun_mk (st := s_pull) l1 c1 k1
  have D_pull : DefAt K mg "_law_pull" s_pull P_pull _ _ := ⟨F1, F1.binds (ps := P_pull) fun _ _ _ _ _ _ => by exact len2 (fun _ _ => rfl), PySem.W.mg_of X G a1⟩
  have F2 := fun_mk (st := s_like) l2 c2 k2
  have D_like : DefAt K mg "_law_like" s_like P_like _ _ := ⟨F2, F2.binds (ps := P_like) fun _ _ _ _ _ _ => by exact len2 (fun _ _ => rfl), PySem.W.mg_of X G a2⟩
  have F3 := fun_mk (st := s_any) l3 c3 k3
  have D_any : DefAt K mg "_law_any" s_any P_any _ _ := ⟨F3, F3.binds (ps := P_any) fun _ _ _ _ _ _ => by exact len2 (fun _ _ => rfl), PySem.W.mg_of X G a3⟩
  have F4 := fun_mk (st := s_mirror) l4 c4 k4
  have D_mirror : DefAt K mg "mirror" s_mirror P_mirror _ _ := ⟨F4, F4.binds (ps := P_mirror) fun _ _ _ _ _ _ => by exact len2 (fun _ _ => rfl), PySem.W.mg_of X G a4⟩
  have F5 := fun_mk (st := s_need_from) l5 c5 k5
  have D_need_from : DefAt K mg "need_from" s_need_from P_need_from _ _ := ⟨F5, F5.binds (ps := P_need_from) fun _ _ _ _ _ _ => by exact len2 (fun _ _ => rfl), PySem.W.mg_of X G a5⟩
  have F6 := fun_mk (st := s_need_within) l6 c6 k6
  have D_need_within : DefAt K mg "need_within" s_need_within P_need_within _ _ := ⟨F6, F6.binds (ps := P_need_within) fun _ _ _ _ _ _ => by exact len3 (fun _ _ _ => rfl), PySem.W.mg_of X G a6⟩
  have F7 := fun_mk (st := s_need_length) l7 c7 k7
  have D_need_length : DefAt K mg "need_length" s_need_length P_need_length _ _ := ⟨F7, F7.binds (ps := P_need_length) fun _ _ _ _ _ _ => by exact len1 (fun _ => rfl), PySem.W.mg_of X G a7⟩
  have F8 := fun_mk (st := s_need_mating) l8 c8 k8
  have D_need_mating : DefAt K mg "need_mating" s_need_mating P_need_mating _ _ := ⟨F8, F8.binds (ps := P_need_mating) fun _ _ _ _ _ _ => by exact len2 (fun _ _ => rfl), PySem.W.mg_of X G a8⟩
  have F9 := fun_mk (st := s_need_road) l9 c9 k9
  have D_need_road : DefAt K mg "need_road" s_need_road P_need_road _ _ := ⟨F9, F9.binds (ps := P_need_road) fun _ _ _ _ _ _ => by exact len2 (fun _ _ => rfl), PySem.W.mg_of X G a9⟩
  have F10 := fun_mk (st := s_is_mating) l10 c10 k10
  have D_is_mating : DefAt K mg "is_mating" s_is_mating P_is_mating _ _ := ⟨F10, F10.binds (ps := P_is_mating) fun _ _ _ _ _ _ => by exact len2 (fun _ _ => rfl), PySem.W.mg_of X G a10⟩
  have F11 := fun_mk (st := s_need_place) l11 c11 k11
  have D_need_place : DefAt K mg "need_place" s_need_place P_need_place _ _ := ⟨F11, F11.binds (ps := P_need_place) fun _ _ _ _ _ _ => by exact len2 (fun _ _ => rfl), PySem.W.mg_of X G a11⟩
  have F12 := fun_mk (st := s_normal) l12 c12 k12
  have D_normal : DefAt K mg "normal" s_normal P_normal _ _ := ⟨F12, F12.binds (ps := P_normal) fun _ _ _ _ _ _ => by exact len1 (fun _ => rfl), PySem.W.mg_of X G a12⟩
  have F13 := fun_mk (st := s_back) l13 c13 k13
  have D_back : DefAt K mg "back" s_back P_back _ _ := ⟨F13, F13.binds (ps := P_back) fun _ _ _ _ _ _ => by exact len1 (fun _ => rfl), PySem.W.mg_of X G a13⟩
  have F14 := fun_mk (st := s_halved) l14 c14 k14
  have D_halved : DefAt K mg "halved" s_halved P_halved _ _ := ⟨F14, F14.binds (ps := P_halved) fun _ _ _ _ _ _ => by exact len1 (fun _ => rfl), PySem.W.mg_of X G a14⟩
  have F15 := fun_mk (st := s_is_leader) l15 c15 k15
  have D_is_leader : DefAt K mg "is_leader" s_is_leader P_is_leader _ _ := ⟨F15, F15.binds (ps := P_is_leader) fun _ _ _ _ _ _ => by exact len1 (fun _ => rfl), PySem.W.mg_of X G a15⟩
  have F16 := fun_mk (st := s_step_of) l16 c16 k16
  have D_step_of : DefAt K mg "step_of" s_step_of P_step_of _ _ := ⟨F16, F16.binds (ps := P_step_of) fun _ _ _ _ _ _ => by exact len1 (fun _ => rfl), PySem.W.mg_of X G a16⟩
  have F17 := fun_mk (st := s_end_of) l17 c17 k17
  have D_end_of : DefAt K mg "end_of" s_end_of P_end_of _ _ := ⟨F17, F17.binds (ps := P_end_of) fun _ _ _ _ _ _ => by exact len1 (fun _ => rfl), PySem.W.mg_of X G a17⟩
  have F18 := fun_mk (st := s_is_repeat) l18 c18 k18
  have D_is_repeat : DefAt K mg "is_repeat" s_is_repeat P_is_repeat _ _ := ⟨F18, F18.binds (ps := P_is_repeat) fun _ _ _ _ _ _ => by exact len1 (fun _ => rfl), PySem.W.mg_of X G a18⟩
  have F19 := fun_mk (st := s_common) l19 c19 k19
  have D_common : DefAt K mg "common" s_common P_common _ _ := ⟨F19, F19.binds (ps := P_common) fun _ _ _ _ _ _ => by exact len2 (fun _ _ => rfl), PySem.W.mg_of X G a19⟩
  have F20 := fun_mk (st := s_merged) l20 c20 k20
  have D_merged : DefAt K mg "merged" s_merged P_merged _ _ := ⟨F20, F20.binds (ps := P_merged) fun _ _ _ _ _ _ => by exact len2 (fun _ _ => rfl), PySem.W.mg_of X G a20⟩
  have F21 := fun_mk (st := s_holds) l21 c21 k21
  have D_holds : DefAt K mg "holds" s_holds P_holds _ _ := ⟨F21, F21.binds (ps := P_holds) fun _ _ _ _ _ _ => by exact len3 (fun _ _ _ => rfl), PySem.W.mg_of X G a21⟩
  have F22 := fun_mk (st := s_part) l22 c22 k22
  have D_part : DefAt K mg "part" s_part P_part _ _ := ⟨F22, F22.binds (ps := P_part) fun _ _ _ _ _ _ => by exact len3 (fun _ _ _ => rfl), PySem.W.mg_of X G a22⟩
  have F23 := fun_mk (st := s_led_back) l23 c23 k23
  have D_led_back : DefAt K mg "led_back" s_led_back P_led_back _ _ := ⟨F23, F23.binds (ps := P_led_back) fun _ _ _ _ _ _ => by exact len3 (fun _ _ _ => rfl), PySem.W.mg_of X G a23⟩
  have F24 := fun_mk (st := s_clipped) l24 c24 k24
  have D_clipped : DefAt K mg "clipped" s_clipped P_clipped _ _ := ⟨F24, F24.binds (ps := P_clipped) fun _ _ _ _ _ _ => by exact len2 (fun _ _ => rfl), PySem.W.mg_of X G a24⟩
  have F25 := fun_mk (st := s_fault_of) l25 c25 k25
  have D_fault_of : DefAt K mg "fault_of" s_fault_of P_fault_of _ _ := ⟨F25, F25.binds (ps := P_fault_of) fun _ _ _ _ _ _ => by exact len2 (fun _ _ => rfl), PySem.W.mg_of X G a25⟩
  have F26 := fun_mk (st := s_fold_down) l26 c26 k26
  have D_fold_down : DefAt K mg "fold_down" s_fold_down P_fold_down _ _ := ⟨F26, F26.binds (ps := P_fold_down) fun _ _ _ _ _ _ => by exact len1 (fun _ => rfl), PySem.W.mg_of X G a26⟩
  have F27 := fun_mk (st := s_led_by) l27 c27 k27
  have D_led_by : DefAt K mg "led_by" s_led_by P_led_by _ _ := ⟨F27, F27.binds (ps := P_led_by) fun _ _ _ _ _ _ => by exact len2 (fun _ _ => rfl), PySem.W.mg_of X G a27⟩
  have F28 := fun_mk (st := s_wound) l28 c28 k28
  have D_wound : DefAt K mg "wound" s_wound P_wound _ _ := ⟨F28, F28.binds (ps := P_wound) fun _ _ _ _ _ _ => by exact len3 (fun _ _ _ => rfl), PySem.W.mg_of X G a28⟩
  have F29 := fun_mk (st := s_led_pieces) l29 c29 k29
  have D_led_pieces : DefAt K mg "led_pieces" s_led_pieces P_led_pieces _ _ := ⟨F29, F29.binds (ps := P_led_pieces) fun _ _ _ _ _ _ => by exact len2 (fun _ _ => rfl), PySem.W.mg_of X G a29⟩
  have F30 := fun_mk (st := s_settled) l30 c30 k30
  have D_settled : DefAt K mg "settled" s_settled P_settled _ _ := ⟨F30, F30.binds (ps := P_settled) fun _ _ _ _ _ _ => by exact len3 (fun _ _ _ => rfl), PySem.W.mg_of X G a30⟩
  have F31 := fun_mk (st := s_last_up_to) l31 c31 k31
  have D_last_up_to : DefAt K mg "last_up_to" s_last_up_to P_last_up_to _ _ := ⟨F31, F31.binds (ps := P_last_up_to) fun _ _ _ _ _ _ => by exact len2 (fun _ _ => rfl), PySem.W.mg_of X G a31⟩
  have F32 := fun_mk (st := s_joined) l32 c32 k32
  have D_joined : DefAt K mg "joined" s_joined P_joined _ _ := ⟨F32, F32.binds (ps := P_joined) fun _ _ _ _ _ _ => by exact len1 (fun _ => rfl), PySem.W.mg_of X G a32⟩
  have F33 := fun_mk (st := s_first_ranks) l33 c33 k33
  have D_first_ranks : DefAt K mg "first_ranks" s_first_ranks P_first_ranks _ _ := ⟨F33, F33.binds (ps := P_first_ranks) fun _ _ _ _ _ _ => by exact len1 (fun _ => rfl), PySem.W.mg_of X G a33⟩
  have GF : ∀ base : Heap, FnOk l.prog w K mg base CX0 1 f_FarError _ N_farinit (spFarInit K) := fun base => ok_farinit FF (PySem.W.mg_none_of X G zV) fF8
  have FI_BadMove := fun_mk (x := "__init__") (qual := "BadMove.__init__") (st := s_bminit) l_BadMove c_BadMove k_BadMove
  have bI_BadMove := FI_BadMove.binds (ps := N_bminit) fun _ _ _ _ _ _ => by exact len2 (fun _ _ => rfl)
  have F_init := fun_mk (x := "__init__") (qual := "Front.__init__") (st := s_Finit) ml___init__ mc___init__ mp___init__
  have b_init := F_init.binds (ps := P_Finit) fun _ _ _ _ _ _ => by exact len3 (fun _ _ _ => rfl)
  have mkF : Mk K C_Front fm___init__ := ⟨mk_Front, ma___init__, mi___init__, kc_Front⟩
  have F_make := fun_mk (x := "make") (qual := "Front.make") (st := s_Fmake) ml_make mc_make mp_make
  have b_make := F_make.binds (ps := P_Fmake) fun _ _ _ _ _ _ => by exact len2 (fun _ _ => rfl)
  have M_make : Meth K C_Front "make" fm_make := ⟨ma_make, mi_make, mp_make⟩
  have F_made := fun_mk (x := "made") (qual := "Front.made") (st := s_Fmade) ml_made mc_made mp_made
  have b_made := F_made.binds (ps := P_Fmade) fun _ _ _ _ _ _ => by exact len2 (fun _ _ => rfl)
  have M_made : Meth K C_Front "made" fm_made := ⟨ma_made, mi_made, mp_made⟩
  have F_idle := fun_mk (x := "idle") (qual := "Front.idle") (st := s_Fidle) ml_idle mc_idle mp_idle
  have b_idle := F_idle.binds (ps := P_Fidle) fun _ _ _ _ _ _ => by exact len2 (fun _ _ => rfl)
  have M_idle : Meth K C_Front "idle" fm_idle := ⟨ma_idle, mi_idle, mp_idle⟩
  have F_halve := fun_mk (x := "halve") (qual := "Front.halve") (st := s_Fhalve) ml_halve mc_halve mp_halve
  have b_halve := F_halve.binds (ps := P_Fhalve) fun _ _ _ _ _ _ => by exact len2 (fun _ _ => rfl)
  have M_halve : Meth K C_Front "halve" fm_halve := ⟨ma_halve, mi_halve, mp_halve⟩
  have F_merge := fun_mk (x := "merge") (qual := "Front.merge") (st := s_Fmerge) ml_merge mc_merge mp_merge
  have b_merge := F_merge.binds (ps := P_Fmerge) fun _ _ _ _ _ _ => by exact len3 (fun _ _ _ => rfl)
  have M_merge : Meth K C_Front "merge" fm_merge := ⟨ma_merge, mi_merge, mp_merge⟩
  have F_lead := fun_mk (x := "lead") (qual := "Front.lead") (st := s_Flead) ml_lead mc_lead mp_lead
  have b_lead := F_lead.binds (ps := P_Flead) fun _ _ _ _ _ _ => by exact len4 (fun _ _ _ _ => rfl)
  have M_lead : Meth K C_Front "lead" fm_lead := ⟨ma_lead, mi_lead, mp_lead⟩
  have F_fold := fun_mk (x := "fold") (qual := "Front.fold") (st := s_Ffold) ml_fold mc_fold mp_fold
  have b_fold := F_fold.binds (ps := P_Ffold) fun _ _ _ _ _ _ => by exact len3 (fun _ _ _ => rfl)
  have M_fold : Meth K C_Front "fold" fm_fold := ⟨ma_fold, mi_fold, mp_fold⟩
  have F_bare := fun_mk (x := "bare") (qual := "Front.bare") (st := s_Fbare) ml_bare mc_bare mp_bare
  have b_bare := F_bare.binds (ps := P_Fbare) fun _ _ _ _ _ _ => by exact len2 (fun _ _ => rfl)
  have M_bare : Meth K C_Front "bare" fm_bare := ⟨ma_bare, mi_bare, mp_bare⟩
  have F_put := fun_mk (x := "put") (qual := "Front.put") (st := s_Fput) ml_put mc_put mp_put
  have b_put := F_put.binds (ps := P_Fput) fun _ _ _ _ _ _ => by exact len3 (fun _ _ _ => rfl)
  have M_put : Meth K C_Front "put" fm_put := ⟨ma_put, mi_put, mp_put⟩
  have F_leader := fun_mk (x := "leader") (qual := "Front.leader") (st := s_Fleader) ml_leader mc_leader mp_leader
  have b_leader := F_leader.binds (ps := P_Fleader) fun _ _ _ _ _ _ => by exact len2 (fun _ _ => rfl)
  have M_leader : Meth K C_Front "leader" fm_leader := ⟨ma_leader, mi_leader, mp_leader⟩
  have F_reach := fun_mk (x := "reach") (qual := "Front.reach") (st := s_Freach) ml_reach mc_reach mp_reach
  have b_reach := F_reach.binds (ps := P_Freach) fun _ _ _ _ _ _ => by exact len2 (fun _ _ => rfl)
  have M_reach : Meth K C_Front "reach" fm_reach := ⟨ma_reach, mi_reach, mp_reach⟩
  have F_top := fun_mk (x := "top") (qual := "Front.top") (st := s_Ftop) ml_top mc_top mp_top
  have b_top := F_top.binds (ps := P_Ftop) fun _ _ _ _ _ _ => by exact len1 (fun _ => rfl)
  have M_top : Meth K C_Front "top" fm_top := ⟨ma_top, mi_top, mp_top⟩
  have F_led_on := fun_mk (x := "led_on") (qual := "Front.led_on") (st := s_Fled_on) ml_led_on mc_led_on mp_led_on
  have b_led_on := F_led_on.binds (ps := P_Fled_on) fun _ _ _ _ _ _ => by exact len1 (fun _ => rfl)
  have M_led_on : Meth K C_Front "led_on" fm_led_on := ⟨ma_led_on, mi_led_on, mp_led_on⟩
  have F_Fo_init := fun_mk (x := "__init__") (qual := "Folder.__init__") (st := s_Fo_init) ml_Fo___init__ mc_Fo___init__ mp_Fo___init__
  have b_Fo_init := F_Fo_init.binds (ps := P_Fo_init) fun _ _ _ _ _ _ => by exact len2 (fun _ _ => rfl)
  have mkFo_ : Mk K C_Folder fm_Fo___init__ := ⟨mk_Folder, ma_Fo___init__, mi_Fo___init__, kc_Folder⟩
  have F_Fo_make := fun_mk (x := "make") (qual := "Folder.make") (st := s_Fo_make) ml_Fo_make mc_Fo_make mp_Fo_make
  have b_Fo_make := F_Fo_make.binds (ps := P_Fo_make) fun _ _ _ _ _ _ => by exact len2 (fun _ _ => rfl)
  have M_Fo_make : Meth K C_Folder "make" fm_Fo_make := ⟨ma_Fo_make, mi_Fo_make, mp_Fo_make⟩
  have F_Fo_go_on := fun_mk (x := "go_on") (qual := "Folder.go_on") (st := s_Fo_go_on) ml_Fo_go_on mc_Fo_go_on mp_Fo_go_on
  have b_Fo_go_on := F_Fo_go_on.binds (ps := P_Fo_go_on) fun _ _ _ _ _ _ => by exact len1 (fun _ => rfl)
  have M_Fo_go_on : Meth K C_Folder "go_on" fm_Fo_go_on := ⟨ma_Fo_go_on, mi_Fo_go_on, mp_Fo_go_on⟩
  have b_Fo_widest := (fun_mk (x := "widest") (qual := "Folder.widest") (st := s_Fo_widest) ml_Fo_widest mc_Fo_widest mp_Fo_widest).binds (ps := P_Fo_widest) fun _ _ _ _ _ _ => by exact len1 (fun _ => rfl)
  have M_Fo_widest : Meth K C_Folder "widest" fm_Fo_widest := ⟨ma_Fo_widest, mi_Fo_widest, mp_Fo_widest⟩
  have F_Fo_lead_off := fun_mk (x := "lead_off") (qual := "Folder.lead_off") (st := s_Fo_lead_off) ml_Fo_lead_off mc_Fo_lead_off mp_Fo_lead_off
  have b_Fo_lead_off := F_Fo_lead_off.binds (ps := P_Fo_lead_off) fun _ _ _ _ _ _ => by exact len4 (fun _ _ _ _ => rfl)
  have M_Fo_lead_off : Meth K C_Folder "lead_off" fm_Fo_lead_off := ⟨ma_Fo_lead_off, mi_Fo_lead_off, mp_Fo_lead_off⟩
  have F_Fo_tidy := fun_mk (x := "tidy") (qual := "Folder.tidy") (st := s_Fo_tidy) ml_Fo_tidy mc_Fo_tidy mp_Fo_tidy
  have b_Fo_tidy := F_Fo_tidy.binds (ps := P_Fo_tidy) fun _ _ _ _ _ _ => by exact len2 (fun _ _ => rfl)
  have M_Fo_tidy : Meth K C_Folder "tidy" fm_Fo_tidy := ⟨ma_Fo_tidy, mi_Fo_tidy, mp_Fo_tidy⟩
  have F_Fo_tidy_move := fun_mk (x := "tidy_move") (qual := "Folder.tidy_move") (st := s_Fo_tidy_move) ml_Fo_tidy_move mc_Fo_tidy_move mp_Fo_tidy_move
  have b_Fo_tidy_move := F_Fo_tidy_move.binds (ps := P_Fo_tidy_move) fun _ _ _ _ _ _ => by exact len2 (fun _ _ => rfl)
  have M_Fo_tidy_move : Meth K C_Folder "tidy_move" fm_Fo_tidy_move := ⟨ma_Fo_tidy_move, mi_Fo_tidy_move, mp_Fo_tidy_move⟩
  have F_Sh_init := fun_mk (x := "__init__") (qual := "Shares.__init__") (st := s_Sh_init) ml_Sh___init__ mc_Sh___init__ mp_Sh___init__
  have b_Sh_init := F_Sh_init.binds (ps := P_Sh_init) fun _ _ _ _ _ _ => by exact len1 (fun _ => rfl)
  have mkSh_ : Mk K C_Shares fm_Sh___init__ := ⟨mk_Shares, ma_Sh___init__, mi_Sh___init__, kc_Shares⟩
  have F_Sh_lay := fun_mk (x := "lay") (qual := "Shares.lay") (st := s_Sh_lay) ml_Sh_lay mc_Sh_lay mp_Sh_lay
  have b_Sh_lay := F_Sh_lay.binds (ps := P_Sh_lay) fun _ _ _ _ _ _ => by exact len4 (fun _ _ _ _ => rfl)
  have M_Sh_lay : Meth K C_Shares "lay" fm_Sh_lay := ⟨ma_Sh_lay, mi_Sh_lay, mp_Sh_lay⟩
  have F_Sh_change := fun_mk (x := "change") (qual := "Shares.change") (st := s_Sh_change) ml_Sh_change mc_Sh_change mp_Sh_change
  have b_Sh_change := F_Sh_change.binds (ps := P_Sh_change) fun _ _ _ _ _ _ => by exact len3 (fun _ _ _ => rfl)
  have M_Sh_change : Meth K C_Shares "change" fm_Sh_change := ⟨ma_Sh_change, mi_Sh_change, mp_Sh_change⟩
  have F_Sh_cut_off := fun_mk (x := "cut_off") (qual := "Shares.cut_off") (st := s_Sh_cut_off) ml_Sh_cut_off mc_Sh_cut_off mp_Sh_cut_off
  have b_Sh_cut_off := F_Sh_cut_off.binds (ps := P_Sh_cut_off) fun _ _ _ _ _ _ => by exact len2 (fun _ _ => rfl)
  have M_Sh_cut_off : Meth K C_Shares "cut_off" fm_Sh_cut_off := ⟨ma_Sh_cut_off, mi_Sh_cut_off, mp_Sh_cut_off⟩
  have F_Fg_least := fun_mk (x := "least") (qual := "Folding.least") (st := s_Fg_least) ml_Fg_least mc_Fg_least mp_Fg_least
  have b_Fg_least := F_Fg_least.binds (ps := P_Fg_least) fun _ _ _ _ _ _ => by exact len2 (fun _ _ => rfl)
  have M_Fg_least : Meth K C_Folding "least" fm_Fg_least := ⟨ma_Fg_least, mi_Fg_least, mp_Fg_least⟩
  have F_Fg_trail := fun_mk (x := "trail") (qual := "Folding.trail") (st := s_Fg_trail) ml_Fg_trail mc_Fg_trail mp_Fg_trail
  have b_Fg_trail := F_Fg_trail.binds (ps := P_Fg_trail) fun _ _ _ _ _ _ => by exact len2 (fun _ _ => rfl)
  have M_Fg_trail : Meth K C_Folding "trail" fm_Fg_trail := ⟨ma_Fg_trail, mi_Fg_trail, mp_Fg_trail⟩
  have F_Fg_count := fun_mk (x := "count") (qual := "Folding.count") (st := s_Fg_count) ml_Fg_count mc_Fg_count mp_Fg_count
  have b_Fg_count := F_Fg_count.binds (ps := P_Fg_count) fun _ _ _ _ _ _ => by exact len1 (fun _ => rfl)
  have M_Fg_count : Meth K C_Folding "count" fm_Fg_count := ⟨ma_Fg_count, mi_Fg_count, mp_Fg_count⟩
  have mkFg_ : Mk K C_Folding fm_Fg___init__ := ⟨mk_Folding, ma_Fg___init__, mi_Fg___init__, kc_Folding⟩
  have T : FrT K mg C_Front := ⟨PySem.W.mg_of X G g_Front, cl_Front, na_edge, na_standing, na_past⟩
  have TFo_ : FoT K mg C_Folder := ⟨PySem.W.mg_of X G g_Folder, cl_Folder, na_Fo_front, na_Fo_row⟩
  have TSh_ : ShT K mg C_Shares := ⟨PySem.W.mg_of X G g_Shares, cl_Shares, na_Sh_marks⟩
  have TFg_ : FgT K mg C_Folding := ⟨PySem.W.mg_of X G g_Folding, cl_Folding, na_Fg_row, na_Fg_extent, na_Fg_events, na_Fg_makers, na_Fg_begins, na_Fg_pieces, na_Fg_firsts, na_Fg_ranks⟩
  have Te : ErT K mg C_FarError C_BadMove f_BadMove _ "BadMove" N_bminit := ⟨PySem.W.mg_of X G gF, PySem.W.mg_of X G g_BadMove, E_BadMove, XF_BadMove, EC_BadMove, i_BadMove, t_BadMove, bI_BadMove, M_BadMove⟩
  have F_law := fun_mk (st := s_law) l34 c34 k34
  refine ⟨PySem.W.fnOf "law" "law" (defArgs s_law) (defBody s_law) (defScope s_law) .none kV34 dc34 pm34 an34 cd34 ct34, [(c, Pt)], spLawT K Pt, fun p hp => ?_, fun p hp => ?_, fun p hp => ?_, fun s u => ?b, fun H a ns hl _ hH hS => ⟨a, ns, rfl, hS, hl, hH _ List.mem_cons_self, fun _ => rfl⟩, fun base KB GB TB => ?ok⟩
  case ok =>
    have TBw := TB _ List.mem_cons_self
    have zE := PySem.W.mg_none_of X G zf_enumerate
    have zDm := PySem.W.mg_none_of X G zf_divmod
    have zRv := PySem.W.mg_none_of X G zf_reversed
    have zSum := PySem.W.mg_none_of X G zf_sum
    have gFAR := PySem.W.mg_of X G g_FAR
    have gMOST := PySem.W.mg_of X G g_MOST
    have G_put : FnOk l.prog w K mg base CX0 _ _ _ _ _ := ok_put F_put T D_normal D_back
    have G_leader : FnOk l.prog w K mg base CX0 _ _ _ _ _ := ok_leader F_leader T D_is_leader D_step_of
    have G_reach : FnOk l.prog w K mg base CX0 _ _ _ _ _ := ok_reach F_reach T D_end_of B
    have G_made : FnOk l.prog w K mg base CX0 _ _ _ _ _ := ok_madeS F_made T M_idle (ok_idle F_idle T M_put G_put b_put D_step_of) b_idle M_halve (ok_halve F_halve T M_put G_put b_put D_halved D_is_leader D_step_of) b_halve M_merge (ok_merge F_merge T M_put G_put b_put D_merged D_step_of D_end_of D_is_repeat D_common B) b_merge M_lead (ok_Flead F_lead T M_put G_put b_put M_leader G_leader b_leader D_back D_holds D_led_back (ok_led_back D_led_back D_part D_holds D_back D_step_of B) B) b_lead M_fold (ok_Ffold F_fold T M_put G_put b_put M_leader G_leader b_leader M_reach G_reach b_reach D_end_of D_step_of D_clipped (ok_clipped D_clipped D_part D_holds B)) b_fold M_bare (ok_bare F_bare T M_reach G_reach b_reach) b_bare
    have G_make : FnOk l.prog w K mg base (L2.CX l.prog w) _ _ _ _ _ := ok_makeS F_make T M_made G_made b_made B Te n_BadMove_move (ok_bminit FI_BadMove (PySem.W.mg_of X G gF) TF (far_binds FF) (GF base))
    have G_Fo_make : FnOk l.prog w K mg base CX0 _ _ _ _ _ := ok_FoStep limT (ok_FoMake F_Fo_make T TFo_ M_make G_make b_make)
    have G_top : FnOk l.prog w K mg base CX0 _ _ _ _ _ := ok_top F_top T
    have G_lo : FnOk l.prog w K mg base CX0 _ _ _ _ _ := ok_leadOff F_Fo_lead_off T TFo_ M_Fo_make G_Fo_make b_Fo_make
    have G_tm : FnOk l.prog w K mg base CX0 _ _ _ _ _ := ok_tidyMove (Lim := LimT) F_Fo_tidy_move T TFo_ D_is_leader D_step_of D_merged D_end_of D_is_repeat D_common B
    have G_tidy : FnOk l.prog w K mg base CX0 _ _ _ _ _ := ok_tidy F_Fo_tidy TFo_ M_Fo_make G_Fo_make b_Fo_make M_Fo_tidy_move G_tm b_Fo_tidy_move B
    have G_wid : FnOk l.prog w K mg base CX0 _ _ _ _ _ := ok_widest (Lim := LimT) ml_Fo_widest mc_Fo_widest TBw T TFo_ D_end_of M_top G_top b_top B tWid_mem tWid_hu
    have G_go : FnOk l.prog w K mg base CX0 _ _ _ _ _ := ok_goOn F_Fo_go_on T TFo_ M_Fo_make G_Fo_make b_Fo_make M_Fo_widest G_wid b_Fo_widest M_Fo_lead_off G_lo b_Fo_lead_off M_Fo_tidy G_tidy b_Fo_tidy M_reach G_reach b_reach M_top G_top b_top B
    have G_foi : FnOk l.prog w K mg base CX0 _ _ _ _ _ := ok_FoInit F_Fo_init TFo_
    have G_fd : FnOk l.prog w K mg base CX0 _ _ _ _ _ := ok_foldDown limT D_fold_down T TFo_ mkFo_ G_foi b_Fo_init M_Fo_tidy G_tidy b_Fo_tidy M_Fo_go_on G_go b_Fo_go_on M_top G_top b_top B
    have G_shi : FnOk l.prog w K mg base CX0 _ _ _ _ _ := ok_ShInit F_Sh_init TSh_
    have G_chg : FnOk l.prog w K mg base CX0 _ _ _ _ _ := ok_change F_Sh_change TSh_
    have G_lay : FnOk l.prog w K mg base CX0 _ _ _ _ _ := ok_lay F_Sh_lay TSh_ M_Sh_change G_chg b_Sh_change
    have G_cut : FnOk l.prog w K mg base CX0 _ _ _ _ _ := ok_cut F_Sh_cut_off TSh_ M_Sh_change G_chg b_Sh_change B
    have G_ledp : FnOk l.prog w K mg base CX0 _ _ _ _ _ := ok_ledP D_led_pieces D_wound zDm B
    have G_set : FnOk l.prog w K mg base CX0 _ _ _ _ _ := ok_settled D_settled TSh_ mkSh_ G_shi b_Sh_init M_Sh_lay G_lay b_Sh_lay M_Sh_cut_off G_cut b_Sh_cut_off D_led_pieces G_ledp zRv
    have G_init : FnOk l.prog w K mg base CX0 _ _ _ _ _ := ok_Finit F_init T D_need_road D_need_from D_need_within D_need_length D_need_mating D_is_mating D_normal D_back gFAR gMOST zE B
    have G_fg : FnOk l.prog w K mg base CX0 _ _ _ _ _ := ok_FgInit FD_Fg___init__ T TFg_ mkF G_init b_init D_fold_down G_fd D_fault_of M_led_on (ok_led_on F_led_on T B) b_led_on D_joined D_settled G_set D_first_ranks zE B
    obtain ⟨dsM, v_fg, b_fg⟩ := fg_binds FD_Fg___init__
    have G_tr : FnOk l.prog w K mg base CX0 _ _ _ _ _ := ok_trail F_Fg_trail TFg_ D_need_place D_last_up_to D_led_by B
    have G_least : FnOk l.prog w K mg base CX0 _ _ _ _ _ := ok_least F_Fg_least TFg_ M_Fg_trail G_tr b_Fg_trail
    have G_count : FnOk l.prog w K mg base CX0 _ _ _ _ _ := ok_count F_Fg_count TFg_ zSum
    exact ok_law F_law D_open D_pull D_any D_like D_mirror D_need_from TFg_ mkFg_ G_fg b_fg v_fg M_Fg_count G_count b_Fg_count M_Fg_least G_least b_Fg_least B
  case b => exact .of_eq rfl
  · rw [List.mem_singleton.mp hp]; exact hT
  · rw [List.mem_singleton.mp hp]; exact nP
  · rw [List.mem_singleton.mp hp]; exact PySem.W.codeHd_of_K X hP
abbrev hkL : PySem.W.Hook := hookY faL fnL exL
def obL (s : PySem.W.SharedT) : AlY := obsY faL fnL exL (HandSHeadRun.getT s)
theorem obL_eq (s : PySem.W.SharedT) : obL s = hkL.obs s.abs := obsY_eq s
theorem all_of {w : World} {K : PySem.W.Frag} {h : Heap} {mg : Str → Option Value} {fa : Addr} (X : K.In h) (G : h.Ns mainGlobals mg) (hfa : mg "law" = some (.ref fa)) (c : SaysY faL fnL exL h K) :
    LamX.LawAtS PySem.Challenge.rw_farmates_k23_whole_mirrors w K CX0 13 63 "_law_script" mg fa h := by
  obtain ⟨oc0, od0, sl0, kV0, dc0, pm0, an0, cd0, ct0, l0, c0, k0⟩ := say_def c.d 0 (x := "_law_open") (st := s_open) rfl
  obtain ⟨oc1, od1, sl1, kV1, dc1, pm1, an1, cd1, ct1, l1, c1, k1⟩ := say_def c.d 1 (x := "_law_pull") (st := s_pull) rfl
  obtain ⟨oc2, od2, sl2, kV2, dc2, pm2, an2, cd2, ct2, l2, c2, k2⟩ := say_def c.d 2 (x := "_law_like") (st := s_like) rfl
  obtain ⟨oc3, od3, sl3, kV3, dc3, pm3, an3, cd3, ct3, l3, c3, k3⟩ := say_def c.d 3 (x := "_law_any") (st := s_any) rfl
  obtain ⟨oc4, od4, sl4, kV4, dc4, pm4, an4, cd4, ct4, l4, c4, k4⟩ := say_def c.d 4 (x := "mirror") (st := s_mirror) rfl
  obtain ⟨oc5, od5, sl5, kV5, dc5, pm5, an5, cd5, ct5, l5, c5, k5⟩ := say_def c.d 5 (x := "need_from") (st := s_need_from) rfl
  obtain ⟨oc6, od6, sl6, kV6, dc6, pm6, an6, cd6, ct6, l6, c6, k6⟩ := say_def c.d 6 (x := "need_within") (st := s_need_within) rfl
  obtain ⟨oc7, od7, sl7, kV7, dc7, pm7, an7, cd7, ct7, l7, c7, k7⟩ := say_def c.d 7 (x := "need_length") (st := s_need_length) rfl
  obtain ⟨oc8, od8, sl8, kV8, dc8, pm8, an8, cd8, ct8, l8, c8, k8⟩ := say_def c.d 8 (x := "need_mating") (st := s_need_mating) rfl
  obtain ⟨oc9, od9, sl9, kV9, dc9, pm9, an9, cd9, ct9, l9, c9, k9⟩ := say_def c.d 9 (x := "need_road") (st := s_need_road) rfl
  obtain ⟨oc10, od10, sl10, kV10, dc10, pm10, an10, cd10, ct10, l10, c10, k10⟩ := say_def c.d 10 (x := "is_mating") (st := s_is_mating) rfl
  obtain ⟨oc11, od11, sl11, kV11, dc11, pm11, an11, cd11, ct11, l11, c11, k11⟩ := say_def c.d 11 (x := "need_place") (st := s_need_place) rfl
  obtain ⟨oc12, od12, sl12, kV12, dc12, pm12, an12, cd12, ct12, l12, c12, k12⟩ := say_def c.d 12 (x := "normal") (st := s_normal) rfl
  obtain ⟨oc13, od13, sl13, kV13, dc13, pm13, an13, cd13, ct13, l13, c13, k13⟩ := say_def c.d 13 (x := "back") (st := s_back) rfl
  obtain ⟨oc14, od14, sl14, kV14, dc14, pm14, an14, cd14, ct14, l14, c14, k14⟩ := say_def c.d 14 (x := "halved") (st := s_halved) rfl
  obtain ⟨oc15, od15, sl15, kV15, dc15, pm15, an15, cd15, ct15, l15, c15, k15⟩ := say_def c.d 15 (x := "is_leader") (st := s_is_leader) rfl
  obtain ⟨oc16, od16, sl16, kV16, dc16, pm16, an16, cd16, ct16, l16, c16, k16⟩ := say_def c.d 16 (x := "step_of") (st := s_step_of) rfl
  obtain ⟨oc17, od17, sl17, kV17, dc17, pm17, an17, cd17, ct17, l17, c17, k17⟩ := say_def c.d 17 (x := "end_of") (st := s_end_of) rfl
  obtain ⟨oc18, od18, sl18, kV18, dc18, pm18, an18, cd18, ct18, l18, c18, k18⟩ := say_def c.d 18 (x := "is_repeat") (st := s_is_repeat) rfl
  obtain ⟨oc19, od19, sl19, kV19, dc19, pm19, an19, cd19, ct19, l19, c19, k19⟩ := say_def c.d 19 (x := "common") (st := s_common) rfl
  obtain ⟨oc20, od20, sl20, kV20, dc20, pm20, an20, cd20, ct20, l20, c20, k20⟩ := say_def c.d 20 (x := "merged") (st := s_merged) rfl
  obtain ⟨oc21, od21, sl21, kV21, dc21, pm21, an21, cd21, ct21, l21, c21, k21⟩ := say_def c.d 21 (x := "holds") (st := s_holds) rfl
  obtain ⟨oc22, od22, sl22, kV22, dc22, pm22, an22, cd22, ct22, l22, c22, k22⟩ := say_def c.d 22 (x := "part") (st := s_part) rfl
  obtain ⟨oc23, od23, sl23, kV23, dc23, pm23, an23, cd23, ct23, l23, c23, k23⟩ := say_def c.d 23 (x := "led_back") (st := s_led_back) rfl
  obtain ⟨oc24, od24, sl24, kV24, dc24, pm24, an24, cd24, ct24, l24, c24, k24⟩ := say_def c.d 24 (x := "clipped") (st := s_clipped) rfl
  obtain ⟨oc25, od25, sl25, kV25, dc25, pm25, an25, cd25, ct25, l25, c25, k25⟩ := say_def c.d 25 (x := "fault_of") (st := s_fault_of) rfl
  obtain ⟨oc26, od26, sl26, kV26, dc26, pm26, an26, cd26, ct26, l26, c26, k26⟩ := say_def c.d 26 (x := "fold_down") (st := s_fold_down) rfl
  obtain ⟨oc27, od27, sl27, kV27, dc27, pm27, an27, cd27, ct27, l27, c27, k27⟩ := say_def c.d 27 (x := "led_by") (st := s_led_by) rfl
  obtain ⟨oc28, od28, sl28, kV28, dc28, pm28, an28, cd28, ct28, l28, c28, k28⟩ := say_def c.d 28 (x := "wound") (st := s_wound) rfl
  obtain ⟨oc29, od29, sl29, kV29, dc29, pm29, an29, cd29, ct29, l29, c29, k29⟩ := say_def c.d 29 (x := "led_pieces") (st := s_led_pieces) rfl
  obtain ⟨oc30, od30, sl30, kV30, dc30, pm30, an30, cd30, ct30, l30, c30, k30⟩ := say_def c.d 30 (x := "settled") (st := s_settled) rfl
  obtain ⟨oc31, od31, sl31, kV31, dc31, pm31, an31, cd31, ct31, l31, c31, k31⟩ := say_def c.d 31 (x := "last_up_to") (st := s_last_up_to) rfl
  obtain ⟨oc32, od32, sl32, kV32, dc32, pm32, an32, cd32, ct32, l32, c32, k32⟩ := say_def c.d 32 (x := "joined") (st := s_joined) rfl
  obtain ⟨oc33, od33, sl33, kV33, dc33, pm33, an33, cd33, ct33, l33, c33, k33⟩ := say_def c.d 33 (x := "first_ranks") (st := s_first_ranks) rfl
  obtain ⟨oc34, od34, sl34, kV34, dc34, pm34, an34, cd34, ct34, l34, c34, k34⟩ := say_def c.d 34 (x := "law") (st := s_law) rfl
  obtain ⟨fdF, FF⟩ := say_far c.d 35 (C := "FarError") (m := "__init__") (q := "FarError.__init__") (st := s_farinit) rfl
  obtain ⟨oc_BadMove, od_BadMove, sl_BadMove, kV_BadMove, dc_BadMove, pm_BadMove, an_BadMove, cd_BadMove, ct_BadMove, l_BadMove, c_BadMove, k_BadMove⟩ := say_meth c.d 36 (C := "BadMove") (m := "__init__") (q := "BadMove.__init__") (st := s_bminit) rfl
  obtain ⟨ocm___init__, odm___init__, slm___init__, kVm___init__, dcm___init__, pmm___init__, anm___init__, cdm___init__, ctm___init__, ml___init__, mc___init__, mp___init__⟩ := say_meth c.d 37 (C := "Front") (m := "__init__") (q := "Front.__init__") (st := s_Finit) rfl
  obtain ⟨ocm_make, odm_make, slm_make, kVm_make, dcm_make, pmm_make, anm_make, cdm_make, ctm_make, ml_make, mc_make, mp_make⟩ := say_meth c.d 38 (C := "Front") (m := "make") (q := "Front.make") (st := s_Fmake) rfl
  obtain ⟨ocm_made, odm_made, slm_made, kVm_made, dcm_made, pmm_made, anm_made, cdm_made, ctm_made, ml_made, mc_made, mp_made⟩ := say_meth c.d 39 (C := "Front") (m := "made") (q := "Front.made") (st := s_Fmade) rfl
  obtain ⟨ocm_idle, odm_idle, slm_idle, kVm_idle, dcm_idle, pmm_idle, anm_idle, cdm_idle, ctm_idle, ml_idle, mc_idle, mp_idle⟩ := say_meth c.d 40 (C := "Front") (m := "idle") (q := "Front.idle") (st := s_Fidle) rfl
  obtain ⟨ocm_halve, odm_halve, slm_halve, kVm_halve, dcm_halve, pmm_halve, anm_halve, cdm_halve, ctm_halve, ml_halve, mc_halve, mp_halve⟩ := say_meth c.d 41 (C := "Front") (m := "halve") (q := "Front.halve") (st := s_Fhalve) rfl
  obtain ⟨ocm_merge, odm_merge, slm_merge, kVm_merge, dcm_merge, pmm_merge, anm_merge, cdm_merge, ctm_merge, ml_merge, mc_merge, mp_merge⟩ := say_meth c.d 42 (C := "Front") (m := "merge") (q := "Front.merge") (st := s_Fmerge) rfl
  obtain ⟨ocm_lead, odm_lead, slm_lead, kVm_lead, dcm_lead, pmm_lead, anm_lead, cdm_lead, ctm_lead, ml_lead, mc_lead, mp_lead⟩ := say_meth c.d 43 (C := "Front") (m := "lead") (q := "Front.lead") (st := s_Flead) rfl
  obtain ⟨ocm_fold, odm_fold, slm_fold, kVm_fold, dcm_fold, pmm_fold, anm_fold, cdm_fold, ctm_fold, ml_fold, mc_fold, mp_fold⟩ := say_meth c.d 44 (C := "Front") (m := "fold") (q := "Front.fold") (st := s_Ffold) rfl
  obtain ⟨ocm_bare, odm_bare, slm_bare, kVm_bare, dcm_bare, pmm_bare, anm_bare, cdm_bare, ctm_bare, ml_bare, mc_bare, mp_bare⟩ := say_meth c.d 45 (C := "Front") (m := "bare") (q := "Front.bare") (st := s_Fbare) rfl
  obtain ⟨ocm_put, odm_put, slm_put, kVm_put, dcm_put, pmm_put, anm_put, cdm_put, ctm_put, ml_put, mc_put, mp_put⟩ := say_meth c.d 46 (C := "Front") (m := "put") (q := "Front.put") (st := s_Fput) rfl
  obtain ⟨ocm_leader, odm_leader, slm_leader, kVm_leader, dcm_leader, pmm_leader, anm_leader, cdm_leader, ctm_leader, ml_leader, mc_leader, mp_leader⟩ := say_meth c.d 47 (C := "Front") (m := "leader") (q := "Front.leader") (st := s_Fleader) rfl
  obtain ⟨ocm_reach, odm_reach, slm_reach, kVm_reach, dcm_reach, pmm_reach, anm_reach, cdm_reach, ctm_reach, ml_reach, mc_reach, mp_reach⟩ := say_meth c.d 48 (C := "Front") (m := "reach") (q := "Front.reach") (st := s_Freach) rfl
  obtain ⟨ocm_top, odm_top, slm_top, kVm_top, dcm_top, pmm_top, anm_top, cdm_top, ctm_top, ml_top, mc_top, mp_top⟩ := say_meth c.d 49 (C := "Front") (m := "top") (q := "Front.top") (st := s_Ftop) rfl
  obtain ⟨ocm_led_on, odm_led_on, slm_led_on, kVm_led_on, dcm_led_on, pmm_led_on, anm_led_on, cdm_led_on, ctm_led_on, ml_led_on, mc_led_on, mp_led_on⟩ := say_meth c.d 50 (C := "Front") (m := "led_on") (q := "Front.led_on") (st := s_Fled_on) rfl
  obtain ⟨ocm_Fo___init__, odm_Fo___init__, slm_Fo___init__, kVm_Fo___init__, dcm_Fo___init__, pmm_Fo___init__, anm_Fo___init__, cdm_Fo___init__, ctm_Fo___init__, ml_Fo___init__, mc_Fo___init__, mp_Fo___init__⟩ := say_meth c.d 51 (C := "Folder") (m := "__init__") (q := "Folder.__init__") (st := s_Fo_init) rfl
  obtain ⟨ocm_Fo_make, odm_Fo_make, slm_Fo_make, kVm_Fo_make, dcm_Fo_make, pmm_Fo_make, anm_Fo_make, cdm_Fo_make, ctm_Fo_make, ml_Fo_make, mc_Fo_make, mp_Fo_make⟩ := say_meth c.d 52 (C := "Folder") (m := "make") (q := "Folder.make") (st := s_Fo_make) rfl
  obtain ⟨ocm_Fo_go_on, odm_Fo_go_on, slm_Fo_go_on, kVm_Fo_go_on, dcm_Fo_go_on, pmm_Fo_go_on, anm_Fo_go_on, cdm_Fo_go_on, ctm_Fo_go_on, ml_Fo_go_on, mc_Fo_go_on, mp_Fo_go_on⟩ := say_meth c.d 53 (C := "Folder") (m := "go_on") (q := "Folder.go_on") (st := s_Fo_go_on) rfl
  obtain ⟨ocm_Fo_widest, odm_Fo_widest, slm_Fo_widest, kVm_Fo_widest, dcm_Fo_widest, pmm_Fo_widest, anm_Fo_widest, ctm_Fo_widest, ml_Fo_widest, mc_Fo_widest, mp_Fo_widest⟩ := say_methT c.d 54 (C := "Folder") (m := "widest") (q := "Folder.widest") (st := s_Fo_widest) rfl
  obtain ⟨ocm_Fo_lead_off, odm_Fo_lead_off, slm_Fo_lead_off, kVm_Fo_lead_off, dcm_Fo_lead_off, pmm_Fo_lead_off, anm_Fo_lead_off, cdm_Fo_lead_off, ctm_Fo_lead_off, ml_Fo_lead_off, mc_Fo_lead_off, mp_Fo_lead_off⟩ := say_meth c.d 55 (C := "Folder") (m := "lead_off") (q := "Folder.lead_off") (st := s_Fo_lead_off) rfl
  obtain ⟨ocm_Fo_tidy, odm_Fo_tidy, slm_Fo_tidy, kVm_Fo_tidy, dcm_Fo_tidy, pmm_Fo_tidy, anm_Fo_tidy, cdm_Fo_tidy, ctm_Fo_tidy, ml_Fo_tidy, mc_Fo_tidy, mp_Fo_tidy⟩ := say_meth c.d 56 (C := "Folder") (m := "tidy") (q := "Folder.tidy") (st := s_Fo_tidy) rfl
  obtain ⟨ocm_Fo_tidy_move, odm_Fo_tidy_move, slm_Fo_tidy_move, kVm_Fo_tidy_move, dcm_Fo_tidy_move, pmm_Fo_tidy_move, anm_Fo_tidy_move, cdm_Fo_tidy_move, ctm_Fo_tidy_move, ml_Fo_tidy_move, mc_Fo_tidy_move, mp_Fo_tidy_move⟩ := say_meth c.d 57 (C := "Folder") (m := "tidy_move") (q := "Folder.tidy_move") (st := s_Fo_tidy_move) rfl
  obtain ⟨ocm_Sh___init__, odm_Sh___init__, slm_Sh___init__, kVm_Sh___init__, dcm_Sh___init__, pmm_Sh___init__, anm_Sh___init__, cdm_Sh___init__, ctm_Sh___init__, ml_Sh___init__, mc_Sh___init__, mp_Sh___init__⟩ := say_meth c.d 58 (C := "Shares") (m := "__init__") (q := "Shares.__init__") (st := s_Sh_init) rfl
  obtain ⟨ocm_Sh_lay, odm_Sh_lay, slm_Sh_lay, kVm_Sh_lay, dcm_Sh_lay, pmm_Sh_lay, anm_Sh_lay, cdm_Sh_lay, ctm_Sh_lay, ml_Sh_lay, mc_Sh_lay, mp_Sh_lay⟩ := say_meth c.d 59 (C := "Shares") (m := "lay") (q := "Shares.lay") (st := s_Sh_lay) rfl
  obtain ⟨ocm_Sh_change, odm_Sh_change, slm_Sh_change, kVm_Sh_change, dcm_Sh_change, pmm_Sh_change, anm_Sh_change, cdm_Sh_change, ctm_Sh_change, ml_Sh_change, mc_Sh_change, mp_Sh_change⟩ := say_meth c.d 60 (C := "Shares") (m := "change") (q := "Shares.change") (st := s_Sh_change) rfl
  obtain ⟨ocm_Sh_cut_off, odm_Sh_cut_off, slm_Sh_cut_off, kVm_Sh_cut_off, dcm_Sh_cut_off, pmm_Sh_cut_off, anm_Sh_cut_off, cdm_Sh_cut_off, ctm_Sh_cut_off, ml_Sh_cut_off, mc_Sh_cut_off, mp_Sh_cut_off⟩ := say_meth c.d 61 (C := "Shares") (m := "cut_off") (q := "Shares.cut_off") (st := s_Sh_cut_off) rfl
  obtain ⟨ocm_Fg_least, odm_Fg_least, slm_Fg_least, kVm_Fg_least, dcm_Fg_least, pmm_Fg_least, anm_Fg_least, cdm_Fg_least, ctm_Fg_least, ml_Fg_least, mc_Fg_least, mp_Fg_least⟩ := say_meth c.d 62 (C := "Folding") (m := "least") (q := "Folding.least") (st := s_Fg_least) rfl
  obtain ⟨ocm_Fg_trail, odm_Fg_trail, slm_Fg_trail, kVm_Fg_trail, dcm_Fg_trail, pmm_Fg_trail, anm_Fg_trail, cdm_Fg_trail, ctm_Fg_trail, ml_Fg_trail, mc_Fg_trail, mp_Fg_trail⟩ := say_meth c.d 63 (C := "Folding") (m := "trail") (q := "Folding.trail") (st := s_Fg_trail) rfl
  obtain ⟨ocm_Fg_count, odm_Fg_count, slm_Fg_count, kVm_Fg_count, dcm_Fg_count, pmm_Fg_count, anm_Fg_count, cdm_Fg_count, ctm_Fg_count, ml_Fg_count, mc_Fg_count, mp_Fg_count⟩ := say_meth c.d 64 (C := "Folding") (m := "count") (q := "Folding.count") (st := s_Fg_count) rfl
  obtain ⟨fdm_Fg___init__, FD_Fg___init__⟩ := c.d.def_ 65 rfl
  obtain ⟨tk_FAR, g_FAR⟩ := say_int c.d 79 (x := "FAR") (i := 1000000000000000000) rfl
  obtain ⟨tk_MOST, g_MOST⟩ := say_int c.d 80 (x := "MOST") (i := 24) rfl
  exact all_mk X G hfa c.mt
    (He.eqO_ok (c.d.fact 0 rfl)) l0 c0 k0 (He.eqO_ok (c.d.fact 1 rfl)) l1 c1 k1
    (He.eqO_ok (c.d.fact 2 rfl)) l2 c2 k2 (He.eqO_ok (c.d.fact 3 rfl)) l3 c3 k3
    (He.eqO_ok (c.d.fact 4 rfl)) l4 c4 k4 (He.eqO_ok (c.d.fact 5 rfl)) l5 c5 k5
    (He.eqO_ok (c.d.fact 6 rfl)) l6 c6 k6 (He.eqO_ok (c.d.fact 7 rfl)) l7 c7 k7
    (He.eqO_ok (c.d.fact 8 rfl)) l8 c8 k8 (He.eqO_ok (c.d.fact 9 rfl)) l9 c9 k9
    (He.eqO_ok (c.d.fact 10 rfl)) l10 c10 k10 (He.eqO_ok (c.d.fact 11 rfl)) l11 c11 k11
    (He.eqO_ok (c.d.fact 12 rfl)) l12 c12 k12 (He.eqO_ok (c.d.fact 13 rfl)) l13 c13 k13
    (He.eqO_ok (c.d.fact 14 rfl)) l14 c14 k14 (He.eqO_ok (c.d.fact 15 rfl)) l15 c15 k15
    (He.eqO_ok (c.d.fact 16 rfl)) l16 c16 k16 (He.eqO_ok (c.d.fact 17 rfl)) l17 c17 k17
    (He.eqO_ok (c.d.fact 18 rfl)) l18 c18 k18 (He.eqO_ok (c.d.fact 19 rfl)) l19 c19 k19
    (He.eqO_ok (c.d.fact 20 rfl)) l20 c20 k20 (He.eqO_ok (c.d.fact 21 rfl)) l21 c21 k21
    (He.eqO_ok (c.d.fact 22 rfl)) l22 c22 k22 (He.eqO_ok (c.d.fact 23 rfl)) l23 c23 k23
    (He.eqO_ok (c.d.fact 24 rfl)) l24 c24 k24 (He.eqO_ok (c.d.fact 25 rfl)) l25 c25 k25
    (He.eqO_ok (c.d.fact 26 rfl)) l26 c26 k26 (He.eqO_ok (c.d.fact 27 rfl)) l27 c27 k27
    (He.eqO_ok (c.d.fact 28 rfl)) l28 c28 k28 (He.eqO_ok (c.d.fact 29 rfl)) l29 c29 k29
    (He.eqO_ok (c.d.fact 30 rfl)) l30 c30 k30 (He.eqO_ok (c.d.fact 31 rfl)) l31 c31 k31
    (He.eqO_ok (c.d.fact 32 rfl)) l32 c32 k32 (He.eqO_ok (c.d.fact 33 rfl)) l33 c33 k33
    (He.eqO_ok (c.d.fact 34 rfl)) l34 c34 k34 (He.eqO_ok (c.d.fact 35 rfl)) (He.eqO_ok (c.d.fact 36 rfl)) (He.eqO_ok (c.d.fact 37 rfl)) (He.eqO_ok (c.d.fact 38 rfl))
    (He.eqO_ok (c.d.fact 39 rfl)) (He.eqO_ok (c.d.fact 40 rfl)) (He.eqO_ok (c.d.fact 41 rfl)) (He.eqO_ok (c.d.fact 42 rfl)) (He.eqO_ok (c.d.fact 43 rfl)) (He.eqO_ok (c.d.fact 44 rfl)) (He.eqO_ok (c.d.fact 45 rfl)) (He.eqO_ok (c.d.fact 46 rfl))
    (He.eqO_ok (c.d.fact 47 rfl)) (He.eqO_ok (c.d.fact 48 rfl)) (He.eqO_ok (c.d.fact 49 rfl)) c.hd c.out (He.eqO_ok (c.d.fact 50 rfl)) (cfnB_ok (all_at c.more 0 rfl)) FF
    (bltB_ok (all_at c.more 1 rfl)) (He.eqO_ok (c.d.fact 51 rfl)) (errB_ok (all_at c.more 2 rfl)) (xfB_ok (all_at c.more 3 rfl)) (excB_ok (all_at c.more 4 rfl)) (of_decide_eq_true (all_at c.more 5 rfl)) (He.eqO_ok (c.d.fact 52 rfl)) (He.eqO_ok (all_at c.more 6 rfl))
    (of_decide_eq_true (all_at c.more 7 rfl)) l_BadMove c_BadMove k_BadMove (He.eqO_ok (c.d.fact 53 rfl)) (He.eqO_ok (c.d.fact 54 rfl)) (He.eqO_ok (c.d.fact 55 rfl)) (He.eqO_ok (c.d.fact 56 rfl))
    (He.eqO_ok (c.d.fact 57 rfl)) (He.cls_ok (c.d.fact 58 rfl)) (all_at c.more 8 rfl) (all_at c.more 9 rfl) (He.eqO_ok (c.d.fact 59 rfl)) (He.eqO_ok (c.d.fact 60 rfl)) (He.eqO_ok (c.d.fact 61 rfl)) (He.eqO_ok (all_at c.more 10 rfl))
    (all_at c.more 11 rfl) ml___init__ mc___init__ mp___init__ (He.eqO_ok (all_at c.more 12 rfl)) (all_at c.more 13 rfl) ml_make mc_make
    mp_make (He.eqO_ok (all_at c.more 14 rfl)) (all_at c.more 15 rfl) ml_made mc_made mp_made (He.eqO_ok (all_at c.more 16 rfl)) (all_at c.more 17 rfl)
    ml_idle mc_idle mp_idle (He.eqO_ok (all_at c.more 18 rfl)) (all_at c.more 19 rfl) ml_halve mc_halve mp_halve
    (He.eqO_ok (all_at c.more 20 rfl)) (all_at c.more 21 rfl) ml_merge mc_merge mp_merge (He.eqO_ok (all_at c.more 22 rfl)) (all_at c.more 23 rfl) ml_lead
    mc_lead mp_lead (He.eqO_ok (all_at c.more 24 rfl)) (all_at c.more 25 rfl) ml_fold mc_fold mp_fold (He.eqO_ok (all_at c.more 26 rfl))
    (all_at c.more 27 rfl) ml_bare mc_bare mp_bare (He.eqO_ok (all_at c.more 28 rfl)) (all_at c.more 29 rfl) ml_put mc_put
    mp_put (He.eqO_ok (all_at c.more 30 rfl)) (all_at c.more 31 rfl) ml_leader mc_leader mp_leader (He.eqO_ok (all_at c.more 32 rfl)) (all_at c.more 33 rfl)
    ml_reach mc_reach mp_reach (He.eqO_ok (all_at c.more 34 rfl)) (all_at c.more 35 rfl) ml_top mc_top mp_top
    (He.eqO_ok (all_at c.more 36 rfl)) (all_at c.more 37 rfl) ml_led_on mc_led_on mp_led_on (He.eqO_ok (c.d.fact 62 rfl)) (He.cls_ok (c.d.fact 63 rfl)) (all_at c.more 38 rfl)
    (all_at c.more 39 rfl) (He.eqO_ok (c.d.fact 64 rfl)) (He.eqO_ok (c.d.fact 65 rfl)) (He.eqO_ok (all_at c.more 40 rfl)) (all_at c.more 41 rfl) ml_Fo___init__ mc_Fo___init__ mp_Fo___init__
    (He.eqO_ok (all_at c.more 42 rfl)) (all_at c.more 43 rfl) ml_Fo_make mc_Fo_make mp_Fo_make (He.eqO_ok (all_at c.more 44 rfl)) (all_at c.more 45 rfl) ml_Fo_go_on
    mc_Fo_go_on mp_Fo_go_on (He.eqO_ok (all_at c.more 46 rfl)) (all_at c.more 47 rfl) ml_Fo_widest mc_Fo_widest mp_Fo_widest (He.eqO_ok (all_at c.more 48 rfl))
    (all_at c.more 49 rfl) ml_Fo_lead_off mc_Fo_lead_off mp_Fo_lead_off (He.eqO_ok (all_at c.more 50 rfl)) (all_at c.more 51 rfl) ml_Fo_tidy mc_Fo_tidy
    mp_Fo_tidy (He.eqO_ok (all_at c.more 52 rfl)) (all_at c.more 53 rfl) ml_Fo_tidy_move mc_Fo_tidy_move mp_Fo_tidy_move (He.eqO_ok (c.d.fact 66 rfl)) (He.cls_ok (c.d.fact 67 rfl))
    (all_at c.more 54 rfl) (all_at c.more 55 rfl) (He.eqO_ok (c.d.fact 68 rfl)) (He.eqO_ok (all_at c.more 56 rfl)) (all_at c.more 57 rfl) ml_Sh___init__ mc_Sh___init__ mp_Sh___init__
    (He.eqO_ok (all_at c.more 58 rfl)) (all_at c.more 59 rfl) ml_Sh_lay mc_Sh_lay mp_Sh_lay (He.eqO_ok (all_at c.more 60 rfl)) (all_at c.more 61 rfl) ml_Sh_change
    mc_Sh_change mp_Sh_change (He.eqO_ok (all_at c.more 62 rfl)) (all_at c.more 63 rfl) ml_Sh_cut_off mc_Sh_cut_off mp_Sh_cut_off (He.eqO_ok (c.d.fact 69 rfl))
    (He.cls_ok (c.d.fact 70 rfl)) (all_at c.more 64 rfl) (all_at c.more 65 rfl) (He.eqO_ok (c.d.fact 71 rfl)) (He.eqO_ok (c.d.fact 72 rfl)) (He.eqO_ok (c.d.fact 73 rfl)) (He.eqO_ok (c.d.fact 74 rfl)) (He.eqO_ok (c.d.fact 75 rfl))
    (He.eqO_ok (c.d.fact 76 rfl)) (He.eqO_ok (c.d.fact 77 rfl)) (He.eqO_ok (c.d.fact 78 rfl)) (He.eqO_ok (all_at c.more 66 rfl)) (all_at c.more 67 rfl) ml_Fg_least mc_Fg_least mp_Fg_least
    (He.eqO_ok (all_at c.more 68 rfl)) (all_at c.more 69 rfl) ml_Fg_trail mc_Fg_trail mp_Fg_trail (He.eqO_ok (all_at c.more 70 rfl)) (all_at c.more 71 rfl) ml_Fg_count
    mc_Fg_count mp_Fg_count (He.eqO_ok (all_at c.more 72 rfl)) (all_at c.more 73 rfl) FD_Fg___init__ g_FAR g_MOST
-- SPLIT
theorem runL (w : World) : HandSHeadRun.RunEq RowL (PySem.W.view RowL.prog [59]) hkL obL 40000 looseL w := run_parts run1 run2 run4 w
end Fm
open PySem PySem.W PySem.Calls PyProof.Rows
set_option maxRecDepth 100000 in
set_option maxHeartbeats 0 in
theorem PySem.Challenge.cw_farmates_k23_whole_mirrors_holds : PySem.Challenge.rw_farmates_k23_whole_mirrors.Holds := by
  w_on; o_law
  refine HandSHeadRun.head_any (r := OpenLaw.row PySem.Challenge.rw_farmates_k23_whole_mirrors) (q := view (OpenLaw.row PySem.Challenge.rw_farmates_k23_whole_mirrors).prog [59]) (H := Fm.hkL) (ob := Fm.obL) (M := 40000) (loose := Fm.looseL) (d := HandSHeadRun.topDef (OpenLaw.row PySem.Challenge.rw_farmates_k23_whole_mirrors).prog 59) (kwd := []) Fm.obL_eq
    (by kernel_rfl) (fun s => by kernel_rfl) Fm.runL (by kernel_rfl) (by kernel_rfl) (by kernel_rfl) (by rfl) (by first | assumption | decide +kernel) (by decide +kernel) ⟨rfl, rfl, rfl, rfl, rfl, by decide +kernel⟩ ?hw ?hc
  case hw => w_witness2
  case hc =>
    refine LamX.walk_ofTsE (l := PySem.Challenge.rw_farmates_k23_whole_mirrors) (n := 63) (k := 13) (x := "_law_script") (CX := fun _ => L2.CX0) rfl (by decide) (by kernel_rfl) ⟨rfl, by decide, by decide⟩ ?F (fun _ _ _ _ _ z => z)
    intro w mg fa h Y G hm0
    obtain ⟨K, KX, c⟩ := Y
    have hm : mg ("law" : PySem.Str) = some (.ref fa) := by
      have en : (HandSHeadRun.topDef (OpenLaw.row PySem.Challenge.rw_farmates_k23_whole_mirrors).prog 59).name = ("law" : PySem.Str) := by kernel_rfl
      rw [← en]
      exact hm0
    exact ⟨K, KX, Fm.all_of KX G hm c⟩
