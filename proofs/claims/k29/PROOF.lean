import PyProof.Rows.All
import Wide.All
import OpenK.AllK
import Wide.FinOn
import HandS.ForMost
import HandS.Codes
import HandS.IsInst
import HandS.Wide
import HandS.WideBits
import HandS.SetFor
import HandS.Strs
import HandS.Style
import HandS.ForExc
import HandS.ExcInit
import HandS.ExcIs
import HandS.ExcField
import HandS.FStr
import HandS.Defaults
import HandS.MakeKwOnly
import HandS.NoneIn
import HandS.OwnEq
import PyProof.InstNe
import HandS.Lambda
import HandS.EndTab
import HandS.HotCalls
import HandS.FStrTup
import HandS.DictComp
import HandS.Iter
import HandS.Zip
import HandS.More
import HandS.DictTup
import HandS.ListItems
import HandS.Keys
import HandS.SortKw
import HandS.Walk
import HandS.Deep
import KE.DataMinMax
import KE.GoesEnum
import HandS.TryOnly
import KE.KMinKey
import HandS.Conv
import KE.KStateDown
import HandS.Head0
import HandS.Head1
import HandS.Head2
import HandS.HeadHook1
import HandS.HeadHook2
import HandS.HeadHook3
import HandS.HeadHook4
import HandS.HeadWalk
import PySem.Challenge.RW_farmates_k29_roads_grown_trimmed_swelled
set_option Elab.async false
set_option linter.all false
set_option maxRecDepth 100000
set_option maxHeartbeats 4000000
namespace Fm
open PySem L2
section
open HandSHeadRun PyProof.Rows PySem.Calls PySem.W

def top (i : Nat) : Stmt := PySem.Challenge.pw_farmates_k29_roads_grown_trimmed_swelled.main.body.getD i (.Pass ⟨0, 0, 0, 0⟩)

abbrev s_open : Stmt := top 68
abbrev s_pull : Stmt := top 69
abbrev s_like : Stmt := top 71
abbrev s_holds : Stmt := top 36
abbrev s_part : Stmt := top 35
abbrev s_farinit : Stmt := inClass (top 2) 0
abbrev s_bninit : Stmt := inClass (top 3) 0
abbrev s_is_mating : Stmt := top 29
abbrev s_need_from : Stmt := top 26
abbrev s_need_within : Stmt := top 27
abbrev s_need_length : Stmt := top 28
abbrev s_need_mating : Stmt := top 30
abbrev s_clipped : Stmt := top 39
abbrev s_mating : Stmt := top 74
abbrev s_road : Stmt := top 75
abbrev s_Ro_init : Stmt := inClass (top 66) 0
abbrev s_Ro_become : Stmt := inClass (top 66) 1
abbrev s_Ro_next_number : Stmt := inClass (top 66) 2
abbrev s_Ro_length : Stmt := inClass (top 66) 11
abbrev s_Ro_matings : Stmt := inClass (top 66) 12
abbrev s_Ro_mate_as : Stmt := inClass (top 66) 5
abbrev s_Ro_mate : Stmt := inClass (top 66) 4
abbrev s_Ro_trim : Stmt := inClass (top 66) 8
abbrev s_paved : Stmt := top 78
abbrev s_swelled : Stmt := top 38
abbrev s_Ro_swell : Stmt := inClass (top 66) 9
abbrev s_Ro_grow : Stmt := inClass (top 66) 7
abbrev s_why : Stmt := top 73
abbrev s_fields : Stmt := top 72
abbrev s_odd : Stmt := top 77
abbrev s_ends : Stmt := top 76
abbrev s_any : Stmt := top 70
abbrev s_told_pairs : Stmt := top 79
abbrev s_refusals : Stmt := top 80
abbrev s_done : Stmt := top 81
abbrev s_law : Stmt := top 82
def dD (x : Str) (st : Stmt) : He.DefD := { at_ := (x, none), name := x, qual := x, params := defArgs st, body := defBody st, scope := defScope st }
def dM (C m q : Str) (st : Stmt) : He.DefD := { at_ := (C, some m), name := m, qual := q, params := defArgs st, body := defBody st, scope := defScope st }
def dMs (C m q : Str) (st : Stmt) : He.DefD := { at_ := (C, some m), name := m, qual := q, params := defArgs st, body := defBody st, scope := defScope st, dfl := [.str ""] }
def errB (K : PySem.W.Frag) (C : Addr) : Bool := (match K.lookup C with
    | some ⟨.type t, _, .cls cd, sl⟩ => decide (t = "type") && (cd.hasDict && (!cd.hasDel && (match cd.mro, sl.toList with
      | .ref D :: bm, [_, _, _, _, some (.builtin n), _] => decide (D = C) && (decide (n = "ValueError.__new__") && PySem.HandSPX.refsVE bm)
      | _, _ => false)))
    | _ => false) && (He.eqO (PySem.W.findIn K (.ref C) "__setattr__") (some (some (.builtin "object.__setattr__"))) && (decide (PySem.W.subIn K (.ref C) (.type "BaseException") = some true) &&
  (decide (PySem.W.typeIn K (.ref C) = some (.type "type")) && (PySem.W.keepIn K (.ref C) && He.eqO (PySem.W.findIn K (.ref C) "word") (some none)))))
def excB (K : PySem.W.Frag) (C : Addr) : Bool := xfB K C && (He.eqO (PySem.W.findIn K (.ref C) "__class__") (some (some (.builtin "object.__class__"))) && (He.eqO (PySem.W.specialIn K (.builtin "object.__class__") "__get__") (some (some (.builtin "getset_descriptor.__get__"))) &&
  (decide (PySem.W.takesIn K (.builtin "object.__class__") = some true) && decide (PySem.W.mroIn K C (.type "object") = some true))))
def cfnB (K : PySem.W.Frag) (C : Addr) (m : Str) (f : Addr) : Bool := He.eqO (PySem.W.specialIn K (.ref C) "__getattribute__") (some (some (.builtin "type.__getattribute__"))) && (PySem.W.readsIn K C (.type "type") && ((match PySem.W.findCls K (.ref C) (.type "type") m with
    | some (.val (.ref g)) => decide (g = f)
    | _ => false) && PySem.W.keepIn K (.ref f)))
def bltB (K : PySem.W.Frag) (T m b : String) : Bool := match PySem.W.findCls K (.type T) (.type "type") m with
  | some (.val (.builtin g)) => decide (g = b)
  | _ => false
def lawAt : He.Defn := ("_law_refusals", none)
def kidsY (o : Obj) : List Addr := match o.data with
  | .dict es _ => es.toList.flatMap fun e => He.refV e.val
  | .func fd => He.refV fd.code ++ (He.refV fd.defaults ++ He.refV fd.kwdefaults)
  | .cls cd => [cd.ns]
  | _ => []
def downY (g : Addr → Option Obj) (as : List Addr) : List Addr := as.flatMap fun a => match g a with
  | some o => kidsY o
  | none => []
def reachY (g : Addr → Option Obj) (a1 : List Addr) : List Addr := a1 ++ (downY g a1 ++ (downY g (downY g a1) ++ downY g (downY g (downY g a1))))
def seenY (g : Addr → Option Obj) : PySem.W.Frag := He.frT g (cStatics :: mainGlobals :: reachY g (downY g [mainGlobals]))
def tabY (g : Addr → Option Obj) (K : PySem.W.Frag) : Bool := PySem.W.codeHdIn K (He.cT K lawAt).1 (He.cT K lawAt).2 && (g (He.cT K lawAt).2).any He.emptyTab
def PartEq {β : Type} (p : Program) (M : Nat) (f : PySem.W.SharedT → β) (v : World → β) : Prop := ∀ (w : World) (os : OsState), (endF (stepQ (denQ tabQ) p w) M p w os).map f = some (v w)
def SeenEq (r : PySem.W.OpenRow) (q : Program) (M : Nat) (loose : List Str) : Prop := ∀ (w : World) (os : OsState),
  (endF (stepQ (denQ tabQ) r.prog w) M r.prog w os).map (fun s => (looksF r.prog (boot_heap w.params) s.abs, seenQ q loose (importedModules r.prog.main.body) (fun s => PySem.W.xlAt q [] s && PySem.W.recOk r.toRowW.records s) s.abs)) = some (true, PySem.W.openGood q loose)
def okY (fas : List He.Fa) (fns : List He.DefD) (ex : PySem.W.Frag → List Bool) (g : Addr → Option Obj) (K : PySem.W.Frag) : Bool := ((fas.all fun f => f.ok K) && fns.all fun d => d.ok K) && ((ex K).all (fun b => b) && tabY g K)
def fnL0 : List He.DefD := [dD "_law_open" s_open, dD "_law_pull" s_pull, dD "_law_any" s_any, dD "_law_like" s_like, dD "_law_fields" s_fields, dD "_law_why" s_why, dD "_law_mating" s_mating, dD "_law_road" s_road, dD "_law_ends" s_ends, dD "_law_odd" s_odd, dD "_law_paved" s_paved, dD "_law_told_pairs" s_told_pairs, dD "_law_refusals" s_refusals, dD "_law_done" s_done, dD "need_from" s_need_from, dD "need_within" s_need_within, dD "need_length" s_need_length, dD "need_mating" s_need_mating, dD "is_mating" s_is_mating, dD "clipped" s_clipped, dD "part" s_part, dD "holds" s_holds, dD "swelled" s_swelled, dD "law" s_law, dMs "FarError" "__init__" "FarError.__init__" s_farinit, dM "BadNumber" "__init__" "BadNumber.__init__" s_bninit, dM "Road" "become" "Road.become" s_Ro_become, dM "Road" "next_number" "Road.next_number" s_Ro_next_number, dM "Road" "matings" "Road.matings" s_Ro_matings, dM "Road" "length" "Road.length" s_Ro_length]
def fnL1 : List He.DefD := [dM "Road" "mate_as" "Road.mate_as" s_Ro_mate_as, dM "Road" "grow" "Road.grow" s_Ro_grow, dM "Road" "trim" "Road.trim" s_Ro_trim, dM "Road" "swell" "Road.swell" s_Ro_swell, { at_ := ("Road", some "__init__"), name := "__init__", qual := "Road.__init__", params := defArgs s_Ro_init, body := defBody s_Ro_init, scope := defScope s_Ro_init, dfl := [.int 0], kwd := [] }, { at_ := ("Road", some "mate"), name := "mate", qual := "Road.mate", params := defArgs s_Ro_mate, body := defBody s_Ro_mate, scope := defScope s_Ro_mate, dfl := [], kwd := [("turned", .int 0)] }]
def fnL : List He.DefD := fnL0 ++ fnL1
def faL0 : List He.Fa := [.glo "_law_open", .glo "_law_pull", .glo "_law_any", .glo "_law_like", .glo "_law_fields", .glo "_law_why", .glo "_law_mating", .glo "_law_road", .glo "_law_ends", .glo "_law_odd", .glo "_law_paved", .glo "_law_told_pairs", .glo "_law_refusals", .glo "_law_done", .glo "need_from", .glo "need_within", .glo "need_length", .glo "need_mating", .glo "is_mating", .glo "clipped", .glo "part", .glo "holds", .glo "swelled", .glo "law", .free "len", .free "list", .free "tuple", .free "bool", .free "int", .free "str"]
def faL1 : List He.Fa := [.free "isinstance", .free "all", .free "any", .free "range", .free "max", .free "min", .free "dict", .free "sorted", .free "ValueError", .glo "FarError", .glo "BadNumber", .noat "BadNumber" "number", .glo "NoMating", .glo "NoFamily", .glo "TooMuch", .glo "Road", .cls "Road", .noat "Road" "extent", .noat "Road" "standing", .noat "Road" "kept", .noat "Road" "foldings", .int "FAR" 1000000000000000000, .int "MOST" 24]
def faL : List He.Fa := faL0 ++ faL1
def exL0 (K : PySem.W.Frag) : List Bool := [cfnB K (He.ga K "FarError") "__init__" (He.ma K (He.ga K "FarError") "__init__"), bltB K "ValueError" "__init__" "ValueError.__init__", errB K (He.ga K "BadNumber"), xfB K (He.ga K "BadNumber"), excB K (He.ga K "BadNumber"), decide (PySem.W.exmOne K (.ref (He.ga K "BadNumber")) (.ref (He.ga K "FarError")) = some true), He.eqO (PySem.W.findIn K (.ref (He.ga K "BadNumber")) "__init__") (some (some (.ref (He.ma K (He.ga K "BadNumber") "__init__")))), decide (PySem.W.typeIn K (.ref (He.ma K (He.ga K "BadNumber") "__init__")) = some (.type "function")), PySem.W.makesIn K (He.ga K "Road"), PySem.W.keepIn K (.ref (He.ga K "Road")), He.eqO (PySem.W.findIn K (.ref (He.ga K "Road")) "become") (some (some (.ref (He.ma K (He.ga K "Road") "become")))), PySem.W.isFn K (.ref (He.ma K (He.ga K "Road") "become")), He.eqO (PySem.W.findIn K (.ref (He.ga K "Road")) "next_number") (some (some (.ref (He.ma K (He.ga K "Road") "next_number")))), PySem.W.isFn K (.ref (He.ma K (He.ga K "Road") "next_number")), He.eqO (PySem.W.findIn K (.ref (He.ga K "Road")) "matings") (some (some (.ref (He.ma K (He.ga K "Road") "matings")))), PySem.W.isFn K (.ref (He.ma K (He.ga K "Road") "matings")), He.eqO (PySem.W.findIn K (.ref (He.ga K "Road")) "length") (some (some (.ref (He.ma K (He.ga K "Road") "length")))), PySem.W.isFn K (.ref (He.ma K (He.ga K "Road") "length")), He.eqO (PySem.W.findIn K (.ref (He.ga K "Road")) "mate_as") (some (some (.ref (He.ma K (He.ga K "Road") "mate_as")))), PySem.W.isFn K (.ref (He.ma K (He.ga K "Road") "mate_as")), He.eqO (PySem.W.findIn K (.ref (He.ga K "Road")) "grow") (some (some (.ref (He.ma K (He.ga K "Road") "grow")))), PySem.W.isFn K (.ref (He.ma K (He.ga K "Road") "grow")), He.eqO (PySem.W.findIn K (.ref (He.ga K "Road")) "trim") (some (some (.ref (He.ma K (He.ga K "Road") "trim")))), PySem.W.isFn K (.ref (He.ma K (He.ga K "Road") "trim")), He.eqO (PySem.W.findIn K (.ref (He.ga K "Road")) "swell") (some (some (.ref (He.ma K (He.ga K "Road") "swell")))), PySem.W.isFn K (.ref (He.ma K (He.ga K "Road") "swell")), He.eqO (PySem.W.findIn K (.ref (He.ga K "Road")) "__init__") (some (some (.ref (He.ma K (He.ga K "Road") "__init__")))), PySem.W.isFn K (.ref (He.ma K (He.ga K "Road") "__init__")), He.eqO (PySem.W.findIn K (.ref (He.ga K "Road")) "mate") (some (some (.ref (He.ma K (He.ga K "Road") "mate")))), PySem.W.isFn K (.ref (He.ma K (He.ga K "Road") "mate"))]
def exL (K : PySem.W.Frag) : List Bool := exL0 K
def looseL0 : List Str := ["_wall", "FarError", "BadNumber", "BadName", "BadMating", "BadPlace", "BadStretch", "BadMove", "BadMoves", "BadBoard", "BadCounts", "BadSide", "TooMuch", "BadText", "Taken", "Full", "Missing", "NoMating", "NoRoad", "NoSide", "NoFamily", "NothingLeft", "FAR", "MOST", "need_from", "need_within", "need_length", "is_mating", "need_mating", "need_place"]
def looseL1 : List Str := ["common", "normal", "back", "part", "holds", "moved", "swelled", "clipped", "need_road", "step_of", "end_of", "is_leader", "is_repeat", "halved", "merged", "led_back", "Front", "fault_of", "fold_down", "Folder", "Shares", "led_by", "wound", "led_pieces", "settled", "last_up_to", "joined", "first_ranks", "Folding", "Road"]
def looseL2 : List Str := ["_law_open", "_law_pull", "_law_any", "_law_like", "_law_fields", "_law_why", "_law_mating", "_law_road", "_law_ends", "_law_odd", "_law_paved", "_law_told_pairs", "_law_refusals", "_law_done"]
def looseL : List Str := looseL0 ++ looseL1 ++ looseL2
abbrev RowL : PySem.W.OpenRow := PySem.W.OpenLaw.row PySem.Challenge.rw_farmates_k29_roads_grown_trimmed_swelled
theorem run1 : SeenEq RowL (PySem.W.view RowL.prog [82]) 40000 looseL := by
  intro w os
  kernel_rfl
theorem run2 : PartEq RowL.prog 40000 (fun s => okY faL fnL exL (HandSHeadRun.getT s) (seenY (HandSHeadRun.getT s))) fun _ => true := by
  intro w os
  kernel_rfl
theorem run4 : PartEq RowL.prog 40000 (fun s => fnL.map fun d => He.fnW (seenY (HandSHeadRun.getT s)) d.at_) fun _ => fnL.map He.DefD.val := by
  intro w os
  kernel_rfl
end
/-! ### what stands behind the top -/
structure DefAt (K : PySem.W.Frag) (mg : Str → Option Value) (x : Str) (st : Stmt) (ps : List Str) (f : Addr) (fd : FuncData) : Prop where
  F : Fun K x x st f fd
  b : Binds K fd ps []
  g : mg x = some (.ref f)
structure Bn (mg : Str → Option Value) : Prop where
  len : mg "len" = none
  list : mg "list" = none
  tuple : mg "tuple" = none
  bool : mg "bool" = none
  int : mg "int" = none
  str : mg "str" = none
  isinstance : mg "isinstance" = none
  all : mg "all" = none
  any : mg "any" = none
  range : mg "range" = none
  max : mg "max" = none
  min : mg "min" = none
  dict : mg "dict" = none
  sorted : mg "sorted" = none
/-! ### heaps -/
theorem same_upd {H : Hp} {p : Addr} {o : HO} (h : H p = none) : Same H (upd H p o) := fun b x e => by
  rw [upd_ne (ne_of_none e h)]
  exact e
/-- all but d stands as it stood -/
def Keep (d : Addr) (H H' : Hp) : Prop := ∀ b o, b ≠ d → H b = some o → H' b = some o
theorem Keep.refl (d : Addr) (H : Hp) : Keep d H H := fun _ _ _ h => h
theorem Keep.trans {d : Addr} {H H1 H2 : Hp} (a : Keep d H H1) (b : Keep d H1 H2) : Keep d H H2 := fun c o n h => b c o n (a c o n h)
theorem Keep.upd {d : Addr} {H : Hp} {o : HO} : Keep d H (upd H d o) := fun b x n h => by
  rw [upd_ne n]
  exact h
theorem keepS {d : Addr} {H H' : Hp} (a : Same H H') : Keep d H H' := fun b o _ h => a b o h
/-! ### the drawing -/
structure Drawn (H : Hp) (d l : Addr) (ns : List Int) (i z s : Int) : Prop where
  at_d : H d = some (.lst [.ref l, .int i, .int z, .int s])
  at_l : H l = some (.lst (ns.map V.int))
  len : ns.length ≤ 63
  i0 : 0 ≤ i
  z0 : 0 ≤ z
  s0 : 0 ≤ s
  s1 : s < 2147483629
def Draw (H : Hp) (d l : Addr) : Prop := ∃ ns i z s, Drawn H d l ns i z s
theorem Drawn.ne {H : Hp} {d l : Addr} {ns : List Int} {i z s : Int} (h : Drawn H d l ns i z s) : l ≠ d := by
  refine ne_of h.at_l h.at_d fun e => ?_
  cases ns with
  | nil => cases e
  | cons x r => cases e
theorem Drawn.same {H H' : Hp} {d l : Addr} {ns : List Int} {i z s : Int} (h : Drawn H d l ns i z s) (e : Same H H') : Drawn H' d l ns i z s := { h with at_d := e _ _ h.at_d, at_l := e _ _ h.at_l }
theorem Draw.same {H H' : Hp} {d l : Addr} (h : Draw H d l) (e : Same H H') : Draw H' d l := by
  obtain ⟨ns, i, z, s, h⟩ := h
  exact ⟨ns, i, z, s, h.same e⟩
/-- the drawing list stored anew -/
theorem Drawn.put {H : Hp} {d l : Addr} {ns : List Int} {i z s i' z' s' : Int} (h : Drawn H d l ns i z s) (hi : 0 ≤ i') (hz : 0 ≤ z') (h0 : 0 ≤ s') (h1 : s' < 2147483629) :
    Drawn (upd H d (.lst [.ref l, .int i', .int z', .int s'])) d l ns i' z' s' :=
  ⟨upd_same, (by rw [upd_ne h.ne]; exact h.at_l), h.len, hi, hz, h0, h1⟩
def spOpen (K : PySem.W.Frag) : Sp := fun vs H Q _ => ∃ (a : Addr) (ns : List Int), vs = [.ref a] ∧ SqL K H a (ns.map V.int) ∧ ns.length ≤ 63 ∧
  ∀ H' d l, Same H H' → H d = none → H l = none → Draw H' d l → Q (.ref d) H'
def spPull : Sp := fun vs H Q _ => ∃ (d l : Addr) (c : Int), vs = [.ref d, .int c] ∧ Draw H d l ∧ 1 ≤ c ∧ c < 2 ^ 100 ∧
  ∀ (v : Int) (H' : Hp), 0 ≤ v → v < c → Draw H' d l → Keep d H H' → Q (.int v) H'
/-! ### data that is compared, at most n deep -/
mutual
inductive Rp (H : Hp) : Nat → V → PyData → Prop
  | non (n : Nat) : Rp H n .non .none
  | bl (n : Nat) (b : Bool) : Rp H n (.bl b) (.bool b)
  | int (n : Nat) (i : Int) : Rp H n (.int i) (.int i)
  | str (n : Nat) (x : Str) : Rp H n (.str x) (.str x)
  | lst {n : Nat} {a : Addr} {xs : List V} {ds : List PyData} : H a = some (.lst xs) → xs.length ≤ 100000 → RpAll H n xs ds → Rp H (n + 1) (.ref a) (.list ds)
  | tup {n : Nat} {a : Addr} {xs : List V} {ds : List PyData} : H a = some (.tup xs) → xs.length ≤ 100000 → RpAll H n xs ds → Rp H (n + 1) (.ref a) (.tuple ds)
inductive RpAll (H : Hp) : Nat → List V → List PyData → Prop
  | nil (n : Nat) : RpAll H n [] []
  | cons {n : Nat} {v : V} {vs : List V} {d : PyData} {ds : List PyData} : Rp H n v d → RpAll H n vs ds → RpAll H n (v :: vs) (d :: ds)
end
mutual
theorem Rp.same {H H' : Hp} (e : Same H H') : ∀ {n : Nat} {v : V} {d : PyData}, Rp H n v d → Rp H' n v d
  | _, _, _, .non n => .non n
  | _, _, _, .bl n b => .bl n b
  | _, _, _, .int n i => .int n i
  | _, _, _, .str n x => .str n x
  | _, _, _, .lst h l r => .lst (e _ _ h) l (RpAll.same e r)
  | _, _, _, .tup h l r => .tup (e _ _ h) l (RpAll.same e r)
theorem RpAll.same {H H' : Hp} (e : Same H H') : ∀ {n : Nat} {vs : List V} {ds : List PyData}, RpAll H n vs ds → RpAll H' n vs ds
  | _, _, _, .nil n => .nil n
  | _, _, _, .cons h r => .cons (Rp.same e h) (RpAll.same e r)
end
theorem RpAll.length {H : Hp} : ∀ {n : Nat} {vs : List V} {ds : List PyData}, RpAll H n vs ds → vs.length = ds.length
  | _, _, _, .nil _ => rfl
  | _, _, _, .cons _ r => congrArg (· + 1) (RpAll.length r)
theorem RpAll.get {H : Hp} : ∀ {n : Nat} {vs : List V} {ds : List PyData}, RpAll H n vs ds → ∀ (i : Nat), i < ds.length → ∃ v d, vs[i]? = some v ∧ ds[i]? = some d ∧ Rp H n v d
  | _, _, _, .nil _, i, h => absurd h (Nat.not_lt_zero i)
  | _, _, _, .cons (v := v) (d := d) h r, 0, _ => ⟨v, d, rfl, rfl, h⟩
  | _, _, _, .cons h r, i + 1, hi => by
    obtain ⟨v, d, a, b, c⟩ := RpAll.get r i (Nat.lt_of_succ_lt_succ hi)
    exact ⟨v, d, a, b, c⟩
def spLike (n : Nat) : Sp := fun vs H Q _ => ∃ (a b : V) (d : PyData), vs = [a, b] ∧ Rp H n a d ∧ Rp H n b d ∧ ∀ H', Same H H' → Q (.bl true) H'
def spBot : Sp := fun _ _ _ _ => False
section
variable {P : Program} {w : World} {K : PySem.W.Frag} {mg : Str → Option Value} {base : Heap}
theorem ok_bot {f : Addr} {fd : FuncData} {ps : List Str} : FnOk P w K mg base CX0 0 f fd ps spBot := ⟨fun _ _ _ _ h => h.elim, fun _ _ _ _ _ _ _ _ _ _ _ _ _ h => h.elim⟩
end
theorem Draw.ne_new {H : Hp} {d l p : Addr} (h : Draw H d l) (n : H p = none) : p ≠ d := by
  obtain ⟨ns, i, z, s, h⟩ := h
  exact (ne_of_none h.at_d n).symm
theorem Keep.of {d : Addr} {H H' : Hp} (k : Keep d H H') {b : Addr} {o : HO} (h : H b = some o) (n : b ≠ d) : H' b = some o := k b o n h
theorem sz_lt {n : Nat} (h : n < 100000) : n < sizeLine := Nat.lt_of_lt_of_le h (by decide)

/-! ### _law_open -/
abbrev N_open : List Str := ["_law_script", "_law_seed", "_law_cell"]
abbrev P_open : List Str := ["_law_script"]
theorem sc_open : FnScope N_open P_open (defScope s_open) := ⟨rfl, rfl, rfl, by decide +kernel, rfl, by decide +kernel, by decide +kernel⟩
theorem cut63 (xs : List V) (h : xs.length ≤ 63) : cutV xs none (some 63) = xs := by
  unfold cutV
  rw [show HT.sIx xs.length xs.length (some 63) = min 63 xs.length from HT.sIx_nat xs.length xs.length 63, HT.sIx_none, Nat.min_eq_right h]
  show (xs.drop 0).take (xs.length - 0) = xs
  rw [List.drop_zero, Nat.sub_zero, List.take_length]
section
variable {P : Program} {w : World} {K : PySem.W.Frag} {mg : Str → Option Value} {base : Heap}
theorem ok_open {f : Addr} {fd : FuncData} (D : DefAt K mg "_law_open" s_open P_open f fd) (B : Bn mg) : FnOk P w K mg base CX0 1 f fd P_open (spOpen K) := by
  refine D.F.ok sc_open (fun vs H Q E h => ?_) (fun cdv A outer s H vs Q E hr h => ?_)
  · obtain ⟨a, ns, rfl, _⟩ := h
    rfl
  · obtain ⟨a, ns, rfl, hS, hlen, q⟩ := h
    refine ⟨_, (pss_cons (ps_set (i := 1) sc_open.nd rfl (.inl rfl) pe_int)
      (pss_cons (ps_for PassesOwn.never rfl (pi_list (pe_slice sl_list (pv 0) po_none (po_some pe_int))) (pg_name (i := 2) sc_open.nd rfl (.inl rfl)) (pss_one (ps_set (i := 1) sc_open.nd rfl (.inl rfl) (pe_op op_mod (pe_op op_add (pe_op op_add (pe_op op_mul (pv 1) pe_int) (pe_op op_mod (pv 2) pe_int)) pe_int) pe_int))))
      (pss_one (ps_ret (pe_lst (pa_cons (pe_callTy call_list_of (by rfl) B.list (by decide +kernel) (pa_cons (pe_slice sl_list (pv 0) po_none (po_some pe_int)) pa_nil)) (pa_cons pe_int (pa_cons pe_int (pa_cons (pv 1) pa_nil))))))))), ?_⟩
    refine ⟨.ref a, rfl, 63, rfl, a, ns.map V.int, rfl, hS, fun c nc => ?_⟩
    rw [cut63 _ (by rw [List.length_map]; exact hlen)]
    have s1 : Same H (upd H c (.lst (ns.map V.int))) := same_upd nc
    refine ⟨c, rfl, ⟨_, SqL.of upd_same⟩, for_list (K := K) (a := c) (xs := ns.map V.int) (fun i σ H2 => ∃ (sd : Int) (v : Option V), σ = [some (.ref a), some (.int sd), v] ∧ H2 = upd H c (.lst (ns.map V.int)) ∧ 0 ≤ sd ∧ sd < 2147483629)
      ⟨9134, none, rfl, rfl, by decide, by decide⟩ (fun i σ H2 _ ⟨_, _, _, e2, _⟩ => e2 ▸ SqL.of upd_same) ?_ ?_⟩
    · rintro i y σ H2 hi ⟨sd, v, rfl, rfl, h0, h1⟩
      obtain ⟨z, rfl⟩ : ∃ z, y = V.int z := by
        rw [List.getElem?_map] at hi
        cases e : ns[i]? with
        | none =>
          rw [e] at hi
          cases hi
        | some z =>
          rw [e] at hi
          exact ⟨z, (Option.some.inj hi).symm⟩
      refine ⟨_, rfl, _, _, rfl, rfl, .inl ⟨by omega, by omega⟩, _, rfl, _, _, rfl, rfl, (by show (0 : Int) < 2147483587; decide), _, _, rfl, rfl, _, _, rfl, rfl, _, _, rfl, rfl, (by show (0 : Int) < 2147483629; decide), ?_⟩
      exact ⟨_, _, rfl, rfl, Int.emod_nonneg _ (by decide), Int.emod_lt_of_pos _ (by decide)⟩
    · rintro σ H2 ⟨sd, v, rfl, rfl, h0, h1⟩
      refine ⟨.ref a, rfl, 63, rfl, a, ns.map V.int, rfl, s1.seq hS, fun p np => ?_⟩
      rw [cut63 _ (by rw [List.length_map]; exact hlen)]
      have s2 : Same H (upd (upd H c (.lst (ns.map V.int))) p (.lst (ns.map V.int))) := s1.trans (same_upd np)
      refine ⟨p, _, rfl, .inl (SqL.of upd_same), fun l nl => ?_⟩
      refine ⟨_, rfl, by show 4 ≤ sizeLine; decide, fun d nd => ?_⟩
      have s3 : Same H (upd (upd (upd H c (.lst (ns.map V.int))) p (.lst (ns.map V.int))) l (.lst (ns.map V.int))) := s2.trans (same_upd nl)
      refine q _ d l (s3.trans (same_upd nd)) (s3.free nd) (s2.free nl) ⟨ns, 0, 0, sd, upd_same, ?_, hlen, by decide, by decide, h0, h1⟩
      have nld : l ≠ d := fun e => by
        rw [← e, upd_same] at nd
        cases nd
      rw [upd_ne nld, upd_same]
end

/-! ### _law_pull -/
abbrev N_pull : List Str := ["_law_draw", "_law_cap", "_law_cell", "_law_got", "_law_seed"]
abbrev P_pull : List Str := ["_law_draw", "_law_cap"]
theorem sc_pull : FnScope N_pull P_pull (defScope s_pull) := ⟨rfl, rfl, rfl, by decide +kernel, rfl, by decide +kernel, by decide +kernel⟩
section
variable {P : Program} {w : World} {K : PySem.W.Frag} {mg : Str → Option Value} {base : Heap}
theorem ok_pull {f : Addr} {fd : FuncData} (D : DefAt K mg "_law_pull" s_pull P_pull f fd) (B : Bn mg) : FnOk P w K mg base CX0 1 f fd P_pull spPull := by
  refine D.F.ok sc_pull (fun vs H Q E h => ?_) (fun cdv A outer s H vs Q E hr h => ?_)
  · obtain ⟨d, l, c, rfl, _⟩ := h
    rfl
  · obtain ⟨d, l, c, rfl, hD, hc1, hc2, q⟩ := h
    refine ⟨_, (C8.pss_cut (ps_if (PW.pt (pw_and (pt_cmpR op_lt (pe_ix ix_list (pv 0) pe_int (fun _ _ => rfl)) (pv 1) (nomark _)) (pw_and1 (pt_cmpR op_lt (pe_ix ix_list (pv 0) pe_int (fun _ _ => rfl)) (pe_callB call_len_seq (by rfl) B.len (by decide +kernel) (pa_cons (pe_ix ix_list (pv 0) pe_int (fun _ _ => rfl)) pa_nil)) (nomark _))))) (pss_cons (ps_set (i := 2) sc_pull.nd rfl (.inl rfl) (pe_ix ix_list (pe_ix ix_list (pv 0) pe_int (fun _ _ => rfl)) (pe_ix ix_list (pv 0) pe_int (fun _ _ => rfl)) (fun _ _ => rfl)))
      (pss_cons (ps_asg (pe_op op_add (pe_ix ix_list (pv 0) pe_int (fun _ _ => rfl)) pe_int) (pg_sub (pv 0) pe_int set_list))
      (pss_cons (ps_asg pe_int (pg_sub (pv 0) pe_int set_list))
      (pss_one (ps_if (pt_cmpR op_ge (pv 2) (pe_op op_pow pe_int pe_int) (nomark _)) (pss_one (ps_asg (pv 2) (pg_sub (pv 0) pe_int set_list))) (pss_one (ps_asg (pe_op op_mod (pe_op op_add (pe_op op_add (pe_op op_mul (pe_ix ix_list (pv 0) pe_int (fun _ _ => rfl)) pe_int) (pe_op op_mul (pe_op op_mod (pv 2) pe_int) pe_int)) pe_int) pe_int) (pg_sub (pv 0) pe_int set_list)))))))) pss_nil)
      (C8.pss_cut (ps_if (pt_cmpR op_ge (pe_ix ix_list (pv 0) pe_int (fun _ _ => rfl)) (pv 1) (nomark _)) (pss_cons (ps_set (i := 3) sc_pull.nd rfl (.inl rfl) (pe_op op_mod (pe_ix ix_list (pv 0) pe_int (fun _ _ => rfl)) (pv 1)))
      (pss_cons (ps_asg (pe_op op_fdivW (pe_ix ix_list (pv 0) pe_int (fun _ _ => rfl)) (pv 1)) (pg_sub (pv 0) pe_int set_list))
      (pss_one (ps_ret (pv 3))))) pss_nil)
      (pss_cons (ps_set (i := 4) sc_pull.nd rfl (.inl rfl) (pe_ix ix_list (pv 0) pe_int (fun _ _ => rfl)))
      (pss_cons (ps_asg (pe_op op_mod (pe_op op_add (pe_op op_add (pe_op op_mul (pe_op op_mod (pe_op op_mul (pv 4) (pv 4)) pe_int) pe_int) (pe_op op_mul (pv 4) pe_int)) pe_int) pe_int) (pg_sub (pv 0) pe_int set_list))
      (pss_cons (ps_if (pt_cmpR op_lt (pv 1) (pe_op op_pow pe_int pe_int) (nomark _)) (pss_one (ps_ret (pe_op op_mod (pe_op op_add (pe_op op_fdivW (pe_ix ix_list (pv 0) pe_int (fun _ _ => rfl)) pe_int) (pe_op op_mul (pe_op op_mod (pe_ix ix_list (pv 0) pe_int (fun _ _ => rfl)) pe_int) pe_int)) (pv 1)))) pss_nil)
      (pss_one (ps_ret (pe_op op_mod (pe_op op_add (pe_op op_fdivW (pe_op op_pow (pe_ix ix_list (pv 0) pe_int (fun _ _ => rfl)) pe_int) pe_int) (pe_ix ix_list (pv 0) pe_int (fun _ _ => rfl))) (pv 1))))))))), ?_⟩
    have hpow : CPow 10 18 := ⟨by decide, by decide, by decide⟩
    have hpow8 : CPow 10 8 := ⟨by decide, by decide, by decide⟩
    have ix0 : ∀ {a b e g : V}, atI [a, b, e, g] 0 = some a := fun {_ _ _ _} => atI_nat (j := 0) rfl
    have ix1 : ∀ {a b e g : V}, atI [a, b, e, g] 1 = some b := fun {_ _ _ _} => atI_nat (j := 1) rfl
    have ix2 : ∀ {a b e g : V}, atI [a, b, e, g] 2 = some e := fun {_ _ _ _} => atI_nat (j := 2) rfl
    have ix3 : ∀ {a b e g : V}, atI [a, b, e, g] 3 = some g := fun {_ _ _ _} => atI_nat (j := 3) rfl
    -- the first if
    refine ⟨fun σ H1 => ∃ y : Option V, σ = [some (.ref d), some (.int c), y, none, none] ∧ Draw H1 d l ∧ Keep d H H1, ?_, ?_⟩
    · obtain ⟨ns, i, z, sd, hW⟩ := hD
      refine ⟨.ref d, rfl, d, _, 2, .int z, rfl, rfl, SqL.of hW.at_d, ix2, .int c, rfl, z, c, rfl, rfl, _, rfl, ?_⟩
      refine ite2 (fun _ => ?_) (fun _ => iteF ⟨none, rfl, ⟨ns, i, z, sd, hW⟩, Keep.refl _ _⟩)
      refine ⟨.ref d, rfl, d, _, 1, .int i, rfl, rfl, SqL.of hW.at_d, ix1, .ref d, rfl, d, _, 0, .ref l, rfl, rfl, SqL.of hW.at_d, ix0, l, _, rfl, .inl (SqL.of hW.at_l), i, _, rfl, rfl, _, rfl, ?_⟩
      refine ite2 (fun hb => ?_) (fun _ => ⟨none, rfl, ⟨ns, i, z, sd, hW⟩, Keep.refl _ _⟩)
      have hil : i < ((ns.map V.int).length : Int) := of_decide_eq_true hb
      rw [List.length_map] at hil
      have hi0 := hW.i0
      obtain ⟨j, rfl⟩ : ∃ j : Nat, i = (j : Int) := ⟨i.toNat, by omega⟩
      have hj : j < ns.length := by omega
      have gj : (ns.map V.int)[j]? = some (.int ns[j]) := by
        rw [List.getElem?_map, List.getElem?_eq_getElem hj]
        rfl
      -- cell = draw[0][draw[1]]
      refine ⟨.ref d, rfl, d, _, 0, .ref l, rfl, rfl, SqL.of hW.at_d, ix0, .ref d, rfl, d, _, 1, .int (j : Int), rfl, rfl, SqL.of hW.at_d, ix1, l, _, (j : Int), .int ns[j], rfl, rfl, SqL.of hW.at_l, atI_nat gj, ?_⟩
      -- draw[1] = draw[1] + 1
      refine ⟨.ref d, rfl, d, _, 1, .int (j : Int), rfl, rfl, SqL.of hW.at_d, ix1, _, _, rfl, rfl, .ref d, rfl, d, _, 1, 1, rfl, rfl, hW.at_d, rfl, ?_⟩
      have W1 := hW.put (i' := (j : Int) + 1) (z' := z) (s' := sd) (by omega) hW.z0 hW.s0 hW.s1
      -- draw[2] = 0
      refine ⟨.ref d, rfl, d, _, 2, 2, rfl, rfl, upd_same, rfl, ?_⟩
      have W2 := W1.put (i' := (j : Int) + 1) (z' := 0) (s' := sd) (by omega) (by decide) hW.s0 hW.s1
      -- if cell >= 10 ** 18
      refine ⟨_, rfl, _, _, rfl, rfl, hpow, _, _, rfl, rfl, _, rfl, ?_⟩
      refine ite2 (fun hg => ?_) (fun _ => ?_)
      · have hg' : (10 : Int) ^ 18 ≤ ns[j] := of_decide_eq_true hg
        refine ⟨_, rfl, .ref d, rfl, d, _, 2, 2, rfl, rfl, upd_same, rfl, ?_⟩
        exact ⟨_, rfl, ⟨_, _, _, _, W2.put (i' := (j : Int) + 1) (z' := ns[j]) (s' := sd) (by omega) (by omega) hW.s0 hW.s1⟩, (Keep.upd.trans Keep.upd).trans Keep.upd⟩
      · refine ⟨.ref d, rfl, d, _, 3, .int sd, rfl, rfl, SqL.of upd_same, ix3, _, _, rfl, rfl, .inr ⟨by decide, by decide⟩, _, rfl, _, _, rfl, rfl, (by show (0 : Int) < 2147483647; decide), _, _, rfl, rfl, .inr ⟨by decide, by decide⟩, _, _, rfl, rfl, _, _, rfl, rfl, _, _, rfl, rfl, (by show (0 : Int) < 2147483629; decide), ?_⟩
        refine ⟨.ref d, rfl, d, _, 3, 3, rfl, rfl, upd_same, rfl, ?_⟩
        exact ⟨_, rfl, ⟨_, _, _, _, W2.put (i' := (j : Int) + 1) (z' := 0) (s' := _) (by omega) (by decide) (Int.emod_nonneg _ (by decide)) (Int.emod_lt_of_pos _ (by decide))⟩, (Keep.upd.trans Keep.upd).trans Keep.upd⟩
    · rintro σ H1 ⟨y, rfl, ⟨ns, i, z, sd, hW⟩, kp⟩
      -- the second if
      refine ⟨fun σ H2 => H2 = H1 ∧ ∃ y' : Option V, σ = [some (.ref d), some (.int c), y, y', none], ?_, ?_⟩
      · refine ⟨.ref d, rfl, d, _, 2, .int z, rfl, rfl, SqL.of hW.at_d, ix2, .int c, rfl, z, c, rfl, rfl, _, rfl, ?_⟩
        refine ite2 (fun hg => ?_) (fun _ => ⟨rfl, none, rfl⟩)
        refine ⟨.ref d, rfl, d, _, 2, .int z, rfl, rfl, SqL.of hW.at_d, ix2, .int c, rfl, _, _, rfl, rfl, (by omega), ?_⟩
        have hwd : CDivW z c := wide_div (b := 100) (by omega) (by omega) (by decide) (by decide)
        refine ⟨.ref d, rfl, d, _, 2, .int z, rfl, rfl, SqL.of hW.at_d, ix2, .int c, rfl, _, _, rfl, rfl, hwd, .ref d, rfl, d, _, 2, 2, rfl, rfl, hW.at_d, rfl, _, rfl, ?_⟩
        exact q _ _ (Int.emod_nonneg _ (by omega)) (Int.emod_lt_of_pos _ (by omega)) ⟨_, _, _, _, hW.put (i' := i) (z' := z / c) (s' := sd) hW.i0 (Int.ediv_nonneg hW.z0 (by omega)) hW.s0 hW.s1⟩ (kp.trans Keep.upd)
      · rintro σ H2 ⟨rfl, y', rfl⟩
        have hs0 := hW.s0
        have hs1 := hW.s1
        have hm : CMul sd sd := .inl ⟨by omega, by omega⟩
        -- seed = draw[3]; draw[3] = ..
        refine ⟨.ref d, rfl, d, _, 3, .int sd, rfl, rfl, SqL.of hW.at_d, ix3, ?_⟩
        refine ⟨_, rfl, _, rfl, _, _, rfl, rfl, hm, _, _, rfl, rfl, (by show (0 : Int) < 2147483647; decide), _, _, rfl, rfl, .inr ⟨by decide, by decide⟩, _, rfl, _, _, rfl, rfl, .inr ⟨by decide, by decide⟩, _, _, rfl, rfl, _, _, rfl, rfl, _, _, rfl, rfl, (by show (0 : Int) < 2147483629; decide), ?_⟩
        refine ⟨.ref d, rfl, d, _, 3, 3, rfl, rfl, hW.at_d, rfl, ?_⟩
        have n0 : 0 ≤ (sd * sd % 2147483647 * 3 + sd * 45991 + 746773) % 2147483629 := Int.emod_nonneg _ (by decide)
        have n1 : (sd * sd % 2147483647 * 3 + sd * 45991 + 746773) % 2147483629 < 2147483629 := Int.emod_lt_of_pos _ (by decide)
        have W1 := hW.put (i' := i) (z' := z) (s' := (sd * sd % 2147483647 * 3 + sd * 45991 + 746773) % 2147483629) hW.i0 hW.z0 n0 n1
        have na : ((sd * sd % 2147483647 * 3 + sd * 45991 + 746773) % 2147483629).natAbs < 2 ^ 64 := by omega
        -- if cap < 10 ** 8
        refine ⟨_, rfl, _, _, rfl, rfl, hpow8, _, _, rfl, rfl, _, rfl, ?_⟩
        refine ite2 (fun _ => ?_) (fun _ => ?_)
        · refine ⟨.ref d, rfl, d, _, 3, .int _, rfl, rfl, SqL.of W1.at_d, ix3, _, _, rfl, rfl, wide_div (b := 10) (by decide) (by decide) (by decide) (by decide), .ref d, rfl, d, _, 3, .int _, rfl, rfl, SqL.of W1.at_d, ix3, _, _, rfl, rfl, (by show (0 : Int) < 6151; decide), _, _, rfl, rfl, .inr ⟨by decide, by decide⟩, _, _, rfl, rfl, .int c, rfl, _, _, rfl, rfl, (by omega), ?_⟩
          exact q _ _ (Int.emod_nonneg _ (by omega)) (Int.emod_lt_of_pos _ (by omega)) ⟨_, _, _, _, W1⟩ (kp.trans Keep.upd)
        · refine ⟨.ref d, rfl, d, _, 3, .int _, rfl, rfl, SqL.of W1.at_d, ix3, _, _, rfl, rfl, ⟨by decide, by decide, na⟩, _, _, rfl, rfl, wide_div (b := 10) (by decide) (by decide) (by decide) (by decide), .ref d, rfl, d, _, 3, .int _, rfl, rfl, SqL.of W1.at_d, ix3, _, _, rfl, rfl, .int c, rfl, _, _, rfl, rfl, (by omega), ?_⟩
          exact q _ _ (Int.emod_nonneg _ (by omega)) (Int.emod_lt_of_pos _ (by omega)) ⟨_, _, _, _, W1⟩ (kp.trans Keep.upd)
end

/-! ### _law_like -/
abbrev N_like : List Str := ["_law_found", "_law_due", "_law_j"]
abbrev P_like : List Str := ["_law_found", "_law_due"]
theorem sc_like : FnScope N_like P_like (defScope s_like) := ⟨rfl, rfl, rfl, by decide +kernel, rfl, by decide +kernel, by decide +kernel⟩
section
variable {P : Program} {w : World} {K : PySem.W.Frag} {mg : Str → Option Value} {base : Heap}
theorem isn_no {v : V} {A B : Prop} (h : v ≠ .non) (b : B) : if decide (v = V.non) = true then A else B := by
  rw [decide_eq_false h]
  exact iteF b
theorem like_step {k n : Nat} {f : Addr} {fd : FuncData} {spR : Sp} (D_like : DefAt K mg "_law_like" s_like P_like f fd) (B : Bn mg) (G_like : FnOk P w K mg base CX0 k f fd P_like spR)
    (hR : ∀ m, n = m + 1 → ∀ vs H Q E, spLike m vs H Q E → spR vs H Q E) : FnOk P w K mg base CX0 (k + 1) f fd P_like (spLike n) := by
  refine D_like.F.ok sc_like (fun vs H Q E h => ?_) (fun cdv A outer s H vs Q E hr h => ?_)
  · obtain ⟨a, b, d, rfl, _⟩ := h
    rfl
  · obtain ⟨a, b, d, rfl, ha, hb, q⟩ := h
    refine ⟨_, (pss_cons (ps_if (pt_cmpR op_isN (pv 1) pe_non (nomark _)) (pss_one (ps_ret (pe_cmpR op_isN (pv 0) pe_non (nomark _)))) pss_nil)
      (pss_cons (ps_if (pt_val (pe_callB call_isi (by rfl) B.isinstance (by decide +kernel) (pa_cons (pv 1) (pa_cons (pe_bltn (v := .ty "bool") (by rfl) B.bool (by decide +kernel) rfl) pa_nil)))) (pss_one (ps_ret (pe_and (pe_callB call_isi (by rfl) B.isinstance (by decide +kernel) (pa_cons (pv 0) (pa_cons (pe_bltn (v := .ty "bool") (by rfl) B.bool (by decide +kernel) rfl) pa_nil))) (pe_one (pe_cmpR op_eq (pv 0) (pv 1) (nomark _)))))) pss_nil)
      (pss_cons (ps_if (pt_val (pe_callB call_isi (by rfl) B.isinstance (by decide +kernel) (pa_cons (pv 1) (pa_cons (pe_bltn (v := .ty "int") (by rfl) B.int (by decide +kernel) rfl) pa_nil)))) (pss_one (ps_ret (pe_and (pe_callB call_isi (by rfl) B.isinstance (by decide +kernel) (pa_cons (pv 0) (pa_cons (pe_bltn (v := .ty "int") (by rfl) B.int (by decide +kernel) rfl) pa_nil))) (pe_and (pe_not (pe_callB call_isi (by rfl) B.isinstance (by decide +kernel) (pa_cons (pv 0) (pa_cons (pe_bltn (v := .ty "bool") (by rfl) B.bool (by decide +kernel) rfl) pa_nil)))) (pe_one (pe_cmpR op_eq (pv 0) (pv 1) (nomark _))))))) pss_nil)
      (pss_cons (ps_if (pt_val (pe_callB call_isi (by rfl) B.isinstance (by decide +kernel) (pa_cons (pv 1) (pa_cons (pe_bltn (v := .ty "str") (by rfl) B.str (by decide +kernel) rfl) pa_nil)))) (pss_one (ps_ret (pe_and (pe_callB call_isi (by rfl) B.isinstance (by decide +kernel) (pa_cons (pv 0) (pa_cons (pe_bltn (v := .ty "str") (by rfl) B.str (by decide +kernel) rfl) pa_nil))) (pe_one (pe_cmpR op_eq (pv 0) (pv 1) (nomark _)))))) pss_nil)
      (pss_cons (ps_if (PW.pt (pw_or (pt_cmpR op_ne (pe_callB call_isi (by rfl) B.isinstance (by decide +kernel) (pa_cons (pv 1) (pa_cons (pe_bltn (v := .ty "tuple") (by rfl) B.tuple (by decide +kernel) rfl) pa_nil))) (pe_callB call_isi (by rfl) B.isinstance (by decide +kernel) (pa_cons (pv 0) (pa_cons (pe_bltn (v := .ty "tuple") (by rfl) B.tuple (by decide +kernel) rfl) pa_nil))) (nomark _)) (pw_or1 (pt_cmpR op_ne (pe_callB call_isi (by rfl) B.isinstance (by decide +kernel) (pa_cons (pv 1) (pa_cons (pe_bltn (v := .ty "list") (by rfl) B.list (by decide +kernel) rfl) pa_nil))) (pe_callB call_isi (by rfl) B.isinstance (by decide +kernel) (pa_cons (pv 0) (pa_cons (pe_bltn (v := .ty "list") (by rfl) B.list (by decide +kernel) rfl) pa_nil))) (nomark _))))) (pss_one (ps_ret pe_bl)) pss_nil)
      (pss_cons (ps_if (pt_cmpR op_ne (pe_callB call_len_seq (by rfl) B.len (by decide +kernel) (pa_cons (pv 0) pa_nil)) (pe_callB call_len_seq (by rfl) B.len (by decide +kernel) (pa_cons (pv 1) pa_nil)) (nomark _)) (pss_one (ps_ret pe_bl)) pss_nil)
      (pss_one (ps_ret (pe_callB (cr_all rfl) (by rfl) B.all (by decide +kernel) (pa_cons (pe_lc (own := [("_law_j", 2)]) (g := gName 2) (by rfl) sc_like.nd (pi_range1 (by rfl) B.range (pa_cons (pe_callB call_len_seq (by rfl) B.len (by decide +kernel) (pa_cons (pv 1) pa_nil)) pa_nil)) (blkOk_by (own := [("_law_j", 2)]) (N := N_like) (sc := defScope s_like) (by decide +kernel)) (fun _ _ _ _ _ => (pg_name (i := 2) sc_like.nd rfl (.inl rfl))) (fun _ _ _ _ _ => pts_nil) (fun _ _ _ _ _ => (pe_call G_like (hr.mono (by omega)) (by rfl) D_like.g D_like.F.kp D_like.b .nil pass0 (pa_cons (pe_ix (show IxR _ (rIx K) from ix_seq) (pv 0) (pv 2) (fun _ _ => rfl)) (pa_cons (pe_ix (show IxR _ (rIx K) from ix_seq) (pv 1) (pv 2) (fun _ _ => rfl)) pa_nil))))) pa_nil)))))))))), ?_⟩
    cases ha with
    | non =>
      cases hb
      exact ⟨.non, rfl, rfl, _, rfl, iteT ⟨.non, rfl, rfl, q H (Same.refl H)⟩⟩
    | bl _ x =>
      cases hb
      refine ⟨.bl x, rfl, rfl, _, rfl, isn_no (by intro z; cases z) ?_⟩
      refine ⟨.bl x, rfl, _, _, _, _, true, rfl, ClsV.ty _, TyX.base (TyOf.bl _), kit_ty (by decide +kernel), _, rfl, iteT ?_⟩
      refine ⟨.bl x, rfl, _, _, _, _, true, rfl, ClsV.ty _, TyX.base (TyOf.bl _), kit_ty (by decide +kernel), _, rfl, iteT ?_⟩
      refine ⟨.bl x, rfl, .bl x, rfl, rfl, ?_⟩
      rw [decide_eq_true rfl]
      exact q H (Same.refl H)
    | int _ x =>
      cases hb
      refine ⟨.int x, rfl, rfl, _, rfl, isn_no (by intro z; cases z) ?_⟩
      refine ⟨.int x, rfl, _, _, _, _, false, rfl, ClsV.ty _, TyX.base (TyOf.int _), kit_ty (by decide +kernel), _, rfl, iteF ?_⟩
      refine ⟨.int x, rfl, _, _, _, _, true, rfl, ClsV.ty _, TyX.base (TyOf.int _), kit_ty (by decide +kernel), _, rfl, iteT ?_⟩
      refine ⟨.int x, rfl, _, _, _, _, true, rfl, ClsV.ty _, TyX.base (TyOf.int _), kit_ty (by decide +kernel), _, rfl, iteT ?_⟩
      refine ⟨.int x, rfl, _, _, _, _, false, rfl, ClsV.ty _, TyX.base (TyOf.int _), kit_ty (by decide +kernel), _, rfl, _, rfl, iteT ?_⟩
      refine ⟨.int x, rfl, .int x, rfl, rfl, ?_⟩
      rw [decide_eq_true rfl]
      exact q H (Same.refl H)
    | str _ x =>
      cases hb
      refine ⟨.str x, rfl, rfl, _, rfl, isn_no (by intro z; cases z) ?_⟩
      refine ⟨.str x, rfl, _, _, _, _, false, rfl, ClsV.ty _, TyX.base (TyOf.str _), kit_ty (by decide +kernel), _, rfl, iteF ?_⟩
      refine ⟨.str x, rfl, _, _, _, _, false, rfl, ClsV.ty _, TyX.base (TyOf.str _), kit_ty (by decide +kernel), _, rfl, iteF ?_⟩
      refine ⟨.str x, rfl, _, _, _, _, true, rfl, ClsV.ty _, TyX.base (TyOf.str _), kit_ty (by decide +kernel), _, rfl, iteT ?_⟩
      refine ⟨.str x, rfl, _, _, _, _, true, rfl, ClsV.ty _, TyX.base (TyOf.str _), kit_ty (by decide +kernel), _, rfl, iteT ?_⟩
      refine ⟨.str x, rfl, .str x, rfl, rfl, ?_⟩
      rw [decide_eq_true rfl]
      exact q H (Same.refl H)
    | @lst m p xs ds hp lp rp =>
      cases hb with
      | @lst _ r ys _ hq lq rq =>
      have lx : xs.length = ds.length := rp.length
      have ly : ys.length = ds.length := rq.length
      refine ⟨.ref r, rfl, rfl, _, rfl, isn_no (by intro z; cases z) ?_⟩
      refine ⟨.ref r, rfl, _, _, _, _, false, rfl, ClsV.ty _, TyX.base (TyOf.lst hq), kit_ty (by decide +kernel), _, rfl, iteF ?_⟩
      refine ⟨.ref r, rfl, _, _, _, _, false, rfl, ClsV.ty _, TyX.base (TyOf.lst hq), kit_ty (by decide +kernel), _, rfl, iteF ?_⟩
      refine ⟨.ref r, rfl, _, _, _, _, false, rfl, ClsV.ty _, TyX.base (TyOf.lst hq), kit_ty (by decide +kernel), _, rfl, iteF ?_⟩
      refine ⟨.ref r, rfl, _, _, _, _, false, rfl, ClsV.ty _, TyX.base (TyOf.lst hq), kit_ty (by decide +kernel), .ref p, rfl, _, _, _, _, false, rfl, ClsV.ty _, TyX.base (TyOf.lst hp), kit_ty (by decide +kernel), rfl, _, rfl, iteNS rfl ?_⟩
      refine ⟨.ref r, rfl, _, _, _, _, true, rfl, ClsV.ty _, TyX.base (TyOf.lst hq), kit_ty (by decide +kernel), .ref p, rfl, _, _, _, _, true, rfl, ClsV.ty _, TyX.base (TyOf.lst hp), kit_ty (by decide +kernel), rfl, _, rfl, iteNS rfl ?_⟩
      refine ⟨.ref p, rfl, p, xs, rfl, .inl (SqL.of hp), .ref r, rfl, r, ys, rfl, .inl (SqL.of hq), rfl, _, rfl, iteNS (by rw [lx, ly]) ?_⟩
      refine ⟨.ref r, rfl, r, ys, rfl, .inl (SqL.of hq), _, rfl, (by have := lq; omega), (by have := lq; omega), fun D hD => lc_range (lo := 0) (n := ((ys.length : Int)).toNat) (fun i H2 => ∃ bs : List Bool, Same H H2 ∧ H2 D = some (.lst (bs.map V.bl)) ∧ bs.length = i ∧ bs.all id = true) ⟨[], same_upd hD, upd_same, rfl, rfl⟩ ?_ ?_⟩
      · rintro i H2 hi ⟨bs, sm, hDl, rfl, hal⟩
        have hi' : bs.length < ds.length := by omega
        obtain ⟨v1, d1, e1, e2, r1⟩ := rp.get bs.length hi'
        obtain ⟨v2, d2, e3, e4, r2⟩ := rq.get bs.length hi'
        have ed : d2 = d1 := Option.some.inj (e4.symm.trans e2)
        subst ed
        refine ⟨rfl, ?_⟩
        refine ⟨.ref p, rfl, .int (0 + (bs.length : Int)), rfl, .inl ⟨p, xs, _, v1, rfl, rfl, SqL.of (sm _ _ hp), at_of (by omega) e1, .ref r, rfl, .int (0 + (bs.length : Int)), rfl, .inl ⟨r, ys, _, v2, rfl, rfl, SqL.of (sm _ _ hq), at_of (by omega) e3, ?_⟩⟩⟩
        refine hR m rfl _ _ _ _ ⟨v1, v2, d2, rfl, r1.same sm, r2.same sm, fun H3 s3 => ?_⟩
        refine ⟨bs.map V.bl, s3 _ _ hDl, sz_lt (by rw [List.length_map]; omega), bs ++ [true], fun b o e => ?_, ?_, by rw [List.length_append]; rfl, by rw [List.all_append, hal]; rfl⟩
        · rw [upd_ne (ne_of_none e hD)]
          exact s3 _ _ (sm _ _ e)
        · rw [upd_same, List.map_append]
          rfl
      · rintro H2 ⟨bs, sm, hDl, _, hal⟩
        refine ⟨D, bs, rfl, SqL.of hDl, ?_⟩
        rw [hal]
        exact q H2 sm
    | @tup m p xs ds hp lp rp =>
      cases hb with
      | @tup _ r ys _ hq lq rq =>
      have lx : xs.length = ds.length := rp.length
      have ly : ys.length = ds.length := rq.length
      refine ⟨.ref r, rfl, rfl, _, rfl, isn_no (by intro z; cases z) ?_⟩
      refine ⟨.ref r, rfl, _, _, _, _, false, rfl, ClsV.ty _, TyX.base (TyOf.tup hq), kit_ty (by decide +kernel), _, rfl, iteF ?_⟩
      refine ⟨.ref r, rfl, _, _, _, _, false, rfl, ClsV.ty _, TyX.base (TyOf.tup hq), kit_ty (by decide +kernel), _, rfl, iteF ?_⟩
      refine ⟨.ref r, rfl, _, _, _, _, false, rfl, ClsV.ty _, TyX.base (TyOf.tup hq), kit_ty (by decide +kernel), _, rfl, iteF ?_⟩
      refine ⟨.ref r, rfl, _, _, _, _, true, rfl, ClsV.ty _, TyX.base (TyOf.tup hq), kit_ty (by decide +kernel), .ref p, rfl, _, _, _, _, true, rfl, ClsV.ty _, TyX.base (TyOf.tup hp), kit_ty (by decide +kernel), rfl, _, rfl, iteNS rfl ?_⟩
      refine ⟨.ref r, rfl, _, _, _, _, false, rfl, ClsV.ty _, TyX.base (TyOf.tup hq), kit_ty (by decide +kernel), .ref p, rfl, _, _, _, _, false, rfl, ClsV.ty _, TyX.base (TyOf.tup hp), kit_ty (by decide +kernel), rfl, _, rfl, iteNS rfl ?_⟩
      refine ⟨.ref p, rfl, p, xs, rfl, .inr (SqT.of hp), .ref r, rfl, r, ys, rfl, .inr (SqT.of hq), rfl, _, rfl, iteNS (by rw [lx, ly]) ?_⟩
      refine ⟨.ref r, rfl, r, ys, rfl, .inr (SqT.of hq), _, rfl, (by have := lq; omega), (by have := lq; omega), fun D hD => lc_range (lo := 0) (n := ((ys.length : Int)).toNat) (fun i H2 => ∃ bs : List Bool, Same H H2 ∧ H2 D = some (.lst (bs.map V.bl)) ∧ bs.length = i ∧ bs.all id = true) ⟨[], same_upd hD, upd_same, rfl, rfl⟩ ?_ ?_⟩
      · rintro i H2 hi ⟨bs, sm, hDl, rfl, hal⟩
        have hi' : bs.length < ds.length := by omega
        obtain ⟨v1, d1, e1, e2, r1⟩ := rp.get bs.length hi'
        obtain ⟨v2, d2, e3, e4, r2⟩ := rq.get bs.length hi'
        have ed : d2 = d1 := Option.some.inj (e4.symm.trans e2)
        subst ed
        refine ⟨rfl, ?_⟩
        refine ⟨.ref p, rfl, .int (0 + (bs.length : Int)), rfl, .inr <| .inl ⟨p, xs, _, v1, rfl, rfl, SqT.of (sm _ _ hp), at_of (by omega) e1, .ref r, rfl, .int (0 + (bs.length : Int)), rfl, .inr <| .inl ⟨r, ys, _, v2, rfl, rfl, SqT.of (sm _ _ hq), at_of (by omega) e3, ?_⟩⟩⟩
        refine hR m rfl _ _ _ _ ⟨v1, v2, d2, rfl, r1.same sm, r2.same sm, fun H3 s3 => ?_⟩
        refine ⟨bs.map V.bl, s3 _ _ hDl, sz_lt (by rw [List.length_map]; omega), bs ++ [true], fun b o e => ?_, ?_, by rw [List.length_append]; rfl, by rw [List.all_append, hal]; rfl⟩
        · rw [upd_ne (ne_of_none e hD)]
          exact s3 _ _ (sm _ _ e)
        · rw [upd_same, List.map_append]
          rfl
      · rintro H2 ⟨bs, sm, hDl, _, hal⟩
        refine ⟨D, bs, rfl, SqL.of hDl, ?_⟩
        rw [hal]
        exact q H2 sm
theorem ok_like {f : Addr} {fd : FuncData} (D : DefAt K mg "_law_like" s_like P_like f fd) (B : Bn mg) : ∀ n : Nat, FnOk P w K mg base CX0 (n + 1) f fd P_like (spLike n)
  | 0 => like_step D B ok_bot fun m e => absurd e (by omega)
  | n + 1 => like_step D B (ok_like D B n) fun m e vs H Q E h => by
    have e : m = n := by omega
    subst e
    exact h
end

/-! ### holds, part -/
def tup4 (o p m f : Int) : HO := .tup [.int o, .int p, .int m, .int f]
abbrev N_holds : List Str := ["mating", "at", "many"]
abbrev P_holds : List Str := ["mating", "at", "many"]
theorem sc_holds : FnScope N_holds P_holds (defScope s_holds) := ⟨rfl, rfl, rfl, by decide +kernel, rfl, by decide +kernel, by decide +kernel⟩
def spHolds : Sp := fun vs H Q _ => ∃ (t : Addr) (o p m f : Int) (x y : V), vs = [.ref t, x, y] ∧ H t = some (tup4 o p m f) ∧
  ((∃ b, x = .bl b ∧ Q (.bl false) H) ∨ (∃ i b, x = .int i ∧ y = .bl b ∧ Q (.bl false) H) ∨ ∃ i k, x = .int i ∧ y = .int k ∧ Q (.bl (decide (1 ≤ k ∧ o ≤ i ∧ i + k ≤ o + m))) H)
theorem at4_0 {a b c d : V} : atI [a, b, c, d] 0 = some a := atI_nat (j := 0) rfl
theorem at4_2 {a b c d : V} : atI [a, b, c, d] 2 = some c := atI_nat (j := 2) rfl
theorem at4_3 {a b c d : V} : atI [a, b, c, d] 3 = some d := atI_nat (j := 3) rfl
section
variable {P : Program} {w : World} {K : PySem.W.Frag} {mg : Str → Option Value} {base : Heap}
theorem ok_holds {f : Addr} {fd : FuncData} (D : DefAt K mg "holds" s_holds P_holds f fd) (B : Bn mg) : FnOk P w K mg base CX0 1 f fd P_holds spHolds := by
  refine D.F.ok sc_holds (fun vs H Q E h => ?_) (fun cdv A outer s H vs Q E hr h => ?_)
  · obtain ⟨t, o, p, m, f, x, y, rfl, _⟩ := h
    rfl
  · obtain ⟨t, o, p, m, f, x, y, rfl, ht, h⟩ := h
    refine ⟨_, (pss_cons (ps_if (PW.pt (pw_or (pt_val (pe_callB call_isi (by rfl) B.isinstance (by decide +kernel) (pa_cons (pv 1) (pa_cons (pe_bltn (v := .ty "bool") (by rfl) B.bool (by decide +kernel) rfl) pa_nil)))) (pw_or (pt_val (pe_callB call_isi (by rfl) B.isinstance (by decide +kernel) (pa_cons (pv 2) (pa_cons (pe_bltn (v := .ty "bool") (by rfl) B.bool (by decide +kernel) rfl) pa_nil)))) (pw_or1 (pt_cmpR op_lt (pv 2) pe_int (nomark _)))))) (pss_one (ps_ret pe_bl)) pss_nil)
      (pss_one (ps_ret (pe_and (pe_cmpR op_le (pe_ix ix_tup (pv 0) pe_int (fun _ _ => rfl)) (pv 1) (nomark _)) (pe_one (pe_cmpR op_le (pe_op op_add (pv 1) (pv 2)) (pe_op op_add (pe_ix ix_tup (pv 0) pe_int (fun _ _ => rfl)) (pe_ix ix_tup (pv 0) pe_int (fun _ _ => rfl))) (nomark _))))))), ?_⟩
    rcases h with ⟨b, rfl, q⟩ | ⟨i, b, rfl, rfl, q⟩ | ⟨i, k, rfl, rfl, q⟩
    · exact ⟨.bl b, rfl, _, _, _, _, true, rfl, ClsV.ty _, TyX.base (TyOf.bl _), kit_ty (by decide +kernel), _, rfl, q⟩
    · refine ⟨.int i, rfl, _, _, _, _, false, rfl, ClsV.ty _, TyX.base (TyOf.int _), kit_ty (by decide +kernel), _, rfl, ?_⟩
      exact ⟨.bl b, rfl, _, _, _, _, true, rfl, ClsV.ty _, TyX.base (TyOf.bl _), kit_ty (by decide +kernel), _, rfl, q⟩
    · refine ⟨.int i, rfl, _, _, _, _, false, rfl, ClsV.ty _, TyX.base (TyOf.int _), kit_ty (by decide +kernel), _, rfl, ?_⟩
      refine ⟨.int k, rfl, _, _, _, _, false, rfl, ClsV.ty _, TyX.base (TyOf.int _), kit_ty (by decide +kernel), _, rfl, ?_⟩
      refine ⟨.int k, rfl, k, 1, rfl, rfl, _, rfl, ?_⟩
      refine ite2 (fun hk => ?_) (fun hk => ?_)
      · have hk' : k < 1 := of_decide_eq_true hk
        have e : decide (1 ≤ k ∧ o ≤ i ∧ i + k ≤ o + m) = false := decide_eq_false (by omega)
        rw [e] at q
        exact q
      · have hk' : ¬ k < 1 := fun z => hk (decide_eq_true z)
        refine ⟨.ref t, rfl, t, _, 0, .int o, rfl, rfl, SqT.of ht, at4_0, .int i, rfl, o, i, rfl, rfl, _, rfl, ?_⟩
        refine ite2 (fun h1 => ?_) (fun h1 => ?_)
        · have h1' : o ≤ i := of_decide_eq_true h1
          refine ⟨.int i, rfl, .int k, rfl, i, k, rfl, rfl, .ref t, rfl, t, _, 0, .int o, rfl, rfl, SqT.of ht, at4_0, .ref t, rfl, t, _, 2, .int m, rfl, rfl, SqT.of ht, at4_2, o, m, rfl, rfl, _, _, rfl, rfl, ?_⟩
          have e : decide (1 ≤ k ∧ o ≤ i ∧ i + k ≤ o + m) = decide (i + k ≤ o + m) := decide_eq_decide.mpr ⟨fun z => z.2.2, fun z => ⟨by omega, h1', z⟩⟩
          rw [e] at q
          exact q
        · have h1' : ¬ o ≤ i := fun z => h1 (decide_eq_true z)
          have e : decide (1 ≤ k ∧ o ≤ i ∧ i + k ≤ o + m) = false := decide_eq_false (by omega)
          rw [e] at q
          exact q
end
abbrev N_part : List Str := ["mating", "at", "many", "one", "other", "reach", "turned", "ahead"]
abbrev P_part : List Str := ["mating", "at", "many"]
theorem sc_part : FnScope N_part P_part (defScope s_part) := ⟨rfl, rfl, rfl, by decide +kernel, rfl, by decide +kernel, by decide +kernel⟩
def partP (o p m f i k : Int) : Int := if f = 1 then p + m - (i - o) - k else p + (i - o)
def spPart : Sp := fun vs H Q _ => ∃ (t : Addr) (o p m f i k : Int), vs = [.ref t, .int i, .int k] ∧ H t = some (tup4 o p m f) ∧ (f = 0 ∨ f = 1) ∧ 1 ≤ k ∧ o ≤ i ∧ i + k ≤ o + m ∧
  ∀ r, H r = none → Q (.ref r) (upd H r (tup4 i (partP o p m f i k) k f))
section
variable {P : Program} {w : World} {K : PySem.W.Frag} {mg : Str → Option Value} {base : Heap}
theorem ok_part {f fH : Addr} {fd fdH : FuncData} (D : DefAt K mg "part" s_part P_part f fd) (D_holds : DefAt K mg "holds" s_holds P_holds fH fdH) (B : Bn mg) : FnOk P w K mg base CX0 2 f fd P_part spPart := by
  have G_holds : FnOk P w K mg base CX0 1 fH fdH P_holds spHolds := ok_holds D_holds B
  refine D.F.ok sc_part (fun vs H Q E h => ?_) (fun cdv A outer s H vs Q E hr h => ?_)
  · obtain ⟨t, o, p, m, f, i, k, rfl, _⟩ := h
    rfl
  · obtain ⟨t, o, p, m, f, i, k, rfl, ht, hf, h1, h2, h3, q⟩ := h
    refine ⟨_, (pss_cons (ps_if (pt_not (pt_val (pe_call G_holds (hr.mono (by omega)) (by rfl) D_holds.g D_holds.F.kp D_holds.b .nil pass0 (pa_cons (pv 0) (pa_cons (pv 1) (pa_cons (pv 2) pa_nil)))))) (pss_one ps_never) pss_nil)
      (pss_cons (ps_asg (pv 0) (pg_tup (by rfl) (pgs_cons (pg_name (i := 3) sc_part.nd rfl (.inl rfl)) (pgs_cons (pg_name (i := 4) sc_part.nd rfl (.inl rfl)) (pgs_cons (pg_name (i := 5) sc_part.nd rfl (.inl rfl)) (pgs_cons (pg_name (i := 6) sc_part.nd rfl (.inl rfl)) pgs_nil))))))
      (pss_cons (ps_set (i := 7) sc_part.nd rfl (.inl rfl) (pe_op op_sub (pv 1) (pv 3)))
      (pss_cons (ps_if (pt_cmpR op_eq (pv 6) pe_int (nomark _)) (pss_one (ps_ret (pe_tup (pa_cons (pv 1) (pa_cons (pe_op op_sub (pe_op op_sub (pe_op op_add (pv 4) (pv 5)) (pv 7)) (pv 2)) (pa_cons (pv 2) (pa_cons pe_int pa_nil))))))) pss_nil)
      (pss_one (ps_ret (pe_tup (pa_cons (pv 1) (pa_cons (pe_op op_add (pv 4) (pv 7)) (pa_cons (pv 2) (pa_cons pe_int pa_nil))))))))))), ?_⟩
    refine ⟨.ref t, rfl, .int i, rfl, .int k, rfl, t, o, p, m, f, .int i, .int k, rfl, ht, .inr (.inr ⟨i, k, rfl, rfl, ?_⟩)⟩
    rw [decide_eq_true (show 1 ≤ k ∧ o ≤ i ∧ i + k ≤ o + m from ⟨h1, h2, h3⟩)]
    refine ⟨true, rfl, iteF ?_⟩
    refine ⟨.ref t, rfl, t, _, rfl, SqT.of ht, rfl, .int o, _, rfl, .int p, _, rfl, .int m, _, rfl, .int f, _, rfl, rfl, ?_⟩
    refine ⟨.int i, rfl, .int o, rfl, i, o, rfl, rfl, ?_⟩
    refine ⟨.int f, rfl, rfl, _, rfl, ?_⟩
    rcases hf with rfl | rfl
    · rw [decide_eq_false (show ¬ (V.int 0 = V.int 1) from fun z => by cases z)]
      refine iteF ?_
      refine ⟨.int i, rfl, .int p, rfl, .int (i - o), rfl, p, i - o, rfl, rfl, .int k, rfl, by show 4 ≤ sizeLine; decide, fun r hr' => ?_⟩
      exact q r hr'
    · rw [decide_eq_true (show (V.int 1 = V.int 1) from rfl)]
      refine iteT ?_
      refine ⟨.int i, rfl, .int p, rfl, .int m, rfl, p, m, rfl, rfl, .int (i - o), rfl, _, _, rfl, rfl, .int k, rfl, _, _, rfl, rfl, .int k, rfl, by show 4 ≤ sizeLine; decide, fun r hr' => ?_⟩
      exact q r hr'
end

/-! ### back -/
section
variable {P : Program} {w : World} {K : PySem.W.Frag} {mg : Str → Option Value} {base : Heap}
end

/-! ### normal -/
section
variable {P : Program} {w : World} {K : PySem.W.Frag} {mg : Str → Option Value} {base : Heap}
end

/-! ### common -/
section
variable {P : Program} {w : World} {K : PySem.W.Frag} {mg : Str → Option Value} {base : Heap}
end

/-! ### enumerate(t), t a tuple -/
section
open PySem.Spec PyProof.Rows
end

/-! ### rules of my own: a value in an f-string, a def read off its class -/
section
open PySem.Spec PyProof.Rows
variable {X : Cx}
def tFmtV (te : TE) : TE := fun σ H Q => te σ H fun x H1 => (∃ i : Int, x = .int i ∧ i.natAbs.log2 < 1920 ∧ Q (.str (toString i)) H1) ∨ (∃ b : Bool, x = .bl b ∧ Q (.str (if b then "True" else "False")) H1)
theorem pe_fmtV {e : Expr} {te : TE} {pos : Pos} (he : PE X e te) : PE X (.FormattedValue e (-1) none pos) (tFmtV te) := by
  refine ⟨fun pins s σ H Q I h => ?_⟩
  refine wpAny_FormattedValue_plain (thn (he.run pins s σ H _ I h) fun v s1 hv => ?_)
  obtain ⟨x, H1, I1, r1, q⟩ := hv
  rcases q with ⟨i, rfl, hz, q⟩ | ⟨b, rfl, q⟩
  · obtain ⟨t, rfl⟩ := r1
    exact wpAny_formatField_int hz ⟨.str (toString i), H1, I1.tok _, ⟨_, rfl⟩, q⟩
  · cases (show v = Value.bool b from r1)
    exact wpAny_formatField_bool ⟨.str (if b then "True" else "False"), H1, I1.tok _, ⟨_, rfl⟩, q⟩
/-- what the written part says of a class's own def, read off the class -/
structure ClsFn (K : PySem.W.Frag) (C : Addr) (m : Str) (f : Addr) : Prop where
  sp : PySem.W.specialIn K (.ref C) "__getattribute__" = some (some (.builtin "type.__getattribute__"))
  rd : PySem.W.readsIn K C (.type "type") = true
  fc : PySem.W.findCls K (.ref C) (.type "type") m = some (.val (.ref f))
  kp : PySem.W.keepIn K (.ref f) = true
theorem pe_clsfn {CX : CXT} {k : Nat} {f C : Addr} {fd : FuncData} {ps : List Str} {sp : Sp} {E : XK} {x m : Str} {p1 p2 pos : Pos} {e : Expr} {es : List Expr} {t : TA} {pl : Sem Bool} (hg : Gl X x) (hm : X.mg x = some (.ref C)) (T : ClsFn X.K C m f)
    (F : FnOk X.prog X.w X.K X.mg X.base CX k f fd ps sp) (hr : Room k X.A) (hb : Binds X.K fd ps []) (hx : Passes CX X E) (ha : PA X (e :: es) t)
    (hc : eval (.Call (.Attribute (.Name x p1) m p2) (e :: es) [] pos) X.env = (do
      let ov ← eval (.Name x p1) X.env
      standAt p2.atName
      let (f, first) ← holding [ov] (getMethod ov m pl)
      callWith pos f first (backTo pos (starEach (e :: es) X.env)) (backToKw pos (keywordEach [] X.env))) := by rfl)
    (hdb : (x == ("__debug__" : Str)) = false := by decide) (he : starEach (e :: es) X.env = (false, eval e X.env) :: starEach es X.env := by rfl) (hpl : (backTo pos (starEach es X.env)).any (·.1) = false := by rfl) :
    PE X (.Call (.Attribute (.Name x p1) m p2) (e :: es) [] pos) (tCall sp [] E t) := by
  refine ⟨fun pins s σ H Q I h => ?_⟩
  refine PySem.W.methodCall_KW (ld_glob I hg hm ?_ hdb) hc
  refine PySem.W.method_cls I.kIn T.sp (PySem.W.cls_value I.kIn T.rd T.fc rfl ?_)
  show wpAny _ _ (callWith pos (Value.ref f) [] (backTo pos (starEach (e :: es) X.env)) []) _ _ _
  refine PySem.W.callWith_K (h₀ := X.base) I.ok.mod.kin T.kp (thn (ha.run pos pins _ σ H _ (I.tok _) h) fun us s1 ⟨vs, H1, I1, r, q⟩ => ⟨I1.kIn, ?_⟩) he hpl
  exact run_fn F hr hb (.nil) hx I1 r q
end

/-! ### FarError.__init__ -/
def FV (x : V) : Prop := (∃ i : Int, x = .int i ∧ i.natAbs.log2 < 1920) ∨ ∃ b : Bool, x = .bl b
theorem FV.go {x : V} {H : Hp} {Q : V → Hp → Prop} (h : FV x) (q : ∀ y : Str, y.length ≤ 1921 → Q (.str y) H) : (∃ i : Int, x = .int i ∧ i.natAbs.log2 < 1920 ∧ Q (.str (toString i)) H) ∨ (∃ b : Bool, x = .bl b ∧ Q (.str (if b then "True" else "False")) H) := by
  rcases h with ⟨i, e, hi⟩ | ⟨b, e⟩
  · exact .inl ⟨i, e, hi, q _ (PyProof.Rows.int_text_len_1921 hi)⟩
  · exact .inr ⟨b, e, q _ (by cases b <;> decide +kernel)⟩
theorem fmtV_at {i : Nat} {x : V} {σ : L2.St} {H : Hp} {Q : VK} (hs : σ[i]? = some (some x)) (h : FV x) (q : ∀ y : Str, y.length ≤ 1921 → Q (.str y) H) : tFmtV (tVar i) σ H Q := ⟨x, hs, FV.go (Q := Q) h q⟩
theorem app_fits {a b : Str} {n m : Nat} (ha : a.length ≤ n) (hb : b.length ≤ m) : (a ++ b).length ≤ n + m := by
  rw [Str.length_append]
  omega
theorem fits_of {a : Str} {n : Nat} (ha : a.length ≤ n) (h : n ≤ 100000) : a.length ≤ sizeLine := Nat.le_trans ha (Nat.le_trans h (by decide))
abbrev N_farinit : List Str := ["self", "why"]
theorem sc_farinit : FnScope N_farinit N_farinit (defScope s_farinit) := ⟨rfl, rfl, rfl, by decide +kernel, rfl, by decide +kernel, by decide +kernel⟩
def spFarInit (K : PySem.W.Frag) : Sp := fun vs H Q _ => ∃ (a C : Addr) (y : Str), vs = [.ref a, .str y] ∧ OexC K C ∧ PySem.W.findIn K (.ref C) "word" = some none ∧ H a = some (exo a C none) ∧
  ∀ dx, H dx = none → dx ≠ a → Q .non (upd (upd H dx (exd dx [("word", .str "FarError")])) a (exo a C (some dx)))
section
variable {P : Program} {w : World} {K : PySem.W.Frag} {mg : Str → Option Value} {base : Heap}
theorem ok_farinit {f : Addr} {fd : FuncData} (F : FunD K "__init__" "FarError.__init__" (defArgs s_farinit) (defBody s_farinit) (defScope s_farinit) [.str ""] [] f fd) (mV : mg "ValueError" = none)
    (vV : PySem.W.findCls K (.type "ValueError") (.type "type") "__init__" = some (.val (.builtin "ValueError.__init__"))) : FnOk P w K mg base CX0 1 f fd N_farinit (spFarInit K) := by
  refine F.ok sc_farinit (fun vs H Q E h => ?_) (fun cdv A outer s H vs Q E hr h => ?_)
  · obtain ⟨a, C, y, rfl, _⟩ := h
    rfl
  · obtain ⟨a, C, y, rfl, T, hw, ha, q⟩ := h
    refine ⟨_, pss_cons (ps_expr (pe_veinit (by rfl) mV vV (pa_cons (pv 0) (pa_cons (pv 1) pa_nil)))) (pss_one (ps_ost (pv 0) pe_str)), ?_⟩
    refine ⟨.ref a, rfl, .str y, rfl, a, C, [.str y], rfl, by show 1 ≤ 1000; decide, T, ha, ?_⟩
    exact ⟨.ref a, rfl, a, C, rfl, T, hw, .inl ⟨ha, fun dx n ne => q dx n ne⟩⟩
end
/-! ### an own error's __init__ of one field -/
/-- what the written part says of an error's class -/
structure ErrT (K : PySem.W.Frag) (C : Addr) : Prop where
  o : OexC K C
  w : PySem.W.findIn K (.ref C) "word" = some none

/-! ### ints and bools -/
def IB (x : V) : Prop := (∃ i : Int, x = .int i ∧ i.natAbs < 2 ^ 200) ∨ ∃ b : Bool, x = .bl b
theorem IB.fv {x : V} (h : IB x) : FV x := by
  rcases h with ⟨i, e, hi⟩ | ⟨b, e⟩
  · exact .inl ⟨i, e, Nat.lt_of_lt_of_le (PySem.Flt.log2_lt_of (by decide) hi) (by decide)⟩
  · exact .inr ⟨b, e⟩
def isB : V → Bool
  | .bl _ => true
  | _ => false
theorem IB.ty {K : PySem.W.Frag} {H : Hp} {x : V} (h : IB x) : ∃ t, TyX K H x t ∧ PySem.W.kitOne K t (.type "bool") = some (isB x) := by
  rcases h with ⟨i, rfl, hi⟩ | ⟨b, rfl⟩
  · exact ⟨_, TyX.base (TyOf.int _), kit_ty (r := false) (by decide +kernel)⟩
  · exact ⟨_, TyX.base (TyOf.bl _), kit_ty (r := true) (by decide +kernel)⟩
theorem IB.int {i : Int} (h : i.natAbs < 2 ^ 200) : IB (.int i) := .inl ⟨i, rfl, h⟩
section
open PySem.Spec PyProof.Rows
end

abbrev N_bninit : List Str := ["self", "number"]
theorem sc_bninit : FnScope N_bninit N_bninit (defScope s_bninit) := ⟨rfl, rfl, rfl, by decide +kernel, rfl, by decide +kernel, by decide +kernel⟩
def bnF (n : V) : List (Str × V) := [("word", .str "BadNumber"), ("number", n), ("word", .str "FarError")]
def spBnInit (K : PySem.W.Frag) : Sp := fun vs H Q _ => ∃ (a C : Addr) (n : V), vs = [.ref a, n] ∧ FV n ∧ ErrT K C ∧ PySem.W.findIn K (.ref C) "number" = some none ∧ H a = some (exo a C none) ∧
  ∀ (H' : Hp) (dx : Addr), H dx = none → H' a = some (exo a C (some dx)) → H' dx = some (exd dx (bnF n)) → (∀ b o, b ≠ a → H b = some o → H' b = some o) → Q .non H'
section
variable {P : Program} {w : World} {K : PySem.W.Frag} {mg : Str → Option Value} {base : Heap}
theorem ok_bninit {f fF CF : Addr} {fd fdF : FuncData} (F : Fun K "__init__" "BadNumber.__init__" s_bninit f fd) (gF : mg "FarError" = some (.ref CF)) (TF : ClsFn K CF "__init__" fF) (bF : Binds K fdF N_farinit [])
    (GF : FnOk P w K mg base CX0 1 fF fdF N_farinit (spFarInit K)) : FnOk P w K mg base CX0 2 f fd N_bninit (spBnInit K) := by
  refine F.ok sc_bninit (fun vs H Q E h => ?_) (fun cdv A outer s H vs Q E hr h => ?_)
  · obtain ⟨a, C, n, rfl, _⟩ := h
    rfl
  · obtain ⟨a, C, n, rfl, hn, T, hno, ha, q⟩ := h
    refine ⟨_, pss_cons (ps_expr (pe_clsfn (by rfl) gF TF GF hr bF pass0 (pa_cons (pv 0) (pa_cons (pe_joined (.cons pe_str (.cons (pe_fmtV (pv 1)) .nil))) pa_nil))))
      (pss_cons (ps_ost (pv 0) (pv 1)) (pss_one (ps_ost (pv 0) pe_str))), ?_⟩
    refine ⟨.ref a, rfl, _, rfl, fits_of (n := 100) (by decide +kernel) (by decide), ?_⟩
    refine fmtV_at (i := 1) rfl hn fun y hy => ?_
    refine ⟨y, rfl, fits_of (app_fits (n := 100) (by decide +kernel) hy) (by decide), ?_⟩
    refine ⟨a, C, _, rfl, T.o, T.w, ha, fun dx ndx ne => ?_⟩
    have e1 : (upd (upd H dx (exd dx [("word", .str "FarError")])) a (exo a C (some dx))) a = some (exo a C (some dx)) := upd_same
    have e2 : (upd (upd H dx (exd dx [("word", .str "FarError")])) a (exo a C (some dx))) dx = some (exd dx [("word", .str "FarError")]) := by rw [upd_ne ne, upd_same]
    refine ⟨n, rfl, .ref a, rfl, a, C, rfl, T.o, hno, .inr ⟨dx, _, e1, e2, by show 1 ≤ 900; decide, ?_⟩⟩
    refine ⟨.ref a, rfl, a, C, rfl, T.o, T.w, .inr ⟨dx, _, by rw [upd_ne ne.symm]; exact e1, upd_same, by show 2 ≤ 900; decide, ?_⟩⟩
    refine q _ dx ndx (by rw [upd_ne ne.symm, upd_ne ne.symm]; exact e1) upd_same fun b o nb hb => ?_
    have nbd : b ≠ dx := ne_of_none hb ndx
    rw [upd_ne nbd, upd_ne nbd, upd_ne nb, upd_ne nbd]
    exact hb
end

/-! ### own errors in general, and without a law that asks why -/
structure ErT (K : PySem.W.Frag) (mg : Str → Option Value) (CF C fI : Addr) (fdI : FuncData) (word : Str) (N : List Str) : Prop where
  gF : mg "FarError" = some (.ref CF)
  gC : mg word = some (.ref C)
  e : ErrT K C
  x : XfC K C
  c : ExcC K C
  iC : PySem.W.findIn K (.ref C) "__init__" = some (some (.ref fI))
  tI : PySem.W.typeIn K (.ref fI) = some (.type "function")
  bI : Binds K fdI N []
  m : PySem.W.exmOne K (.ref C) (.ref CF) = some true
abbrev Fds := List (Str × V)
section
open PySem.Spec PyProof.Rows
theorem takes_len {X : Cx} {W : WX} (tk : L2.Takes X W) : L2.Takes X (fun cls d σ H => σ.length = X.N.length → W cls d σ H) := fun u s' ⟨a, B, sI, pins, σ, H, cls, d, e, I, nb, up, sky, na, os, ag, w⟩ =>
  tk u s' ⟨a, B, sI, pins, σ, H, cls, d, e, I, nb, up, sky, na, os, ag, w I.len⟩
theorem pss_of {X : Cx} {sts : List Stmt} {t' : TS} (h : ∀ D σ H, t' D σ H → ∃ t, PSs X sts t ∧ t D σ H) : PSs X sts t' := ⟨fun pins s σ H D I ht => by
  obtain ⟨t, h1, h2⟩ := h D σ H ht
  exact h1.run pins s σ H D I h2⟩
end

/-! ### step_of, end_of, is_leader, is_repeat -/
section
variable {P : Program} {w : World} {K : PySem.W.Frag} {mg : Str → Option Value} {base : Heap}
end
/-! ### halved, merged -/
section
variable {P : Program} {w : World} {K : PySem.W.Frag} {mg : Str → Option Value} {base : Heap}
end

/-! ### a tuple of ints, truths and texts in an f-string -/
section
open PySem.Spec PyProof.Rows
end
/-! ### BadMove -/
section
variable {P : Program} {w : World} {K : PySem.W.Frag} {mg : Str → Option Value} {base : Heap}
end

/-! ### is_mating -/
abbrev N_is_mating : List Str := ["length", "mating", "one", "other", "many", "turned", "number"]
abbrev P_is_mating : List Str := ["length", "mating"]
theorem sc_is_mating : FnScope N_is_mating P_is_mating (defScope s_is_mating) := ⟨rfl, rfl, rfl, by decide +kernel, rfl, by decide +kernel, by decide +kernel⟩
def isMat (n : Int) : V → V → V → V → Bool
  | .int o, .int p, .int m, .int f => decide ((f = 0 ∨ f = 1) ∧ 1 ≤ m ∧ 0 ≤ o ∧ 0 ≤ p ∧ o + m ≤ n ∧ p + m ≤ n)
  | _, _, _, _ => false
theorem isMat_b {n : Int} {o p m f : V} (h : ([o, p, m, f].map isB).any id = true) : isMat n o p m f = false := by
  cases o with
  | int _ => cases p with
    | int _ => cases m with
      | int _ => cases f with
        | int _ => exact absurd (show false = true from h) (by decide)
        | _ => rfl
      | _ => rfl
    | _ => rfl
  | _ => rfl
theorem allInt {x : V} (h : IB x) (hb : isB x = false) : ∃ i : Int, x = .int i ∧ i.natAbs < 2 ^ 200 := by
  rcases h with h | ⟨b, rfl⟩
  · exact h
  · cases hb
theorem inV01 (f : Int) : inV (.int f) [.int 0, .int 1] = decide (f = 0 ∨ f = 1) := by
  by_cases h0 : f = 0
  · subst h0
    decide
  · by_cases h1 : f = 1
    · subst h1
      decide
    · have e0 : ¬ (0 = f) := fun z => h0 z.symm
      have e1 : ¬ (1 = f) := fun z => h1 z.symm
      simp [inV, eqV, h0, h1, e0, e1]
def spIsMat : Sp := fun vs H Q _ => ∃ (n : Int) (t : Addr) (o p m f : V), vs = [.int n, .ref t] ∧ n.natAbs < 2 ^ 200 ∧ H t = some (.tup [o, p, m, f]) ∧ IB o ∧ IB p ∧ IB m ∧ IB f ∧ ∀ H', Same H H' → Q (.bl (isMat n o p m f)) H'
section
variable {P : Program} {w : World} {K : PySem.W.Frag} {mg : Str → Option Value} {base : Heap}
theorem ok_is_mating {f : Addr} {fd : FuncData} (D : DefAt K mg "is_mating" s_is_mating P_is_mating f fd) (B : Bn mg) : FnOk P w K mg base CX0 1 f fd P_is_mating spIsMat := by
  refine D.F.ok sc_is_mating (fun vs H Q E h => ?_) (fun cdv A outer s H vs Q E hr h => ?_)
  · obtain ⟨n, t, o, p, m, f, rfl, _⟩ := h
    rfl
  · obtain ⟨n, t, o, p, m, f, rfl, hn, ht, ho, hp, hm, hf, q⟩ := h
    refine ⟨_, (pss_cons (ps_asg (pv 1) (pg_tup (by rfl) (pgs_cons (pg_name (i := 2) sc_is_mating.nd rfl (.inl rfl)) (pgs_cons (pg_name (i := 3) sc_is_mating.nd rfl (.inl rfl)) (pgs_cons (pg_name (i := 4) sc_is_mating.nd rfl (.inl rfl)) (pgs_cons (pg_name (i := 5) sc_is_mating.nd rfl (.inl rfl)) pgs_nil))))))
      (pss_cons (ps_if (pt_val (pe_callB (cr_any rfl) (by rfl) B.any (by decide +kernel) (pa_cons (pe_lc (own := [("number", 6)]) (g := gName 6) (by rfl) sc_is_mating.nd (pi_tup (pe_tup (pa_cons (pv 0) (pa_cons (pv 2) (pa_cons (pv 3) (pa_cons (pv 4) (pa_cons (pv 5) pa_nil))))))) (blkOk_by (own := [("number", 6)]) (N := N_is_mating) (sc := defScope s_is_mating) (by decide +kernel)) (fun _ _ _ _ _ => (pg_name (i := 6) sc_is_mating.nd rfl (.inl rfl))) (fun _ _ _ _ _ => pts_nil) (fun _ _ _ _ _ => (pe_callB (show CallR _ _ (rIsi K) from call_isi) (by rfl) B.isinstance (by decide +kernel) (pa_cons (pv 6) (pa_cons (pe_bltn (v := .ty "bool") (by rfl) B.bool (by decide +kernel) rfl) pa_nil))))) pa_nil))) (pss_one (ps_ret pe_bl)) pss_nil)
      (pss_cons (ps_if (PW.pt (pw_or (pt_cmpR op_notIn_seq (pv 5) (pe_tup (pa_cons pe_int (pa_cons pe_int pa_nil))) (by rfl)) (pw_or1 (pt_cmpR op_lt (pv 4) pe_int (nomark _))))) (pss_one (ps_ret pe_bl)) pss_nil)
      (pss_one (ps_ret (pe_and (pe_cmpR op_ge (pe_callB (call_min2 rfl) (by rfl) B.min (by decide +kernel) (pa_cons (pv 2) (pa_cons (pv 3) pa_nil))) pe_int (nomark _)) (pe_one (pe_cmpR op_le (pe_op op_add (pe_callB (call_max2 rfl) (by rfl) B.max (by decide +kernel) (pa_cons (pv 2) (pa_cons (pv 3) pa_nil))) (pv 4)) (pv 0) (nomark _))))))))), ?_⟩
    refine ⟨.ref t, rfl, t, _, rfl, SqT.of ht, rfl, o, _, rfl, p, _, rfl, m, _, rfl, f, _, rfl, rfl, ?_⟩
    refine ⟨.int n, rfl, o, rfl, p, rfl, m, rfl, f, rfl, by show 5 ≤ sizeLine; decide, fun tp ntp => ?_⟩
    refine ⟨tp, rfl, ⟨_, SqT.of upd_same⟩, fun L nL => lc_tup (K := K) (a := tp) (xs := [.int n, o, p, m, f]) (fun i H2 => Same (upd H tp (.tup [.int n, o, p, m, f])) H2 ∧ H2 L = some (.lst ((([.int n, o, p, m, f].map isB).take i).map V.bl)))
      ⟨same_upd nL, upd_same⟩ (fun i H2 _ ⟨sm, _⟩ => SqT.of (sm _ _ upd_same)) ?_ ?_⟩
    · rintro i x H2 hx ⟨sm, e2⟩
      have hi : i < 5 := (List.getElem?_eq_some_iff.mp hx).1
      have hib : IB x := by
        have : x ∈ [.int n, o, p, m, f] := List.mem_of_getElem? hx
        rcases List.mem_cons.mp this with rfl | this
        · exact .inl ⟨n, rfl, hn⟩
        rcases List.mem_cons.mp this with rfl | this
        · exact ho
        rcases List.mem_cons.mp this with rfl | this
        · exact hp
        rcases List.mem_cons.mp this with rfl | this
        · exact hm
        rcases List.mem_cons.mp this with rfl | this
        · exact hf
        · cases this
      obtain ⟨ty, h1, h2⟩ := hib.ty (K := K) (H := H2)
      refine ⟨rfl, ?_⟩
      refine ⟨x, rfl, _, _, _, _, isB x, rfl, ClsV.ty _, h1, h2, ?_⟩
      refine ⟨_, e2, sz_lt (by rw [List.length_map, List.length_take]; omega), fun b o' hb => ?_, ?_⟩
      · rw [upd_ne (ne_of_none hb nL)]
        exact sm _ _ hb
      · rw [upd_same, List.take_add_one, List.getElem?_map, hx, List.map_append]
        rfl
    · rintro H2 ⟨sm, e2⟩
      have e2' : H2 L = some (.lst (([.int n, o, p, m, f].map isB).map V.bl)) := e2
      have sH : Same H H2 := (same_upd ntp).trans sm
      refine ⟨L, _, rfl, SqL.of e2', _, rfl, ?_⟩
      by_cases hb : ([o, p, m, f].map isB).any id = true
      · have e3 : ([.int n, o, p, m, f].map isB).any id = true := hb
        rw [e3]
        refine iteT ?_
        rw [isMat_b hb] at q
        exact q H2 sH
      · have e3 : ([.int n, o, p, m, f].map isB).any id = false := by
          cases e : ([o, p, m, f].map isB).any id with
          | true => exact absurd e hb
          | false => exact e
        rw [e3]
        refine iteF ?_
        have hb' : ([o, p, m, f].map isB).any id = false := e3
        simp only [List.map_cons, List.map_nil, List.any_cons, List.any_nil, id, Bool.or_false, Bool.or_eq_false_iff] at hb'
        obtain ⟨b1, b2, b3, b4⟩ := hb'
        obtain ⟨o, rfl, _⟩ := allInt ho b1
        obtain ⟨p, rfl, _⟩ := allInt hp b2
        obtain ⟨m, rfl, _⟩ := allInt hm b3
        obtain ⟨f, rfl, _⟩ := allInt hf b4
        refine ⟨.int f, rfl, by show 2 ≤ sizeLine; decide, fun t2 n2 => ?_⟩
        have s2 : Same H (upd H2 t2 (.tup [.int 0, .int 1])) := sH.trans (same_upd n2)
        refine ⟨t2, _, rfl, .inr (SqT.of upd_same), rfl, rfl, _, rfl, ?_⟩
        have no : ¬ ((f = 0 ∨ f = 1) ∧ 1 ≤ m ∧ 0 ≤ o ∧ 0 ≤ p ∧ o + m ≤ n ∧ p + m ≤ n) → Q (.bl false) (upd H2 t2 (.tup [.int 0, .int 1])) := fun h => by
          have := q _ s2
          rw [show isMat n (.int o) (.int p) (.int m) (.int f) = false from decide_eq_false h] at this
          exact this
        rw [if_pos rfl, inV01]
        by_cases hf01 : f = 0 ∨ f = 1
        · rw [decide_eq_true hf01]
          refine iteF ?_
          refine ⟨.int m, rfl, m, 1, rfl, rfl, _, rfl, ?_⟩
          refine ite2 (fun h => ?_) (fun h => ?_)
          · have h' : m < 1 := of_decide_eq_true h
            exact no fun z => by omega
          · have h' : ¬ m < 1 := fun z => h (decide_eq_true z)
            refine ⟨.int o, rfl, .int p, rfl, o, p, rfl, _, 0, rfl, rfl, _, rfl, ?_⟩
            refine ite2 (fun g => ?_) (fun g => ?_)
            · have g' : 0 ≤ (if p < o then p else o) := of_decide_eq_true g
              refine ⟨.int o, rfl, .int p, rfl, o, p, rfl, .int m, rfl, _, _, rfl, rfl, .int n, rfl, _, _, rfl, rfl, ?_⟩
              have := q _ s2
              rw [show isMat n (.int o) (.int p) (.int m) (.int f) = decide ((if p > o then p else o) + m ≤ n) from decide_eq_decide.mpr ⟨fun z => by split <;> omega, fun z => ⟨hf01, by omega, by split at g' <;> omega, by split at g' <;> omega, by split at z <;> omega, by split at z <;> omega⟩⟩] at this
              exact this
            · have g' : ¬ 0 ≤ (if p < o then p else o) := fun z => g (decide_eq_true z)
              exact no fun z => g' (by split <;> omega)
        · rw [decide_eq_false hf01]
          refine iteT ?_
          exact no fun z => hf01 z.1
end

/-! ### the standing matings as a list of numbers and matings -/
abbrev M4 := Int × Int × Int × Int
abbrev t4 (x : M4) : HO := tup4 x.1 x.2.1 x.2.2.1 x.2.2.2
abbrev StL := List (Int × M4)
def sget : StL → Int → Option M4
  | [], _ => none
  | s :: r, i => if s.1 = i then some s.2 else sget r i
def sput (S : StL) (i : Int) (x : M4) : StL := S.map fun s => if s.1 = i then (s.1, x) else s
def sdrop (S : StL) (i : Int) : StL := S.filter fun s => decide (s.1 ≠ i)
def StdR (H : Hp) (kv : Key × V) (s : Int × M4) : Prop := kv.1 = Sum.inl s.1 ∧ ∃ t, kv.2 = .ref t ∧ H t = some (t4 s.2)
def Std (H : Hp) (kvs : List (Key × V)) (S : StL) : Prop := Paired (StdR H) kvs S
/-- tuples stay -/
def KeepT (H H' : Hp) : Prop := ∀ b xs, H b = some (.tup xs) → H' b = some (.tup xs)
theorem Std.keep {H H' : Hp} (k : KeepT H H') : ∀ {kvs : List (Key × V)} {S : StL}, Std H kvs S → Std H' kvs S
  | _, _, .nil => .nil
  | _, _, .cons h r => .cons ⟨h.1, h.2.elim fun t e => ⟨t, e.1, k _ _ e.2⟩⟩ (Std.keep k r)
theorem Std.get {H : Hp} (i : Int) : ∀ {kvs : List (Key × V)} {S : StL}, Std H kvs S → (sget S i = none → valV kvs (Sum.inl i) = none) ∧ ∀ x, sget S i = some x → ∃ t, valV kvs (Sum.inl i) = some (.ref t) ∧ H t = some (t4 x)
  | _, _, .nil => ⟨fun _ => rfl, fun x h => nomatch h⟩
  | _, _, .cons (a := kv) (b := s) h r => by
    obtain ⟨e1, t, e2, e3⟩ := h
    obtain ⟨g1, g2⟩ := Std.get i r
    by_cases e : s.1 = i
    · have ek : kv.1 = Sum.inl i := by rw [e1, e]
      unfold sget
      rw [if_pos e]
      refine ⟨fun z => (by cases z), fun x hx => ?_⟩
      cases hx
      exact ⟨t, by rw [valV_pos ek, e2], e3⟩
    · have ek : ¬ kv.1 = Sum.inl i := by
        rw [e1]
        exact fun z => e (Sum.inl.inj z)
      unfold sget
      rw [if_neg e, valV_neg ek]
      exact ⟨g1, g2⟩
theorem Std.keys {H : Hp} : ∀ {kvs : List (Key × V)} {S : StL}, Std H kvs S → kvs.map (·.1) = (S.map (·.1)).map Sum.inl
  | _, _, .nil => rfl
  | _, _, .cons h r => by
    rw [List.map_cons, List.map_cons, List.map_cons, Std.keys r, h.1]
theorem Std.length {H : Hp} : ∀ {kvs : List (Key × V)} {S : StL}, Std H kvs S → kvs.length = S.length
  | _, _, .nil => rfl
  | _, _, .cons h r => congrArg (· + 1) (Std.length r)
theorem Std.putMap {H : Hp} {i : Int} {t : Addr} {x : M4} (ht : H t = some (t4 x)) : ∀ {kvs : List (Key × V)} {S : StL}, Std H kvs S → Std H (kvs.map fun kv => if kv.1 = Sum.inl i then (kv.1, V.ref t) else kv) (sput S i x)
  | _, _, .nil => .nil
  | _, _, .cons (a := kv) (b := s) h r => by
    refine .cons ?_ (Std.putMap ht r)
    show StdR H (if kv.1 = Sum.inl i then (kv.1, V.ref t) else kv) (if s.1 = i then (s.1, x) else s)
    by_cases e : s.1 = i
    · have ek : kv.1 = Sum.inl i := by rw [h.1, e]
      rw [if_pos ek, if_pos e]
      exact ⟨h.1, t, rfl, ht⟩
    · have ek : ¬ kv.1 = Sum.inl i := by
        rw [h.1]
        exact fun z => e (Sum.inl.inj z)
      rw [if_neg ek, if_neg e]
      exact h
theorem Std.put {H : Hp} {i : Int} {t : Addr} {x y : M4} {kvs : List (Key × V)} {S : StL} (h : Std H kvs S) (hi : sget S i = some y) (ht : H t = some (t4 x)) : Std H (putK kvs (Sum.inl i) (.ref t)) (sput S i x) := by
  obtain ⟨u, hu, _⟩ := (h.get i).2 y hi
  unfold putK
  rw [if_pos (by rw [valV_any, hu]; rfl)]
  exact h.putMap ht
theorem Std.drop {H : Hp} {i : Int} : ∀ {kvs : List (Key × V)} {S : StL}, Std H kvs S → Std H (dropK kvs (Sum.inl i)) (sdrop S i)
  | _, _, .nil => .nil
  | _, _, .cons (a := kv) (b := s) (l₁ := ks) (l₂ := rs) h r => by
    by_cases e : s.1 = i
    · have ek : kv.1 = Sum.inl i := by rw [h.1, e]
      rw [dropK_pos ek, show sdrop (s :: rs) i = sdrop rs i from List.filter_cons_of_neg (by simp [e])]
      exact Std.drop r
    · have ek : ¬ kv.1 = Sum.inl i := by
        rw [h.1]
        exact fun z => e (Sum.inl.inj z)
      rw [dropK_neg ek, show sdrop (s :: rs) i = s :: sdrop rs i from List.filter_cons_of_pos (by simp [e])]
      exact .cons h (Std.drop r)
theorem Std.snoc {H : Hp} {kv : Key × V} {s : Int × M4} (hs : StdR H kv s) : ∀ {kvs : List (Key × V)} {S : StL}, Std H kvs S → Std H (kvs ++ [kv]) (S ++ [s])
  | _, _, .nil => .cons hs .nil
  | _, _, .cons h r => .cons h (Std.snoc hs r)
theorem sput_keys (S : StL) (i : Int) (x : M4) : (sput S i x).map (·.1) = S.map (·.1) := by
  unfold sput
  rw [List.map_map]
  refine List.map_congr_left fun s _ => ?_
  show (if s.1 = i then (s.1, x) else s).1 = s.1
  split <;> rfl
theorem sput_length (S : StL) (i : Int) (x : M4) : (sput S i x).length = S.length := List.length_map _
theorem sdrop_keys {S : StL} {i : Int} (h : (S.map (·.1)).Pairwise (· < ·)) : ((sdrop S i).map (·.1)).Pairwise (· < ·) := h.sublist ((List.filter_sublist).map _)
theorem sdrop_length (S : StL) (i : Int) : (sdrop S i).length ≤ S.length := List.length_filter_le _ _
/-! ### a front -/
def fr (e : Int) (s q : Addr) : List (Str × V) := [("edge", .int e), ("standing", .ref s), ("past", .ref q)]
structure FrT (K : PySem.W.Frag) (mg : Str → Option Value) (C : Addr) : Prop where
  gC : mg "Front" = some (.ref C)
  cl : Cls K C
  nE : NoAttr K C "edge"
  nS : NoAttr K C "standing"
  nP : NoAttr K C "past"
structure FrAt (C : Addr) (H : Hp) (a s q : Addr) (e : Int) (S : StL) (ps : List V) : Prop where
  at_a : ∃ dx, H a = some (.ins C dx (fr e s q))
  at_s : ∃ kvs, H s = some (.dK kvs) ∧ Std H kvs S
  at_q : H q = some (.lst ps)
  up : (S.map (·.1)).Pairwise (· < ·)
  len : S.length ≤ 100
/-- all but the front stands -/
def Off (a s q : Addr) (H H' : Hp) : Prop := ∀ b o, H b = some o → b ≠ a → b ≠ s → b ≠ q → H' b = some o
theorem Off.trans {a s q : Addr} {H H1 H2 : Hp} (x : Off a s q H H1) (y : Off a s q H1 H2) : Off a s q H H2 := fun b o h h1 h2 h3 => y b o (x b o h h1 h2 h3) h1 h2 h3
theorem FrAt.same {C : Addr} {H H' : Hp} {a s q : Addr} {e : Int} {S : StL} {ps : List V} (h : FrAt C H a s q e S ps) (k : Same H H') : FrAt C H' a s q e S ps := by
  obtain ⟨⟨dx, ea⟩, ⟨kvs, es, st⟩, eq, up, len⟩ := h
  exact ⟨⟨dx, k _ _ ea⟩, ⟨kvs, k _ _ es, st.keep fun b xs hb => k _ _ hb⟩, k _ _ eq, up, len⟩
/-- the dict anew -/
theorem FrAt.dict {C : Addr} {H : Hp} {a s q : Addr} {e : Int} {S S' : StL} {ps : List V} {kvs : List (Key × V)} (h : FrAt C H a s q e S ps) (st : Std H kvs S') (up : (S'.map (·.1)).Pairwise (· < ·)) (len : S'.length ≤ 100) :
    FrAt C (upd H s (.dK kvs)) a s q e S' ps ∧ Off a s q H (upd H s (.dK kvs)) := by
  obtain ⟨⟨dx, ea⟩, ⟨kvs0, es, st0⟩, eq, _, _⟩ := h
  have n1 : a ≠ s := ne_of ea es (fun z => by cases z)
  have n2 : q ≠ s := ne_of eq es (fun z => by cases z)
  refine ⟨⟨⟨dx, by rw [upd_ne n1]; exact ea⟩, ⟨kvs, upd_same, st.keep fun b xs hb => ?_⟩, by rw [upd_ne n2]; exact eq, up, len⟩, fun b o hb _ h2 _ => ?_⟩
  · rw [upd_ne (ne_of hb es (fun z => by cases z))]
    exact hb
  · rw [upd_ne h2]
    exact hb
theorem perm_sorted : ∀ {ys ks : List Int}, ys.Perm ks → ys.Pairwise (· ≤ ·) → ks.Pairwise (· < ·) → ys = ks
  | [], ks, p, _, _ => (List.Perm.nil_eq p)
  | y :: ys, [], p, _, _ => nomatch (List.Perm.eq_nil p)
  | y :: ys, k :: ks, p, h1, h2 => by
    have m1 : y ∈ k :: ks := p.subset List.mem_cons_self
    have m2 : k ∈ y :: ys := p.symm.subset List.mem_cons_self
    have e : y = k := by
      rcases List.mem_cons.mp m1 with z | z
      · exact z
      · rcases List.mem_cons.mp m2 with z' | z'
        · exact z'.symm
        · have a1 := (List.pairwise_cons.mp h1).1 _ z'
          have a2 := (List.pairwise_cons.mp h2).1 _ z
          omega
    subst e
    rw [perm_sorted (List.Perm.cons_inv p) (List.pairwise_cons.mp h1).2 (List.pairwise_cons.mp h2).2]
section
variable {X : Cx} {K : PySem.W.Frag}
/-- o.f inside a comprehension -/
theorem pe_fldK {e : Expr} {f : Str} {pos : Pos} {ta : TE} (hK : X.K = K) (he : PE X e ta) (hb : attributeBase e f X.env (eval e X.env) = eval e X.env) : PE X (.Attribute e f pos) (tFld K ta f) := by
  subst hK
  exact pe_fld he hb
end

/-! ### need_length, need_mating, need_road of a road that is right -/
abbrev N_need_from : List Str := ["low", "number"]
abbrev P_need_from : List Str := ["low", "number"]
theorem sc_need_from : FnScope N_need_from P_need_from (defScope s_need_from) := ⟨rfl, rfl, rfl, by decide +kernel, rfl, by decide +kernel, by decide +kernel⟩
abbrev N_need_within : List Str := ["low", "high", "number"]
abbrev P_need_within : List Str := ["low", "high", "number"]
theorem sc_need_within : FnScope N_need_within P_need_within (defScope s_need_within) := ⟨rfl, rfl, rfl, by decide +kernel, rfl, by decide +kernel, by decide +kernel⟩
abbrev N_need_length : List Str := ["number"]
abbrev P_need_length : List Str := ["number"]
theorem sc_need_length : FnScope N_need_length P_need_length (defScope s_need_length) := ⟨rfl, rfl, rfl, by decide +kernel, rfl, by decide +kernel, by decide +kernel⟩
abbrev N_need_mating : List Str := ["length", "mating"]
abbrev P_need_mating : List Str := ["length", "mating"]
theorem sc_need_mating : FnScope N_need_mating P_need_mating (defScope s_need_mating) := ⟨rfl, rfl, rfl, by decide +kernel, rfl, by decide +kernel, by decide +kernel⟩
def spNeed1 (n : Int) : Sp := fun vs H Q _ => ∃ (t : Addr) (m : Int × Int × Int × Int), vs = [.int n, .ref t] ∧ H t = some (t4 m) ∧ ((m.2.2.2 = 0 ∨ m.2.2.2 = 1) ∧ 1 ≤ m.2.2.1 ∧ 0 ≤ m.1 ∧ 0 ≤ m.2.1 ∧ m.1 + m.2.2.1 ≤ n ∧ m.2.1 + m.2.2.1 ≤ n) ∧ ∀ H', Same H H' → Q .non H'
def spFrom0 : Sp := fun vs H Q _ => ∃ lo n : Int, vs = [.int lo, .int n] ∧ lo ≤ n ∧ Q .non H
def spWithin0 : Sp := fun vs H Q _ => ∃ lo hi n : Int, vs = [.int lo, .int hi, .int n] ∧ lo ≤ n ∧ n ≤ hi ∧ Q .non H
def spNeed0 : Sp := fun vs H Q _ => ∃ n : Int, vs = [.int n] ∧ 0 ≤ n ∧ n ≤ 1000000000000000000 ∧ Q .non H
def Mok (n : Int) (x : M4) : Prop := (x.2.2.2 = 0 ∨ x.2.2.2 = 1) ∧ 1 ≤ x.2.2.1 ∧ 0 ≤ x.1 ∧ 0 ≤ x.2.1 ∧ x.1 + x.2.2.1 ≤ n ∧ x.2.1 + x.2.2.1 ≤ n
def Mts (H : Hp) (ts : List Addr) (ms : List M4) : Prop := Paired (fun t x => H t = some (t4 x)) ts ms
theorem Mts.same {H H' : Hp} (k : Same H H') : ∀ {ts : List Addr} {ms : List M4}, Mts H ts ms → Mts H' ts ms
  | _, _, .nil => .nil
  | _, _, .cons h r => .cons (k _ _ h) (Mts.same k r)
theorem Mts.length {H : Hp} : ∀ {ts : List Addr} {ms : List M4}, Mts H ts ms → ts.length = ms.length
  | _, _, .nil => rfl
  | _, _, .cons _ r => congrArg (· + 1) (Mts.length r)
theorem Mts.at {H : Hp} : ∀ {ts : List Addr} {ms : List M4}, Mts H ts ms → ∀ (i : Nat) (t : Addr), ts[i]? = some t → ∃ x, ms[i]? = some x ∧ H t = some (t4 x)
  | _, _, .nil, i, t, h => by simp at h
  | _, _, .cons (b := x) h r, 0, t, e => by
    cases e
    exact ⟨x, rfl, h⟩
  | _, _, .cons h r, i + 1, t, e => Mts.at r i t e
section
variable {P : Program} {w : World} {K : PySem.W.Frag} {mg : Str → Option Value} {base : Heap}
theorem ok_from0 {f : Addr} {fd : FuncData} (D : DefAt K mg "need_from" s_need_from P_need_from f fd) (B : Bn mg) : FnOk P w K mg base CX0 1 f fd P_need_from spFrom0 := by
  refine D.F.ok sc_need_from (fun vs H Q E h => ?_) (fun cdv A outer s H vs Q E hr h => ?_)
  · obtain ⟨lo, n, rfl, _⟩ := h
    rfl
  · obtain ⟨lo, n, rfl, n0, q⟩ := h
    refine ⟨_, (pss_one (ps_if (PW.pt (pw_or (pt_val (pe_callB call_isi (by rfl) B.isinstance (by decide +kernel) (pa_cons (pv 1) (pa_cons (pe_bltn (v := .ty "bool") (by rfl) B.bool (by decide +kernel) rfl) pa_nil)))) (pw_or1 (pt_cmpR op_lt (pv 1) (pv 0) (nomark _))))) (pss_one ps_never) pss_nil)), ?_⟩
    refine ⟨.int n, rfl, _, _, _, _, false, rfl, ClsV.ty _, TyX.base (TyOf.int _), kit_ty (by decide +kernel), _, rfl, iteF ?_⟩
    exact ⟨.int n, rfl, .int lo, rfl, n, lo, rfl, rfl, _, rfl, ite2 (fun h => absurd (of_decide_eq_true h) (by omega)) (fun _ => q)⟩
theorem ok_within0 {f fA : Addr} {fd fdA : FuncData} (D : DefAt K mg "need_within" s_need_within P_need_within f fd) (D_need_from : DefAt K mg "need_from" s_need_from P_need_from fA fdA) (B : Bn mg) : FnOk P w K mg base CX0 2 f fd P_need_within spWithin0 := by
  have G_need_from : FnOk P w K mg base CX0 1 fA fdA P_need_from spFrom0 := ok_from0 D_need_from B
  refine D.F.ok sc_need_within (fun vs H Q E h => ?_) (fun cdv A outer s H vs Q E hr h => ?_)
  · obtain ⟨lo, hi, n, rfl, _⟩ := h
    rfl
  · obtain ⟨lo, hi, n, rfl, n0, n1, q⟩ := h
    refine ⟨_, (pss_cons (ps_expr (pe_call G_need_from (hr.mono (by omega)) (by rfl) D_need_from.g D_need_from.F.kp D_need_from.b .nil pass0 (pa_cons (pv 0) (pa_cons (pv 2) pa_nil))))
      (pss_one (ps_if (pt_cmpR op_gt (pv 2) (pv 1) (nomark _)) (pss_one ps_never) pss_nil))), ?_⟩
    refine ⟨.int lo, rfl, .int n, rfl, lo, n, rfl, n0, ?_⟩
    exact ⟨.int n, rfl, .int hi, rfl, n, hi, rfl, rfl, _, rfl, ite2 (fun h => absurd (of_decide_eq_true h) (by omega)) (fun _ => q)⟩
theorem ok_need0 {f fA fV : Addr} {fd fdA fdV : FuncData} {tok : Tok} (D : DefAt K mg "need_length" s_need_length P_need_length f fd) (D_need_from : DefAt K mg "need_from" s_need_from P_need_from fA fdA) (D_need_within : DefAt K mg "need_within" s_need_within P_need_within fV fdV) (g_FAR : mg "FAR" = some (.int 1000000000000000000 tok)) (B : Bn mg) : FnOk P w K mg base CX0 3 f fd P_need_length spNeed0 := by
  have G_need_within : FnOk P w K mg base CX0 2 fV fdV P_need_within spWithin0 := ok_within0 D_need_within D_need_from B
  refine D.F.ok sc_need_length (fun vs H Q E h => ?_) (fun cdv A outer s H vs Q E hr h => ?_)
  · obtain ⟨n, rfl, _⟩ := h
    rfl
  · obtain ⟨n, rfl, n0, n1, q⟩ := h
    refine ⟨_, (pss_one (ps_expr (pe_call G_need_within (hr.mono (by omega)) (by rfl) D_need_within.g D_need_within.F.kp D_need_within.b .nil pass0 (pa_cons pe_int (pa_cons (pe_glob (v := .int _) (by rfl) g_FAR ⟨_, rfl⟩) (pa_cons (pv 0) pa_nil)))))), ?_⟩
    exact ⟨.int n, rfl, 0, 1000000000000000000, n, rfl, n0, n1, q⟩
theorem ok_need1 {f fM : Addr} {fd fdM : FuncData} {n : Int} (D : DefAt K mg "need_mating" s_need_mating P_need_mating f fd) (D_is_mating : DefAt K mg "is_mating" s_is_mating P_is_mating fM fdM) (n0 : 0 ≤ n) (n1 : n ≤ 1000000000000000000) (B : Bn mg) : FnOk P w K mg base CX0 2 f fd P_need_mating (spNeed1 n) := by
  have G_is_mating : FnOk P w K mg base CX0 1 fM fdM P_is_mating spIsMat := ok_is_mating D_is_mating B
  refine D.F.ok sc_need_mating (fun vs H Q E h => ?_) (fun cdv A outer s H vs Q E hr h => ?_)
  · obtain ⟨t, m, rfl, _⟩ := h
    rfl
  · obtain ⟨t, m, rfl, em, ⟨h1, h2, h3, h4, h5, h6⟩, q⟩ := h
    refine ⟨_, (pss_one (ps_if (pt_not (pt_val (pe_call G_is_mating (hr.mono (by omega)) (by rfl) D_is_mating.g D_is_mating.F.kp D_is_mating.b .nil pass0 (pa_cons (pv 0) (pa_cons (pv 1) pa_nil))))) (pss_one ps_never) pss_nil)), ?_⟩
    refine ⟨.int n, rfl, .ref t, rfl, n, t, .int m.1, .int m.2.1, .int m.2.2.1, .int m.2.2.2, rfl, by omega, em, .int (by omega), .int (by omega), .int (by omega), .int (by omega), fun H3 s3 => ?_⟩
    rw [show isMat n (.int m.1) (.int m.2.1) (.int m.2.2.1) (.int m.2.2.2) = true from decide_eq_true ⟨h1, h2, h3, h4, h5, h6⟩]
    exact ⟨true, rfl, iteF (q _ s3)⟩
end
/-! ### {k: v for i, x in enumerate(us)} -/
/-! ### {k: v for i, x in enumerate(us)}, us a tuple -/
/-! ### put -/
def nrm (x : M4) : M4 := ((if x.2.1 < x.1 then x.2.1 else x.1), (if x.2.1 < x.1 then x.1 else x.2.1), x.2.2.1, x.2.2.2)
section
variable {P : Program} {w : World} {K : PySem.W.Frag} {mg : Str → Option Value} {base : Heap} {C : Addr}
end
/-! ### merge, halve -/
section
variable {P : Program} {w : World} {K : PySem.W.Frag} {mg : Str → Option Value} {base : Heap} {C : Addr}
end

/-! ### left -/
/-- pairs of a number and a mating -/
def LsR (H : Hp) (u : Addr) (s : Int × M4) : Prop := ∃ t, H u = some (.tup [.int s.1, .ref t]) ∧ H t = some (t4 s.2)
def Ls (H : Hp) (us : List Addr) (S : StL) : Prop := Paired (LsR H) us S
theorem Ls.snoc {H : Hp} {u : Addr} {s : Int × M4} (hs : LsR H u s) : ∀ {us : List Addr} {S : StL}, Ls H us S → Ls H (us ++ [u]) (S ++ [s])
  | _, _, .nil => .cons hs .nil
  | _, _, .cons h r => .cons h (Ls.snoc hs r)
theorem Ls.keep {H H' : Hp} (k : KeepT H H') : ∀ {us : List Addr} {S : StL}, Ls H us S → Ls H' us S
  | _, _, .nil => .nil
  | _, _, .cons h r => .cons (h.elim fun t e => ⟨t, k _ _ e.1, k _ _ e.2⟩) (Ls.keep k r)
theorem Ls.length {H : Hp} : ∀ {us : List Addr} {S : StL}, Ls H us S → us.length = S.length
  | _, _, .nil => rfl
  | _, _, .cons h r => congrArg (· + 1) (Ls.length r)
theorem sget_mem : ∀ {S : StL} {s : Int × M4}, (S.map (·.1)).Pairwise (· < ·) → s ∈ S → sget S s.1 = some s.2
  | x :: r, s, h, hm => by
    rcases List.mem_cons.mp hm with rfl | hm
    · exact if_pos rfl
    · have h' := List.pairwise_cons.mp h
      have lt : x.1 < s.1 := h'.1 s.1 (List.mem_map.mpr ⟨s, hm, rfl⟩)
      show (if x.1 = s.1 then some x.2 else sget r s.1) = some s.2
      rw [if_neg (by omega)]
      exact sget_mem h'.2 hm
section
variable {P : Program} {w : World} {K : PySem.W.Frag} {mg : Str → Option Value} {base : Heap} {C : Addr}
end
/-! ### __init__ -/
def en : Nat → List M4 → StL
  | _, [] => []
  | i, x :: r => (((i : Nat) : Int), nrm x) :: en (i + 1) r
section
variable {P : Program} {w : World} {K : PySem.W.Frag} {mg : Str → Option Value} {base : Heap} {C : Addr}
end
/-! ### sorted(d.items()) of a dict with rising int keys whose values are objects -/
namespace SIt
open PySem PySem.W PySem.Calls PyProof.Rows PyProof.V PySem.Spec
section
variable {prog : Program} {w : World} {A : Around} {E : Value → Shared → Prop} {s : Shared}
/-- the tuple (k, the object at u) -/
def PairK (h : Heap) (v : Value) (k : Int) (u : Addr) : Prop := ∃ (a : Addr) (t : Tok), v = .ref a ∧ IsTup h a #[.int k t, .ref u]
def intOf : Option Value → Int
  | some (.int x _) => x
  | _ => 0
def keyI (h : Heap) (v : Value) : Int := intOf (DT.seqAt0 h (DT.refOf (some v)))
theorem PairK.key {h : Heap} {v : Value} {k : Int} {u : Addr} (x : PairK h v k u) : keyI h v = k := by
  obtain ⟨a, t, rfl, h1⟩ := x
  show intOf (DT.seqAt0 h a) = k
  rw [DT.seqAt0_of h1]
  rfl
end
end SIt
section
open PySem PySem.Spec PyProof.Rows
variable {X : Cx}
end

/-! ### max(xs, default=d), xs a list of ints -/
section
open PySem.Spec PyProof.Rows
variable {prog : Program} {w : World} {A : Around} {E : Value → Shared → Prop} {s : Shared} {l : Addr}
theorem old_of_push {ob : Obj} {g : Heap} (hk : ∀ b o, b ∉ [s.heap.objs.size] → (s.heap.push ob).get? b = some o → g.get? b = some o) {b : Addr} {o : Obj} (e : s.heap.get? b = some o) : g.get? b = some o :=
  hk b o (fun z => Nat.lt_irrefl _ ((List.mem_singleton.mp z) ▸ Heap.lt_size e)) (Heap.get?_push_of_some _ e)
theorem max_dflt {its : List Value} {ns : List Int} {d : Value} {Q : Value → Shared → Prop} (hh : A.handled = none) (hl : s.heap.IsList l its.toArray) (hi : IntsAre its ns)
    (h0 : ns = [] → ∀ g tk, (∀ b o, s.heap.get? b = some o → g.get? b = some o) → Q d { s with heap := g, toks := tk })
    (h1 : ∀ g tk M t, (∀ b o, s.heap.get? b = some o → g.get? b = some o) → M ∈ ns → (∀ a, a ∈ ns → a ≤ M) → Q (.int M t) { s with heap := g, toks := tk }) :
    wpAny (model prog w) A (call (.builtin "max") [.ref l] [(Str.ofString "default", d)]) Q E s := by
  obtain ⟨xs, e⟩ := hi.allInts.items
  have hn : numsOf (intItems xs).toList = ns := by
    rw [← e]
    exact hi.numsOf
  rw [nums_intItems] at hn
  subst hn
  rw [e] at hl
  refine PySem.call_max_walkD (iter_any hl fun s2 e2 st hne => ?_)
  subst e2
  have hlt : l < s.heap.objs.size := by
    obtain ⟨_, q, _⟩ := hl
    exact Heap.lt_size q
  have hz : (intItems xs).size = xs.size := by simp [intItems]
  refine ⟨_, _, _, _, _, _, _, ⟨#[], {}⟩, fun i j => decide (numAt xs i > numAt xs j), rfl, (Walks.list (A := A.in1) hh _ l hne (intItems xs)).toS, st, fun b hb => ?_, fun b o q => by simp [Heap.get?] at q, fun b o q => by simp [Heap.get?] at q, fun hn s' mv => ?_, fun hn => ⟨fun i j vi vj s0 Q' E' _ pi pj q => ?_, fun v s' pv mv => ?_⟩⟩
  · rw [Heap.size_push]
    rcases List.mem_cons.mp hb with rfl | hb
    · exact Nat.lt_succ_self _
    · rcases List.mem_cons.mp hb with rfl | hb
      · exact Nat.lt_succ_of_lt hlt
      · cases hb
  · have hx : xs.toList.map (·.1) = [] := by
      rw [hz] at hn
      rw [List.map_eq_nil_iff, ← List.length_eq_zero_iff, Array.length_toList]
      exact hn
    obtain ⟨hp, hg, hd, ht, ho⟩ := s'
    obtain ⟨m1, m2, m3, m4, m5⟩ := mv
    simp only at m2 m3 m4
    subst m2 m3 m4
    exact h0 hx hp ht fun b o q => old_of_push m1 q
  · exact CmpOf.ints_gt (numAt xs) (fun _ _ => intItems_at) i j vi vj s0 Q' E' pi pj q
  · obtain ⟨t, rfl⟩ := intItems_at pv
    rw [hz] at hn
    obtain ⟨a1, a2⟩ := argBest_gt (numAt xs) (xs.size - 1)
    obtain ⟨hp, hg, hd, ht, ho⟩ := s'
    obtain ⟨m1, m2, m3, m4, m5⟩ := mv
    simp only at m2 m3 m4
    subst m2 m3 m4
    rw [hz]
    refine h1 hp ht _ t (fun b o q => old_of_push m1 q) ?_ fun a ha => ?_
    · rw [numAt_eq]
      exact PySem.getD_mem (by rw [List.length_map, Array.length_toList]; omega)
    · obtain ⟨j, hj, rfl⟩ := mem_getD ha
      rw [List.length_map, Array.length_toList] at hj
      rw [← numAt_eq]
      exact a2 j (by omega)
end
def rMaxDf (K : PySem.W.Frag) : List V → List V → Hp → VK → Prop := fun vs zs H Q => ∃ (a : Addr) (ns : List Int) (d : V), vs = [.ref a] ∧ zs = [d] ∧ SqL K H a (ns.map V.int) ∧ (ns = [] → Q d H) ∧ ∀ m, m ∈ ns → (∀ y, y ∈ ns → y ≤ m) → Q (.int m) H
theorem cr_maxDf {X : Cx} (hc : X.calm = true) : CallRK X (.builtin "max") ["default"] (rMaxDf X.K) := by
  intro pins s σ H vs zs us ws Q I r1 r2 h
  obtain ⟨a, ns, d, rfl, rfl, hs, q0, q1⟩ := h
  obtain ⟨its, rv, hl, _⟩ := I.list hs
  rw [Vals.ref1 r1]
  cases r2 with
  | cons rd rn =>
    cases rn
    exact max_dflt (I.ok.hd hc) hl.isList rv.ints (fun e g tk hk => ⟨d, H, I.kept hk, rd, q0 e⟩) fun g tk m t hk h1 h2 => ⟨.int _, H, I.kept hk, ⟨_, rfl⟩, q1 m h1 h2⟩

/-! ### a road that is being folded, as data -/
inductive Ev where
  | bare (m e : Int)
  | fold (m e lo st f : Int)
structure FS where
  e : Int
  S : StL
  L : List Ev
def evV : Ev → List V
  | .bare m e => [.str "bare", .int m, .int e]
  | .fold m e lo st f => [.str "fold", .int m, .int e, .int lo, .int st, .int f]
inductive Mo where
  | idle (i : Int)
  | halve (i : Int)
  | merge (i j : Int)
  | lead (j d i : Int)
  | fold (i m : Int)
  | bare (m : Int)
/-- a mating below e, told with its lesser stretch first -/
structure Rok (e : Int) (x : M4) : Prop where
  o0 : 0 ≤ x.1
  op : x.1 ≤ x.2.1
  m1 : 1 ≤ x.2.2.1
  pe : x.2.1 + x.2.2.1 ≤ e
  f01 : x.2.2.2 = 0 ∨ x.2.2.2 = 1
structure WF (X : FS) : Prop where
  e0 : 0 ≤ X.e
  e1 : X.e ≤ 4000000000000000000
  r : ∀ s ∈ X.S, Rok X.e s.2
  up : (X.S.map (·.1)).Pairwise (· < ·)
  len : X.S.length ≤ 60
theorem sget_in : ∀ {S : StL} {i : Int} {x : M4}, sget S i = some x → (i, x) ∈ S
  | s :: r, i, x, h => by
    have h' : (if s.1 = i then some s.2 else sget r i) = some x := h
    by_cases e : s.1 = i
    · rw [if_pos e] at h'
      cases h'
      rw [← e]
      exact List.mem_cons_self
    · rw [if_neg e] at h'
      exact List.mem_cons_of_mem _ (sget_in h')
theorem WF.at {X : FS} (h : WF X) {i : Int} {x : M4} (e : sget X.S i = some x) : Rok X.e x := h.r _ (sget_in e)
theorem sput_mem {S : StL} {i : Int} {x : M4} {s : Int × M4} (h : s ∈ sput S i x) : (s.1 = i ∧ s.2 = x) ∨ s ∈ S ∧ s.1 ≠ i := by
  obtain ⟨t, ht, e⟩ := List.mem_map.mp h
  by_cases z : t.1 = i
  · rw [if_pos z] at e
    rw [← e]
    exact .inl ⟨z, rfl⟩
  · rw [if_neg z] at e
    rw [← e]
    exact .inr ⟨ht, z⟩
theorem sdrop_mem {S : StL} {i : Int} {s : Int × M4} (h : s ∈ sdrop S i) : s ∈ S ∧ s.1 ≠ i := by
  obtain ⟨h1, h2⟩ := List.mem_filter.mp h
  exact ⟨h1, of_decide_eq_true h2⟩
theorem fold_max_ge (l : List Int) : ∀ a : Int, a ≤ l.foldl max a ∧ ∀ y ∈ l, y ≤ l.foldl max a := by
  induction l with
  | nil => exact fun a => ⟨Int.le_refl _, fun y h => by cases h⟩
  | cons z r ih =>
    intro a
    obtain ⟨h1, h2⟩ := ih (max a z)
    refine ⟨by show a ≤ r.foldl max (max a z); omega, fun y hy => ?_⟩
    show y ≤ r.foldl max (max a z)
    rcases List.mem_cons.mp hy with rfl | hy
    · omega
    · exact h2 y hy
theorem fold_max_in (l : List Int) : ∀ a : Int, l.foldl max a = a ∨ l.foldl max a ∈ l := by
  induction l with
  | nil => exact fun a => .inl rfl
  | cons z r ih =>
    intro a
    show r.foldl max (max a z) = a ∨ r.foldl max (max a z) ∈ z :: r
    rcases ih (max a z) with h | h
    · rw [h]
      by_cases q : a < z
      · exact .inr (by rw [show max a z = z by omega]; exact List.mem_cons_self)
      · exact .inl (by omega)
    · exact .inr (List.mem_cons_of_mem _ h)
/-- the greatest of the numbers, and 0 -/
theorem max_is {l : List Int} {M : Int} (h0 : 0 ≤ M) (h1 : M = 0 ∨ M ∈ l) (h2 : ∀ y ∈ l, y ≤ M) : M = l.foldl max 0 := by
  obtain ⟨g1, g2⟩ := fold_max_ge l 0
  have a : M ≤ l.foldl max 0 := by
    rcases h1 with h | h
    · omega
    · exact g2 M h
  have b : l.foldl max 0 ≤ M := by
    rcases fold_max_in l 0 with h | h
    · omega
    · exact h2 _ h
  omega
theorem WF.drop {X : FS} (h : WF X) (i : Int) : WF ⟨X.e, sdrop X.S i, X.L⟩ := ⟨h.e0, h.e1, fun s hs => h.r s (sdrop_mem hs).1, sdrop_keys h.up, Nat.le_trans (sdrop_length _ _) h.len⟩
theorem WF.put {X : FS} (h : WF X) {i : Int} {y : M4} (hy : Rok X.e y) : WF ⟨X.e, sput X.S i y, X.L⟩ := by
  refine ⟨h.e0, h.e1, fun s hs => ?_, by rw [sput_keys]; exact h.up, by rw [sput_length]; exact h.len⟩
  rcases sput_mem hs with ⟨_, e⟩ | ⟨hs, _⟩
  · rw [e]
    exact hy
  · exact h.r s hs
/-! ### a front, as the data tell it -/
def Past (H : Hp) (ps : List V) (L : List Ev) : Prop := Paired (fun v ev => ∃ t, v = V.ref t ∧ H t = some (.tup (evV ev))) ps L
theorem Past.keep {H H' : Hp} (k : KeepT H H') {ps : List V} {L : List Ev} (h : Past H ps L) : Past H' ps L := Paired.mapP h fun v ev ⟨t, e1, e2⟩ => ⟨t, e1, k _ _ e2⟩
theorem Past.length {H : Hp} : ∀ {ps : List V} {L : List Ev}, Past H ps L → ps.length = L.length
  | _, _, .nil => rfl
  | _, _, .cons _ r => congrArg (· + 1) (Past.length r)
theorem Past.snoc {H : Hp} {v : V} {ev : Ev} (hs : ∃ t, v = V.ref t ∧ H t = some (.tup (evV ev))) : ∀ {ps : List V} {L : List Ev}, Past H ps L → Past H (ps ++ [v]) (L ++ [ev])
  | _, _, .nil => .cons hs .nil
  | _, _, .cons h r => .cons h (Past.snoc hs r)
def FrS (C : Addr) (H : Hp) (a s q : Addr) (X : FS) : Prop := ∃ ps, FrAt C H a s q X.e X.S ps ∧ Past H ps X.L
theorem FrS.same {C : Addr} {H H' : Hp} {a s q : Addr} {X : FS} (h : FrS C H a s q X) (k : Same H H') : FrS C H' a s q X := by
  obtain ⟨ps, h1, h2⟩ := h
  exact ⟨ps, h1.same k, h2.keep fun b xs hb => k _ _ hb⟩
theorem FrAt.edge {C dx : Addr} {H : Hp} {a s q : Addr} {e m : Int} {S : StL} {ps : List V} (h : FrAt C H a s q e S ps) : FrAt C (upd H a (.ins C dx (fr m s q))) a s q m S ps ∧ Off a s q H (upd H a (.ins C dx (fr m s q))) := by
  obtain ⟨⟨dx0, ea⟩, ⟨kvs0, es, st0⟩, eq, up, len⟩ := h
  have n1 : s ≠ a := ne_of es ea (fun z => by cases z)
  have n2 : q ≠ a := ne_of eq ea (fun z => by cases z)
  refine ⟨⟨⟨dx, upd_same⟩, ⟨kvs0, by rw [upd_ne n1]; exact es, st0.keep fun b xs hb => ?_⟩, by rw [upd_ne n2]; exact eq, up, len⟩, fun b o hb h1 _ _ => ?_⟩
  · rw [upd_ne (ne_of hb ea (fun z => by cases z))]
    exact hb
  · rw [upd_ne h1]
    exact hb
theorem FrAt.past {C : Addr} {H : Hp} {a s q : Addr} {e : Int} {S : StL} {ps ps' : List V} (h : FrAt C H a s q e S ps) : FrAt C (upd H q (.lst ps')) a s q e S ps' ∧ Off a s q H (upd H q (.lst ps')) := by
  obtain ⟨⟨dx0, ea⟩, ⟨kvs0, es, st0⟩, eq, up, len⟩ := h
  have n1 : s ≠ q := ne_of es eq (fun z => by cases z)
  have n2 : a ≠ q := ne_of ea eq (fun z => by cases z)
  refine ⟨⟨⟨dx0, by rw [upd_ne n2]; exact ea⟩, ⟨kvs0, by rw [upd_ne n1]; exact es, st0.keep fun b xs hb => ?_⟩, upd_same, up, len⟩, fun b o hb _ _ h3 => ?_⟩
  · rw [upd_ne (ne_of hb eq (fun z => by cases z))]
    exact hb
  · rw [upd_ne h3]
    exact hb
/-! ### leader, idle, bare, reach -/
section
variable {P : Program} {w : World} {K : PySem.W.Frag} {mg : Str → Option Value} {base : Heap} {C : Addr}
end

/-! ### led_back, lead -/
section
variable {P : Program} {w : World} {K : PySem.W.Frag} {mg : Str → Option Value} {base : Heap} {C : Addr}
end

/-! ### clipped -/
abbrev N_clipped : List Str := ["mating", "length", "one", "other", "many", "turned", "low", "end"]
abbrev P_clipped : List Str := ["mating", "length"]
theorem sc_clipped : FnScope N_clipped P_clipped (defScope s_clipped) := ⟨rfl, rfl, rfl, by decide +kernel, rfl, by decide +kernel, by decide +kernel⟩
def clipLo (o p m f n : Int) : Int := if f = 1 then o + (if p + m - n > 0 then p + m - n else 0) else o
def clipHi (o p m f n : Int) : Int := if f = 1 then (if n < o + m then n else o + m) else (if o + n - p < (if n < o + m then n else o + m) then o + n - p else (if n < o + m then n else o + m))
def spClipped : Sp := fun vs H Q _ => ∃ (t : Addr) (o p m f n : Int), vs = [.ref t, .int n] ∧ H t = some (tup4 o p m f) ∧ (f = 0 ∨ f = 1) ∧
  (clipHi o p m f n ≤ clipLo o p m f n → Q .non H) ∧ (clipLo o p m f n < clipHi o p m f n → ∀ r, H r = none → Q (.ref r) (upd H r (tup4 (clipLo o p m f n) (partP o p m f (clipLo o p m f n) (clipHi o p m f n - clipLo o p m f n)) (clipHi o p m f n - clipLo o p m f n) f)))
theorem clip_lo (o p m f n : Int) : o ≤ clipLo o p m f n := by
  unfold clipLo
  split
  · split <;> omega
  · omega
theorem clip_hi (o p m f n : Int) : clipHi o p m f n ≤ o + m := by
  unfold clipHi
  split
  · split <;> omega
  · split
    · split at * <;> omega
    · split <;> omega
section
variable {P : Program} {w : World} {K : PySem.W.Frag} {mg : Str → Option Value} {base : Heap}
theorem ok_clipped {f fH fP : Addr} {fd fdH fdP : FuncData} (D : DefAt K mg "clipped" s_clipped P_clipped f fd) (D_part : DefAt K mg "part" s_part P_part fP fdP) (D_holds : DefAt K mg "holds" s_holds P_holds fH fdH) (B : Bn mg) : FnOk P w K mg base CX0 3 f fd P_clipped spClipped := by
  have G_part : FnOk P w K mg base CX0 2 fP fdP P_part spPart := ok_part D_part D_holds B
  refine D.F.ok sc_clipped (fun vs H Q E h => ?_) (fun cdv A outer s H vs Q E hr h => ?_)
  · obtain ⟨t, o, p, m, f, n, rfl, _⟩ := h
    rfl
  · obtain ⟨t, o, p, m, f, n, rfl, ht, hf, q1, q2⟩ := h
    refine ⟨_, (pss_cons (ps_asg (pv 0) (pg_tup (by rfl) (pgs_cons (pg_name (i := 2) sc_clipped.nd rfl (.inl rfl)) (pgs_cons (pg_name (i := 3) sc_clipped.nd rfl (.inl rfl)) (pgs_cons (pg_name (i := 4) sc_clipped.nd rfl (.inl rfl)) (pgs_cons (pg_name (i := 5) sc_clipped.nd rfl (.inl rfl)) pgs_nil))))))
      (pss_cons (ps_set (i := 6) sc_clipped.nd rfl (.inl rfl) (pv 2))
      (pss_cons (ps_set (i := 7) sc_clipped.nd rfl (.inl rfl) (pe_callB (call_min2 rfl) (by rfl) B.min (by decide +kernel) (pa_cons (pe_op op_add (pv 2) (pv 4)) (pa_cons (pv 1) pa_nil))))
      (C8.pss_cut (ps_if (pt_cmpR op_eq (pv 5) pe_int (nomark _)) (pss_one (ps_set (i := 6) sc_clipped.nd rfl (.inl rfl) (pe_op op_add (pv 2) (pe_callB (call_max2 rfl) (by rfl) B.max (by decide +kernel) (pa_cons pe_int (pa_cons (pe_op op_sub (pe_op op_add (pv 3) (pv 4)) (pv 1)) pa_nil)))))) (pss_one (ps_set (i := 7) sc_clipped.nd rfl (.inl rfl) (pe_callB (call_min2 rfl) (by rfl) B.min (by decide +kernel) (pa_cons (pv 7) (pa_cons (pe_op op_sub (pe_op op_add (pv 2) (pv 1)) (pv 3)) pa_nil))))))
      (pss_cons (ps_if (pt_cmpR op_le (pv 7) (pv 6) (nomark _)) (pss_one (ps_ret pe_non)) pss_nil)
      (pss_one (ps_ret (pe_call G_part (hr.mono (by omega)) (by rfl) D_part.g D_part.F.kp D_part.b .nil pass0 (pa_cons (pv 0) (pa_cons (pv 6) (pa_cons (pe_op op_sub (pv 7) (pv 6)) pa_nil))))))))))), ?_⟩
    refine ⟨.ref t, rfl, t, _, rfl, SqT.of ht, rfl, .int o, _, rfl, .int p, _, rfl, .int m, _, rfl, .int f, _, rfl, rfl, ?_⟩
    refine ⟨.int o, rfl, ?_⟩
    refine ⟨.int o, rfl, .int m, rfl, o, m, rfl, rfl, .int n, rfl, _, n, rfl, ?_⟩
    refine ⟨fun σ H' => σ = [some (.ref t), some (.int n), some (.int o), some (.int p), some (.int m), some (.int f), some (.int (clipLo o p m f n)), some (.int (clipHi o p m f n))] ∧ H' = H, ?_, ?_⟩
    · refine ⟨.int f, rfl, rfl, _, rfl, ?_⟩
      refine ite2 (fun h => ?_) (fun h => ?_)
      · have hf1 : f = 1 := V.int.inj (of_decide_eq_true h)
        refine ⟨.int o, rfl, .int p, rfl, .int m, rfl, p, m, rfl, rfl, .int n, rfl, _, n, rfl, rfl, 0, _, rfl, o, _, rfl, rfl, ?_, rfl⟩
        unfold clipLo clipHi
        rw [if_pos hf1, if_pos hf1]
        rfl
      · have hf1 : ¬ f = 1 := fun z => h (decide_eq_true (congrArg V.int z))
        refine ⟨_, rfl, .int o, rfl, .int n, rfl, o, n, rfl, rfl, .int p, rfl, _, p, rfl, rfl, _, _, rfl, ?_, rfl⟩
        unfold clipLo clipHi
        rw [if_neg hf1, if_neg hf1]
        rfl
    · rintro σ H' ⟨rfl, rfl⟩
      refine ⟨.int (clipHi o p m f n), rfl, .int (clipLo o p m f n), rfl, _, _, rfl, rfl, _, rfl, ?_⟩
      refine ite2 (fun h => ?_) (fun h => ?_)
      · exact q1 (of_decide_eq_true h)
      · have hlt : clipLo o p m f n < clipHi o p m f n := by
          have : ¬ clipHi o p m f n ≤ clipLo o p m f n := fun z => h (decide_eq_true z)
          omega
        have h1 := clip_lo o p m f n
        have h2 := clip_hi o p m f n
        refine ⟨.ref t, rfl, .int (clipLo o p m f n), rfl, .int (clipHi o p m f n), rfl, .int (clipLo o p m f n), rfl, _, _, rfl, rfl, t, o, p, m, f, _, _, rfl, ht, hf, by omega, h1, by omega, fun r hr' => ?_⟩
        exact q2 hlt r hr'
end

/-! ### fold -/
section
variable {P : Program} {w : World} {K : PySem.W.Frag} {mg : Str → Option Value} {base : Heap} {C : Addr}
end

/-! ### made, make -/
section
variable {P : Program} {w : World} {K : PySem.W.Frag} {mg : Str → Option Value} {base : Heap} {C : Addr}
end

theorem Std.dget {H : Hp} {R : Addr} {kvs : List (Key × V)} {S : StL} (h : Std H kvs S) (e : H R = some (.dK kvs)) {k : Int} {x : M4} (hx : sget S k = some x) : ∃ tx, DGet H R (.int k) (some (.ref tx)) ∧ valV kvs (Sum.inl k) = some (.ref tx) ∧ H tx = some (t4 x) := by
  obtain ⟨tx, h1, h2⟩ := (h.get k).2 x hx
  refine ⟨tx, ?_, h1, h2⟩
  rw [← h1]
  exact DGet.k (k := Sum.inl k) e
/-! ### {**d, k: v}: a new dict, with one key more (for the class Road) -/
namespace DStar
open PySem PySem.Spec PyProof.V PyProof.Rows L2
section
variable {prog : Program} {w : World} {K : Type} [DecidableEq K] {knd : KeyKind prog w K} {A : Around} {E : Value → Shared → Prop} {s : Shared}
theorem wpAny_dictPut_pairs {d : Addr} {kvs : List (K × Value)} {k : K} {key v : Value} {Q : Unit → Shared → Prop} (hkey : knd.is k key = true) (hm : s.heap.DictOf knd d kvs)
    (hQ : ∀ h', h'.DictOf knd d (stored kvs k v) → Heap.SameBut d s.heap h' → Q () { s with heap := h' })
    (hsz : kvs.length ≤ sizeLine) :
    wpAny (model prog w) A (dictPut d (knd.hash k) key v) Q E s := by
  obtain ⟨o, es, ep, ho, hc, hd, hk, hp, hn⟩ := hm
  have hes : es.size ≤ sizeLine := by
    have e1 := hp.length
    have e2 : es.toList.length = es.size := by simp
    omega
  unfold dictPut
  refine wpAny_bind (wpAny_dictFind_of hkey ho hd hk ?_)
  have hidx : (es.findIdx? fun e => knd.is k e.key) = kvs.findIdx? fun kv => decide (kv.1 = k) := by
    rw [← hp.findIdx k]; obtain ⟨l⟩ := es; simp
  cases hi : es.findIdx? fun e => knd.is k e.key with
  | some i =>
    refine wpAny_updateDict ho hd (hQ _ ⟨_, _, ep, Heap.get?_update_self _ ho (Obj.isFreed_of_dict (Obj.data_mapDict hd _)), hc.mapDict _, Obj.data_mapDict hd _, hk.modify _ _, ?_, ?_⟩ (Heap.SameBut.update ..))
    · rw [stored, if_pos (any_of_findIdx_some (hidx ▸ hi))]
      have hl : (es.toList.findIdx? fun e => knd.is k e.key) = some i := by rw [← hi]; obtain ⟨l⟩ := es; simp
      have := hp.modify hn hl v
      obtain ⟨l⟩ := es
      simpa using this
    · rw [stored, if_pos (any_of_findIdx_some (hidx ▸ hi)), keys_map_store]; exact hn
  | none =>
    have hnot : k ∉ kvs.map (·.1) := not_mem_of_findIdx_none (hidx ▸ hi)
    have hany : ¬ (kvs.any fun kv => decide (kv.1 = k)) = true := by
      rw [List.any_eq_true]; rintro ⟨kv, hkv, he⟩
      exact hnot (List.mem_map.mpr ⟨kv, hkv, of_decide_eq_true he⟩)
    refine wpAny_updateDictKeys (hz := hes) ho hd (hQ _ ⟨_, _, ep + 1, Heap.get?_update_self _ ho (Obj.isFreed_of_dict (Obj.data_mapDictKeys hd _)), hc.mapDictKeys _, Obj.data_mapDictKeys hd _, hk.push hkey _, ?_, ?_⟩ (Heap.SameBut.update ..))
    · rw [stored, if_neg hany]
      have := hp.append hkey (knd.hash k) v
      obtain ⟨l⟩ := es
      simpa using this
    · rw [stored, if_neg hany, List.map_append, List.nodup_append]
      refine ⟨hn, by simp, ?_⟩
      intro a ha b hb
      simp only [List.map_cons, List.map_nil, List.mem_singleton] at hb
      subst hb
      exact fun e => hnot (e ▸ ha)
theorem wpAny_mergeMapping_dict {d o : Addr} {kvs more : List (K × Value)} {Q : Unit → Shared → Prop} (hdo : d ≠ o) (hoS : (o == sysModules) = false)
    (hno_ref : ∀ k v, knd.is k v = true → ∀ a, v ≠ .ref a)
    (hd : s.heap.DictOf knd d kvs) (ho : s.heap.DictOf knd o more)
    (hQ : ∀ h', h'.DictOf knd d (merged kvs more) → h'.DictOf knd o more → Heap.SameBut d s.heap h' → Q () { s with heap := h' })
    (hsz : kvs.length + more.length ≤ sizeLine) :
    wpAny (model prog w) A (mergeMapping d (.ref o) false) Q E s := by
  obtain ⟨od, esd, epd, hod, hcd, hdd, hkd, hpd, hnd⟩ := id hd
  obtain ⟨oo, eso, epo, hoo, hco, hdo', hko, hpo, hno⟩ := id ho
  unfold mergeMapping
  refine wpAny_bind (wpAny_isInstance ho.typeIs isSubtype_dict_dict ?_)
  rw [if_pos rfl]
  refine wpAny_bind (wpAny_specialOf ho.typeIs PySem.F.slot_dict_iter.lookup ?_)
  have hlen : more.length = eso.size := by rw [← hpo.length]; simp
  have loop : wpAny (model prog w) A (do
      let l ← dictEntries o
      let epoch ← dictEpoch o
      forIn (List.range l.size) PUnit.unit fun i (_ : PUnit) => (do
          let l' ← dictEntries o
          match l'[i]? with
            | some e => do
              holding [e.key, e.val] (dictPut d e.hash e.key e.val)
              let ep' ← dictEpoch o
              if (ep' != epoch) = true then do
                  (unsupported "dict.changed-during-merge" : Sem PUnit)
                  pure (ForInStep.yield PUnit.unit)
                else pure (ForInStep.yield PUnit.unit)
            | _ => do
              (unsupported "dict.changed-during-merge" : Sem PUnit)
              pure (ForInStep.yield PUnit.unit) : Sem (ForInStep PUnit))
      pure ()) Q E s := by
    refine wpAny_bind (wpAny_dictEntries hoo hdo' ?_)
    refine wpAny_bind (wpAny_dictEpoch hoo hdo' ?_)
    refine wpAny_bind ?_
    rw [List.range_eq_range']
    refine wpAny_forIn_list _
      (fun rest _ s' => ∃ h' i, s' = { s with heap := h' } ∧ rest = List.range' i (eso.size - i) ∧ i ≤ eso.size ∧ h'.DictOf knd d (merged kvs (more.take i)) ∧ h'.get? o = some oo ∧ Heap.SameBut d s.heap h')
      _ ?_ ?_ _ _ ⟨s.heap, 0, rfl, by simp, Nat.zero_le _, by simpa [merged] using hd, hoo, Heap.SameBut.refl _ _⟩
    · rintro x rest b s' ⟨h', i, rfl, hr, hi, hd', hoo', hs'⟩
      have hlt : i < eso.size := by
        rcases Nat.lt_or_ge i eso.size with h | h
        · exact h
        · rw [Nat.sub_eq_zero_of_le h] at hr; simp at hr
      obtain ⟨rfl, hrest⟩ : x = i ∧ rest = List.range' (i + 1) (eso.size - (i + 1)) := by
        have e : eso.size - i = (eso.size - (i + 1)) + 1 := by omega
        rw [e, List.range'_succ] at hr
        injection hr with h1 h2
        exact ⟨h1, h2⟩
      refine wpAny_bind (wpAny_dictEntries hoo' hdo' ?_)
      rw [Array.getElem?_eq_getElem hlt]
      obtain ⟨kv, hkv⟩ : ∃ kv, more[x]? = some kv := ⟨more[x]'(by rw [hlen]; exact hlt), List.getElem?_eq_getElem _⟩
      obtain ⟨k, v⟩ := kv
      obtain ⟨hkey, hval⟩ := hpo.get? (e := eso[x]) (by simp [hlt]) hkv
      obtain ⟨k', hkey', hhash⟩ := hko eso[x] (Array.getElem_mem hlt)
      obtain rfl : k' = k := knd.inj _ _ _ hkey' hkey
      show wpAny _ _ (holding [eso[x].key, eso[x].val] (dictPut d eso[x].hash eso[x].key eso[x].val) >>= _) _ _ _
      rw [hhash, hval]
      have hmx : (merged kvs (more.take x)).length ≤ sizeLine := by
        have e1 := merged_length_le kvs (more.take x)
        have e2 : (more.take x).length ≤ more.length := by rw [List.length_take]; omega
        omega
      refine wpAny_bind (wpAny_holding (wpAny_dictPut_pairs (hsz := hmx) hkey hd' fun h'' hd'' hs'' => ?_))
      have hoo'' : h''.get? o = some oo := (hs''.2 o (Ne.symm hdo)).trans hoo'
      refine wpAny_bind (wpAny_dictEpoch hoo'' hdo' ?_)
      rw [if_neg (by simp)]
      exact wpAny_pure ⟨h'', x + 1, rfl, hrest, hlt, by rw [merged_take_succ kvs more x (k', v) hkv]; exact hd'', hoo'', hs'.trans hs''⟩
    · rintro b s' ⟨h', i, rfl, hr, hi, hd', hoo', hs'⟩
      have hin : i = eso.size := by
        rcases Nat.lt_or_ge i eso.size with h | h
        · have e : eso.size - i = (eso.size - (i + 1)) + 1 := by omega
          rw [e, List.range'_succ] at hr; exact nomatch hr
        · exact Nat.le_antisymm hi h
      refine wpAny_pure (hQ h' ?_ ⟨oo, eso, epo, hoo', hco, hdo', hko, hpo, hno⟩ hs')
      rw [hin, ← hlen, List.take_length] at hd'; exact hd'
  simp only [beq_self_eq_true, Bool.false_eq_true, if_false]
  refine wpAny_bind (wpAny_pure ?_)
  dsimp only
  rw [if_neg (by rw [hoS]; exact Bool.false_ne_true)]
  refine wpAny_bind (wpAny_dictEntries hod hdd ?_)
  split
  · refine wpAny_bind (wpAny_dictEntries hoo hdo' ?_)
    refine wpAny_bind ?_
    rw [← Array.forIn_toList]
    refine wpAny_forIn_list _ (fun rest _ s' => s' = s ∧ ∀ e ∈ rest, e ∈ eso.toList) _ ?_ ?_ _ _ ⟨rfl, fun e he => he⟩
    · rintro e rest b s' ⟨rfl, hr⟩
      obtain ⟨k', hk', _⟩ := hko e (by simpa using hr e List.mem_cons_self)
      have nr := hno_ref _ _ hk'
      split
      · rename_i a' ha'
        exact absurd ha' (nr a')
      · exact wpAny_pure ⟨rfl, fun x hx => hr x (List.mem_cons_of_mem _ hx)⟩
    · rintro b s' ⟨rfl, _⟩
      exact loop
  · exact loop
end
/-- {**d, k: v}: D the new dict, B the one of the pair -/
def tDStar (td tk tv : TE) : TE := fun σ H Q => ∀ D, H D = none → td σ (upd H D (.dK [])) fun x H1 => ∃ (S : Addr) (kvs : List (Key × V)), x = .ref S ∧ S ≠ D ∧ H1 S = some (.dK kvs) ∧ H1 D = some (.dK []) ∧ kvs.length < sizeLine ∧
  ∀ B, (upd H1 D (.dK kvs)) B = none → tPairs [(tk, tv)] σ (upd (upd H1 D (.dK kvs)) B (.dK [])) fun ps H3 => ∃ (key : Key) (z : V), ps = [(kV key, z)] ∧ H3 D = some (.dK kvs) ∧ H3 B = some (.dK []) ∧ Q (.ref D) (upd (upd H3 B (.dK [(key, z)])) D (.dK (putK kvs key z)))
theorem pe_dstar {X : Cx} {pos : Pos} {ed ek ev : Expr} {td tk tv : TE} (hd : PE X ed td) (hk : PE X ek tk) (hv : PE X ev tv) : PE X (.Dict [none, some ek] [ed, ev] pos) (tDStar td tk tv) := by
  refine ⟨fun pins s σ H Q I q => ?_⟩
  rw [arm_eval_Dict]
  refine wpAny_bind (wpAny_standAt ?_)
  show wpAny _ _ (dictDisplay [(none, do let x ← eval ed X.env; standAt pos; pure x), (some (eval ek X.env), do let x ← eval ev X.env; standAt pos; pure x)]) _ _ _
  unfold dictDisplay
  dsimp only
  rw [List.forIn_cons]
  dsimp only [List.isEmpty]
  have hn := I.hok.fresh (Nat.le_refl s.heap.objs.size)
  have I1 := I.laid (a := s.heap.objs.size) (o := .dK []) (h' := s.heap.push { cls := .type "dict", data := .dict #[] }) (t' := s.toks) (fun _ _ q => Heap.get?_push_of_some _ q) (Nat.le_refl _) (dk_empty s.heap I.big)
  refine wpAny_bind (wpAny_bind (wpAny_bind ?_))
  rw [if_pos rfl]
  refine wpAny_pure ?_
  dsimp only
  refine wpAny_bind (wpAny_alloc ?_)
  refine wpAny_bind (wpAny_holding ?_)
  refine wpAny_bind (thn (hd.run pins _ σ _ _ I1 (q _ hn)) fun u s1 ⟨x, H1, I1', rx, S, kvs, ex, nSD, eS, eD, hl, q1⟩ => ?_)
  refine wpAny_bind (wpAny_standAt (wpAny_pure ?_))
  subst ex
  obtain rfl : u = Value.ref S := rx
  obtain ⟨z1, hd1, vs1, rel1, dd1⟩ := dk_of I1'.hok eS
  obtain ⟨z0, hd0, vs0, rel0, dd0⟩ := dk_of I1'.hok eD
  cases rel0
  have lvs : vs1.length = kvs.length := rel1.length.symm
  have noref : ∀ (k : Key) (v : Value), (mixKind X.prog X.w).is k v = true → ∀ a, v ≠ .ref a := fun k v h a e => by
    rcases keyIs_shape h with ⟨i, t, _, e'⟩ | ⟨y, t, _, e'⟩ <;> rw [e'] at e <;> cases e
  refine wpAny_bind (wpAny_onRaise (wpAny_tryCatch (wpAny_onRaise (wpAny_holding (wpAny_mergeMapping_dict (knd := mixKind X.prog X.w) (Ne.symm nSD) hd1 noref dd0 dd1 (fun h' dd' ddo hs => ?_) (by rw [List.length_nil, lvs]; omega))))))
  have nd : (vs1.map (·.1)).Nodup := let ⟨_, _, _, _, _, _, _, _, hn⟩ := dd1; hn
  rw [merged_nil_of_nodup vs1 nd] at dd'
  have he1 : ∃ q, h'.get? s.heap.objs.size = some q := let ⟨q, _, _, hq, _⟩ := dd'; ⟨q, hq⟩
  have I2 : Inv X pins σ (upd H1 s.heap.objs.size (.dK kvs)) { s1 with heap := h' } := d_write I1' (by rw [eD]; exact True.intro) hs he1 (dk_new z1 hd0 rel1 dd')
  refine wpAny_pure ?_
  dsimp only
  rw [List.forIn_cons]
  dsimp only
  rw [if_neg (by simp)]
  refine wpAny_bind (wpAny_pure ?_)
  dsimp only
  rw [List.forIn_nil]
  refine wpAny_pure ?_
  dsimp only [List.nil_append]
  rw [if_neg Bool.false_ne_true]
  generalize hs2 : ({ s1 with heap := h' } : Shared) = s2 at *
  have eh : s2.heap = h' := by rw [← hs2]
  rw [← eh] at dd' ddo hs he1
  have hnB := I2.hok.fresh (Nat.le_refl s2.heap.objs.size)
  have I3 := I2.laid (a := s2.heap.objs.size) (o := .dK []) (h' := s2.heap.push { cls := .type "dict", data := .dict #[] }) (t' := s2.toks) (fun _ _ q => Heap.get?_push_of_some _ q) (Nat.le_refl _) (dk_empty s2.heap I2.big)
  refine wpAny_bind (wpAny_bind (wpAny_holding (wpAny_subDict (knd := mixKind X.prog X.w) (by show 1 ≤ 15; decide) (thn ((pps_cons hk hv pps_nil).run pins _ σ _ _ I3 (q1 _ hnB)) fun ws s3 ⟨ps, H3, I4, rel3, key, z, eps, eD3, eB3, q3⟩ => ?_))))
  subst eps
  obtain ⟨rs, c, rk⟩ := carries_of (P := X.prog) (w := X.w) (kvs := [(key, z)]) rel3
  obtain ⟨zB, hdB, vB, rB, ddB⟩ := dk_of I4.hok eB3
  cases rB
  refine ⟨rs, c, ddB, fun h4 dd4 hs4 => ?_⟩
  have mer : KV [(key, z)] (merged [] rs) := rk.merge (kvs := []) .nil
  have zB1 : ([(key, z)] : List (Key × V)).length ≤ sizeLine := by show 1 ≤ sizeLine; decide
  have he4 : ∃ q, h4.get? s2.heap.objs.size = some q := let ⟨q, _, _, hq, _⟩ := dd4; ⟨q, hq⟩
  have I5 : Inv X pins σ (upd H3 s2.heap.objs.size (.dK [(key, z)])) { s3 with heap := h4, toks := s3.toks + ws.length } := d_write I4 (by rw [eB3]; exact True.intro) hs4 he4 (dk_new zB1 hdB mer dd4)
  have nBD : s2.heap.objs.size ≠ s.heap.objs.size := fun e => by
    rw [e] at eB3
    rw [eD3] at eB3
    have e1 : kvs = [] := HO.dK.inj (Option.some.inj eB3)
    rw [e] at hnB
    rw [upd_same] at hnB
    cases hnB
  have eD5 : (upd H3 s2.heap.objs.size (.dK [(key, z)])) s.heap.objs.size = some (.dK kvs) := by
    rw [upd_ne nBD.symm]
    exact eD3
  have eB5 : (upd H3 s2.heap.objs.size (.dK [(key, z)])) s2.heap.objs.size = some (.dK [(key, z)]) := upd_same
  generalize hs5 : ({ s3 with heap := h4, toks := s3.toks + ws.length } : Shared) = s5 at *
  obtain ⟨z5, hd5, vs5, rel5, dd5⟩ := dk_of I5.hok eD5
  obtain ⟨z6, hd6, vs6, rel6, dd6⟩ := dk_of I5.hok eB5
  have l5 : vs5.length = kvs.length := rel5.length.symm
  have l6 : vs6.length = 1 := rel6.length.symm
  refine wpAny_bind (wpAny_onRaise (wpAny_holding (wpAny_mergeMapping_dict (knd := mixKind X.prog X.w) nBD.symm hd6 noref dd5 dd6 (fun h7 dd7 _ hs7 => ?_) (by omega))))
  have he7 : ∃ q, h7.get? s.heap.objs.size = some q := let ⟨q, _, _, hq, _⟩ := dd7; ⟨q, hq⟩
  have l7 : (putK kvs key z).length ≤ sizeLine := by
    have := length_putK kvs key z
    omega
  have I7 : Inv X pins σ (upd (upd H3 s2.heap.objs.size (.dK [(key, z)])) s.heap.objs.size (.dK (putK kvs key z))) { s5 with heap := h7 } := d_write I5 (by rw [eD5]; exact True.intro) hs7 he7 (dk_new l7 hd5 (rel6.merge rel5) dd7)
  exact wpAny_pure (wpAny_pure ⟨.ref s.heap.objs.size, _, I7, rfl, q3⟩)
end DStar

/-! ### dicts of matings compared (for the class Road) -/
def t4P (x : M4) : PyData := .tuple [.int x.1, .int x.2.1, .int x.2.2.1, .int x.2.2.2]
def sameS (S1 S2 : StL) : Bool := S1.all fun t => decide (sget S2 t.1 = some t.2)
theorem t4P_dp {K : PySem.W.Frag} {H : Hp} {t : Addr} {x : M4} (h : H t = some (t4 x)) : Dp K H (.ref t) (t4P x) := .tup (SqT.of h) (.cons (.int _) (.cons (.int _) (.cons (.int _) (.cons (.int _) .nil))))
theorem t4P_eqv (x y : M4) : PyData.eqv (t4P x) (t4P y) = decide (x = y) := by
  obtain ⟨a, b, c, d⟩ := x
  obtain ⟨a', b', c', d'⟩ := y
  unfold t4P
  rw [PyData.eqv]
  simp [PyData.eqvAll, PyData.eqv]
  rfl
section
variable {X : Cx} {pins : List (Addr × Obj)} {σ : St} {H : Hp} {s : Shared}
theorem std_hits (I : Inv X pins σ H s) {S2 : StL} {kb : List (Key × V)} {vb : List (Key × Value)} (rb : KV kb vb) (tb : Std H kb S2) (hu : X.A.units + 64 < cLine) :
    ∀ {ka : List (Key × V)} {va : List (Key × Value)}, KV ka va → ∀ {S1 : StL}, Std H ka S1 → PySem.W.KeqHits X.A.in1 s vb va (sameS S1 S2) := by
  intro ka va ra
  unfold KV at ra
  induction ra with
  | nil =>
    intro S1 h
    cases h
    exact .nil
  | @cons p q ps qs h t ih =>
    intro S1 hs
    cases hs with
    | @cons _ y _ r hy hr =>
    obtain ⟨h1, h2⟩ := h
    obtain ⟨k, v⟩ := q
    obtain ⟨e1, t0, e2, e3⟩ := hy
    have ek : k = Sum.inl y.1 := by rw [← e1]; exact h1.symm
    subst ek
    have e2' : v = Value.ref t0 := by
      have := h2
      rw [e2] at this
      exact this
    subst e2'
    obtain ⟨g1, g2⟩ := tb.get y.1
    show PySem.W.KeqHits X.A.in1 s vb ((Sum.inl y.1, Value.ref t0) :: qs) (decide (sget S2 y.1 = some y.2) && sameS r S2)
    cases hg : sget S2 y.1 with
    | none =>
      rw [decide_eq_false (fun z => by cases z), Bool.false_and]
      have rr : RelO none (valueAt vb (Sum.inl y.1)) := by rw [← g1 hg]; exact rb.val _
      exact .miss rr.none_of
    | some z =>
      obtain ⟨t1, f1, f2⟩ := g2 z hg
      have rr : RelO (some (.ref t1)) (valueAt vb (Sum.inl y.1)) := by rw [← f1]; exact rb.val _
      obtain ⟨u, hu1, hu2⟩ := rr.some_of
      obtain rfl : u = Value.ref t1 := hu2
      obtain ⟨as, r1⟩ := Dp.reads I _ _ (Value.ref t0) (t4P_dp (K := X.K) e3) rfl
      obtain ⟨bs, r2⟩ := Dp.reads I _ _ (Value.ref t1) (t4P_dp (K := X.K) f2) rfl
      have hq := SeqAt.eqAt_reads (t4P y.2) (t4P z) X.A.in1 s _ _ as bs r1 r2 rfl rfl (by
        have e1 : (t4P y.2).depth = 1 := rfl
        have e2 : (t4P z).depth = 1 := rfl
        rw [e1, e2, Around.in1_units]
        omega)
      have ee : decide (some z = some y.2) = PyData.eqv (t4P y.2) (t4P z) := by
        rw [t4P_eqv]
        by_cases w : y.2 = z
        · rw [w, decide_eq_true rfl, decide_eq_true rfl]
        · rw [decide_eq_false w, decide_eq_false (fun q => w (Option.some.inj q).symm)]
      rw [ee]
      exact .hit hu1 hq (ih hr)
end
section
variable {X : Cx}
def rNeS : R2 := fun x y H Q => ∃ a b ka kb S1 S2, x = .ref a ∧ y = .ref b ∧ H a = some (.dK ka) ∧ H b = some (.dK kb) ∧ Std H ka S1 ∧ Std H kb S2 ∧ Q (.bl (!(decide (S1.length = S2.length) && sameS S1 S2))) H
theorem op_neS (hu : X.A.units + 64 < cLine) : OpR X (compareOp .NotEq) rNeS := by
  intro pins s σ H x y v u Q I rx ry h
  obtain ⟨a, b, ka, kb, S1, S2, rfl, rfl, ea, eb, sa, sb, q⟩ := h
  obtain rfl : v = Value.ref a := rx
  obtain rfl : u = Value.ref b := ry
  obtain ⟨_, ya, va, ra, da⟩ := (show ObjOk X.prog X.w H s.heap a (.dK ka) from I.hok a _ ea)
  obtain ⟨_, yb, vb, rb, db⟩ := (show ObjOk X.prog X.w H s.heap b (.dK kb) from I.hok b _ eb)
  have l1 : va.length = S1.length := by rw [← ra.length]; exact sa.length
  have l2 : vb.length = S2.length := by rw [← rb.length]; exact sb.length
  exact PySem.W.keq_ne (knd := mixKind X.prog X.w) (r := sameS S1 S2) ya yb da db (by omega) (fun _ => std_hits I rb sb hu ra sa) (fin_bl I q (by rw [l1, l2]; rfl))
end
theorem sget_rise {S : StL} (up : (S.map (·.1)).Pairwise (· < ·)) : ∀ {s : Int × M4}, s ∈ S → sget S s.1 = some s.2 := by
  induction S with
  | nil => intro s h; cases h
  | cons t r ih =>
    intro s h
    rw [List.map_cons, List.pairwise_cons] at up
    unfold sget
    rcases List.mem_cons.mp h with e | h
    · rw [e, if_pos rfl]
    · have := up.1 s.1 (List.mem_map.mpr ⟨s, h, rfl⟩)
      rw [if_neg (by omega)]
      exact ih up.2 h
theorem sub_rise : ∀ {S2 S1 : StL}, S1.Pairwise (fun a b => a.1 < b.1) → S2.Pairwise (fun a b => a.1 < b.1) → S1 ⊆ S2 → S1.Sublist S2
  | [], [], _, _, _ => .slnil
  | [], a :: r, _, _, h => absurd (h List.mem_cons_self) (List.not_mem_nil)
  | b :: r2, [], _, _, _ => List.nil_sublist _
  | b :: r2, a :: r1, u1, u2, h => by
    rw [List.pairwise_cons] at u1 u2
    by_cases e : a = b
    · subst e
      refine .cons₂ _ (sub_rise u1.2 u2.2 fun t ht => ?_)
      rcases List.mem_cons.mp (h (List.mem_cons_of_mem _ ht)) with z | z
      · have := u1.1 t ht
        rw [z] at this
        omega
      · exact z
    · have ha : a ∈ r2 := (List.mem_cons.mp (h List.mem_cons_self)).resolve_left e
      refine .cons _ (sub_rise (List.pairwise_cons.mpr u1) u2.2 fun t ht => ?_)
      rcases List.mem_cons.mp (h ht) with z | z
      · exfalso
        have h2 := u2.1 a ha
        rcases List.mem_cons.mp ht with y | y
        · exact e (y.symm.trans z)
        · have h1 := u1.1 t y
          rw [z] at h1
          omega
      · exact z
/-- rows of rising numbers are the same where they tell the same -/
theorem sameS_rise : ∀ {S1 S2 : StL}, (S1.map (·.1)).Pairwise (· < ·) → (S2.map (·.1)).Pairwise (· < ·) → S1.length = S2.length → sameS S1 S2 = true → S1 = S2 := by
  intro S1 S2 u1 u2 hl hs
  have hall : ∀ t ∈ S1, sget S2 t.1 = some t.2 := fun t ht => by
    unfold sameS at hs
    rw [List.all_eq_true] at hs
    exact of_decide_eq_true (hs t ht)
  have sub : S1 ⊆ S2 := fun t ht => by
    have := sget_in (hall t ht)
    exact this
  have rise : ∀ {S : StL}, (S.map (·.1)).Pairwise (· < ·) → S.Pairwise (fun a b => a.1 < b.1) := fun h => List.pairwise_map.mp h
  exact (sub_rise (rise u1) (rise u2) sub).eq_of_length hl
theorem sameS_self {S : StL} (u : (S.map (·.1)).Pairwise (· < ·)) : sameS S S = true := by
  unfold sameS
  rw [List.all_eq_true]
  intro t ht
  exact decide_eq_true (sget_rise u ht)
section
variable {X : Cx}
/-- len of a dict -/
theorem call_lenDk : CallR X (.builtin "len") (fun xs H Q => ∃ a kvs, xs = [V.ref a] ∧ H a = some (.dK kvs) ∧ Q (.int kvs.length) H) := by
  intro pins s σ H xs us Q I r h
  obtain ⟨a, kvs, rfl, ha, q⟩ := h
  obtain ⟨u, rfl, ru⟩ := vals1 r
  cases ru
  exact d_len I (.inl ha) fun t s' I' => ⟨.int kvs.length, H, I', ⟨t, rfl⟩, q⟩
end

/-! ### what stands beside a list that changes -/
theorem draw_keepR {H H' : Hp} {d l r : Addr} (D : Draw H d l) (h1 : d ≠ r) (h2 : l ≠ r) (k : Keep r H H') : Draw H' d l := by
  obtain ⟨ns, i, z, s, W⟩ := D
  exact ⟨ns, i, z, s, { W with at_d := k.of W.at_d h1, at_l := k.of W.at_l h2 }⟩
theorem draw_apart {H : Hp} {d l r : Addr} (D : Draw H d l) (n : H r = none) : d ≠ r ∧ l ≠ r := by
  obtain ⟨ns, i, z, s, W⟩ := D
  exact ⟨ne_of_none W.at_d n, ne_of_none W.at_l n⟩
/-! ### _law_mating -/
abbrev N_mating : List Str := ["_law_draw", "_law_length", "_law_many", "_law_room"]
abbrev P_mating : List Str := ["_law_draw", "_law_length"]
theorem sc_mating : FnScope N_mating P_mating (defScope s_mating) := ⟨rfl, rfl, rfl, by decide +kernel, rfl, by decide +kernel, by decide +kernel⟩
structure Mat (n o p m f : Int) : Prop where
  m1 : 1 ≤ m
  o0 : 0 ≤ o
  o1 : o + m ≤ n
  p0 : 0 ≤ p
  p1 : p + m ≤ n
  f01 : f = 0 ∨ f = 1
def spMating : Sp := fun vs H Q _ => ∃ (d l : Addr) (n : Int), vs = [.ref d, .int n] ∧ Draw H d l ∧ 1 ≤ n ∧ n < 2 ^ 60 ∧
  ∀ (H' : Hp) (t : Addr) (o p m f : Int), Draw H' d l → Keep d H H' → H' t = some (tup4 o p m f) → Mat n o p m f → Q (.ref t) H'
section
variable {P : Program} {w : World} {K : PySem.W.Frag} {mg : Str → Option Value} {base : Heap}
theorem ok_mating {f fP : Addr} {fd fdP : FuncData} (D : DefAt K mg "_law_mating" s_mating P_mating f fd) (D_pull : DefAt K mg "_law_pull" s_pull P_pull fP fdP) (B : Bn mg) : FnOk P w K mg base CX0 2 f fd P_mating spMating := by
  have G_pull : FnOk P w K mg base CX0 1 fP fdP P_pull spPull := ok_pull D_pull B
  refine D.F.ok sc_mating (fun vs H Q E h => ?_) (fun cdv A outer s H vs Q E hr h => ?_)
  · obtain ⟨d, l, n, rfl, _⟩ := h
    rfl
  · obtain ⟨d, l, n, rfl, hD, n1, n2, q⟩ := h
    refine ⟨_, (pss_cons (ps_set (i := 2) sc_mating.nd rfl (.inl rfl) (pe_op op_add pe_int (pe_call G_pull (hr.mono (by omega)) (by rfl) D_pull.g D_pull.F.kp D_pull.b .nil pass0 (pa_cons (pv 0) (pa_cons (pv 1) pa_nil)))))
      (C8.pss_cut (ps_if (pt_cmpR op_eq (pe_call G_pull (hr.mono (by omega)) (by rfl) D_pull.g D_pull.F.kp D_pull.b .nil pass0 (pa_cons (pv 0) (pa_cons pe_int pa_nil))) pe_int (nomark _)) (pss_one (ps_set (i := 2) sc_mating.nd rfl (.inl rfl) (pe_op op_add pe_int (pe_call G_pull (hr.mono (by omega)) (by rfl) D_pull.g D_pull.F.kp D_pull.b .nil pass0 (pa_cons (pv 0) (pa_cons (pe_callB (call_min2 rfl) (by rfl) B.min (by decide +kernel) (pa_cons (pv 2) (pa_cons pe_int pa_nil))) pa_nil)))))) pss_nil)
      (pss_cons (ps_set (i := 3) sc_mating.nd rfl (.inl rfl) (pe_op op_add (pe_op op_sub (pv 1) (pv 2)) pe_int))
      (pss_one (ps_ret (pe_tup (pa_cons (pe_call G_pull (hr.mono (by omega)) (by rfl) D_pull.g D_pull.F.kp D_pull.b .nil pass0 (pa_cons (pv 0) (pa_cons (pv 3) pa_nil))) (pa_cons (pe_call G_pull (hr.mono (by omega)) (by rfl) D_pull.g D_pull.F.kp D_pull.b .nil pass0 (pa_cons (pv 0) (pa_cons (pv 3) pa_nil))) (pa_cons (pv 2) (pa_cons (pe_call G_pull (hr.mono (by omega)) (by rfl) D_pull.g D_pull.F.kp D_pull.b .nil pass0 (pa_cons (pv 0) (pa_cons pe_int pa_nil))) pa_nil)))))))))), ?_⟩
    refine ⟨.ref d, rfl, .int n, rfl, d, l, n, rfl, hD, n1, by omega, fun a H1 a0 a1 D1 k1 => ?_⟩
    refine ⟨1, a, rfl, rfl, ?_⟩
    refine ⟨fun σ H' => ∃ m : Int, σ = [some (.ref d), some (.int n), some (.int m), none] ∧ Draw H' d l ∧ Keep d H H' ∧ 1 ≤ m ∧ m ≤ n, ?_, ?_⟩
    · refine ⟨.ref d, rfl, d, l, 2, rfl, D1, by decide, by decide, fun b H2 b0 b1 D2 k2 => ?_⟩
      refine ⟨rfl, _, rfl, ?_⟩
      refine ite2 (fun _ => ?_) (fun _ => ?_)
      · refine ⟨.ref d, rfl, .int (1 + a), rfl, 1 + a, 5, rfl, d, l, _, rfl, D2, ?_, ?_, fun c H3 c0 c1 D3 k3 => ?_⟩
        · split <;> omega
        · split <;> omega
        · refine ⟨1, c, rfl, rfl, 1 + c, rfl, D3, (k1.trans k2).trans k3, by omega, ?_⟩
          have c1' : c < (if (5 : Int) < 1 + a then 5 else 1 + a) := c1
          split at c1' <;> omega
      · exact ⟨1 + a, rfl, D2, k1.trans k2, by omega, by omega⟩
    · rintro σ H3 ⟨m, rfl, D3, k3, m1, m2⟩
      refine ⟨.int n, rfl, .int m, rfl, n, m, rfl, rfl, _, 1, rfl, rfl, ?_⟩
      refine ⟨.ref d, rfl, .int (n - m + 1), rfl, d, l, n - m + 1, rfl, D3, by omega, by omega, fun o H4 o0 o1 D4 k4 => ?_⟩
      refine ⟨.ref d, rfl, .int (n - m + 1), rfl, d, l, n - m + 1, rfl, D4, by omega, by omega, fun p H5 p0 p1 D5 k5 => ?_⟩
      refine ⟨.int m, rfl, .ref d, rfl, d, l, 2, rfl, D5, by decide, by decide, fun f H6 f0 f1 D6 k6 => ?_⟩
      refine ⟨by show 4 ≤ sizeLine; decide, fun t nt => ?_⟩
      exact q _ t o p m f (D6.same (same_upd nt)) ((((k3.trans k4).trans k5).trans k6).trans (keepS (same_upd nt))) upd_same ⟨m1, o0, by omega, p0, by omega, by omega⟩
end

/-! ### _law_road, _law_far_road, _law_scaled -/
abbrev N_road : List Str := ["_law_draw", "_law_longest", "_law_cap", "_law_length", "_law_k"]
abbrev P_road : List Str := ["_law_draw", "_law_longest", "_law_cap"]
theorem sc_road : FnScope N_road P_road (defScope s_road) := ⟨rfl, rfl, rfl, by decide +kernel, rfl, by decide +kernel, by decide +kernel⟩
def Mrd (n : Int) (x : M4) : Prop := Mat n x.1 x.2.1 x.2.2.1 x.2.2.2
def spRoad : Sp := fun vs H Q _ => ∃ (d l : Addr) (g c : Int), vs = [.ref d, .int g, .int c] ∧ Draw H d l ∧ 1 ≤ g ∧ g ≤ 1000 ∧ 0 ≤ c ∧ c ≤ 24 ∧
  ∀ (H' : Hp) (t L : Addr) (n : Int) (ts : List Addr) (ms : List M4), Draw H' d l → Keep d H H' → H' t = some (.tup [.int n, .ref L]) → H L = none → H' L = some (.lst (ts.map V.ref)) → Mts H' ts ms → (∀ x ∈ ms, Mrd n x) → (ms.length : Int) ≤ c → 1 ≤ n → n ≤ g → Q (.ref t) H'
theorem Mts.keep {H H' : Hp} (k : KeepT H H') : ∀ {ts : List Addr} {ms : List M4}, Mts H ts ms → Mts H' ts ms
  | _, _, .nil => .nil
  | _, _, .cons h r => .cons (k _ _ h) (Mts.keep k r)
theorem Mts.snoc {H : Hp} {t : Addr} {x : M4} (hs : H t = some (t4 x)) : ∀ {ts : List Addr} {ms : List M4}, Mts H ts ms → Mts H (ts ++ [t]) (ms ++ [x])
  | _, _, .nil => .cons hs .nil
  | _, _, .cons h r => .cons h (Mts.snoc hs r)
theorem Draw.keepT {H H' : Hp} {d l : Addr} (D : Draw H d l) (k : Keep d H H') : KeepT H H' := fun b xs hb => by
  obtain ⟨ns, i, zz, sd, W⟩ := D
  exact k.of hb (ne_of hb W.at_d (fun q => by cases q))
section
variable {P : Program} {w : World} {K : PySem.W.Frag} {mg : Str → Option Value} {base : Heap}
theorem ok_road {f fP fM : Addr} {fd fdP fdM : FuncData} (D : DefAt K mg "_law_road" s_road P_road f fd) (D_pull : DefAt K mg "_law_pull" s_pull P_pull fP fdP) (D_mating : DefAt K mg "_law_mating" s_mating P_mating fM fdM) (B : Bn mg) : FnOk P w K mg base CX0 3 f fd P_road spRoad := by
  have G_pull : FnOk P w K mg base CX0 1 fP fdP P_pull spPull := ok_pull D_pull B
  have G_mating : FnOk P w K mg base CX0 2 fM fdM P_mating spMating := ok_mating D_mating D_pull B
  refine D.F.ok sc_road (fun vs H Q E h => ?_) (fun cdv A outer s H vs Q E hr h => ?_)
  · obtain ⟨d, l, g, c, rfl, _⟩ := h
    rfl
  · obtain ⟨d, l, g, c, rfl, hD, g1, g2, c0, c1, q⟩ := h
    refine ⟨_, (pss_cons (ps_set (i := 3) sc_road.nd rfl (.inr rfl) (pe_op op_add pe_int (pe_call G_pull (hr.mono (by omega)) (by rfl) D_pull.g D_pull.F.kp D_pull.b .nil pass0 (pa_cons (pv 0) (pa_cons (pv 1) pa_nil)))))
      (pss_one (ps_ret (pe_tup (pa_cons (pv 3) (pa_cons (pe_lc (own := [("_law_k", 4)]) (g := gName 4) (by rfl) sc_road.nd (pi_range1 (by rfl) B.range (pa_cons (pe_call G_pull (hr.mono (by omega)) (by rfl) D_pull.g D_pull.F.kp D_pull.b .nil pass0 (pa_cons (pv 0) (pa_cons (pe_op op_add (pv 2) pe_int) pa_nil))) pa_nil)) (blkOk_by (own := [("_law_k", 4)]) (N := N_road) (sc := defScope s_road) (by decide +kernel)) (fun _ _ _ _ _ => (pg_name (i := 4) sc_road.nd rfl (.inl rfl))) (fun _ _ _ _ _ => pts_nil) (fun _ _ _ _ _ => (pe_call G_mating (hr.mono (by omega)) (by rfl) D_mating.g D_mating.F.kp D_mating.b .nil pass0 (pa_cons (pv 0) (pa_cons (pv 3) pa_nil))))) pa_nil)))))), ?_⟩
    refine ⟨.ref d, rfl, .int g, rfl, d, l, g, rfl, hD, g1, by omega, fun v H1 v0 v1 D1 k1 => ?_⟩
    refine ⟨1, v, rfl, rfl, ?_⟩
    refine ⟨.int (1 + v), rfl, .ref d, rfl, .int c, rfl, c, 1, rfl, rfl, d, l, _, rfl, D1, by omega, by omega, fun u H2 u0 u1 D2 k2 => ?_⟩
    refine ⟨u, rfl, by omega, by omega, fun L nL => lc_range (lo := 0) (n := u.toNat) (fun i H3 => ∃ (ts : List Addr) (ms : List M4), Draw H3 d l ∧ (∀ b o, H2 b = some o → b ≠ d → H3 b = some o) ∧ H3 L = some (.lst (ts.map V.ref)) ∧ Mts H3 ts ms ∧ (∀ x ∈ ms, Mrd (1 + v) x) ∧ ms.length = i)
      ⟨[], [], D2.same (same_upd nL), fun b o hb _ => same_upd nL _ _ hb, upd_same, .nil, fun x hx => (by cases hx), rfl⟩ ?_ ?_⟩
    · rintro i H3 hi ⟨ts, ms, D3, kp, eL, hM, hok, rfl⟩
      have nLd := (draw_apart D2 nL).1.symm
      have nLl := (draw_apart D2 nL).2
      refine ⟨rfl, .ref d, rfl, .int (1 + v), rfl, d, l, 1 + v, rfl, D3, by omega, by omega, fun H4 t o p m fl D4 k4 e4 M4' => ?_⟩
      have eL4 := k4.of eL nLd
      have hM4 := hM.keep (D3.keepT k4)
      have hml := hM.length
      have k5 : Keep L H4 (upd H4 L (.lst (ts.map V.ref ++ [.ref t]))) := Keep.upd
      have kt5 : KeepT H4 (upd H4 L (.lst (ts.map V.ref ++ [.ref t]))) := fun b xs hb => k5.of hb (ne_of hb eL4 (fun q => by cases q))
      refine ⟨_, eL4, sz_lt (by rw [List.length_map]; omega), ts ++ [t], ms ++ [(o, p, m, fl)], draw_keepR D4 nLd.symm nLl k5, fun b o' hb nb => ?_, by rw [upd_same, List.map_append]; rfl, Mts.snoc (kt5 _ _ e4) (hM4.keep kt5), fun x hx => ?_, by rw [List.length_append]; rfl⟩
      · exact k5.of (k4.of (kp b o' hb nb) nb) (ne_of_none hb nL)
      · rcases List.mem_append.mp hx with h | h
        · exact hok x h
        · rw [List.mem_singleton.mp h]
          exact M4'
    · rintro H3 ⟨ts, ms, D3, kp, eL, hM, hok, hl⟩
      refine ⟨by show 2 ≤ sizeLine; decide, fun t nt => ?_⟩
      have st := same_upd (H := H3) (o := .tup [.int (1 + v), .ref L]) nt
      have k3 : Keep d H2 H3 := fun b o nb hb => kp b o hb nb
      have nLH : H L = none := by
        cases e : H L with
        | none => rfl
        | some o =>
          have nLd := (draw_apart D2 nL).1.symm
          have := k2.of (k1.of e nLd) nLd
          rw [nL] at this
          cases this
      exact q _ t L (1 + v) ts ms (D3.same st) (((k1.trans k2).trans k3).trans (keepS st)) upd_same nLH (st _ _ eL) (hM.keep fun b xs hb => st _ _ hb) hok (by omega) (by omega) (by omega)
end

/-! ### o.m(e, .., k = v): a method's keyword-only parameter told -/
def tMethK (C : Addr) (m : Str) (n kn : Nat) (sp : Sp) (gV : List V → List V → List V) (E : XK) (ta : TE) (t tk : TA) : TE := fun σ H Q => ta σ H fun x H1 => ∃ a dx fs, x = .ref a ∧ H1 a = some (.ins C dx fs) ∧ fs.lookup m = none ∧
  t σ H1 fun vs H2 => tk σ H2 fun zs H3 => vs.length = n ∧ zs.length = kn ∧ sp (gV (.ref a :: vs) zs) H3 Q E
section
variable {X : Cx} {CX : CXT} {k n : Nat} {f C : Addr} {fd : FuncData} {ps ks : List Str} {sp : Sp} {E : XK} {m : Str} {p pos apos : Pos} {e o : Expr} {es : List Expr} {kws : List Keyword} {ta : TE} {t tk : TA} {g : List Value → List Value → List Value} {gV : List V → List V → List V}
theorem run_fnKn {pins : List (Addr × Obj)} {σ : St} {H : Hp} {s : Shared} {Q : VK} {us ws : List Value} {vs zs : List V} (F : FnOk X.prog X.w X.K X.mg X.base CX k f fd ps sp) (hr : Room k X.A) (hb : KBn X.K fd ps n ks g gV) (hx : Passes CX X E)
    (I : Inv X pins σ H s) (r : Vals vs us) (rz : Vals zs ws) (l1 : us.length = n) (l2 : ws.length = ks.length) (h : sp (gV vs zs) H Q E) : wpAny (model X.prog X.w) X.A (call (.ref f) us (ks.zip ws)) (EP X pins σ Q) X.xe s := by
  have r2 := hb.rel r rz
  refine wpAny_call (codeAny_mono (F.run X.A X.stack s H ⟨us, ks.zip ws⟩ (g us ws) (gV vs zs) Q E hr I.env0 (hb.to s us ws I.kIn l1 l2) r2 h) fun r s' hq => ?_)
  cases r with
  | error e => exact hx pins σ H s e s' I hq
  | ok fl =>
    cases fl with
    | ret u => exact I.after hq
    | next => exact False.elim hq
    | brk => exact False.elim hq
    | cont => exact False.elim hq
theorem pe_methK {pl : Sem Bool} (he : PE X o ta) (c : Cls X.K C) (hm : Meth X.K C m f) (F : FnOk X.prog X.w X.K X.mg X.base CX k f fd ps sp) (hr : Room k X.A) (hb : KBn X.K fd ps (n + 1) ks g gV) (hx : Passes CX X E) (ha : PA X (e :: es) t) (hkw : PK X kws tk)
    (hall : (backToKw pos (keywordEach kws X.env)).all (·.1.isSome) = true := by rfl) (hks : (backToKw pos (keywordEach kws X.env)).filterMap (·.1) = ks := by rfl)
    (hst : starEach (e :: es) X.env = (false, eval e X.env) :: starEach es X.env := by rfl) (hpl : ((backTo pos (starEach (e :: es) X.env)).any (·.1) || (backToKw pos (keywordEach kws X.env)).any (·.1.isNone)) = false := by rfl)
    (ht : eval (.Call (.Attribute o m apos) (e :: es) kws pos) X.env = (do
      let ov ← eval o X.env
      standAt apos.atName
      let (f, first) ← holding [ov] (getMethod ov m pl)
      callWith pos f first (backTo pos (starEach (e :: es) X.env)) (backToKw pos (keywordEach kws X.env))) := by rfl) :
    PE X (.Call (.Attribute o m apos) (e :: es) kws pos) (tMethK C m n ks.length sp gV E ta t tk) := by
  refine ⟨fun pins s σ H Q I h => ?_⟩
  refine PySem.W.methodCall_KW (pl := pl) (thn (he.run pins s σ H _ I h) fun u s1 ⟨x, H1, I1, rx, a, dx, fs, ex, ea, l, q⟩ => ?_) ht
  subst ex
  obtain rfl : u = Value.ref a := rx
  refine getmeth_ok I1 ea c hm l ?_
  refine PySem.W.callWith_KW (first := [.ref a]) (h₀ := X.base) I.ok.mod.kin hm.kp hall (thn (ha.run pos pins s1 σ H1 _ I1 q) fun us s2 ⟨vs, H2, I2, r, q2⟩ => ?_) hpl hst
  refine thn (hkw.run pos pins s2 σ H2 _ I2 q2) fun ws s3 ⟨zs, H3, I3, rz, l1, l2, q3⟩ => ⟨I3.kIn, ?_⟩
  rw [hks]
  exact run_fnKn (us := .ref a :: us) (vs := .ref a :: vs) F hr hb hx I3 (.cons rfl r) rz (by rw [List.length_cons, ← r.length, l1]) (by rw [← rz.length, l2]) q3
end

/-! ### a road, told by its matings: __init__, become, next_number, length -/
abbrev N_Ro_init : List Str := ["self", "length"]
abbrev P_Ro_init : List Str := ["self", "length"]
theorem sc_Ro_init : FnScope N_Ro_init P_Ro_init (defScope s_Ro_init) := ⟨rfl, rfl, rfl, by decide +kernel, rfl, by decide +kernel, by decide +kernel⟩
abbrev N_Ro_become : List Str := ["self", "length", "standing"]
abbrev P_Ro_become : List Str := ["self", "length", "standing"]
theorem sc_Ro_become : FnScope N_Ro_become P_Ro_become (defScope s_Ro_become) := ⟨rfl, rfl, rfl, by decide +kernel, rfl, by decide +kernel, by decide +kernel⟩
abbrev N_Ro_next_number : List Str := ["self"]
abbrev P_Ro_next_number : List Str := ["self"]
theorem sc_Ro_next_number : FnScope N_Ro_next_number P_Ro_next_number (defScope s_Ro_next_number) := ⟨rfl, rfl, rfl, by decide +kernel, rfl, by decide +kernel, by decide +kernel⟩
abbrev N_Ro_length : List Str := ["self"]
abbrev P_Ro_length : List Str := ["self"]
theorem sc_Ro_length : FnScope N_Ro_length P_Ro_length (defScope s_Ro_length) := ⟨rfl, rfl, rfl, by decide +kernel, rfl, by decide +kernel, by decide +kernel⟩
def roF (n : Int) (st : Addr) (k : V) (c : Int) : List (Str × V) := [("extent", .int n), ("standing", .ref st), ("kept", k), ("foldings", .int c)]
structure RoT (K : PySem.W.Frag) (mg : Str → Option Value) (C5 : Addr) : Prop where
  gC : mg "Road" = some (.ref C5)
  cl : Cls K C5
  nE : NoAttr K C5 "extent"
  nS : NoAttr K C5 "standing"
  nK : NoAttr K C5 "kept"
  nF : NoAttr K C5 "foldings"
/-- the road g, its matings in the dict st -/
structure RoAt (C5 : Addr) (H : Hp) (g st : Addr) (n : Int) (S : StL) (k : V) (c : Int) : Prop where
  at_g : ∃ dx, H g = some (.ins C5 dx (roF n st k c))
  at_s : ∃ kvs, H st = some (.dK kvs) ∧ Std H kvs S
structure RoW (n : Int) (S : StL) : Prop where
  n0 : 0 ≤ n
  n1 : n ≤ 1000000000000000000
  up : (S.map (·.1)).Pairwise (· < ·)
  low : ∀ s ∈ S, 1 ≤ s.1
  len : S.length ≤ 24
  ok : ∀ s ∈ S, Mok n s.2
theorem RoAt.same {C5 : Addr} {H H' : Hp} {g st : Addr} {n : Int} {S : StL} {k : V} {c : Int} (h : RoAt C5 H g st n S k c) (s : Same H H') : RoAt C5 H' g st n S k c := by
  obtain ⟨⟨dx, e⟩, kvs, e1, e2⟩ := h
  exact ⟨⟨dx, s _ _ e⟩, kvs, s _ _ e1, e2.keep fun b xs hb => s _ _ hb⟩
theorem RoAt.ne {C5 : Addr} {H : Hp} {g st : Addr} {n : Int} {S : StL} {k : V} {c : Int} (h : RoAt C5 H g st n S k c) : g ≠ st := by
  obtain ⟨⟨dx, e⟩, kvs, e1, e2⟩ := h
  exact ne_of e e1 (fun z => by cases z)
def nxt (S : StL) : Int := (S.map (·.1)).foldl max 0 + 1
def spRoInit (C5 : Addr) : Sp := fun vs H Q _ => ∃ (g dx : Addr) (n : Int), vs = [.ref g, .int n] ∧ H g = some (.ins C5 dx []) ∧ 0 ≤ n ∧ n ≤ 1000000000000000000 ∧
  ∀ H' st, H' g = some (.ins C5 dx (roF n st .non 0)) → H' st = some (.dK []) → H st = none → Keep g H H' → Q .non H'
def spBecome (C5 : Addr) : Sp := fun vs H Q _ => ∃ (g st st2 dx : Addr) (n m : Int) (S S2 : StL) (k : V) (c : Int) (kvs kvs2 : List (Key × V)), vs = [.ref g, .int m, .ref st2] ∧ H g = some (.ins C5 dx (roF n st k c)) ∧
  H st = some (.dK kvs) ∧ Std H kvs S ∧ H st2 = some (.dK kvs2) ∧ Std H kvs2 S2 ∧ (S.map (·.1)).Pairwise (· < ·) ∧ (S2.map (·.1)).Pairwise (· < ·) ∧
  ∀ H', H' g = some (.ins C5 dx (roF m st2 (if m = n ∧ S2 = S then k else .non) c)) → Keep g H H' → Q .non H'
def spNext (C5 : Addr) : Sp := fun vs H Q _ => ∃ (g st : Addr) (n : Int) (S : StL) (k : V) (c : Int), vs = [.ref g] ∧ RoAt C5 H g st n S k c ∧ S.length ≤ 100 ∧ (∀ s ∈ S, 1 ≤ s.1) ∧ ∀ H', Same H H' → Q (.int (nxt S)) H'
def spRoLen (C5 : Addr) : Sp := fun vs H Q _ => ∃ (g dx st : Addr) (n : Int) (k : V) (c : Int), vs = [.ref g] ∧ H g = some (.ins C5 dx (roF n st k c)) ∧ Q (.int n) H
section
variable {P : Program} {w : World} {K : PySem.W.Frag} {mg : Str → Option Value} {base : Heap} {C5 : Addr}
theorem ok_RoInit {f fN fA fV : Addr} {fd fdN fdA fdV : FuncData} {tok : Tok} {dvs : List V} (F : FunD K "__init__" "Road.__init__" (defArgs s_Ro_init) (defBody s_Ro_init) (defScope s_Ro_init) dvs [] f fd) (TRo_ : RoT K mg C5) (D_need_length : DefAt K mg "need_length" s_need_length P_need_length fN fdN) (D_need_from : DefAt K mg "need_from" s_need_from P_need_from fA fdA) (D_need_within : DefAt K mg "need_within" s_need_within P_need_within fV fdV) (g_FAR : mg "FAR" = some (.int 1000000000000000000 tok)) (B : Bn mg) :
    FnOk P w K mg base CX0 4 f fd P_Ro_init (spRoInit C5) := by
  have G_need_length : FnOk P w K mg base CX0 3 fN fdN P_need_length spNeed0 := ok_need0 D_need_length D_need_from D_need_within g_FAR B
  refine F.ok sc_Ro_init (fun vs H Q E h => ?_) (fun cdv A outer s H vs Q E hr h => ?_)
  · obtain ⟨g, dx, n, rfl, _⟩ := h
    rfl
  · obtain ⟨g, dx, n, rfl, hg, n0, n1, q⟩ := h
    suffices hh : ∃ t, PSs (cxOf CX0 P w K mg base N_Ro_init "Road.__init__" (defScope s_Ro_init) f cdv A outer s H E).nox (defBody s_Ro_init) t ∧ t { nx := fun _ H' => Q .non H', rt := Q } (L2.start N_Ro_init [.ref g, .int n]) H by
      obtain ⟨t, h1, h2⟩ := hh
      exact ⟨t, h1.nox, h2⟩
    refine ⟨_, (pss_cons (ps_expr (pe_call G_need_length (hr.mono (by omega)) (by rfl) D_need_length.g D_need_length.F.kp D_need_length.b .nil pass0 (pa_cons (pv 1) pa_nil)))
      (pss_cons (ps_fld (pv 0) (pv 1) rfl)
      (pss_cons (ps_fld (pv 0) pe_dnewK rfl)
      (pss_cons (ps_fld (pv 0) pe_non rfl)
      (pss_one (ps_fld (pv 0) pe_int rfl)))))), ?_⟩
    refine ⟨.int n, rfl, n, rfl, n0, n1, ?_⟩
    refine ⟨.int n, rfl, .ref g, rfl, g, C5, dx, [], rfl, hg, TRo_.cl, TRo_.nE, by show 0 < 1000; decide, ?_⟩
    have k1 : Keep g H (upd H g (.ins C5 dx (putF "extent" (.int n) []))) := Keep.upd
    have e1 : (upd H g (.ins C5 dx (putF "extent" (.int n) []))) g = some (.ins C5 dx [("extent", .int n)]) := upd_same
    have f1 : ∀ b, (upd H g (.ins C5 dx (putF "extent" (.int n) []))) b = none → H b = none := fun b hb => by
      cases e : H b with
      | none => rfl
      | some o =>
        by_cases c : b = g
        · rw [c, upd_same] at hb
          cases hb
        · rw [upd_ne c, e] at hb
          cases hb
    generalize upd H g (.ins C5 dx (putF "extent" (.int n) [])) = H1 at k1 e1 f1
    intro st nst
    have s2 := same_upd (H := H1) (o := .dK []) nst
    have e2 : (upd H1 st (.dK [])) st = some (.dK []) := upd_same
    generalize upd H1 st (.dK []) = H2 at s2 e2
    have nsg : st ≠ g := (ne_of_none e1 nst).symm
    refine ⟨.ref g, rfl, g, C5, dx, _, rfl, s2 _ _ e1, TRo_.cl, TRo_.nS, by show 1 < 1000; decide, ?_⟩
    refine ⟨.ref g, rfl, g, C5, dx, _, rfl, upd_same, TRo_.cl, TRo_.nK, by show 2 < 1000; decide, ?_⟩
    refine ⟨.ref g, rfl, g, C5, dx, _, rfl, upd_same, TRo_.cl, TRo_.nF, by show 3 < 1000; decide, ?_⟩
    refine q _ st upd_same ?_ (f1 _ nst) fun b o nb hb => ?_
    · rw [upd_ne nsg, upd_ne nsg, upd_ne nsg]
      exact e2
    · rw [upd_ne nb, upd_ne nb, upd_ne nb]
      exact s2 _ _ (k1 _ _ nb hb)
theorem ok_RoLen {f : Addr} {fd : FuncData} (F : Fun K "length" "Road.length" s_Ro_length f fd) (TRo_ : RoT K mg C5) : FnOk P w K mg base CX0 1 f fd P_Ro_length (spRoLen C5) := by
  refine F.ok sc_Ro_length (fun vs H Q E h => ?_) (fun cdv A outer s H vs Q E hr h => ?_)
  · obtain ⟨g, dx, st, n, k, c, rfl, _⟩ := h
    rfl
  · obtain ⟨g, dx, st, n, k, c, rfl, hg, q⟩ := h
    refine ⟨_, (pss_one (ps_ret (pe_fld (pv 0) rfl))), ?_⟩
    exact ⟨.ref g, rfl, g, C5, dx, _, .int n, rfl, hg, TRo_.cl, TRo_.nE, rfl, q⟩
theorem ok_Next {f : Addr} {fd : FuncData} (F : Fun K "next_number" "Road.next_number" s_Ro_next_number f fd) (TRo_ : RoT K mg C5) (B : Bn mg) : FnOk P w K mg base CX0 1 f fd P_Ro_next_number (spNext C5) := by
  refine F.ok sc_Ro_next_number (fun vs H Q E h => ?_) (fun cdv A outer s H vs Q E hr h => ?_)
  · obtain ⟨g, st, n, S, k, c, rfl, _⟩ := h
    rfl
  · obtain ⟨g, st, n, S, k, c, rfl, ⟨⟨dx, hg⟩, kvs, hst, sd⟩, hl, lo, q⟩ := h
    refine ⟨_, (pss_one (ps_ret (pe_op op_add (pe_callBK (cr_maxDf rfl) (by rfl) B.max (by decide +kernel) (pa_cons (pe_callTy (call_listD rfl) (by rfl) B.list (by decide +kernel) (pa_cons (pe_fld (pv 0) rfl) pa_nil)) pa_nil) (pk_cons pe_int pk_nil)) pe_int))), ?_⟩
    refine ⟨.ref g, rfl, g, C5, dx, _, .ref st, rfl, hg, TRo_.cl, TRo_.nS, rfl, st, kvs, rfl, .inl hst, fun p np => ?_⟩
    have e1 : (kvs.map fun kv => kV kv.1) = (S.map (·.1)).map V.int := by
      have := congrArg (List.map kV) sd.keys
      rw [List.map_map, List.map_map] at this
      exact this
    rw [e1]
    refine ⟨p, S.map (·.1), .int 0, rfl, rfl, SqL.of upd_same, fun e => ?_, fun m hm hle => ?_⟩
    · have z : nxt S = 0 + 1 := by
        unfold nxt
        rw [e]
        rfl
      refine ⟨0, 1, rfl, rfl, ?_⟩
      show Q (V.int (0 + 1)) _
      rw [← z]
      exact q _ (same_upd np)
    · obtain ⟨s0, hs0, es0⟩ := List.mem_map.mp hm
      have m0 : 0 ≤ m := by
        have := lo s0 hs0
        have e : s0.1 = m := es0
        omega
      have z : nxt S = m + 1 := by
        unfold nxt
        rw [max_is m0 (.inr hm) hle]
      refine ⟨m, 1, rfl, rfl, ?_⟩
      show Q (V.int (m + 1)) _
      rw [← z]
      exact q _ (same_upd np)
theorem ok_Become {f : Addr} {fd : FuncData} (F : Fun K "become" "Road.become" s_Ro_become f fd) (TRo_ : RoT K mg C5) : FnOk P w K mg base CX0 1 f fd P_Ro_become (spBecome C5) := by
  refine F.ok sc_Ro_become (fun vs H Q E h => ?_) (fun cdv A outer s H vs Q E hr h => ?_)
  · obtain ⟨g, st, st2, dx, n, m, S, S2, k, c, kvs, kvs2, rfl, _⟩ := h
    rfl
  · obtain ⟨g, st, st2, dx, n, m, S, S2, k, c, kvs, kvs2, rfl, hg, hst, sd, hst2, sd2, up, up2, q⟩ := h
    refine ⟨_, (pss_cons (ps_if (PW.pt (pw_or (pt_cmpR op_ne (pv 1) (pe_fld (pv 0) rfl) (nomark _)) (pw_or1 (pt_cmpR (op_neS hr.units) (pv 2) (pe_fld (pv 0) rfl) (nomark _))))) (pss_one (ps_fld (pv 0) pe_non rfl)) pss_nil)
      (pss_cons (ps_fld (pv 0) (pv 1) rfl)
      (pss_one (ps_fld (pv 0) (pv 2) rfl)))), ?_⟩
    have rest : ∀ (k2 : V) (H1 : Hp), H1 g = some (.ins C5 dx (roF n st k2 c)) → Keep g H H1 → k2 = (if m = n ∧ S2 = S then k else .non) →
        tSeq (sFld K (tVar 0) (tVar 1) "extent") (sFld K (tVar 0) (tVar 2) "standing") { nx := fun _ H' => Q .non H', rt := Q } (L2.start N_Ro_become [.ref g, .int m, .ref st2]) H1 := fun k2 H1 e1 k1 ek => by
      refine ⟨.int m, rfl, .ref g, rfl, g, C5, dx, _, rfl, e1, TRo_.cl, TRo_.nE, by show 4 < 1000; decide, ?_⟩
      refine ⟨.ref st2, rfl, .ref g, rfl, g, C5, dx, _, rfl, upd_same, TRo_.cl, TRo_.nS, by show 4 < 1000; decide, ?_⟩
      refine q _ ?_ ((k1.trans Keep.upd).trans Keep.upd)
      rw [upd_same, ← ek]
      rfl
    have none : ¬ (m = n ∧ S2 = S) → tSeq (sFld K (tVar 0) (tC .non) "kept") (tSeq (sFld K (tVar 0) (tVar 1) "extent") (sFld K (tVar 0) (tVar 2) "standing")) { nx := fun _ H' => Q .non H', rt := Q } (L2.start N_Ro_become [.ref g, .int m, .ref st2]) H := fun hne => by
      refine ⟨.ref g, rfl, g, C5, dx, _, rfl, hg, TRo_.cl, TRo_.nK, by show 4 < 1000; decide, ?_⟩
      exact rest .non _ upd_same Keep.upd (if_neg hne).symm
    refine ⟨.int m, rfl, .ref g, rfl, g, C5, dx, _, .int n, rfl, hg, TRo_.cl, TRo_.nE, rfl, rfl, _, rfl, ?_⟩
    refine ite2 (fun h => ?_) (fun h => ?_)
    · refine iteT (none fun z => ?_)
      rw [z.1] at h
      simp at h
    · have hmn : m = n := by
        by_cases z : m = n
        · exact z
        · exfalso
          apply h
          rw [decide_eq_false (fun q => z (V.int.inj q))]
          rfl
      refine ⟨.ref st2, rfl, .ref g, rfl, g, C5, dx, _, .ref st, rfl, hg, TRo_.cl, TRo_.nS, rfl, st2, st, kvs2, kvs, S2, S, rfl, rfl, hst2, hst, sd2, sd, _, rfl, ?_⟩
      by_cases hS : S2 = S
      · rw [hS, sameS_self up, decide_eq_true rfl]
        refine iteF ?_
        exact rest k H hg (fun b o _ e => e) (if_pos ⟨hmn, hS⟩).symm
      · have hb : (decide (S2.length = S.length) && sameS S2 S) = false := by
          cases hz : (decide (S2.length = S.length) && sameS S2 S) with
          | false => rfl
          | true =>
            rw [Bool.and_eq_true, decide_eq_true_eq] at hz
            exact absurd (sameS_rise up2 up hz.1 hz.2) hS
        rw [hb]
        exact iteT (none fun z => hS z.2)
end

/-! ### a road: told, matings, mate_as, mate -/
abbrev N_Ro_matings : List Str := ["self", "number"]
abbrev P_Ro_matings : List Str := ["self"]
theorem sc_Ro_matings : FnScope N_Ro_matings P_Ro_matings (defScope s_Ro_matings) := ⟨rfl, rfl, rfl, by decide +kernel, rfl, by decide +kernel, by decide +kernel⟩
abbrev N_Ro_mate_as : List Str := ["self", "number", "mating"]
abbrev P_Ro_mate_as : List Str := ["self", "number", "mating"]
theorem sc_Ro_mate_as : FnScope N_Ro_mate_as P_Ro_mate_as (defScope s_Ro_mate_as) := ⟨rfl, rfl, rfl, by decide +kernel, rfl, by decide +kernel, by decide +kernel⟩
abbrev N_Ro_mate : List Str := ["self", "one", "other", "many", "turned", "number"]
abbrev P_Ro_mate : List Str := ["self", "one", "other", "many", "turned"]
theorem sc_Ro_mate : FnScope N_Ro_mate P_Ro_mate (defScope s_Ro_mate) := ⟨rfl, rfl, rfl, by decide +kernel, rfl, by decide +kernel, by decide +kernel⟩
theorem foldl_max_le : ∀ (l : List Int) (a : Int), a ≤ l.foldl max a ∧ ∀ y ∈ l, y ≤ l.foldl max a
  | [], a => ⟨Int.le_refl a, fun y h => nomatch h⟩
  | x :: r, a => by
    obtain ⟨h1, h2⟩ := foldl_max_le r (max a x)
    refine ⟨Int.le_trans (Int.le_max_left a x) h1, fun y hy => ?_⟩
    rcases List.mem_cons.mp hy with rfl | hy
    · exact Int.le_trans (Int.le_max_right a y) h1
    · exact h2 y hy
theorem nxt_1 (S : StL) : 1 ≤ nxt S := by
  have := (foldl_max_le (S.map (·.1)) 0).1
  unfold nxt
  omega
theorem nxt_gt {S : StL} {s : Int × M4} (h : s ∈ S) : s.1 < nxt S := by
  have := (foldl_max_le (S.map (·.1)) 0).2 s.1 (List.mem_map.mpr ⟨s, h, rfl⟩)
  unfold nxt
  omega
theorem sget_not {S : StL} {i : Int} (h : ∀ s ∈ S, s.1 ≠ i) : sget S i = none := by
  induction S with
  | nil => rfl
  | cons s r ih =>
    show (if s.1 = i then some s.2 else sget r i) = none
    rw [if_neg (h s List.mem_cons_self)]
    exact ih fun z hz => h z (List.mem_cons_of_mem _ hz)
theorem rise_snoc {S : StL} {i : Int} {x : M4} (u : (S.map (·.1)).Pairwise (· < ·)) (h : ∀ s ∈ S, s.1 < i) : ((S ++ [(i, x)]).map (·.1)).Pairwise (· < ·) := by
  rw [List.map_append, List.pairwise_append]
  refine ⟨u, List.pairwise_singleton _ _, fun a ha b hb => ?_⟩
  obtain ⟨s, hs, rfl⟩ := List.mem_map.mp ha
  rw [List.mem_singleton.mp hb]
  exact h s hs
theorem RoW.snoc {n : Int} {S : StL} {i : Int} {x : M4} (h : RoW n S) (hi : ∀ s ∈ S, s.1 < i) (i1 : 1 ≤ i) (hl : S.length < 24) (hx : Mok n x) : RoW n (S ++ [(i, x)]) :=
  ⟨h.n0, h.n1, rise_snoc h.up hi, fun s hs => by
    rcases List.mem_append.mp hs with z | z
    · exact h.low s z
    · rw [List.mem_singleton.mp z]
      exact i1, by rw [List.length_append]; exact hl, fun s hs => by
    rcases List.mem_append.mp hs with z | z
    · exact h.ok s z
    · rw [List.mem_singleton.mp z]
      exact hx⟩
def spMatings (C5 : Addr) : Sp := fun vs H Q _ => ∃ (g st : Addr) (n : Int) (S : StL) (k : V) (c : Int), vs = [.ref g] ∧ RoAt C5 H g st n S k c ∧ (S.map (·.1)).Pairwise (· < ·) ∧ S.length < 60 ∧
  ∀ (H' : Hp) (r : Addr) (us : List Addr), Same H H' → H r = none → H' r = some (.lst (us.map V.ref)) → Ls H' us S → Q (.ref r) H'
def spMateAs (C5 : Addr) : Sp := fun vs H Q _ => ∃ (g st t : Addr) (n i : Int) (S : StL) (k : V) (c : Int) (x : M4), vs = [.ref g, .int i, .ref t] ∧ RoAt C5 H g st n S k c ∧ RoW n S ∧ S.length < 24 ∧ H t = some (t4 x) ∧ Mok n x ∧ (∀ s ∈ S, s.1 < i) ∧
  ∀ (H' : Hp) (st' : Addr), RoAt C5 H' g st' n (S ++ [(i, x)]) .non c → Keep g H H' → H st' = none → Q .non H'
def spMate (C5 : Addr) : Sp := fun vs H Q _ => ∃ (g st : Addr) (n : Int) (S : StL) (k : V) (c : Int) (x : M4), vs = [.ref g, .int x.1, .int x.2.1, .int x.2.2.1, .int x.2.2.2] ∧ RoAt C5 H g st n S k c ∧ RoW n S ∧ S.length < 24 ∧ Mok n x ∧
  ∀ (H' : Hp) (st' : Addr), RoAt C5 H' g st' n (S ++ [(nxt S, x)]) .non c → Keep g H H' → H st' = none → Q (.int (nxt S)) H'
section
variable {P : Program} {w : World} {K : PySem.W.Frag} {mg : Str → Option Value} {base : Heap} {C5 : Addr}
theorem ok_RoMatings {f : Addr} {fd : FuncData} (F : Fun K "matings" "Road.matings" s_Ro_matings f fd) (TRo_ : RoT K mg C5) (B : Bn mg) : FnOk P w K mg base CX0 1 f fd P_Ro_matings (spMatings C5) := by
  refine F.ok sc_Ro_matings (fun vs H Q E h => ?_) (fun cdv A outer s H vs Q E hr h => ?_)
  · obtain ⟨g, st, n, S, k, c, rfl, _⟩ := h
    rfl
  · obtain ⟨g, st, n, S, k, c, rfl, fa, up, hlen, qq⟩ := h
    have hu := hu_of hr
    refine ⟨_, (pss_one (ps_ret (pe_lc (own := [("number", 1)]) (g := gName 1) (by rfl) sc_Ro_matings.nd (pi_list (pe_callB (call_sortedDI rfl) (by rfl) B.sorted (by decide +kernel) (pa_cons (pe_fld (pv 0) rfl) pa_nil))) (blkOk_by (own := [("number", 1)]) (N := N_Ro_matings) (sc := defScope s_Ro_matings) (by decide +kernel)) (fun _ _ _ _ _ => (pg_name (i := 1) sc_Ro_matings.nd rfl (.inl rfl))) (fun _ _ _ _ _ => pts_nil) (fun _ _ _ _ _ => (pe_tup (pa_cons (pv 1) (pa_cons (pe_dget hu (pe_fldK (K := K) rfl (pv 0) rfl) (pv 1) (fun _ _ => rfl)) pa_nil))))))), ?_⟩
    obtain ⟨⟨dx, ea⟩, kvs, es, sd⟩ := id fa
    refine ⟨.ref g, rfl, g, C5, dx, _, .ref st, rfl, ea, TRo_.cl, TRo_.nS, rfl, st, kvs, S.map (·.1), rfl, .inl es, sd.keys, by rw [List.length_map]; omega, fun ys p py so np => ?_⟩
    have ey := perm_sorted py so up
    subst ey
    refine ⟨p, rfl, ⟨_, SqL.of upd_same⟩, fun L nL => lc_list (K := K) (a := p) (xs := (S.map (·.1)).map V.int) (fun i H2 => ∃ us, Same (upd H p (.lst ((S.map (·.1)).map V.int))) H2 ∧ H2 L = some (.lst (us.map V.ref)) ∧ Ls H2 us (S.take i))
      ⟨[], same_upd nL, upd_same, .nil⟩ (fun i H2 _ ⟨_, sm, _⟩ => SqL.of (sm _ _ upd_same)) ?_ ?_⟩
    · rintro i x H2 hx ⟨us, sm, e2, ls⟩
      rw [List.map_map, List.getElem?_map] at hx
      obtain ⟨z, hz, rfl⟩ := Option.map_eq_some_iff.mp hx
      have sm2 : Same H H2 := (same_upd np).trans sm
      obtain ⟨⟨dx2, ea2⟩, kvs2, es2, sd2⟩ := fa.same sm2
      obtain ⟨t, gt, _, ht⟩ := sd2.dget es2 (sget_mem up (List.mem_of_getElem? hz))
      have hl := ls.length
      have hi : i < S.length := (List.getElem?_eq_some_iff.mp hz).1
      rw [List.length_take] at hl
      refine ⟨rfl, .int z.1, rfl, .ref g, rfl, g, C5, dx2, _, .ref st, rfl, ea2, TRo_.cl, TRo_.nS, rfl, .int z.1, rfl, st, .ref t, rfl, gt, by show 2 ≤ sizeLine; decide, fun u nu => ?_⟩
      refine ⟨us.map V.ref, same_upd nu _ _ e2, sz_lt (by rw [List.length_map]; omega), us ++ [u], fun b o' hb => ?_, by rw [upd_same, List.map_append]; rfl, ?_⟩
      · rw [upd_ne (ne_of_none hb nL)]
        exact same_upd nu _ _ (sm _ _ hb)
      · have kt : ∀ {b : Addr} {xs : List V}, H2 b = some (.tup xs) → (upd (upd H2 u (.tup [.int z.1, .ref t])) L (.lst (us.map V.ref ++ [.ref u]))) b = some (.tup xs) := fun hb => by
          rw [upd_ne (ne_of hb e2 (fun z => by cases z))]
          exact same_upd nu _ _ hb
        rw [List.take_add_one, hz]
        refine Ls.snoc ⟨t, ?_, kt ht⟩ (ls.keep fun b xs hb => kt hb)
        rw [upd_ne (ne_of_none e2 nu).symm]
        exact upd_same
    · rintro H2 ⟨us, sm, e2, ls⟩
      rw [List.length_map, List.length_map, List.take_length] at ls
      exact qq H2 L us ((same_upd np).trans sm) ((same_upd np).free nL) e2 ls
theorem ok_MateAs {f fB fM fI : Addr} {fd fdB fdM fdI : FuncData} {tok : Tok} (F : Fun K "mate_as" "Road.mate_as" s_Ro_mate_as f fd) (TRo_ : RoT K mg C5) (M_Ro_become : Meth K C5 "become" fB) (G_Ro_become : FnOk P w K mg base CX0 1 fB fdB P_Ro_become (spBecome C5)) (b_Ro_become : Binds K fdB P_Ro_become [])
    (D_need_mating : DefAt K mg "need_mating" s_need_mating P_need_mating fM fdM) (D_is_mating : DefAt K mg "is_mating" s_is_mating P_is_mating fI fdI) (g_MOST : mg "MOST" = some (.int 24 tok)) (B : Bn mg) : FnOk P w K mg base CX0 3 f fd P_Ro_mate_as (spMateAs C5) := by
  refine F.ok sc_Ro_mate_as (fun vs H Q E h => ?_) (fun cdv A outer s H vs Q E hr h => ?_)
  · obtain ⟨g, st, t, n, i, S, k, c, x, rfl, _⟩ := h
    rfl
  · obtain ⟨g, st, t, n, i, S, k, c, x, rfl, fa, wf, hlen, ht, hx, hi, qq⟩ := h
    have G_need_mating : FnOk P w K mg base CX0 2 fM fdM P_need_mating (spNeed1 n) := ok_need1 D_need_mating D_is_mating wf.n0 wf.n1 B
    refine ⟨_, (pss_cons (ps_expr (pe_call G_need_mating (hr.mono (by omega)) (by rfl) D_need_mating.g D_need_mating.F.kp D_need_mating.b .nil pass0 (pa_cons (pe_fld (pv 0) rfl) (pa_cons (pv 2) pa_nil))))
      (pss_cons (ps_if (pt_cmpR op_ge (pe_callB call_lenDk (by rfl) B.len (by decide +kernel) (pa_cons (pe_fld (pv 0) rfl) pa_nil)) (pe_glob (v := .int _) (by rfl) g_MOST ⟨_, rfl⟩) (nomark _)) (pss_one ps_never) pss_nil)
      (pss_one (ps_expr (pe_meth (pv 0) TRo_.cl M_Ro_become G_Ro_become (hr.mono (by omega)) b_Ro_become .nil pass0 (pa_cons (pe_fld (pv 0) rfl) (pa_cons (DStar.pe_dstar (pe_fld (pv 0) rfl) (pv 1) (pv 2)) pa_nil))))))), ?_⟩
    obtain ⟨⟨dx, ea⟩, kvs, es, sd⟩ := id fa
    refine ⟨.ref g, rfl, g, C5, dx, _, .int n, rfl, ea, TRo_.cl, TRo_.nE, rfl, .ref t, rfl, t, x, rfl, ht, hx, fun H1 s1 => ?_⟩
    obtain ⟨⟨dx1, ea1⟩, kvs1, es1, sd1⟩ := fa.same s1
    have el := sd1.length
    refine ⟨.ref g, rfl, g, C5, dx1, _, .ref st, rfl, ea1, TRo_.cl, TRo_.nS, rfl, st, kvs1, rfl, es1, ?_⟩
    refine ⟨(kvs1.length : Int), 24, rfl, rfl, _, rfl, ite2 (fun h => absurd (of_decide_eq_true h) (by omega)) (fun _ => ?_)⟩
    refine ⟨.ref g, rfl, g, dx1, _, rfl, ea1, rfl, .ref g, rfl, g, C5, dx1, _, .int n, rfl, ea1, TRo_.cl, TRo_.nE, rfl, fun D nD => ?_⟩
    have s2 := same_upd (H := H1) (o := .dK []) nD
    have nst : st ≠ D := ne_of_none es1 nD
    refine ⟨.ref g, rfl, g, C5, dx1, _, .ref st, rfl, s2 _ _ ea1, TRo_.cl, TRo_.nS, rfl, st, kvs1, rfl, nst, s2 _ _ es1, upd_same, sz_lt (by omega), fun Bx nB => ?_⟩
    have nBD : Bx ≠ D := fun z => by
      rw [z, upd_same] at nB
      cases nB
    have nB1 : H1 Bx = none := by
      rw [upd_ne nBD, upd_ne nBD] at nB
      exact nB
    refine ⟨.int i, rfl, .ref t, rfl, Sum.inl i, .ref t, rfl, ?_, upd_same, ?_⟩
    · rw [upd_ne nBD.symm]
      exact upd_same
    have s4 : Same H1 (upd (upd (upd (upd (upd H1 D (.dK [])) D (.dK kvs1)) Bx (.dK [])) Bx (.dK [(Sum.inl i, .ref t)])) D (.dK (putK kvs1 (Sum.inl i) (.ref t)))) := fun b o hb => by
      have n1 := ne_of_none hb nD
      have n2 := ne_of_none hb nB1
      rw [upd_ne n1, upd_ne n2, upd_ne n2, upd_ne n1, upd_ne n1]
      exact hb
    have e4 : (upd (upd (upd (upd (upd H1 D (.dK [])) D (.dK kvs1)) Bx (.dK [])) Bx (.dK [(Sum.inl i, .ref t)])) D (.dK (putK kvs1 (Sum.inl i) (.ref t)))) D = some (.dK (putK kvs1 (Sum.inl i) (.ref t))) := upd_same
    generalize upd (upd (upd (upd (upd H1 D (.dK [])) D (.dK kvs1)) Bx (.dK [])) Bx (.dK [(Sum.inl i, .ref t)])) D (.dK (putK kvs1 (Sum.inl i) (.ref t))) = H4 at s4 e4
    have hno : valV kvs1 (Sum.inl i) = none := (sd1.get i).1 (sget_not fun s hs => by have := hi s hs; omega)
    rw [putK_new _ hno] at e4
    have sdN : Std H4 (kvs1 ++ [(Sum.inl i, .ref t)]) (S ++ [(i, x)]) := Std.snoc ⟨rfl, t, rfl, s4 _ _ (s1 _ _ ht)⟩ (sd1.keep fun b xs hb => s4 _ _ hb)
    refine ⟨g, st, D, dx1, n, n, S, S ++ [(i, x)], k, c, kvs1, _, rfl, s4 _ _ ea1, s4 _ _ es1, sd1.keep fun b xs hb => s4 _ _ hb, e4, sdN, wf.up, rise_snoc wf.up hi, fun H5 e5 k5 => ?_⟩
    rw [if_neg (fun z => by have := congrArg List.length z.2; rw [List.length_append] at this; simp at this)] at e5
    have nDg : D ≠ g := (ne_of_none ea1 nD).symm
    exact qq H5 D ⟨⟨dx1, e5⟩, _, k5 _ _ nDg e4, sdN.keep fun b xs hb => k5 _ _ (ne_of hb (s4 _ _ ea1) (fun z => by cases z)) hb⟩ (fun b o nb hb => k5 _ _ nb (s4 _ _ (s1 _ _ hb))) (s1.free nD)
theorem ok_Mate {f fN fA : Addr} {fd fdN fdA : FuncData} {dvs : List V} {kws : List (Str × V)} (F : FunD K "mate" "Road.mate" (defArgs s_Ro_mate) (defBody s_Ro_mate) (defScope s_Ro_mate) dvs kws f fd) (TRo_ : RoT K mg C5) (M_Ro_next_number : Meth K C5 "next_number" fN) (G_Ro_next_number : FnOk P w K mg base CX0 1 fN fdN P_Ro_next_number (spNext C5)) (b_Ro_next_number : Binds K fdN P_Ro_next_number [])
    (M_Ro_mate_as : Meth K C5 "mate_as" fA) (G_Ro_mate_as : FnOk P w K mg base CX0 3 fA fdA P_Ro_mate_as (spMateAs C5)) (b_Ro_mate_as : Binds K fdA P_Ro_mate_as []) : FnOk P w K mg base CX0 4 f fd P_Ro_mate (spMate C5) := by
  refine F.ok sc_Ro_mate (fun vs H Q E h => ?_) (fun cdv A outer s H vs Q E hr h => ?_)
  · obtain ⟨g, st, n, S, k, c, x, rfl, _⟩ := h
    rfl
  · obtain ⟨g, st, n, S, k, c, x, rfl, fa, wf, hlen, hx, qq⟩ := h
    suffices hh : ∃ t, PSs (cxOf CX0 P w K mg base N_Ro_mate "Road.mate" (defScope s_Ro_mate) f cdv A outer s H E).nox (defBody s_Ro_mate) t ∧ t { nx := fun _ H' => Q .non H', rt := Q } (L2.start N_Ro_mate [.ref g, .int x.1, .int x.2.1, .int x.2.2.1, .int x.2.2.2]) H by
      obtain ⟨t, h1, h2⟩ := hh
      exact ⟨t, h1.nox, h2⟩
    refine ⟨_, (pss_cons (ps_set (i := 5) sc_Ro_mate.nd rfl (.inl rfl) (pe_meth0 (pv 0) TRo_.cl M_Ro_next_number G_Ro_next_number (hr.mono (by omega)) b_Ro_next_number .nil pass0))
      (pss_cons (ps_expr (pe_meth (pv 0) TRo_.cl M_Ro_mate_as G_Ro_mate_as (hr.mono (by omega)) b_Ro_mate_as .nil pass0 (pa_cons (pv 5) (pa_cons (pe_tup (pa_cons (pv 1) (pa_cons (pv 2) (pa_cons (pv 3) (pa_cons (pv 4) pa_nil))))) pa_nil))))
      (pss_one (ps_ret (pv 5))))), ?_⟩
    obtain ⟨dx, ea⟩ := fa.at_g
    refine ⟨.ref g, rfl, g, dx, _, rfl, ea, rfl, g, st, n, S, k, c, rfl, fa, by omega, wf.low, fun H1 s1 => ?_⟩
    refine ⟨.ref g, rfl, g, dx, _, rfl, s1 _ _ ea, rfl, .int (nxt S), rfl, .int x.1, rfl, .int x.2.1, rfl, .int x.2.2.1, rfl, .int x.2.2.2, rfl, by show 4 ≤ sizeLine; decide, fun t nt => ?_⟩
    have s2 := same_upd (H := H1) (o := t4 x) nt
    have s12 := s1.trans s2
    refine ⟨g, st, t, n, nxt S, S, k, c, x, rfl, fa.same s12, wf, hlen, upd_same, hx, fun s hs => nxt_gt hs, fun H3 st' fa3 k3 n3 => ?_⟩
    exact ⟨.int (nxt S), rfl, qq H3 st' fa3 (fun b o nb hb => k3 _ _ nb (s12 _ _ hb)) (s12.free n3)⟩
end

/-! ### a road stands where all but tables does (from rd10_late) -/
theorem RoAt.extN {C5 : Addr} {H H' : Hp} {g st : Addr} {n : Int} {S : StL} {k : V} {c : Int} (h : RoAt C5 H g st n S k c) (s : LamX.ExtN H H') : RoAt C5 H' g st n S k c := by
  obtain ⟨⟨dx, e⟩, kvs, e1, e2⟩ := h
  exact ⟨⟨dx, s _ _ e (fun _ z => by cases z)⟩, kvs, s _ _ e1 (fun _ z => by cases z), e2.keep fun b xs hb => s _ _ hb (fun _ z => by cases z)⟩

/-! ### a road: trim -/
abbrev N_Ro_trim : List Str := ["self", "length", "standing", "number", "mating"]
abbrev P_Ro_trim : List Str := ["self", "length"]
theorem sc_Ro_trim : FnScope N_Ro_trim P_Ro_trim (defScope s_Ro_trim) := ⟨rfl, rfl, rfl, by decide +kernel, rfl, by decide +kernel, by decide +kernel⟩
def clipM (m : Int) (x : M4) : Option M4 := if clipHi x.1 x.2.1 x.2.2.1 x.2.2.2 m ≤ clipLo x.1 x.2.1 x.2.2.1 x.2.2.2 m then none else
  some (clipLo x.1 x.2.1 x.2.2.1 x.2.2.2 m, partP x.1 x.2.1 x.2.2.1 x.2.2.2 (clipLo x.1 x.2.1 x.2.2.1 x.2.2.2 m) (clipHi x.1 x.2.1 x.2.2.1 x.2.2.2 m - clipLo x.1 x.2.1 x.2.2.1 x.2.2.2 m), clipHi x.1 x.2.1 x.2.2.1 x.2.2.2 m - clipLo x.1 x.2.1 x.2.2.1 x.2.2.2 m, x.2.2.2)
def trS (m : Int) (S : StL) : StL := S.filterMap fun s => (clipM m s.2).map fun y => (s.1, y)
theorem clipM_ok {m n : Int} {x y : M4} (hx : Mok n x) (m0 : 0 ≤ m) (h : clipM m x = some y) : Mok m y := by
  obtain ⟨o, p, q, f⟩ := x
  obtain ⟨hf, h1, h2, h3, h4, h5⟩ := hx
  unfold clipM at h
  split at h
  · cases h
  · rename_i hlt
    cases h
    simp only at hf h1 h2 h3 h4 h5 hlt ⊢
    have lo := clip_lo o p q f m
    have hi := clip_hi o p q f m
    generalize hL : clipLo o p q f m = L at *
    generalize hH : clipHi o p q f m = G at *
    have hGm : G ≤ m := by
      rw [← hH]
      unfold clipHi
      split
      · split <;> omega
      · split
        · split at * <;> omega
        · split <;> omega
    refine ⟨hf, by show 1 ≤ G - L; omega, by show 0 ≤ L; omega, ?_, by show L + (G - L) ≤ m; omega, ?_⟩
    · show 0 ≤ partP o p q f L (G - L)
      unfold partP
      split <;> omega
    · show partP o p q f L (G - L) + (G - L) ≤ m
      unfold partP
      rcases hf with rfl | rfl
      · rw [if_neg (by decide)]
        rw [← hH]
        unfold clipHi
        rw [if_neg (by decide)]
        split
        · omega
        · split at * <;> omega
      · rw [if_pos rfl, ← hL]
        unfold clipLo
        rw [if_pos rfl]
        split <;> omega
theorem trS_in {m : Int} {S : StL} {s : Int × M4} (h : s ∈ trS m S) : ∃ t ∈ S, t.1 = s.1 ∧ clipM m t.2 = some s.2 := by
  obtain ⟨t, ht, e⟩ := List.mem_filterMap.mp h
  obtain ⟨y, hy, e2⟩ := Option.map_eq_some_iff.mp e
  exact ⟨t, ht, by rw [← e2], by rw [← e2]; exact hy⟩
theorem trS_up {m : Int} {S : StL} (u : (S.map (·.1)).Pairwise (· < ·)) : ((trS m S).map (·.1)).Pairwise (· < ·) := by
  rw [List.pairwise_map] at u ⊢
  unfold trS
  rw [List.pairwise_filterMap]
  refine u.imp fun {a b} hab x hx y hy => ?_
  obtain ⟨x', _, rfl⟩ := Option.map_eq_some_iff.mp hx
  obtain ⟨y', _, rfl⟩ := Option.map_eq_some_iff.mp hy
  exact hab
theorem RoW.trim {n m : Int} {S : StL} (h : RoW n S) (m0 : 0 ≤ m) (m1 : m ≤ n) : RoW m (trS m S) :=
  ⟨m0, by have := h.n1; omega, trS_up h.up, fun s hs => by
    obtain ⟨t, ht, e, _⟩ := trS_in hs
    rw [← e]
    exact h.low t ht, by have := h.len; have := List.length_filterMap_le (fun s : Int × M4 => (clipM m s.2).map fun y => (s.1, y)) S; unfold trS; omega, fun s hs => by
    obtain ⟨t, ht, _, e⟩ := trS_in hs
    exact clipM_ok (h.ok t ht) m0 e⟩
def spTrim (C5 : Addr) : Sp := fun vs H Q _ => ∃ (g st : Addr) (n m : Int) (S : StL) (k : V) (c : Int), vs = [.ref g, .int m] ∧ RoAt C5 H g st n S k c ∧ RoW n S ∧ 0 ≤ m ∧ m ≤ n ∧
  ∀ (H' : Hp) (st' : Addr), RoAt C5 H' g st' m (trS m S) (if m = n ∧ trS m S = S then k else .non) c → Keep g H H' → H st' = none → Q .non H'
section
variable {P : Program} {w : World} {K : PySem.W.Frag} {mg : Str → Option Value} {base : Heap} {C5 : Addr}
theorem ok_Trim {f fB fW fA fC fP fH : Addr} {fd fdB fdW fdA fdC fdP fdH : FuncData} (F : Fun K "trim" "Road.trim" s_Ro_trim f fd) (TRo_ : RoT K mg C5) (M_Ro_become : Meth K C5 "become" fB) (G_Ro_become : FnOk P w K mg base CX0 1 fB fdB P_Ro_become (spBecome C5)) (b_Ro_become : Binds K fdB P_Ro_become [])
    (D_need_within : DefAt K mg "need_within" s_need_within P_need_within fW fdW) (D_need_from : DefAt K mg "need_from" s_need_from P_need_from fA fdA) (D_clipped : DefAt K mg "clipped" s_clipped P_clipped fC fdC) (D_part : DefAt K mg "part" s_part P_part fP fdP) (D_holds : DefAt K mg "holds" s_holds P_holds fH fdH) (B : Bn mg) : FnOk P w K mg base CX0 4 f fd P_Ro_trim (spTrim C5) := by
  have G_need_within : FnOk P w K mg base CX0 2 fW fdW P_need_within spWithin0 := ok_within0 D_need_within D_need_from B
  have G_clipped : FnOk P w K mg base CX0 3 fC fdC P_clipped spClipped := ok_clipped D_clipped D_part D_holds B
  refine F.ok sc_Ro_trim (fun vs H Q E h => ?_) (fun cdv A outer s H vs Q E hr h => ?_)
  · obtain ⟨g, st, n, m, S, k, c, rfl, _⟩ := h
    rfl
  · obtain ⟨g, st, n, m, S, k, c, rfl, fa, wf, m0, m1, qq⟩ := h
    have hu := hu_of hr
    refine ⟨_, (pss_cons (ps_expr (pe_call G_need_within (hr.mono (by omega)) (by rfl) D_need_within.g D_need_within.F.kp D_need_within.b .nil pass0 (pa_cons pe_int (pa_cons (pe_fld (pv 0) rfl) (pa_cons (pv 1) pa_nil)))))
      (pss_cons (ps_set (i := 2) sc_Ro_trim.nd rfl (.inl rfl) pe_dnewK)
      (pss_cons (ps_for PassesOwn.never rfl (pi_list (pe_callB (call_sortedDI rfl) (by rfl) B.sorted (by decide +kernel) (pa_cons (pe_fld (pv 0) rfl) pa_nil))) (pg_name (i := 3) sc_Ro_trim.nd rfl (.inl rfl)) (pss_cons (ps_set (i := 4) sc_Ro_trim.nd rfl (.inl rfl) (pe_call G_clipped (hr.mono (by omega)) (by rfl) D_clipped.g D_clipped.F.kp D_clipped.b .nil pass0 (pa_cons (pe_dget hu (pe_fld (pv 0) rfl) (pv 3) (fun _ _ => rfl)) (pa_cons (pv 1) pa_nil))))
      (pss_one (ps_if (pt_cmpR op_notN (pv 4) pe_non (nomark _)) (pss_one (ps_dput hu (pv 2) (pv 3) (pv 4) rfl)) pss_nil))))
      (pss_one (ps_expr (pe_meth (pv 0) TRo_.cl M_Ro_become G_Ro_become (hr.mono (by omega)) b_Ro_become .nil pass0 (pa_cons (pv 1) (pa_cons (pv 2) pa_nil)))))))), ?_⟩
    obtain ⟨⟨dx, ea⟩, kvs, es, sd⟩ := id fa
    refine ⟨.ref g, rfl, g, C5, dx, _, .int n, rfl, ea, TRo_.cl, TRo_.nE, rfl, .int m, rfl, 0, n, m, rfl, m0, m1, fun D nD => ?_⟩
    have s1 := same_upd (H := H) (o := .dK []) nD
    have nDg : D ≠ g := (ne_of_none ea nD).symm
    refine ⟨.ref g, rfl, g, C5, dx, _, .ref st, rfl, s1 _ _ ea, TRo_.cl, TRo_.nS, rfl, st, kvs, S.map (·.1), rfl, .inl (s1 _ _ es), sd.keys, by rw [List.length_map]; have := wf.len; omega, fun ys p py so np => ?_⟩
    have ey := perm_sorted py so wf.up
    subst ey
    have s2 := same_upd (H := upd H D (.dK [])) (o := .lst ((S.map (·.1)).map V.int)) np
    have s12 := s1.trans s2
    have eD0 : (upd (upd H D (.dK [])) p (.lst ((S.map (·.1)).map V.int))) D = some (.dK []) := s2 _ _ upd_same
    have ep0 : (upd (upd H D (.dK [])) p (.lst ((S.map (·.1)).map V.int))) p = some (.lst ((S.map (·.1)).map V.int)) := upd_same
    generalize upd (upd H D (.dK [])) p (.lst ((S.map (·.1)).map V.int)) = H1 at s12 eD0 ep0
    refine ⟨p, rfl, ⟨_, SqL.of ep0⟩, for_list (K := K) (a := p) (xs := (S.map (·.1)).map V.int) (fun i σ H2 => ∃ y3 y4 ks, σ = [some (.ref g), some (.int m), some (.ref D), y3, y4] ∧ Same H H2 ∧ H2 p = some (.lst ((S.map (·.1)).map V.int)) ∧ H2 D = some (.dK ks) ∧ Std H2 ks (trS m (S.take i)))
      ⟨none, none, [], rfl, s12, ep0, eD0, .nil⟩ (fun i σ H2 _ ⟨_, _, _, _, _, e, _⟩ => SqL.of e) ?_ ?_⟩
    · rintro i y σ H2 hy ⟨y3, y4, ks, rfl, sm, ep, eD, s3⟩
      rw [List.map_map, List.getElem?_map] at hy
      obtain ⟨z, hz, rfl⟩ := Option.map_eq_some_iff.mp hy
      obtain ⟨⟨dx2, ea2⟩, kvs2, es2, sd2⟩ := fa.same sm
      obtain ⟨t, gt, _, ht⟩ := sd2.dget es2 (sget_mem wf.up (List.mem_of_getElem? hz))
      have hf : z.2.2.2.2 = 0 ∨ z.2.2.2.2 = 1 := (wf.ok z (List.mem_of_getElem? hz)).1
      have stepE : trS m (S.take (i + 1)) = trS m (S.take i) ++ (match clipM m z.2 with | some y => [(z.1, y)] | none => []) := by
        unfold trS
        rw [List.take_add_one, hz, List.filterMap_append]
        congr 1
        show List.filterMap _ [z] = _
        rw [List.filterMap_cons, List.filterMap_nil]
        cases clipM m z.2 <;> rfl
      have l3 := s3.length
      have l4 : (trS m (S.take i)).length ≤ (S.take i).length := List.length_filterMap_le _ _
      rw [List.length_take] at l4
      have hlt : ∀ s ∈ S.take i, s.1 < z.1 := fun s hs => by
        have u2 : ((S.take (i + 1)).map (·.1)).Pairwise (· < ·) := wf.up.sublist ((List.take_sublist _ _).map _)
        rw [List.take_add_one, hz, List.map_append, List.pairwise_append] at u2
        exact u2.2.2 _ (List.mem_map.mpr ⟨s, hs, rfl⟩) _ (List.mem_singleton.mpr rfl)
      refine ⟨.ref g, rfl, g, C5, dx2, _, .ref st, rfl, ea2, TRo_.cl, TRo_.nS, rfl, .int z.1, rfl, st, .ref t, rfl, gt, .int m, rfl, ?_⟩
      refine ⟨t, z.2.1, z.2.2.1, z.2.2.2.1, z.2.2.2.2, m, rfl, ht, hf, fun hle => ?_, fun hgt r nr => ?_⟩
      · have e : clipM m z.2 = none := if_pos hle
        rw [e, List.append_nil] at stepE
        refine ⟨.non, rfl, rfl, _, rfl, iteF ?_⟩
        exact ⟨_, _, ks, rfl, sm, ep, eD, by rw [stepE]; exact s3⟩
      · have e : clipM m z.2 = some (clipLo z.2.1 z.2.2.1 z.2.2.2.1 z.2.2.2.2 m, partP z.2.1 z.2.2.1 z.2.2.2.1 z.2.2.2.2 (clipLo z.2.1 z.2.2.1 z.2.2.2.1 z.2.2.2.2 m) (clipHi z.2.1 z.2.2.1 z.2.2.2.1 z.2.2.2.2 m - clipLo z.2.1 z.2.2.1 z.2.2.2.1 z.2.2.2.2 m), clipHi z.2.1 z.2.2.1 z.2.2.2.1 z.2.2.2.2 m - clipLo z.2.1 z.2.2.1 z.2.2.2.1 z.2.2.2.2 m, z.2.2.2.2) := if_neg (by omega)
        rw [e] at stepE
        have sr := same_upd (H := H2) (o := tup4 (clipLo z.2.1 z.2.2.1 z.2.2.2.1 z.2.2.2.2 m) (partP z.2.1 z.2.2.1 z.2.2.2.1 z.2.2.2.2 (clipLo z.2.1 z.2.2.1 z.2.2.2.1 z.2.2.2.2 m) (clipHi z.2.1 z.2.2.1 z.2.2.2.1 z.2.2.2.2 m - clipLo z.2.1 z.2.2.1 z.2.2.2.1 z.2.2.2.2 m)) (clipHi z.2.1 z.2.2.1 z.2.2.2.1 z.2.2.2.2 m - clipLo z.2.1 z.2.2.1 z.2.2.2.1 z.2.2.2.2 m) z.2.2.2.2) nr
        have er : (upd H2 r (tup4 (clipLo z.2.1 z.2.2.1 z.2.2.2.1 z.2.2.2.2 m) (partP z.2.1 z.2.2.1 z.2.2.2.1 z.2.2.2.2 (clipLo z.2.1 z.2.2.1 z.2.2.2.1 z.2.2.2.2 m) (clipHi z.2.1 z.2.2.1 z.2.2.2.1 z.2.2.2.2 m - clipLo z.2.1 z.2.2.1 z.2.2.2.1 z.2.2.2.2 m)) (clipHi z.2.1 z.2.2.1 z.2.2.2.1 z.2.2.2.2 m - clipLo z.2.1 z.2.2.1 z.2.2.2.1 z.2.2.2.2 m) z.2.2.2.2)) r = some (tup4 (clipLo z.2.1 z.2.2.1 z.2.2.2.1 z.2.2.2.2 m) (partP z.2.1 z.2.2.1 z.2.2.2.1 z.2.2.2.2 (clipLo z.2.1 z.2.2.1 z.2.2.2.1 z.2.2.2.2 m) (clipHi z.2.1 z.2.2.1 z.2.2.2.1 z.2.2.2.2 m - clipLo z.2.1 z.2.2.1 z.2.2.2.1 z.2.2.2.2 m)) (clipHi z.2.1 z.2.2.1 z.2.2.2.1 z.2.2.2.2 m - clipLo z.2.1 z.2.2.1 z.2.2.2.1 z.2.2.2.2 m) z.2.2.2.2) := upd_same
        generalize upd H2 r (tup4 (clipLo z.2.1 z.2.2.1 z.2.2.2.1 z.2.2.2.2 m) (partP z.2.1 z.2.2.1 z.2.2.2.1 z.2.2.2.2 (clipLo z.2.1 z.2.2.1 z.2.2.2.1 z.2.2.2.2 m) (clipHi z.2.1 z.2.2.1 z.2.2.2.1 z.2.2.2.2 m - clipLo z.2.1 z.2.2.1 z.2.2.2.1 z.2.2.2.2 m)) (clipHi z.2.1 z.2.2.1 z.2.2.2.1 z.2.2.2.2 m - clipLo z.2.1 z.2.2.1 z.2.2.2.1 z.2.2.2.2 m) z.2.2.2.2) = H3 at sr er
        have eD3 := sr _ _ eD
        have hno : valV ks (Sum.inl z.1) = none := (s3.get z.1).1 (sget_not fun s hs => by
          obtain ⟨s', hs', e', _⟩ := trS_in hs
          have := hlt s' hs'
          omega)
        have kt : KeepT H3 (upd H3 D (.dK (putK ks (Sum.inl z.1) (.ref r)))) := fun b xs hb => by
          rw [upd_ne (ne_of hb eD3 (fun z => by cases z))]
          exact hb
        refine ⟨.ref r, rfl, rfl, _, rfl, iteT ?_⟩
        refine ⟨.ref r, rfl, .ref D, rfl, .int z.1, rfl, D, _, rfl, DPut.k (k := Sum.inl z.1) eD3 (sz_lt (by have := wf.len; omega)), _, _, _, rfl, fun b o hb => ?_, ?_, upd_same, ?_⟩
        · rw [upd_ne (ne_of_none hb nD)]
          exact sr _ _ (sm _ _ hb)
        · rw [upd_ne (ne_of ep eD (fun z => by cases z))]
          exact sr _ _ ep
        · simp only at stepE
          rw [stepE]
          generalize upd H3 D (.dK (putK ks (Sum.inl z.1) (.ref r))) = H9 at kt
          rw [putK_new _ hno]
          refine Std.snoc ?_ ((s3.keep fun b xs hb => sr _ _ hb).keep kt)
          exact ⟨rfl, r, rfl, kt _ _ er⟩
    · rintro σ H2 ⟨y3, y4, ks, rfl, sm, ep, eD, s3⟩
      rw [List.length_map, List.length_map, List.take_length] at s3
      obtain ⟨⟨dx2, ea2⟩, kvs2, es2, sd2⟩ := fa.same sm
      refine ⟨.ref g, rfl, g, dx2, _, rfl, ea2, rfl, .int m, rfl, .ref D, rfl, ?_⟩
      refine ⟨g, st, D, dx2, n, m, S, trS m S, k, c, kvs2, ks, rfl, ea2, es2, sd2, eD, s3, wf.up, trS_up wf.up, fun H5 e5 k5 => ?_⟩
      exact qq H5 D ⟨⟨dx2, e5⟩, ks, k5 _ _ nDg eD, s3.keep fun b xs hb => k5 _ _ (ne_of hb ea2 (fun z => by cases z)) hb⟩ (fun b o nb hb => k5 _ _ nb (sm _ _ hb)) nD
end

/-! ### a dict displayed by a walk (from rd6_strike, for laws without strike) -/
/-- a dict displayed by a walk -/
theorem dc_it {J : It} {n : Nat} {G : Hp → Prop} {Y : Nat → Hp → V → Hp → Prop} (w : Walk J n G Y) {g : TG} {tt : TT} {tk tv : TE} {vs : List Nat} {σ : L2.St} {H1 : Hp} {D : Addr} {Qd : Hp → Prop} (Pv : Nat → Hp → Prop) (h0 : Pv 0 (upd H1 D (.dK []))) (hG : ∀ i H, i ≤ n → Pv i H → G H)
    (hs : ∀ i x H H', i < n → Pv i H → Y i H x H' → g x (wipe σ vs) H' fun σ2 H2 => wipe σ2 vs = wipe σ vs ∧ tt σ2 H2 fun b H3 =>
      if b = true then tk σ2 H3 fun y H4 => tv σ2 H4 fun z H5 => ∃ kvs k, y = kV k ∧ H5 D = some (.dK kvs) ∧ kvs.length < sizeLine ∧ Pv (i + 1) (upd H5 D (.dK (putK kvs k z))) else Pv (i + 1) H3) (hd : ∀ H, Pv n H → Qd H) :
    ∃ W : Nat → Nat → Hp → Prop, (∃ m, W 0 m (upd H1 D (.dK []))) ∧ ∀ i m H, W i m H →
      (J.stop i H ∧ Qd H) ∨ (J.go i H ∧ ∃ Nx : Hp → Prop, (∀ H', Nx H' → ∃ m', m' < m ∧ W (i + 1) m' H') ∧ ∀ x H', J.yld i H x H' → g x (wipe σ vs) H' fun σ2 H2 => wipe σ2 vs = wipe σ vs ∧ tt σ2 H2 fun b H3 =>
        if b = true then tk σ2 H3 fun y H4 => tv σ2 H4 fun z H5 => ∃ kvs k, y = kV k ∧ H5 D = some (.dK kvs) ∧ kvs.length < sizeLine ∧ Nx (upd H5 D (.dK (putK kvs k z))) else Nx H3) := by
  refine ⟨fun i m H => m = n - i ∧ i ≤ n ∧ Pv i H, ⟨n, by simp, Nat.zero_le _, h0⟩, ?_⟩
  rintro i m H ⟨rfl, hi, p⟩
  have q := hG i H hi p
  by_cases hlt : i < n
  · refine .inr ⟨w.goes i H hlt q, Pv (i + 1), fun H' p' => ⟨n - (i + 1), by omega, rfl, hlt, p'⟩, fun x H' y => hs i x H H' hlt p (w.yields i H x H' hlt q y)⟩
  · have e : i = n := by omega
    subst e
    exact .inl ⟨w.stops H q, hd H p⟩

/-! ### _law_paved: a road made of its matings -/
theorem same_make {C : Addr} {H : Hp} {x dx : Addr} (nx : H x = none) (nd : H dx = none) : Same H (upd (upd H dx (.own x)) x (.ins C dx [])) := fun b o hb => by
  rw [upd_ne (ne_of_none hb nx), upd_ne (ne_of_none hb nd)]
  exact hb
abbrev N_paved : List Str := ["_law_length", "_law_matings", "_law_road_here", "_law_one", "_law_other", "_law_many", "_law_flips"]
abbrev P_paved : List Str := ["_law_length", "_law_matings"]
theorem sc_paved : FnScope N_paved P_paved (defScope s_paved) := ⟨rfl, rfl, rfl, by decide +kernel, rfl, by decide +kernel, by decide +kernel⟩
def pvS : Int → List M4 → StL
  | _, [] => []
  | N, x :: r => (N, x) :: pvS (N + 1) r
theorem pvS_len : ∀ (N : Int) (l : List M4), (pvS N l).length = l.length
  | _, [] => rfl
  | N, _ :: r => congrArg (· + 1) (pvS_len (N + 1) r)
theorem pvS_snoc (x : M4) : ∀ (N : Int) (l : List M4), pvS N (l ++ [x]) = pvS N l ++ [(N + (l.length : Nat), x)]
  | N, [] => by
    show [(N, x)] = [(N + ((0 : Nat) : Int), x)]
    rw [show N + ((0 : Nat) : Int) = N by omega]
  | N, y :: r => by
    show (N, y) :: pvS (N + 1) (r ++ [x]) = (N, y) :: (pvS (N + 1) r ++ [(N + ((r.length + 1 : Nat) : Int), x)])
    rw [pvS_snoc x (N + 1) r, show N + 1 + (r.length : Int) = N + ((r.length + 1 : Nat) : Int) by omega]
theorem pvS_in : ∀ (N : Int) (l : List M4) (s : Int × M4), s ∈ pvS N l → N ≤ s.1 ∧ s.1 < N + (l.length : Nat) ∧ s.2 ∈ l
  | N, y :: r, s, h => by
    simp only [List.length_cons]
    rcases List.mem_cons.mp h with rfl | h
    · exact ⟨Int.le_refl _, by show N < _; omega, List.mem_cons_self⟩
    · obtain ⟨h1, h2, h3⟩ := pvS_in (N + 1) r s h
      exact ⟨by omega, by omega, List.mem_cons_of_mem _ h3⟩
theorem pvS_up : ∀ (N : Int) (l : List M4), ((pvS N l).map (·.1)).Pairwise (· < ·)
  | _, [] => List.Pairwise.nil
  | N, y :: r => by
    refine List.pairwise_cons.mpr ⟨fun z hz => ?_, pvS_up (N + 1) r⟩
    obtain ⟨s, hs, rfl⟩ := List.mem_map.mp hz
    have := pvS_in (N + 1) r s hs
    show N < s.1
    omega
theorem foldl_max_snoc (l : List Int) (a x : Int) : (l ++ [x]).foldl max a = max (l.foldl max a) x := by rw [List.foldl_append]; rfl
theorem pvS_nxt : ∀ (l : List M4), nxt (pvS 1 l) = (l.length : Nat) + 1 := fun l => by
  have h := nxt_1 (pvS 1 l)
  unfold nxt at h ⊢
  rcases List.eq_nil_or_concat l with rfl | ⟨r, x, rfl⟩
  · rfl
  · rw [List.concat_eq_append, pvS_snoc, List.map_append, List.length_append]
    rw [show List.map (fun x => x.1) [((1 : Int) + (r.length : Nat), x)] = [1 + (r.length : Int)] from rfl, foldl_max_snoc]
    have le : ((pvS 1 r).map (·.1)).foldl max 0 ≤ r.length := by
      have key : ∀ (l : List Int) (a b : Int), a ≤ b → (∀ y ∈ l, y ≤ b) → l.foldl max a ≤ b := by
        intro l
        induction l with
        | nil => intro a b h _; exact h
        | cons y t ih => intro a b h hy; exact ih _ _ (Int.max_le.mpr ⟨h, hy y List.mem_cons_self⟩) fun z hz => hy z (List.mem_cons_of_mem _ hz)
      refine key _ _ _ (by omega) fun y hy => ?_
      obtain ⟨s, hs, rfl⟩ := List.mem_map.mp hy
      have := pvS_in 1 r s hs
      omega
    rw [Int.max_eq_right (by omega)]
    show 1 + (r.length : Int) + 1 = ((r.length + 1 : Nat) : Int) + 1
    omega
theorem RoW.pv {n : Int} {ms : List M4} (n0 : 0 ≤ n) (n1 : n ≤ 1000000000000000000) (hm : ∀ x ∈ ms, Mok n x) (hl : ms.length ≤ 24) : RoW n (pvS 1 ms) :=
  ⟨n0, n1, pvS_up _ _, fun s hs => (pvS_in _ _ _ hs).1, by rw [pvS_len]; exact hl, fun s hs => hm _ (pvS_in _ _ _ hs).2.2⟩
def spPaved (C5 : Addr) : Sp := fun vs H Q _ => ∃ (n : Int) (L : Addr) (ts : List Addr) (ms : List M4), vs = [.int n, .ref L] ∧ 0 ≤ n ∧ n ≤ 1000000000000000000 ∧ H L = some (.lst (ts.map V.ref)) ∧ Mts H ts ms ∧ (∀ x ∈ ms, Mok n x) ∧ ms.length ≤ 24 ∧
  ∀ (H' : Hp) (g st : Addr), RoAt C5 H' g st n (pvS 1 ms) .non 0 → Same H H' → H g = none → H st = none → Q (.ref g) H'
section
variable {P : Program} {w : World} {K : PySem.W.Frag} {mg : Str → Option Value} {base : Heap} {C5 : Addr}
theorem ok_paved {f fI fM : Addr} {fd fdI fdM : FuncData} {g : List Value → List Value → List Value} (D : DefAt K mg "_law_paved" s_paved P_paved f fd) (TRo_ : RoT K mg C5) (mkRo_ : Mk K C5 fI) (G_Ro_init : FnOk P w K mg base CX0 4 fI fdI P_Ro_init (spRoInit C5)) (b_Ro_init : Binds K fdI P_Ro_init [])
    (M_Ro_mate : Meth K C5 "mate" fM) (G_Ro_mate : FnOk P w K mg base CX0 4 fM fdM P_Ro_mate (spMate C5)) (kb_Ro_mate : KBn K fdM P_Ro_mate 4 ["turned"] g (fun vs zs => vs ++ zs)) : FnOk P w K mg base CX0 6 f fd P_paved (spPaved C5) := by
  refine D.F.ok sc_paved (fun vs H Q E h => ?_) (fun cdv A outer s H vs Q E hr h => ?_)
  · obtain ⟨n, L, ts, ms, rfl, _⟩ := h
    rfl
  · obtain ⟨n, L, ts, ms, rfl, n0, n1, hL, hM, hok, hl, q⟩ := h
    refine ⟨_, (pss_cons (ps_set (i := 2) sc_paved.nd rfl (.inl rfl) (pe_make mkRo_ G_Ro_init (hr.mono (by omega)) (by rfl) TRo_.gC b_Ro_init .nil pass0 (pa_cons (pv 0) pa_nil)))
      (pss_cons (ps_for PassesOwn.never rfl (pi_list (pv 1)) (pg_tup (by rfl) (pgs_cons (pg_name (i := 3) sc_paved.nd rfl (.inl rfl)) (pgs_cons (pg_name (i := 4) sc_paved.nd rfl (.inl rfl)) (pgs_cons (pg_name (i := 5) sc_paved.nd rfl (.inl rfl)) (pgs_cons (pg_name (i := 6) sc_paved.nd rfl (.inl rfl)) pgs_nil))))) (pss_one (ps_expr (pe_methK (pv 2) TRo_.cl M_Ro_mate G_Ro_mate (hr.mono (by omega)) kb_Ro_mate pass0 (pa_cons (pv 3) (pa_cons (pv 4) (pa_cons (pv 5) pa_nil))) (pk_cons (pv 6) pk_nil)))))
      (pss_one (ps_ret (pv 2))))), ?_⟩
    refine ⟨.int n, rfl, fun g0 dx ng ndx nex => ?_⟩
    have s1 := same_make (C := C5) ng ndx
    have e1 : (upd (upd H dx (.own g0)) g0 (.ins C5 dx [])) g0 = some (.ins C5 dx []) := upd_same
    generalize upd (upd H dx (.own g0)) g0 (.ins C5 dx []) = H1 at s1 e1
    refine ⟨g0, dx, n, rfl, e1, n0, n1, fun H2 st0 eg2 est2 nst0 k2 => ⟨rfl, ?_⟩⟩
    have s2 : Same H H2 := fun b o hb => k2 _ _ (ne_of_none hb ng) (s1 _ _ hb)
    have R0 : RoAt C5 H2 g0 st0 n (pvS 1 []) .non 0 := ⟨⟨dx, eg2⟩, [], est2, .nil⟩
    have sL := s2 _ _ hL
    refine ⟨.ref L, rfl, L, rfl, ⟨_, SqL.of sL⟩, for_list (K := K) (a := L) (xs := ts.map V.ref) (fun i σ G => ∃ (y3 y4 y5 y6 : Option V) (st : Addr), σ = [some (.int n), some (.ref L), some (.ref g0), y3, y4, y5, y6] ∧ RoAt C5 G g0 st n (pvS 1 (ms.take i)) .non 0 ∧ Same H G ∧ H st = none)
      ⟨none, none, none, none, st0, rfl, R0, s2, s1.free nst0⟩ (fun i σ G _ ⟨_, _, _, _, _, _, _, sm, _⟩ => SqL.of (sm _ _ hL)) ?_ ?_⟩
    · rintro i x σ G hx ⟨y3, y4, y5, y6, st, rfl, R, sm, nst⟩
      rw [List.getElem?_map] at hx
      obtain ⟨t, ht, rfl⟩ := Option.map_eq_some_iff.mp hx
      obtain ⟨m, hm, em⟩ := hM.at i t ht
      obtain ⟨dx', eg⟩ := R.at_g
      have hi : i < ms.length := (List.getElem?_eq_some_iff.mp hm).1
      have lt : (ms.take i).length = i := by rw [List.length_take]; omega
      refine ⟨t, _, rfl, SqT.of (sm _ _ em), rfl, .int m.1, _, rfl, .int m.2.1, _, rfl, .int m.2.2.1, _, rfl, .int m.2.2.2, _, rfl, rfl, ?_⟩
      refine ⟨.ref g0, rfl, g0, dx', _, rfl, eg, rfl, .int m.1, rfl, .int m.2.1, rfl, .int m.2.2.1, rfl, .int m.2.2.2, rfl, rfl, rfl, ?_⟩
      refine ⟨g0, st, n, pvS 1 (ms.take i), .non, 0, m, rfl, R, RoW.pv n0 n1 (fun x hx => hok x (List.mem_of_mem_take hx)) (by omega), by rw [pvS_len]; omega, hok m (List.mem_of_getElem? hm), fun G2 st2 R2 k2' n2' => ?_⟩
      refine ⟨_, _, _, _, st2, rfl, ?_, fun b o hb => k2' _ _ (ne_of_none hb ng) (sm _ _ hb), sm.free n2'⟩
      rw [pvS_nxt, lt] at R2
      rw [List.take_add_one, hm, show (some m).toList = [m] from rfl, pvS_snoc, lt, show (1 : Int) + (i : Int) = (i : Int) + 1 by omega]
      exact R2
    · rintro σ G ⟨y3, y4, y5, y6, st, rfl, R, sm, nst⟩
      rw [List.length_map, hM.length, List.take_length] at R
      exact ⟨.ref g0, rfl, q G g0 st R sm ng nst⟩
end

/-! ### a road: swell -/
abbrev N_swelled : List Str := ["mating", "times", "one", "other", "many", "turned"]
abbrev P_swelled : List Str := ["mating", "times"]
theorem sc_swelled : FnScope N_swelled P_swelled (defScope s_swelled) := ⟨rfl, rfl, rfl, by decide +kernel, rfl, by decide +kernel, by decide +kernel⟩
abbrev N_Ro_swell : List Str := ["self", "times", "k"]
abbrev P_Ro_swell : List Str := ["self", "times"]
theorem sc_Ro_swell : FnScope N_Ro_swell P_Ro_swell (defScope s_Ro_swell) := ⟨rfl, rfl, rfl, by decide +kernel, rfl, by decide +kernel, by decide +kernel⟩
def swX (t : Int) (x : M4) : M4 := (t * x.1, t * x.2.1, t * x.2.2.1, x.2.2.2)
def swS (t : Int) (S : StL) : StL := S.map fun s => (s.1, swX t s.2)
theorem swS_keys (t : Int) (S : StL) : (swS t S).map (·.1) = S.map (·.1) := by
  unfold swS
  rw [List.map_map]
  rfl
theorem swX_ok {n t : Int} {x : M4} (h : Mok n x) (t1 : 1 ≤ t) : Mok (n * t) (swX t x) := by
  obtain ⟨hf, h1, h2, h3, h4, h5⟩ := h
  have a := Int.mul_le_mul_of_nonneg_left h4 (show 0 ≤ t by omega)
  have b := Int.mul_le_mul_of_nonneg_left h5 (show 0 ≤ t by omega)
  rw [Int.mul_add] at a b
  have c := Int.mul_pos (show 0 < t by omega) (show 0 < x.2.2.1 by omega)
  rw [Int.mul_comm n t]
  exact ⟨hf, by show 1 ≤ t * x.2.2.1; omega, Int.mul_nonneg (by omega) h2, Int.mul_nonneg (by omega) h3, a, b⟩
theorem RoW.swell {n t : Int} {S : StL} (h : RoW n S) (t1 : 1 ≤ t) (hn : n * t ≤ 1000000000000000000) : RoW (n * t) (swS t S) := by
  refine ⟨Int.mul_nonneg h.n0 (by omega), hn, by rw [swS_keys]; exact h.up, fun s hs => ?_, by unfold swS; rw [List.length_map]; exact h.len, fun s hs => ?_⟩
  · obtain ⟨z, hz, rfl⟩ := List.mem_map.mp hs
    exact h.low z hz
  · obtain ⟨z, hz, rfl⟩ := List.mem_map.mp hs
    exact swX_ok (h.ok z hz) t1
def spSwelled : Sp := fun vs H Q _ => ∃ (t : Addr) (x : M4) (k : Int), vs = [.ref t, .int k] ∧ (-(2 ^ 64) < k ∧ k < 2 ^ 64) ∧ H t = some (t4 x) ∧ ∀ r, H r = none → Q (.ref r) (upd H r (t4 (swX k x)))
def spSwell (C5 : Addr) : Sp := fun vs H Q _ => ∃ (g st : Addr) (n t : Int) (S : StL) (k : V) (c : Int), vs = [.ref g, .int t] ∧ RoAt C5 H g st n S k c ∧ RoW n S ∧ 1 ≤ t ∧ t ≤ 1000000000000000000 ∧ n * t ≤ 1000000000000000000 ∧
  ∀ (H' : Hp) (st' : Addr), RoAt C5 H' g st' (n * t) (swS t S) (if n * t = n ∧ swS t S = S then k else .non) c → Keep g H H' → H st' = none → Q .non H'
section
variable {P : Program} {w : World} {K : PySem.W.Frag} {mg : Str → Option Value} {base : Heap} {C5 : Addr}
theorem ok_swelled {f : Addr} {fd : FuncData} (D : DefAt K mg "swelled" s_swelled P_swelled f fd) : FnOk P w K mg base CX0 1 f fd P_swelled spSwelled := by
  refine D.F.ok sc_swelled (fun vs H Q E h => ?_) (fun cdv A outer s H vs Q E hr h => ?_)
  · obtain ⟨t, x, k, rfl, _⟩ := h
    rfl
  · obtain ⟨t, ⟨o, p, m, f⟩, k, rfl, hk, ht, q⟩ := h
    refine ⟨_, (pss_cons (ps_asg (pv 0) (pg_tup (by rfl) (pgs_cons (pg_name (i := 2) sc_swelled.nd rfl (.inl rfl)) (pgs_cons (pg_name (i := 3) sc_swelled.nd rfl (.inl rfl)) (pgs_cons (pg_name (i := 4) sc_swelled.nd rfl (.inl rfl)) (pgs_cons (pg_name (i := 5) sc_swelled.nd rfl (.inl rfl)) pgs_nil))))))
      (pss_one (ps_ret (pe_tup (pa_cons (pe_op op_mul (pv 1) (pv 2)) (pa_cons (pe_op op_mul (pv 1) (pv 3)) (pa_cons (pe_op op_mul (pv 1) (pv 4)) (pa_cons (pv 5) pa_nil)))))))), ?_⟩
    refine ⟨.ref t, rfl, t, _, rfl, SqT.of ht, rfl, .int o, _, rfl, .int p, _, rfl, .int m, _, rfl, .int f, _, rfl, rfl, ?_⟩
    exact ⟨.int k, rfl, .int o, rfl, k, o, rfl, rfl, .inl hk, .int k, rfl, .int p, rfl, k, p, rfl, rfl, .inl hk, .int k, rfl, .int m, rfl, k, m, rfl, rfl, .inl hk, .int f, rfl, by show 4 ≤ sizeLine; decide, fun r hr' => q r hr'⟩
theorem ok_Swell {f fB fA fS : Addr} {fd fdB fdA fdS : FuncData} {tok : Tok} (F : Fun K "swell" "Road.swell" s_Ro_swell f fd) (TRo_ : RoT K mg C5) (M_Ro_become : Meth K C5 "become" fB) (G_Ro_become : FnOk P w K mg base CX0 1 fB fdB P_Ro_become (spBecome C5)) (b_Ro_become : Binds K fdB P_Ro_become [])
    (D_need_from : DefAt K mg "need_from" s_need_from P_need_from fA fdA) (D_swelled : DefAt K mg "swelled" s_swelled P_swelled fS fdS) (g_FAR : mg "FAR" = some (.int 1000000000000000000 tok)) (B : Bn mg) : FnOk P w K mg base CX0 2 f fd P_Ro_swell (spSwell C5) := by
  have G_need_from : FnOk P w K mg base CX0 1 fA fdA P_need_from spFrom0 := ok_from0 D_need_from B
  have G_swelled : FnOk P w K mg base CX0 1 fS fdS P_swelled spSwelled := ok_swelled D_swelled
  refine F.ok sc_Ro_swell (fun vs H Q E h => ?_) (fun cdv A outer s H vs Q E hr h => ?_)
  · obtain ⟨g, st, n, t, S, k, c, rfl, _⟩ := h
    rfl
  · obtain ⟨g, st, n, t, S, k, c, rfl, fa, wf, t1, t2, nt, qq⟩ := h
    have hu := hu_of hr
    refine ⟨_, (pss_cons (ps_expr (pe_call G_need_from (hr.mono (by omega)) (by rfl) D_need_from.g D_need_from.F.kp D_need_from.b .nil pass0 (pa_cons pe_int (pa_cons (pv 1) pa_nil))))
      (pss_cons (ps_if (pt_cmpR op_gt (pe_op op_mul (pe_fld (pv 0) rfl) (pv 1)) (pe_glob (v := .int _) (by rfl) g_FAR ⟨_, rfl⟩) (nomark _)) (pss_one ps_never) pss_nil)
      (pss_one (ps_expr (pe_meth (pv 0) TRo_.cl M_Ro_become G_Ro_become (hr.mono (by omega)) b_Ro_become .nil pass0 (pa_cons (pe_op op_mul (pe_fld (pv 0) rfl) (pv 1)) (pa_cons (pe_lock (pe_dc (own := [("k", 2)]) (g := gName 2) (by rfl) sc_Ro_swell.nd (pi_keys (pe_fld (pv 0) rfl)) (blkOk_by (own := [("k", 2)]) (N := N_Ro_swell) (sc := defScope s_Ro_swell) (by decide +kernel)) (fun _ _ _ _ _ => (pg_name (i := 2) sc_Ro_swell.nd rfl (.inl rfl))) (fun _ _ _ _ _ => pts_nil) (fun _ _ _ _ _ => (pv 2)) (fun _ _ _ _ _ => (pe_call G_swelled (hr.mono (by omega)) (by rfl) D_swelled.g D_swelled.F.kp D_swelled.b .nil pass0 (pa_cons (pe_dget hu (pe_fldK (K := K) rfl (pv 0) rfl) (pv 2) (fun _ _ => rfl)) (pa_cons (pv 1) pa_nil)))))) pa_nil))))))), ?_⟩
    obtain ⟨⟨dx, ea⟩, kvs, es, sd⟩ := id fa
    have el := sd.length
    have ngs : g ≠ st := fa.ne
    have up := wf.up
    have hlen := wf.len
    have n1 := wf.n1
    have n0 := wf.n0
    have cm : CMul n t := .inl ⟨by omega, by omega⟩
    refine ⟨.int t, rfl, 1, t, rfl, t1, ?_⟩
    refine ⟨.ref g, rfl, g, C5, dx, _, .int n, rfl, ea, TRo_.cl, TRo_.nE, rfl, .int t, rfl, n, t, rfl, rfl, cm, n * t, 1000000000000000000, rfl, rfl, _, rfl, ite2 (fun h => absurd (of_decide_eq_true h) (by omega)) (fun _ => ?_)⟩
    have sl : ∀ {od : Obj} {b : Addr} {o : HO}, H b = some o → b ≠ st → (upd H st (.frz od (.dK kvs))) b = some o := fun h n => by rw [upd_ne n]; exact h
    refine ⟨.ref g, rfl, g, dx, _, rfl, ea, rfl, .ref g, rfl, g, C5, dx, _, .int n, rfl, ea, TRo_.cl, TRo_.nE, rfl, .int t, rfl, n, t, rfl, rfl, cm, st, .dK kvs, es, trivial, fun od => ?_⟩
    refine ⟨.ref g, rfl, g, C5, dx, _, .ref st, rfl, sl ea ngs, TRo_.cl, TRo_.nS, rfl, st, od, rfl, .inl ⟨kvs, upd_same, fun D nD => dc_it walk_keys (fun j H2 => ∃ ks, Same (upd H st (.frz od (.dK kvs))) H2 ∧ H2 D = some (.dK ks) ∧ Std H2 ks (swS t (S.take j)))
      ⟨[], same_upd nD, upd_same, .nil⟩ (fun j H2 _ ⟨_, sm, _⟩ => sm _ _ upd_same) ?_ ?_⟩⟩
    · rintro j y H2 H3 hj ⟨ks, sm, eD, s2⟩ ⟨rfl, k0, v2, hk, rfl⟩
      obtain ⟨z, hz, e1, t', e2, e3⟩ := LiI.paired_get sd hk
      have e1' : k0 = Sum.inl z.1 := e1
      subst e1'
      obtain ⟨tt, ht1, ht2⟩ := (sd.get z.1).2 z.2 (sget_mem up (List.mem_of_getElem? hz))
      have ntt : tt ≠ st := ne_of ht2 es (fun z => by cases z)
      have hlt : ∀ s ∈ S.take j, s.1 < z.1 := fun s hs => by
        have u2 : ((S.take (j + 1)).map (·.1)).Pairwise (· < ·) := up.sublist ((List.take_sublist _ _).map _)
        rw [List.take_add_one, hz, List.map_append, List.pairwise_append] at u2
        exact u2.2.2 _ (List.mem_map.mpr ⟨s, hs, rfl⟩) _ (List.mem_singleton.mpr rfl)
      have l2 := s2.length
      have l3 : (swS t (S.take j)).length = (S.take j).length := List.length_map _
      rw [l3, List.length_take] at l2
      refine ⟨rfl, ?_⟩
      refine ⟨.int z.1, rfl, .ref g, rfl, g, C5, dx, _, .ref st, rfl, sm _ _ (sl ea ngs), TRo_.cl, TRo_.nS, rfl, .int z.1, rfl, st, .ref tt, rfl, .inl ⟨kvs, Sum.inl z.1, .inr ⟨od, sm _ _ upd_same⟩, rfl, ht1.symm⟩, .int t, rfl, ?_⟩
      refine ⟨tt, z.2, t, rfl, ⟨by omega, by omega⟩, sm _ _ (sl ht2 ntt), fun r nr => ?_⟩
      have sr := same_upd (H := H3) (o := t4 (swX t z.2)) nr
      have er : (upd H3 r (t4 (swX t z.2))) r = some (t4 (swX t z.2)) := upd_same
      generalize upd H3 r (t4 (swX t z.2)) = H4 at sr er
      have eD4 := sr _ _ eD
      have hno : valV ks (Sum.inl z.1) = none := (s2.get z.1).1 (sget_not fun s hs => by
        obtain ⟨s', hs', rfl⟩ := List.mem_map.mp hs
        have := hlt s' hs'
        show s'.1 ≠ z.1
        omega)
      refine ⟨ks, Sum.inl z.1, rfl, eD4, sz_lt (by omega), putK ks (Sum.inl z.1) (.ref r), fun b o hb => ?_, upd_same, ?_⟩
      · rw [upd_ne (ne_of_none hb nD)]
        exact sr _ _ (sm _ _ hb)
      · have kt : KeepT H4 (upd H4 D (.dK (putK ks (Sum.inl z.1) (.ref r)))) := fun b xs hb => by
          rw [upd_ne (ne_of hb eD4 (fun z => by cases z))]
          exact hb
        show Std _ (putK ks (Sum.inl z.1) (.ref r)) _
        generalize upd H4 D (.dK (putK ks (Sum.inl z.1) (.ref r))) = H9 at kt
        rw [putK_new _ hno]
        unfold swS
        rw [List.take_add_one, hz, List.map_append]
        exact Std.snoc (s := (z.1, swX t z.2)) ⟨rfl, r, rfl, kt _ _ er⟩ ((s2.keep fun b xs hb => sr _ _ hb).keep kt)
    · rintro H2 ⟨ks, sm, eD, s2⟩
      rw [el, List.take_length] at s2
      have nDs : D ≠ st := fun z => by
        rw [z, upd_same] at nD
        cases nD
      have nD0 : H D = none := by
        rw [upd_ne nDs] at nD
        exact nD
      have fin : Same H (upd H2 st (.dK kvs)) := fun b o hb => by
        by_cases z : b = st
        · rw [z] at hb ⊢
          rw [es] at hb
          rw [upd_same]
          exact hb
        · rw [upd_ne z]
          exact sm _ _ (sl hb z)
      have kt : KeepT H2 (upd H2 st (.dK kvs)) := fun b xs hb => by
        rw [upd_ne (ne_of hb (sm _ _ upd_same) (fun z => by cases z))]
        exact hb
      have eD2 : (upd H2 st (.dK kvs)) D = some (.dK ks) := by
        rw [upd_ne nDs]
        exact eD
      refine ⟨sm _ _ upd_same, ?_⟩
      refine ⟨g, st, D, dx, n, n * t, S, swS t S, k, c, kvs, ks, rfl, fin _ _ ea, upd_same, sd.keep fun b xs hb => fin _ _ hb, eD2, s2.keep kt, up, by rw [swS_keys]; exact up, fun H5 e5 k5 => ?_⟩
      have nDg : D ≠ g := (ne_of_none ea nD0).symm
      exact qq H5 D ⟨⟨dx, e5⟩, _, k5 _ _ nDg eD2, (s2.keep kt).keep fun b xs hb => k5 _ _ (ne_of hb (fin _ _ ea) (fun z => by cases z)) hb⟩ (fun b o nb hb => k5 _ _ nb (fin _ _ hb)) nD0
end

/-! ### Road.grow (behind rd4_road) -/
abbrev N_Ro_grow : List Str := ["self", "more"]
abbrev P_Ro_grow : List Str := ["self", "more"]
theorem sc_Ro_grow : FnScope N_Ro_grow P_Ro_grow (defScope s_Ro_grow) := ⟨rfl, rfl, rfl, by decide +kernel, rfl, by decide +kernel, by decide +kernel⟩
def spGrow (C5 : Addr) : Sp := fun vs H Q _ => ∃ (g st : Addr) (n m : Int) (S : StL) (k : V) (c : Int), vs = [.ref g, .int m] ∧ RoAt C5 H g st n S k c ∧ (S.map (·.1)).Pairwise (· < ·) ∧ 0 ≤ n ∧ 0 ≤ m ∧ n + m ≤ 1000000000000000000 ∧
  ∀ (H' : Hp), RoAt C5 H' g st (n + m) S (if m = 0 then k else .non) c → Keep g H H' → Q .non H'
section
variable {P : Program} {w : World} {K : PySem.W.Frag} {mg : Str → Option Value} {base : Heap} {C5 : Addr}
theorem ok_Grow {f fB fW fA : Addr} {fd fdB fdW fdA : FuncData} {tok : Tok} (F : Fun K "grow" "Road.grow" s_Ro_grow f fd) (TRo_ : RoT K mg C5) (M_Ro_become : Meth K C5 "become" fB) (G_Ro_become : FnOk P w K mg base CX0 1 fB fdB P_Ro_become (spBecome C5)) (b_Ro_become : Binds K fdB P_Ro_become [])
    (D_need_within : DefAt K mg "need_within" s_need_within P_need_within fW fdW) (D_need_from : DefAt K mg "need_from" s_need_from P_need_from fA fdA) (g_FAR : mg "FAR" = some (.int 1000000000000000000 tok)) (B : Bn mg) : FnOk P w K mg base CX0 3 f fd P_Ro_grow (spGrow C5) := by
  have G_need_within : FnOk P w K mg base CX0 2 fW fdW P_need_within spWithin0 := ok_within0 D_need_within D_need_from B
  refine F.ok sc_Ro_grow (fun vs H Q E h => ?_) (fun cdv A outer s H vs Q E hr h => ?_)
  · obtain ⟨g, st, n, m, S, k, c, rfl, _⟩ := h
    rfl
  · obtain ⟨g, st, n, m, S, k, c, rfl, fa, up, n0, m0, m1, qq⟩ := h
    refine ⟨_, (pss_cons (ps_expr (pe_call G_need_within (hr.mono (by omega)) (by rfl) D_need_within.g D_need_within.F.kp D_need_within.b .nil pass0 (pa_cons pe_int (pa_cons (pe_op op_sub (pe_glob (v := .int _) (by rfl) g_FAR ⟨_, rfl⟩) (pe_fld (pv 0) rfl)) (pa_cons (pv 1) pa_nil)))))
      (pss_one (ps_expr (pe_meth (pv 0) TRo_.cl M_Ro_become G_Ro_become (hr.mono (by omega)) b_Ro_become .nil pass0 (pa_cons (pe_op op_add (pe_fld (pv 0) rfl) (pv 1)) (pa_cons (pe_fld (pv 0) rfl) pa_nil)))))), ?_⟩
    obtain ⟨⟨dx, ea⟩, kvs, es, sd⟩ := id fa
    refine ⟨.ref g, rfl, g, C5, dx, _, .int n, rfl, ea, TRo_.cl, TRo_.nE, rfl, 1000000000000000000, n, rfl, rfl, .int m, rfl, 0, 1000000000000000000 - n, m, rfl, m0, by omega, ?_⟩
    refine ⟨.ref g, rfl, g, dx, _, rfl, ea, rfl, .ref g, rfl, g, C5, dx, _, .int n, rfl, ea, TRo_.cl, TRo_.nE, rfl, .int m, rfl, n, m, rfl, rfl, .ref g, rfl, g, C5, dx, _, .ref st, rfl, ea, TRo_.cl, TRo_.nS, rfl, ?_⟩
    refine ⟨g, st, st, dx, n, n + m, S, S, k, c, kvs, kvs, rfl, ea, es, sd, es, sd, up, up, fun H' e' kp => qq H' ⟨⟨dx, ?_⟩, kvs, kp _ _ (ne_of es ea (fun z => by cases z)) es, sd.keep fun b xs hb => kp _ _ (ne_of hb ea (fun z => by cases z)) hb⟩ kp⟩
    by_cases z : m = 0
    · rw [if_pos z]
      rw [if_pos ⟨by omega, rfl⟩] at e'
      exact e'
    · rw [if_neg z]
      rw [if_neg (fun q => z (by omega))] at e'
      exact e'
end

/-! ### try, the first of several named clauses takes the error -/
section
open PySem.Spec PyProof.Rows
def wFirst (K : PySem.W.Frag) (c : Value) (i : Nat) (ts : Addr → Value → Option Addr → TS) (D : Ends) : WX := fun k dd τ G =>
  PySem.W.exmOne K k c = some true ∧ ∀ z, G z = none → ts z k dd ⟨fun τ' G' => D.nx (τ'.set i none) G', D.rt, fun τ' G' => D.bk (τ'.set i none) G', fun τ' G' => D.ct (τ'.set i none) G'⟩ (τ.set i (some (.ref z))) G
variable {X : Cx}
theorem ps_try_first {x n : Str} {c : Value} {i : Nat} {bd su : List Stmt} {s0 : Stmt} {np q1 q2 : Pos} {more : List ExceptHandler} {tb : WX → TS} {ts : Addr → Value → Option Addr → TS}
    (stk : X.stack = X.env :: X.outer) (frm : X.env.frame = some X.env.locals) (nod : X.N.Nodup) (slot : X.N[i]? = some n) (loc : X.env.kindOf n = some .local) (nam : Names X x c)
    (run : ∀ (W : WX) (pn : List (Addr × Obj)) (xe : Value → Shared → Prop), L2.Takes (X.tr pn xe) W → PassesOwn (model X.prog X.w) X.A X.env xe → PSs (X.tr pn xe) bd (tb W))
    (sui : ∀ (z : Addr) (oz : Obj) (k : Value) (dd : Option Addr) (pn : List (Addr × Obj)), Zc k dd oz → (∃ vs, oz.data = .fields vs) → PSs (X.suite z ((z, oz) :: pn)) (s0 :: su) (ts z k dd)) :
    PS X (.Try bd (.ExceptHandler (some (.Name x np)) (some n) (s0 :: su) q2 :: more) [] [] q1) (fun D τ G => tb (wFirst X.K c i ts D) D τ G) := by
  refine ⟨fun pins st τ G D I want => ?_⟩
  have okX := I.ok
  have frames : X.A.frames = some (X.env :: X.outer) := (okX.frames).trans (congrArg some stk)
  refine wpAny_Try_except (wpAny_mono ((run (wFirst X.K c i ts D) (X.pn ++ pins) (fun er s1 => wpAny (model X.prog X.w) X.A (noteFrame er X.env) (fun _ s2 => wpAny (model X.prog X.w) X.A (setFlight er none)
    (fun _ s3 => wpAny (model X.prog X.w) X.A (handleBy er X.env (.ExceptHandler (some (.Name x np)) (some n) (s0 :: su) q2 :: more)) (SP X pins D) X.xe s3) X.xe s2) X.xe s1) (fun er s' flown => ?_) PassesOwn.looking).run [] st τ G D (I.toTry _) want) (fun fl s1 done => ?_) (fun _ _ z => z))
  · obtain ⟨z, Bq, sI, pins', τ', G', k, dd, rfl, Jt, nb, up, sky, nz, osq, bare, hit, go⟩ := flown
    have J : Inv X pins τ' G' sI := Jt.ofTry okX
    have sky2 : Sky Bq (X.env :: X.outer) z (Zc k dd) X.env.locals s'.heap := stk ▸ sky
    show wpAny (model X.prog X.w) X.A (noteFrame (.ref z) X.env) _ _ _
    refine Sky.land Zc.steady frames frm sky2 fun g3 fly3 up3 => ?_
    have J3 : Inv X pins τ' G' { s' with heap := g3 } := J.landed nb fly3.1 (up.trans up3) osq bare
    obtain ⟨o3, v3, get3, zc3, dat3⟩ := fly3.there
    have offFr : z ∉ frs (X.env :: X.outer) := fun mem => by
      obtain ⟨_, o', got, nof⟩ := fly3.2.2.1.mem mem
      rw [get3] at got
      cases got
      exact nof _ dat3
    have offL : z ≠ X.env.locals := fun e => offFr (List.mem_filterMap.mpr ⟨X.env, List.mem_cons_self, frm.trans (congrArg some e.symm)⟩)
    have offF : z ∉ X.fs := fun mem => by
      obtain ⟨ev, hev, qe⟩ := List.mem_filterMap.mp mem
      exact offFr (List.mem_filterMap.mpr ⟨ev, List.mem_cons_of_mem _ hev, qe⟩)
    have S3 := J3.suite get3 dat3 nz offL offF
    have ty : PySem.W.Looks (model X.prog X.w) g3 (typeOf (.ref z)) k := fun A' Q' E' sx kx qx => wpAny_typeOf_ref (kx _ _ get3) (zc3.1.symm ▸ qx)
    have mat := PySem.W.exm_one (M := model X.prog X.w) J3.kIn ty hit
    have named : ∀ {Q' : Value → Shared → Prop} {E' : Value → Shared → Prop}, Q' c { s' with heap := g3 } → wpAny (model X.prog X.w) (X.A.mark (some (.ref z))) (eval (.Name x np) X.env) Q' E' { s' with heap := g3 } := fun qc => by
      obtain ⟨g0, dbg, m0 | ⟨m0, v0, n0⟩⟩ := nam
      · exact ld_glob (X := X.suite z ((z, o3) :: (X.pn ++ pins))) S3 g0 m0 qc dbg
      · exact ld_blt (X := X.suite z ((z, o3) :: (X.pn ++ pins))) S3 g0 m0 v0 qc n0 dbg
    refine wpAny_handleBy_cons (codeAny_handlers_test (named (mat.here ?_))) (fun qq => by cases qq)
    refine codeAny_handlers_suite_as (HandSPX.lands_againZ fly3 fun g4 fly4 up4 => ?_)
    have J4 : Inv X pins τ' G' { s' with heap := g4 } := J.landed nb fly4.1 ((up.trans up3).trans up4) osq bare
    obtain ⟨o4, v4, get4, zc4, dat4⟩ := fly4.there
    have S4 := J4.suite get4 dat4 nz offL offF
    refine store_ok (X := X.suite z ((z, o4) :: (X.pn ++ pins))) (v := .ref z) S4 nod slot (.inl loc) rfl (fun s5 S5 => ?_) (.inr loc)
    refine wpAny_mono ((sui z o4 k dd (X.pn ++ pins) zc4 ⟨_, dat4⟩).run [] s5 _ G' _ S5 (go z nz)) (fun fl s6 done => ?_) (fun _ _ bad => bad.elim)
    have gone : ∀ {τ6 : L2.St} {G6 : Hp} {R : Shared → Prop}, Inv (X.suite z ((z, o4) :: (X.pn ++ pins))) [] τ6 G6 s6 → (∀ s7, Inv X pins (τ6.set i none) G6 s7 → R s7) →
        wpAny (model X.prog X.w) X.A (do bindName X.env n .none; unbindBehindTheSuite X.env n q2) (fun _ s7 => R s7) X.xe s6 := fun S6 hq => gone_ok (S6.unsuite okX) nod slot loc hq
    cases fl with
    | next =>
      obtain ⟨τ6, G6, S6, q6⟩ := done
      exact gone S6 fun s7 J7 => ⟨_, _, J7, q6⟩
    | brk =>
      obtain ⟨τ6, G6, S6, q6⟩ := done
      exact gone S6 fun s7 J7 => ⟨_, _, J7, q6⟩
    | cont =>
      obtain ⟨τ6, G6, S6, q6⟩ := done
      exact gone S6 fun s7 J7 => ⟨_, _, J7, q6⟩
    | ret u =>
      obtain ⟨v6, τ6, G6, S6, r6, q6⟩ := done
      exact gone S6 fun s7 J7 => ⟨_, _, _, J7, r6, q6⟩
  · cases fl with
    | next =>
      obtain ⟨τ1, G1, J1, q⟩ := done
      exact wpAny_execs_nil ⟨τ1, G1, J1.ofTry okX, q⟩
    | brk =>
      obtain ⟨τ1, G1, J1, q⟩ := done
      exact ⟨τ1, G1, J1.ofTry okX, q⟩
    | cont =>
      obtain ⟨τ1, G1, J1, q⟩ := done
      exact ⟨τ1, G1, J1.ofTry okX, q⟩
    | ret u =>
      obtain ⟨v1, τ1, G1, J1, r, q⟩ := done
      exact ⟨v1, τ1, G1, J1.ofTry okX, r, q⟩
end

/-! ### an error that is held, looked at by a def -/
section
open PySem.Spec PyProof.Rows PySem.W PySem.Calls
variable {prog : Program} {w : World} {A : Around} {E : Value → Shared → Prop} {st : Shared} {K : Frag} {z C : Addr} {oz : Obj} {oo : Option Obj}
theorem own_class {Q : Option Value → Shared → Prop} (T : ExcC K C) (KI : K.In st.heap) (I : InstAt st.heap z oz C oo) (want : Q (some (.ref C)) { st with toks := st.toks + 1 }) : wpAny (model prog w) A (getAttr? (.ref z) "__class__") Q E st := by
  obtain ⟨cdx, hcdx, _⟩ := any_some T.hd
  have found : findObj K C oo "__class__" = some (.bind (.builtin "getset_descriptor.__get__") (.builtin "object.__class__")) := by
    unfold findObj
    rw [hcdx, Option.bind_some, T.ha, Option.bind_some]
    simp [T.hn, T.ht]
  obtain ⟨hq, gq, dq, tq, oq⟩ := st
  have k0 := I.type (M := model prog w)
  have k1 := looks_findIn (M := model prog w) KI T.hg
  have k2 := looks_findIn (M := model prog w) KI T.hk
  have k3 := looks_find (M := model prog w) KI I found
  have kb : Looks (model prog w) hq (isInstance (.ref z) (.type "BaseException")) true := k0.andThen (looks_subIn KI T.hs)
  have not2 : (Value.builtin "BaseException.__getattribute__" == Value.builtin "object.__getattribute__") = false := by decide +kernel
  have not1 : (onTheHeap (Value.ref C) && Value.builtin "BaseException.__getattribute__" == Value.builtin "object.__getattribute__") = false := by rw [not2] <;> rfl
  unfold getAttr? getAttrBy? getAttrBy
  refine wpAny_bind (wpAny_mkText (wpAny_bind (wpAny_attempt (wpAny_holding (wpAny_bind (k0.at (wpAny_bind (k1.at ?_))))))))
  show wpAny _ _ (if (onTheHeap (Value.ref C) && Value.builtin "BaseException.__getattribute__" == Value.builtin "object.__getattribute__") = true then _ else _) _ _ _
  rw [not1, if_neg Bool.false_ne_true]
  unfold getAttrByItsOwn hookBefore
  refine wpAny_bind ?_
  rw [if_pos (show onTheHeap (Value.ref C) = true from rfl)]
  refine k2.at (wpAny_bind (wpAny_attempt (wpAny_holding ?_)))
  unfold callGetattribute
  rw [show (false && onTheHeap (Value.builtin "BaseException.__getattribute__")) = false from rfl, if_neg Bool.false_ne_true]
  unfold boundAndCalled
  rw [PySem.F.excAttr_ValueError.ga.bind (.ref z)]
  refine wpAny_bind (wpAny_pure ?_)
  show wpAny _ _ (call (.builtin "BaseException.__getattribute__") [.ref z, .str "__class__" tq]) _ _ _
  refine wpAny_call (codeAny_call_builtin PySem.F.excAttr_ValueError.ga.plain PySem.F.entry_bexc_ga ?_)
  refine @check_slot (model prog w) _ _ ⟨hq, gq, dq, tq + 1, oq⟩ "BaseException.__getattribute__" "BaseException" "__getattribute__" (.ref z) [.str "__class__" tq] [] _ (by decide +kernel) (by decide +kernel) kb (PySem.F.args_bexc_ga (.ref z) (.str "__class__" tq)) ?_
  unfold Builtin.«object.__getattribute__»
  refine wpAny_bind (wpAny_of_eq (a := ((Value.ref z : Value), [Value.str "__class__" tq])) (by first | rfl | (simp only [slotArgs]; rfl)) ?_)
  refine wpAny_bind (wpAny_pure (wpAny_bind (k0.at (wpAny_bind (k3.at ?_)))))
  show wpAny _ _ (holding [Value.builtin "object.__class__"] (call (.builtin "getset_descriptor.__get__") [.builtin "object.__class__", .ref z, .ref C]) >>= ret) _ _ _
  refine wpAny_bind (wpAny_holding (wpAny_call (class_get (s := ⟨hq, gq, dq, tq + 1, oq⟩) (ox := oz) (od := oo) KI I T.hm (wpAny_pure ?_))))
  show wpAny _ _ (handedOut (.ref C)) _ _ _
  rw [handedOut_of (v := .ref C) rfl]
  first
    | exact wpAny_pure (wpAny_pure want)
    | exact wpAny_pure want
    | exact wpAny_pure (wpAny_bind (wpAny_pure (wpAny_pure want)))
theorem own_kit (T : ExcC K C) : KitX K (.ref z) (.ref C) (fun h => InstAt h z oz C oo) where
  ty := fun _ _ _ I => I.type
  it := fun _ _ KI _ => by
    obtain ⟨cdx, hcdx, _⟩ := any_some T.hd
    unfold clsIn at hcdx
    split at hcdx
    · rename_i c1 d1 cd1 sl1 got
      intro A' Q' E' s' kp qq
      unfold isType loadHead
      exact wpAny_bind (wpAny_loadPart (kp _ _ (KI _ _ got)) (wpAny_pure qq))
    · cases hcdx
  ne := fun h tp dd its n sl KI htp => by
    obtain ⟨cdx, hcdx, _⟩ := any_some T.hd
    refine Bool.eq_false_iff.mpr fun same => ?_
    have e : C = tp := Value.ref.inj (beq_iff_eq.mp same)
    subst e
    unfold clsIn at hcdx
    split at hcdx
    · rename_i c1 d1 cd1 sl1 got
      have two := (KI _ _ got).symm.trans htp
      cases two
    · cases hcdx
  ca := fun KI I k => own_class T KI I k
end
/-- the error at p.1 is one of the class at C, its dict stands at dd with the fields fs -/
structure Held (p : Addr × Obj) (C dd : Addr) : Prop where
  z : Zc (.ref C) (some dd) p.2
  f : ∃ vs, p.2.data = .fields vs
section
open PySem.Spec PyProof.Rows
variable {X : Cx} {p : Addr × Obj} {C dd : Addr}
theorem Held.inst {pins : List (Addr × Obj)} {σ : L2.St} {H : Hp} {s : Shared} {fs : List (Str × V)} (h : Held p C dd) (hp : p ∈ X.pn) (I : Inv X pins σ H s) (hd : H dd = some (.xd fs)) :
    ∃ (od : Obj) (mA : Str → Option Value), PySem.W.InstAt s.heap p.1 p.2 C (some od) ∧ (∀ n, PySem.W.lookIn n od = some (mA n)) ∧ ∀ f, RelO (fs.lookup f) (mA f) := by
  obtain ⟨got, _⟩ := I.pin p (List.mem_append_left _ hp)
  obtain ⟨vs, dat⟩ := h.f
  obtain ⟨mA, hns, rel⟩ := (show ObjOk X.prog X.w H s.heap dd (.xd fs) from I.hok dd _ hd)
  obtain ⟨od, ho, hl⟩ := lookIn_ns hns
  exact ⟨od, mA, ⟨got, h.z.1, by unfold PySem.W.notCls; rw [dat] <;> rfl, by rw [h.z.2]; exact ho⟩, hl, rel⟩
/-- e.f, e the held error -/
def tHeldF (p : Addr × Obj) (dd : Addr) (f : Str) (te : TE) : TE := fun σ H Q => te σ H fun x H1 => x = .ref p.1 ∧ ∃ (fs : List (Str × V)) (v : V), H1 dd = some (.xd fs) ∧ fs.lookup f = some v ∧ Q v H1
theorem pe_heldf {e : Expr} {te : TE} {pos : Pos} {n : Str} (h : Held p C dd) (hp : p ∈ X.pn) (T : XfC X.K C) (hno : PySem.W.findIn X.K (.ref C) n = some none) (he : PE X e te) (hb : attributeBase e n X.env (eval e X.env) = eval e X.env := by rfl) :
    PE X (.Attribute e n pos) (tHeldF p dd n te) := by
  refine ⟨fun pins s σ H Q I q => ?_⟩
  refine attr_of hb (thn (he.run pins s σ H _ I q) fun u s1 got => ?_)
  obtain ⟨x, H1, I1, rx, rfl, fs, v, hd, l, q1⟩ := got
  obtain rfl : u = Value.ref p.1 := rx
  obtain ⟨od, mA, J, hl, rel⟩ := h.inst hp I1 hd
  obtain ⟨y, hy, ry⟩ := RelO.some_of (v := v) (o := mA n) (by rw [← l]; exact rel n)
  exact HandSPX.exc_get I1.kIn J T.ga T.gg T.exC (PySem.W.findObj_own T.hdC hno rfl (by rw [hl, hy])) (handed_of ry) ⟨v, H1, I1.tok _, ry, q1⟩
/-- isinstance(e, (c, ..)) and isinstance(e, c), e the held error -/
def rHeldT (K : PySem.W.Frag) (p : Addr × Obj) (C dd : Addr) : List V → Hp → VK → Prop := fun xs H Q => ∃ (tp : Addr) (cs : List V) (us : List Value) (b : Bool) (fs : List (Str × V)), xs = [.ref p.1, .ref tp] ∧ H tp = some (.tup cs) ∧ Paired ClsV cs us ∧ PySem.W.kitAny K (.ref C) us = some b ∧ H dd = some (.xd fs) ∧ Q (.bl b) H
theorem call_heldT (h : Held p C dd) (hp : p ∈ X.pn) (T : ExcC X.K C) : CallR X (.builtin "isinstance") (rHeldT X.K p C dd) := by
  intro pins s σ H xs us Q I r q
  obtain ⟨tp, cs, ws, b, fs, rfl, hT, pr, ka, hd, q1⟩ := q
  obtain ⟨u1, u2, rfl, r1, r2⟩ := vals2 r
  cases (show u1 = Value.ref p.1 from r1)
  cases (show u2 = Value.ref tp from r2)
  obtain ⟨od, mA, J, _, _⟩ := h.inst hp I hd
  obtain ⟨_, its, rv, o, h1, h2, n, h3⟩ := (show ObjOk X.prog X.w H s.heap tp (.tup cs) from I.hok tp _ hT)
  have e3 := ClsV.all pr rv
  subst e3
  obtain ⟨oc, od', dt, sl⟩ := o
  simp only at h2 h3
  subst h2 h3
  exact PySem.W.kia_tup (own_kit (oz := p.2) (oo := some od) T) I.kIn J h1 ka (fun e => nomatch e) fun tk => ⟨.bl b, H, I.tok tk, rfl, q1⟩
end
/-! ### a def called on a held error -/
structure FnP (P : Program) (w : World) (K : PySem.W.Frag) (mg : Str → Option Value) (base : Heap) (p : Addr × Obj) (k : Nat) (f : Addr) (fd : FuncData) (ps : List Str) (sp : Sp) : Prop where
  len : ∀ vs H Q E, sp vs H Q E → vs.length = ps.length
  go : ∀ (A : Around) (outer : List Env) (s : Shared) (H : Hp) (args : Args) (us : List Value) (vs : List V) (Q : VK) (E : XK), L2H.RoomH k A → L2H.PinOk outer H s p → Env0 P w K mg base A outer s H → BindsTo s fd args (ps.zip us) → Vals vs us → sp vs H Q E →
    codeAny (model P w) A (.call (.ref f) args) (CR CX0 outer P w H s Q E) s
section
open PySem.Spec PyProof.Rows
variable {P : Program} {w : World} {K : PySem.W.Frag} {mg : Str → Option Value} {base : Heap}
theorem Fun.okP {x qual : Str} {st : Stmt} {f : Addr} {fd : FuncData} {N ps : List Str} {k : Nat} {sp : Sp} {p : Addr × Obj} (F : Fun K x qual st f fd) (S : FnScope N ps (defScope st)) (len : ∀ vs H Q E, sp vs H Q E → vs.length = ps.length)
    (hbody : ∀ (cdv : Value) (A : Around) (outer : List Env) (s : Shared) (H : Hp) (vs : List V) (Q : VK) (E : XK), L2H.RoomH k (A.deeper (envOfC qual (defScope st) s.heap.objs.size f cdv)) → sp vs H Q E →
      ∃ t, PSs (L2H.cxH CX0 P w K mg base N qual (defScope st) f cdv A outer s H E p) (defBody st) t ∧ t { nx := fun _ H' => Q .non H', rt := Q } (L2.start N vs) H) : FnP P w K mg base p (k + 1) f fd ps sp := by
  obtain ⟨oc, od, kV, doc, pm, an, cdv, ct, osl, rfl, lk, hcd⟩ := F.ex
  refine ⟨len, fun A outer s H args us vs Q E hr hpin e0 hb r hsp => ?_⟩
  have hlen := len _ _ _ _ hsp
  have keepB : ∀ b o, base.get? b = some o → s.heap.get? b = some o := fun b o e => (e0.bs b o e).1
  have KI : K.In s.heap := e0.mod.kin.keeps keepB
  have noLim : s.heap.NoLimit := e0.mod.nolimit.keeps keepB
  have kinds : ∀ y ∈ ps.zip us, (defScope st).names.lookup y.1 = some .local ∨ ((defScope st).names.lookup y.1 = some .cell ∧ ((cellsFrom (s.heap.objs.size + 1) (defScope st).names []).lookup y.1).isSome = true) := fun y hy =>
    (S.par y.1 (List.of_mem_zip (show (y.1, y.2) ∈ _ from hy)).1).imp id fun q => ⟨q, PySem.W.cellsFrom_some _ _ _ (.inl q)⟩
  refine codeAny_call_function hr.depth (KI _ _ lk) rfl S.co S.gen rfl (PySem.W.codeRec_of KI hcd) (hb _ _ _ _ (wpAny_newFunctionEnv_cells S.kind kinds fun env he s1 x1 => ?_))
  subst he
  refine ⟨noLim.keeps x1.toInCall.keep, codeAny_func ?_⟩
  obtain ⟨t, ht, hq⟩ := hbody cdv A outer s H vs Q E (hr.deeper _) hsp
  have I := L2H.inv_startH (CX := CX0) (P := P) (w := w) (K := K) (mg := mg) (base := base) (N := N) (qual := qual) (f := f) (cd := cdv) (E := E) S hpin e0 hlen r x1
  refine wpAny_mono (ht.run [] s1 _ H _ I hq) (fun fl s2 done => ?_) fun _ _ bad => bad
  cases fl with
  | ret u =>
    obtain ⟨v, τ, G, J, rv, q⟩ := done
    exact ⟨v, G, J.os, J.bare, J.base, J.hok, rv, q⟩
  | next =>
    obtain ⟨τ, G, J, q⟩ := done
    exact ⟨.non, G, J.os, J.bare, J.base, J.hok, rfl, q⟩
  | brk =>
    obtain ⟨_, _, _, q⟩ := done
    exact q.elim
  | cont =>
    obtain ⟨_, _, _, q⟩ := done
    exact q.elim
theorem pe_callP {X : Cx} {k : Nat} {f : Addr} {fd : FuncData} {ps : List Str} {sp : Sp} {p : Addr × Obj} {x : Str} {q pos : Pos} {e : Expr} {es : List Expr} {t : TA} (F : FnP X.prog X.w X.K X.mg X.base p k f fd ps sp) (hr : L2H.RoomH k X.A) (hp : p ∈ X.pn)
    (hg : Gl X x) (hm : X.mg x = some (.ref f)) (hk : PySem.W.keepIn X.K (.ref f) = true) (hb : Binds X.K fd ps []) (ha : PA X (e :: es) t)
    (hdb : (x == ("__debug__" : Str)) = false := by decide) (he : starEach (e :: es) X.env = (false, eval e X.env) :: starEach es X.env := by rfl) (hpl : (backTo pos (starEach es X.env)).any (·.1) = false := by rfl) :
    PE X (.Call (.Name x q) (e :: es) [] pos) (tCall sp [] E0 t) := by
  refine ⟨fun pins s σ H Q I h => ?_⟩
  refine wpAny_Call_Name_kw (ld_glob I hg hm ?_ hdb)
  refine PySem.W.callWith_K (h₀ := X.base) I.ok.mod.kin hk (thn (ha.run pos pins s σ H _ I h) fun us s1 got => ?_) he hpl
  obtain ⟨vs, H1, I1, r, want⟩ := got
  rw [List.append_nil] at want
  refine ⟨I1.kIn, ?_⟩
  have hl : us.length = ps.length := (r.length).symm.trans (F.len _ _ _ _ want)
  have bs := hb s1 us I1.kIn (by rw [List.append_nil]; exact hl)
  rw [List.append_nil] at bs
  obtain ⟨p1, p2, p3, p4, p5⟩ := I1.pin p (List.mem_append_left _ hp)
  refine wpAny_call (codeAny_mono (F.go X.A X.stack s1 H1 ⟨us, []⟩ us vs Q E0 hr ⟨p1, p2, fun mem => (List.mem_cons.mp (I1.stkSub p.1 mem)).elim p3 p4, p5⟩ I1.env0 bs r want) fun res s2 hq => ?_)
  cases res with
  | error er => exact (show False from hq).elim
  | ok fl =>
    cases fl with
    | ret u => exact I1.after hq
    | next => exact hq.elim
    | brk => exact hq.elim
    | cont => exact hq.elim
end

/-! ### _law_why of what refuses with one of the own errors (behind 70s_err) -/
def spFieldsG (p : Addr × Obj) (dd : Addr) (FS : Fds → Prop) (Fld : Fds → V → Hp → Prop) : Sp := fun vs H Q _ => ∃ fs : Fds, vs = [.ref p.1] ∧ H dd = some (.xd fs) ∧ FS fs ∧ ∀ H' v, Same H H' → Fld fs v H' → Q v H'
abbrev N_why : List Str := ["_law_ask", "_law_found", "_law_e"]
abbrev P_why : List Str := ["_law_ask"]
theorem sc_why : FnScope N_why P_why (defScope s_why) := ⟨rfl, rfl, rfl, by decide +kernel, rfl, by decide +kernel, by decide +kernel⟩
abbrev N_fields : List Str := ["_law_e"]
abbrev P_fields : List Str := ["_law_e"]
theorem sc_fields : FnScope N_fields P_fields (defScope s_fields) := ⟨rfl, rfl, rfl, by decide +kernel, rfl, by decide +kernel, by decide +kernel⟩
section
open PySem.Spec PyProof.Rows
theorem three {σ : L2.St} (h : σ.length = 3) : ∃ a b c, σ = [a, b, c] := by
  match σ, h with
  | [a, b, c], _ => exact ⟨a, b, c, rfl⟩
end
/-! ### an error that is none of these -/
section
variable {K : PySem.W.Frag}
end
/-- the errors that _law_fields looks for ahead of BadStretch -/
structure OthT (K : PySem.W.Frag) (mg : Str → Option Value) (C c0 c1 c2 c3 c4 c5 c6 c7 c8 : Addr) : Prop where
  g0 : mg "BadNumber" = some (.ref c0)
  g1 : mg "NoMating" = some (.ref c1)
  g2 : mg "NoFamily" = some (.ref c2)
  g3 : mg "TooMuch" = some (.ref c3)
  g4 : mg "BadName" = some (.ref c4)
  g5 : mg "Taken" = some (.ref c5)
  g6 : mg "NoRoad" = some (.ref c6)
  g7 : mg "BadMating" = some (.ref c7)
  g8 : mg "BadPlace" = some (.ref c8)
  no : ∀ D ∈ [c0, c1, c2, c3, c4, c5, c6, c7, c8], PySem.W.kitOne K (.ref C) (.ref D) = some false

/-! ### _law_why of what refuses with one of several own errors (behind 70w_why) -/
def EWhyM (I : Addr → Fds → Str → (V → Hp → Prop) → Prop) (Q : VK) : XK := fun cls d H' => ∃ (C dd : Addr) (fs : Fds) (word : Str) (Fld : V → Hp → Prop), cls = .ref C ∧ d = some dd ∧ H' dd = some (.xd fs) ∧ I C fs word Fld ∧
  ∀ (H'' : Hp) (t1 : Addr) (v : V), Same H' H'' → Fld v H'' → H'' t1 = some (.tup [.str word, v]) → Q (.ref t1) H''
def TWhyM (I : Addr → Fds → Str → (V → Hp → Prop) → Prop) : (XK → Hp → VK → Prop) → Hp → VK → Prop := fun tl H Q => ∀ t0, H t0 = none → ∀ R : VK, (∀ v H1, Q (.ref t0) H1 → R v H1) → tl (EWhyM I Q) (upd H t0 (.tup [.str "", .non])) R
/-- an error that the first clause takes -/
structure WhyI (P : Program) (w : World) (K : PySem.W.Frag) (mg : Str → Option Value) (base : Heap) (CF fF : Addr) (fdF : FuncData) (C : Addr) (fs : Fds) (word : Str) (Fld : V → Hp → Prop) : Prop where
  m : PySem.W.exmOne K (.ref C) (.ref CF) = some true
  x : XfC K C
  wd : PySem.W.findIn K (.ref C) "word" = some none
  hw : fs.lookup ("word" : Str) = some (.str word)
  st : ∀ v H H', Same H H' → Fld v H → Fld v H'
  G : ∀ (p : Addr × Obj) (dd : Addr), Held p C dd → FnP P w K mg base p 1 fF fdF P_fields (spFieldsG p dd (fun f => f = fs) (fun _ v H => Fld v H))
section
open PySem.Spec PyProof.Rows
theorem FnP.imp {P : Program} {w : World} {K : PySem.W.Frag} {mg : Str → Option Value} {base : Heap} {p : Addr × Obj} {k : Nat} {f : Addr} {fd : FuncData} {ps : List Str} {sp sp' : Sp} (F : FnP P w K mg base p k f fd ps sp) (h : ∀ vs H Q E, sp' vs H Q E → sp vs H Q E) : FnP P w K mg base p k f fd ps sp' :=
  ⟨fun vs H Q E z => F.len vs H Q E (h _ _ _ _ z), fun A outer s H args us vs Q E hr pk he hb hv z => F.go A outer s H args us vs Q E hr pk he hb hv (h _ _ _ _ z)⟩
theorem why_givesM {X : Cx} {g CF fF : Addr} {fdF : FuncData} {cdg : Value} {q : Str} {k : Nat} {I : Addr → Fds → Str → (V → Hp → Prop) → Prop} (hr : Room (k + 3) X.A) (gF : X.mg "FarError" = some (.ref CF))
    (D_fields : DefAt X.K X.mg "_law_fields" s_fields P_fields fF fdF) (hI : ∀ C fs word Fld, I C fs word Fld → WhyI X.prog X.w X.K X.mg X.base CF fF fdF C fs word Fld) :
    LamX.GivesTo X N_why "_law_why" (defScope s_why) g cdg (defBody s_why) "_law_ask" q (TWhyM I) := by
  intro f c' s H Q tl act hc h
  have hr1 : Room (k + 2) (X.A.deeper (envOfC "_law_why" (defScope s_why) s.heap.objs.size g cdg)) := hr.deeper _
  refine ⟨_, pss_cons (ps_set (i := 1) sc_why.nd rfl (.inl rfl) (pe_tup (pa_cons pe_str (pa_cons pe_non pa_nil))))
    (pss_cons (ps_try_first (i := 2) (c := .ref CF)
      (tb := fun W D σ H => ∃ Ech : XK, (∀ cls d σ' H', Ech cls d H' → σ'.length = 3 → W cls d σ' H') ∧ σ[0]? = some (some (.ref f)) ∧ H c' = some (LamX.CodeO c' q) ∧ tl Ech H fun _ H1 => D.nx σ H1)
      (ts := fun z k d D σ H => ∃ (C d0 : Addr) (fs : Fds) (word : Str) (Fld : V → Hp → Prop), k = .ref C ∧ d = some d0 ∧ H d0 = some (.xd fs) ∧ I C fs word Fld ∧ σ[2]? = some (some (.ref z)) ∧ ∀ (H' : Hp) (t1 : Addr) (v : V), Same H H' → Fld v H' → H' t1 = some (.tup [.str word, v]) → D.nx (σ.set 1 (some (.ref t1))) H')
      rfl rfl sc_why.nd rfl rfl ⟨by rfl, by decide, .inl gF⟩ (fun W pn xe tk _ => ?_) (fun z oz k d pn hz hf => ?_)) (pss_one (ps_ret (pv 1)))), ?_⟩
  · refine pss_of fun D σ H' h' => ?_
    obtain ⟨Ech, hW, h1, h2, h3⟩ := h'
    exact ⟨_, pss_one (ps_expr (act (fun cls d σ H => σ.length = 3 → W cls d σ H) pn xe Ech _ _ (takes_len tk) (fun cls d σ' H' e l => hW cls d σ' H' e l))), h1, h2, h3⟩
  · refine pss_of fun D σ H' h' => ?_
    obtain ⟨C, d0, fs, word, Fld, rfl, rfl, hd, hi, h2, go⟩ := h'
    have hH : Held (z, oz) C d0 := ⟨hz, hf⟩
    have T := hI _ _ _ _ hi
    have G_fields := T.G (z, oz) d0 hH
    have hrm : L2H.RoomH 1 (X.A.deeper (envOfC "_law_why" (defScope s_why) s.heap.objs.size g cdg)) := (L2H.roomH_of hr1).mono (by omega)
    refine ⟨_, pss_one (ps_set (i := 1) sc_why.nd rfl (.inl rfl) (pe_tup (pa_cons (pe_heldf hH List.mem_cons_self T.x T.wd (pv 2)) (pa_cons (pe_callP G_fields ⟨hrm.dp, hrm.un⟩ List.mem_cons_self (by rfl) D_fields.g D_fields.F.kp D_fields.b (pa_cons (pv 2) pa_nil)) pa_nil)))), ?_⟩
    refine ⟨.ref z, h2, rfl, fs, _, hd, T.hw, .ref z, h2, fs, rfl, hd, rfl, fun H2 v s2 e2 => ?_⟩
    exact ⟨by show 2 ≤ sizeLine; decide, fun t1 n1 => go _ t1 v (s2.trans (same_upd n1)) (T.st _ _ _ (same_upd n1) e2) upd_same⟩
  · refine ⟨by show 2 ≤ sizeLine; decide, fun t0 n0 => ?_⟩
    refine ⟨EWhyM I Q, fun cls d σ' H' hE hl => ?_, rfl, same_upd n0 _ _ hc, ?_⟩
    · obtain ⟨C, dd, fs, word, Fld, rfl, rfl, hd, hi, go⟩ := hE
      obtain ⟨x0, x1, x2, rfl⟩ := three hl
      refine ⟨(hI _ _ _ _ hi).m, fun z hz => ⟨C, dd, fs, word, Fld, rfl, rfl, hd, hi, rfl, fun H2 t1 v s2 e2 e3 => ?_⟩⟩
      exact ⟨.ref t1, rfl, go H2 t1 v s2 e2 e3⟩
    · exact h t0 n0 _ fun v H1 hq => ⟨.ref t0, rfl, hq⟩
end

/-! ### BadMating, Full -/
def bgF (x : V) : Fds := [("word", .str "BadMating"), ("mating", x), ("word", .str "FarError")]
section
variable {P : Program} {w : World} {K : PySem.W.Frag} {mg : Str → Option Value} {base : Heap}
end
def fuF (n : V) : List (Str × V) := [("word", .str "Full"), ("most", n), ("word", .str "FarError")]
section
variable {P : Program} {w : World} {K : PySem.W.Frag} {mg : Str → Option Value} {base : Heap}
end
theorem bn_raiseE {K : PySem.W.Frag} {C : Addr} {ta : TE} {σ : L2.St} {n : V} {H : Hp} {E : XK} (e : ErrT K C) (n1 : PySem.W.findIn K (.ref C) "number" = some none) (hn : FV n) (hσ : ∀ Q : VK, Q n H → ta σ H Q)
    (q2 : ∀ (H' : Hp) (d : Addr), Same H H' → H d = none → H' d = some (.xd (bnF n)) → E (.ref C) (some d) H') : (tMkO C (spBnInit K) [] (tCons ta tNil)) σ H (fun cls d H' => E cls d H') := by
  refine hσ _ ⟨by show 1 ≤ 1000; decide, fun a na => ?_⟩
  refine ⟨a, C, n, rfl, hn, e, n1, upd_same, fun H' dx ndx ea ed kp => ⟨rfl, dx, bnF n, ea, ed, (same_upd na).free ndx, ?_⟩⟩
  refine q2 _ dx (fun b o hb' => ?_) ((same_upd na).free ndx) upd_same
  have nba : b ≠ a := ne_of_none hb' na
  have nbd : b ≠ dx := ne_of_none hb' ((same_upd na).free ndx)
  rw [upd_ne nbd, del_ne nba]
  exact kp b o nba (by rw [upd_ne nba]; exact hb')
theorem bn_wordE (x : V) : (bnF x).lookup ("word" : Str) = some (.str "BadNumber") := by
  unfold bnF
  rw [lookup_put, if_pos rfl]
theorem bn_fldE (x : V) : (bnF x).lookup ("number" : Str) = some x := by
  unfold bnF
  rw [lookup_put, if_neg (by decide +kernel), lookup_put, if_pos rfl]
/-! ### _law_fields of the three errors of a road -/
structure OthBnE (K : PySem.W.Frag) (mg : Str → Option Value) (C c0 c1 c2 : Addr) : Prop where
  g_NoMating : mg "NoMating" = some (.ref c0)
  g_NoFamily : mg "NoFamily" = some (.ref c1)
  g_TooMuch : mg "TooMuch" = some (.ref c2)
structure OthBgE (K : PySem.W.Frag) (mg : Str → Option Value) (C c0 c1 c2 c3 c4 c5 c6 : Addr) : Prop where
  g_BadNumber : mg "BadNumber" = some (.ref c0)
  g_NoMating : mg "NoMating" = some (.ref c1)
  g_NoFamily : mg "NoFamily" = some (.ref c2)
  g_TooMuch : mg "TooMuch" = some (.ref c3)
  g_BadName : mg "BadName" = some (.ref c4)
  g_Taken : mg "Taken" = some (.ref c5)
  g_NoRoad : mg "NoRoad" = some (.ref c6)
  no : ∀ D ∈ [c0, c1, c2, c3, c4, c5, c6], PySem.W.kitOne K (.ref C) (.ref D) = some false
structure OthFuE (K : PySem.W.Frag) (mg : Str → Option Value) (C c0 c1 c2 c3 c4 c5 c6 c7 c8 c9 c10 c11 c12 c13 c14 c15 c16 : Addr) : Prop where
  g_BadNumber : mg "BadNumber" = some (.ref c0)
  g_NoMating : mg "NoMating" = some (.ref c1)
  g_NoFamily : mg "NoFamily" = some (.ref c2)
  g_TooMuch : mg "TooMuch" = some (.ref c3)
  g_BadName : mg "BadName" = some (.ref c4)
  g_Taken : mg "Taken" = some (.ref c5)
  g_NoRoad : mg "NoRoad" = some (.ref c6)
  g_BadMating : mg "BadMating" = some (.ref c7)
  g_BadPlace : mg "BadPlace" = some (.ref c8)
  g_BadStretch : mg "BadStretch" = some (.ref c9)
  g_BadMove : mg "BadMove" = some (.ref c10)
  g_BadMoves : mg "BadMoves" = some (.ref c11)
  g_BadText : mg "BadText" = some (.ref c12)
  g_BadBoard : mg "BadBoard" = some (.ref c13)
  g_BadCounts : mg "BadCounts" = some (.ref c14)
  g_BadSide : mg "BadSide" = some (.ref c15)
  g_NoSide : mg "NoSide" = some (.ref c16)
  no : ∀ D ∈ [c0, c1, c2, c3, c4, c5, c6, c7, c8, c9, c10, c11, c12, c13, c14, c15, c16], PySem.W.kitOne K (.ref C) (.ref D) = some false
section
variable {P : Program} {w : World} {K : PySem.W.Frag} {mg : Str → Option Value} {base : Heap}
theorem ok_fieldsBnE {f CF C fI c0 c1 c2 dd : Addr} {fd fdI : FuncData} {p : Addr × Obj} {N : List Str} (x : V) (D : DefAt K mg "_law_fields" s_fields P_fields f fd) (B : Bn mg) (T : ErT K mg CF C fI fdI "BadNumber" N) (O : OthBnE K mg C c0 c1 c2)
    (n1 : PySem.W.findIn K (.ref C) "number" = some none) (hH : Held p C dd) : FnP P w K mg base p 1 f fd P_fields (spFieldsG p dd (fun f => f = bnF x) (fun _ v _ => v = x)) := by
  refine Fun.okP D.F sc_fields (fun vs H Q E h => ?_) (fun cdv A outer s H vs Q E hr h => ?_)
  · obtain ⟨fs, rfl, _⟩ := h
    rfl
  · obtain ⟨fs, rfl, hd, rfl, q⟩ := h
    refine ⟨_, (pss_cons (ps_if (pt_val (pe_callB (call_heldT hH List.mem_cons_self T.c) (by rfl) B.isinstance (by decide +kernel) (pa_cons (pv 0) (pa_cons (pe_tup (pa_cons (pe_glob (v := .ref C) (by rfl) T.gC rfl) (pa_cons (pe_glob (v := .ref c0) (by rfl) O.g_NoMating rfl) (pa_cons (pe_glob (v := .ref c1) (by rfl) O.g_NoFamily rfl) (pa_cons (pe_glob (v := .ref c2) (by rfl) O.g_TooMuch rfl) pa_nil))))) pa_nil)))) (pss_one (ps_ret (pe_heldf hH List.mem_cons_self T.x n1 (pv 0)))) pss_nil) pss_never), ?_⟩
    have s0 : Same H H := fun b o hb => hb
    refine ⟨.ref p.1, rfl, by show 4 ≤ sizeLine; decide, fun tp0 ntp0 => ?_⟩
    have s1 := s0.trans (same_upd (o := .tup [.ref C, .ref c0, .ref c1, .ref c2]) ntp0)
    refine ⟨tp0, _, [.ref C, .ref c0, .ref c1, .ref c2], true, bnF x, rfl, upd_same, (.cons (.own _) (.cons (.own _) (.cons (.own _) (.cons (.own _) .nil)))), by simp [PySem.W.kitAny, PySem.W.kitOne], s1 _ _ hd, _, rfl, iteT ?_⟩
    exact ⟨.ref p.1, rfl, rfl, bnF x, x, s1 _ _ hd, bn_fldE x, q _ _ s1 rfl⟩
end

/-! ### a road that is none: need_road refuses (behind 82x_need, 76_roaderrs) -/
def goodLen (n : V) : Prop := ∃ i : Int, n = .int i ∧ 0 ≤ i ∧ i ≤ 1000000000000000000
/-- four values, told as a mating -/
abbrev Q4 := V × V × V × V
def q4 (x : Q4) : List V := [x.1, x.2.1, x.2.2.1, x.2.2.2]
def IBq (x : Q4) : Prop := IB x.1 ∧ IB x.2.1 ∧ IB x.2.2.1 ∧ IB x.2.2.2
abbrev isM (n : Int) (x : Q4) : Bool := isMat n x.1 x.2.1 x.2.2.1 x.2.2.2
def Mqs (H : Hp) (ts : List Addr) (qs : List Q4) : Prop := Paired (fun t x => H t = some (.tup (q4 x))) ts qs
theorem Mqs.keep {H H' : Hp} (k : KeepT H H') : ∀ {ts : List Addr} {qs : List Q4}, Mqs H ts qs → Mqs H' ts qs
  | _, _, .nil => .nil
  | _, _, .cons h r => .cons (k _ _ h) (Mqs.keep k r)
theorem Mqs.length {H : Hp} : ∀ {ts : List Addr} {qs : List Q4}, Mqs H ts qs → ts.length = qs.length
  | _, _, .nil => rfl
  | _, _, .cons _ r => congrArg (· + 1) (Mqs.length r)
theorem Mqs.at {H : Hp} : ∀ {ts : List Addr} {qs : List Q4}, Mqs H ts qs → ∀ (i : Nat) (t : Addr), ts[i]? = some t → ∃ x, qs[i]? = some x ∧ H t = some (.tup (q4 x))
  | _, _, .nil, i, t, h => by simp at h
  | _, _, .cons (b := x) h r, 0, t, e => by
    cases e
    exact ⟨x, rfl, h⟩
  | _, _, .cons h r, i + 1, t, e => Mqs.at r i t e
/-- what refuses a road, and with what -/
inductive RdBad (x : V) (ts : List Addr) (qs : List Q4) : Str → V → Prop
  | num : ¬ goodLen x → RdBad x ts qs "BadNumber" x
  | mat {n : Int} {j : Nat} {t : Addr} {q : Q4} : x = .int n → 0 ≤ n → n ≤ 1000000000000000000 → ts[j]? = some t → qs[j]? = some q → isM n q = false → (∀ i q', i < j → qs[i]? = some q' → isM n q' = true) → RdBad x ts qs "BadMating" (.ref t)
  | full {n : Int} : x = .int n → 0 ≤ n → n ≤ 1000000000000000000 → (∀ q ∈ qs, isM n q = true) → 24 < qs.length → RdBad x ts qs "Full" (.int 24)
/-- the error with this word and this value -/
def ErrIs (CB CG CU : Addr) (word : Str) (v : V) (C : Addr) (fs : Fds) : Prop := (word = "BadNumber" ∧ C = CB ∧ fs = bnF v) ∨ (word = "BadMating" ∧ C = CG ∧ fs = bgF v) ∨ (word = "Full" ∧ C = CU ∧ fs = fuF v)
/-- E takes the error -/
def TakesE (CB CG CU : Addr) (H : Hp) (E : XK) (word : Str) (v : V) : Prop := ∀ (C : Addr) (fs : Fds) (H' : Hp) (d : Addr), ErrIs CB CG CU word v C fs → Same H H' → H d = none → H' d = some (.xd fs) → E (.ref C) (some d) H'
theorem TakesE.same {CB CG CU : Addr} {H H1 : Hp} {E : XK} {word : Str} {v : V} (h : TakesE CB CG CU H E word v) (s : Same H H1) : TakesE CB CG CU H1 E word v := fun C fs H' d e s' nd ed => h C fs H' d e (s.trans s') (s.free nd) ed
/-- a road in memory, a list or a tuple, told with any values -/
structure RqAt (H : Hp) (L : Addr) (ts : List Addr) (qs : List Q4) : Prop where
  at_L : H L = some (.lst (ts.map V.ref)) ∨ H L = some (.tup (ts.map V.ref))
  mq : Mqs H ts qs
  ib : ∀ q ∈ qs, IBq q
  len : qs.length ≤ 1000
theorem RqAt.same {H H' : Hp} {L : Addr} {ts : List Addr} {qs : List Q4} (h : RqAt H L ts qs) (s : Same H H') : RqAt H' L ts qs := ⟨h.at_L.imp (s _ _) (s _ _), h.mq.keep (fun b xs hb => s _ _ hb), h.ib, h.len⟩
def spFromX (CB CG CU : Addr) : Sp := fun vs H Q E => ∃ (lo : Int) (n : V), vs = [.int lo, n] ∧ FV n ∧ ((∃ i : Int, n = .int i ∧ lo ≤ i ∧ Q .non H) ∨ ((∀ i : Int, n = .int i → i < lo) ∧ TakesE CB CG CU H E "BadNumber" n))
def spWithinX (CB CG CU : Addr) : Sp := fun vs H Q E => ∃ (lo hi : Int) (n : V), vs = [.int lo, .int hi, n] ∧ FV n ∧ (∀ i : Int, n = .int i → i < lo ∨ hi < i) ∧ TakesE CB CG CU H E "BadNumber" n
section
variable {P : Program} {w : World} {K : PySem.W.Frag} {mg : Str → Option Value} {base : Heap} {CB CG CU : Addr}
theorem ok_fromX {f CF fI : Addr} {fd fdI : FuncData} (D : DefAt K mg "need_from" s_need_from P_need_from f fd) (B : Bn mg) (Tb : ErT K mg CF CB fI fdI "BadNumber" N_bninit) (n1 : PySem.W.findIn K (.ref CB) "number" = some none) (GB : FnOk P w K mg base CX0 2 fI fdI N_bninit (spBnInit K)) : FnOk P w K mg base (L2.CX P w) 4 f fd P_need_from (spFromX CB CG CU) := by
  refine D.F.okX sc_need_from (fun vs H Q E h => ?_) (fun cdv A outer s H vs Q E hr h => ?_)
  · obtain ⟨lo, n, rfl, _⟩ := h
    rfl
  · obtain ⟨lo, n, rfl, hn, q⟩ := h
    refine ⟨_, (pss_one (ps_if (PW.pt (pw_or (pt_val (pe_callB call_isi (by rfl) B.isinstance (by decide +kernel) (pa_cons (pv 1) (pa_cons (pe_bltn (v := .ty "bool") (by rfl) B.bool (by decide +kernel) rfl) pa_nil)))) (pw_or1 (pt_cmpR op_lt (pv 1) (pv 0) (nomark _))))) (pss_one (ps_raise rfl (takes_of rfl rfl rfl rfl) (pmk_oex Tb.e.o Tb.iC Tb.tI GB (hr.mono (by omega)) Tb.bI .nil pass0 (by rfl) Tb.gC (pa_cons (pv 1) pa_nil)))) pss_nil)), ?_⟩
    have bad : (∀ i : Int, n = .int i → i < lo) ∧ TakesE CB CG CU H E "BadNumber" n → (tMkO CB (spBnInit K) [] (tCons (tVar 1) tNil)) [some (.int lo), some n] H (fun cls d H' => E cls d H') := fun z => bn_raiseE Tb.e n1 hn (fun Q q => ⟨n, rfl, q⟩) fun H' d s nd ed => z.2 _ _ _ _ (.inl ⟨rfl, rfl, rfl⟩) s nd ed
    rcases id hn with ⟨i, rfl, hi⟩ | ⟨b, rfl⟩
    · refine ⟨.int i, rfl, _, _, _, _, false, rfl, ClsV.ty _, TyX.base (TyOf.int _), kit_ty (by decide +kernel), _, rfl, ?_⟩
      refine ⟨.int i, rfl, .int lo, rfl, i, lo, rfl, rfl, _, rfl, ite2 (fun h0 => ?_) (fun h0 => ?_)⟩
      · have h0' : i < lo := of_decide_eq_true h0
        rcases q with ⟨j, e, lj, _⟩ | q
        · cases e
          omega
        · exact bad q
      · have h0' : ¬ i < lo := fun z => h0 (decide_eq_true z)
        rcases q with ⟨j, e, lj, q⟩ | q
        · exact q
        · exact absurd (q.1 i rfl) h0'
    · refine ⟨.bl b, rfl, _, _, _, _, true, rfl, ClsV.ty _, TyX.base (TyOf.bl _), kit_ty (by decide +kernel), _, rfl, ?_⟩
      rcases q with ⟨j, e, _⟩ | q
      · cases e
      · exact bad q
theorem ok_withinX {f fN CF fI : Addr} {fd fdN fdI : FuncData} (D : DefAt K mg "need_within" s_need_within P_need_within f fd) (D_need_from : DefAt K mg "need_from" s_need_from P_need_from fN fdN) (B : Bn mg) (Tb : ErT K mg CF CB fI fdI "BadNumber" N_bninit) (n1 : PySem.W.findIn K (.ref CB) "number" = some none) (GB : FnOk P w K mg base CX0 2 fI fdI N_bninit (spBnInit K)) : FnOk P w K mg base (L2.CX P w) 5 f fd P_need_within (spWithinX CB CG CU) := by
  have G_need_from : FnOk P w K mg base (L2.CX P w) 4 fN fdN P_need_from (spFromX CB CG CU) := ok_fromX D_need_from B Tb n1 GB
  refine D.F.okX sc_need_within (fun vs H Q E h => ?_) (fun cdv A outer s H vs Q E hr h => ?_)
  · obtain ⟨lo, hi, n, rfl, _⟩ := h
    rfl
  · obtain ⟨lo, hi, n, rfl, hn, bad, tk⟩ := h
    refine ⟨_, (pss_cons (ps_expr (pe_call G_need_from (hr.mono (by omega)) (by rfl) D_need_from.g D_need_from.F.kp D_need_from.b .nil (passes_call (takes_of rfl rfl rfl rfl) fun _ _ _ _ h => h) (pa_cons (pv 0) (pa_cons (pv 2) pa_nil))))
      (pss_one (ps_if (pt_cmpR op_gt (pv 2) (pv 1) (nomark _)) (pss_one (ps_raise rfl (takes_of rfl rfl rfl rfl) (pmk_oex Tb.e.o Tb.iC Tb.tI GB (hr.mono (by omega)) Tb.bI .nil pass0 (by rfl) Tb.gC (pa_cons (pv 2) pa_nil)))) pss_nil))), ?_⟩
    refine ⟨.int lo, rfl, n, rfl, lo, n, rfl, hn, ?_⟩
    by_cases g : ∃ i : Int, n = .int i ∧ lo ≤ i
    · obtain ⟨i, rfl, li⟩ := g
      refine .inl ⟨i, rfl, li, .int i, rfl, .int hi, rfl, i, hi, rfl, rfl, _, rfl, ite2 (fun h => ?_) (fun h => ?_)⟩
      · exact bn_raiseE Tb.e n1 hn (fun Q q => ⟨.int i, rfl, q⟩) fun H' d s nd ed => tk _ _ _ _ (.inl ⟨rfl, rfl, rfl⟩) s nd ed
      · have h' : ¬ hi < i := fun z => h (decide_eq_true z)
        have := bad i rfl
        omega
    · exact .inr ⟨fun i e => Int.not_le.mp fun z => g ⟨i, e, z⟩, tk⟩
end

/-! ### _law_odd: what is no length (behind 82r_refuse) -/
abbrev N_odd : List Str := ["_law_draw", "_law_big"]
abbrev P_odd : List Str := ["_law_draw"]
theorem sc_odd : FnScope N_odd P_odd (defScope s_odd) := ⟨rfl, rfl, rfl, by decide +kernel, rfl, by decide +kernel, by decide +kernel⟩
def spOddL : Sp := fun vs H Q _ => ∃ (d l : Addr), vs = [.ref d] ∧ Draw H d l ∧ ∀ (x : V) (H' : Hp), IB x → ¬ goodLen x → Draw H' d l → Keep d H H' → Q x H'
theorem no_len {i : Int} (h : i < 0 ∨ 1000000000000000000 < i) : ¬ goodLen (.int i) := fun ⟨j, e, a, b⟩ => by
  cases e
  omega
section
variable {P : Program} {w : World} {K : PySem.W.Frag} {mg : Str → Option Value} {base : Heap}
theorem ok_oddL {f fP : Addr} {fd fdP : FuncData} (D : DefAt K mg "_law_odd" s_odd P_odd f fd) (D_pull : DefAt K mg "_law_pull" s_pull P_pull fP fdP) (B : Bn mg) : FnOk P w K mg base CX0 2 f fd P_odd spOddL := by
  have G_pull : FnOk P w K mg base CX0 1 fP fdP P_pull spPull := ok_pull D_pull B
  refine D.F.ok sc_odd (fun vs H Q E h => ?_) (fun cdv A outer s H vs Q E hr h => ?_)
  · obtain ⟨d, l, rfl, _⟩ := h
    rfl
  · obtain ⟨d, l, rfl, hD, q⟩ := h
    refine ⟨_, (pss_cons (ps_set (i := 1) sc_odd.nd rfl (.inl rfl) (pe_op op_add pe_int (pe_call G_pull (hr.mono (by omega)) (by rfl) D_pull.g D_pull.F.kp D_pull.b .nil pass0 (pa_cons (pv 0) (pa_cons (pe_op op_pow pe_int pe_int) pa_nil)))))
      (pss_one (ps_ret (pe_ix ix_list (pe_lst (pa_cons (pe_un un_neg pe_int) (pa_cons pe_bl (pa_cons pe_bl (pa_cons (pe_op op_sub pe_int (pv 1)) (pa_cons (pe_op op_sub pe_int (pe_op op_mul (pv 1) (pe_op op_pow pe_int pe_int))) (pa_cons (pe_op op_add (pe_op op_pow pe_int pe_int) (pv 1)) (pa_cons (pe_op op_add (pe_op op_pow pe_int pe_int) (pv 1)) pa_nil)))))))) (pe_call G_pull (hr.mono (by omega)) (by rfl) D_pull.g D_pull.F.kp D_pull.b .nil pass0 (pa_cons (pv 0) (pa_cons pe_int pa_nil))) (fun _ _ => rfl))))), ?_⟩
    refine ⟨.ref d, rfl, 10, 9, rfl, rfl, ⟨by decide, by decide, by decide⟩, d, l, _, rfl, hD, by decide, by decide, fun b H1 b0 b1 D1 k1 => ?_⟩
    have b1' : b < 1000000000 := b1
    refine ⟨1, b, rfl, rfl, ?_⟩
    refine ⟨1, rfl, .int (1 + b), rfl, 0, 1 + b, rfl, rfl, .int (1 + b), rfl, 10, 20, rfl, rfl, ⟨by decide, by decide, by decide⟩, 1 + b, _, rfl, rfl, .inl ⟨by omega, by omega⟩, 0, _, rfl, rfl, 10, 18, rfl, rfl, ⟨by decide, by decide, by decide⟩, .int (1 + b), rfl, _, 1 + b, rfl, rfl, 10, 29, rfl, rfl, ⟨by decide, by decide, by decide⟩, .int (1 + b), rfl, _, 1 + b, rfl, rfl, by show 7 ≤ sizeLine; decide, fun L nL => ?_⟩
    refine ⟨.ref d, rfl, d, l, 7, rfl, D1.same (same_upd nL), by decide, by decide, fun v H2 v0 v1 D2 k2 => ?_⟩
    obtain ⟨x, hx, ib, nb⟩ : ∃ x : V, atI [V.int (-1), V.bl true, V.bl false, V.int (0 - (1 + b)), V.int (0 - (1 + b) * 10 ^ (20 : Int).toNat), V.int (10 ^ (18 : Int).toNat + (1 + b)), V.int (10 ^ (29 : Int).toNat + (1 + b))] v = some x ∧ IB x ∧ ¬ goodLen x := by
      rcases (show v = 0 ∨ v = 1 ∨ v = 2 ∨ v = 3 ∨ v = 4 ∨ v = 5 ∨ v = 6 by omega) with rfl | rfl | rfl | rfl | rfl | rfl | rfl
      · exact ⟨_, atI_nat (j := 0) rfl, .int (by decide), no_len (by omega)⟩
      · exact ⟨_, atI_nat (j := 1) rfl, .inr ⟨_, rfl⟩, fun ⟨_, e, _⟩ => by cases e⟩
      · exact ⟨_, atI_nat (j := 2) rfl, .inr ⟨_, rfl⟩, fun ⟨_, e, _⟩ => by cases e⟩
      · exact ⟨_, atI_nat (j := 3) rfl, .int (by omega), no_len (by omega)⟩
      · rw [show (10 : Int) ^ (20 : Int).toNat = 100000000000000000000 by decide]
        exact ⟨_, atI_nat (j := 4) rfl, .int (by omega), no_len (by omega)⟩
      · rw [show (10 : Int) ^ (18 : Int).toNat = 1000000000000000000 by decide]
        exact ⟨_, atI_nat (j := 5) rfl, .int (by omega), no_len (by omega)⟩
      · rw [show (10 : Int) ^ (29 : Int).toNat = 100000000000000000000000000000 by decide]
        exact ⟨_, atI_nat (j := 6) rfl, .int (by omega), no_len (by omega)⟩
    exact ⟨L, _, v, x, rfl, rfl, SqL.of (k2.of upd_same (D1.ne_new nL)), hx, q _ _ ib nb D2 (k1.trans ((keepS (same_upd nL)).trans k2))⟩
end

/-! ### _law_ends -/
abbrev N_ends : List Str := ["_law_mating_here", "_law_one", "_law_other", "_law_many", "_law_flips", "_law_found", "_law_k"]
abbrev P_ends : List Str := ["_law_mating_here"]
theorem sc_ends : FnScope N_ends P_ends (defScope s_ends) := ⟨rfl, rfl, rfl, by decide +kernel, rfl, by decide +kernel, by decide +kernel⟩
def endQ (p m f k : Int) : Int := if f = 1 then p + m - 1 - k else p + k
def endL (o p m f : Int) (n : Nat) : List (Int × Int) := (List.range n).map fun (k : Nat) => (o + (k : Int), endQ p m f (k : Int))
/-- the pairs at these addresses -/
def Prs (H : Hp) (ps : List Addr) (xs : List (Int × Int)) : Prop := Paired (fun a x => H a = some (.tup [.int x.1, .int x.2])) ps xs
theorem Paired.same {H H' : Hp} (e : Same H H') : ∀ {ps : List Addr} {xs : List (Int × Int)}, Prs H ps xs → Prs H' ps xs
  | _, _, .nil => .nil
  | _, _, .cons h r => .cons (e _ _ h) (Paired.same e r)
theorem Prs.same {H H' : Hp} {ps : List Addr} {xs : List (Int × Int)} (h : Prs H ps xs) (e : Same H H') : Prs H' ps xs := Paired.same e h
theorem Prs.snoc {H : Hp} : ∀ {ps : List Addr} {xs : List (Int × Int)} {a : Addr} {x : Int × Int}, Prs H ps xs → H a = some (.tup [.int x.1, .int x.2]) → Prs H (ps ++ [a]) (xs ++ [x])
  | _, _, _, _, .nil, h => .cons h .nil
  | _, _, _, _, .cons h r, h2 => .cons h (Prs.snoc r h2)
theorem Prs.length {H : Hp} : ∀ {ps : List Addr} {xs : List (Int × Int)}, Prs H ps xs → ps.length = xs.length
  | _, _, .nil => rfl
  | _, _, .cons _ r => congrArg (· + 1) (Prs.length r)
theorem Prs.get {H : Hp} : ∀ {ps : List Addr} {xs : List (Int × Int)}, Prs H ps xs → ∀ (i : Nat) (x : Int × Int), xs[i]? = some x → ∃ a, ps[i]? = some a ∧ H a = some (.tup [.int x.1, .int x.2])
  | _, _, .nil, i, x, h => by simp at h
  | _, _, .cons (a := a) h r, 0, x, e => by
    cases e
    exact ⟨a, rfl, h⟩
  | _, _, .cons h r, i + 1, x, e => Prs.get r i x e
theorem Prs.rp {H : Hp} : ∀ {ps : List Addr} {xs : List (Int × Int)}, Prs H ps xs → ∀ n, RpAll H (n + 1) (ps.map V.ref) (xs.map fun x => .tuple [.int x.1, .int x.2])
  | _, _, .nil, n => .nil _
  | _, _, .cons h r, n => .cons (.tup h (by show 2 ≤ 100000; decide) (.cons (.int _ _) (.cons (.int _ _) (.nil _)))) (Prs.rp r n)
theorem endL_snoc (o p m f : Int) (n : Nat) : endL o p m f (n + 1) = endL o p m f n ++ [(o + (n : Int), endQ p m f (n : Int))] := by
  unfold endL
  rw [List.range_succ, List.map_append]
  rfl
theorem endL_length (o p m f : Int) (n : Nat) : (endL o p m f n).length = n := by
  unfold endL
  rw [List.length_map, List.length_range]
def spEnds : Sp := fun vs H Q _ => ∃ (t : Addr) (o p f : Int) (m : Nat), vs = [.ref t] ∧ H t = some (tup4 o p (m : Int) f) ∧ m ≤ 50000 ∧
  ∀ (H' : Hp) (r : Addr) (ps : List Addr), Same H H' → H r = none → H' r = some (.lst (ps.map V.ref)) → Prs H' ps (endL o p m f m) → Q (.ref r) H'
section
variable {P : Program} {w : World} {K : PySem.W.Frag} {mg : Str → Option Value} {base : Heap}
theorem ok_ends {f : Addr} {fd : FuncData} (D : DefAt K mg "_law_ends" s_ends P_ends f fd) (B : Bn mg) : FnOk P w K mg base CX0 1 f fd P_ends spEnds := by
  refine D.F.ok sc_ends (fun vs H Q E h => ?_) (fun cdv A outer s H vs Q E hr h => ?_)
  · obtain ⟨t, o, p, f, m, rfl, _⟩ := h
    rfl
  · obtain ⟨t, o, p, f, m, rfl, ht, hm, q⟩ := h
    refine ⟨_, (pss_cons (ps_asg (pv 0) (pg_tup (by rfl) (pgs_cons (pg_name (i := 1) sc_ends.nd rfl (.inl rfl)) (pgs_cons (pg_name (i := 2) sc_ends.nd rfl (.inl rfl)) (pgs_cons (pg_name (i := 3) sc_ends.nd rfl (.inl rfl)) (pgs_cons (pg_name (i := 4) sc_ends.nd rfl (.inl rfl)) pgs_nil))))))
      (pss_cons (ps_set (i := 5) sc_ends.nd rfl (.inl rfl) (pe_lst pa_nil))
      (pss_cons (ps_for PassesOwn.never rfl (pi_range1 (by rfl) B.range (pa_cons (pv 3) pa_nil)) (pg_name (i := 6) sc_ends.nd rfl (.inl rfl)) (pss_one (ps_expr (pe_bm PySem.F.plainAttrs_list PySem.F.slot_list_append PySem.F.type_list_append mt_append (pv 5) (pa_cons (pe_tup (pa_cons (pe_op op_add (pv 1) (pv 6)) (pa_cons (pe_ifExp (pt_cmpR op_eq (pv 4) pe_int (nomark _)) (pe_op op_sub (pe_op op_sub (pe_op op_add (pv 2) (pv 3)) pe_int) (pv 6)) (pe_op op_add (pv 2) (pv 6))) pa_nil))) pa_nil)))))
      (pss_one (ps_ret (pv 5)))))), ?_⟩
    refine ⟨.ref t, rfl, t, _, rfl, SqT.of ht, rfl, .int o, _, rfl, .int p, _, rfl, .int (m : Int), _, rfl, .int f, _, rfl, rfl, ?_⟩
    refine ⟨Nat.zero_le _, fun r nr => ?_⟩
    refine ⟨.int (m : Int), rfl, (m : Int), rfl, by omega, by omega, for_range (lo := 0) (n := ((m : Int)).toNat) (fun i σ H2 => ∃ (y : Option V) (ps : List Addr), σ = [some (.ref t), some (.int o), some (.int p), some (.int (m : Int)), some (.int f), some (.ref r), y] ∧ Same H H2 ∧ H2 r = some (.lst (ps.map V.ref)) ∧ Prs H2 ps (endL o p m f i))
      ⟨none, [], rfl, same_upd nr, upd_same, .nil⟩ ?_ ?_⟩
    · rintro i σ H2 hi ⟨y, ps, rfl, sm, e2, pr⟩
      have hl := pr.length
      rw [endL_length] at hl
      have hlt : (ps.map V.ref).length < sizeLine := sz_lt (by rw [List.length_map]; omega)
      have fin : ∀ (a : Addr) (z : Int), H2 a = none → z = endQ p m f (i : Int) → ∃ (y : Option V) (ps' : List Addr), ([some (.ref t), some (.int o), some (.int p), some (.int (m : Int)), some (.int f), some (.ref r), some (.int (0 + (i : Int)))] : List (Option V)) = [some (.ref t), some (.int o), some (.int p), some (.int (m : Int)), some (.int f), some (.ref r), y] ∧ Same H (upd (upd H2 a (.tup [.int (o + (0 + (i : Int))), .int z])) r (.lst ((ps.map V.ref) ++ [.ref a]))) ∧
          (upd (upd H2 a (.tup [.int (o + (0 + (i : Int))), .int z])) r (.lst ((ps.map V.ref) ++ [.ref a]))) r = some (.lst (ps'.map V.ref)) ∧ Prs (upd (upd H2 a (.tup [.int (o + (0 + (i : Int))), .int z])) r (.lst ((ps.map V.ref) ++ [.ref a]))) ps' (endL o p m f (i + 1)) := fun a z na ez => by
        have nar : a ≠ r := (ne_of_none e2 na).symm
        refine ⟨_, ps ++ [a], rfl, fun b o' hb => ?_, ?_, ?_⟩
        · rw [upd_ne (ne_of_none hb nr), upd_ne (ne_of_none (sm _ _ hb) na)]
          exact sm _ _ hb
        · rw [upd_same, List.map_append]
          rfl
        · rw [endL_snoc]
          refine Prs.snoc (Paired.mapP pr fun b x hb => ?_) ?_
          · have nbr : b ≠ r := ne_of hb e2 (fun z => by cases z)
            rw [upd_ne nbr, upd_ne (ne_of_none hb na)]
            exact hb
          · rw [upd_ne nar, upd_same, ez, show o + (0 + (i : Int)) = o + (i : Int) by omega]
      -- found.append((one + k, ..))
      refine ⟨.ref r, rfl, .inl ⟨rfl, _, SqL.of e2⟩, .int o, rfl, .int (0 + (i : Int)), rfl, o, _, rfl, rfl, .int f, rfl, rfl, _, rfl, ?_⟩
      refine ite2 (fun hf => ?_) (fun hf => ?_)
      · have hf' : f = 1 := V.int.inj (of_decide_eq_true hf)
        refine ⟨.int p, rfl, .int (m : Int), rfl, p, _, rfl, rfl, _, 1, rfl, rfl, .int (0 + (i : Int)), rfl, _, _, rfl, rfl, by show 2 ≤ sizeLine; decide, fun a na => ?_⟩
        exact ⟨r, _, _, rfl, rfl, (by rw [upd_ne (ne_of_none e2 na)]; exact e2), hlt, fin a _ na (by unfold endQ; rw [if_pos hf']; omega)⟩
      · have hf' : ¬ f = 1 := fun z => hf (decide_eq_true (congrArg V.int z))
        refine ⟨.int p, rfl, .int (0 + (i : Int)), rfl, p, _, rfl, rfl, by show 2 ≤ sizeLine; decide, fun a na => ?_⟩
        exact ⟨r, _, _, rfl, rfl, (by rw [upd_ne (ne_of_none e2 na)]; exact e2), hlt, fin a _ na (by unfold endQ; rw [if_neg hf']; omega)⟩
    · rintro σ H2 ⟨y, ps, rfl, sm, e2, pr⟩
      exact ⟨.ref r, rfl, q H2 r ps sm nr e2 (by rw [Int.toNat_natCast] at pr; exact pr)⟩
end

/-! ### _law_any, _law_odd -/
abbrev N_any : List Str := ["_law_draw", "_law_some"]
abbrev P_any : List Str := ["_law_draw", "_law_some"]
theorem sc_any : FnScope N_any P_any (defScope s_any) := ⟨rfl, rfl, rfl, by decide +kernel, rfl, by decide +kernel, by decide +kernel⟩
def spAny : Sp := fun vs H Q _ => ∃ (d l L : Addr) (xs : List V), vs = [.ref d, .ref L] ∧ Draw H d l ∧ H L = some (.lst xs) ∧ L ≠ d ∧ 1 ≤ xs.length ∧ xs.length ≤ 1000 ∧ ∀ (x : V) (H' : Hp), x ∈ xs → Draw H' d l → Keep d H H' → Q x H'
section
variable {P : Program} {w : World} {K : PySem.W.Frag} {mg : Str → Option Value} {base : Heap}
theorem ok_any {f fP : Addr} {fd fdP : FuncData} (D : DefAt K mg "_law_any" s_any P_any f fd) (D_pull : DefAt K mg "_law_pull" s_pull P_pull fP fdP) (B : Bn mg) : FnOk P w K mg base CX0 2 f fd P_any spAny := by
  have G_pull : FnOk P w K mg base CX0 1 fP fdP P_pull spPull := ok_pull D_pull B
  refine D.F.ok sc_any (fun vs H Q E h => ?_) (fun cdv A outer s H vs Q E hr h => ?_)
  · obtain ⟨d, l, L, xs, rfl, _⟩ := h
    rfl
  · obtain ⟨d, l, L, xs, rfl, hD, hL, nL, l1, l2, q⟩ := h
    refine ⟨_, (pss_one (ps_ret (pe_ix ix_list (pv 1) (pe_call G_pull (hr.mono (by omega)) (by rfl) D_pull.g D_pull.F.kp D_pull.b .nil pass0 (pa_cons (pv 0) (pa_cons (pe_callB call_len_seq (by rfl) B.len (by decide +kernel) (pa_cons (pv 1) pa_nil)) pa_nil))) (fun _ _ => rfl)))), ?_⟩
    refine ⟨.ref L, rfl, .ref d, rfl, .ref L, rfl, L, xs, rfl, .inl (SqL.of hL), d, l, _, rfl, hD, by omega, by omega, fun v H1 v0 v1 D1 k1 => ?_⟩
    obtain ⟨j, rfl⟩ : ∃ j : Nat, v = (j : Int) := ⟨v.toNat, by omega⟩
    have hj : j < xs.length := by omega
    exact ⟨L, xs, (j : Int), xs[j], rfl, rfl, SqL.of (k1.of hL nL), atI_nat (List.getElem?_eq_getElem hj), q _ _ (List.getElem_mem hj) D1 k1⟩
end

/-! ### the law's table of code objects -/
theorem tabs_keep {T : List (Addr × Str)} {H H' : Hp} {d l : Addr} (t : LamX.Tabs T H) (D : Draw H d l) (k : Keep d H H') : LamX.Tabs T H' := fun p hp => by
  obtain ⟨ps, h1, h2, h3⟩ := t p hp
  obtain ⟨ns, i, z, s, W⟩ := D
  refine ⟨ps, k.of h1 (ne_of h1 W.at_d (fun e => by cases e)), h2, fun pos cv hc => ?_⟩
  obtain ⟨c, e1, e2⟩ := h3 pos cv hc
  exact ⟨c, e1, k.of e2 (ne_of e2 W.at_d (fun e => by unfold LamX.CodeO at e; cases e))⟩
theorem draw_extN {H H' : Hp} {d l : Addr} (D : Draw H d l) (e : LamX.ExtN H H') : Draw H' d l := by
  obtain ⟨ns, i, z, s, W⟩ := D
  exact ⟨ns, i, z, s, { W with at_d := e _ _ W.at_d (fun _ q => by cases q), at_l := e _ _ W.at_l (fun _ q => by cases q) }⟩
def spLawT (K : PySem.W.Frag) (Pt : Addr) : Sp := fun vs H Q _ => ∃ (a : Addr) (ns : List Int), vs = [.ref a] ∧ SqL K H a (ns.map V.int) ∧ ns.length ≤ 63 ∧ H Pt = some (.tbl #[]) ∧ ∀ H', Q (.bl true) H'
/-! ### a list stored anew, beside the table and the drawing -/
theorem tabs_keepU {T : List (Addr × Str)} {H : Hp} {r : Addr} {xs : List V} {o : HO} (t : LamX.Tabs T H) (hr : H r = some (.lst xs)) : LamX.Tabs T (upd H r o) := fun p hp => by
  obtain ⟨ps, h1, h2, h3⟩ := t p hp
  refine ⟨ps, (by rw [upd_ne (ne_of h1 hr (fun e => by cases e))]; exact h1), h2, fun pos cv hc => ?_⟩
  obtain ⟨c, e1, e2⟩ := h3 pos cv hc
  exact ⟨c, e1, by rw [upd_ne (ne_of e2 hr (fun e => by unfold LamX.CodeO at e; cases e))]; exact e2⟩
/-! ### a list of what was told -/
/-- told words and numbers -/
inductive Whs (G : Hp) : List Addr → List (Str × V) → Prop
  | nil : Whs G [] []
  | cons {t : Addr} {ts : List Addr} {w : Str} {x : V} {l : List (Str × V)} : G t = some (.tup [.str w, x]) → Whs G ts l → Whs G (t :: ts) ((w, x) :: l)
theorem Whs.keep {G G' : Hp} (k : KeepT G G') : ∀ {ts : List Addr} {l : List (Str × V)}, Whs G ts l → Whs G' ts l
  | _, _, .nil => .nil
  | _, _, .cons h r => .cons (k _ _ h) (Whs.keep k r)
theorem Whs.snoc {G : Hp} {t : Addr} {w : Str} {x : V} (h : G t = some (.tup [.str w, x])) : ∀ {ts : List Addr} {l : List (Str × V)}, Whs G ts l → Whs G (ts ++ [t]) (l ++ [(w, x)])
  | _, _, .nil => .cons h .nil
  | _, _, .cons h' r => .cons h' (Whs.snoc h r)
theorem Whs.len {G : Hp} : ∀ {ts : List Addr} {l : List (Str × V)}, Whs G ts l → ts.length = l.length
  | _, _, .nil => rfl
  | _, _, .cons _ r => congrArg (· + 1) (Whs.len r)
/-- one more told -/
theorem ask_step {T : List (Addr × Str)} {G0 G HE HG : Hp} {A t1 : Addr} {ts : List Addr} {l : List (Str × V)} {w : Str} {x : V} (nA : ∀ o, G0 A = some o → (∀ ps, o ≠ .tbl ps) → False) (x0 : LamX.ExtN G0 G) (eA : G A = some (.lst (ts.map V.ref))) (wh : Whs G ts l) (eN : LamX.ExtN G HE) (TE : LamX.Tabs T HE) (s : Same HE HG) (e1 : HG t1 = some (.tup [.str w, x])) :
    HG A = some (.lst (ts.map V.ref)) ∧ LamX.ExtN G0 (upd HG A (.lst (ts.map V.ref ++ [.ref t1]))) ∧ LamX.Tabs T (upd HG A (.lst (ts.map V.ref ++ [.ref t1]))) ∧ (upd HG A (.lst (ts.map V.ref ++ [.ref t1]))) A = some (.lst ((ts ++ [t1]).map V.ref)) ∧ Whs (upd HG A (.lst (ts.map V.ref ++ [.ref t1]))) (ts ++ [t1]) (l ++ [(w, x)]) := by
  have eG : HG A = some (.lst (ts.map V.ref)) := s _ _ (eN _ _ eA (fun _ z => by cases z))
  have kt : KeepT HG (upd HG A (.lst (ts.map V.ref ++ [.ref t1]))) := fun b xs hb => by
    rw [upd_ne fun z => by rw [z, eG] at hb; cases hb]
    exact hb
  refine ⟨eG, fun b o hb ht => ?_, tabs_keepU (TE.ext s) eG, by rw [upd_same, List.map_append]; rfl, Whs.snoc (kt _ _ e1) (wh.keep fun b xs hb => kt _ _ (s _ _ (eN _ _ hb (fun _ z => by cases z))))⟩
  have nb : b ≠ A := fun z => nA o (by rw [← z]; exact hb) ht
  rw [upd_ne nb]
  exact s _ _ (eN _ _ (x0 _ _ hb ht) ht)

/-! ### ends of matings swelled and trimmed (the pure part of k07b; behind 41_ends, 50c_clipped) -/
def wideOf (T : Nat) (f : Int) (x : Int × Int) (j : Nat) : List (Int × Int) := (List.range j).map fun (k : Nat) => (x.1 * (T : Int) + (k : Int), x.2 * (T : Int) + (if f = 1 then (T : Int) - 1 - (k : Int) else (k : Int)))
theorem wideOf_snoc (T : Nat) (f : Int) (x : Int × Int) (j : Nat) : wideOf T f x (j + 1) = wideOf T f x j ++ [(x.1 * (T : Int) + (j : Int), x.2 * (T : Int) + (if f = 1 then (T : Int) - 1 - (j : Int) else (j : Int)))] := by
  unfold wideOf
  rw [List.range_succ, List.map_append]
  rfl
theorem wideOf_length (T : Nat) (f : Int) (x : Int × Int) (j : Nat) : (wideOf T f x j).length = j := by
  unfold wideOf
  rw [List.length_map, List.length_range]
def wideL (T : Nat) (o p m f : Int) (n : Nat) : List (Int × Int) := (List.range n).flatMap fun (j : Nat) => wideOf T f (o + (j : Int), endQ p m f (j : Int)) T
theorem wideL_snoc (T : Nat) (o p m f : Int) (n : Nat) : wideL T o p m f (n + 1) = wideL T o p m f n ++ wideOf T f (o + (n : Int), endQ p m f (n : Int)) T := by
  unfold wideL
  rw [List.range_succ, List.flatMap_append]
  congr 1
  rw [List.flatMap_cons, List.flatMap_nil, List.append_nil]
theorem wideL_length (T : Nat) (o p m f : Int) : ∀ n, (wideL T o p m f n).length = n * T
  | 0 => by rw [Nat.zero_mul]; rfl
  | n + 1 => by rw [wideL_snoc, List.length_append, wideL_length T o p m f n, wideOf_length, Nat.succ_mul]
theorem wide_is (T : Nat) (o p m f : Int) : ∀ n : Nat, endL ((T : Int) * o) ((T : Int) * p) ((T : Int) * m) f (T * n) = wideL T o p m f n
  | 0 => by rw [Nat.mul_zero]; rfl
  | n + 1 => by
    rw [wideL_snoc, ← wide_is T o p m f n, Nat.mul_succ]
    unfold endL wideOf
    rw [List.range_add, List.map_append, List.map_map]
    congr 1
    refine List.map_congr_left fun k _ => ?_
    have e1 : ((T * n + k : Nat) : Int) = (T : Int) * (n : Int) + (k : Int) := by rw [Int.natCast_add, Int.natCast_mul]
    refine Prod.ext ?_ ?_
    · show (T : Int) * o + ((T * n + k : Nat) : Int) = (o + (n : Int)) * (T : Int) + (k : Int)
      rw [e1, Int.add_mul, Int.mul_comm o, Int.mul_comm (n : Int)]
      omega
    · show endQ ((T : Int) * p) ((T : Int) * m) f ((T * n + k : Nat) : Int) = endQ p m f (n : Int) * (T : Int) + (if f = 1 then (T : Int) - 1 - (k : Int) else (k : Int))
      rw [e1]
      unfold endQ
      split
      · rw [Int.sub_mul, Int.sub_mul, Int.add_mul, Int.mul_comm p, Int.mul_comm m, Int.mul_comm (n : Int), Int.one_mul]
        omega
      · rw [Int.add_mul, Int.mul_comm p, Int.mul_comm (n : Int)]
        omega
def below (s : Int) (x : Int × Int) : Bool := decide (x.1 < s ∧ x.2 < s)
theorem filter_range (a b : Nat) (g : Nat → Bool) (hg : ∀ k, g k = decide (a ≤ k ∧ k < b)) : ∀ m : Nat, (List.range m).filter g = (List.range (min b m - a)).map (a + ·)
  | 0 => by
    rw [Nat.min_zero, Nat.zero_sub]
    rfl
  | m + 1 => by
    rw [List.range_succ, List.filter_append, filter_range a b g hg m]
    by_cases h : a ≤ m ∧ m < b
    · rw [List.filter_cons_of_pos (by rw [hg]; exact decide_eq_true h), show min b (m + 1) - a = (min b m - a) + 1 by omega, List.range_succ, List.map_append, List.filter_nil]
      congr 1
      show [m] = [a + (min b m - a)]
      rw [show a + (min b m - a) = m by omega]
    · rw [List.filter_cons_of_neg (by rw [hg, decide_eq_false h]; exact Bool.false_ne_true), List.filter_nil, List.append_nil]
      congr 2
      omega
theorem below_is {o p f s : Int} {m : Nat} (o0 : 0 ≤ o) (p0 : 0 ≤ p) (hf : f = 0 ∨ f = 1) : (endL o p m f m).filter (below s) =
    if clipLo o p m f s < clipHi o p m f s then endL (clipLo o p m f s) (partP o p m f (clipLo o p m f s) (clipHi o p m f s - clipLo o p m f s)) (clipHi o p m f s - clipLo o p m f s) f (clipHi o p m f s - clipLo o p m f s).toNat else [] := by
  have hlo := clip_lo o p m f s
  have hhi := clip_hi o p m f s
  obtain ⟨a, ha⟩ : ∃ a : Nat, clipLo o p m f s - o = (a : Int) := ⟨(clipLo o p m f s - o).toNat, by omega⟩
  obtain ⟨b, hb⟩ : ∃ b : Nat, (if clipHi o p m f s < o then 0 else clipHi o p m f s - o) = (b : Int) := ⟨(if clipHi o p m f s < o then 0 else clipHi o p m f s - o).toNat, by split <;> omega⟩
  have hg : ∀ k : Nat, k < m → (below s ∘ fun (k : Nat) => (o + (k : Int), endQ p m f (k : Int))) k = decide (a ≤ k ∧ k < b) := fun k hk => by
    show decide (o + (k : Int) < s ∧ endQ p m f (k : Int) < s) = _
    refine decide_eq_decide.mpr ?_
    unfold endQ
    unfold clipLo at ha
    unfold clipHi at hb
    rcases hf with rfl | rfl
    · rw [if_neg (by decide)] at ha ⊢
      rw [if_neg (show ¬ (0 : Int) = 1 by decide)] at hb
      split at hb <;> split at hb <;> (try split at hb) <;> constructor <;> intro h <;> omega
    · rw [if_pos rfl] at ha ⊢
      rw [if_pos (show (1 : Int) = 1 from rfl)] at hb
      split at ha <;> split at hb <;> (try split at hb) <;> constructor <;> intro h <;> omega
  have e : (endL o p m f m).filter (below s) = ((List.range m).filter fun k => decide (a ≤ k ∧ k < b)).map fun (k : Nat) => (o + (k : Int), endQ p m f (k : Int)) := by
    unfold endL
    rw [List.filter_map]
    congr 1
    exact List.filter_congr fun k hk => hg k (List.mem_range.mp hk)
  rw [e, filter_range a b _ (fun _ => rfl), List.map_map]
  have hbm : b ≤ m := by
    split at hb <;> omega
  rw [Nat.min_eq_left hbm]
  by_cases h : clipLo o p m f s < clipHi o p m f s
  · rw [if_pos h]
    rw [if_neg (by omega)] at hb
    have en : (clipHi o p m f s - clipLo o p m f s).toNat = b - a := by omega
    rw [en]
    unfold endL
    refine List.map_congr_left fun k hk => ?_
    have hk' := List.mem_range.mp hk
    refine Prod.ext ?_ ?_
    · show o + ((a + k : Nat) : Int) = clipLo o p m f s + (k : Int)
      omega
    · show endQ p m f ((a + k : Nat) : Int) = endQ (partP o p m f (clipLo o p m f s) (clipHi o p m f s - clipLo o p m f s)) (clipHi o p m f s - clipLo o p m f s) f (k : Int)
      unfold endQ partP
      split <;> omega
  · rw [if_neg h]
    have : b - a = 0 := by
      split at hb <;> omega
    rw [this]
    rfl

/-! ### what the law holds of a road's matings: their ends by numbers; _law_told_pairs (behind 07p_wide, rd5_mate, rd7_trim, rd11_swell) -/
abbrev N_told_pairs : List Str := ["_law_road_here", "_law_number", "_law_mating_here"]
abbrev P_told_pairs : List Str := ["_law_road_here"]
theorem sc_told_pairs : FnScope N_told_pairs P_told_pairs (defScope s_told_pairs) := ⟨rfl, rfl, rfl, by decide +kernel, rfl, by decide +kernel, by decide +kernel⟩
def endM (x : M4) : List (Int × Int) := endL x.1 x.2.1 x.2.2.1 x.2.2.2 x.2.2.1.toNat
theorem endM_len {x : M4} : (endM x).length = x.2.2.1.toNat := endL_length _ _ _ _ _
theorem clip_end {n m : Int} {x : M4} (h : Mok n x) : (endM x).filter (below m) = match clipM m x with | some y => endM y | none => [] := by
  obtain ⟨o, p, q, f⟩ := x
  obtain ⟨hf, q1, o0, p0, _, _⟩ := h
  simp only at hf q1 o0 p0
  obtain ⟨k, rfl⟩ := Int.eq_ofNat_of_zero_le (show 0 ≤ q by omega)
  have e := below_is (o := o) (p := p) (f := f) (s := m) (m := k) o0 p0 hf
  show (endL o p (k : Int) f k).filter (below m) = _
  rw [e]
  unfold clipM
  simp only
  by_cases c : clipLo o p (k : Int) f m < clipHi o p (k : Int) f m
  · rw [if_pos c, if_neg (by omega)]
    rfl
  · rw [if_neg c, if_pos (by omega)]
theorem sw_end {n : Int} {t : Nat} {x : M4} (h : Mok n x) : endM (swX (t : Int) x) = wideL t x.1 x.2.1 x.2.2.1 x.2.2.2 x.2.2.1.toNat := by
  obtain ⟨o, p, q, f⟩ := x
  obtain ⟨hf, q1, o0, p0, _, _⟩ := h
  simp only at q1
  obtain ⟨k, rfl⟩ := Int.eq_ofNat_of_zero_le (show 0 ≤ q by omega)
  show endL ((t : Int) * o) ((t : Int) * p) ((t : Int) * (k : Int)) f ((t : Int) * (k : Int)).toNat = wideL t o p (k : Int) f ((k : Int)).toNat
  rw [show ((t : Int) * (k : Int)).toNat = t * k by rw [← Int.natCast_mul]; rfl, show ((k : Int)).toNat = k from rfl]
  exact wide_is t o p (k : Int) f k
theorem Prs.keepT {G G' : Hp} (k : KeepT G G') : ∀ {ps : List Addr} {xs : List (Int × Int)}, Prs G ps xs → Prs G' ps xs
  | _, _, .nil => .nil
  | _, _, .cons h r => .cons (k _ _ h) (Prs.keepT k r)
/-! sorted pairs -/
def prK (G : Hp) (v : V) : Int × Int := match v with
  | .ref a => (match G a with
    | some (.tup [.int i, .int j]) => (i, j)
    | _ => (0, 0))
  | _ => (0, 0)
theorem prK_at {G : Hp} {a : Addr} {x : Int × Int} (h : G a = some (.tup [.int x.1, .int x.2])) : prK G (.ref a) = x := by
  unfold prK
  simp only [h]
theorem prK_mem {G : Hp} : ∀ {us : List Addr} {l : List (Int × Int)}, Prs G us l → ∀ x ∈ us.map V.ref, ∃ t, x = V.ref t ∧ G t = some (.tup [.int (prK G x).1, .int (prK G x).2])
  | _, _, .cons h r, x, hx => by
    rw [List.map_cons] at hx
    rcases List.mem_cons.mp hx with rfl | hx
    · exact ⟨_, rfl, by rw [prK_at h]; exact h⟩
    · exact prK_mem r x hx
theorem prK_map {G : Hp} : ∀ {us : List Addr} {l : List (Int × Int)}, Prs G us l → (us.map V.ref).map (prK G) = l
  | _, _, .nil => rfl
  | _, _, .cons h r => by
    rw [List.map_cons, List.map_cons, prK_at h]
    congr 1
    exact prK_map r
/-- pairs whose first numbers rise stand sorted -/
theorem srt_prs {G : Hp} {us : List Addr} {l : List (Int × Int)} (h : Prs G us l) (up : (l.map (·.1)).Pairwise (· < ·)) : SrtO.Srtd (ltP (prK G)) (us.map V.ref) := by
  rw [List.pairwise_map, ← prK_map h, List.pairwise_map] at up
  refine up.imp fun {a b} hab => SrtO.lexB_no.mpr ?_
  omega
theorem srt_same {G : Hp} {us : List Addr} {l : List (Int × Int)} (h : Prs G us l) (up : (l.map (·.1)).Pairwise (· < ·)) {ys : List V} (s : SrtO.Srtd (ltP (prK G)) ys) (st : SrtO.Stb (ltP (prK G)) ys (us.map V.ref)) : ys = us.map V.ref :=
  SrtO.stb_uniq (ltP_swo _) s (srt_prs h up) st
theorem endL_up (o p m f : Int) (n : Nat) : ((endL o p m f n).map (·.1)).Pairwise (· < ·) := by
  unfold endL
  rw [List.map_map, List.pairwise_map]
  refine (List.pairwise_lt_range (n := n)).imp fun {a b} hab => ?_
  show o + (a : Int) < o + (b : Int)
  omega
theorem endM_up (x : M4) : ((endM x).map (·.1)).Pairwise (· < ·) := endL_up _ _ _ _ _
/-! told pairs: (number, list of ends) -/
abbrev HL := List (Int × List (Int × Int))
def TPR (G : Hp) (t : Addr) (s : Int × List (Int × Int)) : Prop := ∃ a us, G t = some (.tup [.int s.1, .ref a]) ∧ G a = some (.lst (us.map V.ref)) ∧ Prs G us s.2
def TP (G : Hp) (ts : List Addr) (hs : HL) : Prop := Paired (TPR G) ts hs
theorem TP.same {G G' : Hp} (k : Same G G') : ∀ {ts : List Addr} {hs : HL}, TP G ts hs → TP G' ts hs
  | _, _, .nil => .nil
  | _, _, .cons ⟨a, us, e1, e2, e3⟩ r => .cons ⟨a, us, k _ _ e1, k _ _ e2, e3.same k⟩ (TP.same k r)
theorem TP.snoc {G : Hp} {t : Addr} {s : Int × List (Int × Int)} (h : TPR G t s) : ∀ {ts : List Addr} {hs : HL}, TP G ts hs → TP G (ts ++ [t]) (hs ++ [s])
  | _, _, .nil => .cons h .nil
  | _, _, .cons h' r => .cons h' (TP.snoc h r)
theorem TP.len {G : Hp} : ∀ {ts : List Addr} {hs : HL}, TP G ts hs → ts.length = hs.length
  | _, _, .nil => rfl
  | _, _, .cons _ r => congrArg (· + 1) (TP.len r)
/-- the same, all lists other than D -/
def TPo (D : Addr) (G : Hp) (ts : List Addr) (hs : HL) : Prop := Paired (fun t s => ∃ a us, a ≠ D ∧ G t = some (.tup [.int s.1, .ref a]) ∧ G a = some (.lst (us.map V.ref)) ∧ Prs G us s.2) ts hs
theorem TPo.tp {D : Addr} {G : Hp} : ∀ {ts : List Addr} {hs : HL}, TPo D G ts hs → TP G ts hs
  | _, _, .nil => .nil
  | _, _, .cons ⟨a, us, _, e1, e2, e3⟩ r => .cons ⟨a, us, e1, e2, e3⟩ (TPo.tp r)
theorem TPo.keep {D : Addr} {G G' : Hp} {l : List V} (eD : G D = some (.lst l)) (k : Keep D G G') : ∀ {ts : List Addr} {hs : HL}, TPo D G ts hs → TPo D G' ts hs
  | _, _, .nil => .nil
  | _, _, .cons ⟨a, us, n, e1, e2, e3⟩ r => .cons ⟨a, us, n, k.of e1 (ne_of e1 eD (fun z => by cases z)), k.of e2 n, e3.keepT fun b xs hb => k.of hb (ne_of hb eD (fun z => by cases z))⟩ (TPo.keep eD k r)
theorem TPo.same {D : Addr} {G G' : Hp} (k : Same G G') : ∀ {ts : List Addr} {hs : HL}, TPo D G ts hs → TPo D G' ts hs
  | _, _, .nil => .nil
  | _, _, .cons ⟨a, us, n, e1, e2, e3⟩ r => .cons ⟨a, us, n, k _ _ e1, k _ _ e2, e3.same k⟩ (TPo.same k r)
theorem TPo.snoc {D : Addr} {G : Hp} {t a : Addr} {us : List Addr} {s : Int × List (Int × Int)} (n : a ≠ D) (e1 : G t = some (.tup [.int s.1, .ref a])) (e2 : G a = some (.lst (us.map V.ref))) (e3 : Prs G us s.2) : ∀ {ts : List Addr} {hs : HL}, TPo D G ts hs → TPo D G (ts ++ [t]) (hs ++ [s])
  | _, _, .nil => .cons ⟨a, us, n, e1, e2, e3⟩ .nil
  | _, _, .cons h' r => .cons h' (TPo.snoc n e1 e2 e3 r)
def tpD (hs : HL) : List PyData := hs.map fun s => .tuple [.int s.1, .list (s.2.map fun x => .tuple [.int x.1, .int x.2])]
theorem TP.rp {G : Hp} : ∀ {ts : List Addr} {hs : HL}, TP G ts hs → (∀ s ∈ hs, s.2.length ≤ 1000) → ∀ n, RpAll G (n + 3) (ts.map V.ref) (tpD hs)
  | _, _, .nil, _, n => .nil _
  | _, _, .cons ⟨a, us, e1, e2, e3⟩ r, hb, n => .cons (.tup e1 (by show 2 ≤ 100000; decide) (.cons (.int _ _) (.cons (.lst e2 (by rw [List.length_map, e3.length]; have := hb _ List.mem_cons_self; omega) (e3.rp n)) (.nil _)))) (TP.rp r (fun s hs => hb s (List.mem_cons_of_mem _ hs)) n)
/-! the dict that is held: numbers to lists of ends -/
def HdR (G : Hp) (kv : Key × V) (s : Int × List (Int × Int)) : Prop := kv.1 = Sum.inl s.1 ∧ ∃ a us, kv.2 = .ref a ∧ G a = some (.lst (us.map V.ref)) ∧ Prs G us s.2
def Hdd (G : Hp) (kvs : List (Key × V)) (hs : HL) : Prop := Paired (HdR G) kvs hs
theorem Hdd.same {G G' : Hp} (k : Same G G') : ∀ {kvs : List (Key × V)} {hs : HL}, Hdd G kvs hs → Hdd G' kvs hs
  | _, _, .nil => .nil
  | _, _, .cons ⟨e1, a, us, e2, e3, e4⟩ r => .cons ⟨e1, a, us, e2, k _ _ e3, e4.same k⟩ (Hdd.same k r)
/-- lists and tuples stand, a dict may not -/
theorem Hdd.off {G G' : Hp} {D : Addr} {ks : List (Key × V)} (eD : G D = some (.dK ks)) (k : Keep D G G') : ∀ {kvs : List (Key × V)} {hs : HL}, Hdd G kvs hs → Hdd G' kvs hs
  | _, _, .nil => .nil
  | _, _, .cons ⟨e1, a, us, e2, e3, e4⟩ r => .cons ⟨e1, a, us, e2, k.of e3 (ne_of e3 eD (fun z => by cases z)), e4.keepT fun b xs hb => k.of hb (ne_of hb eD (fun z => by cases z))⟩ (Hdd.off eD k r)
theorem Hdd.snoc {G : Hp} {kv : Key × V} {s : Int × List (Int × Int)} (h : HdR G kv s) : ∀ {kvs : List (Key × V)} {hs : HL}, Hdd G kvs hs → Hdd G (kvs ++ [kv]) (hs ++ [s])
  | _, _, .nil => .cons h .nil
  | _, _, .cons h' r => .cons h' (Hdd.snoc h r)
theorem Hdd.keys {G : Hp} : ∀ {kvs : List (Key × V)} {hs : HL}, Hdd G kvs hs → kvs.map (·.1) = (hs.map (·.1)).map Sum.inl
  | _, _, .nil => rfl
  | _, _, .cons h r => by
    rw [List.map_cons, List.map_cons, List.map_cons, Hdd.keys r, h.1]
theorem Hdd.len {G : Hp} : ∀ {kvs : List (Key × V)} {hs : HL}, Hdd G kvs hs → kvs.length = hs.length
  | _, _, .nil => rfl
  | _, _, .cons _ r => congrArg (· + 1) (Hdd.len r)
theorem Hdd.none {G : Hp} {i : Int} : ∀ {kvs : List (Key × V)} {hs : HL}, Hdd G kvs hs → (∀ s ∈ hs, s.1 ≠ i) → valV kvs (Sum.inl i) = none
  | _, _, .nil, _ => rfl
  | _, _, .cons h r, hn => by
    rw [valV_neg (fun z => hn _ List.mem_cons_self (Sum.inl.inj (h.1.symm.trans z)))]
    exact Hdd.none r fun s hs => hn s (List.mem_cons_of_mem _ hs)
theorem Hdd.get {G : Hp} : ∀ {kvs : List (Key × V)} {hs : HL}, Hdd G kvs hs → (hs.map (·.1)).Pairwise (· < ·) → ∀ s ∈ hs, ∃ a us, valV kvs (Sum.inl s.1) = some (.ref a) ∧ G a = some (.lst (us.map V.ref)) ∧ Prs G us s.2
  | _, _, .nil, _, s, hs => by cases hs
  | _, _, .cons h r, up, s, hs => by
    rw [List.map_cons] at up
    obtain ⟨u1, u2⟩ := List.pairwise_cons.mp up
    rcases List.mem_cons.mp hs with rfl | hs
    · obtain ⟨e1, a, us, e2, e3, e4⟩ := h
      exact ⟨a, us, by rw [valV_pos e1, e2], e3, e4⟩
    · have lt := u1 _ (List.mem_map.mpr ⟨s, hs, rfl⟩)
      rw [valV_neg (fun z => by have := Sum.inl.inj (h.1.symm.trans z); omega)]
      exact Hdd.get r u2 s hs
def hsOf (S : StL) : HL := S.map fun s => (s.1, endM s.2)
theorem hsOf_keys (S : StL) : (hsOf S).map (·.1) = S.map (·.1) := by
  unfold hsOf
  rw [List.map_map]
  rfl
/-- the dict of ways -/
def WyR (kv : Key × V) (s : Int × Int) : Prop := kv.1 = Sum.inl s.1 ∧ kv.2 = .int s.2
def Wys (kvs : List (Key × V)) (ws : List (Int × Int)) : Prop := Paired WyR kvs ws
theorem Wys.get : ∀ {kvs : List (Key × V)} {ws : List (Int × Int)}, Wys kvs ws → (ws.map (·.1)).Pairwise (· < ·) → ∀ s ∈ ws, valV kvs (Sum.inl s.1) = some (.int s.2)
  | _, _, .nil, _, s, hs => by cases hs
  | _, _, .cons h r, up, s, hs => by
    rw [List.map_cons] at up
    obtain ⟨u1, u2⟩ := List.pairwise_cons.mp up
    rcases List.mem_cons.mp hs with rfl | hs
    · rw [valV_pos h.1, h.2]
    · have lt := u1 _ (List.mem_map.mpr ⟨s, hs, rfl⟩)
      rw [valV_neg (fun z => by have := Sum.inl.inj (h.1.symm.trans z); omega)]
      exact Wys.get r u2 s hs
theorem mergeK_new : ∀ {kvs acc : List (Key × V)} {ks : List Int}, kvs.map (·.1) = ks.map Sum.inl → ks.Pairwise (· < ·) → (∀ kv ∈ acc, ∃ i : Int, kv.1 = Sum.inl i ∧ ∀ k ∈ ks, i < k) → mergeK acc kvs = acc ++ kvs
  | [], acc, _, _, _, _ => (List.append_nil acc).symm
  | (k, v) :: r, acc, [], e, _, _ => by cases e
  | (k, v) :: r, acc, j :: ks, e, up, ha => by
    rw [List.map_cons, List.map_cons] at e
    obtain ⟨e1, e2⟩ := List.cons.inj e
    obtain ⟨u1, u2⟩ := List.pairwise_cons.mp up
    have no : valV acc k = none := by
      have key : ∀ l : List (Key × V), (∀ kv ∈ l, kv.1 ≠ k) → valV l k = none := fun l => by
        induction l with
        | nil => intro _; rfl
        | cons x t ih =>
          intro hx
          rw [valV_neg (hx x List.mem_cons_self)]
          exact ih fun y hy => hx y (List.mem_cons_of_mem _ hy)
      refine key acc fun kv hkv z => ?_
      obtain ⟨i, e3, lt⟩ := ha kv hkv
      have e1 : k = Sum.inl j := e1
      rw [e3, e1] at z
      have := Sum.inl.inj z
      have := lt j List.mem_cons_self
      omega
    show mergeK (putK acc k v) r = _
    rw [putK_new v no, mergeK_new e2 u2 (fun kv hkv => ?_), List.append_assoc]
    · rfl
    · rcases List.mem_append.mp hkv with h | h
      · obtain ⟨i, e3, lt⟩ := ha kv h
        exact ⟨i, e3, fun y hy => lt y (List.mem_cons_of_mem _ hy)⟩
      · rw [List.mem_singleton.mp h]
        exact ⟨j, e1, u1⟩
def spToldP (C5 : Addr) : Sp := fun vs H Q _ => ∃ (g st : Addr) (n : Int) (S : StL) (k : V) (c : Int), vs = [.ref g] ∧ RoAt C5 H g st n S k c ∧ RoW n S ∧ n ≤ 1000 ∧
  ∀ (H' : Hp) (r : Addr) (ts : List Addr), Same H H' → H r = none → H' r = some (.lst (ts.map V.ref)) → TP H' ts (hsOf S) → Q (.ref r) H'
section
variable {P : Program} {w : World} {K : PySem.W.Frag} {mg : Str → Option Value} {base : Heap} {C5 : Addr}
theorem ok_toldP {f fM fE : Addr} {fd fdM fdE : FuncData} (D : DefAt K mg "_law_told_pairs" s_told_pairs P_told_pairs f fd) (M_Ro_matings : Meth K C5 "matings" fM) (G_Ro_matings : FnOk P w K mg base CX0 1 fM fdM P_Ro_matings (spMatings C5)) (b_Ro_matings : Binds K fdM P_Ro_matings []) (TRo_ : RoT K mg C5)
    (D_ends : DefAt K mg "_law_ends" s_ends P_ends fE fdE) (B : Bn mg) : FnOk P w K mg base CX0 2 f fd P_told_pairs (spToldP C5) := by
  have G_ends : FnOk P w K mg base CX0 1 fE fdE P_ends spEnds := ok_ends D_ends B
  refine D.F.ok sc_told_pairs (fun vs H Q E h => ?_) (fun cdv A outer s H vs Q E hr h => ?_)
  · obtain ⟨g, st, n, S, k, c, rfl, _⟩ := h
    rfl
  · obtain ⟨g, st, n, S, k, c, rfl, ra, wf, n1, q⟩ := h
    refine ⟨_, (pss_one (ps_ret (pe_lc (own := [("_law_number", 1), ("_law_mating_here", 2)]) (g := gTup K 2 (gCons (gName 1) (gCons (gName 2) gNil))) (by rfl) sc_told_pairs.nd (pi_list (pe_meth0 (pv 0) TRo_.cl M_Ro_matings G_Ro_matings (hr.mono (by omega)) b_Ro_matings .nil pass0)) (blkOk_by (own := [("_law_number", 1), ("_law_mating_here", 2)]) (N := N_told_pairs) (sc := defScope s_told_pairs) (by decide +kernel)) (fun _ _ _ _ _ => (pg_tup (by rfl) (pgs_cons (pg_name (i := 1) sc_told_pairs.nd rfl (.inl rfl)) (pgs_cons (pg_name (i := 2) sc_told_pairs.nd rfl (.inl rfl)) pgs_nil)))) (fun _ _ _ _ _ => pts_nil) (fun _ _ _ _ _ => (pe_tup (pa_cons (pv 1) (pa_cons (pe_callB (show CallR _ _ (rSortedPO K) from cr_sortedPO) (by rfl) B.sorted (by decide +kernel) (pa_cons (pe_call G_ends (hr.mono (by omega)) (by rfl) D_ends.g D_ends.F.kp D_ends.b .nil pass0 (pa_cons (pv 2) pa_nil)) pa_nil)) pa_nil))))))), ?_⟩
    obtain ⟨dx, hg⟩ := ra.at_g
    have ls := wf.len
    refine ⟨.ref g, rfl, g, dx, _, rfl, hg, rfl, g, st, n, S, k, c, rfl, ra, wf.up, by omega, fun H1 r us s1 nr er lu => ?_⟩
    have lus := lu.length
    refine ⟨r, rfl, ⟨_, SqL.of er⟩, fun D nD => lc_list (K := K) (a := r) (xs := us.map V.ref) (fun i G => ∃ ts, Same H1 G ∧ G D = some (.lst (ts.map V.ref)) ∧ TPo D G ts (hsOf (S.take i))) ⟨[], same_upd nD, upd_same, .nil⟩ (fun i G _ ⟨_, sm, _⟩ => SqL.of (sm _ _ er)) ?_ ?_⟩
    · rintro i v G hv ⟨ts, sm, eD, tp⟩
      rw [List.getElem?_map] at hv
      obtain ⟨t, ht, rfl⟩ := Option.map_eq_some_iff.mp hv
      obtain ⟨z, hz, tt, et, ett⟩ := LiI.paired_get lu ht
      have ok := wf.ok z (List.mem_of_getElem? hz)
      have okl := ok.2.2.2.2.1
      have ok1 := ok.2.1
      have ok0 := ok.2.2.1
      obtain ⟨m, hm⟩ : ∃ m : Nat, z.2.2.2.1 = (m : Int) := ⟨z.2.2.2.1.toNat, by omega⟩
      have lt := tp.tp.len
      unfold hsOf at lt
      rw [List.length_map, List.length_take] at lt
      have ett' : G tt = some (tup4 z.2.1 z.2.2.1 (m : Int) z.2.2.2.2) := by
        rw [sm _ _ ett]
        show some (t4 z.2) = some (tup4 z.2.1 z.2.2.1 (m : Int) z.2.2.2.2)
        rw [← hm]
      refine ⟨t, _, rfl, SqT.of (sm _ _ et), rfl, .int z.1, _, rfl, .ref tt, _, rfl, rfl, rfl, .int z.1, rfl, .ref tt, rfl, tt, _, _, _, m, rfl, ett', by omega, fun G2 E ps s2 nE eE pr => ?_⟩
      refine ⟨E, ps.map V.ref, prK G2, rfl, SqL.of eE, prK_mem pr, fun ys p sy sb np => ?_⟩
      have ey := srt_same pr (endL_up _ _ _ _ _) sy sb
      subst ey
      have s3 := same_upd (H := G2) (o := .lst (ps.map V.ref)) np
      have ep : (upd G2 p (.lst (ps.map V.ref))) p = some (.lst (ps.map V.ref)) := upd_same
      generalize upd G2 p (.lst (ps.map V.ref)) = G3 at s3 ep
      refine ⟨by show 2 ≤ sizeLine; decide, fun u nu => ?_⟩
      have s4 := same_upd (H := G3) (o := .tup [.int z.1, .ref p]) nu
      have eu : (upd G3 u (.tup [.int z.1, .ref p])) u = some (.tup [.int z.1, .ref p]) := upd_same
      generalize upd G3 u (.tup [.int z.1, .ref p]) = G4 at s4 eu
      have s34 := s3.trans s4
      have sG4 : Same G G4 := s2.trans s34
      have eD4 := sG4 _ _ eD
      have nuD : ∀ {b : Addr}, G b = none → b ≠ D := fun hb e => by
        rw [e, eD] at hb
        cases hb
      have npD : p ≠ D := nuD (s2.free np)
      have kD : Keep D G4 (upd G4 D (.lst (ts.map V.ref ++ [.ref u]))) := Keep.upd
      have kt : KeepT G4 (upd G4 D (.lst (ts.map V.ref ++ [.ref u]))) := fun b xs hb => kD.of hb (ne_of hb eD4 (fun z => by cases z))
      refine ⟨_, eD4, sz_lt (by rw [List.length_map]; omega), ts ++ [u], fun b o hb => ?_, by rw [upd_same, List.map_append]; rfl, ?_⟩
      · exact kD.of (sG4 _ _ (sm _ _ hb)) (ne_of_none hb nD)
      · rw [List.take_add_one, hz]
        show TPo D _ (ts ++ [u]) (hsOf (S.take i ++ [z]))
        unfold hsOf
        rw [List.map_append]
        refine TPo.snoc npD (kt _ _ eu) (kD.of (s4 _ _ ep) npD) (Prs.keepT kt ?_) ((tp.same sG4).keep eD4 kD)
        show Prs G4 ps (endM z.2)
        have e : endM z.2 = endL z.2.1 z.2.2.1 (m : Int) z.2.2.2.2 m := by
          unfold endM
          rw [hm]
          rfl
        rw [e]
        exact pr.same s34
    · rintro G ⟨ts, sm, eD, tp⟩
      rw [List.length_map, lus, List.take_length] at tp
      exact q G D ts (s1.trans sm) (s1.free nD) eD tp.tp
end

/-! ### a folding stands while the drawing goes on -/
/-- all but tables and the drawing list stands -/
def KeepD (H H' : Hp) : Prop := ∀ b o, H b = some o → (∀ ps, o ≠ .tbl ps) → (∀ (l : Addr) (i z s : Int), o ≠ .lst [.ref l, .int i, .int z, .int s]) → H' b = some o
theorem KeepD.trans {H H1 H2 : Hp} (a : KeepD H H1) (b : KeepD H1 H2) : KeepD H H2 := fun c o h t n => b c o (a c o h t n) t n
theorem KeepD.ext {H H' : Hp} (e : LamX.ExtN H H') : KeepD H H' := fun b o h t _ => e b o h t
theorem KeepD.same {H H' : Hp} (s : Same H H') : KeepD H H' := fun b o h _ _ => s b o h
theorem KeepD.draw {H H' : Hp} {d l : Addr} (D : Draw H d l) (k : Keep d H H') : KeepD H H' := fun b o h _ n => k.of h fun z => by
  obtain ⟨_, i, zz, s, W⟩ := D
  rw [z, W.at_d] at h
  exact n _ _ _ _ (Option.some.inj h).symm
theorem KeepD.ints {H H' : Hp} (k : KeepD H H') {b : Addr} {xs : List Int} (h : H b = some (.lst (xs.map V.int))) : H' b = some (.lst (xs.map V.int)) :=
  k _ _ h (fun _ z => by cases z) fun l i z s e => by
    cases xs with
    | nil => cases e
    | cons x r => cases e
theorem KeepD.refs {H H' : Hp} (k : KeepD H H') {b : Addr} {xs : List Addr} (h : H b = some (.lst (xs.map V.ref))) : H' b = some (.lst (xs.map V.ref)) :=
  k _ _ h (fun _ z => by cases z) fun l i z s e => by
    cases xs with
    | nil => cases e
    | cons x r =>
      cases r with
      | nil => cases e
      | cons y r => cases e
theorem KeepD.tup {H H' : Hp} (k : KeepD H H') : KeepT H H' := fun b xs h => k _ _ h (fun _ z => by cases z) (fun _ _ _ _ z => by cases z)
theorem FV.ty {K : PySem.W.Frag} {H : Hp} {x : V} (h : FV x) : ∃ t, TyX K H x t ∧ PySem.W.kitOne K t (.type "bool") = some (isB x) := by
  rcases h with ⟨i, rfl, hi⟩ | ⟨b, rfl⟩
  · exact ⟨_, TyX.base (TyOf.int _), kit_ty (r := false) (by decide +kernel)⟩
  · exact ⟨_, TyX.base (TyOf.bl _), kit_ty (r := true) (by decide +kernel)⟩
theorem FV.dat {x : V} (h : FV x) : ∃ D : PyData, ∀ (H : Hp) (n : Nat), Rp H n x D := by
  rcases h with ⟨i, rfl, _⟩ | ⟨b, rfl⟩
  · exact ⟨_, fun H n => .int n i⟩
  · exact ⟨_, fun H n => .bl n b⟩
mutual
theorem Rp.extN {H H' : Hp} (e : LamX.ExtN H H') : ∀ {n : Nat} {v : V} {d : PyData}, Rp H n v d → Rp H' n v d
  | _, _, _, .non n => .non n
  | _, _, _, .bl n b => .bl n b
  | _, _, _, .int n i => .int n i
  | _, _, _, .str n x => .str n x
  | _, _, _, .lst h l r => .lst (e _ _ h (fun _ z => by cases z)) l (RpAll.extN e r)
  | _, _, _, .tup h l r => .tup (e _ _ h (fun _ z => by cases z)) l (RpAll.extN e r)
theorem RpAll.extN {H H' : Hp} (e : LamX.ExtN H H') : ∀ {n : Nat} {vs : List V} {ds : List PyData}, RpAll H n vs ds → RpAll H' n vs ds
  | _, _, _, .nil n => .nil n
  | _, _, _, .cons h r => .cons (Rp.extN e h) (RpAll.extN e r)
end

/-! ### grow, trim, swell refused; _law_refusals (behind rt1_held, 82r_refuse, 46q_oddlen, 75b_ask) -/
def TakesB (CB : Addr) (H : Hp) (E : XK) (x : V) : Prop := ∀ (H' : Hp) (d : Addr), Same H H' → H d = none → H' d = some (.xd (bnF x)) → E (.ref CB) (some d) H'
def spGrowX (C5 CB : Addr) : Sp := fun vs H _ E => ∃ (g st : Addr) (n c : Int) (S : StL) (k x : V), vs = [.ref g, x] ∧ RoAt C5 H g st n S k c ∧ FV x ∧ (∀ i : Int, x = .int i → i < 0 ∨ 1000000000000000000 - n < i) ∧ TakesB CB H E x
def spTrimX (C5 CB : Addr) : Sp := fun vs H _ E => ∃ (g st : Addr) (n c : Int) (S : StL) (k x : V), vs = [.ref g, x] ∧ RoAt C5 H g st n S k c ∧ FV x ∧ (∀ i : Int, x = .int i → i < 0 ∨ n < i) ∧ TakesB CB H E x
def spSwellX (C5 CB : Addr) : Sp := fun vs H _ E => ∃ (g st : Addr) (n c : Int) (S : StL) (k x : V), vs = [.ref g, x] ∧ RoAt C5 H g st n S k c ∧ FV x ∧ 0 ≤ n ∧ n ≤ 1000000000000000000 ∧ (∀ i : Int, x = .int i → i < 1 ∨ 1000000000000000000 < n * i) ∧ TakesB CB H E x
theorem takesB_of {CB : Addr} {H : Hp} {E : XK} {x : V} (q : TakesB CB H E x) : TakesE CB CB CB H E "BadNumber" x := fun C fs H' d e s nd ed => by
  rcases e with ⟨_, rfl, rfl⟩ | ⟨z, _⟩ | ⟨z, _⟩
  · exact q H' d s nd ed
  · exact absurd z (by decide +kernel)
  · exact absurd z (by decide +kernel)
section
variable {P : Program} {w : World} {K : PySem.W.Frag} {mg : Str → Option Value} {base : Heap} {C5 CB : Addr}
theorem ok_GrowX {f fB fW fA CF fI : Addr} {fd fdB fdW fdA fdI : FuncData} {tok : Tok} (F : Fun K "grow" "Road.grow" s_Ro_grow f fd) (TRo_ : RoT K mg C5) (M_Ro_become : Meth K C5 "become" fB) (G_Ro_become : FnOk P w K mg base CX0 1 fB fdB P_Ro_become (spBecome C5)) (b_Ro_become : Binds K fdB P_Ro_become [])
    (D_need_within : DefAt K mg "need_within" s_need_within P_need_within fW fdW) (D_need_from : DefAt K mg "need_from" s_need_from P_need_from fA fdA) (g_FAR : mg "FAR" = some (.int 1000000000000000000 tok)) (B : Bn mg)
    (Tb : ErT K mg CF CB fI fdI "BadNumber" N_bninit) (nb : PySem.W.findIn K (.ref CB) "number" = some none) (GB : FnOk P w K mg base CX0 2 fI fdI N_bninit (spBnInit K)) : FnOk P w K mg base (L2.CX P w) 7 f fd P_Ro_grow (spGrowX C5 CB) := by
  have G_need_within := (ok_withinX D_need_within D_need_from B Tb nb GB : FnOk P w K mg base (L2.CX P w) _ fW fdW P_need_within (spWithinX CB CB CB))
  refine F.okX sc_Ro_grow (fun vs H Q E h => ?_) (fun cdv A outer s H vs Q E hr h => ?_)
  · obtain ⟨g, st, n, c, S, k, x, rfl, _⟩ := h
    rfl
  · obtain ⟨g, st, n, c, S, k, x, rfl, ra, fx, bad, q⟩ := h
    refine ⟨_, (pss_cons (ps_expr (pe_call G_need_within (hr.mono (by omega)) (by rfl) D_need_within.g D_need_within.F.kp D_need_within.b .nil (passes_call (takes_of rfl rfl rfl rfl) fun _ _ _ _ h => h) (pa_cons pe_int (pa_cons (pe_op op_sub (pe_glob (v := .int _) (by rfl) g_FAR ⟨_, rfl⟩) (pe_fld (pv 0) rfl)) (pa_cons (pv 1) pa_nil)))))
      (pss_one (ps_expr (pe_meth (pv 0) TRo_.cl M_Ro_become G_Ro_become (hr.mono (by omega)) b_Ro_become .nil pass0 (pa_cons (pe_op op_add (pe_fld (pv 0) rfl) (pv 1)) (pa_cons (pe_fld (pv 0) rfl) pa_nil)))))), ?_⟩
    obtain ⟨dx, ea⟩ := ra.at_g
    exact ⟨.ref g, rfl, g, C5, dx, _, .int n, rfl, ea, TRo_.cl, TRo_.nE, rfl, 1000000000000000000, n, rfl, rfl, x, rfl, 0, 1000000000000000000 - n, x, rfl, fx, bad, takesB_of q⟩
theorem ok_TrimX {f fB fW fA fC fP fH CF fI : Addr} {fd fdB fdW fdA fdC fdP fdH fdI : FuncData} (F : Fun K "trim" "Road.trim" s_Ro_trim f fd) (TRo_ : RoT K mg C5) (M_Ro_become : Meth K C5 "become" fB) (G_Ro_become : FnOk P w K mg base CX0 1 fB fdB P_Ro_become (spBecome C5)) (b_Ro_become : Binds K fdB P_Ro_become [])
    (D_need_within : DefAt K mg "need_within" s_need_within P_need_within fW fdW) (D_need_from : DefAt K mg "need_from" s_need_from P_need_from fA fdA) (D_clipped : DefAt K mg "clipped" s_clipped P_clipped fC fdC) (D_part : DefAt K mg "part" s_part P_part fP fdP) (D_holds : DefAt K mg "holds" s_holds P_holds fH fdH) (B : Bn mg)
    (Tb : ErT K mg CF CB fI fdI "BadNumber" N_bninit) (nb : PySem.W.findIn K (.ref CB) "number" = some none) (GB : FnOk P w K mg base CX0 2 fI fdI N_bninit (spBnInit K)) : FnOk P w K mg base (L2.CX P w) 7 f fd P_Ro_trim (spTrimX C5 CB) := by
  have G_need_within := (ok_withinX D_need_within D_need_from B Tb nb GB : FnOk P w K mg base (L2.CX P w) _ fW fdW P_need_within (spWithinX CB CB CB))
  have G_clipped : FnOk P w K mg base CX0 3 fC fdC P_clipped spClipped := ok_clipped D_clipped D_part D_holds B
  refine F.okX sc_Ro_trim (fun vs H Q E h => ?_) (fun cdv A outer s H vs Q E hr h => ?_)
  · obtain ⟨g, st, n, c, S, k, x, rfl, _⟩ := h
    rfl
  · obtain ⟨g, st, n, c, S, k, x, rfl, ra, fx, bad, q⟩ := h
    have hu := hu_of hr
    refine ⟨_, (pss_cons (ps_expr (pe_call G_need_within (hr.mono (by omega)) (by rfl) D_need_within.g D_need_within.F.kp D_need_within.b .nil (passes_call (takes_of rfl rfl rfl rfl) fun _ _ _ _ h => h) (pa_cons pe_int (pa_cons (pe_fld (pv 0) rfl) (pa_cons (pv 1) pa_nil)))))
      (pss_cons (ps_set (i := 2) sc_Ro_trim.nd rfl (.inl rfl) pe_dnewK)
      (pss_cons (ps_for (passes_of rfl) rfl (pi_list (pe_callB (call_sortedDI rfl) (by rfl) B.sorted (by decide +kernel) (pa_cons (pe_fld (pv 0) rfl) pa_nil))) (pg_name (i := 3) sc_Ro_trim.nd rfl (.inl rfl)) (pss_cons (ps_set (i := 4) sc_Ro_trim.nd rfl (.inl rfl) (pe_call G_clipped (hr.mono (by omega)) (by rfl) D_clipped.g D_clipped.F.kp D_clipped.b .nil pass0 (pa_cons (pe_dget hu (pe_fld (pv 0) rfl) (pv 3) (fun _ _ => rfl)) (pa_cons (pv 1) pa_nil))))
      (pss_one (ps_if (pt_cmpR op_notN (pv 4) pe_non (nomark _)) (pss_one (ps_dput hu (pv 2) (pv 3) (pv 4) rfl)) pss_nil))))
      (pss_one (ps_expr (pe_meth (pv 0) TRo_.cl M_Ro_become G_Ro_become (hr.mono (by omega)) b_Ro_become .nil pass0 (pa_cons (pv 1) (pa_cons (pv 2) pa_nil)))))))), ?_⟩
    obtain ⟨dx, ea⟩ := ra.at_g
    exact ⟨.ref g, rfl, g, C5, dx, _, .int n, rfl, ea, TRo_.cl, TRo_.nE, rfl, x, rfl, 0, n, x, rfl, fx, bad, takesB_of q⟩
theorem ok_SwellX {f fB fA fS CF fI : Addr} {fd fdB fdA fdS fdI : FuncData} {tok : Tok} (F : Fun K "swell" "Road.swell" s_Ro_swell f fd) (TRo_ : RoT K mg C5) (M_Ro_become : Meth K C5 "become" fB) (G_Ro_become : FnOk P w K mg base CX0 1 fB fdB P_Ro_become (spBecome C5)) (b_Ro_become : Binds K fdB P_Ro_become [])
    (D_need_from : DefAt K mg "need_from" s_need_from P_need_from fA fdA) (D_swelled : DefAt K mg "swelled" s_swelled P_swelled fS fdS) (g_FAR : mg "FAR" = some (.int 1000000000000000000 tok)) (B : Bn mg)
    (Tb : ErT K mg CF CB fI fdI "BadNumber" N_bninit) (nb : PySem.W.findIn K (.ref CB) "number" = some none) (GB : FnOk P w K mg base CX0 2 fI fdI N_bninit (spBnInit K)) : FnOk P w K mg base (L2.CX P w) 7 f fd P_Ro_swell (spSwellX C5 CB) := by
  have G_swelled : FnOk P w K mg base CX0 1 fS fdS P_swelled spSwelled := ok_swelled D_swelled
  refine F.okX sc_Ro_swell (fun vs H Q E h => ?_) (fun cdv A outer s H vs Q E hr h => ?_)
  · obtain ⟨g, st, n, c, S, k, x, rfl, _⟩ := h
    rfl
  · obtain ⟨g, st, n, c, S, k, x, rfl, ra, fx, n0, n1, bad, q⟩ := h
    have hu := hu_of hr
    obtain ⟨dx, ea⟩ := ra.at_g
    by_cases good : ∃ i : Int, x = .int i ∧ 1 ≤ i
    · obtain ⟨i, rfl, i1⟩ := good
      have G_need_from : FnOk P w K mg base CX0 1 fA fdA P_need_from spFrom0 := ok_from0 D_need_from B
      refine ⟨_, (pss_cons (ps_expr (pe_call G_need_from (hr.mono (by omega)) (by rfl) D_need_from.g D_need_from.F.kp D_need_from.b .nil pass0 (pa_cons pe_int (pa_cons (pv 1) pa_nil))))
      (pss_cons (ps_if (pt_cmpR op_gt (pe_op op_mul (pe_fld (pv 0) rfl) (pv 1)) (pe_glob (v := .int _) (by rfl) g_FAR ⟨_, rfl⟩) (nomark _)) (pss_one (ps_raise rfl (takes_of rfl rfl rfl rfl) (pmk_oex Tb.e.o Tb.iC Tb.tI GB (hr.mono (by omega)) Tb.bI .nil pass0 (by rfl) Tb.gC (pa_cons (pv 1) pa_nil)))) pss_nil)
      (pss_one (ps_expr (pe_meth (pv 0) TRo_.cl M_Ro_become G_Ro_become (hr.mono (by omega)) b_Ro_become .nil pass0 (pa_cons (pe_op op_mul (pe_fld (pv 0) rfl) (pv 1)) (pa_cons (pe_lock (pe_dc (own := [("k", 2)]) (g := gName 2) (by rfl) sc_Ro_swell.nd (pi_keys (pe_fld (pv 0) rfl)) (blkOk_by (own := [("k", 2)]) (N := N_Ro_swell) (sc := defScope s_Ro_swell) (by decide +kernel)) (fun _ _ _ _ _ => (pg_name (i := 2) sc_Ro_swell.nd rfl (.inl rfl))) (fun _ _ _ _ _ => pts_nil) (fun _ _ _ _ _ => (pv 2)) (fun _ _ _ _ _ => (pe_call G_swelled (hr.mono (by omega)) (by rfl) D_swelled.g D_swelled.F.kp D_swelled.b .nil pass0 (pa_cons (pe_dget hu (pe_fldK (K := K) rfl (pv 0) rfl) (pv 2) (fun _ _ => rfl)) (pa_cons (pv 1) pa_nil)))))) pa_nil))))))), ?_⟩
      have big : 1000000000000000000 < n * i := by
        rcases bad i rfl with h | h
        · omega
        · exact h
      refine ⟨.int i, rfl, 1, i, rfl, i1, .ref g, rfl, g, C5, dx, _, .int n, rfl, ea, TRo_.cl, TRo_.nE, rfl, .int i, rfl, n, i, rfl, rfl, .inl ⟨by omega, by omega⟩, n * i, 1000000000000000000, rfl, rfl, _, rfl, ite2 (fun _ => ?_) (fun h => absurd (decide_eq_true big) h)⟩
      exact bn_raiseE Tb.e nb fx (fun Q q => ⟨_, rfl, q⟩) q
    · have G_need_from : FnOk P w K mg base (L2.CX P w) 4 fA fdA P_need_from (spFromX CB CB CB) := ok_fromX D_need_from B Tb nb GB
      refine ⟨_, (pss_cons (ps_expr (pe_call G_need_from (hr.mono (by omega)) (by rfl) D_need_from.g D_need_from.F.kp D_need_from.b .nil (passes_call (takes_of rfl rfl rfl rfl) fun _ _ _ _ h => h) (pa_cons pe_int (pa_cons (pv 1) pa_nil))))
      (pss_cons (ps_if (pt_cmpR op_gt (pe_op op_mul (pe_fld (pv 0) rfl) (pv 1)) (pe_glob (v := .int _) (by rfl) g_FAR ⟨_, rfl⟩) (nomark _)) (pss_one (ps_raise rfl (takes_of rfl rfl rfl rfl) (pmk_oex Tb.e.o Tb.iC Tb.tI GB (hr.mono (by omega)) Tb.bI .nil pass0 (by rfl) Tb.gC (pa_cons (pv 1) pa_nil)))) pss_nil)
      (pss_one (ps_expr (pe_meth (pv 0) TRo_.cl M_Ro_become G_Ro_become (hr.mono (by omega)) b_Ro_become .nil pass0 (pa_cons (pe_op op_mul (pe_fld (pv 0) rfl) (pv 1)) (pa_cons (pe_lock (pe_dc (own := [("k", 2)]) (g := gName 2) (by rfl) sc_Ro_swell.nd (pi_keys (pe_fld (pv 0) rfl)) (blkOk_by (own := [("k", 2)]) (N := N_Ro_swell) (sc := defScope s_Ro_swell) (by decide +kernel)) (fun _ _ _ _ _ => (pg_name (i := 2) sc_Ro_swell.nd rfl (.inl rfl))) (fun _ _ _ _ _ => pts_nil) (fun _ _ _ _ _ => (pv 2)) (fun _ _ _ _ _ => (pe_call G_swelled (hr.mono (by omega)) (by rfl) D_swelled.g D_swelled.F.kp D_swelled.b .nil pass0 (pa_cons (pe_dget hu (pe_fldK (K := K) rfl (pv 0) rfl) (pv 2) (fun _ _ => rfl)) (pa_cons (pv 1) pa_nil)))))) pa_nil))))))), ?_⟩
      exact ⟨x, rfl, 1, x, rfl, fx, .inr ⟨fun i e => by
        by_cases z : i < 1
        · exact z
        · exact absurd ⟨i, e, by omega⟩ good, takesB_of q⟩⟩
end

/-! ### _law_refusals (behind rt2_refuse, 39k_keep) -/
def I29 (CB : Addr) : Addr → Fds → Str → (V → Hp → Prop) → Prop := fun C fs word Fld => ∃ x, C = CB ∧ fs = bnF x ∧ word = "BadNumber" ∧ Fld = fun v _ => v = x
section
variable {P : Program} {w : World} {K : PySem.W.Frag} {mg : Str → Option Value} {base : Heap}
theorem whyI29 {f CF CB fI ac0 ac1 ac2 : Addr} {fd fdI : FuncData} {N : List Str} (D : DefAt K mg "_law_fields" s_fields P_fields f fd) (B : Bn mg) (Tb : ErT K mg CF CB fI fdI "BadNumber" N) (Ob : OthBnE K mg CB ac0 ac1 ac2) (n1 : PySem.W.findIn K (.ref CB) "number" = some none) :
    ∀ C fs word Fld, I29 CB C fs word Fld → WhyI P w K mg base CF f fd C fs word Fld := by
  rintro C fs word Fld ⟨x, rfl, rfl, rfl, rfl⟩
  exact ⟨Tb.m, Tb.x, Tb.e.w, bn_wordE x, fun v H H' _ h => h, fun p dd hH => ok_fieldsBnE x D B Tb Ob n1 hH⟩
end
theorem RoAt.kdR {C5 : Addr} {H H' : Hp} {g st : Addr} {n : Int} {S : StL} {k : V} {c : Int} (h : RoAt C5 H g st n S k c) (s : KeepD H H') : RoAt C5 H' g st n S k c := by
  obtain ⟨⟨dx, e⟩, kvs, e1, e2⟩ := h
  exact ⟨⟨dx, s _ _ e (fun _ z => by cases z) (fun _ _ _ _ z => by cases z)⟩, kvs, s _ _ e1 (fun _ z => by cases z) (fun _ _ _ _ z => by cases z), e2.keep s.tup⟩
def dvV : V → PyData
  | .int i => .int i
  | .bl b => .bool b
  | _ => .none
theorem dvV_rp {x : V} (h : FV x) (H : Hp) (m : Nat) : Rp H m x (dvV x) := by
  rcases h with ⟨i, rfl, _⟩ | ⟨b, rfl⟩
  · exact .int _ _
  · exact .bl _ _
theorem Whs.rp29 {G : Hp} : ∀ {ts : List Addr} {l : List (Str × V)}, Whs G ts l → (∀ p ∈ l, FV p.2) → RpAll G 2 (ts.map V.ref) (l.map fun p => .tuple [.str p.1, dvV p.2])
  | _, _, .nil, _ => .nil _
  | _, _, .cons h r, hf => .cons (.tup h (by show 2 ≤ 100000; decide) (.cons (.str _ _) (.cons (dvV_rp (hf _ List.mem_cons_self) _ _) (.nil _)))) (Whs.rp29 r fun p hp => hf p (List.mem_cons_of_mem _ hp))
theorem fv29 {i : Int} (h : i.natAbs < 2 ^ 100) : FV (.int i) := .inl ⟨i, rfl, by
  by_cases z : i.natAbs = 0
  · rw [z]
    decide
  · exact Nat.lt_trans ((Nat.log2_lt z).mpr h) (by decide)⟩
theorem dv29 {n : Int} (n1 : 1 ≤ n) (n2 : n ≤ 1000) : CDivW 1000000000000000000 n :=
  ⟨by omega, Nat.lt_trans ((Nat.log2_lt (by omega)).mpr (show n.natAbs < 2 ^ 10 by omega)) (by decide)⟩
abbrev bnL (xs : List V) : List (Str × V) := xs.map fun x => ("BadNumber", x)
-- LAMHEAD: (T := T) (TT := TWhyM (I29 CB)) (k := 12) (by rfl) D_why.g D_why.F.kp lkW hcW D_why.b sc_why rfl (.inl rfl) (why_givesM (k := 3) (hr.mono (by omega)) Tb.gF D_fields (whyI29 D_fields B Tb Ob nb)) TB rfl mT huT (hr.mono (by omega)) (show LamX.LamS (defScope s_refusals) _ from LamX.lamS_by (by decide +kernel)) rfl (fun _ _ _ _ _ => rfl)
abbrev N_refusals : List Str := ["_law_draw", "_law_road_here", "_law_length", "_law_asked", "_law_due", "_law_odd_here", "_law_number"]
abbrev P_refusals : List Str := ["_law_draw", "_law_road_here", "_law_length"]
theorem sc_refusals : FnScope N_refusals P_refusals (defScope s_refusals) := ⟨rfl, rfl, rfl, by decide +kernel, rfl, by decide +kernel, by decide +kernel⟩
abbrev refQ29 : Str := (("_law_refusals" : Str) ++ ".<locals>.") ++ "<lambda>"
def spRefs29 (C5 : Addr) (T : List (Addr × Str)) : Sp := fun vs H Q _ => ∃ (d l g st : Addr) (n c : Int) (S : StL) (k : V), vs = [.ref d, .ref g, .int n] ∧ Draw H d l ∧ RoAt C5 H g st n S k c ∧ 0 ≤ n ∧ n ≤ 1000 ∧ LamX.Tabs T H ∧ ∀ H', Draw H' d l → LamX.Tabs T H' → KeepD H H' → Q (.bl true) H'
section
variable {P : Program} {w : World} {K : PySem.W.Frag} {mg : Str → Option Value} {base : Heap}
theorem ok_refs29 {f fO fP fW fF fL fG fT fS CF CB C5 c Pt bI a1 a2 a3 : Addr} {fdO fdP fdW fdF fdL fdG fdT fdS bdI : FuncData} {T : List (Addr × Str)} {kV doc pm ct oc : Value} {an od : Option Addr} {osl : Array (Option Value)}
    (lk : K.lookup f = some ⟨oc, od, .func (PySem.W.fnOf "_law_refusals" "_law_refusals" (defArgs s_refusals) (defBody s_refusals) (defScope s_refusals) .none kV doc pm an (.ref c) ct), osl⟩) (hcd : PySem.W.codeIn K (.ref c) "_law_refusals" = true) (TB : LamX.TabB base mg c Pt) (mT : (Pt, refQ29) ∈ T) (huT : ∀ p ∈ T, p.1 = Pt → p.2 = refQ29)
    (D_odd : DefAt K mg "_law_odd" s_odd P_odd fO fdO) (D_pull : DefAt K mg "_law_pull" s_pull P_pull fP fdP) (D_why : DefAt K mg "_law_why" s_why P_why fW fdW) (D_fields : DefAt K mg "_law_fields" s_fields P_fields fF fdF) (D_like : DefAt K mg "_law_like" s_like P_like fL fdL)
    (Tb : ErT K mg CF CB bI bdI "BadNumber" N_bninit) (Ob : OthBnE K mg CB a1 a2 a3) (nb : PySem.W.findIn K (.ref CB) "number" = some none)
    (TRo_ : RoT K mg C5) (M_Ro_grow : Meth K C5 "grow" fG) (GX_Ro_grow : FnOk P w K mg base (L2.CX P w) 7 fG fdG P_Ro_grow (spGrowX C5 CB)) (b_Ro_grow : Binds K fdG P_Ro_grow [])
    (M_Ro_trim : Meth K C5 "trim" fT) (GX_Ro_trim : FnOk P w K mg base (L2.CX P w) 7 fT fdT P_Ro_trim (spTrimX C5 CB)) (b_Ro_trim : Binds K fdT P_Ro_trim [])
    (M_Ro_swell : Meth K C5 "swell" fS) (GX_Ro_swell : FnOk P w K mg base (L2.CX P w) 7 fS fdS P_Ro_swell (spSwellX C5 CB)) (b_Ro_swell : Binds K fdS P_Ro_swell []) (B : Bn mg) :
    FnOk P w K mg base CX0 18 f (PySem.W.fnOf "_law_refusals" "_law_refusals" (defArgs s_refusals) (defBody s_refusals) (defScope s_refusals) .none kV doc pm an (.ref c) ct) P_refusals (spRefs29 C5 T) := by
  have G_like : FnOk P w K mg base CX0 4 fL fdL P_like (spLike 3) := ok_like D_like B 3
  have G_odd : FnOk P w K mg base CX0 2 fO fdO P_odd spOddL := ok_oddL D_odd D_pull B
  obtain ⟨ocW, odW, kVW, docW, pmW, anW, cdvW, ctW, oslW, rfl, lkW, hcW⟩ := D_why.F.ex
  refine fn_of lk hcd sc_refusals (fun vs H Q E h => ?_) (fun A outer s H vs Q E hr h => ?_)
  · obtain ⟨d, l, g, st, n, c, S, k, rfl, _⟩ := h
    rfl
  · obtain ⟨d, l, g, st, n, cc, S, k, rfl, hD, ra, np, n18, hT, q⟩ := h
    suffices hh : ∃ t, PSs (cxOf CX0 P w K mg base N_refusals "_law_refusals" (defScope s_refusals) f (.ref c) A outer s H E).nox (defBody s_refusals) t ∧ t { nx := fun _ H' => Q .non H', rt := Q } (L2.start N_refusals [.ref d, .ref g, .int n]) H by
      obtain ⟨t, h1, h2⟩ := hh
      exact ⟨t, h1.nox, h2⟩
    refine ⟨_, (C8.pss_cut (ps_set (i := 5) sc_refusals.nd rfl (.inr rfl) (pe_call G_odd (hr.mono (by omega)) (by rfl) D_odd.g D_odd.F.kp D_odd.b .nil pass0 (pa_cons (pv 0) pa_nil)))
      (C8.pss_cut (ps_set (i := 3) sc_refusals.nd rfl (.inl rfl) (pe_lst (pa_cons (LamX.pe_lamcall (T := T) (TT := TWhyM (I29 CB)) (k := 12) (by rfl) D_why.g D_why.F.kp lkW hcW D_why.b sc_why rfl (.inl rfl) (why_givesM (k := 3) (hr.mono (by omega)) Tb.gF D_fields (whyI29 D_fields B Tb Ob nb)) TB rfl mT huT (hr.mono (by omega)) (show LamX.LamS (defScope s_refusals) _ from LamX.lamS_by (by decide +kernel)) rfl (fun _ _ _ _ _ => rfl) (fun A1 outer1 s1 H1 E1 f1 c1 hr1 => (pe_meth (pv 1) TRo_.cl M_Ro_grow GX_Ro_grow (hr1.mono (by omega)) b_Ro_grow .nil (passes_call (takes_of rfl rfl rfl rfl) fun _ _ _ _ h => h) (pa_cons (pv 5) pa_nil)))) pa_nil)))
      (C8.pss_cut (ps_expr (pe_bm PySem.F.plainAttrs_list PySem.F.slot_list_append PySem.F.type_list_append mt_append (pv 3) (pa_cons (LamX.pe_lamcall (T := T) (TT := TWhyM (I29 CB)) (k := 12) (by rfl) D_why.g D_why.F.kp lkW hcW D_why.b sc_why rfl (.inl rfl) (why_givesM (k := 3) (hr.mono (by omega)) Tb.gF D_fields (whyI29 D_fields B Tb Ob nb)) TB rfl mT huT (hr.mono (by omega)) (show LamX.LamS (defScope s_refusals) _ from LamX.lamS_by (by decide +kernel)) rfl (fun _ _ _ _ _ => rfl) (fun A1 outer1 s1 H1 E1 f1 c1 hr1 => (pe_meth (pv 1) TRo_.cl M_Ro_trim GX_Ro_trim (hr1.mono (by omega)) b_Ro_trim .nil (passes_call (takes_of rfl rfl rfl rfl) fun _ _ _ _ h => h) (pa_cons (pv 5) pa_nil)))) pa_nil)))
      (C8.pss_cut (ps_expr (pe_bm PySem.F.plainAttrs_list PySem.F.slot_list_append PySem.F.type_list_append mt_append (pv 3) (pa_cons (LamX.pe_lamcall (T := T) (TT := TWhyM (I29 CB)) (k := 12) (by rfl) D_why.g D_why.F.kp lkW hcW D_why.b sc_why rfl (.inl rfl) (why_givesM (k := 3) (hr.mono (by omega)) Tb.gF D_fields (whyI29 D_fields B Tb Ob nb)) TB rfl mT huT (hr.mono (by omega)) (show LamX.LamS (defScope s_refusals) _ from LamX.lamS_by (by decide +kernel)) rfl (fun _ _ _ _ _ => rfl) (fun A1 outer1 s1 H1 E1 f1 c1 hr1 => (pe_meth (pv 1) TRo_.cl M_Ro_trim GX_Ro_trim (hr1.mono (by omega)) b_Ro_trim .nil (passes_call (takes_of rfl rfl rfl rfl) fun _ _ _ _ h => h) (pa_cons (pe_op op_add (pv 2) pe_int) pa_nil)))) pa_nil)))
      (C8.pss_cut (ps_expr (pe_bm PySem.F.plainAttrs_list PySem.F.slot_list_append PySem.F.type_list_append mt_append (pv 3) (pa_cons (LamX.pe_lamcall (T := T) (TT := TWhyM (I29 CB)) (k := 12) (by rfl) D_why.g D_why.F.kp lkW hcW D_why.b sc_why rfl (.inl rfl) (why_givesM (k := 3) (hr.mono (by omega)) Tb.gF D_fields (whyI29 D_fields B Tb Ob nb)) TB rfl mT huT (hr.mono (by omega)) (show LamX.LamS (defScope s_refusals) _ from LamX.lamS_by (by decide +kernel)) rfl (fun _ _ _ _ _ => rfl) (fun A1 outer1 s1 H1 E1 f1 c1 hr1 => (pe_meth (pv 1) TRo_.cl M_Ro_swell GX_Ro_swell (hr1.mono (by omega)) b_Ro_swell .nil (passes_call (takes_of rfl rfl rfl rfl) fun _ _ _ _ h => h) (pa_cons pe_int pa_nil)))) pa_nil)))
      (C8.pss_cut (ps_expr (pe_bm PySem.F.plainAttrs_list PySem.F.slot_list_append PySem.F.type_list_append mt_append (pv 3) (pa_cons (LamX.pe_lamcall (T := T) (TT := TWhyM (I29 CB)) (k := 12) (by rfl) D_why.g D_why.F.kp lkW hcW D_why.b sc_why rfl (.inl rfl) (why_givesM (k := 3) (hr.mono (by omega)) Tb.gF D_fields (whyI29 D_fields B Tb Ob nb)) TB rfl mT huT (hr.mono (by omega)) (show LamX.LamS (defScope s_refusals) _ from LamX.lamS_by (by decide +kernel)) rfl (fun _ _ _ _ _ => rfl) (fun A1 outer1 s1 H1 E1 f1 c1 hr1 => (pe_meth (pv 1) TRo_.cl M_Ro_grow GX_Ro_grow (hr1.mono (by omega)) b_Ro_grow .nil (passes_call (takes_of rfl rfl rfl rfl) fun _ _ _ _ h => h) (pa_cons (pe_op op_add (pe_op op_sub (pe_op op_pow pe_int pe_int) (pv 2)) pe_int) pa_nil)))) pa_nil)))
      (C8.pss_cut (ps_set (i := 4) sc_refusals.nd rfl (.inl rfl) (pe_lst (pa_cons (pv 5) (pa_cons (pv 5) (pa_cons (pe_op op_add (pv 2) pe_int) (pa_cons pe_int (pa_cons (pe_op op_add (pe_op op_sub (pe_op op_pow pe_int pe_int) (pv 2)) pe_int) pa_nil)))))))
      (C8.pss_cut (ps_if (pt_cmpR op_gt (pv 2) pe_int (nomark _)) (C8.pss_cut (ps_expr (pe_bm PySem.F.plainAttrs_list PySem.F.slot_list_append PySem.F.type_list_append mt_append (pv 3) (pa_cons (LamX.pe_lamcall (T := T) (TT := TWhyM (I29 CB)) (k := 12) (by rfl) D_why.g D_why.F.kp lkW hcW D_why.b sc_why rfl (.inl rfl) (why_givesM (k := 3) (hr.mono (by omega)) Tb.gF D_fields (whyI29 D_fields B Tb Ob nb)) TB rfl mT huT (hr.mono (by omega)) (show LamX.LamS (defScope s_refusals) _ from LamX.lamS_by (by decide +kernel)) rfl (fun _ _ _ _ _ => rfl) (fun A1 outer1 s1 H1 E1 f1 c1 hr1 => (pe_meth (pv 1) TRo_.cl M_Ro_swell GX_Ro_swell (hr1.mono (by omega)) b_Ro_swell .nil (passes_call (takes_of rfl rfl rfl rfl) fun _ _ _ _ h => h) (pa_cons (pv 5) pa_nil)))) pa_nil)))
      (C8.pss_cut (ps_expr (pe_bm PySem.F.plainAttrs_list PySem.F.slot_list_append PySem.F.type_list_append mt_append (pv 3) (pa_cons (LamX.pe_lamcall (T := T) (TT := TWhyM (I29 CB)) (k := 12) (by rfl) D_why.g D_why.F.kp lkW hcW D_why.b sc_why rfl (.inl rfl) (why_givesM (k := 3) (hr.mono (by omega)) Tb.gF D_fields (whyI29 D_fields B Tb Ob nb)) TB rfl mT huT (hr.mono (by omega)) (show LamX.LamS (defScope s_refusals) _ from LamX.lamS_by (by decide +kernel)) rfl (fun _ _ _ _ _ => rfl) (fun A1 outer1 s1 H1 E1 f1 c1 hr1 => (pe_meth (pv 1) TRo_.cl M_Ro_swell GX_Ro_swell (hr1.mono (by omega)) b_Ro_swell .nil (passes_call (takes_of rfl rfl rfl rfl) fun _ _ _ _ h => h) (pa_cons (pe_op op_add (pe_op op_fdivW (pe_op op_pow pe_int pe_int) (pv 2)) pe_int) pa_nil)))) pa_nil)))
      (pss_one (ps_set (i := 4) sc_refusals.nd rfl (.inl rfl) (pe_op op_cat (pv 4) (pe_lst (pa_cons (pv 5) (pa_cons (pe_op op_add (pe_op op_fdivW (pe_op op_pow pe_int pe_int) (pv 2)) pe_int) pa_nil)))))))) pss_nil)
      (pss_one (ps_ret (pe_call G_like (hr.mono (by omega)) (by rfl) D_like.g D_like.F.kp D_like.b .nil pass0 (pa_cons (pv 3) (pa_cons (pe_lc (own := [("_law_number", 6)]) (g := gName 6) (by rfl) sc_refusals.nd (pi_list (pv 4)) (blkOk_by (own := [("_law_number", 6)]) (N := N_refusals) (sc := defScope s_refusals) (by decide +kernel)) (fun _ _ _ _ _ => (pg_name (i := 6) sc_refusals.nd rfl (.inl rfl))) (fun _ _ _ _ _ => pts_nil) (fun _ _ _ _ _ => (pe_tup (pa_cons pe_str (pa_cons (pv 6) pa_nil))))) pa_nil))))))))))))), ?_⟩
    -- what is odd
    refine ⟨fun σ G => ∃ x : V, IB x ∧ ¬ goodLen x ∧ σ = [some (.ref d), some (.ref g), some (.int n), none, none, some x, none] ∧ Draw G d l ∧ LamX.Tabs T G ∧ RoAt C5 G g st n S k cc ∧ KeepD H G, ?_, ?_⟩
    · exact ⟨.ref d, rfl, d, l, rfl, hD, fun x G1 ix nx D1 k1 => ⟨x, ix, nx, rfl, D1, tabs_keep hT hD k1, ra.kdR (.draw hD k1), .draw hD k1⟩⟩
    clear hD hT ra
    rintro σ G1 ⟨x, ix, nx, rfl, D1, T1, ra1, K1⟩
    have fx := ix.fv
    have nb1 : ∀ m : Int, 0 ≤ m → ∀ i : Int, x = .int i → i < 0 ∨ 1000000000000000000 - m < i := fun m m0 i e => by
      by_cases z : i < 0
      · exact .inl z
      · refine .inr ?_
        by_cases y : i ≤ 1000000000000000000
        · exact absurd ⟨i, e, by omega, y⟩ nx
        · omega
    have nb2 : ∀ i : Int, x = .int i → i < 0 ∨ n < i := fun i e => by
      rcases nb1 0 (by decide) i e with z | z
      · exact .inl z
      · exact .inr (by omega)
    refine ⟨fun σ G => ∃ (A : Addr) (ts : List Addr), σ = [some (.ref d), some (.ref g), some (.int n), some (.ref A), none, some x, none] ∧ (∀ o, G1 A = some o → (∀ ps, o ≠ .tbl ps) → False) ∧ LamX.ExtN G1 G ∧ LamX.Tabs T G ∧ G A = some (.lst (ts.map V.ref)) ∧ Whs G ts (bnL [x]), ?_, ?_⟩
    · refine ⟨T1, fun HE eN TE t0 n0' Z hZ => ?_⟩
      have s0 := same_upd (H := HE) (o := .tup [.str "", .non]) n0'
      have La := (ra1.extN eN).same s0
      obtain ⟨dx1, hg1⟩ := La.at_g
      refine ⟨.ref g, rfl, g, dx1, _, rfl, hg1, rfl, x, rfl, g, st, n, cc, S, k, x, rfl, La, fx, nb1 n np, fun HZ dd sZ nd ed => ⟨CB, dd, bnF (x), "BadNumber", _, rfl, rfl, ed, ⟨x, rfl, rfl, rfl, rfl⟩, fun HG t1 v' sG hv e1 => ?_⟩⟩
      rw [hv] at e1
      refine ⟨by show 1 ≤ sizeLine; decide, fun A nA => ?_⟩
      have sE := s0.trans (sZ.trans sG)
      have sA := sE.trans (same_upd (o := .lst [.ref t1]) nA)
      refine ⟨A, [t1], rfl, fun o h1 h2 => ?_, fun b o hb ht => sA _ _ (eN _ _ hb ht), TE.ext sA, upd_same, .cons (same_upd nA _ _ e1) .nil⟩
      have := sE _ _ (eN _ _ h1 h2)
      rw [nA] at this
      cases this
    rintro σ G ⟨A, ts, rfl, nA, xG, TG, eA, wh⟩
    refine ⟨fun σ G => ∃ (A : Addr) (ts : List Addr), σ = [some (.ref d), some (.ref g), some (.int n), some (.ref A), none, some x, none] ∧ (∀ o, G1 A = some o → (∀ ps, o ≠ .tbl ps) → False) ∧ LamX.ExtN G1 G ∧ LamX.Tabs T G ∧ G A = some (.lst (ts.map V.ref)) ∧ Whs G ts (bnL [x, x]), ?_, ?_⟩
    · refine ⟨.ref A, rfl, .inl ⟨rfl, _, SqL.of eA⟩, TG, fun HE eN TE t0 n0' Z hZ => ?_⟩
      have s0 := same_upd (H := HE) (o := .tup [.str "", .non]) n0'
      have La := ((ra1.extN xG).extN eN).same s0
      have lts := wh.len
      obtain ⟨dx1, hg1⟩ := La.at_g
      refine ⟨.ref g, rfl, g, dx1, _, rfl, hg1, rfl, x, rfl, g, st, n, cc, S, k, x, rfl, La, fx, nb2, fun HZ dd sZ nd ed => ⟨CB, dd, bnF (x), "BadNumber", _, rfl, rfl, ed, ⟨x, rfl, rfl, rfl, rfl⟩, fun HG t1 v' sG hv e1 => ?_⟩⟩
      rw [hv] at e1
      obtain ⟨eG, a1, a2, a3, a4⟩ := ask_step nA xG eA wh eN TE (s0.trans (sZ.trans sG)) e1
      exact ⟨A, _, _, rfl, rfl, eG, sz_lt (by rw [List.length_map, lts]; show 1 < _; decide), A, _, rfl, nA, a1, a2, a3, a4⟩
    clear eA wh xG TG nA A ts G
    rintro σ G ⟨A, ts, rfl, nA, xG, TG, eA, wh⟩
    refine ⟨fun σ G => ∃ (A : Addr) (ts : List Addr), σ = [some (.ref d), some (.ref g), some (.int n), some (.ref A), none, some x, none] ∧ (∀ o, G1 A = some o → (∀ ps, o ≠ .tbl ps) → False) ∧ LamX.ExtN G1 G ∧ LamX.Tabs T G ∧ G A = some (.lst (ts.map V.ref)) ∧ Whs G ts (bnL [x, x, .int (n + 1)]), ?_, ?_⟩
    · refine ⟨.ref A, rfl, .inl ⟨rfl, _, SqL.of eA⟩, TG, fun HE eN TE t0 n0' Z hZ => ?_⟩
      have s0 := same_upd (H := HE) (o := .tup [.str "", .non]) n0'
      have La := ((ra1.extN xG).extN eN).same s0
      have lts := wh.len
      obtain ⟨dx1, hg1⟩ := La.at_g
      refine ⟨.ref g, rfl, g, dx1, _, rfl, hg1, rfl, .int n, rfl, n, 1, rfl, rfl, g, st, n, cc, S, k, .int (n + 1), rfl, La, fv29 (by omega), fun i e => (by rw [← V.int.inj e]; exact .inr (by omega)), fun HZ dd sZ nd ed => ⟨CB, dd, bnF (.int (n + 1)), "BadNumber", _, rfl, rfl, ed, ⟨.int (n + 1), rfl, rfl, rfl, rfl⟩, fun HG t1 v' sG hv e1 => ?_⟩⟩
      rw [hv] at e1
      obtain ⟨eG, a1, a2, a3, a4⟩ := ask_step nA xG eA wh eN TE (s0.trans (sZ.trans sG)) e1
      exact ⟨A, _, _, rfl, rfl, eG, sz_lt (by rw [List.length_map, lts]; show 2 < _; decide), A, _, rfl, nA, a1, a2, a3, a4⟩
    clear eA wh xG TG nA A ts G
    rintro σ G ⟨A, ts, rfl, nA, xG, TG, eA, wh⟩
    refine ⟨fun σ G => ∃ (A : Addr) (ts : List Addr), σ = [some (.ref d), some (.ref g), some (.int n), some (.ref A), none, some x, none] ∧ (∀ o, G1 A = some o → (∀ ps, o ≠ .tbl ps) → False) ∧ LamX.ExtN G1 G ∧ LamX.Tabs T G ∧ G A = some (.lst (ts.map V.ref)) ∧ Whs G ts (bnL [x, x, .int (n + 1), .int 0]), ?_, ?_⟩
    · refine ⟨.ref A, rfl, .inl ⟨rfl, _, SqL.of eA⟩, TG, fun HE eN TE t0 n0' Z hZ => ?_⟩
      have s0 := same_upd (H := HE) (o := .tup [.str "", .non]) n0'
      have La := ((ra1.extN xG).extN eN).same s0
      have lts := wh.len
      obtain ⟨dx1, hg1⟩ := La.at_g
      refine ⟨.ref g, rfl, g, dx1, _, rfl, hg1, rfl, g, st, n, cc, S, k, .int 0, rfl, La, fv29 (by decide), np, by omega, fun i e => (by rw [← V.int.inj e]; exact .inl (by decide)), fun HZ dd sZ nd ed => ⟨CB, dd, bnF (.int 0), "BadNumber", _, rfl, rfl, ed, ⟨.int 0, rfl, rfl, rfl, rfl⟩, fun HG t1 v' sG hv e1 => ?_⟩⟩
      rw [hv] at e1
      obtain ⟨eG, a1, a2, a3, a4⟩ := ask_step nA xG eA wh eN TE (s0.trans (sZ.trans sG)) e1
      exact ⟨A, _, _, rfl, rfl, eG, sz_lt (by rw [List.length_map, lts]; show 3 < _; decide), A, _, rfl, nA, a1, a2, a3, a4⟩
    clear eA wh xG TG nA A ts G
    rintro σ G ⟨A, ts, rfl, nA, xG, TG, eA, wh⟩
    refine ⟨fun σ G => ∃ (A : Addr) (ts : List Addr), σ = [some (.ref d), some (.ref g), some (.int n), some (.ref A), none, some x, none] ∧ (∀ o, G1 A = some o → (∀ ps, o ≠ .tbl ps) → False) ∧ LamX.ExtN G1 G ∧ LamX.Tabs T G ∧ G A = some (.lst (ts.map V.ref)) ∧ Whs G ts (bnL [x, x, .int (n + 1), .int 0, .int (1000000000000000000 - n + 1)]), ?_, ?_⟩
    · refine ⟨.ref A, rfl, .inl ⟨rfl, _, SqL.of eA⟩, TG, fun HE eN TE t0 n0' Z hZ => ?_⟩
      have s0 := same_upd (H := HE) (o := .tup [.str "", .non]) n0'
      have La := ((ra1.extN xG).extN eN).same s0
      have lts := wh.len
      obtain ⟨dx1, hg1⟩ := La.at_g
      refine ⟨.ref g, rfl, g, dx1, _, rfl, hg1, rfl, 10, 18, rfl, rfl, ⟨by decide, by decide, by decide⟩, .int n, rfl, _, _, rfl, rfl, 1000000000000000000 - n, 1, rfl, rfl, g, st, n, cc, S, k, .int (1000000000000000000 - n + 1), rfl, La, fv29 (by omega), fun i e => (by rw [← V.int.inj e]; exact .inr (by omega)), fun HZ dd sZ nd ed => ⟨CB, dd, bnF (.int (1000000000000000000 - n + 1)), "BadNumber", _, rfl, rfl, ed, ⟨.int (1000000000000000000 - n + 1), rfl, rfl, rfl, rfl⟩, fun HG t1 v' sG hv e1 => ?_⟩⟩
      rw [hv] at e1
      obtain ⟨eG, a1, a2, a3, a4⟩ := ask_step nA xG eA wh eN TE (s0.trans (sZ.trans sG)) e1
      exact ⟨A, _, _, rfl, rfl, eG, sz_lt (by rw [List.length_map, lts]; show 4 < _; decide), A, _, rfl, nA, a1, a2, a3, a4⟩
    clear eA wh xG TG nA A ts G
    rintro σ G ⟨A, ts, rfl, nA, xG, TG, eA, wh⟩
    -- due
    refine ⟨fun σ G => ∃ (A M : Addr) (ts : List Addr), σ = [some (.ref d), some (.ref g), some (.int n), some (.ref A), some (.ref M), some x, none] ∧ (∀ o, G1 A = some o → (∀ ps, o ≠ .tbl ps) → False) ∧ M ≠ A ∧ LamX.ExtN G1 G ∧ LamX.Tabs T G ∧ G A = some (.lst (ts.map V.ref)) ∧ Whs G ts (bnL [x, x, .int (n + 1), .int 0, .int (1000000000000000000 - n + 1)]) ∧ G M = some (.lst [x, x, .int (n + 1), .int 0, .int (1000000000000000000 - n + 1)]), ?_, ?_⟩
    · refine ⟨x, rfl, x, rfl, .int n, rfl, n, 1, rfl, rfl, 10, 18, rfl, rfl, ⟨by decide, by decide, by decide⟩, .int n, rfl, _, _, rfl, rfl, 1000000000000000000 - n, 1, rfl, rfl, by show 5 ≤ sizeLine; decide, fun M nM => ?_⟩
      have sM := same_upd (H := G) (o := .lst [x, x, .int (n + 1), .int 0, .int (1000000000000000000 - n + 1)]) nM
      exact ⟨A, M, ts, rfl, nA, (ne_of_none eA nM).symm, fun b o hb ht => sM _ _ (xG _ _ hb ht), TG.ext sM, sM _ _ eA, wh.keep fun b xs hb => sM _ _ hb, upd_same⟩
    clear eA wh xG TG nA A ts G
    rintro σ G ⟨A, M, ts, rfl, nA, nMA, xG, TG, eA, wh, eM⟩
    -- more
    refine ⟨fun σ G => ∃ (A M : Addr) (ts : List Addr) (xs : List V), σ = [some (.ref d), some (.ref g), some (.int n), some (.ref A), some (.ref M), some x, none] ∧ LamX.ExtN G1 G ∧ LamX.Tabs T G ∧ G A = some (.lst (ts.map V.ref)) ∧ Whs G ts (bnL xs) ∧ G M = some (.lst xs) ∧ (∀ v ∈ xs, FV v) ∧ xs.length ≤ 7, ?_, ?_⟩
    · have f5 : ∀ v ∈ ([x, x, .int (n + 1), .int 0, .int (1000000000000000000 - n + 1)] : List V), FV v := fun v hv => by
        rcases List.mem_cons.mp hv with rfl | hv
        · exact fx
        rcases List.mem_cons.mp hv with rfl | hv
        · exact fx
        rcases List.mem_cons.mp hv with rfl | hv
        · exact fv29 (by omega)
        rcases List.mem_cons.mp hv with rfl | hv
        · exact fv29 (by decide)
        rw [List.mem_singleton.mp hv]
        exact fv29 (by omega)
      refine ⟨.int n, rfl, n, 1, rfl, rfl, _, rfl, ite2 (fun h1 => ?_) (fun _ => ⟨A, M, ts, _, rfl, xG, TG, eA, wh, eM, f5, by show 5 ≤ 7; decide⟩)⟩
      have h1 : n > 1 := of_decide_eq_true h1
      have dv0 : 0 ≤ 1000000000000000000 / n := Int.ediv_nonneg (by decide) (by omega)
      have dv1 : 1000000000000000000 / n ≤ 1000000000000000000 := Int.ediv_le_self _ (by decide)
      have dvl : 1000000000000000000 < n * (1000000000000000000 / n + 1) := by
        have := Int.lt_mul_ediv_self_add (x := 1000000000000000000) (k := n) (by omega)
        rw [Int.mul_add]
        omega
      refine ⟨fun σ G => ∃ (A M : Addr) (ts : List Addr), σ = [some (.ref d), some (.ref g), some (.int n), some (.ref A), some (.ref M), some x, none] ∧ (∀ o, G1 A = some o → (∀ ps, o ≠ .tbl ps) → False) ∧ M ≠ A ∧ LamX.ExtN G1 G ∧ LamX.Tabs T G ∧ G A = some (.lst (ts.map V.ref)) ∧ Whs G ts (bnL [x, x, .int (n + 1), .int 0, .int (1000000000000000000 - n + 1), x]) ∧ G M = some (.lst [x, x, .int (n + 1), .int 0, .int (1000000000000000000 - n + 1)]), ?_, ?_⟩
      · refine ⟨.ref A, rfl, .inl ⟨rfl, _, SqL.of eA⟩, TG, fun HE eN TE t0 n0' Z hZ => ?_⟩
        have s0 := same_upd (H := HE) (o := .tup [.str "", .non]) n0'
        have La := ((ra1.extN xG).extN eN).same s0
        have lts := wh.len
        obtain ⟨dx1, hg1⟩ := La.at_g
        refine ⟨.ref g, rfl, g, dx1, _, rfl, hg1, rfl, x, rfl, g, st, n, cc, S, k, x, rfl, La, fx, np, by omega, fun i e => ?_, fun HZ dd sZ nd ed => ⟨CB, dd, bnF x, "BadNumber", _, rfl, rfl, ed, ⟨x, rfl, rfl, rfl, rfl⟩, fun HG t1 v' sG hv e1 => ?_⟩⟩
        · rcases nb1 0 (by decide) i e with z | z
          · exact .inl (by omega)
          · refine .inr ?_
            have := Int.mul_le_mul (show (1 : Int) ≤ n by omega) (show 1000000000000000001 ≤ i by omega) (by decide) (by omega)
            omega
        rw [hv] at e1
        have eM1 : HG M = some (.lst [x, x, .int (n + 1), .int 0, .int (1000000000000000000 - n + 1)]) := sG _ _ (sZ _ _ (s0 _ _ (eN _ _ eM (fun _ z => by cases z))))
        obtain ⟨eG, a1, a2, a3, a4⟩ := ask_step nA xG eA wh eN TE (s0.trans (sZ.trans sG)) e1
        refine ⟨A, _, _, rfl, rfl, eG, sz_lt (by rw [List.length_map, lts]; show 5 < _; decide), A, M, _, rfl, nA, nMA, a1, a2, a3, a4, ?_⟩
        rw [upd_ne nMA]
        exact eM1
      clear eA wh xG TG nA A ts eM nMA M G
      rintro σ G ⟨A, M, ts, rfl, nA, nMA, xG, TG, eA, wh, eM⟩
      refine ⟨fun σ G => ∃ (A M : Addr) (ts : List Addr), σ = [some (.ref d), some (.ref g), some (.int n), some (.ref A), some (.ref M), some x, none] ∧ (∀ o, G1 A = some o → (∀ ps, o ≠ .tbl ps) → False) ∧ M ≠ A ∧ LamX.ExtN G1 G ∧ LamX.Tabs T G ∧ G A = some (.lst (ts.map V.ref)) ∧ Whs G ts (bnL [x, x, .int (n + 1), .int 0, .int (1000000000000000000 - n + 1), x, .int (1000000000000000000 / n + 1)]) ∧ G M = some (.lst [x, x, .int (n + 1), .int 0, .int (1000000000000000000 - n + 1)]), ?_, ?_⟩
      · refine ⟨.ref A, rfl, .inl ⟨rfl, _, SqL.of eA⟩, TG, fun HE eN TE t0 n0' Z hZ => ?_⟩
        have s0 := same_upd (H := HE) (o := .tup [.str "", .non]) n0'
        have La := ((ra1.extN xG).extN eN).same s0
        have lts := wh.len
        obtain ⟨dx1, hg1⟩ := La.at_g
        refine ⟨.ref g, rfl, g, dx1, _, rfl, hg1, rfl, 10, 18, rfl, rfl, ⟨by decide, by decide, by decide⟩, .int n, rfl, _, n, rfl, rfl, dv29 (by omega) (by omega), 1000000000000000000 / n, 1, rfl, rfl, g, st, n, cc, S, k, .int (1000000000000000000 / n + 1), rfl, La, fv29 (by omega), np, by omega, fun i e => (by rw [← V.int.inj e]; exact .inr dvl), fun HZ dd sZ nd ed => ⟨CB, dd, bnF (.int (1000000000000000000 / n + 1)), "BadNumber", _, rfl, rfl, ed, ⟨.int (1000000000000000000 / n + 1), rfl, rfl, rfl, rfl⟩, fun HG t1 v' sG hv e1 => ?_⟩⟩
        rw [hv] at e1
        have eM1 : HG M = some (.lst [x, x, .int (n + 1), .int 0, .int (1000000000000000000 - n + 1)]) := sG _ _ (sZ _ _ (s0 _ _ (eN _ _ eM (fun _ z => by cases z))))
        obtain ⟨eG, a1, a2, a3, a4⟩ := ask_step nA xG eA wh eN TE (s0.trans (sZ.trans sG)) e1
        refine ⟨A, _, _, rfl, rfl, eG, sz_lt (by rw [List.length_map, lts]; show 6 < _; decide), A, M, _, rfl, nA, nMA, a1, a2, a3, a4, ?_⟩
        rw [upd_ne nMA]
        exact eM1
      clear eA wh xG TG nA A ts eM nMA M G
      rintro σ G ⟨A, M, ts, rfl, nA, nMA, xG, TG, eA, wh, eM⟩
      refine ⟨.ref M, rfl, x, rfl, 10, 18, rfl, rfl, ⟨by decide, by decide, by decide⟩, .int n, rfl, _, n, rfl, rfl, dv29 (by omega) (by omega), 1000000000000000000 / n, 1, rfl, rfl, by show 2 ≤ sizeLine; decide, fun U nU => ?_⟩
      have sU := same_upd (H := G) (o := .lst [x, .int (1000000000000000000 / n + 1)]) nU
      have eU : (upd G U (.lst [x, .int (1000000000000000000 / n + 1)])) U = some (.lst [x, .int (1000000000000000000 / n + 1)]) := upd_same
      generalize upd G U (.lst [x, .int (1000000000000000000 / n + 1)]) = J1 at sU eU
      refine ⟨M, U, _, _, rfl, rfl, sU _ _ eM, eU, by show 7 ≤ sizeLine; decide, fun W nW => ?_⟩
      have sW := same_upd (H := J1) (o := .lst ([x, x, .int (n + 1), .int 0, .int (1000000000000000000 - n + 1)] ++ [x, .int (1000000000000000000 / n + 1)])) nW
      have sm := sU.trans sW
      refine ⟨A, W, ts, [x, x, .int (n + 1), .int 0, .int (1000000000000000000 - n + 1)] ++ [x, .int (1000000000000000000 / n + 1)], rfl, fun b o hb ht => sm _ _ (xG _ _ hb ht), TG.ext sm, sm _ _ eA, wh.keep fun b xs hb => sm _ _ hb, upd_same, fun v hv => ?_, by show 7 ≤ 7; decide⟩
      rcases List.mem_append.mp hv with h | h
      · exact f5 v h
      · rcases List.mem_cons.mp h with rfl | h
        · exact fx
        · rw [List.mem_singleton.mp h]
          exact fv29 (by omega)
    clear eA wh xG TG nA A ts eM nMA M G
    rintro σ G ⟨A, M, ts, xs, rfl, xG, TG, eA, wh, eM, fxs, lx⟩
    have lts := wh.len
    rw [List.length_map] at lts
    refine ⟨.ref A, rfl, .ref M, rfl, M, rfl, ⟨_, SqL.of eM⟩, fun D nD => lc_list (K := K) (a := M) (xs := xs) (fun i G' => ∃ us, Same G G' ∧ G' D = some (.lst (us.map V.ref)) ∧ Whs G' us (bnL (xs.take i))) ⟨[], same_upd nD, upd_same, .nil⟩ (fun i G' _ ⟨_, sm, _⟩ => SqL.of (sm _ _ eM)) ?_ ?_⟩
    · rintro i v G' hv ⟨us, sm, eD, wu⟩
      have lu := wu.len
      rw [List.length_map, List.length_take] at lu
      refine ⟨rfl, v, rfl, by show 2 ≤ sizeLine; decide, fun p np => ?_⟩
      have sp := same_upd (H := G') (o := .tup [.str "BadNumber", v]) np
      have ep : (upd G' p (.tup [.str "BadNumber", v])) p = some (.tup [.str "BadNumber", v]) := upd_same
      generalize upd G' p (.tup [.str "BadNumber", v]) = G8 at sp ep
      have eD8 := sp _ _ eD
      have kt : KeepT G8 (upd G8 D (.lst (us.map V.ref ++ [.ref p]))) := fun b xs hb => by
        rw [upd_ne (ne_of hb eD8 (fun z => by cases z))]
        exact hb
      refine ⟨_, eD8, sz_lt (by rw [List.length_map]; omega), us ++ [p], fun b o hb => ?_, by rw [upd_same, List.map_append]; rfl, ?_⟩
      · rw [upd_ne (ne_of_none hb nD)]
        exact sp _ _ (sm _ _ hb)
      · rw [List.take_add_one, hv]
        show Whs _ (us ++ [p]) ((xs.take i ++ [v]).map _)
        rw [List.map_append]
        exact Whs.snoc (kt _ _ ep) (wu.keep fun b xs hb => kt _ _ (sp _ _ hb))
    · rintro G' ⟨us, sm, eD, wu⟩
      rw [List.take_length] at wu
      have lu := wu.len
      rw [List.length_map] at lu
      have fb : ∀ p ∈ bnL xs, FV p.2 := fun p hp => by
        obtain ⟨v, hv, rfl⟩ := List.mem_map.mp hp
        exact fxs v hv
      refine ⟨.ref A, .ref D, _, rfl, .lst (sm _ _ eA) (by rw [List.length_map, lts]; omega) (Whs.rp29 (wh.keep fun b xs hb => sm _ _ hb) fb), .lst eD (by rw [List.length_map, lu]; omega) (Whs.rp29 wu fb), fun G9 s9 => ?_⟩
      have x9 : LamX.ExtN G1 G9 := fun b o hb ht => s9 _ _ (sm _ _ (xG _ _ hb ht))
      exact q G9 (draw_extN D1 x9) ((TG.ext sm).ext s9) (K1.trans (.ext x9))
end

/-! ### max of a tuple of ints -/
section
open PySem.Spec PyProof.Rows
variable {prog : Program} {w : World} {A : Around} {E : Value → Shared → Prop} {s : Shared} {l : Addr}
theorem iter_tup {its : Array Value} {Q : Value → Shared → Prop} (hl : s.heap.IsTuple l its)
    (h : ∀ s₂ : Shared, s₂ = { s with heap := s.heap.push { cls := .type "tuple_iterator", data := .fields #[.ref l, .int 0 0] } } →
      (s₂.heap.IsTupleIter s.heap.objs.size l 0 ∧ s₂.heap.IsTuple l its) → (∀ b ∈ [s.heap.objs.size, l], b < s₂.heap.objs.size) → l ≠ s.heap.objs.size → Q (.ref s.heap.objs.size) s₂) :
    wpAny (model prog w) A (pyIter (.ref l)) Q E s := by
  have hlt : l < s.heap.objs.size := by obtain ⟨_, e, _⟩ := hl; exact Heap.lt_size e
  refine wpAny_pyIter_tuple hl (h _ rfl ⟨⟨_, Heap.get?_push_size _ rfl, rfl, rfl⟩, hl.push _⟩ (fun b hb => ?_) (Nat.ne_of_lt hlt))
  show b < (s.heap.push _).objs.size
  rw [Heap.size_push]
  rcases List.mem_cons.mp hb with rfl | hb
  · exact Nat.lt_succ_self _
  · rcases List.mem_cons.mp hb with rfl | hb
    · exact Nat.lt_succ_of_lt hlt
    · cases hb
theorem kept_old {ob : Obj} {h' : Heap} (hk : ∀ b o, b ∉ [s.heap.objs.size] → (s.heap.push ob).get? b = some o → h'.get? b = some o) :
    ∀ b o, s.heap.get? b = some o → h'.get? b = some o := fun b o e => by
  refine hk b o (fun hm => ?_) (Heap.get?_push_of_some _ e)
  rcases List.mem_cons.mp hm with e1 | hm
  · exact absurd (e1 ▸ Heap.lt_size e) (Nat.lt_irrefl _)
  · cases hm
theorem max_tupInts {xs : Array (Int × Tok)} {Q : Value → Shared → Prop} (hh : A.handled = none) (hl : s.heap.IsTuple l (intItems xs)) (hne : 0 < xs.size)
    (h : ∀ v h' tk, (intItems xs)[argBest (fun i j => decide (numAt xs i > numAt xs j)) (xs.size - 1)]? = some v → (∀ b o, s.heap.get? b = some o → h'.get? b = some o) → Q v { s with heap := h', toks := tk }) :
    wpAny (model prog w) A (call (.builtin "max") [.ref l]) Q E s := by
  refine call_max_walk (iter_tup hl fun s₂ e st hfp hlI => ?_)
  subst e
  refine ⟨_, _, _, _, _, _, _, rfl, Walks.tuple (A := A.in1) hh _ l hlI (intItems xs), st, hfp, by simpa [intItems] using hne, CmpOf.ints_gt (numAt xs) (fun _ _ => intItems_at), fun v h' tk hP hk => ?_⟩
  exact h v h' tk (by simpa [intItems] using hP) (kept_old hk)
theorem max_rawT {its : List Value} {ns : List Int} {Q : Value → Shared → Prop} (hh : A.handled = none) (hl : s.heap.IsTuple l its.toArray) (hi : IntsAre its ns) (hne : 0 < ns.length)
    (h : ∀ h' tk M t', (∀ b o, s.heap.get? b = some o → h'.get? b = some o) → M ∈ ns → (∀ a, a ∈ ns → a ≤ M) → Q (.int M t') { s with heap := h', toks := tk }) : wpAny (model prog w) A (call (.builtin "max") [.ref l]) Q E s := by
  obtain ⟨xs, e⟩ := hi.allInts.items
  have hn : numsOf (intItems xs).toList = ns := by rw [← e]; exact hi.numsOf
  rw [nums_intItems] at hn
  subst hn
  rw [e] at hl
  have hsz : 0 < xs.size := by simpa using hne
  refine max_tupInts hh hl hsz fun v h' tk hv hk => ?_
  obtain ⟨t, rfl⟩ := intItems_at hv
  obtain ⟨h1, h2⟩ := argBest_gt (numAt xs) (xs.size - 1)
  refine h h' tk _ t hk ?_ fun a ha => ?_
  · rw [numAt_eq]; exact PySem.getD_mem (by rw [List.length_map, Array.length_toList]; omega)
  · obtain ⟨j, hj, rfl⟩ := mem_getD ha
    rw [List.length_map, Array.length_toList] at hj
    rw [← numAt_eq]; exact h2 j (by omega)
end
def rMaxT (K : PySem.W.Frag) : List V → Hp → VK → Prop := fun vs H Q => ∃ (a : Addr) (ns : List Int), vs = [V.ref a] ∧ SqT K H a (ns.map V.int) ∧ 0 < ns.length ∧ ∀ m, m ∈ ns → (∀ y, y ∈ ns → y ≤ m) → Q (.int m) H
theorem cr_maxT {X : Cx} (hc : X.calm = true) : CallR X (.builtin "max") (rMaxT X.K) := by
  intro pins s σ H vs us Q I r h
  obtain ⟨a, ns, rfl, hs, hne, q⟩ := h
  obtain ⟨its, rv, hl, _⟩ := I.tuple hs
  rw [Vals.ref1 r]
  exact max_rawT (I.ok.hd hc) hl rv.ints hne fun h' tk m t' hk h1 h2 => ⟨.int _, H, I.kept hk, ⟨_, rfl⟩, q m h1 h2⟩

/-! ### _law_done (behind rt1_held, rt3_refs, rg1_grow) -/
abbrev N_done : List Str := ["_law_draw", "_law_road_here", "_law_length", "_law_held", "_law_ways", "_law_way", "_law_found", "_law_more", "_law_short", "_law_at", "_law_times", "_law_one", "_law_other", "_law_k", "_law_strand", "_law_ends_here"]
abbrev P_done : List Str := ["_law_draw", "_law_road_here", "_law_length", "_law_held", "_law_ways"]
theorem sc_done : FnScope N_done P_done (defScope s_done) := ⟨rfl, rfl, rfl, by decide +kernel, rfl, by decide +kernel, by decide +kernel⟩
theorem Hdd.kd {G G' : Hp} (k : KeepD G G') : ∀ {kvs : List (Key × V)} {hs : HL}, Hdd G kvs hs → Hdd G' kvs hs
  | _, _, .nil => .nil
  | _, _, .cons ⟨e1, a, us, e2, e3, e4⟩ r => .cons ⟨e1, a, us, e2, k.refs e3, e4.keepT k.tup⟩ (Hdd.kd k r)
theorem tabs_dict {T : List (Addr × Str)} {H H' : Hp} {D : Addr} {ks : List (Key × V)} (t : LamX.Tabs T H) (eD : H D = some (.dK ks)) (k : Keep D H H') : LamX.Tabs T H' := fun p hp => by
  obtain ⟨ps, h1, h2, h3⟩ := t p hp
  refine ⟨ps, k.of h1 (ne_of h1 eD (fun e => by cases e)), h2, fun pos cv hc => ?_⟩
  obtain ⟨c, e1, e2⟩ := h3 pos cv hc
  exact ⟨c, e1, k.of e2 (ne_of e2 eD (fun e => by unfold LamX.CodeO at e; cases e))⟩
theorem tabs_ins29 {T : List (Addr × Str)} {H H' : Hp} {g C dx : Addr} {fs : List (Str × V)} (t : LamX.Tabs T H) (eg : H g = some (.ins C dx fs)) (k : Keep g H H') : LamX.Tabs T H' := fun p hp => by
  obtain ⟨ps, h1, h2, h3⟩ := t p hp
  refine ⟨ps, k.of h1 (ne_of h1 eg (fun e => by cases e)), h2, fun pos cv hc => ?_⟩
  obtain ⟨c, e1, e2⟩ := h3 pos cv hc
  exact ⟨c, e1, k.of e2 (ne_of e2 eg (fun e => by unfold LamX.CodeO at e; cases e))⟩
/-- what stands while the law goes on -/
structure W29 (T : List (Addr × Str)) (C5 d l g st Hd Wy : Addr) (n : Int) (S : StL) (k : V) (c : Int) (kvs wk : List (Key × V)) (G : Hp) : Prop where
  dr : Draw G d l
  tb : LamX.Tabs T G
  ra : RoAt C5 G g st n S k c
  eH : G Hd = some (.dK kvs)
  hh : Hdd G kvs (hsOf S)
  eW : G Wy = some (.dK wk)
section
variable {T : List (Addr × Str)} {C5 d l g st Hd Wy D : Addr} {n : Int} {S : StL} {k : V} {c : Int} {kvs wk ks : List (Key × V)} {G G' : Hp}
theorem W29.kd (h : W29 T C5 d l g st Hd Wy n S k c kvs wk G) (D : Draw G' d l) (t : LamX.Tabs T G') (s : KeepD G G') : W29 T C5 d l g st Hd Wy n S k c kvs wk G' :=
  ⟨D, t, h.ra.kdR s, s _ _ h.eH (fun _ z => by cases z) (fun _ _ _ _ z => by cases z), h.hh.kd s, s _ _ h.eW (fun _ z => by cases z) (fun _ _ _ _ z => by cases z)⟩
theorem W29.draw (h : W29 T C5 d l g st Hd Wy n S k c kvs wk G) (D : Draw G' d l) (s : Keep d G G') : W29 T C5 d l g st Hd Wy n S k c kvs wk G' := h.kd D (tabs_keep h.tb h.dr s) (.draw h.dr s)
theorem W29.same (h : W29 T C5 d l g st Hd Wy n S k c kvs wk G) (s : Same G G') : W29 T C5 d l g st Hd Wy n S k c kvs wk G' := h.kd (h.dr.same s) (h.tb.ext s) (.same s)
theorem W29.offD (h : W29 T C5 d l g st Hd Wy n S k c kvs wk G) (eD : G D = some (.dK ks)) (n1 : Hd ≠ D) (n2 : Wy ≠ D) (n3 : st ≠ D) (kp : Keep D G G') : W29 T C5 d l g st Hd Wy n S k c kvs wk G' := by
  obtain ⟨ns, i, z, s, W⟩ := id h.dr
  refine ⟨draw_keepR h.dr (ne_of W.at_d eD (fun z => by cases z)) (ne_of W.at_l eD (fun z => by cases z)) kp, tabs_dict h.tb eD kp, ?_, kp.of h.eH n1, h.hh.off eD kp, kp.of h.eW n2⟩
  obtain ⟨⟨dx, e⟩, kv, e1, e2⟩ := h.ra
  exact ⟨⟨dx, kp.of e (ne_of e eD (fun z => by cases z))⟩, kv, kp.of e1 n3, e2.keep fun b xs hb => kp.of hb (ne_of hb eD (fun z => by cases z))⟩
end
def spDone29 (C5 : Addr) (T : List (Addr × Str)) : Sp := fun vs H Q _ => ∃ (d l g st Hd Wy : Addr) (n c : Int) (S : StL) (k : V) (kvs wk : List (Key × V)) (ws : List (Int × Int)), vs = [.ref d, .ref g, .int n, .ref Hd, .ref Wy] ∧ W29 T C5 d l g st Hd Wy n S k c kvs wk H ∧ RoW n S ∧ n ≤ 100 ∧
  Wys wk ws ∧ (ws.map (·.1)).Pairwise (· < ·) ∧ (∀ s ∈ S, (s.1, s.2.2.2.2) ∈ ws) ∧
  ∀ (H' : Hp) (t Hd' st' : Addr) (n' : Int) (S' : StL) (k' : V) (kvs' : List (Key × V)), H' t = some (.tup [.non, .int n', .ref Hd']) → W29 T C5 d l g st' Hd' Wy n' S' k' c kvs' wk H' → RoW n' S' → (n' ≤ n + 3 ∨ n' ≤ 42) → (∀ s ∈ S', (s.1, s.2.2.2.2) ∈ ws) → Q (.ref t) H'
theorem RoW.grow {n m : Int} {S : StL} (h : RoW n S) (m0 : 0 ≤ m) (hn : n + m ≤ 1000000000000000000) : RoW (n + m) S :=
  ⟨by have := h.n0; omega, hn, h.up, h.low, h.len, fun s hs => by
    obtain ⟨a, b, c, d, e, f⟩ := h.ok s hs
    exact ⟨a, b, c, d, by omega, by omega⟩⟩
theorem Hdd.ins29 {G G' : Hp} {g C dx : Addr} {fs : List (Str × V)} (eg : G g = some (.ins C dx fs)) (k : Keep g G G') : ∀ {kvs : List (Key × V)} {hs : HL}, Hdd G kvs hs → Hdd G' kvs hs
  | _, _, .nil => .nil
  | _, _, .cons ⟨e1, a, us, e2, e3, e4⟩ r => .cons ⟨e1, a, us, e2, k.of e3 (ne_of e3 eg (fun z => by cases z)), e4.keepT fun b xs hb => k.of hb (ne_of hb eg (fun z => by cases z))⟩ (Hdd.ins29 eg k r)
theorem draw_ins29 {H H' : Hp} {d l g C dx : Addr} {fs : List (Str × V)} (D : Draw H d l) (eg : H g = some (.ins C dx fs)) (k : Keep g H H') : Draw H' d l := by
  obtain ⟨ns, i, z, s, W⟩ := id D
  exact draw_keepR D (ne_of W.at_d eg (fun z => by cases z)) (ne_of W.at_l eg (fun z => by cases z)) k
theorem max_below {a b s m : Int} (h1 : m ∈ [a, b]) (h2 : ∀ y ∈ [a, b], y ≤ m) : decide (m < s) = below s (a, b) := by
  refine decide_eq_decide.mpr ?_
  have ha := h2 a List.mem_cons_self
  have hb := h2 b (List.mem_cons_of_mem _ List.mem_cons_self)
  have hm : m = a ∨ m = b := by
    rcases List.mem_cons.mp h1 with h | h
    · exact .inl h
    · exact .inr (List.mem_singleton.mp h)
  show m < s ↔ a < s ∧ b < s
  omega
theorem hsOf_app (A B : StL) : hsOf (A ++ B) = hsOf A ++ hsOf B := List.map_append
theorem Hdd.snoc29 {G : Hp} {ks : List (Key × V)} {S : StL} {i : Int} {a : Addr} {us : List Addr} {y : M4} (h : Hdd G ks (hsOf S)) (e3 : G a = some (.lst (us.map V.ref))) (e4 : Prs G us (endM y)) : Hdd G (ks ++ [(Sum.inl i, .ref a)]) (hsOf (S ++ [(i, y)])) := by
  rw [hsOf_app]
  exact Hdd.snoc ⟨rfl, a, us, rfl, e3, e4⟩ h
section
variable {P : Program} {w : World} {K : PySem.W.Frag} {mg : Str → Option Value} {base : Heap} {C5 : Addr} {T : List (Addr × Str)}
theorem ok_done29 {f fP fA fG fT fS : Addr} {fd fdP fdA fdG fdT fdS : FuncData} (D : DefAt K mg "_law_done" s_done P_done f fd) (D_pull : DefAt K mg "_law_pull" s_pull P_pull fP fdP) (D_any : DefAt K mg "_law_any" s_any P_any fA fdA) (TRo_ : RoT K mg C5)
    (M_Ro_grow : Meth K C5 "grow" fG) (G_Ro_grow : FnOk P w K mg base CX0 3 fG fdG P_Ro_grow (spGrow C5)) (b_Ro_grow : Binds K fdG P_Ro_grow []) (M_Ro_trim : Meth K C5 "trim" fT) (G_Ro_trim : FnOk P w K mg base CX0 4 fT fdT P_Ro_trim (spTrim C5)) (b_Ro_trim : Binds K fdT P_Ro_trim [])
    (M_Ro_swell : Meth K C5 "swell" fS) (G_Ro_swell : FnOk P w K mg base CX0 2 fS fdS P_Ro_swell (spSwell C5)) (b_Ro_swell : Binds K fdS P_Ro_swell []) (B : Bn mg) : FnOk P w K mg base CX0 5 f fd P_done (spDone29 C5 T) := by
  have G_pull : FnOk P w K mg base CX0 1 fP fdP P_pull spPull := ok_pull D_pull B
  have G_any : FnOk P w K mg base CX0 2 fA fdA P_any spAny := ok_any D_any D_pull B
  refine D.F.ok sc_done (fun vs H Q E h => ?_) (fun cdv A outer s H vs Q E hr h => ?_)
  · obtain ⟨d, l, g, st, Hd, Wy, n, c, S, k, kvs, wk, ws, rfl, _⟩ := h
    rfl
  · obtain ⟨d, l, g, st, Hd, Wy, n, c, S, k, kvs, wk, ws, rfl, W, row, n100, hw, uw, hS, q⟩ := h
    have hu := hu_of hr
    refine ⟨_, (C8.pss_cut (ps_par (i := 5) (j := 6) (by rfl) sc_done.nd rfl rfl (by decide) rfl rfl (pa_cons (pe_call G_pull (hr.mono (by omega)) (by rfl) D_pull.g D_pull.F.kp D_pull.b .nil pass0 (pa_cons (pv 0) (pa_cons pe_int pa_nil))) (pa_cons pe_dnewK pa_nil)) (by rfl))
      (pss_cons (ps_if (pt_cmpR op_eq (pv 5) pe_int (nomark _)) (pss_cons (ps_set (i := 7) sc_done.nd rfl (.inl rfl) (pe_call G_pull (hr.mono (by omega)) (by rfl) D_pull.g D_pull.F.kp D_pull.b .nil pass0 (pa_cons (pv 0) (pa_cons pe_int pa_nil))))
      (pss_one (ps_ret (pe_tup (pa_cons (pe_meth (pv 1) TRo_.cl M_Ro_grow G_Ro_grow (hr.mono (by omega)) b_Ro_grow .nil pass0 (pa_cons (pv 7) pa_nil)) (pa_cons (pe_op op_add (pv 2) (pv 7)) (pa_cons (pv 3) pa_nil))))))) pss_nil)
      (pss_cons (ps_if (pt_cmpR op_eq (pv 5) pe_int (nomark _)) (C8.pss_cut (ps_set (i := 8) sc_done.nd rfl (.inr rfl) (pe_call G_any (hr.mono (by omega)) (by rfl) D_any.g D_any.F.kp D_any.b .nil pass0 (pa_cons (pv 0) (pa_cons (pe_lst (pa_cons (pv 2) (pa_cons (pe_call G_pull (hr.mono (by omega)) (by rfl) D_pull.g D_pull.F.kp D_pull.b .nil pass0 (pa_cons (pv 0) (pa_cons (pe_op op_add (pv 2) pe_int) pa_nil))) (pa_cons (pe_callB (call_max2 rfl) (by rfl) B.max (by decide +kernel) (pa_cons pe_int (pa_cons (pe_op op_sub (pv 2) pe_int) pa_nil))) pa_nil)))) pa_nil))))
      (C8.pss_cut (ps_for PassesOwn.never rfl (pi_list (pe_callB (call_sortedDI rfl) (by rfl) B.sorted (by decide +kernel) (pa_cons (pv 3) pa_nil))) (pg_name (i := 9) sc_done.nd rfl (.inl rfl)) (pss_one (ps_if (pt_val (pe_callB (cr_any rfl) (by rfl) B.any (by decide +kernel) (pa_cons (pe_lc (own := [("_law_ends_here", 15)]) (g := gName 15) (by rfl) sc_done.nd (pi_list (pe_dget hu (pv 3) (pv 9) (fun _ _ => rfl))) (blkOk_by (own := [("_law_ends_here", 15)]) (N := N_done) (sc := defScope s_done) (by decide +kernel)) (fun _ _ _ _ _ => (pg_name (i := 15) sc_done.nd rfl (.inl rfl))) (fun _ _ _ _ _ => pts_nil) (fun _ _ _ _ _ => (pe_cmpR op_lt (pe_callB (show CallR _ _ (rMaxT K) from cr_maxT rfl) (by rfl) B.max (by decide +kernel) (pa_cons (pv 15) pa_nil)) (pv 8) (nomark _)))) pa_nil))) (pss_one (ps_dput hu (pv 6) (pv 9) (pe_lc (own := [("_law_ends_here", 15)]) (g := gName 15) (by rfl) sc_done.nd (pi_list (pe_dget hu (pv 3) (pv 9) (fun _ _ => rfl))) (blkOk_by (own := [("_law_ends_here", 15)]) (N := N_done) (sc := defScope s_done) (by decide +kernel)) (fun _ _ _ _ _ => (pg_name (i := 15) sc_done.nd rfl (.inl rfl))) (fun _ _ _ _ _ => (pts_one (pt_cmpR op_lt (pe_callB (show CallR _ _ (rMaxT K) from cr_maxT rfl) (by rfl) B.max (by decide +kernel) (pa_cons (pv 15) pa_nil)) (pv 8) (nomark _)))) (fun _ _ _ _ _ => (pv 15))) rfl)) pss_nil)))
      (pss_one (ps_ret (pe_tup (pa_cons (pe_meth (pv 1) TRo_.cl M_Ro_trim G_Ro_trim (hr.mono (by omega)) b_Ro_trim .nil pass0 (pa_cons (pv 8) pa_nil)) (pa_cons (pv 8) (pa_cons (pv 6) pa_nil)))))))) pss_nil)
      (C8.pss_cut (ps_set (i := 10) sc_done.nd rfl (.inl rfl) (pe_ifExp (pt_cmpR op_lt (pv 2) pe_int (nomark _)) (pe_op op_add pe_int (pe_call G_pull (hr.mono (by omega)) (by rfl) D_pull.g D_pull.F.kp D_pull.b .nil pass0 (pa_cons (pv 0) (pa_cons pe_int pa_nil)))) pe_int))
      (C8.pss_cut (ps_for PassesOwn.never rfl (pi_list (pe_callB (call_sortedDI rfl) (by rfl) B.sorted (by decide +kernel) (pa_cons (pv 3) pa_nil))) (pg_name (i := 9) sc_done.nd rfl (.inl rfl)) (pss_cons (ps_dput hu (pv 6) (pv 9) (pe_lst pa_nil) rfl)
      (pss_one (ps_for PassesOwn.never rfl (pi_list (pe_dget hu (pv 3) (pv 9) (fun _ _ => rfl))) (pg_tup (by rfl) (pgs_cons (pg_name (i := 11) sc_done.nd rfl (.inl rfl)) (pgs_cons (pg_name (i := 12) sc_done.nd rfl (.inl rfl)) pgs_nil))) (pss_one (ps_for PassesOwn.never rfl (pi_range1 (by rfl) B.range (pa_cons (pv 10) pa_nil)) (pg_name (i := 13) sc_done.nd rfl (.inl rfl)) (pss_cons (ps_set (i := 14) sc_done.nd rfl (.inl rfl) (pe_ifExp (pt_cmpR op_eq (pe_dget hu (pv 4) (pv 9) (fun _ _ => rfl)) pe_int (nomark _)) (pe_op op_sub (pe_op op_sub (pv 10) pe_int) (pv 13)) (pv 13)))
      (pss_one (ps_expr (pe_bm PySem.F.plainAttrs_list PySem.F.slot_list_append PySem.F.type_list_append mt_append (pe_dget hu (pv 6) (pv 9) (fun _ _ => rfl)) (pa_cons (pe_tup (pa_cons (pe_op op_add (pe_op op_mul (pv 11) (pv 10)) (pv 13)) (pa_cons (pe_op op_add (pe_op op_mul (pv 12) (pv 10)) (pv 14)) pa_nil))) pa_nil)))))))))))
      (pss_one (ps_ret (pe_tup (pa_cons (pe_meth (pv 1) TRo_.cl M_Ro_swell G_Ro_swell (hr.mono (by omega)) b_Ro_swell .nil pass0 (pa_cons (pv 10) pa_nil)) (pa_cons (pe_op op_mul (pv 2) (pv 10)) (pa_cons (pv 6) pa_nil))))))))))), ?_⟩
    have n0 := row.n0
    have lS := row.len
    have two : 2 ≤ sizeLine := by decide
    have three : 3 ≤ sizeLine := by decide
    -- the way, and what is found
    refine ⟨fun σ G => ∃ (v : Int) (D : Addr), 0 ≤ v ∧ v < 3 ∧ σ = [some (.ref d), some (.ref g), some (.int n), some (.ref Hd), some (.ref Wy), some (.int v), some (.ref D), none, none, none, none, none, none, none, none, none] ∧ W29 T C5 d l g st Hd Wy n S k c kvs wk G ∧ G D = some (.dK []) ∧ Hd ≠ D ∧ Wy ≠ D ∧ st ≠ D ∧ d ≠ D, ?_, ?_⟩
    · refine ⟨.ref d, rfl, d, l, 3, rfl, W.dr, by decide, by decide, fun v G1 v0 v1 D1 k1 => ?_⟩
      have W1 := W.draw D1 k1
      refine fun D nD => ⟨_, _, rfl, v, D, v0, v1, rfl, W1.same (same_upd nD), upd_same, ne_of_none W1.eH nD, ne_of_none W1.eW nD, ?_, (draw_apart W1.dr nD).1⟩
      obtain ⟨_, kv, e1, _⟩ := W1.ra
      exact ne_of_none e1 nD
    clear W
    rintro σ G1 ⟨v, D, v0, v3, rfl, W1, eD1, nHD, nWD, nSD, ndD⟩
    refine ⟨.int v, rfl, rfl, _, rfl, ite2 (fun _ => ?_) (fun _ => ?_)⟩
    · -- grown
      refine ⟨.ref d, rfl, d, l, 4, rfl, W1.dr, by decide, by decide, fun m G2 m0 m4 D2 k2 => ?_⟩
      have W2 := W1.draw D2 k2
      obtain ⟨dx, hg⟩ := W2.ra.at_g
      refine ⟨.ref g, rfl, g, dx, _, rfl, hg, rfl, .int m, rfl, g, st, n, m, S, k, c, rfl, W2.ra, row.up, n0, m0, by omega, fun G3 ra3 kp => ?_⟩
      refine ⟨.int n, rfl, .int m, rfl, n, m, rfl, rfl, .ref Hd, rfl, three, fun t nt => ?_⟩
      have st3 := same_upd (H := G3) (o := .tup [.non, .int (n + m), .ref Hd]) nt
      have W3 : W29 T C5 d l g st Hd Wy (n + m) S (if m = 0 then k else .non) c kvs wk G3 := ⟨draw_ins29 W2.dr hg kp, tabs_ins29 W2.tb hg kp, ra3, kp.of W2.eH (ne_of W2.eH hg (fun z => by cases z)), W2.hh.ins29 hg kp, kp.of W2.eW (ne_of W2.eW hg (fun z => by cases z))⟩
      exact q _ t Hd st (n + m) S _ kvs upd_same (W3.same st3) (row.grow m0 (by omega)) (.inl (by omega)) hS
    refine ⟨.int v, rfl, rfl, _, rfl, ite2 (fun _ => ?_) (fun _ => ?_)⟩
    · -- trimmed
      -- how short
      refine ⟨fun σ G => ∃ m : Int, 0 ≤ m ∧ m ≤ n ∧ σ = [some (.ref d), some (.ref g), some (.int n), some (.ref Hd), some (.ref Wy), some (.int v), some (.ref D), none, some (.int m), none, none, none, none, none, none, none] ∧ W29 T C5 d l g st Hd Wy n S k c kvs wk G ∧ G D = some (.dK []), ?_, ?_⟩
      · refine ⟨.ref d, rfl, .int n, rfl, .ref d, rfl, .int n, rfl, n, 1, rfl, rfl, d, l, n + 1, rfl, W1.dr, by omega, by omega, fun u G2 u0 u1 D2 k2 => ?_⟩
        have W2 := W1.draw D2 k2
        have eD2 := k2.of eD1 ndD.symm
        refine ⟨.int n, rfl, n, 1, rfl, rfl, 0, n - 1, rfl, three, fun L nL => ?_⟩
        have sL := same_upd (H := G2) (o := .lst [.int n, .int u, .int (if n - 1 > 0 then n - 1 else 0)]) nL
        refine ⟨d, l, L, _, rfl, W2.dr.same sL, upd_same, (draw_apart W2.dr nL).1.symm, by show 1 ≤ 3; decide, by show 3 ≤ 1000; decide, fun x G3 hx D3 k3 => ?_⟩
        have W3 := (W2.same sL).draw D3 k3
        have eD3 := k3.of (sL _ _ eD2) ndD.symm
        rcases List.mem_cons.mp hx with rfl | hx
        · exact ⟨n, n0, Int.le_refl _, rfl, W3, eD3⟩
        rcases List.mem_cons.mp hx with rfl | hx
        · exact ⟨u, u0, by omega, rfl, W3, eD3⟩
        rw [List.mem_singleton.mp hx]
        exact ⟨_, by split <;> omega, by split <;> omega, rfl, W3, eD3⟩
      clear W1 eD1
      rintro σ G2 ⟨m, m0, mn, rfl, W2, eD2⟩
      -- what is left
      refine ⟨fun σ G => ∃ (y9 y15 : Option V) (ks : List (Key × V)), σ = [some (.ref d), some (.ref g), some (.int n), some (.ref Hd), some (.ref Wy), some (.int v), some (.ref D), none, some (.int m), y9, none, none, none, none, none, y15] ∧ W29 T C5 d l g st Hd Wy n S k c kvs wk G ∧ G D = some (.dK ks) ∧ Hdd G ks (hsOf (trS m S)), ?_, ?_⟩
      · have hk := W2.hh.keys
        rw [hsOf_keys] at hk
        refine ⟨.ref Hd, rfl, Hd, kvs, S.map (·.1), rfl, .inl W2.eH, hk, by rw [List.length_map]; omega, fun ys p py so np => ?_⟩
        have ey := perm_sorted py so row.up
        subst ey
        have sp := same_upd (H := G2) (o := .lst ((S.map (·.1)).map V.int)) np
        have ep : (upd G2 p (.lst ((S.map (·.1)).map V.int))) p = some (.lst ((S.map (·.1)).map V.int)) := upd_same
        generalize upd G2 p (.lst ((S.map (·.1)).map V.int)) = G3 at sp ep
        have W3 := W2.same sp
        have eD3 := sp _ _ eD2
        refine ⟨p, rfl, ⟨_, SqL.of ep⟩, for_list (K := K) (a := p) (xs := (S.map (·.1)).map V.int) (fun i σ G => ∃ (y9 y15 : Option V) (ks : List (Key × V)), σ = [some (.ref d), some (.ref g), some (.int n), some (.ref Hd), some (.ref Wy), some (.int v), some (.ref D), none, some (.int m), y9, none, none, none, none, none, y15] ∧ Keep D G3 G ∧ G D = some (.dK ks) ∧ Hdd G ks (hsOf (trS m (S.take i))))
          ⟨none, none, [], rfl, fun b o _ hb => hb, eD3, .nil⟩ (fun i σ G _ ⟨_, _, _, _, kp, _⟩ => SqL.of (kp.of ep (ne_of ep eD3 (fun z => by cases z)))) ?_ ?_⟩
        · rintro i y σ G hy ⟨y9, y15, ks, rfl, kp, eD, hd⟩
          rw [List.map_map, List.getElem?_map] at hy
          obtain ⟨z, hz, rfl⟩ := Option.map_eq_some_iff.mp hy
          have W := W3.offD eD3 nHD nWD nSD kp
          have mz := List.mem_of_getElem? hz
          have ok := row.ok z mz
          obtain ⟨a, us, va, ea, pr⟩ := W.hh.get (by rw [hsOf_keys]; exact row.up) (z.1, endM z.2) (List.mem_map.mpr ⟨z, mz, rfl⟩)
          have gt : DGet G Hd (.int z.1) (some (.ref a)) := by
            have := DGet.k (k := Sum.inl z.1) W.eH
            rw [va] at this
            exact this
          have lus : us.length = (endM z.2).length := pr.length
          have lem : us.length ≤ 1000 := by
            rw [lus, endM_len]
            have := ok.2.2.2.2.1
            have := ok.2.2.1
            omega
          have stepE : trS m (S.take (i + 1)) = trS m (S.take i) ++ (match clipM m z.2 with | some y => [(z.1, y)] | none => []) := by
            unfold trS
            rw [List.take_add_one, hz, List.filterMap_append]
            congr 1
            show List.filterMap _ [z] = _
            rw [List.filterMap_cons, List.filterMap_nil]
            cases clipM m z.2 <;> rfl
          have hlt : ∀ s ∈ S.take i, s.1 < z.1 := fun s hs => by
            have u2 : ((S.take (i + 1)).map (·.1)).Pairwise (· < ·) := row.up.sublist ((List.take_sublist _ _).map _)
            rw [List.take_add_one, hz, List.map_append, List.pairwise_append] at u2
            exact u2.2.2 _ (List.mem_map.mpr ⟨s, hs, rfl⟩) _ (List.mem_singleton.mpr rfl)
          have hno : valV ks (Sum.inl z.1) = none := hd.none fun s hs => by
            obtain ⟨s', hs', rfl⟩ := List.mem_map.mp hs
            obtain ⟨s2, h2, e2, _⟩ := trS_in hs'
            have := hlt s2 h2
            show s'.1 ≠ z.1
            omega
          have lks : ks.length ≤ 24 := by
            rw [hd.len]
            unfold hsOf
            rw [List.length_map]
            have : (trS m (S.take i)).length ≤ (S.take i).length := List.length_filterMap_le _ _
            rw [List.length_take] at this
            omega
          have ce := clip_end (m := m) ok
          -- any
          refine ⟨.ref Hd, rfl, .int z.1, rfl, Hd, .ref a, rfl, gt, a, rfl, ⟨_, SqL.of ea⟩, fun L nL => lc_list (K := K) (a := a) (xs := us.map V.ref) (fun j G' => Same G G' ∧ G' L = some (.lst ((((endM z.2).take j).map (below m)).map V.bl))) ⟨same_upd nL, upd_same⟩ (fun j G' _ ⟨sm, _⟩ => SqL.of (sm _ _ ea)) ?_ ?_⟩
          · rintro j x G' hx ⟨sm, eL⟩
            rw [List.getElem?_map] at hx
            obtain ⟨u, hu', rfl⟩ := Option.map_eq_some_iff.mp hx
            have hj : j < us.length := (List.getElem?_eq_some_iff.mp hu').1
            have ej := List.getElem?_eq_getElem (show j < (endM z.2).length by omega)
            generalize (endM z.2)[j]'_ = pq at ej
            obtain ⟨u', hu2, eu⟩ := pr.get j pq ej
            rw [hu'] at hu2
            cases hu2
            refine ⟨rfl, .ref u, rfl, u, [pq.1, pq.2], rfl, SqT.of (sm _ _ eu), by show 0 < 2; decide, fun mx h1 h2 => ⟨.int m, rfl, mx, m, rfl, rfl, ?_⟩⟩
            refine ⟨_, eL, sz_lt (by rw [List.length_map, List.length_map, List.length_take]; omega), fun b o hb => ?_, ?_⟩
            · rw [upd_ne (ne_of_none hb nL)]
              exact sm _ _ hb
            · rw [upd_same, List.take_add_one, ej, List.map_append, List.map_append]
              refine congrArg some (congrArg HO.lst (congrArg (_ ++ ·) ?_))
              show [V.bl (decide (mx < m))] = [V.bl (below m pq)]
              rw [max_below h1 h2]
          · rintro G4 ⟨sm, eL⟩
            rw [List.length_map, lus, List.take_length] at eL
            refine ⟨L, _, rfl, SqL.of eL, _, rfl, ?_⟩
            have W4 := W.same sm
            have eD4 := sm _ _ eD
            have kp4 : Keep D G3 G4 := kp.trans (keepS sm)
            have hd4 := hd.same sm
            have anyE : ((endM z.2).map (below m)).any id = !((endM z.2).filter (below m)).isEmpty := by
              induction endM z.2 with
              | nil => rfl
              | cons x r ih =>
                rw [List.map_cons, List.any_cons, ih, List.filter_cons]
                cases below m x <;> rfl
            rw [anyE, ce]
            cases hcl : clipM m z.2 with
            | none =>
              rw [hcl, List.append_nil] at stepE
              refine iteF ⟨_, _, ks, rfl, kp4, eD4, ?_⟩
              rw [stepE]
              exact hd4
            | some y =>
              rw [hcl] at stepE
              have yl : 1 ≤ (endM y).length := by
                rw [endM_len]
                have := (clipM_ok ok m0 hcl).2.1
                omega
              have ne : (!(match (some y : Option M4) with | some y => endM y | none => []).isEmpty) = true := by
                show (!(endM y).isEmpty) = true
                cases h : endM y with
                | nil => rw [h] at yl; exact absurd yl (by decide)
                | cons _ _ => rfl
              rw [ne]
              refine iteT ?_
              have gt4 : DGet G4 Hd (.int z.1) (some (.ref a)) := by
                have := DGet.k (k := Sum.inl z.1) W4.eH
                rw [va] at this
                exact this
              have ea4 := sm _ _ ea
              have pr4 := pr.same sm
              refine ⟨.ref Hd, rfl, .int z.1, rfl, Hd, .ref a, rfl, gt4, a, rfl, ⟨_, SqL.of ea4⟩, fun M nM => lc_list (K := K) (a := a) (xs := us.map V.ref) (fun j G' => ∃ ys : List Addr, Same G4 G' ∧ G' M = some (.lst (ys.map V.ref)) ∧ Prs G' ys (((endM z.2).take j).filter (below m))) ⟨[], same_upd nM, upd_same, .nil⟩ (fun j G' _ ⟨_, sm, _⟩ => SqL.of (sm _ _ ea4)) ?_ ?_⟩
              · rintro j x G' hx ⟨ys, sm5, eM, py⟩
                rw [List.getElem?_map] at hx
                obtain ⟨u, hu', rfl⟩ := Option.map_eq_some_iff.mp hx
                have hj : j < us.length := (List.getElem?_eq_some_iff.mp hu').1
                have ej := List.getElem?_eq_getElem (show j < (endM z.2).length by omega)
                generalize (endM z.2)[j]'_ = pq at ej
                obtain ⟨u', hu2, eu⟩ := pr4.get j pq ej
                rw [hu'] at hu2
                cases hu2
                have lpy := py.length
                have lfl := List.length_filter_le (below m) ((endM z.2).take j)
                rw [List.length_take] at lfl
                refine ⟨rfl, .ref u, rfl, u, [pq.1, pq.2], rfl, SqT.of (sm5 _ _ eu), by show 0 < 2; decide, fun mx h1 h2 => ⟨.int m, rfl, mx, m, rfl, rfl, _, rfl, ?_⟩⟩
                have eb := max_below h1 h2 (s := m)
                have stp : ((endM z.2).take (j + 1)).filter (below m) = ((endM z.2).take j).filter (below m) ++ (if below m pq = true then [pq] else []) := by
                  rw [List.take_add_one, ej, List.filter_append]
                  refine congrArg (List.filter (below m) ((endM z.2).take j) ++ ·) ?_
                  show List.filter _ [pq] = _
                  rw [List.filter_cons, List.filter_nil]
                refine ite2 (fun hb => ?_) (fun hb => ?_)
                · have hb : below m pq = true := eb.symm.trans hb
                  rw [if_pos hb] at stp
                  have kM : Keep M G' (upd G' M (.lst (ys.map V.ref ++ [.ref u]))) := Keep.upd
                  have kt : KeepT G' (upd G' M (.lst (ys.map V.ref ++ [.ref u]))) := fun b xs hb => kM.of hb (ne_of hb eM (fun z => by cases z))
                  refine ⟨.ref u, rfl, _, eM, sz_lt (by rw [List.length_map]; omega), ys ++ [u], fun b o hb => kM.of (sm5 _ _ hb) (ne_of_none hb nM), by rw [upd_same, List.map_append]; rfl, ?_⟩
                  rw [stp]
                  exact Prs.snoc (py.keepT kt) (kt _ _ (sm5 _ _ eu))
                · have hb : ¬ below m pq = true := fun z => hb (eb.trans z)
                  rw [if_neg hb, List.append_nil] at stp
                  refine ⟨ys, sm5, eM, ?_⟩
                  rw [stp]
                  exact py
              · rintro G5 ⟨ys, sm5, eM, py⟩
                rw [List.length_map, lus, List.take_length, ce, hcl] at py
                have py : Prs G5 ys (endM y) := py
                have eD5 := sm5 _ _ eD4
                have kD : Keep D G5 (upd G5 D (.dK (putK ks (Sum.inl z.1) (.ref M)))) := Keep.upd
                refine ⟨.ref D, rfl, .int z.1, rfl, D, _, rfl, DPut.k (k := Sum.inl z.1) eD5 (sz_lt (by omega)), _, _, _, rfl, (kp4.trans (keepS sm5)).trans kD, upd_same, ?_⟩
                rw [stepE]
                rw [putK_new _ hno] at kD ⊢
                show Hdd _ (ks ++ [(Sum.inl z.1, .ref M)]) (hsOf (trS m (S.take i) ++ [(z.1, y)]))
                refine Hdd.snoc29 ((hd4.same sm5).off eD5 kD) (kD.of eM (ne_of eM eD5 (fun z => by cases z))) (py.keepT fun b xs hb => kD.of hb (ne_of hb eD5 (fun z => by cases z)))
        · rintro σ G ⟨y9, y15, ks, rfl, kp, eD, hd⟩
          rw [List.length_map, List.length_map, List.take_length] at hd
          exact ⟨y9, y15, ks, rfl, W3.offD eD3 nHD nWD nSD kp, eD, hd⟩
      clear W2 eD2
      rintro σ G3 ⟨y9, y15, ks, rfl, W3, eD3, hd⟩
      obtain ⟨dx, hg⟩ := W3.ra.at_g
      refine ⟨.ref g, rfl, g, dx, _, rfl, hg, rfl, .int m, rfl, g, st, n, m, S, k, c, rfl, W3.ra, row, m0, mn, fun G4 st' ra4 kp nst => ?_⟩
      refine ⟨.int m, rfl, .ref D, rfl, three, fun t nt => ?_⟩
      have st3 := same_upd (H := G4) (o := .tup [.non, .int m, .ref D]) nt
      have W4 : W29 T C5 d l g st' D Wy m (trS m S) (if m = n ∧ trS m S = S then k else .non) c ks wk G4 := ⟨draw_ins29 W3.dr hg kp, tabs_ins29 W3.tb hg kp, ra4, kp.of eD3 (ne_of eD3 hg (fun z => by cases z)), hd.ins29 hg kp, kp.of W3.eW (ne_of W3.eW hg (fun z => by cases z))⟩
      refine q _ t D st' m (trS m S) _ ks upd_same (W4.same st3) (row.trim m0 mn) (.inl (by omega)) fun s hs => ?_
      obtain ⟨s', hs', e1, e2⟩ := trS_in hs
      have := hS s' hs'
      rw [e1] at this
      have ef : s.2.2.2.2 = s'.2.2.2.2 := by
        unfold clipM at e2
        split at e2
        · cases e2
        · rw [← Option.some.inj e2]
      rw [ef]
      exact this
    · -- swelled
      refine ⟨fun σ G => ∃ u : Nat, 1 ≤ u ∧ u ≤ 3 ∧ (u = 1 ∨ n < 15) ∧ σ = [some (.ref d), some (.ref g), some (.int n), some (.ref Hd), some (.ref Wy), some (.int v), some (.ref D), none, none, none, some (.int (u : Int)), none, none, none, none, none] ∧ W29 T C5 d l g st Hd Wy n S k c kvs wk G ∧ G D = some (.dK []), ?_, ?_⟩
      · refine ⟨.int n, rfl, n, 15, rfl, rfl, _, rfl, ite2 (fun hn => ?_) (fun _ => ?_)⟩
        · have hn : n < 15 := of_decide_eq_true hn
          refine ⟨.ref d, rfl, d, l, 3, rfl, W1.dr, by decide, by decide, fun m G2 m0 m3 D2 k2 => ?_⟩
          obtain ⟨m, rfl⟩ := Int.eq_ofNat_of_zero_le m0
          exact ⟨1, (m : Int), rfl, rfl, m + 1, by omega, by omega, .inr hn, by rw [show ((m + 1 : Nat) : Int) = 1 + (m : Int) by omega]; rfl, W1.draw D2 k2, k2.of eD1 ndD.symm⟩
        · exact ⟨1, Nat.le_refl _, by decide, .inl rfl, rfl, W1, eD1⟩
      clear W1 eD1
      rintro σ G2 ⟨u, u1, u3, un, rfl, W2, eD2⟩
      refine ⟨fun σ G => ∃ (y9 y11 y12 y13 y14 : Option V) (ks : List (Key × V)), σ = [some (.ref d), some (.ref g), some (.int n), some (.ref Hd), some (.ref Wy), some (.int v), some (.ref D), none, none, y9, some (.int (u : Int)), y11, y12, y13, y14, none] ∧ W29 T C5 d l g st Hd Wy n S k c kvs wk G ∧ G D = some (.dK ks) ∧ Hdd G ks (hsOf (swS (u : Int) S)), ?_, ?_⟩
      · have hk := W2.hh.keys
        rw [hsOf_keys] at hk
        refine ⟨.ref Hd, rfl, Hd, kvs, S.map (·.1), rfl, .inl W2.eH, hk, by rw [List.length_map]; omega, fun ys p py so np => ?_⟩
        have ey := perm_sorted py so row.up
        subst ey
        have sp := same_upd (H := G2) (o := .lst ((S.map (·.1)).map V.int)) np
        have ep : (upd G2 p (.lst ((S.map (·.1)).map V.int))) p = some (.lst ((S.map (·.1)).map V.int)) := upd_same
        generalize upd G2 p (.lst ((S.map (·.1)).map V.int)) = G3 at sp ep
        have W3 := W2.same sp
        have eD3 := sp _ _ eD2
        refine ⟨p, rfl, ⟨_, SqL.of ep⟩, for_list (K := K) (a := p) (xs := (S.map (·.1)).map V.int) (fun i σ G => ∃ (y9 y11 y12 y13 y14 : Option V) (ks : List (Key × V)), σ = [some (.ref d), some (.ref g), some (.int n), some (.ref Hd), some (.ref Wy), some (.int v), some (.ref D), none, none, y9, some (.int (u : Int)), y11, y12, y13, y14, none] ∧ Keep D G3 G ∧ G D = some (.dK ks) ∧ Hdd G ks (hsOf (swS (u : Int) (S.take i))))
          ⟨none, none, none, none, none, [], rfl, fun b o _ hb => hb, eD3, .nil⟩ (fun i σ G _ ⟨_, _, _, _, _, _, _, kp, _⟩ => SqL.of (kp.of ep (ne_of ep eD3 (fun z => by cases z)))) ?_ ?_⟩
        · rintro i y σ G hy ⟨y9, y11, y12, y13, y14, ks, rfl, kp, eD, hd⟩
          rw [List.map_map, List.getElem?_map] at hy
          obtain ⟨z, hz, rfl⟩ := Option.map_eq_some_iff.mp hy
          have W := W3.offD eD3 nHD nWD nSD kp
          have mz := List.mem_of_getElem? hz
          have ok := row.ok z mz
          obtain ⟨a, us, va, ea, pr⟩ := W.hh.get (by rw [hsOf_keys]; exact row.up) (z.1, endM z.2) (List.mem_map.mpr ⟨z, mz, rfl⟩)
          have wy : valV wk (Sum.inl z.1) = some (.int z.2.2.2.2) := hw.get uw _ (hS z mz)
          have lus : us.length = (endM z.2).length := pr.length
          have lem : us.length ≤ 100 := by
            rw [lus, endM_len]
            have := ok.2.2.2.2.1
            have := ok.2.2.1
            omega
          have lq : us.length = z.2.2.2.1.toNat := lus.trans endM_len
          have stepE : swS (u : Int) (S.take (i + 1)) = swS (u : Int) (S.take i) ++ [(z.1, swX (u : Int) z.2)] := by
            unfold swS
            rw [List.take_add_one, hz, List.map_append]
            rfl
          have hlt : ∀ s ∈ S.take i, s.1 < z.1 := fun s hs => by
            have u2 : ((S.take (i + 1)).map (·.1)).Pairwise (· < ·) := row.up.sublist ((List.take_sublist _ _).map _)
            rw [List.take_add_one, hz, List.map_append, List.pairwise_append] at u2
            exact u2.2.2 _ (List.mem_map.mpr ⟨s, hs, rfl⟩) _ (List.mem_singleton.mpr rfl)
          have hno : valV ks (Sum.inl z.1) = none := hd.none fun s hs => by
            obtain ⟨s', hs', rfl⟩ := List.mem_map.mp hs
            obtain ⟨s2, h2, rfl⟩ := List.mem_map.mp hs'
            have := hlt s2 h2
            show s2.1 ≠ z.1
            omega
          have lks : ks.length ≤ 24 := by
            rw [hd.len]
            unfold hsOf swS
            rw [List.length_map, List.length_map, List.length_take]
            omega
          -- found[at] = []
          refine ⟨Nat.zero_le _, fun A nA => ?_⟩
          have sA := same_upd (H := G) (o := .lst []) nA
          have eA : (upd G A (.lst [])) A = some (.lst []) := upd_same
          generalize upd G A (.lst []) = G4 at sA eA
          have eD4 := sA _ _ eD
          have nAD : A ≠ D := (ne_of_none eD nA).symm
          refine ⟨.ref D, rfl, .int z.1, rfl, D, _, rfl, DPut.k (k := Sum.inl z.1) eD4 (sz_lt (by omega)), ?_⟩
          have kD : Keep D G4 (upd G4 D (.dK (putK ks (Sum.inl z.1) (.ref A)))) := Keep.upd
          have eD5 : (upd G4 D (.dK (putK ks (Sum.inl z.1) (.ref A)))) D = some (.dK (putK ks (Sum.inl z.1) (.ref A))) := upd_same
          generalize upd G4 D (.dK (putK ks (Sum.inl z.1) (.ref A))) = G5 at kD eD5
          have k5 : Keep D G G5 := (keepS sA).trans kD
          have eA5 := kD.of eA nAD
          have naD : a ≠ D := ne_of ea eD (fun z => by cases z)
          have gtA : ∀ {G' : Hp}, G' D = some (.dK (putK ks (Sum.inl z.1) (.ref A))) → DGet G' D (.int z.1) (some (.ref A)) := fun e => by
            have := DGet.k (k := Sum.inl z.1) e
            rw [valV_put, if_pos rfl] at this
            exact this
          have gtH : DGet G5 Hd (.int z.1) (some (.ref a)) := by
            have := DGet.k (k := Sum.inl z.1) (k5.of W.eH nHD)
            rw [va] at this
            exact this
          refine ⟨.ref Hd, rfl, .int z.1, rfl, Hd, .ref a, rfl, gtH, ?_⟩
          refine ⟨a, rfl, ⟨_, SqL.of (k5.of ea naD)⟩, for_list (K := K) (a := a) (xs := us.map V.ref) (fun j σ G' => ∃ (y11 y12 y13 y14 : Option V) (as : List Addr), σ = [some (.ref d), some (.ref g), some (.int n), some (.ref Hd), some (.ref Wy), some (.int v), some (.ref D), none, none, some (.int z.1), some (.int (u : Int)), y11, y12, y13, y14, none] ∧ Keep D G G' ∧ G' D = some (.dK (putK ks (Sum.inl z.1) (.ref A))) ∧ G' A = some (.lst (as.map V.ref)) ∧ Prs G' as (wideL u z.2.1 z.2.2.1 z.2.2.2.1 z.2.2.2.2 j))
            ⟨y11, y12, y13, y14, [], rfl, k5, eD5, eA5, .nil⟩ (fun j σ G' _ ⟨_, _, _, _, _, _, kp', _⟩ => SqL.of (kp'.of ea naD)) ?_ ?_⟩
          · rintro j x σ G' hx ⟨y11, y12, y13, y14, as, rfl, kp6, eD6, eA6, pr6⟩
            rw [List.getElem?_map] at hx
            obtain ⟨w1, hw1, rfl⟩ := Option.map_eq_some_iff.mp hx
            have hj : j < us.length := (List.getElem?_eq_some_iff.mp hw1).1
            have ej : (endM z.2)[j]? = some (z.2.1 + (j : Int), endQ z.2.2.1 z.2.2.2.1 z.2.2.2.2 (j : Int)) := by
              unfold endM endL
              rw [List.getElem?_map, List.getElem?_range (by omega)]
              rfl
            obtain ⟨w2, hw2, ew⟩ := pr.get j _ ej
            rw [hw1] at hw2
            cases hw2
            have nwD : w1 ≠ D := ne_of ew eD (fun z => by cases z)
            have lp6 := pr6.length
            rw [wideL_length] at lp6
            have jb : j * u ≤ 99 * 3 := Nat.mul_le_mul (by omega) u3
            refine ⟨w1, _, rfl, SqT.of (kp6.of ew nwD), rfl, .int (z.2.1 + (j : Int)), _, rfl, .int (endQ z.2.2.1 z.2.2.2.1 z.2.2.2.2 (j : Int)), _, rfl, rfl, ?_⟩
            have ob : 0 ≤ z.2.1 + (j : Int) ∧ z.2.1 + (j : Int) ≤ 1000 := by
              have := ok.2.2.1
              have := ok.2.2.2.2.1
              omega
            have qb : 0 ≤ endQ z.2.2.1 z.2.2.2.1 z.2.2.2.2 (j : Int) ∧ endQ z.2.2.1 z.2.2.2.1 z.2.2.2.2 (j : Int) ≤ 1000 := by
              have := ok.2.2.2.1
              have := ok.2.2.2.2.2
              unfold endQ
              split <;> omega
            refine ⟨.int (u : Int), rfl, (u : Int), rfl, by omega, by omega, for_range (lo := 0) (n := ((u : Int)).toNat) (fun h σ G' => ∃ (y13 y14 : Option V) (as : List Addr), σ = [some (.ref d), some (.ref g), some (.int n), some (.ref Hd), some (.ref Wy), some (.int v), some (.ref D), none, none, some (.int z.1), some (.int (u : Int)), some (.int (z.2.1 + (j : Int))), some (.int (endQ z.2.2.1 z.2.2.2.1 z.2.2.2.2 (j : Int))), y13, y14, none] ∧ Keep D G G' ∧ G' D = some (.dK (putK ks (Sum.inl z.1) (.ref A))) ∧ G' A = some (.lst (as.map V.ref)) ∧ Prs G' as (wideL u z.2.1 z.2.2.1 z.2.2.2.1 z.2.2.2.2 j ++ wideOf u z.2.2.2.2 (z.2.1 + (j : Int), endQ z.2.2.1 z.2.2.2.1 z.2.2.2.2 (j : Int)) h))
              ⟨y13, y14, as, rfl, kp6, eD6, eA6, by rw [show wideOf u z.2.2.2.2 (z.2.1 + (j : Int), endQ z.2.2.1 z.2.2.2.1 z.2.2.2.2 (j : Int)) 0 = [] from rfl, List.append_nil]; exact pr6⟩ ?_ ?_⟩
            · clear y13 y14
              rintro h σ G' hh ⟨y13, y14, as, rfl, kp6, eD6, eA6, pr6⟩
              have lp6 := pr6.length
              rw [List.length_append, wideL_length, wideOf_length] at lp6
              have hu3 : h < 3 := by omega
              have la : (as.map V.ref).length < sizeLine := sz_lt (by rw [List.length_map]; omega)
              have eW6 := kp6.of W.eW nWD
              have gw : DGet G' Wy (.int z.1) (some (.int z.2.2.2.2)) := by
                have := DGet.k (k := Sum.inl z.1) eW6
                rw [wy] at this
                exact this
              have cm1 : CMul (z.2.1 + (j : Int)) (u : Int) := .inl ⟨by omega, by omega⟩
              have cm2 : CMul (endQ z.2.2.1 z.2.2.2.1 z.2.2.2.2 (j : Int)) (u : Int) := .inl ⟨by omega, by omega⟩
              have fin : ∀ (b : Addr) (e : Int), G' b = none → e = (if z.2.2.2.2 = 1 then (u : Int) - 1 - (h : Int) else (h : Int)) → ∀ G9, G9 = upd (upd G' b (.tup [.int ((z.2.1 + (j : Int)) * (u : Int) + (0 + (h : Int))), .int (endQ z.2.2.1 z.2.2.2.1 z.2.2.2.2 (j : Int) * (u : Int) + e)])) A (.lst ((as.map V.ref) ++ [.ref b])) → Keep D G G9 ∧ G9 D = some (.dK (putK ks (Sum.inl z.1) (.ref A))) ∧ G9 A = some (.lst ((as ++ [b]).map V.ref)) ∧ Prs G9 (as ++ [b]) (wideL u z.2.1 z.2.2.1 z.2.2.2.1 z.2.2.2.2 j ++ wideOf u z.2.2.2.2 (z.2.1 + (j : Int), endQ z.2.2.1 z.2.2.2.1 z.2.2.2.2 (j : Int)) (h + 1)) := by
                rintro b e nb he G9 rfl
                have nbA : b ≠ A := (ne_of_none eA6 nb).symm
                have sb := same_upd (H := G') (o := .tup [.int ((z.2.1 + (j : Int)) * (u : Int) + (0 + (h : Int))), .int (endQ z.2.2.1 z.2.2.2.1 z.2.2.2.2 (j : Int) * (u : Int) + e)]) nb
                have eb : (upd G' b (.tup [.int ((z.2.1 + (j : Int)) * (u : Int) + (0 + (h : Int))), .int (endQ z.2.2.1 z.2.2.2.1 z.2.2.2.2 (j : Int) * (u : Int) + e)])) b = some (.tup [.int ((z.2.1 + (j : Int)) * (u : Int) + (0 + (h : Int))), .int (endQ z.2.2.1 z.2.2.2.1 z.2.2.2.2 (j : Int) * (u : Int) + e)]) := upd_same
                generalize upd G' b (.tup [.int ((z.2.1 + (j : Int)) * (u : Int) + (0 + (h : Int))), .int (endQ z.2.2.1 z.2.2.2.1 z.2.2.2.2 (j : Int) * (u : Int) + e)]) = G7 at sb eb
                have eA7 := sb _ _ eA6
                have kA : Keep A G7 (upd G7 A (.lst ((as.map V.ref) ++ [.ref b]))) := Keep.upd
                have kt : KeepT G7 (upd G7 A (.lst ((as.map V.ref) ++ [.ref b]))) := fun x xs hb => kA.of hb (ne_of hb eA7 (fun z => by cases z))
                refine ⟨fun x o nx hx => kA.of (sb _ _ (kp6 _ _ nx hx)) (ne_of_none hx nA), kA.of (sb _ _ eD6) nAD.symm, by rw [upd_same, List.map_append]; rfl, ?_⟩
                rw [wideOf_snoc, ← List.append_assoc]
                refine Prs.snoc ((pr6.same sb).keepT kt) (kt _ _ ?_)
                rw [eb, he, show (0 : Int) + (h : Int) = (h : Int) by omega]
              refine ⟨.ref Wy, rfl, .int z.1, rfl, Wy, .int z.2.2.2.2, rfl, gw, rfl, _, rfl, ite2 (fun hf => ?_) (fun hf => ?_)⟩
              · have hf' : z.2.2.2.2 = 1 := V.int.inj (of_decide_eq_true hf)
                refine ⟨.int (u : Int), rfl, (u : Int), 1, rfl, rfl, .int (0 + (h : Int)), rfl, _, _, rfl, rfl, ?_⟩
                refine ⟨.ref D, rfl, .int z.1, rfl, D, .ref A, rfl, gtA eD6, .inl ⟨rfl, _, SqL.of eA6⟩, .int (z.2.1 + (j : Int)), rfl, .int (u : Int), rfl, z.2.1 + (j : Int), (u : Int), rfl, rfl, cm1, .int (0 + (h : Int)), rfl, _, _, rfl, rfl, .int (endQ z.2.2.1 z.2.2.2.1 z.2.2.2.2 (j : Int)), rfl, .int (u : Int), rfl, endQ z.2.2.1 z.2.2.2.1 z.2.2.2.2 (j : Int), (u : Int), rfl, rfl, cm2, .int ((u : Int) - 1 - (0 + (h : Int))), rfl, _, _, rfl, rfl, two, fun b nb => ?_⟩
                exact ⟨A, _, _, rfl, rfl, (by rw [upd_ne (ne_of_none eA6 nb)]; exact eA6), la, _, _, as ++ [b], rfl, fin b ((u : Int) - 1 - (0 + (h : Int))) nb (by rw [if_pos hf']; omega) _ rfl⟩
              · have hf' : ¬ z.2.2.2.2 = 1 := fun z => hf (decide_eq_true (congrArg V.int z))
                refine ⟨.int (0 + (h : Int)), rfl, ?_⟩
                refine ⟨.ref D, rfl, .int z.1, rfl, D, .ref A, rfl, gtA eD6, .inl ⟨rfl, _, SqL.of eA6⟩, .int (z.2.1 + (j : Int)), rfl, .int (u : Int), rfl, z.2.1 + (j : Int), (u : Int), rfl, rfl, cm1, .int (0 + (h : Int)), rfl, _, _, rfl, rfl, .int (endQ z.2.2.1 z.2.2.2.1 z.2.2.2.2 (j : Int)), rfl, .int (u : Int), rfl, endQ z.2.2.1 z.2.2.2.1 z.2.2.2.2 (j : Int), (u : Int), rfl, rfl, cm2, .int (0 + (h : Int)), rfl, _, _, rfl, rfl, two, fun b nb => ?_⟩
                exact ⟨A, _, _, rfl, rfl, (by rw [upd_ne (ne_of_none eA6 nb)]; exact eA6), la, _, _, as ++ [b], rfl, fin b (0 + (h : Int)) nb (by rw [if_neg hf']; omega) _ rfl⟩
            · clear y13 y14
              rintro σ G' ⟨y13, y14, as, rfl, kp6, eD6, eA6, pr6⟩
              refine ⟨_, _, _, _, as, rfl, kp6, eD6, eA6, ?_⟩
              rw [wideL_snoc]
              exact pr6
          · rintro σ G' ⟨y11, y12, y13, y14, as, rfl, kp6, eD6, eA6, pr6⟩
            rw [List.length_map, lq] at pr6
            refine ⟨_, y11, y12, y13, y14, _, rfl, kp.trans kp6, eD6, ?_⟩
            rw [stepE, putK_new _ hno]
            refine Hdd.snoc29 (hd.off eD kp6) eA6 ?_
            rw [sw_end ok]
            exact pr6
        · rintro σ G ⟨y9, y11, y12, y13, y14, ks, rfl, kp, eD, hd⟩
          rw [List.length_map, List.length_map, List.take_length] at hd
          exact ⟨y9, y11, y12, y13, y14, ks, rfl, W3.offD eD3 nHD nWD nSD kp, eD, hd⟩
      clear W2 eD2
      rintro σ G3 ⟨y9, y11, y12, y13, y14, ks, rfl, W3, eD3, hd⟩
      obtain ⟨dx, hg⟩ := W3.ra.at_g
      have nu : n * (u : Int) ≤ n ∨ n * (u : Int) ≤ 42 := by
        rcases un with rfl | hn
        · exact .inl (by rw [Int.natCast_one, Int.mul_one]; exact Int.le_refl _)
        · have a := Int.mul_le_mul_of_nonneg_left (show (u : Int) ≤ 3 by omega) n0
          exact .inr (by omega)
      have nuF : n * (u : Int) ≤ 1000000000000000000 := by omega
      refine ⟨.ref g, rfl, g, dx, _, rfl, hg, rfl, .int (u : Int), rfl, g, st, n, (u : Int), S, k, c, rfl, W3.ra, row, by omega, by omega, nuF, fun G4 st' ra4 kp nst => ?_⟩
      refine ⟨.int n, rfl, .int (u : Int), rfl, n, (u : Int), rfl, rfl, .inl ⟨by omega, by omega⟩, .ref D, rfl, three, fun t nt => ?_⟩
      have st3 := same_upd (H := G4) (o := .tup [.non, .int (n * (u : Int)), .ref D]) nt
      have W4 : W29 T C5 d l g st' D Wy (n * (u : Int)) (swS (u : Int) S) (if n * (u : Int) = n ∧ swS (u : Int) S = S then k else .non) c ks wk G4 := ⟨draw_ins29 W3.dr hg kp, tabs_ins29 W3.tb hg kp, ra4, kp.of eD3 (ne_of eD3 hg (fun z => by cases z)), hd.ins29 hg kp, kp.of W3.eW (ne_of W3.eW hg (fun z => by cases z))⟩
      refine q _ t D st' (n * (u : Int)) (swS (u : Int) S) _ ks upd_same (W4.same st3) (row.swell (by omega) nuF) (by omega) fun s hs => ?_
      obtain ⟨s', hs', rfl⟩ := List.mem_map.mp hs
      exact hS s' hs'
end

/-! ### law (behind rt1_held, rt3_refs, rt4_done) -/
abbrev N_law : List Str := ["_law_script", "_law_draw", "_law_length", "_law_matings", "_law_road_here", "_law_held", "_law_ways", "_law_turn", "_law_told", "_law_due", "_law_near", "_law_part_of", "_law_wide", "_law_at", "_law_number", "_law_mating_here"]
abbrev P_law : List Str := ["_law_script"]
theorem sc_law : FnScope N_law P_law (defScope s_law) := ⟨rfl, rfl, rfl, by decide +kernel, rfl, by decide +kernel, by decide +kernel⟩
theorem TP.kvs {G : Hp} : ∀ {ts : List Addr} {hs : HL}, TP G ts hs → ∃ kvs : List (Key × V), Paired (fun p kv => G p = some (.tup [kV kv.1, kv.2])) ts kvs ∧ Hdd G kvs hs
  | _, _, .nil => ⟨[], .nil, .nil⟩
  | _, _, .cons (b := s) ⟨a, us, e1, e2, e3⟩ r => by
    obtain ⟨kvs, h1, h2⟩ := TP.kvs r
    exact ⟨(Sum.inl s.1, .ref a) :: kvs, .cons e1 h1, .cons ⟨rfl, a, us, rfl, e2, e3⟩ h2⟩
theorem Prs.kvs {G : Hp} : ∀ {ts : List Addr} {ws : List (Int × Int)}, Prs G ts ws → ∃ kvs : List (Key × V), Paired (fun p kv => G p = some (.tup [kV kv.1, kv.2])) ts kvs ∧ Wys kvs ws
  | _, _, .nil => ⟨[], .nil, .nil⟩
  | _, _, .cons (b := s) e r => by
    obtain ⟨kvs, h1, h2⟩ := Prs.kvs r
    exact ⟨(Sum.inl s.1, .int s.2) :: kvs, .cons e h1, .cons ⟨rfl, rfl⟩ h2⟩
theorem Wys.keys : ∀ {kvs : List (Key × V)} {ws : List (Int × Int)}, Wys kvs ws → kvs.map (·.1) = (ws.map (·.1)).map Sum.inl
  | _, _, .nil => rfl
  | _, _, .cons h r => by
    rw [List.map_cons, List.map_cons, List.map_cons, Wys.keys r, h.1]
def wyOf (S : StL) : List (Int × Int) := S.map fun s => (s.1, s.2.2.2.2)
theorem wyOf_keys (S : StL) : (wyOf S).map (·.1) = S.map (·.1) := by
  unfold wyOf
  rw [List.map_map]
  rfl
theorem sqt_kvs {K : PySem.W.Frag} {G : Hp} : ∀ {ts : List Addr} {kvs : List (Key × V)}, Paired (fun p kv => G p = some (.tup [kV kv.1, kv.2])) ts kvs → Paired (fun p kv => SqT K G p [kV kv.1, kv.2]) ts kvs
  | _, _, .nil => .nil
  | _, _, .cons h r => .cons (SqT.of h) (sqt_kvs r)
theorem pvS_at29 : ∀ (N : Int) (l : List M4) (j : Nat) (x : M4), l[j]? = some x → (pvS N l)[j]? = some (N + (j : Int), x)
  | N, y :: r, 0, x, h => by
    have e : y = x := Option.some.inj h
    rw [e, show N + ((0 : Nat) : Int) = N by omega]
    rfl
  | N, y :: r, j + 1, x, h => by
    rw [show N + ((j + 1 : Nat) : Int) = (N + 1) + (j : Int) by omega]
    exact pvS_at29 (N + 1) r j x h
theorem mok29 {n : Int} {x : M4} (h : Mrd n x) : Mok n x := ⟨h.f01, h.m1, h.o0, h.p0, h.o1, h.p1⟩
theorem RoAt.other29 {C5 : Addr} {G G' : Hp} {g g3 dx st : Addr} {n : Int} {S : StL} {k : V} {c : Int} {fs : List (Str × V)} (h : RoAt C5 G g st n S k c) (eg : G g3 = some (.ins C5 dx fs)) (ne : g ≠ g3) (kp : Keep g3 G G') : RoAt C5 G' g st n S k c := by
  obtain ⟨⟨dx1, e⟩, kv, e1, e2⟩ := h
  exact ⟨⟨dx1, kp.of e ne⟩, kv, kp.of e1 (ne_of e1 eg (fun z => by cases z)), e2.keep fun b xs hb => kp.of hb (ne_of hb eg (fun z => by cases z))⟩
abbrev sl29 (a d : Addr) (N : Int) (y3 y4 y5 y6 y7 y8 y9 y10 y11 y12 : Option V) : List (Option V) := [some (.ref a), some (.ref d), some (.int N), y3, y4, y5, y6, y7, y8, y9, y10, y11, y12, none, none, none]
section
variable {P : Program} {w : World} {K : PySem.W.Frag} {mg : Str → Option Value} {base : Heap} {C5 : Addr} {T : List (Addr × Str)}
theorem ok_law29 {f fOp fP fLk fRd fPv fRf fDn fTl fI fG fS fM fL fEn : Addr} {fd fdOp fdP fdLk fdRd fdPv fdRf fdDn fdTl fdI fdG fdS fdM fdL fdEn : FuncData} (F : Fun K "law" "law" s_law f fd) (D_open : DefAt K mg "_law_open" s_open P_open fOp fdOp) (D_pull : DefAt K mg "_law_pull" s_pull P_pull fP fdP) (D_like : DefAt K mg "_law_like" s_like P_like fLk fdLk)
    (D_road : DefAt K mg "_law_road" s_road P_road fRd fdRd) (G_road : FnOk P w K mg base CX0 3 fRd fdRd P_road spRoad) (D_paved : DefAt K mg "_law_paved" s_paved P_paved fPv fdPv) (G_paved : FnOk P w K mg base CX0 6 fPv fdPv P_paved (spPaved C5)) (D_ends : DefAt K mg "_law_ends" s_ends P_ends fEn fdEn)
    (D_refusals : DefAt K mg "_law_refusals" s_refusals P_refusals fRf fdRf) (G_refusals : FnOk P w K mg base CX0 18 fRf fdRf P_refusals (spRefs29 C5 T)) (D_done : DefAt K mg "_law_done" s_done P_done fDn fdDn) (G_done : FnOk P w K mg base CX0 5 fDn fdDn P_done (spDone29 C5 T)) (D_told_pairs : DefAt K mg "_law_told_pairs" s_told_pairs P_told_pairs fTl fdTl) (G_told_pairs : FnOk P w K mg base CX0 2 fTl fdTl P_told_pairs (spToldP C5))
    (TRo_ : RoT K mg C5) (mkRo_ : Mk K C5 fI) (G_Ro_init : FnOk P w K mg base CX0 4 fI fdI P_Ro_init (spRoInit C5)) (b_Ro_init : Binds K fdI P_Ro_init [])
    (M_Ro_grow : Meth K C5 "grow" fG) (G_Ro_grow : FnOk P w K mg base CX0 3 fG fdG P_Ro_grow (spGrow C5)) (b_Ro_grow : Binds K fdG P_Ro_grow [])
    (M_Ro_swell : Meth K C5 "swell" fS) (G_Ro_swell : FnOk P w K mg base CX0 2 fS fdS P_Ro_swell (spSwell C5)) (b_Ro_swell : Binds K fdS P_Ro_swell [])
    (M_Ro_matings : Meth K C5 "matings" fM) (G_Ro_matings : FnOk P w K mg base CX0 1 fM fdM P_Ro_matings (spMatings C5)) (b_Ro_matings : Binds K fdM P_Ro_matings [])
    (M_Ro_length : Meth K C5 "length" fL) (G_Ro_length : FnOk P w K mg base CX0 1 fL fdL P_Ro_length (spRoLen C5)) (b_Ro_length : Binds K fdL P_Ro_length []) (B : Bn mg) :
    FnOk P w K mg base CX0 20 f fd P_law (fun vs H Q _ => ∃ (sc : Addr) (ns : List Int), vs = [.ref sc] ∧ SqL K H sc (ns.map V.int) ∧ ns.length ≤ 63 ∧ LamX.Tabs T H ∧ ∀ H', Q (.bl true) H') := by
  have G_open := ok_open (P := P) (w := w) (base := base) D_open B
  have G_pull : FnOk P w K mg base CX0 1 fP fdP P_pull spPull := ok_pull D_pull B
  have G_like : FnOk P w K mg base CX0 7 fLk fdLk P_like (spLike 6) := ok_like D_like B 6
  have G_ends : FnOk P w K mg base CX0 1 fEn fdEn P_ends spEnds := ok_ends D_ends B
  refine F.ok sc_law (fun vs H Q E h => ?_) (fun cdv A outer s H vs Q E hr h => ?_)
  · obtain ⟨sc, ns, rfl, _⟩ := h
    rfl
  · obtain ⟨sc, ns, rfl, hsc, hns, hT, q⟩ := h
    have hu := hu_of hr
    refine ⟨_, (pss_cons (ps_set (i := 1) sc_law.nd rfl (.inl rfl) (pe_call G_open (hr.mono (by omega)) (by rfl) D_open.g D_open.F.kp D_open.b .nil pass0 (pa_cons (pv 0) pa_nil)))
      (C8.pss_cut (ps_asg (pe_call G_road (hr.mono (by omega)) (by rfl) D_road.g D_road.F.kp D_road.b .nil pass0 (pa_cons (pv 1) (pa_cons pe_int (pa_cons pe_int pa_nil)))) (pg_tup (by rfl) (pgs_cons (pg_name (i := 2) sc_law.nd rfl (.inl rfl)) (pgs_cons (pg_name (i := 3) sc_law.nd rfl (.inr rfl)) pgs_nil))))
      (C8.pss_cut (ps_set (i := 4) sc_law.nd rfl (.inl rfl) (pe_call G_paved (hr.mono (by omega)) (by rfl) D_paved.g D_paved.F.kp D_paved.b .nil pass0 (pa_cons (pv 2) (pa_cons (pv 3) pa_nil))))
      (C8.pss_cut (ps_set (i := 5) sc_law.nd rfl (.inr rfl) (pe_callTy (call_dictP rfl) (by rfl) B.dict (by decide +kernel) (pa_cons (pe_lc (own := [("_law_at", 13)]) (g := gName 13) (by rfl) sc_law.nd (pi_range1 (by rfl) B.range (pa_cons (pe_callB call_len_seq (by rfl) B.len (by decide +kernel) (pa_cons (pv 3) pa_nil)) pa_nil)) (blkOk_by (own := [("_law_at", 13)]) (N := N_law) (sc := defScope s_law) (by decide +kernel)) (fun _ _ _ _ _ => (pg_name (i := 13) sc_law.nd rfl (.inl rfl))) (fun _ _ _ _ _ => pts_nil) (fun _ _ _ _ _ => (pe_tup (pa_cons (pe_op op_add (pv 13) pe_int) (pa_cons (pe_call G_ends (hr.mono (by omega)) (by rfl) D_ends.g D_ends.F.kp D_ends.b .nil pass0 (pa_cons (pe_ix (show IxR _ (rIxL K) from ix_list) (pv 3) (pv 13) (fun _ _ => rfl)) pa_nil)) pa_nil))))) pa_nil)))
      (C8.pss_cut (ps_set (i := 6) sc_law.nd rfl (.inr rfl) (pe_callTy (call_dictP rfl) (by rfl) B.dict (by decide +kernel) (pa_cons (pe_lc (own := [("_law_at", 13)]) (g := gName 13) (by rfl) sc_law.nd (pi_range1 (by rfl) B.range (pa_cons (pe_callB call_len_seq (by rfl) B.len (by decide +kernel) (pa_cons (pv 3) pa_nil)) pa_nil)) (blkOk_by (own := [("_law_at", 13)]) (N := N_law) (sc := defScope s_law) (by decide +kernel)) (fun _ _ _ _ _ => (pg_name (i := 13) sc_law.nd rfl (.inl rfl))) (fun _ _ _ _ _ => pts_nil) (fun _ _ _ _ _ => (pe_tup (pa_cons (pe_op op_add (pv 13) pe_int) (pa_cons (pe_ix (show IxR _ (rIxT K) from ix_tup) (pe_ix (show IxR _ (rIxL K) from ix_list) (pv 3) (pv 13) (fun _ _ => rfl)) pe_int (fun _ _ => rfl)) pa_nil))))) pa_nil)))
      (C8.pss_cut (ps_for PassesOwn.never rfl (pi_range1 (by rfl) B.range (pa_cons pe_int pa_nil)) (pg_name (i := 7) sc_law.nd rfl (.inl rfl)) (C8.pss_cut (ps_if (pt_not (pt_val (pe_call G_refusals (hr.mono (by omega)) (by rfl) D_refusals.g D_refusals.F.kp D_refusals.b .nil pass0 (pa_cons (pv 1) (pa_cons (pv 4) (pa_cons (pv 2) pa_nil)))))) (pss_one (ps_ret pe_bl)) pss_nil)
      (C8.pss_cut (ps_asg (pe_call G_done (hr.mono (by omega)) (by rfl) D_done.g D_done.F.kp D_done.b .nil pass0 (pa_cons (pv 1) (pa_cons (pv 4) (pa_cons (pv 2) (pa_cons (pv 5) (pa_cons (pv 6) pa_nil)))))) (pg_tup (by rfl) (pgs_cons (pg_name (i := 8) sc_law.nd rfl (.inl rfl)) (pgs_cons (pg_name (i := 2) sc_law.nd rfl (.inl rfl)) (pgs_cons (pg_name (i := 5) sc_law.nd rfl (.inr rfl)) pgs_nil)))))
      (C8.pss_cut (ps_setLc (i := 9) (own := [("_law_number", 14)]) (g := gName 14) (by rfl) sc_law.nd rfl rfl (sw_true rfl rfl rfl (by decide +kernel)) (pi_list (pe_callB (call_sortedDI rfl) (by rfl) B.sorted (by decide +kernel) (pa_cons (pv 5) pa_nil))) (blkOk_by (own := [("_law_number", 14)]) (N := N_law) (sc := defScope s_law) (by decide +kernel)) (fun _ _ _ _ _ => (pg_name (i := 14) sc_law.nd rfl (.inl rfl))) (fun _ _ _ _ _ => pts_nil) (fun _ _ _ _ _ => (pe_tup (pa_cons (pv 14) (pa_cons (pe_callB (show CallR _ _ (rSortedPO K) from cr_sortedPO) (by rfl) B.sorted (by decide +kernel) (pa_cons (pe_dget hu (pv 5) (pv 14) (fun _ _ => rfl)) pa_nil)) pa_nil)))))
      (C8.pss_cut (ps_if (PW.pt (pw_or (pt_cmpR op_notN (pv 8) pe_non (nomark _)) (pw_or1 (pt_not (pt_val (pe_call G_like (hr.mono (by omega)) (by rfl) D_like.g D_like.F.kp D_like.b .nil pass0 (pa_cons (pe_lst (pa_cons (pe_meth0 (pv 4) TRo_.cl M_Ro_length G_Ro_length (hr.mono (by omega)) b_Ro_length .nil pass0) (pa_cons (pe_call G_told_pairs (hr.mono (by omega)) (by rfl) D_told_pairs.g D_told_pairs.F.kp D_told_pairs.b .nil pass0 (pa_cons (pv 4) pa_nil)) pa_nil))) (pa_cons (pe_lst (pa_cons (pv 2) (pa_cons (pv 9) pa_nil))) pa_nil)))))))) (pss_one (ps_ret pe_bl)) pss_nil)
      (pss_one (ps_if (pt_val (pe_callB (cr_any rfl) (by rfl) B.any (by decide +kernel) (pa_cons (pe_lc (own := [("_law_number", 14), ("_law_mating_here", 15)]) (g := gTup K 2 (gCons (gName 14) (gCons (gName 15) gNil))) (by rfl) sc_law.nd (pi_list (pe_meth0 (pv 4) TRo_.cl M_Ro_matings G_Ro_matings (hr.mono (by omega)) b_Ro_matings .nil pass0)) (blkOk_by (own := [("_law_number", 14), ("_law_mating_here", 15)]) (N := N_law) (sc := defScope s_law) (by decide +kernel)) (fun _ _ _ _ _ => (pg_tup (by rfl) (pgs_cons (pg_name (i := 14) sc_law.nd rfl (.inl rfl)) (pgs_cons (pg_name (i := 15) sc_law.nd rfl (.inl rfl)) pgs_nil)))) (fun _ _ _ _ _ => pts_nil) (fun _ _ _ _ _ => (pe_cmpR op_ne (pe_ix (show IxR _ (rIxT K) from ix_tup) (pv 15) pe_int (fun _ _ => rfl)) (pe_dget hu (pv 6) (pv 14) (fun _ _ => rfl)) (nomark _)))) pa_nil))) (pss_one (ps_ret pe_bl)) pss_nil)))))))
      (C8.pss_cut (ps_par (i := 10) (j := 11) (by rfl) sc_law.nd rfl rfl (by decide) rfl rfl (pa_cons (pe_make mkRo_ G_Ro_init (hr.mono (by omega)) (by rfl) TRo_.gC b_Ro_init .nil pass0 (pa_cons (pv 2) pa_nil)) (pa_cons (pe_ix ix_list (pe_lst (pa_cons pe_int (pa_cons pe_int (pa_cons pe_int (pa_cons pe_int (pa_cons pe_int pa_nil)))))) (pe_call G_pull (hr.mono (by omega)) (by rfl) D_pull.g D_pull.F.kp D_pull.b .nil pass0 (pa_cons (pv 1) (pa_cons pe_int pa_nil))) (fun _ _ => rfl)) pa_nil)) (by rfl))
      (C8.pss_cut (ps_expr (pe_meth (pv 10) TRo_.cl M_Ro_grow G_Ro_grow (hr.mono (by omega)) b_Ro_grow .nil pass0 (pa_cons (pe_op op_sub (pe_op op_pow pe_int pe_int) (pv 2)) pa_nil)))
      (C8.pss_cut (ps_set (i := 12) sc_law.nd rfl (.inl rfl) (pe_make mkRo_ G_Ro_init (hr.mono (by omega)) (by rfl) TRo_.gC b_Ro_init .nil pass0 (pa_cons (pv 11) pa_nil)))
      (C8.pss_cut (ps_expr (pe_meth (pv 12) TRo_.cl M_Ro_swell G_Ro_swell (hr.mono (by omega)) b_Ro_swell .nil pass0 (pa_cons (pe_op op_fdivW (pe_op op_pow pe_int pe_int) (pv 11)) pa_nil)))
      (pss_one (ps_ret (pe_call G_like (hr.mono (by omega)) (by rfl) D_like.g D_like.F.kp D_like.b .nil pass0 (pa_cons (pe_lst (pa_cons (pe_meth0 (pv 10) TRo_.cl M_Ro_length G_Ro_length (hr.mono (by omega)) b_Ro_length .nil pass0) (pa_cons (pe_meth0 (pv 12) TRo_.cl M_Ro_length G_Ro_length (hr.mono (by omega)) b_Ro_length .nil pass0) pa_nil))) (pa_cons (pe_lst (pa_cons (pe_op op_pow pe_int pe_int) (pa_cons (pe_op op_pow pe_int pe_int) pa_nil))) pa_nil))))))))))))))), ?_⟩
    have two : 2 ≤ sizeLine := by decide
    refine ⟨.ref sc, rfl, sc, ns, rfl, hsc, hns, fun H1 d l sm nd nl hD => ?_⟩
    have T1 := hT.ext sm
    -- the road's numbers
    refine ⟨fun σ G => ∃ (N : Int) (L : Addr) (ts : List Addr) (ms : List M4), σ = sl29 sc d N (some (.ref L)) none none none none none none none none none ∧ Draw G d l ∧ LamX.Tabs T G ∧ G L = some (.lst (ts.map V.ref)) ∧ Mts G ts ms ∧ (∀ x ∈ ms, Mrd N x) ∧ ms.length ≤ 4 ∧ 1 ≤ N ∧ N ≤ 9, ?_, ?_⟩
    · refine ⟨.ref d, rfl, d, l, 9, 4, rfl, hD, by decide, by decide, by decide, by decide, fun G4 t L n ts ms D4 k4 et nL eL hM hR hl n1 n2 => ⟨t, _, rfl, SqT.of et, rfl, .int n, _, rfl, .ref L, _, rfl, rfl, ?_⟩⟩
      exact ⟨n, L, ts, ms, rfl, D4, tabs_keep T1 hD k4, eL, hM, hR, by omega, by omega, by omega⟩
    clear hD T1 sm
    rintro σ G1 ⟨N, L, ts, ms, rfl, D1, T1, eL, hM, hR, hl, N1, N9⟩
    have okA : ∀ x ∈ ms, Mok N x := fun x hx => mok29 (hR x hx)
    have row : RoW N (pvS 1 ms) := RoW.pv (by omega) (by omega) okA (by omega)
    -- the road
    refine ⟨fun σ G => ∃ (g st : Addr), σ = sl29 sc d N (some (.ref L)) (some (.ref g)) none none none none none none none none ∧ Draw G d l ∧ LamX.Tabs T G ∧ G L = some (.lst (ts.map V.ref)) ∧ Mts G ts ms ∧ RoAt C5 G g st N (pvS 1 ms) .non 0, ?_, ?_⟩
    · refine ⟨.int N, rfl, .ref L, rfl, N, L, ts, ms, rfl, by omega, by omega, eL, hM, okA, by omega, fun G5 g1 st1 ra s5 ng nst => ?_⟩
      exact ⟨g1, st1, rfl, D1.same s5, T1.ext s5, s5 _ _ eL, hM.keep fun b xs hb => s5 _ _ hb, ra⟩
    clear D1 T1 eL hM
    rintro σ G2 ⟨g, st, rfl, D2, T2, eL, hM, ra⟩
    have lM := hM.length
    have lS : (pvS 1 ms).length = ms.length := pvS_len 1 ms
    have gS : ∀ (j : Nat) (x : M4), ms[j]? = some x → (pvS 1 ms)[j]? = some ((j : Int) + 1, x) := fun j x hj => by
      rw [pvS_at29 1 ms j x hj, Int.add_comm 1 (j : Int)]
    -- what is held
    refine ⟨fun σ G => ∃ (Hd : Addr) (kvs : List (Key × V)), σ = sl29 sc d N (some (.ref L)) (some (.ref g)) (some (.ref Hd)) none none none none none none none ∧ Same G2 G ∧ G Hd = some (.dK kvs) ∧ Hdd G kvs (hsOf (pvS 1 ms)), ?_, ?_⟩
    · refine ⟨.ref L, rfl, L, _, rfl, .inl (SqL.of eL), ((ts.map V.ref).length : Int), rfl, by rw [List.length_map]; omega, by rw [List.length_map]; omega, fun D nD => ?_⟩
      have nDL : L ≠ D := ne_of_none eL nD
      refine lc_range (lo := 0) (n := ((ts.map V.ref).length : Int).toNat) (fun i G => ∃ us : List Addr, Same G2 G ∧ G D = some (.lst (us.map V.ref)) ∧ TPo D G us (hsOf ((pvS 1 ms).take i))) ⟨[], same_upd nD, upd_same, .nil⟩ ?_ ?_
      · rintro i G hi ⟨us, sm, eD, tp⟩
        rw [List.length_map] at hi
        have hi : i < ts.length := by omega
        have et := List.getElem?_eq_getElem hi
        generalize ts[i]'hi = t at et
        obtain ⟨m, hm, em⟩ := hM.at i t et
        have okm := okA m (List.mem_of_getElem? hm)
        have o1 := okm.2.1
        have o2 := okm.2.2.1
        have o3 := okm.2.2.2.2.1
        obtain ⟨q0, hq⟩ : ∃ q0 : Nat, m.2.2.1 = (q0 : Int) := ⟨m.2.2.1.toNat, by omega⟩
        have lt := tp.tp.len
        unfold hsOf at lt
        rw [List.length_map, List.length_take] at lt
        have em' : G t = some (tup4 m.1 m.2.1 (q0 : Int) m.2.2.2) := by
          rw [sm _ _ em]
          show some (t4 m) = some (tup4 m.1 m.2.1 (q0 : Int) m.2.2.2)
          rw [← hq]
        refine ⟨rfl, .int (0 + (i : Int)), rfl, _, _, rfl, rfl, .ref L, rfl, .int (0 + (i : Int)), rfl, L, _, 0 + (i : Int), .ref t, rfl, rfl, SqL.of (sm _ _ eL), ?_, ?_⟩
        · rw [Int.zero_add]
          exact atI_nat (by rw [List.getElem?_map, et]; rfl)
        · refine ⟨t, m.1, m.2.1, m.2.2.2, q0, rfl, em', by omega, fun G4 E ps s2 nE eE pr => ?_⟩
          refine ⟨two, fun u nu => ?_⟩
          have s3 := same_upd (H := G4) (o := .tup [.int (0 + (i : Int) + 1), .ref E]) nu
          have eu : (upd G4 u (.tup [.int (0 + (i : Int) + 1), .ref E])) u = some (.tup [.int (0 + (i : Int) + 1), .ref E]) := upd_same
          have sG5 : Same G (upd G4 u (.tup [.int (0 + (i : Int) + 1), .ref E])) := s2.trans s3
          have eE5 := s3 _ _ eE
          have pr5 := pr.same s3
          generalize upd G4 u (.tup [.int (0 + (i : Int) + 1), .ref E]) = G5 at s3 eu sG5 eE5 pr5
          have eD5 := sG5 _ _ eD
          have nED : E ≠ D := fun e => by
            rw [e, eD] at nE
            cases nE
          have kD : Keep D G5 (upd G5 D (.lst (us.map V.ref ++ [.ref u]))) := Keep.upd
          have kt : KeepT G5 (upd G5 D (.lst (us.map V.ref ++ [.ref u]))) := fun b xs hb => kD.of hb (ne_of hb eD5 (fun z => by cases z))
          refine ⟨_, eD5, sz_lt (by rw [List.length_map]; omega), us ++ [u], fun b o hb => kD.of (sG5 _ _ (sm _ _ hb)) (ne_of_none hb nD), by rw [upd_same, List.map_append]; rfl, ?_⟩
          rw [List.take_add_one, gS i m hm]
          show TPo D _ (us ++ [u]) (hsOf ((pvS 1 ms).take i ++ [((i : Int) + 1, m)]))
          rw [hsOf_app]
          refine TPo.snoc nED (kt _ _ (by rw [eu, show (0 : Int) + (i : Int) + 1 = (i : Int) + 1 by omega])) (kD.of eE5 nED) (Prs.keepT kt ?_) ((tp.same sG5).keep eD5 kD)
          show Prs G5 ps (endM m)
          have e : endM m = endL m.1 m.2.1 (q0 : Int) m.2.2.2 q0 := by
            unfold endM
            rw [hq]
            rfl
          rw [e]
          exact pr5
      · rintro G ⟨us, sm, eD, tp⟩
        rw [List.length_map, Int.toNat_natCast, hM.length, ← lS, List.take_length] at tp
        obtain ⟨kvs, pk, hd⟩ := tp.tp.kvs
        refine ⟨D, us, kvs, rfl, SqL.of eD, sqt_kvs pk, fun Hd nH => ?_⟩
        have sH := same_upd (H := G) (o := .dK (mergeK [] kvs)) nH
        have mk : mergeK [] kvs = kvs := mergeK_new hd.keys (by rw [hsOf_keys]; exact row.up) (fun kv hkv => by cases hkv)
        exact ⟨Hd, kvs, rfl, sm.trans sH, by rw [upd_same, mk], hd.same sH⟩
    rintro σ G3 ⟨Hd, kvs, rfl, s3, eHd, hd⟩
    have D3 := D2.same s3
    have T3 := T2.ext s3
    have eL3 := s3 _ _ eL
    have hM3 : Mts G3 ts ms := hM.keep fun b xs hb => s3 _ _ hb
    have ra3 := ra.same s3
    clear D2 T2 eL hM ra s3
    -- the ways
    refine ⟨fun σ G => ∃ (Wy : Addr) (wk : List (Key × V)), σ = sl29 sc d N (some (.ref L)) (some (.ref g)) (some (.ref Hd)) (some (.ref Wy)) none none none none none none ∧ Same G3 G ∧ G Wy = some (.dK wk) ∧ Wys wk (wyOf (pvS 1 ms)), ?_, ?_⟩
    · refine ⟨.ref L, rfl, L, _, rfl, .inl (SqL.of eL3), ((ts.map V.ref).length : Int), rfl, by rw [List.length_map]; omega, by rw [List.length_map]; omega, fun D nD => ?_⟩
      refine lc_range (lo := 0) (n := ((ts.map V.ref).length : Int).toNat) (fun i G => ∃ us : List Addr, Same G3 G ∧ G D = some (.lst (us.map V.ref)) ∧ Prs G us (wyOf ((pvS 1 ms).take i))) ⟨[], same_upd nD, upd_same, .nil⟩ ?_ ?_
      · rintro i G hi ⟨us, sm, eD, tp⟩
        rw [List.length_map] at hi
        have hi : i < ts.length := by omega
        have et := List.getElem?_eq_getElem hi
        generalize ts[i]'hi = t at et
        obtain ⟨m, hm, em⟩ := hM3.at i t et
        have lt := tp.length
        unfold wyOf at lt
        rw [List.length_map, List.length_take] at lt
        refine ⟨rfl, .int (0 + (i : Int)), rfl, _, _, rfl, rfl, .ref L, rfl, .int (0 + (i : Int)), rfl, L, _, 0 + (i : Int), .ref t, rfl, rfl, SqL.of (sm _ _ eL3), ?_, ?_⟩
        · rw [Int.zero_add]
          exact atI_nat (by rw [List.getElem?_map, et]; rfl)
        · refine ⟨t, _, 3, .int m.2.2.2, rfl, rfl, SqT.of (sm _ _ em), at4_3, two, fun u nu => ?_⟩
          have s5 := same_upd (H := G) (o := .tup [.int (0 + (i : Int) + 1), .int m.2.2.2]) nu
          have eu : (upd G u (.tup [.int (0 + (i : Int) + 1), .int m.2.2.2])) u = some (.tup [.int (0 + (i : Int) + 1), .int m.2.2.2]) := upd_same
          generalize upd G u (.tup [.int (0 + (i : Int) + 1), .int m.2.2.2]) = G5 at s5 eu
          have eD5 := s5 _ _ eD
          have kD : Keep D G5 (upd G5 D (.lst (us.map V.ref ++ [.ref u]))) := Keep.upd
          have kt : KeepT G5 (upd G5 D (.lst (us.map V.ref ++ [.ref u]))) := fun b xs hb => kD.of hb (ne_of hb eD5 (fun z => by cases z))
          refine ⟨_, eD5, sz_lt (by rw [List.length_map]; omega), us ++ [u], fun b o hb => kD.of (s5 _ _ (sm _ _ hb)) (ne_of_none hb nD), by rw [upd_same, List.map_append]; rfl, ?_⟩
          rw [List.take_add_one, gS i m hm]
          show Prs _ (us ++ [u]) (((pvS 1 ms).take i ++ [((i : Int) + 1, m)]).map _)
          rw [List.map_append]
          exact Prs.snoc (Prs.keepT kt (tp.same s5)) (kt _ _ (by rw [eu, show (0 : Int) + (i : Int) + 1 = (i : Int) + 1 by omega]))
      · rintro G ⟨us, sm, eD, tp⟩
        rw [List.length_map, Int.toNat_natCast, hM3.length, ← lS, List.take_length] at tp
        obtain ⟨kvs, pk, hd⟩ := tp.kvs
        refine ⟨D, us, kvs, rfl, SqL.of eD, sqt_kvs pk, fun Hd nH => ?_⟩
        have sH := same_upd (H := G) (o := .dK (mergeK [] kvs)) nH
        have mk : mergeK [] kvs = kvs := mergeK_new hd.keys (by rw [wyOf_keys]; exact row.up) (fun kv hkv => by cases hkv)
        exact ⟨Hd, kvs, rfl, sm.trans sH, by rw [upd_same, mk], hd⟩
    rintro σ G4 ⟨Wy, wk, rfl, s4, eWy, hw⟩
    have W0 : W29 T C5 d l g st Hd Wy N (pvS 1 ms) .non 0 kvs wk G4 := ⟨D3.same s4, T3.ext s4, ra3.same s4, s4 _ _ eHd, hd.same s4, eWy⟩
    have uw : ((wyOf (pvS 1 ms)).map (·.1)).Pairwise (· < ·) := by
      rw [wyOf_keys]
      exact row.up
    have hS0 : ∀ s ∈ pvS 1 ms, (s.1, s.2.2.2.2) ∈ wyOf (pvS 1 ms) := fun s hs => List.mem_map.mpr ⟨s, hs, rfl⟩
    generalize wyOf (pvS 1 ms) = ws at hw uw hS0
    clear D3 T3 eL3 hM3 ra3 eHd hd eWy gS
    -- ten deeds
    refine ⟨fun σ G => ∃ (y7 y8 y9 : Option V) (st Hd : Addr) (n : Int) (S : StL) (k : V) (kvs : List (Key × V)), σ = sl29 sc d n (some (.ref L)) (some (.ref g)) (some (.ref Hd)) (some (.ref Wy)) y7 y8 y9 none none none ∧ W29 T C5 d l g st Hd Wy n S k 0 kvs wk G ∧ RoW n S ∧ n ≤ 100, ?_, ?_⟩
    · refine ⟨10, rfl, by decide, by decide, for_range (lo := 0) (n := 10) (fun i σ G => ∃ (y7 y8 y9 : Option V) (st Hd : Addr) (n : Int) (S : StL) (k : V) (kvs : List (Key × V)), σ = sl29 sc d n (some (.ref L)) (some (.ref g)) (some (.ref Hd)) (some (.ref Wy)) y7 y8 y9 none none none ∧ W29 T C5 d l g st Hd Wy n S k 0 kvs wk G ∧ RoW n S ∧ n ≤ 42 + 3 * (i : Int) ∧ (∀ s ∈ S, (s.1, s.2.2.2.2) ∈ ws))
        ⟨none, none, none, st, Hd, N, pvS 1 ms, .non, kvs, rfl, W0, row, by omega, hS0⟩ ?_ ?_⟩
      · clear W0 row hS0 lS hl N1 N9 hR okA
        rintro i σ G hi ⟨y7, y8, y9, st, Hd, n, S, k, kvs, rfl, W, row, nb, hS⟩
        have n0 := row.n0
        -- refusals
        refine ⟨fun σ G => σ = sl29 sc d n (some (.ref L)) (some (.ref g)) (some (.ref Hd)) (some (.ref Wy)) (some (.int (0 + (i : Int)))) y8 y9 none none none ∧ W29 T C5 d l g st Hd Wy n S k 0 kvs wk G, ?_, ?_⟩
        · refine ⟨.ref d, rfl, .ref g, rfl, .int n, rfl, d, l, g, st, n, 0, S, k, rfl, W.dr, W.ra, n0, by omega, W.tb, fun G5 D5 T5 k5 => ?_⟩
          exact ⟨_, rfl, iteF ⟨rfl, W.kd D5 T5 k5⟩⟩
        clear W
        rintro σ G5 ⟨rfl, W⟩
        -- done
        refine ⟨fun σ G => ∃ (st Hd : Addr) (n : Int) (S : StL) (k : V) (kvs : List (Key × V)), σ = sl29 sc d n (some (.ref L)) (some (.ref g)) (some (.ref Hd)) (some (.ref Wy)) (some (.int (0 + (i : Int)))) (some .non) y9 none none none ∧ W29 T C5 d l g st Hd Wy n S k 0 kvs wk G ∧ RoW n S ∧ n ≤ 42 + 3 * ((i + 1 : Nat) : Int) ∧ (∀ s ∈ S, (s.1, s.2.2.2.2) ∈ ws), ?_, ?_⟩
        · refine ⟨.ref d, rfl, .ref g, rfl, .int n, rfl, .ref Hd, rfl, .ref Wy, rfl, d, l, g, st, Hd, Wy, n, 0, S, k, kvs, wk, ws, rfl, W, row, by omega, hw, uw, hS, fun G6 t Hd' st' n' S' k' kvs' et W' row' nb' hS' => ?_⟩
          refine ⟨t, _, rfl, SqT.of et, rfl, .non, _, rfl, .int n', _, rfl, .ref Hd', _, rfl, rfl, ?_⟩
          exact ⟨st', Hd', n', S', k', kvs', rfl, W', row', by omega, hS'⟩
        clear W row hS nb n0 st Hd S k kvs n
        rintro σ G6 ⟨st, Hd, n, S, k, kvs, rfl, W, row, nb, hS⟩
        have n0 := row.n0
        have lS := row.len
        -- what is due
        refine ⟨fun σ G => ∃ (Du : Addr) (ts : List Addr), σ = sl29 sc d n (some (.ref L)) (some (.ref g)) (some (.ref Hd)) (some (.ref Wy)) (some (.int (0 + (i : Int)))) (some .non) (some (.ref Du)) none none none ∧ W29 T C5 d l g st Hd Wy n S k 0 kvs wk G ∧ G Du = some (.lst (ts.map V.ref)) ∧ TP G ts (hsOf S), ?_, ?_⟩
        · have hk := W.hh.keys
          rw [hsOf_keys] at hk
          refine ⟨.ref Hd, rfl, Hd, kvs, S.map (·.1), rfl, .inl W.eH, hk, by rw [List.length_map]; omega, fun ys p py so np => ?_⟩
          have ey := perm_sorted py so row.up
          subst ey
          have sp := same_upd (H := G6) (o := .lst ((S.map (·.1)).map V.int)) np
          have ep : (upd G6 p (.lst ((S.map (·.1)).map V.int))) p = some (.lst ((S.map (·.1)).map V.int)) := upd_same
          generalize upd G6 p (.lst ((S.map (·.1)).map V.int)) = G7 at sp ep
          have W7 := W.same sp
          refine ⟨p, rfl, ⟨_, SqL.of ep⟩, fun D nD => lc_list (K := K) (a := p) (xs := (S.map (·.1)).map V.int) (fun j G => ∃ us : List Addr, Same G7 G ∧ G D = some (.lst (us.map V.ref)) ∧ TPo D G us (hsOf (S.take j))) ⟨[], same_upd nD, upd_same, .nil⟩ (fun j G _ ⟨_, sm, _⟩ => SqL.of (sm _ _ ep)) ?_ ?_⟩
          · rintro j v G hv ⟨us, sm, eD, tp⟩
            rw [List.map_map, List.getElem?_map] at hv
            obtain ⟨z, hz, rfl⟩ := Option.map_eq_some_iff.mp hv
            have mz := List.mem_of_getElem? hz
            have Wg := W7.same sm
            obtain ⟨a, ps, va, ea, pr⟩ := Wg.hh.get (by rw [hsOf_keys]; exact row.up) (z.1, endM z.2) (List.mem_map.mpr ⟨z, mz, rfl⟩)
            have gt : DGet G Hd (.int z.1) (some (.ref a)) := by
              have := DGet.k (k := Sum.inl z.1) Wg.eH
              rw [va] at this
              exact this
            have lt := tp.tp.len
            unfold hsOf at lt
            rw [List.length_map, List.length_take] at lt
            refine ⟨rfl, .int z.1, rfl, .ref Hd, rfl, .int z.1, rfl, Hd, .ref a, rfl, gt, ?_⟩
            refine ⟨a, ps.map V.ref, prK G, rfl, SqL.of ea, prK_mem pr, fun ys p sy sb np => ?_⟩
            have ey := srt_same pr (endM_up _) sy sb
            subst ey
            have s3 := same_upd (H := G) (o := .lst (ps.map V.ref)) np
            have ep : (upd G p (.lst (ps.map V.ref))) p = some (.lst (ps.map V.ref)) := upd_same
            generalize upd G p (.lst (ps.map V.ref)) = G3 at s3 ep
            refine ⟨two, fun u nu => ?_⟩
            have s4 := same_upd (H := G3) (o := .tup [.int z.1, .ref p]) nu
            have eu : (upd G3 u (.tup [.int z.1, .ref p])) u = some (.tup [.int z.1, .ref p]) := upd_same
            generalize upd G3 u (.tup [.int z.1, .ref p]) = G4 at s4 eu
            have s34 := s3.trans s4
            have eD4 := s34 _ _ eD
            have npD : p ≠ D := fun e => by
              rw [e, eD] at np
              cases np
            have kD : Keep D G4 (upd G4 D (.lst (us.map V.ref ++ [.ref u]))) := Keep.upd
            have kt : KeepT G4 (upd G4 D (.lst (us.map V.ref ++ [.ref u]))) := fun b xs hb => kD.of hb (ne_of hb eD4 (fun z => by cases z))
            refine ⟨_, eD4, sz_lt (by rw [List.length_map]; omega), us ++ [u], fun b o hb => ?_, by rw [upd_same, List.map_append]; rfl, ?_⟩
            · exact kD.of (s34 _ _ (sm _ _ hb)) (ne_of_none hb nD)
            · rw [List.take_add_one, hz]
              show TPo D _ (us ++ [u]) (hsOf (S.take j ++ [z]))
              rw [hsOf_app]
              exact TPo.snoc npD (kt _ _ eu) (kD.of (s4 _ _ ep) npD) (Prs.keepT kt (pr.same s34)) ((tp.same s34).keep eD4 kD)
          · rintro G ⟨us, sm, eD, tp⟩
            rw [List.length_map, List.length_map, List.take_length] at tp
            exact ⟨D, us, rfl, W7.same sm, eD, tp.tp⟩
        clear W
        rintro σ G7 ⟨Du, ts, rfl, W, eDu, tp⟩
        have ltp := tp.len
        have lhs : (hsOf S).length = S.length := List.length_map _
        have lb : ∀ s ∈ hsOf S, s.2.length ≤ 1000 := fun s hs => by
          obtain ⟨z, hz, rfl⟩ := List.mem_map.mp hs
          show (endM z.2).length ≤ 1000
          rw [endM_len]
          have ok := row.ok z hz
          have := ok.2.2.1
          have := ok.2.2.2.2.1
          omega
        -- like what is due
        refine ⟨fun σ G => σ = sl29 sc d n (some (.ref L)) (some (.ref g)) (some (.ref Hd)) (some (.ref Wy)) (some (.int (0 + (i : Int)))) (some .non) (some (.ref Du)) none none none ∧ W29 T C5 d l g st Hd Wy n S k 0 kvs wk G, ?_, ?_⟩
        · obtain ⟨dx, hg⟩ := W.ra.at_g
          refine ⟨.non, rfl, rfl, _, rfl, iteF ?_⟩
          refine ⟨.ref g, rfl, g, dx, _, rfl, hg, rfl, g, dx, st, n, k, 0, rfl, hg, ?_⟩
          refine ⟨.ref g, rfl, g, st, n, S, k, 0, rfl, W.ra, row, by omega, fun G8 r us s8 nr er tp2 => ?_⟩
          refine ⟨two, fun A nA => ?_⟩
          have sA := same_upd (H := G8) (o := .lst [.int n, .ref r]) nA
          have eA : (upd G8 A (.lst [.int n, .ref r])) A = some (.lst [.int n, .ref r]) := upd_same
          generalize upd G8 A (.lst [.int n, .ref r]) = G9 at sA eA
          refine ⟨.int n, rfl, .ref Du, rfl, two, fun Bq nB => ?_⟩
          have sB := same_upd (H := G9) (o := .lst [.int n, .ref Du]) nB
          have eB : (upd G9 Bq (.lst [.int n, .ref Du])) Bq = some (.lst [.int n, .ref Du]) := upd_same
          generalize upd G9 Bq (.lst [.int n, .ref Du]) = G10 at sB eB
          have sAB := sA.trans sB
          have lus := tp2.len
          refine ⟨.ref A, .ref Bq, .list [.int n, .list (tpD (hsOf S))], rfl, ?_, ?_, fun G11 s11 => ?_⟩
          · exact .lst (sB _ _ eA) (by show 2 ≤ 100000; decide) (.cons (.int _ _) (.cons (.lst (sAB _ _ er) (by rw [List.length_map]; omega) ((tp2.same sAB).rp lb 1)) (.nil _)))
          · exact .lst eB (by show 2 ≤ 100000; decide) (.cons (.int _ _) (.cons (.lst ((s8.trans sAB) _ _ eDu) (by rw [List.length_map]; omega) ((tp.same (s8.trans sAB)).rp lb 1)) (.nil _)))
          · exact ⟨_, rfl, iteF ⟨rfl, W.same ((s8.trans sAB).trans s11)⟩⟩
        clear W eDu tp
        rintro σ G8 ⟨rfl, W⟩
        -- the ways stand
        obtain ⟨dx, hg⟩ := W.ra.at_g
        refine ⟨.ref g, rfl, g, dx, _, rfl, hg, rfl, g, st, n, S, k, 0, rfl, W.ra, row.up, by omega, fun H1 r us s1 nr er lu => ?_⟩
        have W1 := W.same s1
        have lus := lu.length
        refine ⟨r, rfl, ⟨_, SqL.of er⟩, fun D nD => lc_list (K := K) (a := r) (xs := us.map V.ref) (fun j G => Same H1 G ∧ G D = some (.lst ((List.replicate j false).map V.bl))) ⟨same_upd nD, upd_same⟩ (fun j G _ ⟨sm, _⟩ => SqL.of (sm _ _ er)) ?_ ?_⟩
        · rintro j v G hv ⟨sm, eD⟩
          rw [List.getElem?_map] at hv
          obtain ⟨t, ht, rfl⟩ := Option.map_eq_some_iff.mp hv
          have hj : j < us.length := (List.getElem?_eq_some_iff.mp ht).1
          obtain ⟨z, hz, tt, et, ett⟩ := LiI.paired_get lu ht
          have Wg := W1.same sm
          have gw : DGet G Wy (.int z.1) (some (.int z.2.2.2.2)) := by
            have := DGet.k (k := Sum.inl z.1) Wg.eW
            rw [hw.get uw _ (hS z (List.mem_of_getElem? hz))] at this
            exact this
          refine ⟨t, _, rfl, SqT.of (sm _ _ et), rfl, .int z.1, _, rfl, .ref tt, _, rfl, rfl, rfl, ?_⟩
          refine ⟨.ref tt, rfl, tt, _, 3, .int z.2.2.2.2, rfl, rfl, SqT.of (sm _ _ ett), at4_3, .ref Wy, rfl, .int z.1, rfl, Wy, .int z.2.2.2.2, rfl, gw, rfl, ?_⟩
          refine ⟨_, eD, sz_lt (by rw [List.length_map, List.length_replicate]; omega), fun b o hb => ?_, ?_⟩
          · rw [upd_ne (ne_of_none hb nD)]
            exact sm _ _ hb
          · rw [upd_same, List.replicate_succ', List.map_append, decide_eq_true rfl]
            rfl
        · rintro G ⟨sm, eD⟩
          refine ⟨D, _, rfl, SqL.of eD, _, rfl, ?_⟩
          have e : (List.replicate (us.map V.ref).length false).any id = false := by
            rw [List.any_eq_false]
            intro b hb
            rw [List.eq_of_mem_replicate hb]
            exact Bool.false_ne_true
          rw [e]
          exact iteF ⟨_, _, _, st, Hd, n, S, k, kvs, rfl, W1.same sm, row, nb, hS⟩
      · rintro σ G ⟨y7, y8, y9, st, Hd, n, S, k, kvs, rfl, W, row, nb, hS⟩
        exact ⟨y7, y8, y9, st, Hd, n, S, k, kvs, rfl, W, row, by omega⟩
    clear W0 row hS0 lS hl N1 N9 hR okA st Hd kvs N
    rintro σ G5 ⟨y7, y8, y9, st, Hd, n, S, k, kvs, rfl, W, row, n100⟩
    have n0 := row.n0
    have hD := W.dr
    have hg := W.tb
    clear W
    -- a road near to FAR
    refine ⟨fun σ G => ∃ (g2 st2 : Addr) (p : Int), (p = 1 ∨ p = 2 ∨ p = 4 ∨ p = 5 ∨ p = 8) ∧ σ = sl29 sc d n (some (.ref L)) (some (.ref g)) (some (.ref Hd)) (some (.ref Wy)) y7 y8 y9 (some (.ref g2)) (some (.int p)) none ∧ RoAt C5 G g2 st2 n [] .non 0, ?_, ?_⟩
    · refine ⟨.int n, rfl, fun g0 dx ng ndx nex => ?_⟩
      have s1 := same_make (C := C5) ng ndx
      have e1 : (upd (upd G5 dx (.own g0)) g0 (.ins C5 dx [])) g0 = some (.ins C5 dx []) := upd_same
      generalize upd (upd G5 dx (.own g0)) g0 (.ins C5 dx []) = H1 at s1 e1
      refine ⟨g0, dx, n, rfl, e1, n0, by omega, fun H2 st0 eg2 est2 nst0 k2 => ⟨rfl, ?_⟩⟩
      have s2 : Same G5 H2 := fun b o hb => k2 _ _ (ne_of_none hb ng) (s1 _ _ hb)
      have R0 : RoAt C5 H2 g0 st0 n [] .non 0 := ⟨⟨dx, eg2⟩, [], est2, .nil⟩
      have D2 := hD.same s2
      refine ⟨by show 5 ≤ sizeLine; decide, fun M nM => ?_⟩
      have sM := same_upd (H := H2) (o := .lst [.int 1, .int 2, .int 4, .int 5, .int 8]) nM
      have eM : (upd H2 M (.lst [.int 1, .int 2, .int 4, .int 5, .int 8])) M = some (.lst [.int 1, .int 2, .int 4, .int 5, .int 8]) := upd_same
      have nMd := (draw_apart D2 nM).1
      generalize upd H2 M (.lst [.int 1, .int 2, .int 4, .int 5, .int 8]) = H3 at sM eM
      have R3 := R0.same sM
      have D3 := D2.same sM
      refine ⟨.ref d, rfl, d, l, 5, rfl, D3, by decide, by decide, fun v H4 v0 v5 D4 k4 => ?_⟩
      obtain ⟨v, rfl⟩ := Int.eq_ofNat_of_zero_le v0
      have R4 := R3.kdR (.draw D3 k4)
      have at5 : ∃ x : Int, (x = 1 ∨ x = 2 ∨ x = 4 ∨ x = 5 ∨ x = 8) ∧ ([.int 1, .int 2, .int 4, .int 5, .int 8] : List V)[v]? = some (.int x) := by
        match v, v5 with
        | 0, _ => exact ⟨1, .inl rfl, rfl⟩
        | 1, _ => exact ⟨2, .inr (.inl rfl), rfl⟩
        | 2, _ => exact ⟨4, .inr (.inr (.inl rfl)), rfl⟩
        | 3, _ => exact ⟨5, .inr (.inr (.inr (.inl rfl))), rfl⟩
        | 4, _ => exact ⟨8, .inr (.inr (.inr (.inr rfl))), rfl⟩
        | v + 5, h => exact absurd h (by omega)
      obtain ⟨x, hx, ex⟩ := at5
      exact ⟨M, _, (v : Int), .int x, rfl, rfl, SqL.of (k4.of eM nMd.symm), atI_nat ex, _, _, rfl, g0, st0, x, hx, rfl, R4⟩
    rintro σ G6 ⟨g2, st2, p, hp, rfl, R⟩
    -- grown to FAR
    refine ⟨fun σ G => ∃ (k2 : V), σ = sl29 sc d n (some (.ref L)) (some (.ref g)) (some (.ref Hd)) (some (.ref Wy)) y7 y8 y9 (some (.ref g2)) (some (.int p)) none ∧ RoAt C5 G g2 st2 1000000000000000000 [] k2 0, ?_, ?_⟩
    · obtain ⟨dx, hg2⟩ := R.at_g
      refine ⟨.ref g2, rfl, g2, dx, _, rfl, hg2, rfl, 10, 18, rfl, rfl, ⟨by decide, by decide, by decide⟩, .int n, rfl, _, _, rfl, rfl, ?_⟩
      refine ⟨g2, st2, n, 1000000000000000000 - n, [], .non, 0, rfl, R, .nil, n0, by omega, by omega, fun H' R' k' => ?_⟩
      rw [show n + (1000000000000000000 - n) = 1000000000000000000 by omega] at R'
      exact ⟨_, rfl, R'⟩
    clear R
    rintro σ G7 ⟨k2, rfl, R⟩
    -- a wide one
    refine ⟨fun σ G => ∃ (g3 st3 : Addr), g2 ≠ g3 ∧ σ = sl29 sc d n (some (.ref L)) (some (.ref g)) (some (.ref Hd)) (some (.ref Wy)) y7 y8 y9 (some (.ref g2)) (some (.int p)) (some (.ref g3)) ∧ RoAt C5 G g2 st2 1000000000000000000 [] k2 0 ∧ RoAt C5 G g3 st3 p [] .non 0, ?_, ?_⟩
    · refine ⟨.int p, rfl, fun g0 dx ng ndx nex => ?_⟩
      have s1 := same_make (C := C5) ng ndx
      have e1 : (upd (upd G7 dx (.own g0)) g0 (.ins C5 dx [])) g0 = some (.ins C5 dx []) := upd_same
      generalize upd (upd G7 dx (.own g0)) g0 (.ins C5 dx []) = H1 at s1 e1
      refine ⟨g0, dx, p, rfl, e1, by omega, by omega, fun H2 st0 eg2 est2 nst0 k2' => ⟨rfl, ?_⟩⟩
      have s2 : Same G7 H2 := fun b o hb => k2' _ _ (ne_of_none hb ng) (s1 _ _ hb)
      have R0 : RoAt C5 H2 g0 st0 p [] .non 0 := ⟨⟨dx, eg2⟩, [], est2, .nil⟩
      obtain ⟨dx2, hg2⟩ := R.at_g
      exact ⟨g0, st0, ne_of_none hg2 ng, rfl, R.same s2, R0⟩
    clear R
    rintro σ G8 ⟨g3, st3, n23, rfl, R, R3⟩
    -- swelled to FAR
    refine ⟨fun σ G => σ = sl29 sc d n (some (.ref L)) (some (.ref g)) (some (.ref Hd)) (some (.ref Wy)) y7 y8 y9 (some (.ref g2)) (some (.int p)) (some (.ref g3)) ∧ RoAt C5 G g2 st2 1000000000000000000 [] k2 0 ∧ ∃ (st3 : Addr) (k3 : V), RoAt C5 G g3 st3 1000000000000000000 [] k3 0, ?_, ?_⟩
    · obtain ⟨dx, hg3⟩ := R3.at_g
      have dvp : p * (1000000000000000000 / p) = 1000000000000000000 := by
        rcases hp with rfl | rfl | rfl | rfl | rfl <;> rfl
      have dv1 : 1 ≤ 1000000000000000000 / p ∧ 1000000000000000000 / p ≤ 1000000000000000000 := by
        rcases hp with rfl | rfl | rfl | rfl | rfl <;> exact ⟨by decide, by decide⟩
      refine ⟨.ref g3, rfl, g3, dx, _, rfl, hg3, rfl, 10, 18, rfl, rfl, ⟨by decide, by decide, by decide⟩, .int p, rfl, 1000000000000000000, p, rfl, rfl, dv29 (by omega) (by omega), ?_⟩
      have row3 : RoW p [] := RoW.pv (ms := []) (by omega) (by omega) (fun x hx => by cases hx) (Nat.zero_le _)
      refine ⟨g3, st3, p, 1000000000000000000 / p, [], .non, 0, rfl, R3, row3, dv1.1, dv1.2, by omega, fun H' st' R' k' n' => ?_⟩
      rw [dvp] at R'
      exact ⟨rfl, R.other29 hg3 n23 k', st', _, R'⟩
    clear R R3 st3
    rintro σ G9 ⟨rfl, R, st3, k3, R3⟩
    obtain ⟨dx2, h2⟩ := R.at_g
    obtain ⟨dx3, h3⟩ := R3.at_g
    refine ⟨.ref g2, rfl, g2, dx2, _, rfl, h2, rfl, g2, dx2, st2, 1000000000000000000, k2, 0, rfl, h2, ?_⟩
    refine ⟨.ref g3, rfl, g3, dx3, _, rfl, h3, rfl, g3, dx3, st3, 1000000000000000000, k3, 0, rfl, h3, ?_⟩
    refine ⟨two, fun A nA => ?_⟩
    have eA : (upd G9 A (.lst [.int 1000000000000000000, .int 1000000000000000000])) A = some (.lst [.int 1000000000000000000, .int 1000000000000000000]) := upd_same
    generalize upd G9 A (.lst [.int 1000000000000000000, .int 1000000000000000000]) = G10 at eA
    refine ⟨10, 18, rfl, rfl, ⟨by decide, by decide, by decide⟩, 10, 18, rfl, rfl, ⟨by decide, by decide, by decide⟩, two, fun Bq nB => ?_⟩
    have sB := same_upd (H := G10) (o := .lst [.int 1000000000000000000, .int 1000000000000000000]) nB
    have pw : ((10 : Int) ^ (18 : Int).toNat) = 1000000000000000000 := by decide
    refine ⟨.ref A, .ref Bq, .list [.int 1000000000000000000, .int 1000000000000000000], rfl, ?_, ?_, fun G11 s11 => q G11⟩
    · exact .lst (sB _ _ eA) (by show 2 ≤ 100000; decide) (.cons (.int _ _) (.cons (.int _ _) (.nil _)))
    · exact .lst upd_same (by show 2 ≤ 100000; decide) (.cons (.int _ _) (.cons (.int _ _) (.nil _)))
end

/-! ### the law with the one table of its refusals (behind rt5_law, 67_tabs) -/
abbrev TT29 (Pt : Addr) : List (Addr × Str) := [(Pt, refQ29)]
theorem tt29_hu {Pt : Addr} : ∀ p ∈ TT29 Pt, p.1 = Pt → p.2 = refQ29 := fun p hp _ => by
  rw [List.mem_singleton.mp hp]
theorem sp29 {K : PySem.W.Frag} {Pt : Addr} : ∀ vs H Q E, spLawT K Pt vs H Q E → (fun (vs : List V) (H : Hp) (Q : VK) (_ : XK) => ∃ (sc : Addr) (ns : List Int), vs = [.ref sc] ∧ SqL K H sc (ns.map V.int) ∧ ns.length ≤ 63 ∧ LamX.Tabs (TT29 Pt) H ∧ ∀ H', Q (.bl true) H') vs H Q E := fun vs H Q E ⟨a, ns, h1, h2, h3, h4, h5⟩ => ⟨a, ns, h1, h2, h3, fun p hp => by
  rw [List.mem_singleton.mp hp]
  exact LamX.TabS.nil h4, h5⟩
theorem len5 {α : Type} {M : List α → Prop} (h : ∀ a b c d e, M [a, b, c, d, e]) : ∀ us : List α, us.length = 5 → M us
  | [a, b, c, d, e], _ => h a b c d e

/-! ### how the class Road binds -/
theorem ro_init_binds {K : PySem.W.Frag} {f : Addr} {fd : FuncData} (F : FunD K "__init__" "Road.__init__" (defArgs s_Ro_init) (defBody s_Ro_init) (defScope s_Ro_init) [.int 0] [] f fd) : Binds K fd P_Ro_init [] := by
  obtain ⟨ds, v, b⟩ := F.binds1 (ps := P_Ro_init) 2 1 (by simp) rfl fun T kV doc pm an cdv ct us its hu hi => match us, hu, its, hi with | [_, _], _, [_], _ => ⟨_, rfl, rfl⟩
  cases v
  exact b
theorem mate_kbinds {K : PySem.W.Frag} {f : Addr} {fd : FuncData} (F : FunD K "mate" "Road.mate" (defArgs s_Ro_mate) (defBody s_Ro_mate) (defScope s_Ro_mate) [] [("turned", .int 0)] f fd) : KBn K fd P_Ro_mate 4 ["turned"] (fun us ws => us ++ ws) (fun vs zs => vs ++ zs) := by
  obtain ⟨mv, b⟩ := F.kbinds0 (ps := P_Ro_mate) 4 ["turned"] [] (fun vs _ zs => vs ++ zs) (by simp) (fun q hq => (by cases hq)) (fun r1 _ r3 => r1.append r3) fun D doc pm an cdv ct us mv ws hu hm hw => match us, hu, mv, hm, ws, hw with | [_, _, _, _], _, [], _, [_], _ => rfl
  exact b

/-! ### the head by a run: what the top leaves, told by names -/
theorem len1 {α : Type} {M : List α → Prop} (h : ∀ a, M [a]) : ∀ us : List α, us.length = 1 → M us
  | [a], _ => h a
theorem len2 {α : Type} {M : List α → Prop} (h : ∀ a b, M [a, b]) : ∀ us : List α, us.length = 2 → M us
  | [a, b], _ => h a b
theorem len3 {α : Type} {M : List α → Prop} (h : ∀ a b c, M [a, b, c]) : ∀ us : List α, us.length = 3 → M us
  | [a, b, c], _ => h a b c
section
variable {K : PySem.W.Frag} {fas : List He.Fa} {fns : List He.DefD}
theorem raw_of {x q : Str} {ar : Arguments} {bd : List Stmt} {sc : Scope} {f : Addr} {fd : FuncData} (F : FunD K x q ar bd sc [] [] f fd) :
    ∃ oc od osl kV doc pm an cd ct, K.lookup f = some ⟨oc, od, .func (PySem.W.fnOf x q ar bd sc .none kV doc pm an cd ct), osl⟩ ∧ PySem.W.codeIn K cd q = true ∧ PySem.W.keepIn K (.ref f) = true := by
  obtain ⟨⟨oc, od, dV, kV, doc, pm, an, cd, ct, osl, rfl, hlk, hco, hdf, _⟩, hkp⟩ := F
  rcases hdf with ⟨_, hz⟩ | ⟨hne, _⟩
  · subst hz
    exact ⟨oc, od, osl, kV, doc, pm, an, cd, ct, hlk, hco, hkp⟩
  · exact absurd rfl hne
theorem say_def (c : He.SaysD fas fns K) (i : Nat) {x : Str} {st : Stmt} (e : fns[i]? = some (dD x st)) :
    ∃ oc od osl kV doc pm an cd ct, K.lookup (He.ga K x) = some ⟨oc, od, .func (PySem.W.fnOf x x (defArgs st) (defBody st) (defScope st) .none kV doc pm an cd ct), osl⟩ ∧ PySem.W.codeIn K cd x = true ∧ PySem.W.keepIn K (.ref (He.ga K x)) = true := by
  obtain ⟨fd, F⟩ := c.def_ i e
  exact raw_of F
theorem say_meth (c : He.SaysD fas fns K) (i : Nat) {C m q : Str} {st : Stmt} (e : fns[i]? = some (dM C m q st)) :
    ∃ oc od osl kV doc pm an cd ct, K.lookup (He.ma K (He.ga K C) m) = some ⟨oc, od, .func (PySem.W.fnOf m q (defArgs st) (defBody st) (defScope st) .none kV doc pm an cd ct), osl⟩ ∧ PySem.W.codeIn K cd q = true ∧ PySem.W.keepIn K (.ref (He.ma K (He.ga K C) m)) = true := by
  obtain ⟨fd, F⟩ := c.def_ i e
  exact raw_of F
theorem say_far (c : He.SaysD fas fns K) (i : Nat) {C m q : Str} {st : Stmt} (e : fns[i]? = some (dMs C m q st)) :
    ∃ fd, FunD K m q (defArgs st) (defBody st) (defScope st) [.str ""] [] (He.ma K (He.ga K C) m) fd := by
  obtain ⟨fd, F⟩ := c.def_ i e
  exact ⟨fd, F⟩
theorem say_law (c : He.SaysD fas fns K) (i : Nat) {x : Str} {st : Stmt} (e : fns[i]? = some (dD x st)) :
    ∃ oc od osl kV doc pm an ct, K.lookup (He.ga K x) = some ⟨oc, od, .func (PySem.W.fnOf x x (defArgs st) (defBody st) (defScope st) .none kV doc pm an (.ref (He.cT K (x, none)).1) ct), osl⟩ ∧ PySem.W.codeIn K (.ref (He.cT K (x, none)).1) x = true ∧ PySem.W.keepIn K (.ref (He.ga K x)) = true := by
  obtain ⟨oc, od, osl, kV, doc, pm, an, cd, ct, h1, h2, h3⟩ := say_def c i e
  obtain ⟨z, rfl⟩ := He.codeIn_ref h2
  have hz : He.codeOf K (x, none) = z := He.codeOf_eq (p := (x, none)) h1 rfl
  have hz2 : (He.cT K (x, none)).1 = z := hz
  rw [hz2]
  exact ⟨oc, od, osl, kV, doc, pm, an, ct, h1, h2, h3⟩
theorem say_int (c : He.SaysD fas fns K) (j : Nat) {x : Str} {i : Int} (e : fas[j]? = some (.int x i)) : ∃ t, PySem.W.nsIn K mainGlobals x = some (some (.int i t)) := by
  have q : (match PySem.W.nsIn K mainGlobals x with | some (some (.int u _)) => decide (u = i) | _ => false) = true := c.fact j e
  split at q
  · rename_i k t hk
    have hki := of_decide_eq_true q
    subst hki
    exact ⟨t, hk⟩
  · cases q
theorem all_at {l : List Bool} (h : l.all (fun b => b) = true) (i : Nat) {b : Bool} (e : l[i]? = some b) : b = true := List.all_eq_true.mp h b (List.mem_of_getElem? e)
theorem errB_ok {C : Addr} (h : errB K C = true) : ErrT K C := by
  obtain ⟨h0, h⟩ := He.ba h
  obtain ⟨h1, h⟩ := He.ba h
  obtain ⟨h2, h⟩ := He.ba h
  obtain ⟨h3, h⟩ := He.ba h
  obtain ⟨h4, h5⟩ := He.ba h
  refine ⟨⟨?_, He.eqO_ok h1, of_decide_eq_true h2, of_decide_eq_true h3, h4⟩, He.eqO_ok h5⟩
  split at h0
  · rename_i t dd cd sl hC
    obtain ⟨g1, g⟩ := He.ba h0
    obtain ⟨g2, g⟩ := He.ba g
    obtain ⟨g3, g⟩ := He.ba g
    have e1 : t = "type" := of_decide_eq_true g1
    subst e1
    split at g
    · rename_i D bm y0 y1 y2 y3 n y5 hm hs
      obtain ⟨e2, g⟩ := He.ba g
      obtain ⟨e3, e4⟩ := He.ba g
      have e2' := of_decide_eq_true e2
      have e3' := of_decide_eq_true e3
      subst e2' e3'
      obtain ⟨nm, bs, mro, ns, qn, hd, sn, sub, ab, col, del⟩ := cd
      obtain ⟨sll⟩ := sl
      have e5 : mro = .ref D :: bm := hm
      have e6 : hd = true := g2
      have e7 : del = false := by
        cases del with
        | false => rfl
        | true => cases g3
      have e8 : sll = [y0, y1, y2, y3, some (.builtin "ValueError.__new__"), y5] := hs
      subst e5 e6 e7 e8
      exact ⟨nm, qn, ns, bs, bm, sn, sub, ab, col, dd, y0, y1, y2, y3, y5, hC, e4⟩
    · cases g
  · cases h0
theorem excB_ok {C : Addr} (h : excB K C = true) : ExcC K C := by
  obtain ⟨h0, h⟩ := He.ba h
  obtain ⟨h1, h⟩ := He.ba h
  obtain ⟨h2, h⟩ := He.ba h
  obtain ⟨h3, h4⟩ := He.ba h
  have x := xfB_ok h0
  exact ⟨x.ga, x.gg, x.exC, x.hdC, He.eqO_ok h1, He.eqO_ok h2, of_decide_eq_true h3, of_decide_eq_true h4⟩
theorem cfnB_ok {C f : Addr} {m : Str} (h : cfnB K C m f = true) : ClsFn K C m f := by
  obtain ⟨h0, h⟩ := He.ba h
  obtain ⟨h1, h⟩ := He.ba h
  obtain ⟨h2, h3⟩ := He.ba h
  refine ⟨He.eqO_ok h0, h1, ?_, h3⟩
  split at h2
  · rename_i g hg
    have e := of_decide_eq_true h2
    subst e
    exact hg
  · cases h2
theorem bltB_ok {T m b : String} (h : bltB K T m b = true) : PySem.W.findCls K (.type T) (.type "type") m = some (.val (.builtin b)) := by
  unfold bltB at h
  split at h
  · rename_i g hg
    have e := of_decide_eq_true h
    subst e
    exact hg
  · cases h
theorem far_binds {f : Addr} {fd : FuncData} (F : FunD K "__init__" "FarError.__init__" (defArgs s_farinit) (defBody s_farinit) (defScope s_farinit) [.str ""] [] f fd) : Binds K fd N_farinit [] := by
  obtain ⟨ds, v, b⟩ := F.binds1 (ps := N_farinit) 2 1 (by simp) rfl fun T kV doc pm an cdv ct us its hu hi => match us, hu, its, hi with | [_, _], _, [_], _ => ⟨_, rfl, rfl⟩
  cases v
  exact b
end
/-! ### the hook: what the names reach, and the statics -/
structure SaysY (fas : List He.Fa) (fns : List He.DefD) (ex : PySem.W.Frag → List Bool) (h : Heap) (K : PySem.W.Frag) : Prop where
  d : He.SaysD fas fns K
  more : (ex K).all (fun b => b) = true
  hd : PySem.W.codeHdIn K (He.cT K lawAt).1 (He.cT K lawAt).2 = true
  out : K.lookup (He.cT K lawAt).2 = none
  mt : h.get? (He.cT K lawAt).2 = some (PySem.W.tabObj #[])
abbrev AlY : Type := He.AlD × Bool
def obsY (fas : List He.Fa) (fns : List He.DefD) (ex : PySem.W.Frag → List Bool) (g : Addr → Option Obj) : AlY := (He.obsD fas fns (seenY g), (ex (seenY g)).all (fun b => b) && tabY g (seenY g))
theorem saysY_of {fas : List He.Fa} {fns : List He.DefD} {ex : PySem.W.Frag → List Bool} {h : Heap} (e : obsY fas fns ex h.get? = (He.valD fns, true)) : SaysY fas fns ex h (seenY h.get?) := by
  have e1 : He.obsD fas fns (seenY h.get?) = He.valD fns := congrArg (fun z : AlY => z.1) e
  have e2 : ((ex (seenY h.get?)).all (fun b => b) && tabY h.get? (seenY h.get?)) = true := congrArg (fun z : AlY => z.2) e
  obtain ⟨m1, m2⟩ := He.ba e2
  obtain ⟨m3, m4⟩ := He.ba m2
  have m5 : ∃ u, h.get? (He.cT (seenY h.get?) lawAt).2 = some u ∧ He.emptyTab u = true := by
    cases q : h.get? (He.cT (seenY h.get?) lawAt).2 with
    | none =>
      rw [q] at m4
      cases m4
    | some u =>
      rw [q] at m4
      exact ⟨u, rfl, m4⟩
  obtain ⟨u, hu, hv⟩ := m5
  exact ⟨e1, m1, m3, He.frT_none hu hv, hu.trans (congrArg some (He.emptyTab_eq hv))⟩
def hookY (fas : List He.Fa) (fns : List He.DefD) (ex : PySem.W.Frag → List Bool) : PySem.W.Hook where
  α := AlY
  obs := fun s => obsY fas fns ex s.heap.get?
  val := fun _ => (He.valD fns, true)
  says := fun _ h => ∃ K : PySem.W.Frag, K.In h ∧ SaysY fas fns ex h K
  of := fun _ _ e => ⟨_, He.frT_in, saysY_of e⟩
  keeps := fun _ _ _ ⟨K, a, b⟩ k => ⟨K, PySem.W.Frag.In.keeps a k, b.d, b.more, b.hd, b.out, k _ _ b.mt⟩
theorem obsY_eq {fas : List He.Fa} {fns : List He.DefD} {ex : PySem.W.Frag → List Bool} (s : PySem.W.SharedT) : obsY fas fns ex (HandSHeadRun.getT s) = (hookY fas fns ex).obs s.abs := by
  have e : HandSHeadRun.getT s = s.abs.heap.get? := funext (HandSHeadRun.getT_eq s)
  rw [e]
  rfl
/-! ### the run by parts: each looks at one thing -/
section
open HandSHeadRun PyProof.Rows PySem.Calls PySem.W
theorem run_parts {r : PySem.W.OpenRow} {q : Program} {M : Nat} {loose : List Str} {fas : List He.Fa} {fns : List He.DefD} {ex : PySem.W.Frag → List Bool} (e1 : SeenEq r q M loose) (e2 : PartEq r.prog M (fun s => okY fas fns ex (getT s) (seenY (getT s))) fun _ => true)
    (e4 : PartEq r.prog M (fun s => fns.map fun d => He.fnW (seenY (getT s)) d.at_) fun _ => fns.map He.DefD.val) (w : World) : RunEq r q (hookY fas fns ex) (fun s => obsY fas fns ex (getT s)) M loose w := fun os => by
  obtain ⟨s, hs, h1⟩ := Option.map_eq_some_iff.mp (e1 w os)
  have at_s : ∀ {β : Type} {f : PySem.W.SharedT → β} {v : World → β}, PartEq r.prog M f v → f s = v w := fun h => by
    have z := h w os
    rw [hs] at z
    exact Option.some.inj z
  obtain ⟨a1, a2⟩ := Prod.mk.inj h1
  obtain ⟨b1, b2⟩ := He.ba (show (((fas.all fun f => f.ok (seenY (getT s))) && fns.all fun d => d.ok (seenY (getT s))) && ((ex (seenY (getT s))).all (fun b => b) && tabY (getT s) (seenY (getT s)))) = true from at_s e2)
  rw [hs]
  exact congrArg some (Prod.ext a1 (Prod.ext a2 (Prod.ext (Prod.ext b1 (at_s e4)) b2)))
end
theorem all_mk {l : PySem.W.OpenLaw} {w : World} {K : PySem.W.Frag} {h : Heap} {mg : Str → Option Value} {fa : Addr}
    {f0 : Addr} {od0 an0 : Option Addr} {sl0 : Array (Option Value)} {oc0 kV0 dc0 pm0 ct0 cd0 : Value}
    {f1 : Addr} {od1 an1 : Option Addr} {sl1 : Array (Option Value)} {oc1 kV1 dc1 pm1 ct1 cd1 : Value}
    {f2 : Addr} {od2 an2 : Option Addr} {sl2 : Array (Option Value)} {oc2 kV2 dc2 pm2 ct2 cd2 : Value}
    {f3 : Addr} {od3 an3 : Option Addr} {sl3 : Array (Option Value)} {oc3 kV3 dc3 pm3 ct3 cd3 : Value}
    {f4 : Addr} {od4 an4 : Option Addr} {sl4 : Array (Option Value)} {oc4 kV4 dc4 pm4 ct4 cd4 : Value}
    {f5 : Addr} {od5 an5 : Option Addr} {sl5 : Array (Option Value)} {oc5 kV5 dc5 pm5 ct5 cd5 : Value}
    {f6 : Addr} {od6 an6 : Option Addr} {sl6 : Array (Option Value)} {oc6 kV6 dc6 pm6 ct6 cd6 : Value}
    {f7 : Addr} {od7 an7 : Option Addr} {sl7 : Array (Option Value)} {oc7 kV7 dc7 pm7 ct7 cd7 : Value}
    {f8 : Addr} {od8 an8 : Option Addr} {sl8 : Array (Option Value)} {oc8 kV8 dc8 pm8 ct8 cd8 : Value}
    {f9 : Addr} {od9 an9 : Option Addr} {sl9 : Array (Option Value)} {oc9 kV9 dc9 pm9 ct9 cd9 : Value}
    {f10 : Addr} {od10 an10 : Option Addr} {sl10 : Array (Option Value)} {oc10 kV10 dc10 pm10 ct10 cd10 : Value}
    {f11 : Addr} {od11 an11 : Option Addr} {sl11 : Array (Option Value)} {oc11 kV11 dc11 pm11 ct11 cd11 : Value}
    {f12 : Addr} {od12 an12 : Option Addr} {sl12 : Array (Option Value)} {oc12 kV12 dc12 pm12 ct12 : Value}
    {f13 : Addr} {od13 an13 : Option Addr} {sl13 : Array (Option Value)} {oc13 kV13 dc13 pm13 ct13 cd13 : Value}
    {f14 : Addr} {od14 an14 : Option Addr} {sl14 : Array (Option Value)} {oc14 kV14 dc14 pm14 ct14 cd14 : Value}
    {f15 : Addr} {od15 an15 : Option Addr} {sl15 : Array (Option Value)} {oc15 kV15 dc15 pm15 ct15 cd15 : Value}
    {f16 : Addr} {od16 an16 : Option Addr} {sl16 : Array (Option Value)} {oc16 kV16 dc16 pm16 ct16 cd16 : Value}
    {f17 : Addr} {od17 an17 : Option Addr} {sl17 : Array (Option Value)} {oc17 kV17 dc17 pm17 ct17 cd17 : Value}
    {f18 : Addr} {od18 an18 : Option Addr} {sl18 : Array (Option Value)} {oc18 kV18 dc18 pm18 ct18 cd18 : Value}
    {f19 : Addr} {od19 an19 : Option Addr} {sl19 : Array (Option Value)} {oc19 kV19 dc19 pm19 ct19 cd19 : Value}
    {f20 : Addr} {od20 an20 : Option Addr} {sl20 : Array (Option Value)} {oc20 kV20 dc20 pm20 ct20 cd20 : Value}
    {f21 : Addr} {od21 an21 : Option Addr} {sl21 : Array (Option Value)} {oc21 kV21 dc21 pm21 ct21 cd21 : Value}
    {f22 : Addr} {od22 an22 : Option Addr} {sl22 : Array (Option Value)} {oc22 kV22 dc22 pm22 ct22 cd22 : Value}
    {f23 c Pt : Addr} {od23 an23 : Option Addr} {sl23 : Array (Option Value)} {oc23 kV23 dc23 pm23 ct23 cd23 : Value}
    {C_FarError f_FarError : Addr} {fdF : FuncData}
    {C_BadNumber f_BadNumber : Addr} {od_BadNumber an_BadNumber : Option Addr} {sl_BadNumber : Array (Option Value)} {oc_BadNumber kV_BadNumber dc_BadNumber pm_BadNumber cd_BadNumber ct_BadNumber : Value}
    {C_NoMating C_NoFamily C_TooMuch : Addr}
    {C_Road : Addr}
    {fm_Ro_become : Addr} {odm_Ro_become anm_Ro_become : Option Addr} {slm_Ro_become : Array (Option Value)} {ocm_Ro_become kVm_Ro_become dcm_Ro_become pmm_Ro_become ctm_Ro_become cdm_Ro_become : Value}
    {fm_Ro_next_number : Addr} {odm_Ro_next_number anm_Ro_next_number : Option Addr} {slm_Ro_next_number : Array (Option Value)} {ocm_Ro_next_number kVm_Ro_next_number dcm_Ro_next_number pmm_Ro_next_number ctm_Ro_next_number cdm_Ro_next_number : Value}
    {fm_Ro_matings : Addr} {odm_Ro_matings anm_Ro_matings : Option Addr} {slm_Ro_matings : Array (Option Value)} {ocm_Ro_matings kVm_Ro_matings dcm_Ro_matings pmm_Ro_matings ctm_Ro_matings cdm_Ro_matings : Value}
    {fm_Ro_length : Addr} {odm_Ro_length anm_Ro_length : Option Addr} {slm_Ro_length : Array (Option Value)} {ocm_Ro_length kVm_Ro_length dcm_Ro_length pmm_Ro_length ctm_Ro_length cdm_Ro_length : Value}
    {fm_Ro_mate_as : Addr} {odm_Ro_mate_as anm_Ro_mate_as : Option Addr} {slm_Ro_mate_as : Array (Option Value)} {ocm_Ro_mate_as kVm_Ro_mate_as dcm_Ro_mate_as pmm_Ro_mate_as ctm_Ro_mate_as cdm_Ro_mate_as : Value}
    {fm_Ro_grow : Addr} {odm_Ro_grow anm_Ro_grow : Option Addr} {slm_Ro_grow : Array (Option Value)} {ocm_Ro_grow kVm_Ro_grow dcm_Ro_grow pmm_Ro_grow ctm_Ro_grow cdm_Ro_grow : Value}
    {fm_Ro_trim : Addr} {odm_Ro_trim anm_Ro_trim : Option Addr} {slm_Ro_trim : Array (Option Value)} {ocm_Ro_trim kVm_Ro_trim dcm_Ro_trim pmm_Ro_trim ctm_Ro_trim cdm_Ro_trim : Value}
    {fm_Ro_swell : Addr} {odm_Ro_swell anm_Ro_swell : Option Addr} {slm_Ro_swell : Array (Option Value)} {ocm_Ro_swell kVm_Ro_swell dcm_Ro_swell pmm_Ro_swell ctm_Ro_swell cdm_Ro_swell : Value}
    {fm_Ro___init__ : Addr} {fdm_Ro___init__ : FuncData}
    {fm_Ro_mate : Addr} {fdm_Ro_mate : FuncData}
    {tk_FAR : Tok}
    {tk_MOST : Tok}
    (X : K.In h) (G : h.Ns mainGlobals mg) (hfa : mg "law" = some (.ref fa)) (hT : h.get? Pt = some (PySem.W.tabObj #[]))
    (a0 : PySem.W.nsIn K mainGlobals "_law_open" = some (some (.ref f0))) (l0 : K.lookup f0 = some ⟨oc0, od0, .func (PySem.W.fnOf "_law_open" "_law_open" (defArgs s_open) (defBody s_open) (defScope s_open) .none kV0 dc0 pm0 an0 cd0 ct0), sl0⟩) (c0 : PySem.W.codeIn K cd0 "_law_open" = true) (k0 : PySem.W.keepIn K (.ref f0) = true)
    (a1 : PySem.W.nsIn K mainGlobals "_law_pull" = some (some (.ref f1))) (l1 : K.lookup f1 = some ⟨oc1, od1, .func (PySem.W.fnOf "_law_pull" "_law_pull" (defArgs s_pull) (defBody s_pull) (defScope s_pull) .none kV1 dc1 pm1 an1 cd1 ct1), sl1⟩) (c1 : PySem.W.codeIn K cd1 "_law_pull" = true) (k1 : PySem.W.keepIn K (.ref f1) = true)
    (a2 : PySem.W.nsIn K mainGlobals "_law_any" = some (some (.ref f2))) (l2 : K.lookup f2 = some ⟨oc2, od2, .func (PySem.W.fnOf "_law_any" "_law_any" (defArgs s_any) (defBody s_any) (defScope s_any) .none kV2 dc2 pm2 an2 cd2 ct2), sl2⟩) (c2 : PySem.W.codeIn K cd2 "_law_any" = true) (k2 : PySem.W.keepIn K (.ref f2) = true)
    (a3 : PySem.W.nsIn K mainGlobals "_law_like" = some (some (.ref f3))) (l3 : K.lookup f3 = some ⟨oc3, od3, .func (PySem.W.fnOf "_law_like" "_law_like" (defArgs s_like) (defBody s_like) (defScope s_like) .none kV3 dc3 pm3 an3 cd3 ct3), sl3⟩) (c3 : PySem.W.codeIn K cd3 "_law_like" = true) (k3 : PySem.W.keepIn K (.ref f3) = true)
    (a4 : PySem.W.nsIn K mainGlobals "_law_fields" = some (some (.ref f4))) (l4 : K.lookup f4 = some ⟨oc4, od4, .func (PySem.W.fnOf "_law_fields" "_law_fields" (defArgs s_fields) (defBody s_fields) (defScope s_fields) .none kV4 dc4 pm4 an4 cd4 ct4), sl4⟩) (c4 : PySem.W.codeIn K cd4 "_law_fields" = true) (k4 : PySem.W.keepIn K (.ref f4) = true)
    (a5 : PySem.W.nsIn K mainGlobals "_law_why" = some (some (.ref f5))) (l5 : K.lookup f5 = some ⟨oc5, od5, .func (PySem.W.fnOf "_law_why" "_law_why" (defArgs s_why) (defBody s_why) (defScope s_why) .none kV5 dc5 pm5 an5 cd5 ct5), sl5⟩) (c5 : PySem.W.codeIn K cd5 "_law_why" = true) (k5 : PySem.W.keepIn K (.ref f5) = true)
    (a6 : PySem.W.nsIn K mainGlobals "_law_mating" = some (some (.ref f6))) (l6 : K.lookup f6 = some ⟨oc6, od6, .func (PySem.W.fnOf "_law_mating" "_law_mating" (defArgs s_mating) (defBody s_mating) (defScope s_mating) .none kV6 dc6 pm6 an6 cd6 ct6), sl6⟩) (c6 : PySem.W.codeIn K cd6 "_law_mating" = true) (k6 : PySem.W.keepIn K (.ref f6) = true)
    (a7 : PySem.W.nsIn K mainGlobals "_law_road" = some (some (.ref f7))) (l7 : K.lookup f7 = some ⟨oc7, od7, .func (PySem.W.fnOf "_law_road" "_law_road" (defArgs s_road) (defBody s_road) (defScope s_road) .none kV7 dc7 pm7 an7 cd7 ct7), sl7⟩) (c7 : PySem.W.codeIn K cd7 "_law_road" = true) (k7 : PySem.W.keepIn K (.ref f7) = true)
    (a8 : PySem.W.nsIn K mainGlobals "_law_ends" = some (some (.ref f8))) (l8 : K.lookup f8 = some ⟨oc8, od8, .func (PySem.W.fnOf "_law_ends" "_law_ends" (defArgs s_ends) (defBody s_ends) (defScope s_ends) .none kV8 dc8 pm8 an8 cd8 ct8), sl8⟩) (c8 : PySem.W.codeIn K cd8 "_law_ends" = true) (k8 : PySem.W.keepIn K (.ref f8) = true)
    (a9 : PySem.W.nsIn K mainGlobals "_law_odd" = some (some (.ref f9))) (l9 : K.lookup f9 = some ⟨oc9, od9, .func (PySem.W.fnOf "_law_odd" "_law_odd" (defArgs s_odd) (defBody s_odd) (defScope s_odd) .none kV9 dc9 pm9 an9 cd9 ct9), sl9⟩) (c9 : PySem.W.codeIn K cd9 "_law_odd" = true) (k9 : PySem.W.keepIn K (.ref f9) = true)
    (a10 : PySem.W.nsIn K mainGlobals "_law_paved" = some (some (.ref f10))) (l10 : K.lookup f10 = some ⟨oc10, od10, .func (PySem.W.fnOf "_law_paved" "_law_paved" (defArgs s_paved) (defBody s_paved) (defScope s_paved) .none kV10 dc10 pm10 an10 cd10 ct10), sl10⟩) (c10 : PySem.W.codeIn K cd10 "_law_paved" = true) (k10 : PySem.W.keepIn K (.ref f10) = true)
    (a11 : PySem.W.nsIn K mainGlobals "_law_told_pairs" = some (some (.ref f11))) (l11 : K.lookup f11 = some ⟨oc11, od11, .func (PySem.W.fnOf "_law_told_pairs" "_law_told_pairs" (defArgs s_told_pairs) (defBody s_told_pairs) (defScope s_told_pairs) .none kV11 dc11 pm11 an11 cd11 ct11), sl11⟩) (c11 : PySem.W.codeIn K cd11 "_law_told_pairs" = true) (k11 : PySem.W.keepIn K (.ref f11) = true)
    (a12 : PySem.W.nsIn K mainGlobals "_law_refusals" = some (some (.ref f12))) (l12 : K.lookup f12 = some ⟨oc12, od12, .func (PySem.W.fnOf "_law_refusals" "_law_refusals" (defArgs s_refusals) (defBody s_refusals) (defScope s_refusals) .none kV12 dc12 pm12 an12 (.ref c) ct12), sl12⟩) (c12 : PySem.W.codeIn K (.ref c) "_law_refusals" = true) (k12 : PySem.W.keepIn K (.ref f12) = true)
    (a13 : PySem.W.nsIn K mainGlobals "_law_done" = some (some (.ref f13))) (l13 : K.lookup f13 = some ⟨oc13, od13, .func (PySem.W.fnOf "_law_done" "_law_done" (defArgs s_done) (defBody s_done) (defScope s_done) .none kV13 dc13 pm13 an13 cd13 ct13), sl13⟩) (c13 : PySem.W.codeIn K cd13 "_law_done" = true) (k13 : PySem.W.keepIn K (.ref f13) = true)
    (a14 : PySem.W.nsIn K mainGlobals "need_from" = some (some (.ref f14))) (l14 : K.lookup f14 = some ⟨oc14, od14, .func (PySem.W.fnOf "need_from" "need_from" (defArgs s_need_from) (defBody s_need_from) (defScope s_need_from) .none kV14 dc14 pm14 an14 cd14 ct14), sl14⟩) (c14 : PySem.W.codeIn K cd14 "need_from" = true) (k14 : PySem.W.keepIn K (.ref f14) = true)
    (a15 : PySem.W.nsIn K mainGlobals "need_within" = some (some (.ref f15))) (l15 : K.lookup f15 = some ⟨oc15, od15, .func (PySem.W.fnOf "need_within" "need_within" (defArgs s_need_within) (defBody s_need_within) (defScope s_need_within) .none kV15 dc15 pm15 an15 cd15 ct15), sl15⟩) (c15 : PySem.W.codeIn K cd15 "need_within" = true) (k15 : PySem.W.keepIn K (.ref f15) = true)
    (a16 : PySem.W.nsIn K mainGlobals "need_length" = some (some (.ref f16))) (l16 : K.lookup f16 = some ⟨oc16, od16, .func (PySem.W.fnOf "need_length" "need_length" (defArgs s_need_length) (defBody s_need_length) (defScope s_need_length) .none kV16 dc16 pm16 an16 cd16 ct16), sl16⟩) (c16 : PySem.W.codeIn K cd16 "need_length" = true) (k16 : PySem.W.keepIn K (.ref f16) = true)
    (a17 : PySem.W.nsIn K mainGlobals "need_mating" = some (some (.ref f17))) (l17 : K.lookup f17 = some ⟨oc17, od17, .func (PySem.W.fnOf "need_mating" "need_mating" (defArgs s_need_mating) (defBody s_need_mating) (defScope s_need_mating) .none kV17 dc17 pm17 an17 cd17 ct17), sl17⟩) (c17 : PySem.W.codeIn K cd17 "need_mating" = true) (k17 : PySem.W.keepIn K (.ref f17) = true)
    (a18 : PySem.W.nsIn K mainGlobals "is_mating" = some (some (.ref f18))) (l18 : K.lookup f18 = some ⟨oc18, od18, .func (PySem.W.fnOf "is_mating" "is_mating" (defArgs s_is_mating) (defBody s_is_mating) (defScope s_is_mating) .none kV18 dc18 pm18 an18 cd18 ct18), sl18⟩) (c18 : PySem.W.codeIn K cd18 "is_mating" = true) (k18 : PySem.W.keepIn K (.ref f18) = true)
    (a19 : PySem.W.nsIn K mainGlobals "clipped" = some (some (.ref f19))) (l19 : K.lookup f19 = some ⟨oc19, od19, .func (PySem.W.fnOf "clipped" "clipped" (defArgs s_clipped) (defBody s_clipped) (defScope s_clipped) .none kV19 dc19 pm19 an19 cd19 ct19), sl19⟩) (c19 : PySem.W.codeIn K cd19 "clipped" = true) (k19 : PySem.W.keepIn K (.ref f19) = true)
    (a20 : PySem.W.nsIn K mainGlobals "part" = some (some (.ref f20))) (l20 : K.lookup f20 = some ⟨oc20, od20, .func (PySem.W.fnOf "part" "part" (defArgs s_part) (defBody s_part) (defScope s_part) .none kV20 dc20 pm20 an20 cd20 ct20), sl20⟩) (c20 : PySem.W.codeIn K cd20 "part" = true) (k20 : PySem.W.keepIn K (.ref f20) = true)
    (a21 : PySem.W.nsIn K mainGlobals "holds" = some (some (.ref f21))) (l21 : K.lookup f21 = some ⟨oc21, od21, .func (PySem.W.fnOf "holds" "holds" (defArgs s_holds) (defBody s_holds) (defScope s_holds) .none kV21 dc21 pm21 an21 cd21 ct21), sl21⟩) (c21 : PySem.W.codeIn K cd21 "holds" = true) (k21 : PySem.W.keepIn K (.ref f21) = true)
    (a22 : PySem.W.nsIn K mainGlobals "swelled" = some (some (.ref f22))) (l22 : K.lookup f22 = some ⟨oc22, od22, .func (PySem.W.fnOf "swelled" "swelled" (defArgs s_swelled) (defBody s_swelled) (defScope s_swelled) .none kV22 dc22 pm22 an22 cd22 ct22), sl22⟩) (c22 : PySem.W.codeIn K cd22 "swelled" = true) (k22 : PySem.W.keepIn K (.ref f22) = true)
    (a23 : PySem.W.nsIn K mainGlobals "law" = some (some (.ref f23))) (l23 : K.lookup f23 = some ⟨oc23, od23, .func (PySem.W.fnOf "law" "law" (defArgs s_law) (defBody s_law) (defScope s_law) .none kV23 dc23 pm23 an23 cd23 ct23), sl23⟩) (c23 : PySem.W.codeIn K cd23 "law" = true) (k23 : PySem.W.keepIn K (.ref f23) = true)
    (z0 : PySem.W.nsIn K mainGlobals "len" = some none) (z1 : PySem.W.nsIn K mainGlobals "list" = some none) (z2 : PySem.W.nsIn K mainGlobals "tuple" = some none) (z3 : PySem.W.nsIn K mainGlobals "bool" = some none)
    (z4 : PySem.W.nsIn K mainGlobals "int" = some none) (z5 : PySem.W.nsIn K mainGlobals "str" = some none) (z6 : PySem.W.nsIn K mainGlobals "isinstance" = some none) (z7 : PySem.W.nsIn K mainGlobals "all" = some none)
    (z8 : PySem.W.nsIn K mainGlobals "any" = some none) (z9 : PySem.W.nsIn K mainGlobals "range" = some none) (z10 : PySem.W.nsIn K mainGlobals "max" = some none) (z11 : PySem.W.nsIn K mainGlobals "min" = some none)
    (z12 : PySem.W.nsIn K mainGlobals "dict" = some none) (z13 : PySem.W.nsIn K mainGlobals "sorted" = some none) (zV : PySem.W.nsIn K mainGlobals "ValueError" = some none) (hP : PySem.W.codeHdIn K c Pt = true)
    (nP : K.lookup Pt = none) (gF : PySem.W.nsIn K mainGlobals "FarError" = some (some (.ref C_FarError))) (TF : ClsFn K C_FarError "__init__" f_FarError) (FF : FunD K "__init__" "FarError.__init__" (defArgs s_farinit) (defBody s_farinit) (defScope s_farinit) [.str ""] [] f_FarError fdF)
    (fF8 : PySem.W.findCls K (.type "ValueError") (.type "type") "__init__" = some (.val (.builtin "ValueError.__init__"))) (g_BadNumber : PySem.W.nsIn K mainGlobals "BadNumber" = some (some (.ref C_BadNumber))) (E_BadNumber : ErrT K C_BadNumber) (XF_BadNumber : XfC K C_BadNumber)
    (EC_BadNumber : ExcC K C_BadNumber) (M_BadNumber : PySem.W.exmOne K (.ref C_BadNumber) (.ref C_FarError) = some true) (n_BadNumber_number : PySem.W.findIn K (.ref C_BadNumber) "number" = some none) (i_BadNumber : PySem.W.findIn K (.ref C_BadNumber) "__init__" = some (some (.ref f_BadNumber)))
    (t_BadNumber : PySem.W.typeIn K (.ref f_BadNumber) = some (.type "function")) (l_BadNumber : K.lookup f_BadNumber = some ⟨oc_BadNumber, od_BadNumber, .func (PySem.W.fnOf "__init__" "BadNumber.__init__" (defArgs s_bninit) (defBody s_bninit) (defScope s_bninit) .none kV_BadNumber dc_BadNumber pm_BadNumber an_BadNumber cd_BadNumber ct_BadNumber), sl_BadNumber⟩) (c_BadNumber : PySem.W.codeIn K cd_BadNumber "BadNumber.__init__" = true) (k_BadNumber : PySem.W.keepIn K (.ref f_BadNumber) = true)
    (g_NoMating : PySem.W.nsIn K mainGlobals "NoMating" = some (some (.ref C_NoMating))) (g_NoFamily : PySem.W.nsIn K mainGlobals "NoFamily" = some (some (.ref C_NoFamily))) (g_TooMuch : PySem.W.nsIn K mainGlobals "TooMuch" = some (some (.ref C_TooMuch))) (g_Road : PySem.W.nsIn K mainGlobals "Road" = some (some (.ref C_Road)))
    (cl_Road : Cls K C_Road) (mk_Road : PySem.W.makesIn K C_Road = true) (kc_Road : PySem.W.keepIn K (.ref C_Road) = true) (na_Ro_extent : PySem.W.findIn K (.ref C_Road) "extent" = some none)
    (na_Ro_standing : PySem.W.findIn K (.ref C_Road) "standing" = some none) (na_Ro_kept : PySem.W.findIn K (.ref C_Road) "kept" = some none) (na_Ro_foldings : PySem.W.findIn K (.ref C_Road) "foldings" = some none) (ma_Ro_become : PySem.W.findIn K (.ref C_Road) "become" = some (some (.ref fm_Ro_become)))
    (mi_Ro_become : PySem.W.isFn K (.ref fm_Ro_become) = true) (ml_Ro_become : K.lookup fm_Ro_become = some ⟨ocm_Ro_become, odm_Ro_become, .func (PySem.W.fnOf "become" "Road.become" (defArgs s_Ro_become) (defBody s_Ro_become) (defScope s_Ro_become) .none kVm_Ro_become dcm_Ro_become pmm_Ro_become anm_Ro_become cdm_Ro_become ctm_Ro_become), slm_Ro_become⟩) (mc_Ro_become : PySem.W.codeIn K cdm_Ro_become "Road.become" = true) (mp_Ro_become : PySem.W.keepIn K (.ref fm_Ro_become) = true)
    (ma_Ro_next_number : PySem.W.findIn K (.ref C_Road) "next_number" = some (some (.ref fm_Ro_next_number))) (mi_Ro_next_number : PySem.W.isFn K (.ref fm_Ro_next_number) = true) (ml_Ro_next_number : K.lookup fm_Ro_next_number = some ⟨ocm_Ro_next_number, odm_Ro_next_number, .func (PySem.W.fnOf "next_number" "Road.next_number" (defArgs s_Ro_next_number) (defBody s_Ro_next_number) (defScope s_Ro_next_number) .none kVm_Ro_next_number dcm_Ro_next_number pmm_Ro_next_number anm_Ro_next_number cdm_Ro_next_number ctm_Ro_next_number), slm_Ro_next_number⟩) (mc_Ro_next_number : PySem.W.codeIn K cdm_Ro_next_number "Road.next_number" = true)
    (mp_Ro_next_number : PySem.W.keepIn K (.ref fm_Ro_next_number) = true) (ma_Ro_matings : PySem.W.findIn K (.ref C_Road) "matings" = some (some (.ref fm_Ro_matings))) (mi_Ro_matings : PySem.W.isFn K (.ref fm_Ro_matings) = true) (ml_Ro_matings : K.lookup fm_Ro_matings = some ⟨ocm_Ro_matings, odm_Ro_matings, .func (PySem.W.fnOf "matings" "Road.matings" (defArgs s_Ro_matings) (defBody s_Ro_matings) (defScope s_Ro_matings) .none kVm_Ro_matings dcm_Ro_matings pmm_Ro_matings anm_Ro_matings cdm_Ro_matings ctm_Ro_matings), slm_Ro_matings⟩)
    (mc_Ro_matings : PySem.W.codeIn K cdm_Ro_matings "Road.matings" = true) (mp_Ro_matings : PySem.W.keepIn K (.ref fm_Ro_matings) = true) (ma_Ro_length : PySem.W.findIn K (.ref C_Road) "length" = some (some (.ref fm_Ro_length))) (mi_Ro_length : PySem.W.isFn K (.ref fm_Ro_length) = true)
    (ml_Ro_length : K.lookup fm_Ro_length = some ⟨ocm_Ro_length, odm_Ro_length, .func (PySem.W.fnOf "length" "Road.length" (defArgs s_Ro_length) (defBody s_Ro_length) (defScope s_Ro_length) .none kVm_Ro_length dcm_Ro_length pmm_Ro_length anm_Ro_length cdm_Ro_length ctm_Ro_length), slm_Ro_length⟩) (mc_Ro_length : PySem.W.codeIn K cdm_Ro_length "Road.length" = true) (mp_Ro_length : PySem.W.keepIn K (.ref fm_Ro_length) = true) (ma_Ro_mate_as : PySem.W.findIn K (.ref C_Road) "mate_as" = some (some (.ref fm_Ro_mate_as)))
    (mi_Ro_mate_as : PySem.W.isFn K (.ref fm_Ro_mate_as) = true) (ml_Ro_mate_as : K.lookup fm_Ro_mate_as = some ⟨ocm_Ro_mate_as, odm_Ro_mate_as, .func (PySem.W.fnOf "mate_as" "Road.mate_as" (defArgs s_Ro_mate_as) (defBody s_Ro_mate_as) (defScope s_Ro_mate_as) .none kVm_Ro_mate_as dcm_Ro_mate_as pmm_Ro_mate_as anm_Ro_mate_as cdm_Ro_mate_as ctm_Ro_mate_as), slm_Ro_mate_as⟩) (mc_Ro_mate_as : PySem.W.codeIn K cdm_Ro_mate_as "Road.mate_as" = true) (mp_Ro_mate_as : PySem.W.keepIn K (.ref fm_Ro_mate_as) = true)
    (ma_Ro_grow : PySem.W.findIn K (.ref C_Road) "grow" = some (some (.ref fm_Ro_grow))) (mi_Ro_grow : PySem.W.isFn K (.ref fm_Ro_grow) = true) (ml_Ro_grow : K.lookup fm_Ro_grow = some ⟨ocm_Ro_grow, odm_Ro_grow, .func (PySem.W.fnOf "grow" "Road.grow" (defArgs s_Ro_grow) (defBody s_Ro_grow) (defScope s_Ro_grow) .none kVm_Ro_grow dcm_Ro_grow pmm_Ro_grow anm_Ro_grow cdm_Ro_grow ctm_Ro_grow), slm_Ro_grow⟩) (mc_Ro_grow : PySem.W.codeIn K cdm_Ro_grow "Road.grow" = true)
    (mp_Ro_grow : PySem.W.keepIn K (.ref fm_Ro_grow) = true) (ma_Ro_trim : PySem.W.findIn K (.ref C_Road) "trim" = some (some (.ref fm_Ro_trim))) (mi_Ro_trim : PySem.W.isFn K (.ref fm_Ro_trim) = true) (ml_Ro_trim : K.lookup fm_Ro_trim = some ⟨ocm_Ro_trim, odm_Ro_trim, .func (PySem.W.fnOf "trim" "Road.trim" (defArgs s_Ro_trim) (defBody s_Ro_trim) (defScope s_Ro_trim) .none kVm_Ro_trim dcm_Ro_trim pmm_Ro_trim anm_Ro_trim cdm_Ro_trim ctm_Ro_trim), slm_Ro_trim⟩)
    (mc_Ro_trim : PySem.W.codeIn K cdm_Ro_trim "Road.trim" = true) (mp_Ro_trim : PySem.W.keepIn K (.ref fm_Ro_trim) = true) (ma_Ro_swell : PySem.W.findIn K (.ref C_Road) "swell" = some (some (.ref fm_Ro_swell))) (mi_Ro_swell : PySem.W.isFn K (.ref fm_Ro_swell) = true)
    (ml_Ro_swell : K.lookup fm_Ro_swell = some ⟨ocm_Ro_swell, odm_Ro_swell, .func (PySem.W.fnOf "swell" "Road.swell" (defArgs s_Ro_swell) (defBody s_Ro_swell) (defScope s_Ro_swell) .none kVm_Ro_swell dcm_Ro_swell pmm_Ro_swell anm_Ro_swell cdm_Ro_swell ctm_Ro_swell), slm_Ro_swell⟩) (mc_Ro_swell : PySem.W.codeIn K cdm_Ro_swell "Road.swell" = true) (mp_Ro_swell : PySem.W.keepIn K (.ref fm_Ro_swell) = true) (ma_Ro___init__ : PySem.W.findIn K (.ref C_Road) "__init__" = some (some (.ref fm_Ro___init__)))
    (mi_Ro___init__ : PySem.W.isFn K (.ref fm_Ro___init__) = true) (FD_Ro___init__ : FunD K "__init__" "Road.__init__" (defArgs s_Ro_init) (defBody s_Ro_init) (defScope s_Ro_init) [.int 0] [] fm_Ro___init__ fdm_Ro___init__) (ma_Ro_mate : PySem.W.findIn K (.ref C_Road) "mate" = some (some (.ref fm_Ro_mate))) (mi_Ro_mate : PySem.W.isFn K (.ref fm_Ro_mate) = true)
    (FD_Ro_mate : FunD K "mate" "Road.mate" (defArgs s_Ro_mate) (defBody s_Ro_mate) (defScope s_Ro_mate) [] [("turned", .int 0)] fm_Ro_mate fdm_Ro_mate) (g_FAR : PySem.W.nsIn K mainGlobals "FAR" = some (some (.int 1000000000000000000 tk_FAR))) (g_MOST : PySem.W.nsIn K mainGlobals "MOST" = some (some (.int 24 tk_MOST))) :
    LamX.LawAtS l w K CX0 20 63 "_law_script" mg fa h := by
  have e := hfa.symm.trans (PySem.W.mg_of X G a23)
  cases e
  have B : Bn mg := ⟨PySem.W.mg_none_of X G z0, PySem.W.mg_none_of X G z1, PySem.W.mg_none_of X G z2, PySem.W.mg_none_of X G z3, PySem.W.mg_none_of X G z4, PySem.W.mg_none_of X G z5, PySem.W.mg_none_of X G z6, PySem.W.mg_none_of X G z7, PySem.W.mg_none_of X G z8, PySem.W.mg_none_of X G z9, PySem.W.mg_none_of X G z10, PySem.W.mg_none_of X G z11, PySem.W.mg_none_of X G z12, PySem.W.mg_none_of X G z13⟩
  have F0 := fun_mk (st := s_open) l0 c0 k0
  have D_open : DefAt K mg "_law_open" s_open P_open _ _ := ⟨F0, F0.binds (ps := P_open) fun _ _ _ _ _ _ => by exact len1 (fun _ => rfl), PySem.W.mg_of X G a0⟩
  have F1 := fun_mk (st := s_pull) l1 c1 k1
  have D_pull : DefAt K mg "_law_pull" s_pull P_pull _ _ := ⟨F1, F1.binds (ps := P_pull) fun _ _ _ _ _ _ => by exact len2 (fun _ _ => rfl), PySem.W.mg_of X G a1⟩
  have F2 := fun_mk (st := s_any) l2 c2 k2
  have D_any : DefAt K mg "_law_any" s_any P_any _ _ := ⟨F2, F2.binds (ps := P_any) fun _ _ _ _ _ _ => by exact len2 (fun _ _ => rfl), PySem.W.mg_of X G a2⟩
  have F3 := fun_mk (st := s_like) l3 c3 k3
  have D_like : DefAt K mg "_law_like" s_like P_like _ _ := ⟨F3, F3.binds (ps := P_like) fun _ _ _ _ _ _ => by exact len2 (fun _ _ => rfl), PySem.W.mg_of X G a3⟩
  have F4 := fun_mk (st := s_fields) l4 c4 k4
  have D_fields : DefAt K mg "_law_fields" s_fields P_fields _ _ := ⟨F4, F4.binds (ps := P_fields) fun _ _ _ _ _ _ => by exact len1 (fun _ => rfl), PySem.W.mg_of X G a4⟩
  have F5 := fun_mk (st := s_why) l5 c5 k5
  have D_why : DefAt K mg "_law_why" s_why P_why _ _ := ⟨F5, F5.binds (ps := P_why) fun _ _ _ _ _ _ => by exact len1 (fun _ => rfl), PySem.W.mg_of X G a5⟩
  have F6 := fun_mk (st := s_mating) l6 c6 k6
  have D_mating : DefAt K mg "_law_mating" s_mating P_mating _ _ := ⟨F6, F6.binds (ps := P_mating) fun _ _ _ _ _ _ => by exact len2 (fun _ _ => rfl), PySem.W.mg_of X G a6⟩
  have F7 := fun_mk (st := s_road) l7 c7 k7
  have D_road : DefAt K mg "_law_road" s_road P_road _ _ := ⟨F7, F7.binds (ps := P_road) fun _ _ _ _ _ _ => by exact len3 (fun _ _ _ => rfl), PySem.W.mg_of X G a7⟩
  have F8 := fun_mk (st := s_ends) l8 c8 k8
  have D_ends : DefAt K mg "_law_ends" s_ends P_ends _ _ := ⟨F8, F8.binds (ps := P_ends) fun _ _ _ _ _ _ => by exact len1 (fun _ => rfl), PySem.W.mg_of X G a8⟩
  have F9 := fun_mk (st := s_odd) l9 c9 k9
  have D_odd : DefAt K mg "_law_odd" s_odd P_odd _ _ := ⟨F9, F9.binds (ps := P_odd) fun _ _ _ _ _ _ => by exact len1 (fun _ => rfl), PySem.W.mg_of X G a9⟩
  have F10 := fun_mk (st := s_paved) l10 c10 k10
  have D_paved : DefAt K mg "_law_paved" s_paved P_paved _ _ := ⟨F10, F10.binds (ps := P_paved) fun _ _ _ _ _ _ => by exact len2 (fun _ _ => rfl), PySem.W.mg_of X G a10⟩
  have F11 := fun_mk (st := s_told_pairs) l11 c11 k11
  have D_told_pairs : DefAt K mg "_law_told_pairs" s_told_pairs P_told_pairs _ _ := ⟨F11, F11.binds (ps := P_told_pairs) fun _ _ _ _ _ _ => by exact len1 (fun _ => rfl), PySem.W.mg_of X G a11⟩
  have F12 := fun_mk (st := s_refusals) l12 c12 k12
  have D_refusals : DefAt K mg "_law_refusals" s_refusals P_refusals _ _ := ⟨F12, F12.binds (ps := P_refusals) fun _ _ _ _ _ _ => by exact len3 (fun _ _ _ => rfl), PySem.W.mg_of X G a12⟩
  have F13 := fun_mk (st := s_done) l13 c13 k13
  have D_done : DefAt K mg "_law_done" s_done P_done _ _ := ⟨F13, F13.binds (ps := P_done) fun _ _ _ _ _ _ => by exact len5 (fun _ _ _ _ _ => rfl), PySem.W.mg_of X G a13⟩
  have F14 := fun_mk (st := s_need_from) l14 c14 k14
  have D_need_from : DefAt K mg "need_from" s_need_from P_need_from _ _ := ⟨F14, F14.binds (ps := P_need_from) fun _ _ _ _ _ _ => by exact len2 (fun _ _ => rfl), PySem.W.mg_of X G a14⟩
  have F15 := fun_mk (st := s_need_within) l15 c15 k15
  have D_need_within : DefAt K mg "need_within" s_need_within P_need_within _ _ := ⟨F15, F15.binds (ps := P_need_within) fun _ _ _ _ _ _ => by exact len3 (fun _ _ _ => rfl), PySem.W.mg_of X G a15⟩
  have F16 := fun_mk (st := s_need_length) l16 c16 k16
  have D_need_length : DefAt K mg "need_length" s_need_length P_need_length _ _ := ⟨F16, F16.binds (ps := P_need_length) fun _ _ _ _ _ _ => by exact len1 (fun _ => rfl), PySem.W.mg_of X G a16⟩
  have F17 := fun_mk (st := s_need_mating) l17 c17 k17
  have D_need_mating : DefAt K mg "need_mating" s_need_mating P_need_mating _ _ := ⟨F17, F17.binds (ps := P_need_mating) fun _ _ _ _ _ _ => by exact len2 (fun _ _ => rfl), PySem.W.mg_of X G a17⟩
  have F18 := fun_mk (st := s_is_mating) l18 c18 k18
  have D_is_mating : DefAt K mg "is_mating" s_is_mating P_is_mating _ _ := ⟨F18, F18.binds (ps := P_is_mating) fun _ _ _ _ _ _ => by exact len2 (fun _ _ => rfl), PySem.W.mg_of X G a18⟩
  have F19 := fun_mk (st := s_clipped) l19 c19 k19
  have D_clipped : DefAt K mg "clipped" s_clipped P_clipped _ _ := ⟨F19, F19.binds (ps := P_clipped) fun _ _ _ _ _ _ => by exact len2 (fun _ _ => rfl), PySem.W.mg_of X G a19⟩
  have F20 := fun_mk (st := s_part) l20 c20 k20
  have D_part : DefAt K mg "part" s_part P_part _ _ := ⟨F20, F20.binds (ps := P_part) fun _ _ _ _ _ _ => by exact len3 (fun _ _ _ => rfl), PySem.W.mg_of X G a20⟩
  have F21 := fun_mk (st := s_holds) l21 c21 k21
  have D_holds : DefAt K mg "holds" s_holds P_holds _ _ := ⟨F21, F21.binds (ps := P_holds) fun _ _ _ _ _ _ => by exact len3 (fun _ _ _ => rfl), PySem.W.mg_of X G a21⟩
  have F22 := fun_mk (st := s_swelled) l22 c22 k22
  have D_swelled : DefAt K mg "swelled" s_swelled P_swelled _ _ := ⟨F22, F22.binds (ps := P_swelled) fun _ _ _ _ _ _ => by exact len2 (fun _ _ => rfl), PySem.W.mg_of X G a22⟩
  have GF : ∀ base : Heap, FnOk l.prog w K mg base CX0 1 f_FarError _ N_farinit (spFarInit K) := fun base => ok_farinit FF (PySem.W.mg_none_of X G zV) fF8
  have FI_BadNumber := fun_mk (x := "__init__") (qual := "BadNumber.__init__") (st := s_bninit) l_BadNumber c_BadNumber k_BadNumber
  have bI_BadNumber := FI_BadNumber.binds (ps := N_bninit) fun _ _ _ _ _ _ => by exact len2 (fun _ _ => rfl)
  have F_Ro_become := fun_mk (x := "become") (qual := "Road.become") (st := s_Ro_become) ml_Ro_become mc_Ro_become mp_Ro_become
  have b_Ro_become := F_Ro_become.binds (ps := P_Ro_become) fun _ _ _ _ _ _ => by exact len3 (fun _ _ _ => rfl)
  have M_Ro_become : Meth K C_Road "become" fm_Ro_become := ⟨ma_Ro_become, mi_Ro_become, mp_Ro_become⟩
  have F_Ro_next_number := fun_mk (x := "next_number") (qual := "Road.next_number") (st := s_Ro_next_number) ml_Ro_next_number mc_Ro_next_number mp_Ro_next_number
  have b_Ro_next_number := F_Ro_next_number.binds (ps := P_Ro_next_number) fun _ _ _ _ _ _ => by exact len1 (fun _ => rfl)
  have M_Ro_next_number : Meth K C_Road "next_number" fm_Ro_next_number := ⟨ma_Ro_next_number, mi_Ro_next_number, mp_Ro_next_number⟩
  have F_Ro_matings := fun_mk (x := "matings") (qual := "Road.matings") (st := s_Ro_matings) ml_Ro_matings mc_Ro_matings mp_Ro_matings
  have b_Ro_matings := F_Ro_matings.binds (ps := P_Ro_matings) fun _ _ _ _ _ _ => by exact len1 (fun _ => rfl)
  have M_Ro_matings : Meth K C_Road "matings" fm_Ro_matings := ⟨ma_Ro_matings, mi_Ro_matings, mp_Ro_matings⟩
  have F_Ro_length := fun_mk (x := "length") (qual := "Road.length") (st := s_Ro_length) ml_Ro_length mc_Ro_length mp_Ro_length
  have b_Ro_length := F_Ro_length.binds (ps := P_Ro_length) fun _ _ _ _ _ _ => by exact len1 (fun _ => rfl)
  have M_Ro_length : Meth K C_Road "length" fm_Ro_length := ⟨ma_Ro_length, mi_Ro_length, mp_Ro_length⟩
  have F_Ro_mate_as := fun_mk (x := "mate_as") (qual := "Road.mate_as") (st := s_Ro_mate_as) ml_Ro_mate_as mc_Ro_mate_as mp_Ro_mate_as
  have b_Ro_mate_as := F_Ro_mate_as.binds (ps := P_Ro_mate_as) fun _ _ _ _ _ _ => by exact len3 (fun _ _ _ => rfl)
  have M_Ro_mate_as : Meth K C_Road "mate_as" fm_Ro_mate_as := ⟨ma_Ro_mate_as, mi_Ro_mate_as, mp_Ro_mate_as⟩
  have F_Ro_grow := fun_mk (x := "grow") (qual := "Road.grow") (st := s_Ro_grow) ml_Ro_grow mc_Ro_grow mp_Ro_grow
  have b_Ro_grow := F_Ro_grow.binds (ps := P_Ro_grow) fun _ _ _ _ _ _ => by exact len2 (fun _ _ => rfl)
  have M_Ro_grow : Meth K C_Road "grow" fm_Ro_grow := ⟨ma_Ro_grow, mi_Ro_grow, mp_Ro_grow⟩
  have F_Ro_trim := fun_mk (x := "trim") (qual := "Road.trim") (st := s_Ro_trim) ml_Ro_trim mc_Ro_trim mp_Ro_trim
  have b_Ro_trim := F_Ro_trim.binds (ps := P_Ro_trim) fun _ _ _ _ _ _ => by exact len2 (fun _ _ => rfl)
  have M_Ro_trim : Meth K C_Road "trim" fm_Ro_trim := ⟨ma_Ro_trim, mi_Ro_trim, mp_Ro_trim⟩
  have F_Ro_swell := fun_mk (x := "swell") (qual := "Road.swell") (st := s_Ro_swell) ml_Ro_swell mc_Ro_swell mp_Ro_swell
  have b_Ro_swell := F_Ro_swell.binds (ps := P_Ro_swell) fun _ _ _ _ _ _ => by exact len2 (fun _ _ => rfl)
  have M_Ro_swell : Meth K C_Road "swell" fm_Ro_swell := ⟨ma_Ro_swell, mi_Ro_swell, mp_Ro_swell⟩
  have mkRo_ : Mk K C_Road fm_Ro___init__ := ⟨mk_Road, ma_Ro___init__, mi_Ro___init__, kc_Road⟩
  have Tb : ErT K mg C_FarError C_BadNumber f_BadNumber _ "BadNumber" N_bninit := ⟨PySem.W.mg_of X G gF, PySem.W.mg_of X G g_BadNumber, E_BadNumber, XF_BadNumber, EC_BadNumber, i_BadNumber, t_BadNumber, bI_BadNumber, M_BadNumber⟩
  have Ob : OthBnE K mg C_BadNumber C_NoMating C_NoFamily C_TooMuch := ⟨PySem.W.mg_of X G g_NoMating, PySem.W.mg_of X G g_NoFamily, PySem.W.mg_of X G g_TooMuch⟩
  have TRo_ : RoT K mg C_Road := ⟨PySem.W.mg_of X G g_Road, cl_Road, na_Ro_extent, na_Ro_standing, na_Ro_kept, na_Ro_foldings⟩
  have M_Ro_mate : Meth K C_Road "mate" fm_Ro_mate := ⟨ma_Ro_mate, mi_Ro_mate, FD_Ro_mate.kp⟩
  have F_law := fun_mk (st := s_law) l23 c23 k23
  refine ⟨PySem.W.fnOf "law" "law" (defArgs s_law) (defBody s_law) (defScope s_law) .none kV23 dc23 pm23 an23 cd23 ct23, [(c, Pt)], spLawT K Pt, fun p hp => ?_, fun p hp => ?_, fun p hp => ?_, fun s u => ?b, fun H a ns hl _ hH hS => ⟨a, ns, rfl, hS, hl, hH _ List.mem_cons_self, fun _ => rfl⟩, fun base KB GB TB => ?ok⟩
  case ok =>
    have TBw := TB _ List.mem_cons_self
    have gFAR := PySem.W.mg_of X G g_FAR
    have gMOST := PySem.W.mg_of X G g_MOST
    have GB : FnOk l.prog w K mg base CX0 _ _ _ _ _ := ok_bninit FI_BadNumber (PySem.W.mg_of X G gF) TF (far_binds FF) (GF base)
    have G_init : FnOk l.prog w K mg base CX0 _ _ _ _ _ := ok_RoInit FD_Ro___init__ TRo_ D_need_length D_need_from D_need_within gFAR B
    have b_init := ro_init_binds FD_Ro___init__
    have kb := mate_kbinds FD_Ro_mate
    have G_bec : FnOk l.prog w K mg base CX0 _ _ _ _ _ := ok_Become F_Ro_become TRo_
    have G_nx : FnOk l.prog w K mg base CX0 _ _ _ _ _ := ok_Next F_Ro_next_number TRo_ B
    have G_len : FnOk l.prog w K mg base CX0 _ _ _ _ _ := ok_RoLen F_Ro_length TRo_
    have G_mats : FnOk l.prog w K mg base CX0 _ _ _ _ _ := ok_RoMatings F_Ro_matings TRo_ B
    have G_ma : FnOk l.prog w K mg base CX0 _ _ _ _ _ := ok_MateAs F_Ro_mate_as TRo_ M_Ro_become G_bec b_Ro_become D_need_mating D_is_mating gMOST B
    have G_mate : FnOk l.prog w K mg base CX0 _ _ _ _ _ := ok_Mate FD_Ro_mate TRo_ M_Ro_next_number G_nx b_Ro_next_number M_Ro_mate_as G_ma b_Ro_mate_as
    have G_grow : FnOk l.prog w K mg base CX0 _ _ _ _ _ := ok_Grow F_Ro_grow TRo_ M_Ro_become G_bec b_Ro_become D_need_within D_need_from gFAR B
    have G_trim : FnOk l.prog w K mg base CX0 _ _ _ _ _ := ok_Trim F_Ro_trim TRo_ M_Ro_become G_bec b_Ro_become D_need_within D_need_from D_clipped D_part D_holds B
    have G_swell : FnOk l.prog w K mg base CX0 _ _ _ _ _ := ok_Swell F_Ro_swell TRo_ M_Ro_become G_bec b_Ro_become D_need_from D_swelled gFAR B
    have GX_grow : FnOk l.prog w K mg base (L2.CX l.prog w) _ _ _ _ _ := ok_GrowX F_Ro_grow TRo_ M_Ro_become G_bec b_Ro_become D_need_within D_need_from gFAR B Tb n_BadNumber_number GB
    have GX_trim : FnOk l.prog w K mg base (L2.CX l.prog w) _ _ _ _ _ := ok_TrimX F_Ro_trim TRo_ M_Ro_become G_bec b_Ro_become D_need_within D_need_from D_clipped D_part D_holds B Tb n_BadNumber_number GB
    have GX_swell : FnOk l.prog w K mg base (L2.CX l.prog w) _ _ _ _ _ := ok_SwellX F_Ro_swell TRo_ M_Ro_become G_bec b_Ro_become D_need_from D_swelled gFAR B Tb n_BadNumber_number GB
    have G_road : FnOk l.prog w K mg base CX0 _ _ _ _ _ := ok_road D_road D_pull D_mating B
    have G_paved : FnOk l.prog w K mg base CX0 _ _ _ _ _ := ok_paved D_paved TRo_ mkRo_ G_init b_init M_Ro_mate G_mate kb
    have G_told : FnOk l.prog w K mg base CX0 _ _ _ _ _ := ok_toldP D_told_pairs M_Ro_matings G_mats b_Ro_matings TRo_ D_ends B
    have G_done : FnOk l.prog w K mg base CX0 _ _ _ _ _ := ok_done29 (T := TT29 Pt) D_done D_pull D_any TRo_ M_Ro_grow G_grow b_Ro_grow M_Ro_trim G_trim b_Ro_trim M_Ro_swell G_swell b_Ro_swell B
    have G_refs : FnOk l.prog w K mg base CX0 _ _ _ _ _ := ok_refs29 (T := TT29 Pt) l12 c12 TBw List.mem_cons_self tt29_hu D_odd D_pull D_why D_fields D_like Tb Ob n_BadNumber_number TRo_ M_Ro_grow GX_grow b_Ro_grow M_Ro_trim GX_trim b_Ro_trim M_Ro_swell GX_swell b_Ro_swell B
    exact FnOk.imp (ok_law29 (T := TT29 Pt) F_law D_open D_pull D_like D_road G_road D_paved G_paved D_ends D_refusals G_refs D_done G_done D_told_pairs G_told TRo_ mkRo_ G_init b_init M_Ro_grow G_grow b_Ro_grow M_Ro_swell G_swell b_Ro_swell M_Ro_matings G_mats b_Ro_matings M_Ro_length G_len b_Ro_length B) sp29
  case b => exact .of_eq rfl
  · rw [List.mem_singleton.mp hp]; exact hT
  · rw [List.mem_singleton.mp hp]; exact nP
  · rw [List.mem_singleton.mp hp]; exact PySem.W.codeHd_of_K X hP
abbrev hkL : PySem.W.Hook := hookY faL fnL exL
def obL (s : PySem.W.SharedT) : AlY := obsY faL fnL exL (HandSHeadRun.getT s)
theorem obL_eq (s : PySem.W.SharedT) : obL s = hkL.obs s.abs := obsY_eq s
theorem all_of {w : World} {K : PySem.W.Frag} {h : Heap} {mg : Str → Option Value} {fa : Addr} (X : K.In h) (G : h.Ns mainGlobals mg) (hfa : mg "law" = some (.ref fa)) (c : SaysY faL fnL exL h K) :
    LamX.LawAtS PySem.Challenge.rw_farmates_k29_roads_grown_trimmed_swelled w K CX0 20 63 "_law_script" mg fa h := by
  obtain ⟨oc0, od0, sl0, kV0, dc0, pm0, an0, cd0, ct0, l0, c0, k0⟩ := say_def c.d 0 (x := "_law_open") (st := s_open) rfl
  obtain ⟨oc1, od1, sl1, kV1, dc1, pm1, an1, cd1, ct1, l1, c1, k1⟩ := say_def c.d 1 (x := "_law_pull") (st := s_pull) rfl
  obtain ⟨oc2, od2, sl2, kV2, dc2, pm2, an2, cd2, ct2, l2, c2, k2⟩ := say_def c.d 2 (x := "_law_any") (st := s_any) rfl
  obtain ⟨oc3, od3, sl3, kV3, dc3, pm3, an3, cd3, ct3, l3, c3, k3⟩ := say_def c.d 3 (x := "_law_like") (st := s_like) rfl
  obtain ⟨oc4, od4, sl4, kV4, dc4, pm4, an4, cd4, ct4, l4, c4, k4⟩ := say_def c.d 4 (x := "_law_fields") (st := s_fields) rfl
  obtain ⟨oc5, od5, sl5, kV5, dc5, pm5, an5, cd5, ct5, l5, c5, k5⟩ := say_def c.d 5 (x := "_law_why") (st := s_why) rfl
  obtain ⟨oc6, od6, sl6, kV6, dc6, pm6, an6, cd6, ct6, l6, c6, k6⟩ := say_def c.d 6 (x := "_law_mating") (st := s_mating) rfl
  obtain ⟨oc7, od7, sl7, kV7, dc7, pm7, an7, cd7, ct7, l7, c7, k7⟩ := say_def c.d 7 (x := "_law_road") (st := s_road) rfl
  obtain ⟨oc8, od8, sl8, kV8, dc8, pm8, an8, cd8, ct8, l8, c8, k8⟩ := say_def c.d 8 (x := "_law_ends") (st := s_ends) rfl
  obtain ⟨oc9, od9, sl9, kV9, dc9, pm9, an9, cd9, ct9, l9, c9, k9⟩ := say_def c.d 9 (x := "_law_odd") (st := s_odd) rfl
  obtain ⟨oc10, od10, sl10, kV10, dc10, pm10, an10, cd10, ct10, l10, c10, k10⟩ := say_def c.d 10 (x := "_law_paved") (st := s_paved) rfl
  obtain ⟨oc11, od11, sl11, kV11, dc11, pm11, an11, cd11, ct11, l11, c11, k11⟩ := say_def c.d 11 (x := "_law_told_pairs") (st := s_told_pairs) rfl
  obtain ⟨oc12, od12, sl12, kV12, dc12, pm12, an12, ct12, l12, c12, k12⟩ := say_law c.d 12 (x := "_law_refusals") (st := s_refusals) rfl
  obtain ⟨oc13, od13, sl13, kV13, dc13, pm13, an13, cd13, ct13, l13, c13, k13⟩ := say_def c.d 13 (x := "_law_done") (st := s_done) rfl
  obtain ⟨oc14, od14, sl14, kV14, dc14, pm14, an14, cd14, ct14, l14, c14, k14⟩ := say_def c.d 14 (x := "need_from") (st := s_need_from) rfl
  obtain ⟨oc15, od15, sl15, kV15, dc15, pm15, an15, cd15, ct15, l15, c15, k15⟩ := say_def c.d 15 (x := "need_within") (st := s_need_within) rfl
  obtain ⟨oc16, od16, sl16, kV16, dc16, pm16, an16, cd16, ct16, l16, c16, k16⟩ := say_def c.d 16 (x := "need_length") (st := s_need_length) rfl
  obtain ⟨oc17, od17, sl17, kV17, dc17, pm17, an17, cd17, ct17, l17, c17, k17⟩ := say_def c.d 17 (x := "need_mating") (st := s_need_mating) rfl
  obtain ⟨oc18, od18, sl18, kV18, dc18, pm18, an18, cd18, ct18, l18, c18, k18⟩ := say_def c.d 18 (x := "is_mating") (st := s_is_mating) rfl
  obtain ⟨oc19, od19, sl19, kV19, dc19, pm19, an19, cd19, ct19, l19, c19, k19⟩ := say_def c.d 19 (x := "clipped") (st := s_clipped) rfl
  obtain ⟨oc20, od20, sl20, kV20, dc20, pm20, an20, cd20, ct20, l20, c20, k20⟩ := say_def c.d 20 (x := "part") (st := s_part) rfl
  obtain ⟨oc21, od21, sl21, kV21, dc21, pm21, an21, cd21, ct21, l21, c21, k21⟩ := say_def c.d 21 (x := "holds") (st := s_holds) rfl
  obtain ⟨oc22, od22, sl22, kV22, dc22, pm22, an22, cd22, ct22, l22, c22, k22⟩ := say_def c.d 22 (x := "swelled") (st := s_swelled) rfl
  obtain ⟨oc23, od23, sl23, kV23, dc23, pm23, an23, cd23, ct23, l23, c23, k23⟩ := say_def c.d 23 (x := "law") (st := s_law) rfl
  obtain ⟨fdF, FF⟩ := say_far c.d 24 (C := "FarError") (m := "__init__") (q := "FarError.__init__") (st := s_farinit) rfl
  obtain ⟨oc_BadNumber, od_BadNumber, sl_BadNumber, kV_BadNumber, dc_BadNumber, pm_BadNumber, an_BadNumber, cd_BadNumber, ct_BadNumber, l_BadNumber, c_BadNumber, k_BadNumber⟩ := say_meth c.d 25 (C := "BadNumber") (m := "__init__") (q := "BadNumber.__init__") (st := s_bninit) rfl
  obtain ⟨ocm_Ro_become, odm_Ro_become, slm_Ro_become, kVm_Ro_become, dcm_Ro_become, pmm_Ro_become, anm_Ro_become, cdm_Ro_become, ctm_Ro_become, ml_Ro_become, mc_Ro_become, mp_Ro_become⟩ := say_meth c.d 26 (C := "Road") (m := "become") (q := "Road.become") (st := s_Ro_become) rfl
  obtain ⟨ocm_Ro_next_number, odm_Ro_next_number, slm_Ro_next_number, kVm_Ro_next_number, dcm_Ro_next_number, pmm_Ro_next_number, anm_Ro_next_number, cdm_Ro_next_number, ctm_Ro_next_number, ml_Ro_next_number, mc_Ro_next_number, mp_Ro_next_number⟩ := say_meth c.d 27 (C := "Road") (m := "next_number") (q := "Road.next_number") (st := s_Ro_next_number) rfl
  obtain ⟨ocm_Ro_matings, odm_Ro_matings, slm_Ro_matings, kVm_Ro_matings, dcm_Ro_matings, pmm_Ro_matings, anm_Ro_matings, cdm_Ro_matings, ctm_Ro_matings, ml_Ro_matings, mc_Ro_matings, mp_Ro_matings⟩ := say_meth c.d 28 (C := "Road") (m := "matings") (q := "Road.matings") (st := s_Ro_matings) rfl
  obtain ⟨ocm_Ro_length, odm_Ro_length, slm_Ro_length, kVm_Ro_length, dcm_Ro_length, pmm_Ro_length, anm_Ro_length, cdm_Ro_length, ctm_Ro_length, ml_Ro_length, mc_Ro_length, mp_Ro_length⟩ := say_meth c.d 29 (C := "Road") (m := "length") (q := "Road.length") (st := s_Ro_length) rfl
  obtain ⟨ocm_Ro_mate_as, odm_Ro_mate_as, slm_Ro_mate_as, kVm_Ro_mate_as, dcm_Ro_mate_as, pmm_Ro_mate_as, anm_Ro_mate_as, cdm_Ro_mate_as, ctm_Ro_mate_as, ml_Ro_mate_as, mc_Ro_mate_as, mp_Ro_mate_as⟩ := say_meth c.d 30 (C := "Road") (m := "mate_as") (q := "Road.mate_as") (st := s_Ro_mate_as) rfl
  obtain ⟨ocm_Ro_grow, odm_Ro_grow, slm_Ro_grow, kVm_Ro_grow, dcm_Ro_grow, pmm_Ro_grow, anm_Ro_grow, cdm_Ro_grow, ctm_Ro_grow, ml_Ro_grow, mc_Ro_grow, mp_Ro_grow⟩ := say_meth c.d 31 (C := "Road") (m := "grow") (q := "Road.grow") (st := s_Ro_grow) rfl
  obtain ⟨ocm_Ro_trim, odm_Ro_trim, slm_Ro_trim, kVm_Ro_trim, dcm_Ro_trim, pmm_Ro_trim, anm_Ro_trim, cdm_Ro_trim, ctm_Ro_trim, ml_Ro_trim, mc_Ro_trim, mp_Ro_trim⟩ := say_meth c.d 32 (C := "Road") (m := "trim") (q := "Road.trim") (st := s_Ro_trim) rfl
  obtain ⟨ocm_Ro_swell, odm_Ro_swell, slm_Ro_swell, kVm_Ro_swell, dcm_Ro_swell, pmm_Ro_swell, anm_Ro_swell, cdm_Ro_swell, ctm_Ro_swell, ml_Ro_swell, mc_Ro_swell, mp_Ro_swell⟩ := say_meth c.d 33 (C := "Road") (m := "swell") (q := "Road.swell") (st := s_Ro_swell) rfl
  obtain ⟨fdm_Ro___init__, FD_Ro___init__⟩ := c.d.def_ 34 rfl
  obtain ⟨fdm_Ro_mate, FD_Ro_mate⟩ := c.d.def_ 35 rfl
  obtain ⟨tk_FAR, g_FAR⟩ := say_int c.d 51 (x := "FAR") (i := 1000000000000000000) rfl
  obtain ⟨tk_MOST, g_MOST⟩ := say_int c.d 52 (x := "MOST") (i := 24) rfl
  exact all_mk X G hfa c.mt
    (He.eqO_ok (c.d.fact 0 rfl)) l0 c0 k0 (He.eqO_ok (c.d.fact 1 rfl)) l1 c1 k1
    (He.eqO_ok (c.d.fact 2 rfl)) l2 c2 k2 (He.eqO_ok (c.d.fact 3 rfl)) l3 c3 k3
    (He.eqO_ok (c.d.fact 4 rfl)) l4 c4 k4 (He.eqO_ok (c.d.fact 5 rfl)) l5 c5 k5
    (He.eqO_ok (c.d.fact 6 rfl)) l6 c6 k6 (He.eqO_ok (c.d.fact 7 rfl)) l7 c7 k7
    (He.eqO_ok (c.d.fact 8 rfl)) l8 c8 k8 (He.eqO_ok (c.d.fact 9 rfl)) l9 c9 k9
    (He.eqO_ok (c.d.fact 10 rfl)) l10 c10 k10 (He.eqO_ok (c.d.fact 11 rfl)) l11 c11 k11
    (He.eqO_ok (c.d.fact 12 rfl)) l12 c12 k12 (He.eqO_ok (c.d.fact 13 rfl)) l13 c13 k13
    (He.eqO_ok (c.d.fact 14 rfl)) l14 c14 k14 (He.eqO_ok (c.d.fact 15 rfl)) l15 c15 k15
    (He.eqO_ok (c.d.fact 16 rfl)) l16 c16 k16 (He.eqO_ok (c.d.fact 17 rfl)) l17 c17 k17
    (He.eqO_ok (c.d.fact 18 rfl)) l18 c18 k18 (He.eqO_ok (c.d.fact 19 rfl)) l19 c19 k19
    (He.eqO_ok (c.d.fact 20 rfl)) l20 c20 k20 (He.eqO_ok (c.d.fact 21 rfl)) l21 c21 k21
    (He.eqO_ok (c.d.fact 22 rfl)) l22 c22 k22 (He.eqO_ok (c.d.fact 23 rfl)) l23 c23 k23
    (He.eqO_ok (c.d.fact 24 rfl)) (He.eqO_ok (c.d.fact 25 rfl)) (He.eqO_ok (c.d.fact 26 rfl)) (He.eqO_ok (c.d.fact 27 rfl)) (He.eqO_ok (c.d.fact 28 rfl)) (He.eqO_ok (c.d.fact 29 rfl)) (He.eqO_ok (c.d.fact 30 rfl)) (He.eqO_ok (c.d.fact 31 rfl))
    (He.eqO_ok (c.d.fact 32 rfl)) (He.eqO_ok (c.d.fact 33 rfl)) (He.eqO_ok (c.d.fact 34 rfl)) (He.eqO_ok (c.d.fact 35 rfl)) (He.eqO_ok (c.d.fact 36 rfl)) (He.eqO_ok (c.d.fact 37 rfl)) (He.eqO_ok (c.d.fact 38 rfl)) c.hd
    c.out (He.eqO_ok (c.d.fact 39 rfl)) (cfnB_ok (all_at c.more 0 rfl)) FF (bltB_ok (all_at c.more 1 rfl)) (He.eqO_ok (c.d.fact 40 rfl)) (errB_ok (all_at c.more 2 rfl)) (xfB_ok (all_at c.more 3 rfl))
    (excB_ok (all_at c.more 4 rfl)) (of_decide_eq_true (all_at c.more 5 rfl)) (He.eqO_ok (c.d.fact 41 rfl)) (He.eqO_ok (all_at c.more 6 rfl)) (of_decide_eq_true (all_at c.more 7 rfl)) l_BadNumber c_BadNumber k_BadNumber
    (He.eqO_ok (c.d.fact 42 rfl)) (He.eqO_ok (c.d.fact 43 rfl)) (He.eqO_ok (c.d.fact 44 rfl)) (He.eqO_ok (c.d.fact 45 rfl)) (He.cls_ok (c.d.fact 46 rfl)) (all_at c.more 8 rfl) (all_at c.more 9 rfl) (He.eqO_ok (c.d.fact 47 rfl))
    (He.eqO_ok (c.d.fact 48 rfl)) (He.eqO_ok (c.d.fact 49 rfl)) (He.eqO_ok (c.d.fact 50 rfl)) (He.eqO_ok (all_at c.more 10 rfl)) (all_at c.more 11 rfl) ml_Ro_become mc_Ro_become mp_Ro_become
    (He.eqO_ok (all_at c.more 12 rfl)) (all_at c.more 13 rfl) ml_Ro_next_number mc_Ro_next_number mp_Ro_next_number (He.eqO_ok (all_at c.more 14 rfl)) (all_at c.more 15 rfl) ml_Ro_matings
    mc_Ro_matings mp_Ro_matings (He.eqO_ok (all_at c.more 16 rfl)) (all_at c.more 17 rfl) ml_Ro_length mc_Ro_length mp_Ro_length (He.eqO_ok (all_at c.more 18 rfl))
    (all_at c.more 19 rfl) ml_Ro_mate_as mc_Ro_mate_as mp_Ro_mate_as (He.eqO_ok (all_at c.more 20 rfl)) (all_at c.more 21 rfl) ml_Ro_grow mc_Ro_grow
    mp_Ro_grow (He.eqO_ok (all_at c.more 22 rfl)) (all_at c.more 23 rfl) ml_Ro_trim mc_Ro_trim mp_Ro_trim (He.eqO_ok (all_at c.more 24 rfl)) (all_at c.more 25 rfl)
    ml_Ro_swell mc_Ro_swell mp_Ro_swell (He.eqO_ok (all_at c.more 26 rfl)) (all_at c.more 27 rfl) FD_Ro___init__ (He.eqO_ok (all_at c.more 28 rfl)) (all_at c.more 29 rfl)
    FD_Ro_mate g_FAR g_MOST
-- SPLIT
theorem runL (w : World) : HandSHeadRun.RunEq RowL (PySem.W.view RowL.prog [82]) hkL obL 40000 looseL w := run_parts run1 run2 run4 w
end Fm
open PySem PySem.W PySem.Calls PyProof.Rows
set_option maxRecDepth 100000 in
set_option maxHeartbeats 0 in
theorem PySem.Challenge.cw_farmates_k29_roads_grown_trimmed_swelled_holds : PySem.Challenge.rw_farmates_k29_roads_grown_trimmed_swelled.Holds := by
  w_on; o_law
  refine HandSHeadRun.head_any (r := OpenLaw.row PySem.Challenge.rw_farmates_k29_roads_grown_trimmed_swelled) (q := view (OpenLaw.row PySem.Challenge.rw_farmates_k29_roads_grown_trimmed_swelled).prog [82]) (H := Fm.hkL) (ob := Fm.obL) (M := 40000) (loose := Fm.looseL) (d := HandSHeadRun.topDef (OpenLaw.row PySem.Challenge.rw_farmates_k29_roads_grown_trimmed_swelled).prog 82) (kwd := []) Fm.obL_eq
    (by kernel_rfl) (fun s => by kernel_rfl) Fm.runL (by kernel_rfl) (by kernel_rfl) (by kernel_rfl) (by rfl) (by first | assumption | decide +kernel) (by decide +kernel) ⟨rfl, rfl, rfl, rfl, rfl, by decide +kernel⟩ ?hw ?hc
  case hw => w_witness2
  case hc =>
    refine LamX.walk_ofTsE (l := PySem.Challenge.rw_farmates_k29_roads_grown_trimmed_swelled) (n := 63) (k := 20) (x := "_law_script") (CX := fun _ => L2.CX0) rfl (by decide) (by kernel_rfl) ⟨rfl, by decide, by decide⟩ ?F (fun _ _ _ _ _ z => z)
    intro w mg fa h Y G hm0
    obtain ⟨K, KX, c⟩ := Y
    have hm : mg ("law" : PySem.Str) = some (.ref fa) := by
      have en : (HandSHeadRun.topDef (OpenLaw.row PySem.Challenge.rw_farmates_k29_roads_grown_trimmed_swelled).prog 82).name = ("law" : PySem.Str) := by kernel_rfl
      rw [← en]
      exact hm0
    exact ⟨K, KX, Fm.all_of KX G hm c⟩
