import PyProof.Rows.All
import Wide.All
import OpenK.AllK
import Wide.FinOn
import HandS.ForMost
import HandS.Codes
import HandS.IsInst
import HandS.Wide
import HandS.WideBits
import HandS.SetFor
import HandS.Strs
import HandS.Style
import HandS.ForExc
import HandS.ExcInit
import HandS.ExcIs
import HandS.ExcField
import HandS.FStr
import HandS.Defaults
import HandS.MakeKwOnly
import HandS.Lambda
import HandS.EndTab
import HandS.HotCalls
import HandS.FStrTup
import HandS.DictComp
import HandS.Iter
import HandS.Zip
import HandS.More
import HandS.DictTup
import HandS.ListItems
import HandS.Keys
import HandS.SortKw
import HandS.Walk
import HandS.Deep
import KE.DataMinMax
import KE.GoesEnum
import HandS.TryOnly
import KE.KMinKey
import HandS.Conv
import KE.KStateDown
import HandS.Head0
import HandS.Head1
import HandS.Head2
import HandS.HeadHook1
import HandS.HeadHook2
import HandS.HeadHook3
import HandS.HeadHook4
import HandS.HeadWalk
import PySem.Challenge.RW_farmates_k30_roads_taken_behind
set_option Elab.async false
set_option linter.all false
set_option maxRecDepth 100000
set_option maxHeartbeats 4000000
namespace Fm
open PySem L2
def top (i : Nat) : Stmt := PySem.Challenge.pw_farmates_k30_roads_taken_behind.main.body.getD i (.Pass ⟨0, 0, 0, 0⟩)

/-! ### what stands behind the top -/
structure DefAt (K : PySem.W.Frag) (mg : Str → Option Value) (x : Str) (st : Stmt) (ps : List Str) (f : Addr) (fd : FuncData) : Prop where
  F : Fun K x x st f fd
  b : Binds K fd ps []
  g : mg x = some (.ref f)
structure Bn (mg : Str → Option Value) : Prop where
  len : mg "len" = none
  list : mg "list" = none
  tuple : mg "tuple" = none
  bool : mg "bool" = none
  int : mg "int" = none
  str : mg "str" = none
  isinstance : mg "isinstance" = none
  all : mg "all" = none
  any : mg "any" = none
  range : mg "range" = none
  max : mg "max" = none
  min : mg "min" = none
  dict : mg "dict" = none
  sorted : mg "sorted" = none
/-! ### heaps -/
theorem same_upd {H : Hp} {p : Addr} {o : HO} (h : H p = none) : Same H (upd H p o) := fun b x e => by
  rw [upd_ne (ne_of_none e h)]
  exact e
theorem sameU {H H' : Hp} {p : Addr} {o : HO} (e : Same H H') (h : H p = none) : Same H (upd H' p o) := fun b x q => by
  rw [upd_ne (ne_of_none q h)]
  exact e b x q
/-- all but d stands as it stood -/
def Keep (d : Addr) (H H' : Hp) : Prop := ∀ b o, b ≠ d → H b = some o → H' b = some o
theorem Keep.refl (d : Addr) (H : Hp) : Keep d H H := fun _ _ _ h => h
theorem Keep.trans {d : Addr} {H H1 H2 : Hp} (a : Keep d H H1) (b : Keep d H1 H2) : Keep d H H2 := fun c o n h => b c o n (a c o n h)
theorem Keep.upd {d : Addr} {H : Hp} {o : HO} : Keep d H (upd H d o) := fun b x n h => by
  rw [upd_ne n]
  exact h
theorem keepS {d : Addr} {H H' : Hp} (a : Same H H') : Keep d H H' := fun b o _ h => a b o h
/-! ### the drawing -/
structure Drawn (H : Hp) (d l : Addr) (ns : List Int) (i z s : Int) : Prop where
  at_d : H d = some (.lst [.ref l, .int i, .int z, .int s])
  at_l : H l = some (.lst (ns.map V.int))
  len : ns.length ≤ 63
  i0 : 0 ≤ i
  z0 : 0 ≤ z
  s0 : 0 ≤ s
  s1 : s < 2147483629
def Draw (H : Hp) (d l : Addr) : Prop := ∃ ns i z s, Drawn H d l ns i z s
theorem Drawn.ne {H : Hp} {d l : Addr} {ns : List Int} {i z s : Int} (h : Drawn H d l ns i z s) : l ≠ d := by
  refine ne_of h.at_l h.at_d fun e => ?_
  cases ns with
  | nil => cases e
  | cons x r => cases e
theorem Drawn.same {H H' : Hp} {d l : Addr} {ns : List Int} {i z s : Int} (h : Drawn H d l ns i z s) (e : Same H H') : Drawn H' d l ns i z s := { h with at_d := e _ _ h.at_d, at_l := e _ _ h.at_l }
theorem Draw.same {H H' : Hp} {d l : Addr} (h : Draw H d l) (e : Same H H') : Draw H' d l := by
  obtain ⟨ns, i, z, s, h⟩ := h
  exact ⟨ns, i, z, s, h.same e⟩
/-- the drawing list stored anew -/
theorem Drawn.put {H : Hp} {d l : Addr} {ns : List Int} {i z s i' z' s' : Int} (h : Drawn H d l ns i z s) (hi : 0 ≤ i') (hz : 0 ≤ z') (h0 : 0 ≤ s') (h1 : s' < 2147483629) :
    Drawn (upd H d (.lst [.ref l, .int i', .int z', .int s'])) d l ns i' z' s' :=
  ⟨upd_same, (by rw [upd_ne h.ne]; exact h.at_l), h.len, hi, hz, h0, h1⟩
def spOpen (K : PySem.W.Frag) : Sp := fun vs H Q _ => ∃ (a : Addr) (ns : List Int), vs = [.ref a] ∧ SqL K H a (ns.map V.int) ∧ ns.length ≤ 63 ∧
  ∀ H' d l, Same H H' → H d = none → H l = none → Draw H' d l → Q (.ref d) H'
def spPull : Sp := fun vs H Q _ => ∃ (d l : Addr) (c : Int), vs = [.ref d, .int c] ∧ Draw H d l ∧ 1 ≤ c ∧ c < 2 ^ 100 ∧
  ∀ (v : Int) (H' : Hp), 0 ≤ v → v < c → Draw H' d l → Keep d H H' → Q (.int v) H'
def spLaw (K : PySem.W.Frag) : Sp := fun vs H Q _ => ∃ (a : Addr) (ns : List Int), vs = [.ref a] ∧ SqL K H a (ns.map V.int) ∧ ns.length ≤ 63 ∧ ∀ H', Q (.bl true) H'
/-! ### data that is compared, at most n deep -/
mutual
inductive Rp (H : Hp) : Nat → V → PyData → Prop
  | non (n : Nat) : Rp H n .non .none
  | bl (n : Nat) (b : Bool) : Rp H n (.bl b) (.bool b)
  | int (n : Nat) (i : Int) : Rp H n (.int i) (.int i)
  | str (n : Nat) (x : Str) : Rp H n (.str x) (.str x)
  | lst {n : Nat} {a : Addr} {xs : List V} {ds : List PyData} : H a = some (.lst xs) → xs.length ≤ 100000 → RpAll H n xs ds → Rp H (n + 1) (.ref a) (.list ds)
  | tup {n : Nat} {a : Addr} {xs : List V} {ds : List PyData} : H a = some (.tup xs) → xs.length ≤ 100000 → RpAll H n xs ds → Rp H (n + 1) (.ref a) (.tuple ds)
inductive RpAll (H : Hp) : Nat → List V → List PyData → Prop
  | nil (n : Nat) : RpAll H n [] []
  | cons {n : Nat} {v : V} {vs : List V} {d : PyData} {ds : List PyData} : Rp H n v d → RpAll H n vs ds → RpAll H n (v :: vs) (d :: ds)
end
mutual
theorem Rp.same {H H' : Hp} (e : Same H H') : ∀ {n : Nat} {v : V} {d : PyData}, Rp H n v d → Rp H' n v d
  | _, _, _, .non n => .non n
  | _, _, _, .bl n b => .bl n b
  | _, _, _, .int n i => .int n i
  | _, _, _, .str n x => .str n x
  | _, _, _, .lst h l r => .lst (e _ _ h) l (RpAll.same e r)
  | _, _, _, .tup h l r => .tup (e _ _ h) l (RpAll.same e r)
theorem RpAll.same {H H' : Hp} (e : Same H H') : ∀ {n : Nat} {vs : List V} {ds : List PyData}, RpAll H n vs ds → RpAll H' n vs ds
  | _, _, _, .nil n => .nil n
  | _, _, _, .cons h r => .cons (Rp.same e h) (RpAll.same e r)
end
theorem RpAll.length {H : Hp} : ∀ {n : Nat} {vs : List V} {ds : List PyData}, RpAll H n vs ds → vs.length = ds.length
  | _, _, _, .nil _ => rfl
  | _, _, _, .cons _ r => congrArg (· + 1) (RpAll.length r)
theorem RpAll.get {H : Hp} : ∀ {n : Nat} {vs : List V} {ds : List PyData}, RpAll H n vs ds → ∀ (i : Nat), i < ds.length → ∃ v d, vs[i]? = some v ∧ ds[i]? = some d ∧ Rp H n v d
  | _, _, _, .nil _, i, h => absurd h (Nat.not_lt_zero i)
  | _, _, _, .cons (v := v) (d := d) h r, 0, _ => ⟨v, d, rfl, rfl, h⟩
  | _, _, _, .cons h r, i + 1, hi => by
    obtain ⟨v, d, a, b, c⟩ := RpAll.get r i (Nat.lt_of_succ_lt_succ hi)
    exact ⟨v, d, a, b, c⟩
def spLike (n : Nat) : Sp := fun vs H Q _ => ∃ (a b : V) (d : PyData), vs = [a, b] ∧ Rp H n a d ∧ Rp H n b d ∧ ∀ H', Same H H' → Q (.bl true) H'
def spBot : Sp := fun _ _ _ _ => False
section
variable {P : Program} {w : World} {K : PySem.W.Frag} {mg : Str → Option Value} {base : Heap}
theorem ok_bot {f : Addr} {fd : FuncData} {ps : List Str} : FnOk P w K mg base CX0 0 f fd ps spBot := ⟨fun _ _ _ _ h => h.elim, fun _ _ _ _ _ _ _ _ _ _ _ _ _ h => h.elim⟩
end
theorem Draw.ne_new {H : Hp} {d l p : Addr} (h : Draw H d l) (n : H p = none) : p ≠ d := by
  obtain ⟨ns, i, z, s, h⟩ := h
  exact (ne_of_none h.at_d n).symm
theorem Keep.of {d : Addr} {H H' : Hp} (k : Keep d H H') {b : Addr} {o : HO} (h : H b = some o) (n : b ≠ d) : H' b = some o := k b o n h
theorem sz_lt {n : Nat} (h : n < 100000) : n < sizeLine := Nat.lt_of_lt_of_le h (by decide)

/-! ### _law_open -/
abbrev s_open : Stmt := top 67
abbrev N_open : List Str := ["_law_script", "_law_seed", "_law_cell"]
abbrev P_open : List Str := ["_law_script"]
theorem sc_open : FnScope N_open P_open (defScope s_open) := ⟨rfl, rfl, rfl, by decide +kernel, rfl, by decide +kernel, by decide +kernel⟩
theorem cut63 (xs : List V) (h : xs.length ≤ 63) : cutV xs none (some 63) = xs := by
  unfold cutV
  rw [show HT.sIx xs.length xs.length (some 63) = min 63 xs.length from HT.sIx_nat xs.length xs.length 63, HT.sIx_none, Nat.min_eq_right h]
  show (xs.drop 0).take (xs.length - 0) = xs
  rw [List.drop_zero, Nat.sub_zero, List.take_length]
section
variable {P : Program} {w : World} {K : PySem.W.Frag} {mg : Str → Option Value} {base : Heap}
theorem ok_open {f : Addr} {fd : FuncData} (D : DefAt K mg "_law_open" s_open P_open f fd) (B : Bn mg) : FnOk P w K mg base CX0 1 f fd P_open (spOpen K) := by
  refine D.F.ok sc_open (fun vs H Q E h => ?_) (fun cdv A outer s H vs Q E hr h => ?_)
  · obtain ⟨a, ns, rfl, _⟩ := h
    rfl
  · obtain ⟨a, ns, rfl, hS, hlen, q⟩ := h
    refine ⟨_, (pss_cons (ps_set (i := 1) sc_open.nd rfl (.inl rfl) pe_int)
      (pss_cons (ps_for PassesOwn.never rfl (pi_list (pe_slice sl_list (pv 0) po_none (po_some pe_int))) (pg_name (i := 2) sc_open.nd rfl (.inl rfl)) (pss_one (ps_set (i := 1) sc_open.nd rfl (.inl rfl) (pe_op op_mod (pe_op op_add (pe_op op_add (pe_op op_mul (pv 1) pe_int) (pe_op op_mod (pv 2) pe_int)) pe_int) pe_int))))
      (pss_one (ps_ret (pe_lst (pa_cons (pe_callTy call_list_of (by rfl) B.list (by decide +kernel) (pa_cons (pe_slice sl_list (pv 0) po_none (po_some pe_int)) pa_nil)) (pa_cons pe_int (pa_cons pe_int (pa_cons (pv 1) pa_nil))))))))), ?_⟩
    refine ⟨.ref a, rfl, 63, rfl, a, ns.map V.int, rfl, hS, fun c nc => ?_⟩
    rw [cut63 _ (by rw [List.length_map]; exact hlen)]
    have s1 : Same H (upd H c (.lst (ns.map V.int))) := same_upd nc
    refine ⟨c, rfl, ⟨_, SqL.of upd_same⟩, for_list (K := K) (a := c) (xs := ns.map V.int) (fun i σ H2 => ∃ (sd : Int) (v : Option V), σ = [some (.ref a), some (.int sd), v] ∧ H2 = upd H c (.lst (ns.map V.int)) ∧ 0 ≤ sd ∧ sd < 2147483629)
      ⟨9134, none, rfl, rfl, by decide, by decide⟩ (fun i σ H2 _ ⟨_, _, _, e2, _⟩ => e2 ▸ SqL.of upd_same) ?_ ?_⟩
    · rintro i y σ H2 hi ⟨sd, v, rfl, rfl, h0, h1⟩
      obtain ⟨z, rfl⟩ : ∃ z, y = V.int z := by
        rw [List.getElem?_map] at hi
        cases e : ns[i]? with
        | none =>
          rw [e] at hi
          cases hi
        | some z =>
          rw [e] at hi
          exact ⟨z, (Option.some.inj hi).symm⟩
      refine ⟨_, rfl, _, _, rfl, rfl, .inl ⟨by omega, by omega⟩, _, rfl, _, _, rfl, rfl, (by show (0 : Int) < 2147483587; decide), _, _, rfl, rfl, _, _, rfl, rfl, _, _, rfl, rfl, (by show (0 : Int) < 2147483629; decide), ?_⟩
      exact ⟨_, _, rfl, rfl, Int.emod_nonneg _ (by decide), Int.emod_lt_of_pos _ (by decide)⟩
    · rintro σ H2 ⟨sd, v, rfl, rfl, h0, h1⟩
      refine ⟨.ref a, rfl, 63, rfl, a, ns.map V.int, rfl, s1.seq hS, fun p np => ?_⟩
      rw [cut63 _ (by rw [List.length_map]; exact hlen)]
      have s2 : Same H (upd (upd H c (.lst (ns.map V.int))) p (.lst (ns.map V.int))) := s1.trans (same_upd np)
      refine ⟨p, _, rfl, .inl (SqL.of upd_same), fun l nl => ?_⟩
      refine ⟨_, rfl, by show 4 ≤ sizeLine; decide, fun d nd => ?_⟩
      have s3 : Same H (upd (upd (upd H c (.lst (ns.map V.int))) p (.lst (ns.map V.int))) l (.lst (ns.map V.int))) := s2.trans (same_upd nl)
      refine q _ d l (s3.trans (same_upd nd)) (s3.free nd) (s2.free nl) ⟨ns, 0, 0, sd, upd_same, ?_, hlen, by decide, by decide, h0, h1⟩
      have nld : l ≠ d := fun e => by
        rw [← e, upd_same] at nd
        cases nd
      rw [upd_ne nld, upd_same]
end

/-! ### _law_pull -/
abbrev s_pull : Stmt := top 68
abbrev N_pull : List Str := ["_law_draw", "_law_cap", "_law_cell", "_law_got", "_law_seed"]
abbrev P_pull : List Str := ["_law_draw", "_law_cap"]
theorem sc_pull : FnScope N_pull P_pull (defScope s_pull) := ⟨rfl, rfl, rfl, by decide +kernel, rfl, by decide +kernel, by decide +kernel⟩
section
variable {P : Program} {w : World} {K : PySem.W.Frag} {mg : Str → Option Value} {base : Heap}
theorem ok_pull {f : Addr} {fd : FuncData} (D : DefAt K mg "_law_pull" s_pull P_pull f fd) (B : Bn mg) : FnOk P w K mg base CX0 1 f fd P_pull spPull := by
  refine D.F.ok sc_pull (fun vs H Q E h => ?_) (fun cdv A outer s H vs Q E hr h => ?_)
  · obtain ⟨d, l, c, rfl, _⟩ := h
    rfl
  · obtain ⟨d, l, c, rfl, hD, hc1, hc2, q⟩ := h
    refine ⟨_, (C8.pss_cut (ps_if (PW.pt (pw_and (pt_cmpR op_lt (pe_ix ix_list (pv 0) pe_int (fun _ _ => rfl)) (pv 1) (nomark _)) (pw_and1 (pt_cmpR op_lt (pe_ix ix_list (pv 0) pe_int (fun _ _ => rfl)) (pe_callB call_len_seq (by rfl) B.len (by decide +kernel) (pa_cons (pe_ix ix_list (pv 0) pe_int (fun _ _ => rfl)) pa_nil)) (nomark _))))) (pss_cons (ps_set (i := 2) sc_pull.nd rfl (.inl rfl) (pe_ix ix_list (pe_ix ix_list (pv 0) pe_int (fun _ _ => rfl)) (pe_ix ix_list (pv 0) pe_int (fun _ _ => rfl)) (fun _ _ => rfl)))
      (pss_cons (ps_asg (pe_op op_add (pe_ix ix_list (pv 0) pe_int (fun _ _ => rfl)) pe_int) (pg_sub (pv 0) pe_int set_list))
      (pss_cons (ps_asg pe_int (pg_sub (pv 0) pe_int set_list))
      (pss_one (ps_if (pt_cmpR op_ge (pv 2) (pe_op op_pow pe_int pe_int) (nomark _)) (pss_one (ps_asg (pv 2) (pg_sub (pv 0) pe_int set_list))) (pss_one (ps_asg (pe_op op_mod (pe_op op_add (pe_op op_add (pe_op op_mul (pe_ix ix_list (pv 0) pe_int (fun _ _ => rfl)) pe_int) (pe_op op_mul (pe_op op_mod (pv 2) pe_int) pe_int)) pe_int) pe_int) (pg_sub (pv 0) pe_int set_list)))))))) pss_nil)
      (C8.pss_cut (ps_if (pt_cmpR op_ge (pe_ix ix_list (pv 0) pe_int (fun _ _ => rfl)) (pv 1) (nomark _)) (pss_cons (ps_set (i := 3) sc_pull.nd rfl (.inl rfl) (pe_op op_mod (pe_ix ix_list (pv 0) pe_int (fun _ _ => rfl)) (pv 1)))
      (pss_cons (ps_asg (pe_op op_fdivW (pe_ix ix_list (pv 0) pe_int (fun _ _ => rfl)) (pv 1)) (pg_sub (pv 0) pe_int set_list))
      (pss_one (ps_ret (pv 3))))) pss_nil)
      (pss_cons (ps_set (i := 4) sc_pull.nd rfl (.inl rfl) (pe_ix ix_list (pv 0) pe_int (fun _ _ => rfl)))
      (pss_cons (ps_asg (pe_op op_mod (pe_op op_add (pe_op op_add (pe_op op_mul (pe_op op_mod (pe_op op_mul (pv 4) (pv 4)) pe_int) pe_int) (pe_op op_mul (pv 4) pe_int)) pe_int) pe_int) (pg_sub (pv 0) pe_int set_list))
      (pss_cons (ps_if (pt_cmpR op_lt (pv 1) (pe_op op_pow pe_int pe_int) (nomark _)) (pss_one (ps_ret (pe_op op_mod (pe_op op_add (pe_op op_fdivW (pe_ix ix_list (pv 0) pe_int (fun _ _ => rfl)) pe_int) (pe_op op_mul (pe_op op_mod (pe_ix ix_list (pv 0) pe_int (fun _ _ => rfl)) pe_int) pe_int)) (pv 1)))) pss_nil)
      (pss_one (ps_ret (pe_op op_mod (pe_op op_add (pe_op op_fdivW (pe_op op_pow (pe_ix ix_list (pv 0) pe_int (fun _ _ => rfl)) pe_int) pe_int) (pe_ix ix_list (pv 0) pe_int (fun _ _ => rfl))) (pv 1))))))))), ?_⟩
    have hpow : CPow 10 18 := ⟨by decide, by decide, by decide⟩
    have hpow8 : CPow 10 8 := ⟨by decide, by decide, by decide⟩
    have ix0 : ∀ {a b e g : V}, atI [a, b, e, g] 0 = some a := fun {_ _ _ _} => atI_nat (j := 0) rfl
    have ix1 : ∀ {a b e g : V}, atI [a, b, e, g] 1 = some b := fun {_ _ _ _} => atI_nat (j := 1) rfl
    have ix2 : ∀ {a b e g : V}, atI [a, b, e, g] 2 = some e := fun {_ _ _ _} => atI_nat (j := 2) rfl
    have ix3 : ∀ {a b e g : V}, atI [a, b, e, g] 3 = some g := fun {_ _ _ _} => atI_nat (j := 3) rfl
    -- the first if
    refine ⟨fun σ H1 => ∃ y : Option V, σ = [some (.ref d), some (.int c), y, none, none] ∧ Draw H1 d l ∧ Keep d H H1, ?_, ?_⟩
    · obtain ⟨ns, i, z, sd, hW⟩ := hD
      refine ⟨.ref d, rfl, d, _, 2, .int z, rfl, rfl, SqL.of hW.at_d, ix2, .int c, rfl, z, c, rfl, rfl, _, rfl, ?_⟩
      refine ite2 (fun _ => ?_) (fun _ => iteF ⟨none, rfl, ⟨ns, i, z, sd, hW⟩, Keep.refl _ _⟩)
      refine ⟨.ref d, rfl, d, _, 1, .int i, rfl, rfl, SqL.of hW.at_d, ix1, .ref d, rfl, d, _, 0, .ref l, rfl, rfl, SqL.of hW.at_d, ix0, l, _, rfl, .inl (SqL.of hW.at_l), i, _, rfl, rfl, _, rfl, ?_⟩
      refine ite2 (fun hb => ?_) (fun _ => ⟨none, rfl, ⟨ns, i, z, sd, hW⟩, Keep.refl _ _⟩)
      have hil : i < ((ns.map V.int).length : Int) := of_decide_eq_true hb
      rw [List.length_map] at hil
      have hi0 := hW.i0
      obtain ⟨j, rfl⟩ : ∃ j : Nat, i = (j : Int) := ⟨i.toNat, by omega⟩
      have hj : j < ns.length := by omega
      have gj : (ns.map V.int)[j]? = some (.int ns[j]) := by
        rw [List.getElem?_map, List.getElem?_eq_getElem hj]
        rfl
      -- cell = draw[0][draw[1]]
      refine ⟨.ref d, rfl, d, _, 0, .ref l, rfl, rfl, SqL.of hW.at_d, ix0, .ref d, rfl, d, _, 1, .int (j : Int), rfl, rfl, SqL.of hW.at_d, ix1, l, _, (j : Int), .int ns[j], rfl, rfl, SqL.of hW.at_l, atI_nat gj, ?_⟩
      -- draw[1] = draw[1] + 1
      refine ⟨.ref d, rfl, d, _, 1, .int (j : Int), rfl, rfl, SqL.of hW.at_d, ix1, _, _, rfl, rfl, .ref d, rfl, d, _, 1, 1, rfl, rfl, hW.at_d, rfl, ?_⟩
      have W1 := hW.put (i' := (j : Int) + 1) (z' := z) (s' := sd) (by omega) hW.z0 hW.s0 hW.s1
      -- draw[2] = 0
      refine ⟨.ref d, rfl, d, _, 2, 2, rfl, rfl, upd_same, rfl, ?_⟩
      have W2 := W1.put (i' := (j : Int) + 1) (z' := 0) (s' := sd) (by omega) (by decide) hW.s0 hW.s1
      -- if cell >= 10 ** 18
      refine ⟨_, rfl, _, _, rfl, rfl, hpow, _, _, rfl, rfl, _, rfl, ?_⟩
      refine ite2 (fun hg => ?_) (fun _ => ?_)
      · have hg' : (10 : Int) ^ 18 ≤ ns[j] := of_decide_eq_true hg
        refine ⟨_, rfl, .ref d, rfl, d, _, 2, 2, rfl, rfl, upd_same, rfl, ?_⟩
        exact ⟨_, rfl, ⟨_, _, _, _, W2.put (i' := (j : Int) + 1) (z' := ns[j]) (s' := sd) (by omega) (by omega) hW.s0 hW.s1⟩, (Keep.upd.trans Keep.upd).trans Keep.upd⟩
      · refine ⟨.ref d, rfl, d, _, 3, .int sd, rfl, rfl, SqL.of upd_same, ix3, _, _, rfl, rfl, .inr ⟨by decide, by decide⟩, _, rfl, _, _, rfl, rfl, (by show (0 : Int) < 2147483647; decide), _, _, rfl, rfl, .inr ⟨by decide, by decide⟩, _, _, rfl, rfl, _, _, rfl, rfl, _, _, rfl, rfl, (by show (0 : Int) < 2147483629; decide), ?_⟩
        refine ⟨.ref d, rfl, d, _, 3, 3, rfl, rfl, upd_same, rfl, ?_⟩
        exact ⟨_, rfl, ⟨_, _, _, _, W2.put (i' := (j : Int) + 1) (z' := 0) (s' := _) (by omega) (by decide) (Int.emod_nonneg _ (by decide)) (Int.emod_lt_of_pos _ (by decide))⟩, (Keep.upd.trans Keep.upd).trans Keep.upd⟩
    · rintro σ H1 ⟨y, rfl, ⟨ns, i, z, sd, hW⟩, kp⟩
      -- the second if
      refine ⟨fun σ H2 => H2 = H1 ∧ ∃ y' : Option V, σ = [some (.ref d), some (.int c), y, y', none], ?_, ?_⟩
      · refine ⟨.ref d, rfl, d, _, 2, .int z, rfl, rfl, SqL.of hW.at_d, ix2, .int c, rfl, z, c, rfl, rfl, _, rfl, ?_⟩
        refine ite2 (fun hg => ?_) (fun _ => ⟨rfl, none, rfl⟩)
        refine ⟨.ref d, rfl, d, _, 2, .int z, rfl, rfl, SqL.of hW.at_d, ix2, .int c, rfl, _, _, rfl, rfl, (by omega), ?_⟩
        have hwd : CDivW z c := wide_div (b := 100) (by omega) (by omega) (by decide) (by decide)
        refine ⟨.ref d, rfl, d, _, 2, .int z, rfl, rfl, SqL.of hW.at_d, ix2, .int c, rfl, _, _, rfl, rfl, hwd, .ref d, rfl, d, _, 2, 2, rfl, rfl, hW.at_d, rfl, _, rfl, ?_⟩
        exact q _ _ (Int.emod_nonneg _ (by omega)) (Int.emod_lt_of_pos _ (by omega)) ⟨_, _, _, _, hW.put (i' := i) (z' := z / c) (s' := sd) hW.i0 (Int.ediv_nonneg hW.z0 (by omega)) hW.s0 hW.s1⟩ (kp.trans Keep.upd)
      · rintro σ H2 ⟨rfl, y', rfl⟩
        have hs0 := hW.s0
        have hs1 := hW.s1
        have hm : CMul sd sd := .inl ⟨by omega, by omega⟩
        -- seed = draw[3]; draw[3] = ..
        refine ⟨.ref d, rfl, d, _, 3, .int sd, rfl, rfl, SqL.of hW.at_d, ix3, ?_⟩
        refine ⟨_, rfl, _, rfl, _, _, rfl, rfl, hm, _, _, rfl, rfl, (by show (0 : Int) < 2147483647; decide), _, _, rfl, rfl, .inr ⟨by decide, by decide⟩, _, rfl, _, _, rfl, rfl, .inr ⟨by decide, by decide⟩, _, _, rfl, rfl, _, _, rfl, rfl, _, _, rfl, rfl, (by show (0 : Int) < 2147483629; decide), ?_⟩
        refine ⟨.ref d, rfl, d, _, 3, 3, rfl, rfl, hW.at_d, rfl, ?_⟩
        have n0 : 0 ≤ (sd * sd % 2147483647 * 3 + sd * 45991 + 746773) % 2147483629 := Int.emod_nonneg _ (by decide)
        have n1 : (sd * sd % 2147483647 * 3 + sd * 45991 + 746773) % 2147483629 < 2147483629 := Int.emod_lt_of_pos _ (by decide)
        have W1 := hW.put (i' := i) (z' := z) (s' := (sd * sd % 2147483647 * 3 + sd * 45991 + 746773) % 2147483629) hW.i0 hW.z0 n0 n1
        have na : ((sd * sd % 2147483647 * 3 + sd * 45991 + 746773) % 2147483629).natAbs < 2 ^ 64 := by omega
        -- if cap < 10 ** 8
        refine ⟨_, rfl, _, _, rfl, rfl, hpow8, _, _, rfl, rfl, _, rfl, ?_⟩
        refine ite2 (fun _ => ?_) (fun _ => ?_)
        · refine ⟨.ref d, rfl, d, _, 3, .int _, rfl, rfl, SqL.of W1.at_d, ix3, _, _, rfl, rfl, wide_div (b := 10) (by decide) (by decide) (by decide) (by decide), .ref d, rfl, d, _, 3, .int _, rfl, rfl, SqL.of W1.at_d, ix3, _, _, rfl, rfl, (by show (0 : Int) < 6151; decide), _, _, rfl, rfl, .inr ⟨by decide, by decide⟩, _, _, rfl, rfl, .int c, rfl, _, _, rfl, rfl, (by omega), ?_⟩
          exact q _ _ (Int.emod_nonneg _ (by omega)) (Int.emod_lt_of_pos _ (by omega)) ⟨_, _, _, _, W1⟩ (kp.trans Keep.upd)
        · refine ⟨.ref d, rfl, d, _, 3, .int _, rfl, rfl, SqL.of W1.at_d, ix3, _, _, rfl, rfl, ⟨by decide, by decide, na⟩, _, _, rfl, rfl, wide_div (b := 10) (by decide) (by decide) (by decide) (by decide), .ref d, rfl, d, _, 3, .int _, rfl, rfl, SqL.of W1.at_d, ix3, _, _, rfl, rfl, .int c, rfl, _, _, rfl, rfl, (by omega), ?_⟩
          exact q _ _ (Int.emod_nonneg _ (by omega)) (Int.emod_lt_of_pos _ (by omega)) ⟨_, _, _, _, W1⟩ (kp.trans Keep.upd)
end

/-! ### _law_like -/
abbrev s_like : Stmt := top 69
abbrev N_like : List Str := ["_law_found", "_law_due", "_law_j"]
abbrev P_like : List Str := ["_law_found", "_law_due"]
theorem sc_like : FnScope N_like P_like (defScope s_like) := ⟨rfl, rfl, rfl, by decide +kernel, rfl, by decide +kernel, by decide +kernel⟩
section
variable {P : Program} {w : World} {K : PySem.W.Frag} {mg : Str → Option Value} {base : Heap}
theorem isn_no {v : V} {A B : Prop} (h : v ≠ .non) (b : B) : if decide (v = V.non) = true then A else B := by
  rw [decide_eq_false h]
  exact iteF b
theorem like_step {k n : Nat} {f : Addr} {fd : FuncData} {spR : Sp} (D_like : DefAt K mg "_law_like" s_like P_like f fd) (B : Bn mg) (G_like : FnOk P w K mg base CX0 k f fd P_like spR)
    (hR : ∀ m, n = m + 1 → ∀ vs H Q E, spLike m vs H Q E → spR vs H Q E) : FnOk P w K mg base CX0 (k + 1) f fd P_like (spLike n) := by
  refine D_like.F.ok sc_like (fun vs H Q E h => ?_) (fun cdv A outer s H vs Q E hr h => ?_)
  · obtain ⟨a, b, d, rfl, _⟩ := h
    rfl
  · obtain ⟨a, b, d, rfl, ha, hb, q⟩ := h
    refine ⟨_, (pss_cons (ps_if (pt_cmpR op_isN (pv 1) pe_non (nomark _)) (pss_one (ps_ret (pe_cmpR op_isN (pv 0) pe_non (nomark _)))) pss_nil)
      (pss_cons (ps_if (pt_val (pe_callB call_isi (by rfl) B.isinstance (by decide +kernel) (pa_cons (pv 1) (pa_cons (pe_bltn (v := .ty "bool") (by rfl) B.bool (by decide +kernel) rfl) pa_nil)))) (pss_one (ps_ret (pe_and (pe_callB call_isi (by rfl) B.isinstance (by decide +kernel) (pa_cons (pv 0) (pa_cons (pe_bltn (v := .ty "bool") (by rfl) B.bool (by decide +kernel) rfl) pa_nil))) (pe_one (pe_cmpR op_eq (pv 0) (pv 1) (nomark _)))))) pss_nil)
      (pss_cons (ps_if (pt_val (pe_callB call_isi (by rfl) B.isinstance (by decide +kernel) (pa_cons (pv 1) (pa_cons (pe_bltn (v := .ty "int") (by rfl) B.int (by decide +kernel) rfl) pa_nil)))) (pss_one (ps_ret (pe_and (pe_callB call_isi (by rfl) B.isinstance (by decide +kernel) (pa_cons (pv 0) (pa_cons (pe_bltn (v := .ty "int") (by rfl) B.int (by decide +kernel) rfl) pa_nil))) (pe_and (pe_not (pe_callB call_isi (by rfl) B.isinstance (by decide +kernel) (pa_cons (pv 0) (pa_cons (pe_bltn (v := .ty "bool") (by rfl) B.bool (by decide +kernel) rfl) pa_nil)))) (pe_one (pe_cmpR op_eq (pv 0) (pv 1) (nomark _))))))) pss_nil)
      (pss_cons (ps_if (pt_val (pe_callB call_isi (by rfl) B.isinstance (by decide +kernel) (pa_cons (pv 1) (pa_cons (pe_bltn (v := .ty "str") (by rfl) B.str (by decide +kernel) rfl) pa_nil)))) (pss_one (ps_ret (pe_and (pe_callB call_isi (by rfl) B.isinstance (by decide +kernel) (pa_cons (pv 0) (pa_cons (pe_bltn (v := .ty "str") (by rfl) B.str (by decide +kernel) rfl) pa_nil))) (pe_one (pe_cmpR op_eq (pv 0) (pv 1) (nomark _)))))) pss_nil)
      (pss_cons (ps_if (PW.pt (pw_or (pt_cmpR op_ne (pe_callB call_isi (by rfl) B.isinstance (by decide +kernel) (pa_cons (pv 1) (pa_cons (pe_bltn (v := .ty "tuple") (by rfl) B.tuple (by decide +kernel) rfl) pa_nil))) (pe_callB call_isi (by rfl) B.isinstance (by decide +kernel) (pa_cons (pv 0) (pa_cons (pe_bltn (v := .ty "tuple") (by rfl) B.tuple (by decide +kernel) rfl) pa_nil))) (nomark _)) (pw_or1 (pt_cmpR op_ne (pe_callB call_isi (by rfl) B.isinstance (by decide +kernel) (pa_cons (pv 1) (pa_cons (pe_bltn (v := .ty "list") (by rfl) B.list (by decide +kernel) rfl) pa_nil))) (pe_callB call_isi (by rfl) B.isinstance (by decide +kernel) (pa_cons (pv 0) (pa_cons (pe_bltn (v := .ty "list") (by rfl) B.list (by decide +kernel) rfl) pa_nil))) (nomark _))))) (pss_one (ps_ret pe_bl)) pss_nil)
      (pss_cons (ps_if (pt_cmpR op_ne (pe_callB call_len_seq (by rfl) B.len (by decide +kernel) (pa_cons (pv 0) pa_nil)) (pe_callB call_len_seq (by rfl) B.len (by decide +kernel) (pa_cons (pv 1) pa_nil)) (nomark _)) (pss_one (ps_ret pe_bl)) pss_nil)
      (pss_one (ps_ret (pe_callB (cr_all rfl) (by rfl) B.all (by decide +kernel) (pa_cons (pe_lc (own := [("_law_j", 2)]) (g := gName 2) (by rfl) sc_like.nd (pi_range1 (by rfl) B.range (pa_cons (pe_callB call_len_seq (by rfl) B.len (by decide +kernel) (pa_cons (pv 1) pa_nil)) pa_nil)) (blkOk_by (own := [("_law_j", 2)]) (N := N_like) (sc := defScope s_like) (by decide +kernel)) (fun _ _ _ _ _ => (pg_name (i := 2) sc_like.nd rfl (.inl rfl))) (fun _ _ _ _ _ => pts_nil) (fun _ _ _ _ _ => (pe_call G_like (hr.mono (by omega)) (by rfl) D_like.g D_like.F.kp D_like.b .nil pass0 (pa_cons (pe_ix (show IxR _ (rIx K) from ix_seq) (pv 0) (pv 2) (fun _ _ => rfl)) (pa_cons (pe_ix (show IxR _ (rIx K) from ix_seq) (pv 1) (pv 2) (fun _ _ => rfl)) pa_nil))))) pa_nil)))))))))), ?_⟩
    cases ha with
    | non =>
      cases hb
      exact ⟨.non, rfl, rfl, _, rfl, iteT ⟨.non, rfl, rfl, q H (Same.refl H)⟩⟩
    | bl _ x =>
      cases hb
      refine ⟨.bl x, rfl, rfl, _, rfl, isn_no (by intro z; cases z) ?_⟩
      refine ⟨.bl x, rfl, _, _, _, _, true, rfl, ClsV.ty _, TyX.base (TyOf.bl _), kit_ty (by decide +kernel), _, rfl, iteT ?_⟩
      refine ⟨.bl x, rfl, _, _, _, _, true, rfl, ClsV.ty _, TyX.base (TyOf.bl _), kit_ty (by decide +kernel), _, rfl, iteT ?_⟩
      refine ⟨.bl x, rfl, .bl x, rfl, rfl, ?_⟩
      rw [decide_eq_true rfl]
      exact q H (Same.refl H)
    | int _ x =>
      cases hb
      refine ⟨.int x, rfl, rfl, _, rfl, isn_no (by intro z; cases z) ?_⟩
      refine ⟨.int x, rfl, _, _, _, _, false, rfl, ClsV.ty _, TyX.base (TyOf.int _), kit_ty (by decide +kernel), _, rfl, iteF ?_⟩
      refine ⟨.int x, rfl, _, _, _, _, true, rfl, ClsV.ty _, TyX.base (TyOf.int _), kit_ty (by decide +kernel), _, rfl, iteT ?_⟩
      refine ⟨.int x, rfl, _, _, _, _, true, rfl, ClsV.ty _, TyX.base (TyOf.int _), kit_ty (by decide +kernel), _, rfl, iteT ?_⟩
      refine ⟨.int x, rfl, _, _, _, _, false, rfl, ClsV.ty _, TyX.base (TyOf.int _), kit_ty (by decide +kernel), _, rfl, _, rfl, iteT ?_⟩
      refine ⟨.int x, rfl, .int x, rfl, rfl, ?_⟩
      rw [decide_eq_true rfl]
      exact q H (Same.refl H)
    | str _ x =>
      cases hb
      refine ⟨.str x, rfl, rfl, _, rfl, isn_no (by intro z; cases z) ?_⟩
      refine ⟨.str x, rfl, _, _, _, _, false, rfl, ClsV.ty _, TyX.base (TyOf.str _), kit_ty (by decide +kernel), _, rfl, iteF ?_⟩
      refine ⟨.str x, rfl, _, _, _, _, false, rfl, ClsV.ty _, TyX.base (TyOf.str _), kit_ty (by decide +kernel), _, rfl, iteF ?_⟩
      refine ⟨.str x, rfl, _, _, _, _, true, rfl, ClsV.ty _, TyX.base (TyOf.str _), kit_ty (by decide +kernel), _, rfl, iteT ?_⟩
      refine ⟨.str x, rfl, _, _, _, _, true, rfl, ClsV.ty _, TyX.base (TyOf.str _), kit_ty (by decide +kernel), _, rfl, iteT ?_⟩
      refine ⟨.str x, rfl, .str x, rfl, rfl, ?_⟩
      rw [decide_eq_true rfl]
      exact q H (Same.refl H)
    | @lst m p xs ds hp lp rp =>
      cases hb with
      | @lst _ r ys _ hq lq rq =>
      have lx : xs.length = ds.length := rp.length
      have ly : ys.length = ds.length := rq.length
      refine ⟨.ref r, rfl, rfl, _, rfl, isn_no (by intro z; cases z) ?_⟩
      refine ⟨.ref r, rfl, _, _, _, _, false, rfl, ClsV.ty _, TyX.base (TyOf.lst hq), kit_ty (by decide +kernel), _, rfl, iteF ?_⟩
      refine ⟨.ref r, rfl, _, _, _, _, false, rfl, ClsV.ty _, TyX.base (TyOf.lst hq), kit_ty (by decide +kernel), _, rfl, iteF ?_⟩
      refine ⟨.ref r, rfl, _, _, _, _, false, rfl, ClsV.ty _, TyX.base (TyOf.lst hq), kit_ty (by decide +kernel), _, rfl, iteF ?_⟩
      refine ⟨.ref r, rfl, _, _, _, _, false, rfl, ClsV.ty _, TyX.base (TyOf.lst hq), kit_ty (by decide +kernel), .ref p, rfl, _, _, _, _, false, rfl, ClsV.ty _, TyX.base (TyOf.lst hp), kit_ty (by decide +kernel), rfl, _, rfl, iteNS rfl ?_⟩
      refine ⟨.ref r, rfl, _, _, _, _, true, rfl, ClsV.ty _, TyX.base (TyOf.lst hq), kit_ty (by decide +kernel), .ref p, rfl, _, _, _, _, true, rfl, ClsV.ty _, TyX.base (TyOf.lst hp), kit_ty (by decide +kernel), rfl, _, rfl, iteNS rfl ?_⟩
      refine ⟨.ref p, rfl, p, xs, rfl, .inl (SqL.of hp), .ref r, rfl, r, ys, rfl, .inl (SqL.of hq), rfl, _, rfl, iteNS (by rw [lx, ly]) ?_⟩
      refine ⟨.ref r, rfl, r, ys, rfl, .inl (SqL.of hq), _, rfl, (by have := lq; omega), (by have := lq; omega), fun D hD => lc_range (lo := 0) (n := ((ys.length : Int)).toNat) (fun i H2 => ∃ bs : List Bool, Same H H2 ∧ H2 D = some (.lst (bs.map V.bl)) ∧ bs.length = i ∧ bs.all id = true) ⟨[], same_upd hD, upd_same, rfl, rfl⟩ ?_ ?_⟩
      · rintro i H2 hi ⟨bs, sm, hDl, rfl, hal⟩
        have hi' : bs.length < ds.length := by omega
        obtain ⟨v1, d1, e1, e2, r1⟩ := rp.get bs.length hi'
        obtain ⟨v2, d2, e3, e4, r2⟩ := rq.get bs.length hi'
        have ed : d2 = d1 := Option.some.inj (e4.symm.trans e2)
        subst ed
        refine ⟨rfl, ?_⟩
        refine ⟨.ref p, rfl, .int (0 + (bs.length : Int)), rfl, .inl ⟨p, xs, _, v1, rfl, rfl, SqL.of (sm _ _ hp), at_of (by omega) e1, .ref r, rfl, .int (0 + (bs.length : Int)), rfl, .inl ⟨r, ys, _, v2, rfl, rfl, SqL.of (sm _ _ hq), at_of (by omega) e3, ?_⟩⟩⟩
        refine hR m rfl _ _ _ _ ⟨v1, v2, d2, rfl, r1.same sm, r2.same sm, fun H3 s3 => ?_⟩
        refine ⟨bs.map V.bl, s3 _ _ hDl, sz_lt (by rw [List.length_map]; omega), bs ++ [true], fun b o e => ?_, ?_, by rw [List.length_append]; rfl, by rw [List.all_append, hal]; rfl⟩
        · rw [upd_ne (ne_of_none e hD)]
          exact s3 _ _ (sm _ _ e)
        · rw [upd_same, List.map_append]
          rfl
      · rintro H2 ⟨bs, sm, hDl, _, hal⟩
        refine ⟨D, bs, rfl, SqL.of hDl, ?_⟩
        rw [hal]
        exact q H2 sm
    | @tup m p xs ds hp lp rp =>
      cases hb with
      | @tup _ r ys _ hq lq rq =>
      have lx : xs.length = ds.length := rp.length
      have ly : ys.length = ds.length := rq.length
      refine ⟨.ref r, rfl, rfl, _, rfl, isn_no (by intro z; cases z) ?_⟩
      refine ⟨.ref r, rfl, _, _, _, _, false, rfl, ClsV.ty _, TyX.base (TyOf.tup hq), kit_ty (by decide +kernel), _, rfl, iteF ?_⟩
      refine ⟨.ref r, rfl, _, _, _, _, false, rfl, ClsV.ty _, TyX.base (TyOf.tup hq), kit_ty (by decide +kernel), _, rfl, iteF ?_⟩
      refine ⟨.ref r, rfl, _, _, _, _, false, rfl, ClsV.ty _, TyX.base (TyOf.tup hq), kit_ty (by decide +kernel), _, rfl, iteF ?_⟩
      refine ⟨.ref r, rfl, _, _, _, _, true, rfl, ClsV.ty _, TyX.base (TyOf.tup hq), kit_ty (by decide +kernel), .ref p, rfl, _, _, _, _, true, rfl, ClsV.ty _, TyX.base (TyOf.tup hp), kit_ty (by decide +kernel), rfl, _, rfl, iteNS rfl ?_⟩
      refine ⟨.ref r, rfl, _, _, _, _, false, rfl, ClsV.ty _, TyX.base (TyOf.tup hq), kit_ty (by decide +kernel), .ref p, rfl, _, _, _, _, false, rfl, ClsV.ty _, TyX.base (TyOf.tup hp), kit_ty (by decide +kernel), rfl, _, rfl, iteNS rfl ?_⟩
      refine ⟨.ref p, rfl, p, xs, rfl, .inr (SqT.of hp), .ref r, rfl, r, ys, rfl, .inr (SqT.of hq), rfl, _, rfl, iteNS (by rw [lx, ly]) ?_⟩
      refine ⟨.ref r, rfl, r, ys, rfl, .inr (SqT.of hq), _, rfl, (by have := lq; omega), (by have := lq; omega), fun D hD => lc_range (lo := 0) (n := ((ys.length : Int)).toNat) (fun i H2 => ∃ bs : List Bool, Same H H2 ∧ H2 D = some (.lst (bs.map V.bl)) ∧ bs.length = i ∧ bs.all id = true) ⟨[], same_upd hD, upd_same, rfl, rfl⟩ ?_ ?_⟩
      · rintro i H2 hi ⟨bs, sm, hDl, rfl, hal⟩
        have hi' : bs.length < ds.length := by omega
        obtain ⟨v1, d1, e1, e2, r1⟩ := rp.get bs.length hi'
        obtain ⟨v2, d2, e3, e4, r2⟩ := rq.get bs.length hi'
        have ed : d2 = d1 := Option.some.inj (e4.symm.trans e2)
        subst ed
        refine ⟨rfl, ?_⟩
        refine ⟨.ref p, rfl, .int (0 + (bs.length : Int)), rfl, .inr <| .inl ⟨p, xs, _, v1, rfl, rfl, SqT.of (sm _ _ hp), at_of (by omega) e1, .ref r, rfl, .int (0 + (bs.length : Int)), rfl, .inr <| .inl ⟨r, ys, _, v2, rfl, rfl, SqT.of (sm _ _ hq), at_of (by omega) e3, ?_⟩⟩⟩
        refine hR m rfl _ _ _ _ ⟨v1, v2, d2, rfl, r1.same sm, r2.same sm, fun H3 s3 => ?_⟩
        refine ⟨bs.map V.bl, s3 _ _ hDl, sz_lt (by rw [List.length_map]; omega), bs ++ [true], fun b o e => ?_, ?_, by rw [List.length_append]; rfl, by rw [List.all_append, hal]; rfl⟩
        · rw [upd_ne (ne_of_none e hD)]
          exact s3 _ _ (sm _ _ e)
        · rw [upd_same, List.map_append]
          rfl
      · rintro H2 ⟨bs, sm, hDl, _, hal⟩
        refine ⟨D, bs, rfl, SqL.of hDl, ?_⟩
        rw [hal]
        exact q H2 sm
theorem ok_like {f : Addr} {fd : FuncData} (D : DefAt K mg "_law_like" s_like P_like f fd) (B : Bn mg) : ∀ n : Nat, FnOk P w K mg base CX0 (n + 1) f fd P_like (spLike n)
  | 0 => like_step D B ok_bot fun m e => absurd e (by omega)
  | n + 1 => like_step D B (ok_like D B n) fun m e vs H Q E h => by
    have e : m = n := by omega
    subst e
    exact h
end

/-! ### holds, part -/
def tup4 (o p m f : Int) : HO := .tup [.int o, .int p, .int m, .int f]
abbrev s_holds : Stmt := top 36
abbrev N_holds : List Str := ["mating", "at", "many"]
abbrev P_holds : List Str := ["mating", "at", "many"]
theorem sc_holds : FnScope N_holds P_holds (defScope s_holds) := ⟨rfl, rfl, rfl, by decide +kernel, rfl, by decide +kernel, by decide +kernel⟩
def spHolds : Sp := fun vs H Q _ => ∃ (t : Addr) (o p m f : Int) (x y : V), vs = [.ref t, x, y] ∧ H t = some (tup4 o p m f) ∧
  ((∃ b, x = .bl b ∧ Q (.bl false) H) ∨ (∃ i b, x = .int i ∧ y = .bl b ∧ Q (.bl false) H) ∨ ∃ i k, x = .int i ∧ y = .int k ∧ Q (.bl (decide (1 ≤ k ∧ o ≤ i ∧ i + k ≤ o + m))) H)
theorem at4_0 {a b c d : V} : atI [a, b, c, d] 0 = some a := atI_nat (j := 0) rfl
theorem at4_1 {a b c d : V} : atI [a, b, c, d] 1 = some b := atI_nat (j := 1) rfl
theorem at4_2 {a b c d : V} : atI [a, b, c, d] 2 = some c := atI_nat (j := 2) rfl
theorem at4_3 {a b c d : V} : atI [a, b, c, d] 3 = some d := atI_nat (j := 3) rfl
section
variable {P : Program} {w : World} {K : PySem.W.Frag} {mg : Str → Option Value} {base : Heap}
theorem ok_holds {f : Addr} {fd : FuncData} (D : DefAt K mg "holds" s_holds P_holds f fd) (B : Bn mg) : FnOk P w K mg base CX0 1 f fd P_holds spHolds := by
  refine D.F.ok sc_holds (fun vs H Q E h => ?_) (fun cdv A outer s H vs Q E hr h => ?_)
  · obtain ⟨t, o, p, m, f, x, y, rfl, _⟩ := h
    rfl
  · obtain ⟨t, o, p, m, f, x, y, rfl, ht, h⟩ := h
    refine ⟨_, (pss_cons (ps_if (PW.pt (pw_or (pt_val (pe_callB call_isi (by rfl) B.isinstance (by decide +kernel) (pa_cons (pv 1) (pa_cons (pe_bltn (v := .ty "bool") (by rfl) B.bool (by decide +kernel) rfl) pa_nil)))) (pw_or (pt_val (pe_callB call_isi (by rfl) B.isinstance (by decide +kernel) (pa_cons (pv 2) (pa_cons (pe_bltn (v := .ty "bool") (by rfl) B.bool (by decide +kernel) rfl) pa_nil)))) (pw_or1 (pt_cmpR op_lt (pv 2) pe_int (nomark _)))))) (pss_one (ps_ret pe_bl)) pss_nil)
      (pss_one (ps_ret (pe_and (pe_cmpR op_le (pe_ix ix_tup (pv 0) pe_int (fun _ _ => rfl)) (pv 1) (nomark _)) (pe_one (pe_cmpR op_le (pe_op op_add (pv 1) (pv 2)) (pe_op op_add (pe_ix ix_tup (pv 0) pe_int (fun _ _ => rfl)) (pe_ix ix_tup (pv 0) pe_int (fun _ _ => rfl))) (nomark _))))))), ?_⟩
    rcases h with ⟨b, rfl, q⟩ | ⟨i, b, rfl, rfl, q⟩ | ⟨i, k, rfl, rfl, q⟩
    · exact ⟨.bl b, rfl, _, _, _, _, true, rfl, ClsV.ty _, TyX.base (TyOf.bl _), kit_ty (by decide +kernel), _, rfl, q⟩
    · refine ⟨.int i, rfl, _, _, _, _, false, rfl, ClsV.ty _, TyX.base (TyOf.int _), kit_ty (by decide +kernel), _, rfl, ?_⟩
      exact ⟨.bl b, rfl, _, _, _, _, true, rfl, ClsV.ty _, TyX.base (TyOf.bl _), kit_ty (by decide +kernel), _, rfl, q⟩
    · refine ⟨.int i, rfl, _, _, _, _, false, rfl, ClsV.ty _, TyX.base (TyOf.int _), kit_ty (by decide +kernel), _, rfl, ?_⟩
      refine ⟨.int k, rfl, _, _, _, _, false, rfl, ClsV.ty _, TyX.base (TyOf.int _), kit_ty (by decide +kernel), _, rfl, ?_⟩
      refine ⟨.int k, rfl, k, 1, rfl, rfl, _, rfl, ?_⟩
      refine ite2 (fun hk => ?_) (fun hk => ?_)
      · have hk' : k < 1 := of_decide_eq_true hk
        have e : decide (1 ≤ k ∧ o ≤ i ∧ i + k ≤ o + m) = false := decide_eq_false (by omega)
        rw [e] at q
        exact q
      · have hk' : ¬ k < 1 := fun z => hk (decide_eq_true z)
        refine ⟨.ref t, rfl, t, _, 0, .int o, rfl, rfl, SqT.of ht, at4_0, .int i, rfl, o, i, rfl, rfl, _, rfl, ?_⟩
        refine ite2 (fun h1 => ?_) (fun h1 => ?_)
        · have h1' : o ≤ i := of_decide_eq_true h1
          refine ⟨.int i, rfl, .int k, rfl, i, k, rfl, rfl, .ref t, rfl, t, _, 0, .int o, rfl, rfl, SqT.of ht, at4_0, .ref t, rfl, t, _, 2, .int m, rfl, rfl, SqT.of ht, at4_2, o, m, rfl, rfl, _, _, rfl, rfl, ?_⟩
          have e : decide (1 ≤ k ∧ o ≤ i ∧ i + k ≤ o + m) = decide (i + k ≤ o + m) := decide_eq_decide.mpr ⟨fun z => z.2.2, fun z => ⟨by omega, h1', z⟩⟩
          rw [e] at q
          exact q
        · have h1' : ¬ o ≤ i := fun z => h1 (decide_eq_true z)
          have e : decide (1 ≤ k ∧ o ≤ i ∧ i + k ≤ o + m) = false := decide_eq_false (by omega)
          rw [e] at q
          exact q
end
abbrev s_part : Stmt := top 35
abbrev N_part : List Str := ["mating", "at", "many", "one", "other", "reach", "turned", "ahead"]
abbrev P_part : List Str := ["mating", "at", "many"]
theorem sc_part : FnScope N_part P_part (defScope s_part) := ⟨rfl, rfl, rfl, by decide +kernel, rfl, by decide +kernel, by decide +kernel⟩
def partP (o p m f i k : Int) : Int := if f = 1 then p + m - (i - o) - k else p + (i - o)
def spPart : Sp := fun vs H Q _ => ∃ (t : Addr) (o p m f i k : Int), vs = [.ref t, .int i, .int k] ∧ H t = some (tup4 o p m f) ∧ (f = 0 ∨ f = 1) ∧ 1 ≤ k ∧ o ≤ i ∧ i + k ≤ o + m ∧
  ∀ r, H r = none → Q (.ref r) (upd H r (tup4 i (partP o p m f i k) k f))
section
variable {P : Program} {w : World} {K : PySem.W.Frag} {mg : Str → Option Value} {base : Heap}
theorem ok_part {f fH : Addr} {fd fdH : FuncData} (D : DefAt K mg "part" s_part P_part f fd) (D_holds : DefAt K mg "holds" s_holds P_holds fH fdH) (B : Bn mg) : FnOk P w K mg base CX0 2 f fd P_part spPart := by
  have G_holds : FnOk P w K mg base CX0 1 fH fdH P_holds spHolds := ok_holds D_holds B
  refine D.F.ok sc_part (fun vs H Q E h => ?_) (fun cdv A outer s H vs Q E hr h => ?_)
  · obtain ⟨t, o, p, m, f, i, k, rfl, _⟩ := h
    rfl
  · obtain ⟨t, o, p, m, f, i, k, rfl, ht, hf, h1, h2, h3, q⟩ := h
    refine ⟨_, (pss_cons (ps_if (pt_not (pt_val (pe_call G_holds (hr.mono (by omega)) (by rfl) D_holds.g D_holds.F.kp D_holds.b .nil pass0 (pa_cons (pv 0) (pa_cons (pv 1) (pa_cons (pv 2) pa_nil)))))) (pss_one ps_never) pss_nil)
      (pss_cons (ps_asg (pv 0) (pg_tup (by rfl) (pgs_cons (pg_name (i := 3) sc_part.nd rfl (.inl rfl)) (pgs_cons (pg_name (i := 4) sc_part.nd rfl (.inl rfl)) (pgs_cons (pg_name (i := 5) sc_part.nd rfl (.inl rfl)) (pgs_cons (pg_name (i := 6) sc_part.nd rfl (.inl rfl)) pgs_nil))))))
      (pss_cons (ps_set (i := 7) sc_part.nd rfl (.inl rfl) (pe_op op_sub (pv 1) (pv 3)))
      (pss_cons (ps_if (pt_cmpR op_eq (pv 6) pe_int (nomark _)) (pss_one (ps_ret (pe_tup (pa_cons (pv 1) (pa_cons (pe_op op_sub (pe_op op_sub (pe_op op_add (pv 4) (pv 5)) (pv 7)) (pv 2)) (pa_cons (pv 2) (pa_cons pe_int pa_nil))))))) pss_nil)
      (pss_one (ps_ret (pe_tup (pa_cons (pv 1) (pa_cons (pe_op op_add (pv 4) (pv 7)) (pa_cons (pv 2) (pa_cons pe_int pa_nil))))))))))), ?_⟩
    refine ⟨.ref t, rfl, .int i, rfl, .int k, rfl, t, o, p, m, f, .int i, .int k, rfl, ht, .inr (.inr ⟨i, k, rfl, rfl, ?_⟩)⟩
    rw [decide_eq_true (show 1 ≤ k ∧ o ≤ i ∧ i + k ≤ o + m from ⟨h1, h2, h3⟩)]
    refine ⟨true, rfl, iteF ?_⟩
    refine ⟨.ref t, rfl, t, _, rfl, SqT.of ht, rfl, .int o, _, rfl, .int p, _, rfl, .int m, _, rfl, .int f, _, rfl, rfl, ?_⟩
    refine ⟨.int i, rfl, .int o, rfl, i, o, rfl, rfl, ?_⟩
    refine ⟨.int f, rfl, rfl, _, rfl, ?_⟩
    rcases hf with rfl | rfl
    · rw [decide_eq_false (show ¬ (V.int 0 = V.int 1) from fun z => by cases z)]
      refine iteF ?_
      refine ⟨.int i, rfl, .int p, rfl, .int (i - o), rfl, p, i - o, rfl, rfl, .int k, rfl, by show 4 ≤ sizeLine; decide, fun r hr' => ?_⟩
      exact q r hr'
    · rw [decide_eq_true (show (V.int 1 = V.int 1) from rfl)]
      refine iteT ?_
      refine ⟨.int i, rfl, .int p, rfl, .int m, rfl, p, m, rfl, rfl, .int (i - o), rfl, _, _, rfl, rfl, .int k, rfl, _, _, rfl, rfl, .int k, rfl, by show 4 ≤ sizeLine; decide, fun r hr' => ?_⟩
      exact q r hr'
end

/-! ### back -/
abbrev s_back : Stmt := top 34
abbrev N_back : List Str := ["mating", "one", "other", "many", "turned"]
abbrev P_back : List Str := ["mating"]
theorem sc_back : FnScope N_back P_back (defScope s_back) := ⟨rfl, rfl, rfl, by decide +kernel, rfl, by decide +kernel, by decide +kernel⟩
def spBack : Sp := fun vs H Q _ => ∃ (t : Addr) (o p m f : Int), vs = [.ref t] ∧ H t = some (tup4 o p m f) ∧ ∀ r, H r = none → Q (.ref r) (upd H r (tup4 p o m f))
section
variable {P : Program} {w : World} {K : PySem.W.Frag} {mg : Str → Option Value} {base : Heap}
theorem ok_back {f : Addr} {fd : FuncData} (D : DefAt K mg "back" s_back P_back f fd) : FnOk P w K mg base CX0 1 f fd P_back spBack := by
  refine D.F.ok sc_back (fun vs H Q E h => ?_) (fun cdv A outer s H vs Q E hr h => ?_)
  · obtain ⟨t, o, p, m, f, rfl, _⟩ := h
    rfl
  · obtain ⟨t, o, p, m, f, rfl, ht, q⟩ := h
    refine ⟨_, (pss_cons (ps_asg (pv 0) (pg_tup (by rfl) (pgs_cons (pg_name (i := 1) sc_back.nd rfl (.inl rfl)) (pgs_cons (pg_name (i := 2) sc_back.nd rfl (.inl rfl)) (pgs_cons (pg_name (i := 3) sc_back.nd rfl (.inl rfl)) (pgs_cons (pg_name (i := 4) sc_back.nd rfl (.inl rfl)) pgs_nil))))))
      (pss_one (ps_ret (pe_tup (pa_cons (pv 2) (pa_cons (pv 1) (pa_cons (pv 3) (pa_cons (pv 4) pa_nil)))))))), ?_⟩
    refine ⟨.ref t, rfl, t, _, rfl, SqT.of ht, rfl, .int o, _, rfl, .int p, _, rfl, .int m, _, rfl, .int f, _, rfl, rfl, ?_⟩
    exact ⟨.int p, rfl, .int o, rfl, .int m, rfl, .int f, rfl, by show 4 ≤ sizeLine; decide, fun r hr' => q r hr'⟩
end

/-! ### normal -/
abbrev s_normal : Stmt := top 33
abbrev N_normal : List Str := ["mating"]
abbrev P_normal : List Str := ["mating"]
theorem sc_normal : FnScope N_normal P_normal (defScope s_normal) := ⟨rfl, rfl, rfl, by decide +kernel, rfl, by decide +kernel, by decide +kernel⟩
def spNormal : Sp := fun vs H Q _ => ∃ (t : Addr) (o p m f : Int), vs = [.ref t] ∧ H t = some (tup4 o p m f) ∧ ∀ r H', Same H H' → H' r = some (tup4 (if p < o then p else o) (if p < o then o else p) m f) → Q (.ref r) H'
section
variable {P : Program} {w : World} {K : PySem.W.Frag} {mg : Str → Option Value} {base : Heap}
theorem ok_normal {f fB : Addr} {fd fdB : FuncData} (D : DefAt K mg "normal" s_normal P_normal f fd) (D_back : DefAt K mg "back" s_back P_back fB fdB) : FnOk P w K mg base CX0 2 f fd P_normal spNormal := by
  have G_back : FnOk P w K mg base CX0 1 fB fdB P_back spBack := ok_back D_back
  refine D.F.ok sc_normal (fun vs H Q E h => ?_) (fun cdv A outer s H vs Q E hr h => ?_)
  · obtain ⟨t, o, p, m, f, rfl, _⟩ := h
    rfl
  · obtain ⟨t, o, p, m, f, rfl, ht, q⟩ := h
    refine ⟨_, (pss_cons (ps_if (pt_cmpR op_gt (pe_ix ix_tup (pv 0) pe_int (fun _ _ => rfl)) (pe_ix ix_tup (pv 0) pe_int (fun _ _ => rfl)) (nomark _)) (pss_one (ps_ret (pe_call G_back (hr.mono (by omega)) (by rfl) D_back.g D_back.F.kp D_back.b .nil pass0 (pa_cons (pv 0) pa_nil)))) pss_nil)
      (pss_one (ps_ret (pv 0)))), ?_⟩
    refine ⟨.ref t, rfl, t, _, 0, .int o, rfl, rfl, SqT.of ht, at4_0, .ref t, rfl, t, _, 1, .int p, rfl, rfl, SqT.of ht, at4_1, o, p, rfl, rfl, _, rfl, ?_⟩
    refine ite2 (fun hg => ?_) (fun hg => ?_)
    · have hg' : p < o := of_decide_eq_true hg
      rw [if_pos hg', if_pos hg'] at q
      exact ⟨.ref t, rfl, t, o, p, m, f, rfl, ht, fun r hr' => q r _ (same_upd hr') upd_same⟩
    · have hg' : ¬ p < o := fun z => hg (decide_eq_true z)
      rw [if_neg hg', if_neg hg'] at q
      exact ⟨.ref t, rfl, q t H (Same.refl H) ht⟩
end

/-! ### common -/
abbrev s_common : Stmt := top 32
abbrev N_common : List Str := ["one", "other"]
abbrev P_common : List Str := ["one", "other"]
theorem sc_common : FnScope N_common P_common (defScope s_common) := ⟨rfl, rfl, rfl, by decide +kernel, rfl, by decide +kernel, by decide +kernel⟩
def spCommon : Sp := fun vs H Q _ => ∃ a b : Nat, vs = [.int a, .int b] ∧ Q (.int (Nat.gcd a b)) H
theorem gcd_turn (x y : Nat) : Nat.gcd y (x % y) = Nat.gcd x y := by
  rw [Nat.gcd_comm y, ← Nat.gcd_rec, Nat.gcd_comm]
section
variable {P : Program} {w : World} {K : PySem.W.Frag} {mg : Str → Option Value} {base : Heap}
theorem ok_common {f : Addr} {fd : FuncData} (D : DefAt K mg "common" s_common P_common f fd) (B : Bn mg) : FnOk P w K mg base CX0 1 f fd P_common spCommon := by
  refine D.F.ok sc_common (fun vs H Q E h => ?_) (fun cdv A outer s H vs Q E hr h => ?_)
  · obtain ⟨a, b, rfl, _⟩ := h
    rfl
  · obtain ⟨a, b, rfl, q⟩ := h
    refine ⟨_, (pss_cons (ps_while PassesOwn.never (pt_cmpR op_ne (pv 1) pe_int (nomark _)) (pss_one (ps_par (i := 0) (j := 1) (by rfl) sc_common.nd rfl rfl (by decide) rfl rfl (pa_cons (pv 1) (pa_cons (pe_op op_mod (pv 0) (pv 1)) pa_nil)) (by rfl))))
      (pss_one (ps_ret (pv 0)))), ?_⟩
    refine ⟨fun m σ H' => ∃ x : Nat, σ = [some (.int x), some (.int (m : Int))] ∧ H' = H ∧ Nat.gcd x m = Nat.gcd a b, ⟨b, a, rfl, rfl, rfl⟩, ?_⟩
    rintro m σ H' ⟨x, rfl, rfl, hg⟩
    refine ⟨_, rfl, rfl, _, rfl, ?_⟩
    by_cases hm : m = 0
    · subst hm
      refine iteNS rfl ?_
      refine ⟨_, rfl, ?_⟩
      rw [Nat.gcd_zero_right] at hg
      rw [hg]
      exact q
    · rw [decide_eq_false (fun z => hm (by have := V.int.inj z; omega))]
      refine ⟨fun σ' H'' => ∃ x' : Nat, σ' = [some (.int x'), some (.int ((x % m : Nat) : Int))] ∧ H'' = H' ∧ Nat.gcd x' (x % m) = Nat.gcd a b, fun σ' H'' h => ⟨x % m, Nat.mod_lt _ (by omega), h⟩, ?_⟩
      refine ⟨_, rfl, _, rfl, _, rfl, _, _, rfl, rfl, (by omega), _, _, rfl, ?_⟩
      exact ⟨m, rfl, rfl, (gcd_turn x m).trans hg⟩
end

/-! ### enumerate(t), t a tuple -/
section
open PySem.Spec PyProof.Rows
theorem meets_enumT {v : Value} {o : Obj} {G : Heap → Prop} (B : Begins v o G) :
    Meets (Builtin.«enumerate.__new__» ⟨[.type "enumerate", v], []⟩) (fun _ R z => G z.heap ∧ R (.ok (.ret (.ref (z.heap.push o).objs.size)))
      { z with heap := (z.heap.push o).push { cls := .type "enumerate", data := .fields #[.none, .bool false, .ref z.heap.objs.size, rawInt 0, .none, .none] } }) :=
  .of_wp fun p w A R z h => by
    obtain ⟨hp, gg, dd, tk, os⟩ := z
    obtain ⟨hG, h⟩ := h
    have hsu := sub_enumerate
    have go : ∀ {A' : Around} {E : Value → Shared → Prop} {Q : Value → Shared → Prop}, Q (.ref hp.objs.size) ⟨hp.push o, gg, dd, tk, os⟩ → wpAny (model p w) A' (pyIter v) Q E ⟨hp, gg, dd, tk, os⟩ := fun q => B.iter p w _ _ ⟨hp, gg, dd, tk, os⟩ _ hG q
    wp_walk using go
    refine wpAny_stack_any fun _ => wpAny_pure ?_
    split
    · rename_i cc _ _ _ _ _
      cases (cc == Value.type "enumerate")
      all_goals
        wp_walk using go
        exact ⟨_, rfl, h⟩
    · wp_walk using go
      exact ⟨_, rfl, h⟩
theorem call_enumT {p : Program} {w : World} {A : Around} {E : Value → Shared → Prop} {z : Shared} {a : Addr} {us : Array Value} {Q : Value → Shared → Prop} (ht : z.heap.IsTuple a us)
    (h : ∀ h', IsEnum h' (z.heap.objs.size + 1) z.heap.objs.size 0 .none → h'.IsTupleIter z.heap.objs.size a 0 → (∀ b o, z.heap.get? b = some o → h'.get? b = some o) → Q (.ref (z.heap.objs.size + 1)) { z with heap := h' }) :
    wpAny (model p w) A (call (.type "enumerate") [.ref a]) Q E z := by
  refine callType_new F.called_enumerate (by decide) (F.typeCall_enumerate_1 _) (F.newCall_enumerate_1 _) (fun ob => F.args_object_init_2 ob _) F.entry_enumerate_new (meets_enumT (begins_tuple a us)) ⟨ht, ?_⟩
  have hs1 : (z.heap.push ({ cls := .type "tuple_iterator", data := .fields #[.ref a, .int 0 0] } : Obj)).objs.size = z.heap.objs.size + 1 := Heap.size_push ..
  show _ ∧ _
  rw [hs1]
  have hen : IsEnum ((z.heap.push ({ cls := .type "tuple_iterator", data := .fields #[.ref a, .int 0 0] } : Obj)).push { cls := .type "enumerate", data := .fields #[.none, .bool false, .ref z.heap.objs.size, rawInt 0, .none, .none] }) (z.heap.objs.size + 1) z.heap.objs.size 0 .none := by
    have q := Heap.get?_push_size (z.heap.push ({ cls := .type "tuple_iterator", data := .fields #[.ref a, .int 0 0] } : Obj)) (o := { cls := .type "enumerate", data := .fields #[.none, .bool false, .ref z.heap.objs.size, rawInt 0, .none, .none] }) rfl
    rw [hs1] at q
    exact q
  exact ⟨⟨_, hen, rfl⟩, h _ hen ⟨_, Heap.get?_push_of_some _ (Heap.get?_push_size _ rfl), rfl, rfl⟩ fun b o x => Heap.get?_push_of_some _ (Heap.get?_push_of_some _ x)⟩
/-- the tuple at a, each item in a new pair -/
def IteT (K : PySem.W.Frag) (a : Addr) : It :=
  ⟨fun i H => ∃ (xs : List V) (x : V), SqT K H a xs ∧ xs[i]? = some x, fun i H v H' => ∃ T x, v = .ref T ∧ H T = none ∧ H' = upd H T (.tup [.int (i : Nat), x]) ∧ ∀ xs, SqT K H a xs → xs[i]? = some x, fun i H => ∃ xs : List V, SqT K H a xs ∧ xs.length = i⟩
theorem turn_enumT {P : Program} {w : World} {K : PySem.W.Frag} {elts : List Expr} {kk : Nat} {tpos : Pos} (a e it : Addr) :
    Turn P w K (.Tuple elts kk tpos) (IteT K a) [e, it] e (fun i h => (∃ old, IsEnum h e it ((i : Nat) : Int) old) ∧ h.IsTupleIter it a i ∧ e ≠ it) where
  mem := List.mem_cons_self
  obj := fun i h st b hb => by
    obtain ⟨⟨old, he⟩, ⟨o, ho, hc, hd⟩, _⟩ := st
    have hb' : b = e ∨ b = it := by simpa using hb
    rcases hb' with q | q
    · rw [q]
      exact ⟨_, he, fun v u => nomatch u⟩
    · rw [q]
      exact ⟨o, ho, fun v u => by rw [hd] at u; cases u⟩
  keep := fun i h h' st k => let ⟨⟨old, he⟩, hi, hn⟩ := st; ⟨⟨old, k e (by simp) _ he⟩, hi.at fun o q => k it (by simp) o q, hn⟩
  item := by
    intro X hP hw hK hc i pins s σ H E I hf st hg
    subst hP hw hK
    obtain ⟨⟨old, he⟩, hit, hne⟩ := st
    obtain ⟨xs, x, hq, hx⟩ := hg
    obtain ⟨its, rv, p, hz⟩ := I.tuple hq
    obtain ⟨u, hu, ru⟩ := rv.get hx
    have pT : s.heap.IsTuple a its.toArray := p
    have hel : e < s.heap.objs.size := Heap.lt_size he
    have hil : it < s.heap.objs.size := by obtain ⟨_, q, _⟩ := hit; exact Heap.lt_size q
    have hai : a ≠ it := fun q => by
      obtain ⟨o1, g1, c1, d1⟩ := hit
      obtain ⟨o2, g2, c2, _⟩ := pT
      rw [q, g1] at g2
      have e2 := Option.some.inj g2
      rw [← e2, c1] at c2
      exact absurd (Value.type.inj c2) (by decide)
    have hae : e ≠ a := fun q => by
      obtain ⟨o2, g2, c2, _⟩ := pT
      have g1 := he
      rw [q] at g1
      have e2 := Option.some.inj (g1.symm.trans g2)
      rw [← e2] at c2
      exact absurd (Value.type.inj c2) (by decide)
    have hi : i < its.toArray.size := by
      have q := List.getElem?_eq_some_iff.mp hu
      simpa using q.1
    have D := Draws.tuple (prog := X.prog) (w := X.w) (A := X.A.in1) (I.ok.hd hc) it a hai its.toArray
    refine wpAny_pyNext_enum_itemD D he ⟨hit, pT⟩ hi hne (by simp [hne, hae]) fun u' h' tk hu' ho hit' hT hsz hk => ?_
    have eu : u' = u := by
      have q : its.toArray[i]? = some u := by simpa using hu
      rw [q] at hu'
      exact (Option.some.inj hu').symm
    subst eu
    refine ⟨_, rfl, wpAny_letOwnedTupleGo_enum (s := { s with heap := h', toks := tk + 1 }) ho fun h'' he' sb => ?_⟩
    have hT2 : h''.get? s.heap.objs.size = some { cls := .type "tuple", data := .seq #[.int i tk, u'] } := (sb.2 _ (Nat.ne_of_gt hel)).trans hT
    have new : ObjOk X.prog X.w (upd H s.heap.objs.size (.tup [.int (i : Nat), x])) h'' s.heap.objs.size (.tup [.int (i : Nat), x]) := ⟨by show 2 ≤ sizeLine; decide, [.int i tk, u'], .cons ⟨_, rfl⟩ (.cons ru .nil), ⟨_, hT2, rfl, _, rfl⟩⟩
    have I1 : Inv X pins σ (upd H s.heap.objs.size (.tup [.int (i : Nat), x])) { s with heap := h'', toks := tk + 1 } :=
      I.turnedNew (ch := [e, it]) (fun b ob hb q => (sb.2 b (fun y => hb (by simp [y]))).trans (hk b ob (fun y => hb (by simp [y])) (fun y => hb (by simp [y])) q)) hf (Nat.le_refl _) new
    refine ⟨.ref s.heap.objs.size, _, I1, rfl, ⟨_, x, rfl, I.hok.fresh (Nat.le_refl _), rfl, fun ys hy => by rw [I.tuple_inj hy hq]; exact hx⟩, ⟨⟨u', ?_⟩, hit'.1.at fun o q => (sb.2 it (Ne.symm hne)).trans q, hne⟩, fun b hb => ?_⟩
    · rw [show ((i + 1 : Nat) : Int) = (i : Int) + 1 by omega]
      exact he'
    · have hb' : b < s.heap.objs.size := by
        have q : b = e ∨ b = it := by simpa using hb
        rcases q with q | q
        · rw [q]
          exact hel
        · rw [q]
          exact hil
      rw [upd_ne (Nat.ne_of_lt hb')]
      exact (hf b hb).1
  done := by
    intro X hP hw hK hc i pins s σ H E I hf st hg
    subst hP hw hK
    obtain ⟨⟨old, he⟩, hit, hne⟩ := st
    obtain ⟨xs, hq, hx⟩ := hg
    obtain ⟨its, rv, p, hz⟩ := I.tuple hq
    have pT : s.heap.IsTuple a its.toArray := p
    obtain ⟨f0, f1, f2, f3, f4, f5⟩ := hf it (by simp)
    have hl := rv.length
    have hai : a ≠ it := fun q => by
      obtain ⟨o1, g1, c1, d1⟩ := hit
      obtain ⟨o2, g2, c2, _⟩ := pT
      rw [q, g1] at g2
      have e2 := Option.some.inj g2
      rw [← e2, c1] at c2
      exact absurd (Value.type.inj c2) (by decide)
    have D := Draws.tuple (prog := X.prog) (w := X.w) (A := X.A.in1) (I.ok.hd hc) it a hai its.toArray
    have en : i = its.toArray.size := by simp; omega
    exact wpAny_pyNext_enum_endD D he (en ▸ ⟨hit, pT⟩) fun h' eb => ⟨rfl, I.turned (t' := s.toks) (fun b o hb q => eb b o hb q) f0 f1 f3 f4 f5⟩
  self := fun A i s Q E st h => let ⟨⟨_, he⟩, _⟩ := st; wpAny_pyIter_enum he h
def iEnumT (K : PySem.W.Frag) (ta : TA) : TI := fun σ H R => ta σ H fun vs H1 => ∃ a xs, vs = [.ref a] ∧ SqT K H1 a xs ∧ R (IteT K a) H1
theorem pi_enumT {X : Cx} {e : Expr} {ta : TA} {p pos tpos : Pos} {elts : List Expr} {kk : Nat} (hg : Gl X "enumerate") (hm : X.mg "enumerate" = none) (ha : PA X [e] ta) (hs : starEach [e] X.env = [(false, eval e X.env)] := by rfl) :
    PI X (.Tuple elts kk tpos) (.Call (.Name "enumerate" p) [e] [] pos) (iEnumT X.K ta) := by
  refine ⟨fun pins s σ H R I h => ?_⟩
  refine Call_ (ld_blt I hg hm boot_enumerate (PyProof.Rows.callWith_type1 (thn (ha.run pos pins s σ H _ I h) fun us s1 ⟨vs, H1, I1, r1, a, xs, ex, hq, q⟩ => ?_) hs rfl))
  subst ex
  cases r1 with
  | cons r rr =>
    cases rr
    cases r
    obtain ⟨its, rv, p', hz⟩ := I1.tuple hq
    refine call_enumT (show s1.heap.IsTuple a its.toArray from p') fun h' he hit hk => wpAny_pyIter_enum he ?_
    have I2 : Inv X pins σ H1 { s1 with heap := h' } := I1.kept (t' := s1.toks) hk
    refine ⟨s1.heap.objs.size + 1, [s1.heap.objs.size + 1, s1.heap.objs.size], _, _, H1, rfl, I2, turn_enumT a (s1.heap.objs.size + 1) s1.heap.objs.size, ⟨⟨.none, he⟩, hit, Nat.succ_ne_self _⟩, fun b hb => ?_, q⟩
    have hle : s1.heap.objs.size ≤ b := by
      have q' : b = s1.heap.objs.size + 1 ∨ b = s1.heap.objs.size := by simpa using hb
      rcases q' with z | z
      · rw [z]
        exact Nat.le_add_right _ 1
      · rw [z]
        exact Nat.le_refl _
    exact I1.fpOk hle (I1.hok.fresh hle)
end

/-! ### rules of my own: a value in an f-string, a def read off its class -/
section
open PySem.Spec PyProof.Rows
variable {X : Cx}
def tFmtV (te : TE) : TE := fun σ H Q => te σ H fun x H1 => (∃ i : Int, x = .int i ∧ i.natAbs.log2 < 1920 ∧ Q (.str (toString i)) H1) ∨ (∃ b : Bool, x = .bl b ∧ Q (.str (if b then "True" else "False")) H1)
theorem pe_fmtV {e : Expr} {te : TE} {pos : Pos} (he : PE X e te) : PE X (.FormattedValue e (-1) none pos) (tFmtV te) := by
  refine ⟨fun pins s σ H Q I h => ?_⟩
  refine wpAny_FormattedValue_plain (thn (he.run pins s σ H _ I h) fun v s1 hv => ?_)
  obtain ⟨x, H1, I1, r1, q⟩ := hv
  rcases q with ⟨i, rfl, hz, q⟩ | ⟨b, rfl, q⟩
  · obtain ⟨t, rfl⟩ := r1
    exact wpAny_formatField_int hz ⟨.str (toString i), H1, I1.tok _, ⟨_, rfl⟩, q⟩
  · cases (show v = Value.bool b from r1)
    exact wpAny_formatField_bool ⟨.str (if b then "True" else "False"), H1, I1.tok _, ⟨_, rfl⟩, q⟩
/-- what the written part says of a class's own def, read off the class -/
structure ClsFn (K : PySem.W.Frag) (C : Addr) (m : Str) (f : Addr) : Prop where
  sp : PySem.W.specialIn K (.ref C) "__getattribute__" = some (some (.builtin "type.__getattribute__"))
  rd : PySem.W.readsIn K C (.type "type") = true
  fc : PySem.W.findCls K (.ref C) (.type "type") m = some (.val (.ref f))
  kp : PySem.W.keepIn K (.ref f) = true
theorem pe_clsfn {CX : CXT} {k : Nat} {f C : Addr} {fd : FuncData} {ps : List Str} {sp : Sp} {E : XK} {x m : Str} {p1 p2 pos : Pos} {e : Expr} {es : List Expr} {t : TA} {pl : Sem Bool} (hg : Gl X x) (hm : X.mg x = some (.ref C)) (T : ClsFn X.K C m f)
    (F : FnOk X.prog X.w X.K X.mg X.base CX k f fd ps sp) (hr : Room k X.A) (hb : Binds X.K fd ps []) (hx : Passes CX X E) (ha : PA X (e :: es) t)
    (hc : eval (.Call (.Attribute (.Name x p1) m p2) (e :: es) [] pos) X.env = (do
      let ov ← eval (.Name x p1) X.env
      standAt p2.atName
      let (f, first) ← holding [ov] (getMethod ov m pl)
      callWith pos f first (backTo pos (starEach (e :: es) X.env)) (backToKw pos (keywordEach [] X.env))) := by rfl)
    (hdb : (x == ("__debug__" : Str)) = false := by decide) (he : starEach (e :: es) X.env = (false, eval e X.env) :: starEach es X.env := by rfl) (hpl : (backTo pos (starEach es X.env)).any (·.1) = false := by rfl) :
    PE X (.Call (.Attribute (.Name x p1) m p2) (e :: es) [] pos) (tCall sp [] E t) := by
  refine ⟨fun pins s σ H Q I h => ?_⟩
  refine PySem.W.methodCall_KW (ld_glob I hg hm ?_ hdb) hc
  refine PySem.W.method_cls I.kIn T.sp (PySem.W.cls_value I.kIn T.rd T.fc rfl ?_)
  show wpAny _ _ (callWith pos (Value.ref f) [] (backTo pos (starEach (e :: es) X.env)) []) _ _ _
  refine PySem.W.callWith_K (h₀ := X.base) I.ok.mod.kin T.kp (thn (ha.run pos pins _ σ H _ (I.tok _) h) fun us s1 ⟨vs, H1, I1, r, q⟩ => ⟨I1.kIn, ?_⟩) he hpl
  exact run_fn F hr hb (.nil) hx I1 r q
end

/-! ### FarError.__init__ -/
def FV (x : V) : Prop := (∃ i : Int, x = .int i ∧ i.natAbs.log2 < 1920) ∨ ∃ b : Bool, x = .bl b
theorem FV.go {x : V} {H : Hp} {Q : V → Hp → Prop} (h : FV x) (q : ∀ y : Str, y.length ≤ 1921 → Q (.str y) H) : (∃ i : Int, x = .int i ∧ i.natAbs.log2 < 1920 ∧ Q (.str (toString i)) H) ∨ (∃ b : Bool, x = .bl b ∧ Q (.str (if b then "True" else "False")) H) := by
  rcases h with ⟨i, e, hi⟩ | ⟨b, e⟩
  · exact .inl ⟨i, e, hi, q _ (PyProof.Rows.int_text_len_1921 hi)⟩
  · exact .inr ⟨b, e, q _ (by cases b <;> decide +kernel)⟩
theorem fmtV_at {i : Nat} {x : V} {σ : L2.St} {H : Hp} {Q : VK} (hs : σ[i]? = some (some x)) (h : FV x) (q : ∀ y : Str, y.length ≤ 1921 → Q (.str y) H) : tFmtV (tVar i) σ H Q := ⟨x, hs, FV.go (Q := Q) h q⟩
theorem app_fits {a b : Str} {n m : Nat} (ha : a.length ≤ n) (hb : b.length ≤ m) : (a ++ b).length ≤ n + m := by
  rw [Str.length_append]
  omega
theorem fits_of {a : Str} {n : Nat} (ha : a.length ≤ n) (h : n ≤ 100000) : a.length ≤ sizeLine := Nat.le_trans ha (Nat.le_trans h (by decide))
abbrev s_farinit : Stmt := inClass (top 2) 0
abbrev N_farinit : List Str := ["self", "why"]
theorem sc_farinit : FnScope N_farinit N_farinit (defScope s_farinit) := ⟨rfl, rfl, rfl, by decide +kernel, rfl, by decide +kernel, by decide +kernel⟩
def spFarInit (K : PySem.W.Frag) : Sp := fun vs H Q _ => ∃ (a C : Addr) (y : Str), vs = [.ref a, .str y] ∧ OexC K C ∧ PySem.W.findIn K (.ref C) "word" = some none ∧ H a = some (exo a C none) ∧
  ∀ dx, H dx = none → dx ≠ a → Q .non (upd (upd H dx (exd dx [("word", .str "FarError")])) a (exo a C (some dx)))
section
variable {P : Program} {w : World} {K : PySem.W.Frag} {mg : Str → Option Value} {base : Heap}
theorem ok_farinit {f : Addr} {fd : FuncData} (F : FunD K "__init__" "FarError.__init__" (defArgs s_farinit) (defBody s_farinit) (defScope s_farinit) [.str ""] [] f fd) (mV : mg "ValueError" = none)
    (vV : PySem.W.findCls K (.type "ValueError") (.type "type") "__init__" = some (.val (.builtin "ValueError.__init__"))) : FnOk P w K mg base CX0 1 f fd N_farinit (spFarInit K) := by
  refine F.ok sc_farinit (fun vs H Q E h => ?_) (fun cdv A outer s H vs Q E hr h => ?_)
  · obtain ⟨a, C, y, rfl, _⟩ := h
    rfl
  · obtain ⟨a, C, y, rfl, T, hw, ha, q⟩ := h
    refine ⟨_, pss_cons (ps_expr (pe_veinit (by rfl) mV vV (pa_cons (pv 0) (pa_cons (pv 1) pa_nil)))) (pss_one (ps_ost (pv 0) pe_str)), ?_⟩
    refine ⟨.ref a, rfl, .str y, rfl, a, C, [.str y], rfl, by show 1 ≤ 1000; decide, T, ha, ?_⟩
    exact ⟨.ref a, rfl, a, C, rfl, T, hw, .inl ⟨ha, fun dx n ne => q dx n ne⟩⟩
end
/-! ### an own error's __init__ of one field -/
/-- what the written part says of an error's class -/
structure ErrT (K : PySem.W.Frag) (C : Addr) : Prop where
  o : OexC K C
  w : PySem.W.findIn K (.ref C) "word" = some none

/-! ### ints and bools -/
def IB (x : V) : Prop := (∃ i : Int, x = .int i ∧ i.natAbs < 2 ^ 200) ∨ ∃ b : Bool, x = .bl b
theorem IB.fv {x : V} (h : IB x) : FV x := by
  rcases h with ⟨i, e, hi⟩ | ⟨b, e⟩
  · exact .inl ⟨i, e, Nat.lt_of_lt_of_le (PySem.Flt.log2_lt_of (by decide) hi) (by decide)⟩
  · exact .inr ⟨b, e⟩
def isB : V → Bool
  | .bl _ => true
  | _ => false
theorem IB.ty {K : PySem.W.Frag} {H : Hp} {x : V} (h : IB x) : ∃ t, TyX K H x t ∧ PySem.W.kitOne K t (.type "bool") = some (isB x) := by
  rcases h with ⟨i, rfl, hi⟩ | ⟨b, rfl⟩
  · exact ⟨_, TyX.base (TyOf.int _), kit_ty (r := false) (by decide +kernel)⟩
  · exact ⟨_, TyX.base (TyOf.bl _), kit_ty (r := true) (by decide +kernel)⟩
theorem IB.int {i : Int} (h : i.natAbs < 2 ^ 200) : IB (.int i) := .inl ⟨i, rfl, h⟩
section
open PySem.Spec PyProof.Rows
def rSubV : R2 := fun x y H Q => ∃ i : Int, x = .int i ∧ ((∃ j : Int, y = .int j ∧ Q (.int (i - j)) H) ∨ ∃ b : Bool, y = .bl b ∧ Q (.int (i - b2i b)) H)
theorem op_subV {X : Cx} : OpR X (binaryOp .Sub) rSubV := by
  intro pins s σ H x y v u Q I rx ry h
  obtain ⟨i, rfl, ⟨j, rfl, q⟩ | ⟨b, rfl, q⟩⟩ := h
  · exact op_sub pins s σ H _ _ v u Q I rx ry ⟨i, j, rfl, rfl, q⟩
  · obtain ⟨t, rfl⟩ := rx
    cases (show u = Value.bool b from ry)
    exact IntBool.sub_int_bool ⟨.int (i - b2i b), H, I.tok _, ⟨_, rfl⟩, q⟩
end

abbrev s_bninit : Stmt := inClass (top 3) 0
abbrev N_bninit : List Str := ["self", "number"]
theorem sc_bninit : FnScope N_bninit N_bninit (defScope s_bninit) := ⟨rfl, rfl, rfl, by decide +kernel, rfl, by decide +kernel, by decide +kernel⟩
def bnF (n : V) : List (Str × V) := [("word", .str "BadNumber"), ("number", n), ("word", .str "FarError")]
def spBnInit (K : PySem.W.Frag) : Sp := fun vs H Q _ => ∃ (a C : Addr) (n : V), vs = [.ref a, n] ∧ FV n ∧ ErrT K C ∧ PySem.W.findIn K (.ref C) "number" = some none ∧ H a = some (exo a C none) ∧
  ∀ (H' : Hp) (dx : Addr), H dx = none → H' a = some (exo a C (some dx)) → H' dx = some (exd dx (bnF n)) → (∀ b o, b ≠ a → H b = some o → H' b = some o) → Q .non H'
section
variable {P : Program} {w : World} {K : PySem.W.Frag} {mg : Str → Option Value} {base : Heap}
theorem ok_bninit {f fF CF : Addr} {fd fdF : FuncData} (F : Fun K "__init__" "BadNumber.__init__" s_bninit f fd) (gF : mg "FarError" = some (.ref CF)) (TF : ClsFn K CF "__init__" fF) (bF : Binds K fdF N_farinit [])
    (GF : FnOk P w K mg base CX0 1 fF fdF N_farinit (spFarInit K)) : FnOk P w K mg base CX0 2 f fd N_bninit (spBnInit K) := by
  refine F.ok sc_bninit (fun vs H Q E h => ?_) (fun cdv A outer s H vs Q E hr h => ?_)
  · obtain ⟨a, C, n, rfl, _⟩ := h
    rfl
  · obtain ⟨a, C, n, rfl, hn, T, hno, ha, q⟩ := h
    refine ⟨_, pss_cons (ps_expr (pe_clsfn (by rfl) gF TF GF hr bF pass0 (pa_cons (pv 0) (pa_cons (pe_joined (.cons pe_str (.cons (pe_fmtV (pv 1)) .nil))) pa_nil))))
      (pss_cons (ps_ost (pv 0) (pv 1)) (pss_one (ps_ost (pv 0) pe_str))), ?_⟩
    refine ⟨.ref a, rfl, _, rfl, fits_of (n := 100) (by decide +kernel) (by decide), ?_⟩
    refine fmtV_at (i := 1) rfl hn fun y hy => ?_
    refine ⟨y, rfl, fits_of (app_fits (n := 100) (by decide +kernel) hy) (by decide), ?_⟩
    refine ⟨a, C, _, rfl, T.o, T.w, ha, fun dx ndx ne => ?_⟩
    have e1 : (upd (upd H dx (exd dx [("word", .str "FarError")])) a (exo a C (some dx))) a = some (exo a C (some dx)) := upd_same
    have e2 : (upd (upd H dx (exd dx [("word", .str "FarError")])) a (exo a C (some dx))) dx = some (exd dx [("word", .str "FarError")]) := by rw [upd_ne ne, upd_same]
    refine ⟨n, rfl, .ref a, rfl, a, C, rfl, T.o, hno, .inr ⟨dx, _, e1, e2, by show 1 ≤ 900; decide, ?_⟩⟩
    refine ⟨.ref a, rfl, a, C, rfl, T.o, T.w, .inr ⟨dx, _, by rw [upd_ne ne.symm]; exact e1, upd_same, by show 2 ≤ 900; decide, ?_⟩⟩
    refine q _ dx ndx (by rw [upd_ne ne.symm, upd_ne ne.symm]; exact e1) upd_same fun b o nb hb => ?_
    have nbd : b ≠ dx := ne_of_none hb ndx
    rw [upd_ne nbd, upd_ne nbd, upd_ne nb, upd_ne nbd]
    exact hb
end

/-! ### own errors in general, and without a law that asks why -/
structure ErT (K : PySem.W.Frag) (mg : Str → Option Value) (CF C fI : Addr) (fdI : FuncData) (word : Str) (N : List Str) : Prop where
  gF : mg "FarError" = some (.ref CF)
  gC : mg word = some (.ref C)
  e : ErrT K C
  x : XfC K C
  c : ExcC K C
  iC : PySem.W.findIn K (.ref C) "__init__" = some (some (.ref fI))
  tI : PySem.W.typeIn K (.ref fI) = some (.type "function")
  bI : Binds K fdI N []
  m : PySem.W.exmOne K (.ref C) (.ref CF) = some true
abbrev Fds := List (Str × V)
section
open PySem.Spec PyProof.Rows
theorem takes_len {X : Cx} {W : WX} (tk : L2.Takes X W) : L2.Takes X (fun cls d σ H => σ.length = X.N.length → W cls d σ H) := fun u s' ⟨a, B, sI, pins, σ, H, cls, d, e, I, nb, up, sky, na, os, ag, w⟩ =>
  tk u s' ⟨a, B, sI, pins, σ, H, cls, d, e, I, nb, up, sky, na, os, ag, w I.len⟩
theorem pss_of {X : Cx} {sts : List Stmt} {t' : TS} (h : ∀ D σ H, t' D σ H → ∃ t, PSs X sts t ∧ t D σ H) : PSs X sts t' := ⟨fun pins s σ H D I ht => by
  obtain ⟨t, h1, h2⟩ := h D σ H ht
  exact h1.run pins s σ H D I h2⟩
end

/-! ### step_of, end_of, is_leader, is_repeat -/
abbrev s_step_of : Stmt := top 41
abbrev N_step_of : List Str := ["mating"]
abbrev P_step_of : List Str := ["mating"]
theorem sc_step_of : FnScope N_step_of P_step_of (defScope s_step_of) := ⟨rfl, rfl, rfl, by decide +kernel, rfl, by decide +kernel, by decide +kernel⟩
abbrev s_end_of : Stmt := top 42
abbrev N_end_of : List Str := ["mating"]
abbrev P_end_of : List Str := ["mating"]
theorem sc_end_of : FnScope N_end_of P_end_of (defScope s_end_of) := ⟨rfl, rfl, rfl, by decide +kernel, rfl, by decide +kernel, by decide +kernel⟩
abbrev s_is_leader : Stmt := top 43
abbrev N_is_leader : List Str := ["mating"]
abbrev P_is_leader : List Str := ["mating"]
theorem sc_is_leader : FnScope N_is_leader P_is_leader (defScope s_is_leader) := ⟨rfl, rfl, rfl, by decide +kernel, rfl, by decide +kernel, by decide +kernel⟩
abbrev s_is_repeat : Stmt := top 44
abbrev N_is_repeat : List Str := ["mating"]
abbrev P_is_repeat : List Str := ["mating"]
theorem sc_is_repeat : FnScope N_is_repeat P_is_repeat (defScope s_is_repeat) := ⟨rfl, rfl, rfl, by decide +kernel, rfl, by decide +kernel, by decide +kernel⟩
def isLead (o p m f : Int) : Bool := if f = 1 then decide (m ≤ p - o) else decide (1 ≤ p - o)
def isRep (o p m f : Int) : Bool := decide (f = 0 ∧ 1 ≤ p - o ∧ p - o ≤ m)
def spStep : Sp := fun vs H Q _ => ∃ (t : Addr) (o p m f : Int), vs = [.ref t] ∧ H t = some (tup4 o p m f) ∧ Q (.int (p - o)) H
def spEnd : Sp := fun vs H Q _ => ∃ (t : Addr) (o p m f : Int), vs = [.ref t] ∧ H t = some (tup4 o p m f) ∧ Q (.int (p + m)) H
def spLead : Sp := fun vs H Q _ => ∃ (t : Addr) (o p m f : Int), vs = [.ref t] ∧ H t = some (tup4 o p m f) ∧ Q (.bl (isLead o p m f)) H
def spRep : Sp := fun vs H Q _ => ∃ (t : Addr) (o p m f : Int), vs = [.ref t] ∧ H t = some (tup4 o p m f) ∧ Q (.bl (isRep o p m f)) H
section
variable {P : Program} {w : World} {K : PySem.W.Frag} {mg : Str → Option Value} {base : Heap}
theorem ok_step {f : Addr} {fd : FuncData} (D : DefAt K mg "step_of" s_step_of P_step_of f fd) : FnOk P w K mg base CX0 1 f fd P_step_of spStep := by
  refine D.F.ok sc_step_of (fun vs H Q E h => ?_) (fun cdv A outer s H vs Q E hr h => ?_)
  · obtain ⟨t, o, p, m, f, rfl, _⟩ := h
    rfl
  · obtain ⟨t, o, p, m, f, rfl, ht, q⟩ := h
    refine ⟨_, (pss_one (ps_ret (pe_op op_sub (pe_ix ix_tup (pv 0) pe_int (fun _ _ => rfl)) (pe_ix ix_tup (pv 0) pe_int (fun _ _ => rfl))))), ?_⟩
    exact ⟨.ref t, rfl, t, _, 1, .int p, rfl, rfl, SqT.of ht, at4_1, .ref t, rfl, t, _, 0, .int o, rfl, rfl, SqT.of ht, at4_0, p, o, rfl, rfl, q⟩
theorem ok_end {f : Addr} {fd : FuncData} (D : DefAt K mg "end_of" s_end_of P_end_of f fd) : FnOk P w K mg base CX0 1 f fd P_end_of spEnd := by
  refine D.F.ok sc_end_of (fun vs H Q E h => ?_) (fun cdv A outer s H vs Q E hr h => ?_)
  · obtain ⟨t, o, p, m, f, rfl, _⟩ := h
    rfl
  · obtain ⟨t, o, p, m, f, rfl, ht, q⟩ := h
    refine ⟨_, (pss_one (ps_ret (pe_op op_add (pe_ix ix_tup (pv 0) pe_int (fun _ _ => rfl)) (pe_ix ix_tup (pv 0) pe_int (fun _ _ => rfl))))), ?_⟩
    exact ⟨.ref t, rfl, t, _, 1, .int p, rfl, rfl, SqT.of ht, at4_1, .ref t, rfl, t, _, 2, .int m, rfl, rfl, SqT.of ht, at4_2, p, m, rfl, rfl, q⟩
theorem ok_lead {f fS : Addr} {fd fdS : FuncData} (D : DefAt K mg "is_leader" s_is_leader P_is_leader f fd) (D_step_of : DefAt K mg "step_of" s_step_of P_step_of fS fdS) : FnOk P w K mg base CX0 2 f fd P_is_leader spLead := by
  have G_step_of : FnOk P w K mg base CX0 1 fS fdS P_step_of spStep := ok_step D_step_of
  refine D.F.ok sc_is_leader (fun vs H Q E h => ?_) (fun cdv A outer s H vs Q E hr h => ?_)
  · obtain ⟨t, o, p, m, f, rfl, _⟩ := h
    rfl
  · obtain ⟨t, o, p, m, f, rfl, ht, q⟩ := h
    refine ⟨_, (pss_cons (ps_if (pt_cmpR op_eq (pe_ix ix_tup (pv 0) pe_int (fun _ _ => rfl)) pe_int (nomark _)) (pss_one (ps_ret (pe_cmpR op_ge (pe_call G_step_of (hr.mono (by omega)) (by rfl) D_step_of.g D_step_of.F.kp D_step_of.b .nil pass0 (pa_cons (pv 0) pa_nil)) (pe_ix ix_tup (pv 0) pe_int (fun _ _ => rfl)) (nomark _)))) pss_nil)
      (pss_one (ps_ret (pe_cmpR op_ge (pe_call G_step_of (hr.mono (by omega)) (by rfl) D_step_of.g D_step_of.F.kp D_step_of.b .nil pass0 (pa_cons (pv 0) pa_nil)) pe_int (nomark _))))), ?_⟩
    refine ⟨.ref t, rfl, t, _, 3, .int f, rfl, rfl, SqT.of ht, at4_3, rfl, _, rfl, ?_⟩
    refine ite2 (fun h => ?_) (fun h => ?_)
    · have hf : f = 1 := V.int.inj (of_decide_eq_true h)
      unfold isLead at q
      rw [if_pos hf] at q
      exact ⟨.ref t, rfl, t, o, p, m, f, rfl, ht, .ref t, rfl, t, _, 2, .int m, rfl, rfl, SqT.of ht, at4_2, _, _, rfl, rfl, q⟩
    · have hf : ¬ f = 1 := fun z => h (decide_eq_true (congrArg V.int z))
      unfold isLead at q
      rw [if_neg hf] at q
      exact ⟨.ref t, rfl, t, o, p, m, f, rfl, ht, _, _, rfl, rfl, q⟩
theorem ok_rep {f fS : Addr} {fd fdS : FuncData} (D : DefAt K mg "is_repeat" s_is_repeat P_is_repeat f fd) (D_step_of : DefAt K mg "step_of" s_step_of P_step_of fS fdS) : FnOk P w K mg base CX0 2 f fd P_is_repeat spRep := by
  have G_step_of : FnOk P w K mg base CX0 1 fS fdS P_step_of spStep := ok_step D_step_of
  refine D.F.ok sc_is_repeat (fun vs H Q E h => ?_) (fun cdv A outer s H vs Q E hr h => ?_)
  · obtain ⟨t, o, p, m, f, rfl, _⟩ := h
    rfl
  · obtain ⟨t, o, p, m, f, rfl, ht, q⟩ := h
    refine ⟨_, (pss_one (ps_ret (pe_and (pe_cmpR op_eq (pe_ix ix_tup (pv 0) pe_int (fun _ _ => rfl)) pe_int (nomark _)) (pe_one (pe_chain op_le op_le pe_int (pe_call G_step_of (hr.mono (by omega)) (by rfl) D_step_of.g D_step_of.F.kp D_step_of.b .nil pass0 (pa_cons (pv 0) pa_nil)) (pe_ix ix_tup (pv 0) pe_int (fun _ _ => rfl))))))), ?_⟩
    refine ⟨.ref t, rfl, t, _, 3, .int f, rfl, rfl, SqT.of ht, at4_3, rfl, _, rfl, ?_⟩
    unfold isRep at q
    refine ite2 (fun h => ?_) (fun h => ?_)
    · have hf : f = 0 := V.int.inj (of_decide_eq_true h)
      refine ⟨.ref t, rfl, t, o, p, m, f, rfl, ht, _, _, rfl, rfl, _, rfl, ?_⟩
      refine ite2 (fun h2 => ?_) (fun h2 => ?_)
      · have h2' : 1 ≤ p - o := of_decide_eq_true h2
        refine ⟨.ref t, rfl, t, _, 2, .int m, rfl, rfl, SqT.of ht, at4_2, _, _, rfl, rfl, ?_⟩
        rw [decide_eq_decide.mpr (show (f = 0 ∧ 1 ≤ p - o ∧ p - o ≤ m) ↔ p - o ≤ m from ⟨fun z => z.2.2, fun z => ⟨hf, h2', z⟩⟩)] at q
        exact q
      · rw [decide_eq_false (fun z => h2 (decide_eq_true z.2.1))] at q
        exact q
    · rw [decide_eq_false (fun z => h (decide_eq_true (congrArg V.int z.1)))] at q
      exact q
end
/-! ### halved, merged -/
abbrev s_halved : Stmt := top 45
abbrev N_halved : List Str := ["mating", "one", "other", "many", "turned", "half"]
abbrev P_halved : List Str := ["mating"]
theorem sc_halved : FnScope N_halved P_halved (defScope s_halved) := ⟨rfl, rfl, rfl, by decide +kernel, rfl, by decide +kernel, by decide +kernel⟩
abbrev s_merged : Stmt := top 46
abbrev N_merged : List Str := ["first", "second", "shared", "begin", "end", "step"]
abbrev P_merged : List Str := ["first", "second"]
theorem sc_merged : FnScope N_merged P_merged (defScope s_merged) := ⟨rfl, rfl, rfl, by decide +kernel, rfl, by decide +kernel, by decide +kernel⟩
def hlf (o p m : Int) : Int := (p + m - o) / 2
def spHalved : Sp := fun vs H Q _ => ∃ (t : Addr) (o p m f : Int), vs = [.ref t] ∧ H t = some (tup4 o p m f) ∧ (hlf o p m = 0 → Q .non H) ∧ (hlf o p m ≠ 0 → ∀ r, H r = none → Q (.ref r) (upd H r (tup4 o (p + m - hlf o p m) (hlf o p m) f)))
def imin (a b : Int) : Int := if b < a then b else a
def imax (a b : Int) : Int := if b > a then b else a
def shr (o p m o' p' m' : Int) : Int := imin (p + m) (p' + m') - imax o o'
def spMerged : Sp := fun vs H Q _ => ∃ (t t' : Addr) (o p m f o' p' m' f' : Int), vs = [.ref t, .ref t'] ∧ H t = some (tup4 o p m f) ∧ H t' = some (tup4 o' p' m' f') ∧
  (¬ (isRep o p m f = true ∧ isRep o' p' m' f' = true ∧ p - o + (p' - o') ≤ shr o p m o' p' m') → Q .non H) ∧
  (isRep o p m f = true → isRep o' p' m' f' = true → p - o + (p' - o') ≤ shr o p m o' p' m' → ∀ r, H r = none →
    Q (.ref r) (upd H r (tup4 (imin o o') (imin o o' + (Nat.gcd (p - o).toNat (p' - o').toNat : Nat)) (imax (p + m) (p' + m') - imin o o' - (Nat.gcd (p - o).toNat (p' - o').toNat : Nat)) 0)))
section
variable {P : Program} {w : World} {K : PySem.W.Frag} {mg : Str → Option Value} {base : Heap}
theorem ok_halved {f : Addr} {fd : FuncData} (D : DefAt K mg "halved" s_halved P_halved f fd) : FnOk P w K mg base CX0 1 f fd P_halved spHalved := by
  refine D.F.ok sc_halved (fun vs H Q E h => ?_) (fun cdv A outer s H vs Q E hr h => ?_)
  · obtain ⟨t, o, p, m, f, rfl, _⟩ := h
    rfl
  · obtain ⟨t, o, p, m, f, rfl, ht, q1, q2⟩ := h
    refine ⟨_, (pss_cons (ps_asg (pv 0) (pg_tup (by rfl) (pgs_cons (pg_name (i := 1) sc_halved.nd rfl (.inl rfl)) (pgs_cons (pg_name (i := 2) sc_halved.nd rfl (.inl rfl)) (pgs_cons (pg_name (i := 3) sc_halved.nd rfl (.inl rfl)) (pgs_cons (pg_name (i := 4) sc_halved.nd rfl (.inl rfl)) pgs_nil))))))
      (pss_cons (ps_set (i := 5) sc_halved.nd rfl (.inl rfl) (pe_op op_fdivW (pe_op op_sub (pe_op op_add (pv 2) (pv 3)) (pv 1)) pe_int))
      (pss_cons (ps_if (pt_cmpR op_eq (pv 5) pe_int (nomark _)) (pss_one (ps_ret pe_non)) pss_nil)
      (pss_one (ps_ret (pe_tup (pa_cons (pv 1) (pa_cons (pe_op op_sub (pe_op op_add (pv 2) (pv 3)) (pv 5)) (pa_cons (pv 5) (pa_cons (pv 4) pa_nil)))))))))), ?_⟩
    refine ⟨.ref t, rfl, t, _, rfl, SqT.of ht, rfl, .int o, _, rfl, .int p, _, rfl, .int m, _, rfl, .int f, _, rfl, rfl, ?_⟩
    refine ⟨.int p, rfl, .int m, rfl, p, m, rfl, rfl, .int o, rfl, _, _, rfl, rfl, _, 2, rfl, rfl, wide_div (b := 10) (by decide) (by decide) (by decide) (by decide), ?_⟩
    refine ⟨.int _, rfl, rfl, _, rfl, ?_⟩
    refine ite2 (fun h => ?_) (fun h => ?_)
    · exact q1 (V.int.inj (of_decide_eq_true h))
    · refine ⟨.int o, rfl, .int p, rfl, .int m, rfl, p, m, rfl, rfl, .int _, rfl, _, _, rfl, rfl, .int _, rfl, .int f, rfl, by show 4 ≤ sizeLine; decide, fun r nr => ?_⟩
      exact q2 (fun z => h (decide_eq_true (congrArg V.int z))) r nr
theorem ok_merged {f fS fE fR fC : Addr} {fd fdS fdE fdR fdC : FuncData} (D : DefAt K mg "merged" s_merged P_merged f fd) (D_step_of : DefAt K mg "step_of" s_step_of P_step_of fS fdS) (D_end_of : DefAt K mg "end_of" s_end_of P_end_of fE fdE) (D_is_repeat : DefAt K mg "is_repeat" s_is_repeat P_is_repeat fR fdR)
    (D_common : DefAt K mg "common" s_common P_common fC fdC) (B : Bn mg) : FnOk P w K mg base CX0 3 f fd P_merged spMerged := by
  have G_step_of : FnOk P w K mg base CX0 1 fS fdS P_step_of spStep := ok_step D_step_of
  have G_end_of : FnOk P w K mg base CX0 1 fE fdE P_end_of spEnd := ok_end D_end_of
  have G_is_repeat : FnOk P w K mg base CX0 2 fR fdR P_is_repeat spRep := ok_rep D_is_repeat D_step_of
  have G_common : FnOk P w K mg base CX0 1 fC fdC P_common spCommon := ok_common D_common B
  refine D.F.ok sc_merged (fun vs H Q E h => ?_) (fun cdv A outer s H vs Q E hr h => ?_)
  · obtain ⟨t, t', o, p, m, f, o', p', m', f', rfl, _⟩ := h
    rfl
  · obtain ⟨t, t', o, p, m, f, o', p', m', f', rfl, ht, ht', q1, q2⟩ := h
    refine ⟨_, (pss_cons (ps_if (PW.pt (pw_or (pt_not (pt_val (pe_call G_is_repeat (hr.mono (by omega)) (by rfl) D_is_repeat.g D_is_repeat.F.kp D_is_repeat.b .nil pass0 (pa_cons (pv 0) pa_nil)))) (pw_or1 (pt_not (pt_val (pe_call G_is_repeat (hr.mono (by omega)) (by rfl) D_is_repeat.g D_is_repeat.F.kp D_is_repeat.b .nil pass0 (pa_cons (pv 1) pa_nil))))))) (pss_one (ps_ret pe_non)) pss_nil)
      (pss_cons (ps_set (i := 2) sc_merged.nd rfl (.inl rfl) (pe_op op_sub (pe_callB (call_min2 rfl) (by rfl) B.min (by decide +kernel) (pa_cons (pe_call G_end_of (hr.mono (by omega)) (by rfl) D_end_of.g D_end_of.F.kp D_end_of.b .nil pass0 (pa_cons (pv 0) pa_nil)) (pa_cons (pe_call G_end_of (hr.mono (by omega)) (by rfl) D_end_of.g D_end_of.F.kp D_end_of.b .nil pass0 (pa_cons (pv 1) pa_nil)) pa_nil))) (pe_callB (call_max2 rfl) (by rfl) B.max (by decide +kernel) (pa_cons (pe_ix ix_tup (pv 0) pe_int (fun _ _ => rfl)) (pa_cons (pe_ix ix_tup (pv 1) pe_int (fun _ _ => rfl)) pa_nil)))))
      (pss_cons (ps_if (pt_cmpR op_lt (pv 2) (pe_op op_add (pe_call G_step_of (hr.mono (by omega)) (by rfl) D_step_of.g D_step_of.F.kp D_step_of.b .nil pass0 (pa_cons (pv 0) pa_nil)) (pe_call G_step_of (hr.mono (by omega)) (by rfl) D_step_of.g D_step_of.F.kp D_step_of.b .nil pass0 (pa_cons (pv 1) pa_nil))) (nomark _)) (pss_one (ps_ret pe_non)) pss_nil)
      (pss_cons (ps_set (i := 3) sc_merged.nd rfl (.inl rfl) (pe_callB (call_min2 rfl) (by rfl) B.min (by decide +kernel) (pa_cons (pe_ix ix_tup (pv 0) pe_int (fun _ _ => rfl)) (pa_cons (pe_ix ix_tup (pv 1) pe_int (fun _ _ => rfl)) pa_nil))))
      (pss_cons (ps_set (i := 4) sc_merged.nd rfl (.inl rfl) (pe_callB (call_max2 rfl) (by rfl) B.max (by decide +kernel) (pa_cons (pe_call G_end_of (hr.mono (by omega)) (by rfl) D_end_of.g D_end_of.F.kp D_end_of.b .nil pass0 (pa_cons (pv 0) pa_nil)) (pa_cons (pe_call G_end_of (hr.mono (by omega)) (by rfl) D_end_of.g D_end_of.F.kp D_end_of.b .nil pass0 (pa_cons (pv 1) pa_nil)) pa_nil))))
      (pss_cons (ps_set (i := 5) sc_merged.nd rfl (.inl rfl) (pe_call G_common (hr.mono (by omega)) (by rfl) D_common.g D_common.F.kp D_common.b .nil pass0 (pa_cons (pe_call G_step_of (hr.mono (by omega)) (by rfl) D_step_of.g D_step_of.F.kp D_step_of.b .nil pass0 (pa_cons (pv 0) pa_nil)) (pa_cons (pe_call G_step_of (hr.mono (by omega)) (by rfl) D_step_of.g D_step_of.F.kp D_step_of.b .nil pass0 (pa_cons (pv 1) pa_nil)) pa_nil))))
      (pss_one (ps_ret (pe_tup (pa_cons (pv 3) (pa_cons (pe_op op_add (pv 3) (pv 5)) (pa_cons (pe_op op_sub (pe_op op_sub (pv 4) (pv 3)) (pv 5)) (pa_cons pe_int pa_nil))))))))))))), ?_⟩
    refine ⟨.ref t, rfl, t, o, p, m, f, rfl, ht, _, rfl, ?_⟩
    by_cases h1 : isRep o p m f = true
    · rw [h1]
      refine iteF ?_
      refine ⟨.ref t', rfl, t', o', p', m', f', rfl, ht', _, rfl, ?_⟩
      by_cases h2 : isRep o' p' m' f' = true
      · rw [h2]
        refine iteF ?_
        -- shared
        refine ⟨.ref t, rfl, t, o, p, m, f, rfl, ht, .ref t', rfl, t', o', p', m', f', rfl, ht', _, _, rfl, ?_⟩
        refine ⟨.ref t, rfl, t, _, 0, .int o, rfl, rfl, SqT.of ht, at4_0, .ref t', rfl, t', _, 0, .int o', rfl, rfl, SqT.of ht', at4_0, _, _, rfl, _, _, rfl, rfl, ?_⟩
        refine ⟨.int (shr o p m o' p' m'), rfl, .ref t, rfl, t, o, p, m, f, rfl, ht, .ref t', rfl, t', o', p', m', f', rfl, ht', _, _, rfl, rfl, _, _, rfl, rfl, _, rfl, ?_⟩
        refine ite2 (fun h => ?_) (fun h => ?_)
        · have h' : shr o p m o' p' m' < p - o + (p' - o') := of_decide_eq_true h
          exact q1 fun z => by omega
        · have h' : ¬ shr o p m o' p' m' < p - o + (p' - o') := fun z => h (decide_eq_true z)
          refine ⟨.ref t, rfl, t, _, 0, .int o, rfl, rfl, SqT.of ht, at4_0, .ref t', rfl, t', _, 0, .int o', rfl, rfl, SqT.of ht', at4_0, _, _, rfl, ?_⟩
          refine ⟨.ref t, rfl, t, o, p, m, f, rfl, ht, .ref t', rfl, t', o', p', m', f', rfl, ht', _, _, rfl, ?_⟩
          have r1 := of_decide_eq_true h1
          have r2 := of_decide_eq_true h2
          refine ⟨.ref t, rfl, t, o, p, m, f, rfl, ht, .ref t', rfl, t', o', p', m', f', rfl, ht', (p - o).toNat, (p' - o').toNat, ?_, ?_⟩
          · rw [Int.toNat_of_nonneg (by omega), Int.toNat_of_nonneg (by omega)]
            rfl
          · refine ⟨.int (imin o o'), rfl, .int (imin o o'), rfl, .int _, rfl, _, _, rfl, rfl, .int (imax (p + m) (p' + m')), rfl, .int (imin o o'), rfl, _, _, rfl, rfl, .int _, rfl, _, _, rfl, rfl, by show 4 ≤ sizeLine; decide, fun r nr => ?_⟩
            exact q2 h1 h2 (by omega) r nr
      · rw [Bool.eq_false_iff.mpr h2]
        exact iteT (q1 fun z => h2 z.2.1)
    · rw [Bool.eq_false_iff.mpr h1]
      exact iteT (q1 fun z => h1 z.1)
end

/-! ### a tuple of ints, truths and texts in an f-string -/
def MV (x : V) : Prop := FV x ∨ ∃ y : Str, x = .str y ∧ y.length ≤ 100 ∧ (∀ c ∈ y.cps.toList, c < 16 ^ 8) ∧ PyData.strOk y = true
section
open PySem.Spec PyProof.Rows
theorem repr_one {prog : Program} {w : World} {x : V} {u : Value} (h : MV x) (r : RelV x u) : ∃ t : Str, ReprIs prog w u t ∧ t.length ≤ 2000 := by
  rcases h with (⟨i, rfl, hi⟩ | ⟨b, rfl⟩) | ⟨y, rfl, hy, hc, _⟩
  · obtain ⟨t, rfl⟩ := r
    exact ⟨_, ReprIs.int t hi, Nat.le_trans (int_text_len_1921 hi) (by decide)⟩
  · cases (show u = Value.bool b from r)
    exact ⟨_, ReprIs.bool b, by cases b <;> decide +kernel⟩
  · obtain ⟨t, rfl⟩ := r
    have h1 := StrLaws.reprText_len y hc
    have h2 : (reprText y).length ≤ 2000 := by omega
    exact ⟨_, ReprIs.str y t (Nat.le_trans h2 (by decide)), h2⟩
theorem repr_allM {prog : Program} {w : World} : ∀ {xs : List V} {its : List Value}, Vals xs its → (∀ x ∈ xs, MV x) → ∃ ts : List Str, ReprAll prog w its ts ∧ piled ts ≤ xs.length * 2010
  | [], _, r, _ => by
    cases r
    exact ⟨[], .nil, Nat.zero_le _⟩
  | x :: l, _, r, h => by
    cases r with
    | cons r1 r2 =>
      obtain ⟨t, h1, h2⟩ := repr_one (prog := prog) (w := w) (h x List.mem_cons_self) r1
      obtain ⟨ts, h3, h4⟩ := repr_allM (prog := prog) (w := w) r2 fun y hy => h y (List.mem_cons_of_mem _ hy)
      refine ⟨t :: ts, .cons h1 h3, ?_⟩
      rw [piled_cons, List.length_cons]
      omega
def tFmtM (K : PySem.W.Frag) (te : TE) : TE := fun σ H Q => te σ H fun x H1 => ∃ (a : Addr) (xs : List V), x = .ref a ∧ SqT K H1 a xs ∧ (∀ y ∈ xs, MV y) ∧ xs.length ≤ 20 ∧ ∀ m : Str, m.length ≤ 50000 → Q (.str m) H1
theorem pe_fmtM {X : Cx} {e : Expr} {te : TE} {pos : Pos} {k : Nat} (hr : Room k X.A) (he : PE X e te) : PE X (.FormattedValue e (-1) none pos) (tFmtM X.K te) := by
  refine ⟨fun pins s σ H Q I h => ?_⟩
  refine wpAny_FormattedValue_plain (thn (he.run pins s σ H _ I h) fun v s1 hv => ?_)
  obtain ⟨x, H1, I1, r1, a, xs, rfl, ht, hc, hl, q⟩ := hv
  cases r1
  obtain ⟨its, rv, ⟨o, ho, hcl, n, hd⟩, _⟩ := I1.tuple ht
  obtain ⟨ts, h1, h2⟩ := repr_allM (prog := X.prog) (w := X.w) rv hc
  have htx := fmt_text ts
  have hz : (tupleText ts).length ≤ 45000 := by
    have : xs.length * 2010 ≤ 20 * 2010 := Nat.mul_le_mul_right _ hl
    omega
  have hu := hr.units
  exact fmt_tuple (ts := ts) (by omega) ho hcl hd h1 (Nat.le_trans hz (by decide)) fun m u tk hm => ⟨.str m, H1, I1.tok _, ⟨u, rfl⟩, q m (by omega)⟩
end
/-! ### BadMove -/
abbrev s_bminit : Stmt := inClass (top 8) 0
abbrev N_bminit : List Str := ["self", "move"]
theorem sc_bminit : FnScope N_bminit N_bminit (defScope s_bminit) := ⟨rfl, rfl, rfl, by decide +kernel, rfl, by decide +kernel, by decide +kernel⟩
def bmF (x : V) : Fds := [("word", .str "BadMove"), ("move", x), ("word", .str "FarError")]
def spBmInit (K : PySem.W.Frag) : Sp := fun vs H Q _ => ∃ (a C t : Addr) (xs : List V), vs = [.ref a, .ref t] ∧ H t = some (.tup xs) ∧ (∀ y ∈ xs, MV y) ∧ xs.length ≤ 20 ∧ ErrT K C ∧ PySem.W.findIn K (.ref C) "move" = some none ∧ H a = some (exo a C none) ∧
  ∀ (H' : Hp) (dx : Addr), H dx = none → H' a = some (exo a C (some dx)) → H' dx = some (exd dx (bmF (.ref t))) → (∀ b o, b ≠ a → H b = some o → H' b = some o) → Q .non H'
section
variable {P : Program} {w : World} {K : PySem.W.Frag} {mg : Str → Option Value} {base : Heap}
theorem ok_bminit {f fF CF : Addr} {fd fdF : FuncData} (F : Fun K "__init__" "BadMove.__init__" s_bminit f fd) (gF : mg "FarError" = some (.ref CF)) (TF : ClsFn K CF "__init__" fF) (bF : Binds K fdF N_farinit [])
    (GF : FnOk P w K mg base CX0 1 fF fdF N_farinit (spFarInit K)) : FnOk P w K mg base CX0 2 f fd N_bminit (spBmInit K) := by
  refine F.ok sc_bminit (fun vs H Q E h => ?_) (fun cdv A outer s H vs Q E hr h => ?_)
  · obtain ⟨a, C, t, xs, rfl, _⟩ := h
    rfl
  · obtain ⟨a, C, t, xs, rfl, ht, hx, hl, T, n1, ha, q⟩ := h
    refine ⟨_, pss_cons (ps_expr (pe_clsfn (by rfl) gF TF GF hr bF pass0 (pa_cons (pv 0) (pa_cons (pe_joined (.cons pe_str (.cons (pe_fmtM hr (pv 1)) .nil))) pa_nil))))
      (pss_cons (ps_ost (pv 0) (pv 1)) (pss_one (ps_ost (pv 0) pe_str))), ?_⟩
    refine ⟨.ref a, rfl, _, rfl, fits_of (n := 100) (by decide +kernel) (by decide), ?_⟩
    refine ⟨.ref t, rfl, t, xs, rfl, SqT.of ht, hx, hl, fun y hy => ?_⟩
    refine ⟨y, rfl, fits_of (app_fits (n := 100) (by decide +kernel) hy) (by decide), ?_⟩
    refine ⟨a, C, _, rfl, T.o, T.w, ha, fun dx ndx ne => ?_⟩
    have e1 : (upd (upd H dx (exd dx [("word", .str "FarError")])) a (exo a C (some dx))) a = some (exo a C (some dx)) := upd_same
    have e2 : (upd (upd H dx (exd dx [("word", .str "FarError")])) a (exo a C (some dx))) dx = some (exd dx [("word", .str "FarError")]) := by rw [upd_ne ne, upd_same]
    refine ⟨.ref t, rfl, .ref a, rfl, a, C, rfl, T.o, n1, .inr ⟨dx, _, e1, e2, by show 1 ≤ 900; decide, ?_⟩⟩
    refine ⟨.ref a, rfl, a, C, rfl, T.o, T.w, .inr ⟨dx, _, by rw [upd_ne ne.symm]; exact e1, upd_same, by show 2 ≤ 900; decide, ?_⟩⟩
    refine q _ dx ndx (by rw [upd_ne ne.symm, upd_ne ne.symm]; exact e1) upd_same fun b o nb hb => ?_
    have nbd : b ≠ dx := ne_of_none hb ndx
    rw [upd_ne nbd, upd_ne nbd, upd_ne nb, upd_ne nbd]
    exact hb
end

/-! ### is_mating -/
abbrev s_is_mating : Stmt := top 29
abbrev N_is_mating : List Str := ["length", "mating", "one", "other", "many", "turned", "number"]
abbrev P_is_mating : List Str := ["length", "mating"]
theorem sc_is_mating : FnScope N_is_mating P_is_mating (defScope s_is_mating) := ⟨rfl, rfl, rfl, by decide +kernel, rfl, by decide +kernel, by decide +kernel⟩
def isMat (n : Int) : V → V → V → V → Bool
  | .int o, .int p, .int m, .int f => decide ((f = 0 ∨ f = 1) ∧ 1 ≤ m ∧ 0 ≤ o ∧ 0 ≤ p ∧ o + m ≤ n ∧ p + m ≤ n)
  | _, _, _, _ => false
theorem isMat_b {n : Int} {o p m f : V} (h : ([o, p, m, f].map isB).any id = true) : isMat n o p m f = false := by
  cases o with
  | int _ => cases p with
    | int _ => cases m with
      | int _ => cases f with
        | int _ => exact absurd (show false = true from h) (by decide)
        | _ => rfl
      | _ => rfl
    | _ => rfl
  | _ => rfl
theorem allInt {x : V} (h : IB x) (hb : isB x = false) : ∃ i : Int, x = .int i ∧ i.natAbs < 2 ^ 200 := by
  rcases h with h | ⟨b, rfl⟩
  · exact h
  · cases hb
theorem inV01 (f : Int) : inV (.int f) [.int 0, .int 1] = decide (f = 0 ∨ f = 1) := by
  by_cases h0 : f = 0
  · subst h0
    decide
  · by_cases h1 : f = 1
    · subst h1
      decide
    · have e0 : ¬ (0 = f) := fun z => h0 z.symm
      have e1 : ¬ (1 = f) := fun z => h1 z.symm
      simp [inV, eqV, h0, h1, e0, e1]
def spIsMat : Sp := fun vs H Q _ => ∃ (n : Int) (t : Addr) (o p m f : V), vs = [.int n, .ref t] ∧ n.natAbs < 2 ^ 200 ∧ H t = some (.tup [o, p, m, f]) ∧ IB o ∧ IB p ∧ IB m ∧ IB f ∧ ∀ H', Same H H' → Q (.bl (isMat n o p m f)) H'
section
variable {P : Program} {w : World} {K : PySem.W.Frag} {mg : Str → Option Value} {base : Heap}
theorem ok_is_mating {f : Addr} {fd : FuncData} (D : DefAt K mg "is_mating" s_is_mating P_is_mating f fd) (B : Bn mg) : FnOk P w K mg base CX0 1 f fd P_is_mating spIsMat := by
  refine D.F.ok sc_is_mating (fun vs H Q E h => ?_) (fun cdv A outer s H vs Q E hr h => ?_)
  · obtain ⟨n, t, o, p, m, f, rfl, _⟩ := h
    rfl
  · obtain ⟨n, t, o, p, m, f, rfl, hn, ht, ho, hp, hm, hf, q⟩ := h
    refine ⟨_, (pss_cons (ps_asg (pv 1) (pg_tup (by rfl) (pgs_cons (pg_name (i := 2) sc_is_mating.nd rfl (.inl rfl)) (pgs_cons (pg_name (i := 3) sc_is_mating.nd rfl (.inl rfl)) (pgs_cons (pg_name (i := 4) sc_is_mating.nd rfl (.inl rfl)) (pgs_cons (pg_name (i := 5) sc_is_mating.nd rfl (.inl rfl)) pgs_nil))))))
      (pss_cons (ps_if (pt_val (pe_callB (cr_any rfl) (by rfl) B.any (by decide +kernel) (pa_cons (pe_lc (own := [("number", 6)]) (g := gName 6) (by rfl) sc_is_mating.nd (pi_tup (pe_tup (pa_cons (pv 0) (pa_cons (pv 2) (pa_cons (pv 3) (pa_cons (pv 4) (pa_cons (pv 5) pa_nil))))))) (blkOk_by (own := [("number", 6)]) (N := N_is_mating) (sc := defScope s_is_mating) (by decide +kernel)) (fun _ _ _ _ _ => (pg_name (i := 6) sc_is_mating.nd rfl (.inl rfl))) (fun _ _ _ _ _ => pts_nil) (fun _ _ _ _ _ => (pe_callB (show CallR _ _ (rIsi K) from call_isi) (by rfl) B.isinstance (by decide +kernel) (pa_cons (pv 6) (pa_cons (pe_bltn (v := .ty "bool") (by rfl) B.bool (by decide +kernel) rfl) pa_nil))))) pa_nil))) (pss_one (ps_ret pe_bl)) pss_nil)
      (pss_cons (ps_if (PW.pt (pw_or (pt_cmpR op_notIn_seq (pv 5) (pe_tup (pa_cons pe_int (pa_cons pe_int pa_nil))) (by rfl)) (pw_or1 (pt_cmpR op_lt (pv 4) pe_int (nomark _))))) (pss_one (ps_ret pe_bl)) pss_nil)
      (pss_one (ps_ret (pe_and (pe_cmpR op_ge (pe_callB (call_min2 rfl) (by rfl) B.min (by decide +kernel) (pa_cons (pv 2) (pa_cons (pv 3) pa_nil))) pe_int (nomark _)) (pe_one (pe_cmpR op_le (pe_op op_add (pe_callB (call_max2 rfl) (by rfl) B.max (by decide +kernel) (pa_cons (pv 2) (pa_cons (pv 3) pa_nil))) (pv 4)) (pv 0) (nomark _))))))))), ?_⟩
    refine ⟨.ref t, rfl, t, _, rfl, SqT.of ht, rfl, o, _, rfl, p, _, rfl, m, _, rfl, f, _, rfl, rfl, ?_⟩
    refine ⟨.int n, rfl, o, rfl, p, rfl, m, rfl, f, rfl, by show 5 ≤ sizeLine; decide, fun tp ntp => ?_⟩
    refine ⟨tp, rfl, ⟨_, SqT.of upd_same⟩, fun L nL => lc_tup (K := K) (a := tp) (xs := [.int n, o, p, m, f]) (fun i H2 => Same (upd H tp (.tup [.int n, o, p, m, f])) H2 ∧ H2 L = some (.lst ((([.int n, o, p, m, f].map isB).take i).map V.bl)))
      ⟨same_upd nL, upd_same⟩ (fun i H2 _ ⟨sm, _⟩ => SqT.of (sm _ _ upd_same)) ?_ ?_⟩
    · rintro i x H2 hx ⟨sm, e2⟩
      have hi : i < 5 := (List.getElem?_eq_some_iff.mp hx).1
      have hib : IB x := by
        have : x ∈ [.int n, o, p, m, f] := List.mem_of_getElem? hx
        rcases List.mem_cons.mp this with rfl | this
        · exact .inl ⟨n, rfl, hn⟩
        rcases List.mem_cons.mp this with rfl | this
        · exact ho
        rcases List.mem_cons.mp this with rfl | this
        · exact hp
        rcases List.mem_cons.mp this with rfl | this
        · exact hm
        rcases List.mem_cons.mp this with rfl | this
        · exact hf
        · cases this
      obtain ⟨ty, h1, h2⟩ := hib.ty (K := K) (H := H2)
      refine ⟨rfl, ?_⟩
      refine ⟨x, rfl, _, _, _, _, isB x, rfl, ClsV.ty _, h1, h2, ?_⟩
      refine ⟨_, e2, sz_lt (by rw [List.length_map, List.length_take]; omega), fun b o' hb => ?_, ?_⟩
      · rw [upd_ne (ne_of_none hb nL)]
        exact sm _ _ hb
      · rw [upd_same, List.take_add_one, List.getElem?_map, hx, List.map_append]
        rfl
    · rintro H2 ⟨sm, e2⟩
      have e2' : H2 L = some (.lst (([.int n, o, p, m, f].map isB).map V.bl)) := e2
      have sH : Same H H2 := (same_upd ntp).trans sm
      refine ⟨L, _, rfl, SqL.of e2', _, rfl, ?_⟩
      by_cases hb : ([o, p, m, f].map isB).any id = true
      · have e3 : ([.int n, o, p, m, f].map isB).any id = true := hb
        rw [e3]
        refine iteT ?_
        rw [isMat_b hb] at q
        exact q H2 sH
      · have e3 : ([.int n, o, p, m, f].map isB).any id = false := by
          cases e : ([o, p, m, f].map isB).any id with
          | true => exact absurd e hb
          | false => exact e
        rw [e3]
        refine iteF ?_
        have hb' : ([o, p, m, f].map isB).any id = false := e3
        simp only [List.map_cons, List.map_nil, List.any_cons, List.any_nil, id, Bool.or_false, Bool.or_eq_false_iff] at hb'
        obtain ⟨b1, b2, b3, b4⟩ := hb'
        obtain ⟨o, rfl, _⟩ := allInt ho b1
        obtain ⟨p, rfl, _⟩ := allInt hp b2
        obtain ⟨m, rfl, _⟩ := allInt hm b3
        obtain ⟨f, rfl, _⟩ := allInt hf b4
        refine ⟨.int f, rfl, by show 2 ≤ sizeLine; decide, fun t2 n2 => ?_⟩
        have s2 : Same H (upd H2 t2 (.tup [.int 0, .int 1])) := sH.trans (same_upd n2)
        refine ⟨t2, _, rfl, .inr (SqT.of upd_same), rfl, rfl, _, rfl, ?_⟩
        have no : ¬ ((f = 0 ∨ f = 1) ∧ 1 ≤ m ∧ 0 ≤ o ∧ 0 ≤ p ∧ o + m ≤ n ∧ p + m ≤ n) → Q (.bl false) (upd H2 t2 (.tup [.int 0, .int 1])) := fun h => by
          have := q _ s2
          rw [show isMat n (.int o) (.int p) (.int m) (.int f) = false from decide_eq_false h] at this
          exact this
        rw [if_pos rfl, inV01]
        by_cases hf01 : f = 0 ∨ f = 1
        · rw [decide_eq_true hf01]
          refine iteF ?_
          refine ⟨.int m, rfl, m, 1, rfl, rfl, _, rfl, ?_⟩
          refine ite2 (fun h => ?_) (fun h => ?_)
          · have h' : m < 1 := of_decide_eq_true h
            exact no fun z => by omega
          · have h' : ¬ m < 1 := fun z => h (decide_eq_true z)
            refine ⟨.int o, rfl, .int p, rfl, o, p, rfl, _, 0, rfl, rfl, _, rfl, ?_⟩
            refine ite2 (fun g => ?_) (fun g => ?_)
            · have g' : 0 ≤ (if p < o then p else o) := of_decide_eq_true g
              refine ⟨.int o, rfl, .int p, rfl, o, p, rfl, .int m, rfl, _, _, rfl, rfl, .int n, rfl, _, _, rfl, rfl, ?_⟩
              have := q _ s2
              rw [show isMat n (.int o) (.int p) (.int m) (.int f) = decide ((if p > o then p else o) + m ≤ n) from decide_eq_decide.mpr ⟨fun z => by split <;> omega, fun z => ⟨hf01, by omega, by split at g' <;> omega, by split at g' <;> omega, by split at z <;> omega, by split at z <;> omega⟩⟩] at this
              exact this
            · have g' : ¬ 0 ≤ (if p < o then p else o) := fun z => g (decide_eq_true z)
              exact no fun z => g' (by split <;> omega)
        · rw [decide_eq_false hf01]
          refine iteT ?_
          exact no fun z => hf01 z.1
end

/-! ### the standing matings as a list of numbers and matings -/
abbrev M4 := Int × Int × Int × Int
abbrev t4 (x : M4) : HO := tup4 x.1 x.2.1 x.2.2.1 x.2.2.2
abbrev StL := List (Int × M4)
def sget : StL → Int → Option M4
  | [], _ => none
  | s :: r, i => if s.1 = i then some s.2 else sget r i
def sput (S : StL) (i : Int) (x : M4) : StL := S.map fun s => if s.1 = i then (s.1, x) else s
def sdrop (S : StL) (i : Int) : StL := S.filter fun s => decide (s.1 ≠ i)
def StdR (H : Hp) (kv : Key × V) (s : Int × M4) : Prop := kv.1 = Sum.inl s.1 ∧ ∃ t, kv.2 = .ref t ∧ H t = some (t4 s.2)
def Std (H : Hp) (kvs : List (Key × V)) (S : StL) : Prop := Paired (StdR H) kvs S
/-- tuples stay -/
def KeepT (H H' : Hp) : Prop := ∀ b xs, H b = some (.tup xs) → H' b = some (.tup xs)
theorem Std.keep {H H' : Hp} (k : KeepT H H') : ∀ {kvs : List (Key × V)} {S : StL}, Std H kvs S → Std H' kvs S
  | _, _, .nil => .nil
  | _, _, .cons h r => .cons ⟨h.1, h.2.elim fun t e => ⟨t, e.1, k _ _ e.2⟩⟩ (Std.keep k r)
theorem Std.get {H : Hp} (i : Int) : ∀ {kvs : List (Key × V)} {S : StL}, Std H kvs S → (sget S i = none → valV kvs (Sum.inl i) = none) ∧ ∀ x, sget S i = some x → ∃ t, valV kvs (Sum.inl i) = some (.ref t) ∧ H t = some (t4 x)
  | _, _, .nil => ⟨fun _ => rfl, fun x h => nomatch h⟩
  | _, _, .cons (a := kv) (b := s) h r => by
    obtain ⟨e1, t, e2, e3⟩ := h
    obtain ⟨g1, g2⟩ := Std.get i r
    by_cases e : s.1 = i
    · have ek : kv.1 = Sum.inl i := by rw [e1, e]
      unfold sget
      rw [if_pos e]
      refine ⟨fun z => (by cases z), fun x hx => ?_⟩
      cases hx
      exact ⟨t, by rw [valV_pos ek, e2], e3⟩
    · have ek : ¬ kv.1 = Sum.inl i := by
        rw [e1]
        exact fun z => e (Sum.inl.inj z)
      unfold sget
      rw [if_neg e, valV_neg ek]
      exact ⟨g1, g2⟩
theorem Std.keys {H : Hp} : ∀ {kvs : List (Key × V)} {S : StL}, Std H kvs S → kvs.map (·.1) = (S.map (·.1)).map Sum.inl
  | _, _, .nil => rfl
  | _, _, .cons h r => by
    rw [List.map_cons, List.map_cons, List.map_cons, Std.keys r, h.1]
theorem Std.length {H : Hp} : ∀ {kvs : List (Key × V)} {S : StL}, Std H kvs S → kvs.length = S.length
  | _, _, .nil => rfl
  | _, _, .cons h r => congrArg (· + 1) (Std.length r)
theorem Std.putMap {H : Hp} {i : Int} {t : Addr} {x : M4} (ht : H t = some (t4 x)) : ∀ {kvs : List (Key × V)} {S : StL}, Std H kvs S → Std H (kvs.map fun kv => if kv.1 = Sum.inl i then (kv.1, V.ref t) else kv) (sput S i x)
  | _, _, .nil => .nil
  | _, _, .cons (a := kv) (b := s) h r => by
    refine .cons ?_ (Std.putMap ht r)
    show StdR H (if kv.1 = Sum.inl i then (kv.1, V.ref t) else kv) (if s.1 = i then (s.1, x) else s)
    by_cases e : s.1 = i
    · have ek : kv.1 = Sum.inl i := by rw [h.1, e]
      rw [if_pos ek, if_pos e]
      exact ⟨h.1, t, rfl, ht⟩
    · have ek : ¬ kv.1 = Sum.inl i := by
        rw [h.1]
        exact fun z => e (Sum.inl.inj z)
      rw [if_neg ek, if_neg e]
      exact h
theorem Std.put {H : Hp} {i : Int} {t : Addr} {x y : M4} {kvs : List (Key × V)} {S : StL} (h : Std H kvs S) (hi : sget S i = some y) (ht : H t = some (t4 x)) : Std H (putK kvs (Sum.inl i) (.ref t)) (sput S i x) := by
  obtain ⟨u, hu, _⟩ := (h.get i).2 y hi
  unfold putK
  rw [if_pos (by rw [valV_any, hu]; rfl)]
  exact h.putMap ht
theorem Std.drop {H : Hp} {i : Int} : ∀ {kvs : List (Key × V)} {S : StL}, Std H kvs S → Std H (dropK kvs (Sum.inl i)) (sdrop S i)
  | _, _, .nil => .nil
  | _, _, .cons (a := kv) (b := s) (l₁ := ks) (l₂ := rs) h r => by
    by_cases e : s.1 = i
    · have ek : kv.1 = Sum.inl i := by rw [h.1, e]
      rw [dropK_pos ek, show sdrop (s :: rs) i = sdrop rs i from List.filter_cons_of_neg (by simp [e])]
      exact Std.drop r
    · have ek : ¬ kv.1 = Sum.inl i := by
        rw [h.1]
        exact fun z => e (Sum.inl.inj z)
      rw [dropK_neg ek, show sdrop (s :: rs) i = s :: sdrop rs i from List.filter_cons_of_pos (by simp [e])]
      exact .cons h (Std.drop r)
theorem Std.snoc {H : Hp} {kv : Key × V} {s : Int × M4} (hs : StdR H kv s) : ∀ {kvs : List (Key × V)} {S : StL}, Std H kvs S → Std H (kvs ++ [kv]) (S ++ [s])
  | _, _, .nil => .cons hs .nil
  | _, _, .cons h r => .cons h (Std.snoc hs r)
theorem sput_keys (S : StL) (i : Int) (x : M4) : (sput S i x).map (·.1) = S.map (·.1) := by
  unfold sput
  rw [List.map_map]
  refine List.map_congr_left fun s _ => ?_
  show (if s.1 = i then (s.1, x) else s).1 = s.1
  split <;> rfl
theorem sput_length (S : StL) (i : Int) (x : M4) : (sput S i x).length = S.length := List.length_map _
theorem sdrop_keys {S : StL} {i : Int} (h : (S.map (·.1)).Pairwise (· < ·)) : ((sdrop S i).map (·.1)).Pairwise (· < ·) := h.sublist ((List.filter_sublist).map _)
theorem sdrop_length (S : StL) (i : Int) : (sdrop S i).length ≤ S.length := List.length_filter_le _ _
theorem sget_put_ne {i j : Int} {x : M4} (h : i ≠ j) : ∀ S : StL, sget (sput S i x) j = sget S j
  | [] => rfl
  | s :: r => by
    show sget ((if s.1 = i then (s.1, x) else s) :: sput r i x) j = sget (s :: r) j
    have ih := sget_put_ne h r (x := x)
    by_cases e : s.1 = i
    · rw [if_pos e]
      have nj : ¬ s.1 = j := fun z => h (e.symm.trans z)
      unfold sget
      rw [if_neg nj, if_neg nj, ih]
    · rw [if_neg e]
      unfold sget
      rw [ih]
/-! ### a front -/
def fr (e : Int) (s q : Addr) : List (Str × V) := [("edge", .int e), ("standing", .ref s), ("past", .ref q)]
theorem fr_make (e : Int) (s q : Addr) : putF "past" (.ref q) (putF "standing" (.ref s) (putF "edge" (.int e) [])) = fr e s q := by
  unfold fr
  show putF "past" (.ref q) (putF "standing" (.ref s) [("edge", .int e)]) = _
  have e1 : putF "standing" (.ref s) [(("edge" : Str), V.int e)] = [(("edge" : Str), V.int e), (("standing" : Str), V.ref s)] := by
    unfold putF
    rw [if_neg (by decide +kernel)]
    rfl
  rw [e1]
  unfold putF
  rw [if_neg (by decide +kernel)]
  unfold putF
  rw [if_neg (by decide +kernel)]
  rfl
theorem fr_edge (e : Int) (s q : Addr) : (fr e s q).lookup ("edge" : Str) = some (.int e) := by
  unfold fr
  rw [lookup_put, if_pos rfl]
theorem fr_standing (e : Int) (s q : Addr) : (fr e s q).lookup ("standing" : Str) = some (.ref s) := by
  unfold fr
  rw [lookup_put, if_neg (by decide +kernel), lookup_put, if_pos rfl]
theorem fr_past (e : Int) (s q : Addr) : (fr e s q).lookup ("past" : Str) = some (.ref q) := by
  unfold fr
  rw [lookup_put, if_neg (by decide +kernel), lookup_put, if_neg (by decide +kernel), lookup_put, if_pos rfl]
theorem fr_no {e : Int} {s q : Addr} {m : Str} (h1 : ¬ m = "edge") (h2 : ¬ m = "standing") (h3 : ¬ m = "past") : (fr e s q).lookup m = none := by
  unfold fr
  rw [lookup_put, if_neg h1, lookup_put, if_neg h2, lookup_put, if_neg h3]
  rfl
structure FrT (K : PySem.W.Frag) (mg : Str → Option Value) (C : Addr) : Prop where
  gC : mg "Front" = some (.ref C)
  cl : Cls K C
  nE : NoAttr K C "edge"
  nS : NoAttr K C "standing"
  nP : NoAttr K C "past"
structure FrAt (C : Addr) (H : Hp) (a s q : Addr) (e : Int) (S : StL) (ps : List V) : Prop where
  at_a : ∃ dx, H a = some (.ins C dx (fr e s q))
  at_s : ∃ kvs, H s = some (.dK kvs) ∧ Std H kvs S
  at_q : H q = some (.lst ps)
  up : (S.map (·.1)).Pairwise (· < ·)
  len : S.length ≤ 100
/-- all but the front stands -/
def Off (a s q : Addr) (H H' : Hp) : Prop := ∀ b o, H b = some o → b ≠ a → b ≠ s → b ≠ q → H' b = some o
theorem Off.of_same {a s q : Addr} {H H' : Hp} (e : Same H H') : Off a s q H H' := fun b o h _ _ _ => e b o h
theorem Off.trans {a s q : Addr} {H H1 H2 : Hp} (x : Off a s q H H1) (y : Off a s q H1 H2) : Off a s q H H2 := fun b o h h1 h2 h3 => y b o (x b o h h1 h2 h3) h1 h2 h3
theorem FrAt.ne_tup {C : Addr} {H : Hp} {a s q b : Addr} {e : Int} {S : StL} {ps xs : List V} (h : FrAt C H a s q e S ps) (hb : H b = some (.tup xs)) : b ≠ a ∧ b ≠ s ∧ b ≠ q := by
  obtain ⟨dx, ea⟩ := h.at_a
  obtain ⟨kvs, es, _⟩ := h.at_s
  exact ⟨ne_of hb ea (fun z => by cases z), ne_of hb es (fun z => by cases z), ne_of hb h.at_q (fun z => by cases z)⟩
theorem FrAt.same {C : Addr} {H H' : Hp} {a s q : Addr} {e : Int} {S : StL} {ps : List V} (h : FrAt C H a s q e S ps) (k : Same H H') : FrAt C H' a s q e S ps := by
  obtain ⟨⟨dx, ea⟩, ⟨kvs, es, st⟩, eq, up, len⟩ := h
  exact ⟨⟨dx, k _ _ ea⟩, ⟨kvs, k _ _ es, st.keep fun b xs hb => k _ _ hb⟩, k _ _ eq, up, len⟩
/-- the dict anew -/
theorem FrAt.dict {C : Addr} {H : Hp} {a s q : Addr} {e : Int} {S S' : StL} {ps : List V} {kvs : List (Key × V)} (h : FrAt C H a s q e S ps) (st : Std H kvs S') (up : (S'.map (·.1)).Pairwise (· < ·)) (len : S'.length ≤ 100) :
    FrAt C (upd H s (.dK kvs)) a s q e S' ps ∧ Off a s q H (upd H s (.dK kvs)) := by
  obtain ⟨⟨dx, ea⟩, ⟨kvs0, es, st0⟩, eq, _, _⟩ := h
  have n1 : a ≠ s := ne_of ea es (fun z => by cases z)
  have n2 : q ≠ s := ne_of eq es (fun z => by cases z)
  refine ⟨⟨⟨dx, by rw [upd_ne n1]; exact ea⟩, ⟨kvs, upd_same, st.keep fun b xs hb => ?_⟩, by rw [upd_ne n2]; exact eq, up, len⟩, fun b o hb _ h2 _ => ?_⟩
  · rw [upd_ne (ne_of hb es (fun z => by cases z))]
    exact hb
  · rw [upd_ne h2]
    exact hb
theorem perm_sorted : ∀ {ys ks : List Int}, ys.Perm ks → ys.Pairwise (· ≤ ·) → ks.Pairwise (· < ·) → ys = ks
  | [], ks, p, _, _ => (List.Perm.nil_eq p)
  | y :: ys, [], p, _, _ => nomatch (List.Perm.eq_nil p)
  | y :: ys, k :: ks, p, h1, h2 => by
    have m1 : y ∈ k :: ks := p.subset List.mem_cons_self
    have m2 : k ∈ y :: ys := p.symm.subset List.mem_cons_self
    have e : y = k := by
      rcases List.mem_cons.mp m1 with z | z
      · exact z
      · rcases List.mem_cons.mp m2 with z' | z'
        · exact z'.symm
        · have a1 := (List.pairwise_cons.mp h1).1 _ z'
          have a2 := (List.pairwise_cons.mp h2).1 _ z
          omega
    subst e
    rw [perm_sorted (List.Perm.cons_inv p) (List.pairwise_cons.mp h1).2 (List.pairwise_cons.mp h2).2]
section
variable {X : Cx} {K : PySem.W.Frag}
/-- o.f inside a comprehension -/
theorem pe_fldK {e : Expr} {f : Str} {pos : Pos} {ta : TE} (hK : X.K = K) (he : PE X e ta) (hb : attributeBase e f X.env (eval e X.env) = eval e X.env) : PE X (.Attribute e f pos) (tFld K ta f) := by
  subst hK
  exact pe_fld he hb
end

/-! ### need_length, need_mating, need_road of a road that is right -/
abbrev s_need_from : Stmt := top 26
abbrev N_need_from : List Str := ["low", "number"]
abbrev P_need_from : List Str := ["low", "number"]
theorem sc_need_from : FnScope N_need_from P_need_from (defScope s_need_from) := ⟨rfl, rfl, rfl, by decide +kernel, rfl, by decide +kernel, by decide +kernel⟩
abbrev s_need_within : Stmt := top 27
abbrev N_need_within : List Str := ["low", "high", "number"]
abbrev P_need_within : List Str := ["low", "high", "number"]
theorem sc_need_within : FnScope N_need_within P_need_within (defScope s_need_within) := ⟨rfl, rfl, rfl, by decide +kernel, rfl, by decide +kernel, by decide +kernel⟩
abbrev s_need_length : Stmt := top 28
abbrev N_need_length : List Str := ["number"]
abbrev P_need_length : List Str := ["number"]
theorem sc_need_length : FnScope N_need_length P_need_length (defScope s_need_length) := ⟨rfl, rfl, rfl, by decide +kernel, rfl, by decide +kernel, by decide +kernel⟩
abbrev s_need_mating : Stmt := top 30
abbrev N_need_mating : List Str := ["length", "mating"]
abbrev P_need_mating : List Str := ["length", "mating"]
theorem sc_need_mating : FnScope N_need_mating P_need_mating (defScope s_need_mating) := ⟨rfl, rfl, rfl, by decide +kernel, rfl, by decide +kernel, by decide +kernel⟩
abbrev s_need_road : Stmt := top 40
abbrev N_need_road : List Str := ["length", "matings", "mating"]
abbrev P_need_road : List Str := ["length", "matings"]
theorem sc_need_road : FnScope N_need_road P_need_road (defScope s_need_road) := ⟨rfl, rfl, rfl, by decide +kernel, rfl, by decide +kernel, by decide +kernel⟩
def spNeed1 (n : Int) : Sp := fun vs H Q _ => ∃ (t : Addr) (m : Int × Int × Int × Int), vs = [.int n, .ref t] ∧ H t = some (t4 m) ∧ ((m.2.2.2 = 0 ∨ m.2.2.2 = 1) ∧ 1 ≤ m.2.2.1 ∧ 0 ≤ m.1 ∧ 0 ≤ m.2.1 ∧ m.1 + m.2.2.1 ≤ n ∧ m.2.1 + m.2.2.1 ≤ n) ∧ ∀ H', Same H H' → Q .non H'
def spFrom0 : Sp := fun vs H Q _ => ∃ lo n : Int, vs = [.int lo, .int n] ∧ lo ≤ n ∧ Q .non H
def spWithin0 : Sp := fun vs H Q _ => ∃ lo hi n : Int, vs = [.int lo, .int hi, .int n] ∧ lo ≤ n ∧ n ≤ hi ∧ Q .non H
def spNeed0 : Sp := fun vs H Q _ => ∃ n : Int, vs = [.int n] ∧ 0 ≤ n ∧ n ≤ 1000000000000000000 ∧ Q .non H
def Mok (n : Int) (x : M4) : Prop := (x.2.2.2 = 0 ∨ x.2.2.2 = 1) ∧ 1 ≤ x.2.2.1 ∧ 0 ≤ x.1 ∧ 0 ≤ x.2.1 ∧ x.1 + x.2.2.1 ≤ n ∧ x.2.1 + x.2.2.1 ≤ n
def Mts (H : Hp) (ts : List Addr) (ms : List M4) : Prop := Paired (fun t x => H t = some (t4 x)) ts ms
theorem Mts.same {H H' : Hp} (k : Same H H') : ∀ {ts : List Addr} {ms : List M4}, Mts H ts ms → Mts H' ts ms
  | _, _, .nil => .nil
  | _, _, .cons h r => .cons (k _ _ h) (Mts.same k r)
theorem Mts.length {H : Hp} : ∀ {ts : List Addr} {ms : List M4}, Mts H ts ms → ts.length = ms.length
  | _, _, .nil => rfl
  | _, _, .cons _ r => congrArg (· + 1) (Mts.length r)
theorem Mts.at {H : Hp} : ∀ {ts : List Addr} {ms : List M4}, Mts H ts ms → ∀ (i : Nat) (t : Addr), ts[i]? = some t → ∃ x, ms[i]? = some x ∧ H t = some (t4 x)
  | _, _, .nil, i, t, h => by simp at h
  | _, _, .cons (b := x) h r, 0, t, e => by
    cases e
    exact ⟨x, rfl, h⟩
  | _, _, .cons h r, i + 1, t, e => Mts.at r i t e
def spNeedM : Sp := fun vs H Q _ => ∃ (n : Int) (L : Addr) (ts : List Addr) (ms : List M4), vs = [.int n, .ref L] ∧ 0 ≤ n ∧ n ≤ 1000000000000000000 ∧ (H L = some (.lst (ts.map V.ref)) ∨ H L = some (.tup (ts.map V.ref))) ∧ Mts H ts ms ∧ (∀ x ∈ ms, Mok n x) ∧ ms.length ≤ 24 ∧ ∀ H', Same H H' → Q .non H'
section
variable {P : Program} {w : World} {K : PySem.W.Frag} {mg : Str → Option Value} {base : Heap}
theorem ok_from0 {f : Addr} {fd : FuncData} (D : DefAt K mg "need_from" s_need_from P_need_from f fd) (B : Bn mg) : FnOk P w K mg base CX0 1 f fd P_need_from spFrom0 := by
  refine D.F.ok sc_need_from (fun vs H Q E h => ?_) (fun cdv A outer s H vs Q E hr h => ?_)
  · obtain ⟨lo, n, rfl, _⟩ := h
    rfl
  · obtain ⟨lo, n, rfl, n0, q⟩ := h
    refine ⟨_, (pss_one (ps_if (PW.pt (pw_or (pt_val (pe_callB call_isi (by rfl) B.isinstance (by decide +kernel) (pa_cons (pv 1) (pa_cons (pe_bltn (v := .ty "bool") (by rfl) B.bool (by decide +kernel) rfl) pa_nil)))) (pw_or1 (pt_cmpR op_lt (pv 1) (pv 0) (nomark _))))) (pss_one ps_never) pss_nil)), ?_⟩
    refine ⟨.int n, rfl, _, _, _, _, false, rfl, ClsV.ty _, TyX.base (TyOf.int _), kit_ty (by decide +kernel), _, rfl, iteF ?_⟩
    exact ⟨.int n, rfl, .int lo, rfl, n, lo, rfl, rfl, _, rfl, ite2 (fun h => absurd (of_decide_eq_true h) (by omega)) (fun _ => q)⟩
theorem ok_within0 {f fA : Addr} {fd fdA : FuncData} (D : DefAt K mg "need_within" s_need_within P_need_within f fd) (D_need_from : DefAt K mg "need_from" s_need_from P_need_from fA fdA) (B : Bn mg) : FnOk P w K mg base CX0 2 f fd P_need_within spWithin0 := by
  have G_need_from : FnOk P w K mg base CX0 1 fA fdA P_need_from spFrom0 := ok_from0 D_need_from B
  refine D.F.ok sc_need_within (fun vs H Q E h => ?_) (fun cdv A outer s H vs Q E hr h => ?_)
  · obtain ⟨lo, hi, n, rfl, _⟩ := h
    rfl
  · obtain ⟨lo, hi, n, rfl, n0, n1, q⟩ := h
    refine ⟨_, (pss_cons (ps_expr (pe_call G_need_from (hr.mono (by omega)) (by rfl) D_need_from.g D_need_from.F.kp D_need_from.b .nil pass0 (pa_cons (pv 0) (pa_cons (pv 2) pa_nil))))
      (pss_one (ps_if (pt_cmpR op_gt (pv 2) (pv 1) (nomark _)) (pss_one ps_never) pss_nil))), ?_⟩
    refine ⟨.int lo, rfl, .int n, rfl, lo, n, rfl, n0, ?_⟩
    exact ⟨.int n, rfl, .int hi, rfl, n, hi, rfl, rfl, _, rfl, ite2 (fun h => absurd (of_decide_eq_true h) (by omega)) (fun _ => q)⟩
theorem ok_need0 {f fA fV : Addr} {fd fdA fdV : FuncData} {tok : Tok} (D : DefAt K mg "need_length" s_need_length P_need_length f fd) (D_need_from : DefAt K mg "need_from" s_need_from P_need_from fA fdA) (D_need_within : DefAt K mg "need_within" s_need_within P_need_within fV fdV) (g_FAR : mg "FAR" = some (.int 1000000000000000000 tok)) (B : Bn mg) : FnOk P w K mg base CX0 3 f fd P_need_length spNeed0 := by
  have G_need_within : FnOk P w K mg base CX0 2 fV fdV P_need_within spWithin0 := ok_within0 D_need_within D_need_from B
  refine D.F.ok sc_need_length (fun vs H Q E h => ?_) (fun cdv A outer s H vs Q E hr h => ?_)
  · obtain ⟨n, rfl, _⟩ := h
    rfl
  · obtain ⟨n, rfl, n0, n1, q⟩ := h
    refine ⟨_, (pss_one (ps_expr (pe_call G_need_within (hr.mono (by omega)) (by rfl) D_need_within.g D_need_within.F.kp D_need_within.b .nil pass0 (pa_cons pe_int (pa_cons (pe_glob (v := .int _) (by rfl) g_FAR ⟨_, rfl⟩) (pa_cons (pv 0) pa_nil)))))), ?_⟩
    exact ⟨.int n, rfl, 0, 1000000000000000000, n, rfl, n0, n1, q⟩
theorem ok_need1 {f fM : Addr} {fd fdM : FuncData} {n : Int} (D : DefAt K mg "need_mating" s_need_mating P_need_mating f fd) (D_is_mating : DefAt K mg "is_mating" s_is_mating P_is_mating fM fdM) (n0 : 0 ≤ n) (n1 : n ≤ 1000000000000000000) (B : Bn mg) : FnOk P w K mg base CX0 2 f fd P_need_mating (spNeed1 n) := by
  have G_is_mating : FnOk P w K mg base CX0 1 fM fdM P_is_mating spIsMat := ok_is_mating D_is_mating B
  refine D.F.ok sc_need_mating (fun vs H Q E h => ?_) (fun cdv A outer s H vs Q E hr h => ?_)
  · obtain ⟨t, m, rfl, _⟩ := h
    rfl
  · obtain ⟨t, m, rfl, em, ⟨h1, h2, h3, h4, h5, h6⟩, q⟩ := h
    refine ⟨_, (pss_one (ps_if (pt_not (pt_val (pe_call G_is_mating (hr.mono (by omega)) (by rfl) D_is_mating.g D_is_mating.F.kp D_is_mating.b .nil pass0 (pa_cons (pv 0) (pa_cons (pv 1) pa_nil))))) (pss_one ps_never) pss_nil)), ?_⟩
    refine ⟨.int n, rfl, .ref t, rfl, n, t, .int m.1, .int m.2.1, .int m.2.2.1, .int m.2.2.2, rfl, by omega, em, .int (by omega), .int (by omega), .int (by omega), .int (by omega), fun H3 s3 => ?_⟩
    rw [show isMat n (.int m.1) (.int m.2.1) (.int m.2.2.1) (.int m.2.2.2) = true from decide_eq_true ⟨h1, h2, h3, h4, h5, h6⟩]
    exact ⟨true, rfl, iteF (q _ s3)⟩
theorem ok_needR {f fA fV fN fM fI : Addr} {fd fdA fdV fdN fdM fdI : FuncData} {tok1 tok2 : Tok} (D : DefAt K mg "need_road" s_need_road P_need_road f fd) (D_need_from : DefAt K mg "need_from" s_need_from P_need_from fA fdA) (D_need_within : DefAt K mg "need_within" s_need_within P_need_within fV fdV) (D_need_length : DefAt K mg "need_length" s_need_length P_need_length fN fdN) (D_need_mating : DefAt K mg "need_mating" s_need_mating P_need_mating fM fdM) (D_is_mating : DefAt K mg "is_mating" s_is_mating P_is_mating fI fdI)
    (g_FAR : mg "FAR" = some (.int 1000000000000000000 tok1)) (g_MOST : mg "MOST" = some (.int 24 tok2)) (B : Bn mg) : FnOk P w K mg base CX0 4 f fd P_need_road spNeedM := by
  have G_need_length : FnOk P w K mg base CX0 3 fN fdN P_need_length spNeed0 := ok_need0 D_need_length D_need_from D_need_within g_FAR B
  refine D.F.ok sc_need_road (fun vs H Q E h => ?_) (fun cdv A outer s H vs Q E hr h => ?_)
  · obtain ⟨n, L, ts, ms, rfl, _⟩ := h
    rfl
  · obtain ⟨n, L, ts, ms, rfl, n0, n1, hL, hM, hok, hl, q⟩ := h
    have G_need_mating : FnOk P w K mg base CX0 2 fM fdM P_need_mating (spNeed1 n) := ok_need1 D_need_mating D_is_mating n0 n1 B
    rcases hL with hL | hL
    · skip
      refine ⟨_, (pss_cons (ps_expr (pe_call G_need_length (hr.mono (by omega)) (by rfl) D_need_length.g D_need_length.F.kp D_need_length.b .nil pass0 (pa_cons (pv 0) pa_nil)))
      (pss_cons (ps_for PassesOwn.never rfl (pi_list (pv 1)) (pg_name (i := 2) sc_need_road.nd rfl (.inl rfl)) (pss_one (ps_expr (pe_call G_need_mating (hr.mono (by omega)) (by rfl) D_need_mating.g D_need_mating.F.kp D_need_mating.b .nil pass0 (pa_cons (pv 0) (pa_cons (pv 2) pa_nil))))))
      (pss_one (ps_if (pt_cmpR op_gt (pe_callB call_len_seq (by rfl) B.len (by decide +kernel) (pa_cons (pv 1) pa_nil)) (pe_glob (v := .int _) (by rfl) g_MOST ⟨_, rfl⟩) (nomark _)) (pss_one ps_never) pss_nil)))), ?_⟩
      refine ⟨.int n, rfl, n, rfl, n0, n1, ?_⟩
      refine ⟨.ref L, rfl, L, rfl, ⟨_, SqL.of hL⟩, for_list (K := K) (a := L) (xs := ts.map V.ref) (fun i σ H2 => ∃ y, σ = [some (.int n), some (.ref L), y] ∧ Same H H2) ⟨_, rfl, Same.refl H⟩ (fun i σ H2 _ ⟨_, _, sm⟩ => SqL.of (sm _ _ hL)) ?_ ?_⟩
      · rintro i x σ H2 hx ⟨y, rfl, sm⟩
        obtain ⟨t, ht, rfl⟩ : ∃ t, ts[i]? = some t ∧ V.ref t = x := by
          rw [List.getElem?_map] at hx
          exact Option.map_eq_some_iff.mp hx
        obtain ⟨m, hm, em⟩ := hM.at i t ht
        exact ⟨.int n, rfl, .ref t, rfl, t, m, rfl, sm _ _ em, hok m (List.mem_of_getElem? hm), fun H3 s3 => ⟨_, rfl, sm.trans s3⟩⟩
      · rintro σ H2 ⟨y, rfl, sm⟩
        have e1 := hM.length
        refine ⟨.ref L, rfl, L, _, rfl, .inl (SqL.of (sm _ _ hL)), _, _, rfl, rfl, _, rfl, ite2 (fun h => ?_) (fun _ => q H2 sm)⟩
        have h' := of_decide_eq_true h
        rw [List.length_map] at h'
        omega
    · skip
      refine ⟨_, (pss_cons (ps_expr (pe_call G_need_length (hr.mono (by omega)) (by rfl) D_need_length.g D_need_length.F.kp D_need_length.b .nil pass0 (pa_cons (pv 0) pa_nil)))
      (pss_cons (ps_for PassesOwn.never rfl (pi_tup (pv 1)) (pg_name (i := 2) sc_need_road.nd rfl (.inl rfl)) (pss_one (ps_expr (pe_call G_need_mating (hr.mono (by omega)) (by rfl) D_need_mating.g D_need_mating.F.kp D_need_mating.b .nil pass0 (pa_cons (pv 0) (pa_cons (pv 2) pa_nil))))))
      (pss_one (ps_if (pt_cmpR op_gt (pe_callB call_len_seq (by rfl) B.len (by decide +kernel) (pa_cons (pv 1) pa_nil)) (pe_glob (v := .int _) (by rfl) g_MOST ⟨_, rfl⟩) (nomark _)) (pss_one ps_never) pss_nil)))), ?_⟩
      refine ⟨.int n, rfl, n, rfl, n0, n1, ?_⟩
      refine ⟨.ref L, rfl, L, rfl, ⟨_, SqT.of hL⟩, for_tup (K := K) (a := L) (xs := ts.map V.ref) (fun i σ H2 => ∃ y, σ = [some (.int n), some (.ref L), y] ∧ Same H H2) ⟨_, rfl, Same.refl H⟩ (fun i σ H2 _ ⟨_, _, sm⟩ => SqT.of (sm _ _ hL)) ?_ ?_⟩
      · rintro i x σ H2 hx ⟨y, rfl, sm⟩
        obtain ⟨t, ht, rfl⟩ : ∃ t, ts[i]? = some t ∧ V.ref t = x := by
          rw [List.getElem?_map] at hx
          exact Option.map_eq_some_iff.mp hx
        obtain ⟨m, hm, em⟩ := hM.at i t ht
        exact ⟨.int n, rfl, .ref t, rfl, t, m, rfl, sm _ _ em, hok m (List.mem_of_getElem? hm), fun H3 s3 => ⟨_, rfl, sm.trans s3⟩⟩
      · rintro σ H2 ⟨y, rfl, sm⟩
        have e1 := hM.length
        refine ⟨.ref L, rfl, L, _, rfl, .inr (SqT.of (sm _ _ hL)), _, _, rfl, rfl, _, rfl, ite2 (fun h => ?_) (fun _ => q H2 sm)⟩
        have h' := of_decide_eq_true h
        rw [List.length_map] at h'
        omega
end
/-! ### {k: v for i, x in enumerate(us)} -/
theorem dc_enum {K : PySem.W.Frag} {a : Addr} {us : List V} {g : TG} {tt : TT} {tk tv : TE} {vs : List Nat} {σ : L2.St} {G1 : Hp} {D : Addr} {Qd : Hp → Prop} (Iv : Nat → Hp → Prop) (h0 : Iv 0 (upd G1 D (.dK []))) (hl : ∀ j G, j ≤ us.length → Iv j G → SqL K G a us)
    (hs : ∀ j u G T, us[j]? = some u → Iv j G → G T = none → g (.ref T) (wipe σ vs) (upd G T (.tup [.int (j : Nat), u])) fun σ2 G2 => wipe σ2 vs = wipe σ vs ∧ tt σ2 G2 fun b G3 =>
      if b = true then tk σ2 G3 fun y G4 => tv σ2 G4 fun z G5 => ∃ kvs k, y = kV k ∧ G5 D = some (.dK kvs) ∧ kvs.length < sizeLine ∧ Iv (j + 1) (upd G5 D (.dK (putK kvs k z))) else Iv (j + 1) G3) (hd : ∀ G, Iv us.length G → Qd G) :
    ∃ W : Nat → Nat → Hp → Prop, (∃ c, W 0 c (upd G1 D (.dK []))) ∧ ∀ j c G, W j c G →
      ((Ite K a).stop j G ∧ Qd G) ∨ ((Ite K a).go j G ∧ ∃ Nx : Hp → Prop, (∀ G', Nx G' → ∃ c', c' < c ∧ W (j + 1) c' G') ∧ ∀ u G', (Ite K a).yld j G u G' → g u (wipe σ vs) G' fun σ2 G2 => wipe σ2 vs = wipe σ vs ∧ tt σ2 G2 fun b G3 =>
        if b = true then tk σ2 G3 fun y G4 => tv σ2 G4 fun z G5 => ∃ kvs k, y = kV k ∧ G5 D = some (.dK kvs) ∧ kvs.length < sizeLine ∧ Nx (upd G5 D (.dK (putK kvs k z))) else Nx G3) := by
  refine ⟨fun j c G => (c = us.length - j ∧ j ≤ us.length) ∧ Iv j G, ⟨us.length, ⟨by simp, Nat.zero_le _⟩, h0⟩, ?_⟩
  rintro j c G ⟨⟨rfl, hj⟩, p⟩
  have q := hl j G hj p
  rcases Nat.lt_or_ge j us.length with lt | ge
  · refine .inr ⟨⟨us, us[j], q, by simp [lt]⟩, Iv (j + 1), fun G' p' => ⟨us.length - (j + 1), by omega, ⟨rfl, lt⟩, p'⟩, ?_⟩
    rintro u G' ⟨T, z, rfl, nT, rfl, hz⟩
    exact hs j z G T (hz us q) p nT
  · obtain rfl : j = us.length := by omega
    exact .inl ⟨⟨us, q, Nat.le_refl _⟩, hd G p⟩
/-! ### {k: v for i, x in enumerate(us)}, us a tuple -/
theorem dc_enumT {K : PySem.W.Frag} {a : Addr} {us : List V} {g : TG} {tt : TT} {tk tv : TE} {vs : List Nat} {σ : L2.St} {G1 : Hp} {D : Addr} {Qd : Hp → Prop} (Iv : Nat → Hp → Prop) (h0 : Iv 0 (upd G1 D (.dK []))) (hl : ∀ j G, j ≤ us.length → Iv j G → SqT K G a us)
    (hs : ∀ j u G T, us[j]? = some u → Iv j G → G T = none → g (.ref T) (wipe σ vs) (upd G T (.tup [.int (j : Nat), u])) fun σ2 G2 => wipe σ2 vs = wipe σ vs ∧ tt σ2 G2 fun b G3 =>
      if b = true then tk σ2 G3 fun y G4 => tv σ2 G4 fun z G5 => ∃ kvs k, y = kV k ∧ G5 D = some (.dK kvs) ∧ kvs.length < sizeLine ∧ Iv (j + 1) (upd G5 D (.dK (putK kvs k z))) else Iv (j + 1) G3) (hd : ∀ G, Iv us.length G → Qd G) :
    ∃ W : Nat → Nat → Hp → Prop, (∃ c, W 0 c (upd G1 D (.dK []))) ∧ ∀ j c G, W j c G →
      ((IteT K a).stop j G ∧ Qd G) ∨ ((IteT K a).go j G ∧ ∃ Nx : Hp → Prop, (∀ G', Nx G' → ∃ c', c' < c ∧ W (j + 1) c' G') ∧ ∀ u G', (IteT K a).yld j G u G' → g u (wipe σ vs) G' fun σ2 G2 => wipe σ2 vs = wipe σ vs ∧ tt σ2 G2 fun b G3 =>
        if b = true then tk σ2 G3 fun y G4 => tv σ2 G4 fun z G5 => ∃ kvs k, y = kV k ∧ G5 D = some (.dK kvs) ∧ kvs.length < sizeLine ∧ Nx (upd G5 D (.dK (putK kvs k z))) else Nx G3) := by
  refine ⟨fun j c G => (c = us.length - j ∧ j ≤ us.length) ∧ Iv j G, ⟨us.length, ⟨by simp, Nat.zero_le _⟩, h0⟩, ?_⟩
  rintro j c G ⟨⟨rfl, hj⟩, p⟩
  have q := hl j G hj p
  rcases Nat.lt_or_ge j us.length with lt | ge
  · refine .inr ⟨⟨us, us[j], q, by simp [lt]⟩, Iv (j + 1), fun G' p' => ⟨us.length - (j + 1), by omega, ⟨rfl, lt⟩, p'⟩, ?_⟩
    rintro u G' ⟨T, z, rfl, nT, rfl, hz⟩
    exact hs j z G T (hz us q) p nT
  · obtain rfl : j = us.length := by omega
    exact .inl ⟨⟨us, q, rfl⟩, hd G p⟩

/-! ### put -/
def nrm (x : M4) : M4 := ((if x.2.1 < x.1 then x.2.1 else x.1), (if x.2.1 < x.1 then x.1 else x.2.1), x.2.2.1, x.2.2.2)
abbrev s_Fput : Stmt := inClass (top 48) 15
abbrev N_Fput : List Str := ["self", "i", "mating"]
abbrev P_Fput : List Str := ["self", "i", "mating"]
theorem sc_Fput : FnScope N_Fput P_Fput (defScope s_Fput) := ⟨rfl, rfl, rfl, by decide +kernel, rfl, by decide +kernel, by decide +kernel⟩
def spPut (C : Addr) : Sp := fun vs H Q _ => ∃ (a s q : Addr) (e i : Int) (S : StL) (ps : List V) (v : V) (y : M4), vs = [.ref a, .int i, v] ∧ FrAt C H a s q e S ps ∧ sget S i = some y ∧
  ((v = .non ∧ ∀ H', FrAt C H' a s q e (sdrop S i) ps → Off a s q H H' → Q .non H') ∨ ∃ t x, v = .ref t ∧ H t = some (t4 x) ∧ ∀ H', FrAt C H' a s q e (sput S i (nrm x)) ps → Off a s q H H' → Q .non H')
section
variable {P : Program} {w : World} {K : PySem.W.Frag} {mg : Str → Option Value} {base : Heap} {C : Addr}
theorem ok_put {f fN fB : Addr} {fd fdN fdB : FuncData} (F : Fun K "put" "Front.put" s_Fput f fd) (T : FrT K mg C) (D_normal : DefAt K mg "normal" s_normal P_normal fN fdN) (D_back : DefAt K mg "back" s_back P_back fB fdB) : FnOk P w K mg base CX0 3 f fd P_Fput (spPut C) := by
  have G_normal : FnOk P w K mg base CX0 2 fN fdN P_normal spNormal := ok_normal D_normal D_back
  refine F.ok sc_Fput (fun vs H Q E h => ?_) (fun cdv A outer s H vs Q E hr h => ?_)
  · obtain ⟨a, s, q, e, i, S, ps, v, y, rfl, _⟩ := h
    rfl
  · obtain ⟨a, s, q, e, i, S, ps, v, y, rfl, fa, hy, h⟩ := h
    have hu := hu_of hr
    refine ⟨_, (pss_one (ps_if (pt_cmpR op_isN (pv 2) pe_non (nomark _)) (pss_one (ps_ddel (pe_fld (pv 0) rfl) (pv 1))) (pss_one (ps_dput hu (pe_fld (pv 0) rfl) (pv 1) (pe_call G_normal (hr.mono (by omega)) (by rfl) D_normal.g D_normal.F.kp D_normal.b .nil pass0 (pa_cons (pv 2) pa_nil)) rfl)))), ?_⟩
    obtain ⟨dx, ea⟩ := fa.at_a
    obtain ⟨kvs, es, st⟩ := fa.at_s
    obtain ⟨u, hu2, _⟩ := (st.get i).2 y hy
    have hlen := st.length
    have hl := fa.len
    rcases h with ⟨rfl, qq⟩ | ⟨t, x, rfl, ht, qq⟩
    · refine ⟨.non, rfl, rfl, _, rfl, iteT ?_⟩
      refine ⟨.ref a, rfl, a, C, dx, _, _, rfl, ea, T.cl, T.nS, fr_standing e s q, .int i, rfl, s, kvs, Sum.inl i, rfl, es, rfl, by rw [hu2]; rfl, ?_⟩
      obtain ⟨f1, f2⟩ := fa.dict (st.drop (i := i)) (sdrop_keys fa.up) (Nat.le_trans (sdrop_length S i) hl)
      exact qq _ f1 f2
    · refine ⟨.ref t, rfl, rfl, _, rfl, iteF ?_⟩
      refine ⟨.ref t, rfl, t, x.1, x.2.1, x.2.2.1, x.2.2.2, rfl, ht, fun r H' sm hr' => ?_⟩
      have fa' := fa.same sm
      obtain ⟨kvs', es', st'⟩ := fa'.at_s
      have ek : kvs' = kvs := by
        rw [sm _ _ es] at es'
        cases es'
        rfl
      subst ek
      refine ⟨.ref a, rfl, a, C, dx, _, _, rfl, sm _ _ ea, T.cl, T.nS, fr_standing e s q, .int i, rfl, s, _, rfl, DPut.k (k := Sum.inl i) es' (sz_lt (by omega)), ?_⟩
      obtain ⟨f1, f2⟩ := fa'.dict (st'.put (x := nrm x) hy hr') (by rw [sput_keys]; exact fa'.up) (by rw [sput_length]; exact hl)
      exact qq _ f1 ((Off.of_same sm).trans f2)
end
/-! ### merge, halve -/
abbrev s_Fmerge : Stmt := inClass (top 48) 9
abbrev N_Fmerge : List Str := ["self", "i", "j", "first", "second", "mating"]
abbrev P_Fmerge : List Str := ["self", "i", "j"]
theorem sc_Fmerge : FnScope N_Fmerge P_Fmerge (defScope s_Fmerge) := ⟨rfl, rfl, rfl, by decide +kernel, rfl, by decide +kernel, by decide +kernel⟩
abbrev s_Fhalve : Stmt := inClass (top 48) 8
abbrev N_Fhalve : List Str := ["self", "i", "mating"]
abbrev P_Fhalve : List Str := ["self", "i"]
theorem sc_Fhalve : FnScope N_Fhalve P_Fhalve (defScope s_Fhalve) := ⟨rfl, rfl, rfl, by decide +kernel, rfl, by decide +kernel, by decide +kernel⟩
def mrg (x y : M4) : Option M4 := if isRep x.1 x.2.1 x.2.2.1 x.2.2.2 = true ∧ isRep y.1 y.2.1 y.2.2.1 y.2.2.2 = true ∧ x.2.1 - x.1 + (y.2.1 - y.1) ≤ shr x.1 x.2.1 x.2.2.1 y.1 y.2.1 y.2.2.1 then
  some (imin x.1 y.1, imin x.1 y.1 + (Nat.gcd (x.2.1 - x.1).toNat (y.2.1 - y.1).toNat : Nat), imax (x.2.1 + x.2.2.1) (y.2.1 + y.2.2.1) - imin x.1 y.1 - (Nat.gcd (x.2.1 - x.1).toNat (y.2.1 - y.1).toNat : Nat), 0) else none
def mergeS (S : StL) (i j : Int) : Option StL := if i = j then none else match sget S i, sget S j with
  | some x, some y => (mrg x y).map fun z => sdrop (sput S i (nrm z)) j
  | _, _ => none
def halveS (S : StL) (i : Int) : Option StL := match sget S i with
  | some x => if x.2.2.2 = 0 ∨ isLead x.1 x.2.1 x.2.2.1 x.2.2.2 = true then none else if hlf x.1 x.2.1 x.2.2.1 = 0 then some (sdrop S i) else some (sput S i (nrm (x.1, x.2.1 + x.2.2.1 - hlf x.1 x.2.1 x.2.2.1, hlf x.1 x.2.1 x.2.2.1, x.2.2.2)))
  | none => none
/-- what stands behind a move: r the new standing ones, or none where it is refused -/
def After (C : Addr) (H : Hp) (a s q : Addr) (e : Int) (S : StL) (ps : List V) (r : Option StL) (Q : VK) : Prop :=
  (r = none → ∀ H', FrAt C H' a s q e S ps → Off a s q H H' → Q (.bl false) H') ∧ ∀ S', r = some S' → ∀ H', FrAt C H' a s q e S' ps → Off a s q H H' → Q (.bl true) H'
def spMerge (C : Addr) : Sp := fun vs H Q _ => ∃ (a s q : Addr) (e i j : Int) (S : StL) (ps : List V), vs = [.ref a, .int i, .int j] ∧ FrAt C H a s q e S ps ∧ After C H a s q e S ps (mergeS S i j) Q
def spHalve (C : Addr) : Sp := fun vs H Q _ => ∃ (a s q : Addr) (e i : Int) (S : StL) (ps : List V), vs = [.ref a, .int i] ∧ FrAt C H a s q e S ps ∧ After C H a s q e S ps (halveS S i) Q
section
variable {P : Program} {w : World} {K : PySem.W.Frag} {mg : Str → Option Value} {base : Heap} {C : Addr}
theorem put_no {m : Str} {e : Int} {s q : Addr} (h1 : (m == "edge") = false := by decide +kernel) (h2 : (m == "standing") = false := by decide +kernel) (h3 : (m == "past") = false := by decide +kernel) : (fr e s q).lookup m = none :=
  fr_no (fun z => by rw [z] at h1; simp at h1) (fun z => by rw [z] at h2; simp at h2) (fun z => by rw [z] at h3; simp at h3)
/-- self.standing.get(i) -/
theorem get_at {H : Hp} {a s q : Addr} {e i : Int} {S : StL} {ps : List V} (fa : FrAt C H a s q e S ps) : ∃ o, DGet H s (.int i) o ∧ (sget S i = none → o = none) ∧ ∀ x, sget S i = some x → ∃ t, o = some (.ref t) ∧ H t = some (t4 x) := by
  obtain ⟨kvs, es, st⟩ := fa.at_s
  exact ⟨_, DGet.k (k := Sum.inl i) es, (st.get i).1, (st.get i).2⟩
theorem isD_of {H : Hp} {a s q : Addr} {e : Int} {S : StL} {ps : List V} (fa : FrAt C H a s q e S ps) : IsD H s := by
  obtain ⟨kvs, es, st⟩ := fa.at_s
  exact .inl ⟨kvs, .inl es⟩
theorem ok_halve {f fP fH fL fS : Addr} {fd fdP fdH fdL fdS : FuncData} (F : Fun K "halve" "Front.halve" s_Fhalve f fd) (T : FrT K mg C) (M_put : Meth K C "put" fP) (G_put : FnOk P w K mg base CX0 3 fP fdP P_Fput (spPut C)) (b_put : Binds K fdP P_Fput [])
    (D_halved : DefAt K mg "halved" s_halved P_halved fH fdH) (D_is_leader : DefAt K mg "is_leader" s_is_leader P_is_leader fL fdL) (D_step_of : DefAt K mg "step_of" s_step_of P_step_of fS fdS) : FnOk P w K mg base CX0 4 f fd P_Fhalve (spHalve C) := by
  have G_halved : FnOk P w K mg base CX0 1 fH fdH P_halved spHalved := ok_halved D_halved
  have G_is_leader : FnOk P w K mg base CX0 2 fL fdL P_is_leader spLead := ok_lead D_is_leader D_step_of
  refine F.ok sc_Fhalve (fun vs H Q E h => ?_) (fun cdv A outer s H vs Q E hr h => ?_)
  · obtain ⟨a, s, q, e, i, S, ps, rfl, _⟩ := h
    rfl
  · obtain ⟨a, s, q, e, i, S, ps, rfl, fa, h1, h2⟩ := h
    have hu := hu_of hr
    refine ⟨_, (pss_cons (ps_set (i := 2) sc_Fhalve.nd rfl (.inl rfl) (pe_dget1 hu (pe_fld (pv 0) rfl) (pv 1) ⟨rfl, rfl, rfl, rfl⟩))
      (pss_cons (ps_if (PW.pt (pw_or (pt_cmpR op_isN (pv 2) pe_non (nomark _)) (pw_or (pt_cmpR op_eq (pe_ix ix_tup (pv 2) pe_int (fun _ _ => rfl)) pe_int (nomark _)) (pw_or1 (pt_val (pe_call G_is_leader (hr.mono (by omega)) (by rfl) D_is_leader.g D_is_leader.F.kp D_is_leader.b .nil pass0 (pa_cons (pv 2) pa_nil))))))) (pss_one (ps_ret pe_bl)) pss_nil)
      (pss_cons (ps_expr (pe_meth (pv 0) T.cl M_put G_put (hr.mono (by omega)) b_put .nil pass0 (pa_cons (pv 1) (pa_cons (pe_call G_halved (hr.mono (by omega)) (by rfl) D_halved.g D_halved.F.kp D_halved.b .nil pass0 (pa_cons (pv 2) pa_nil)) pa_nil))))
      (pss_one (ps_ret pe_bl))))), ?_⟩
    obtain ⟨dx, ea⟩ := fa.at_a
    obtain ⟨o, g, g1, g2⟩ := get_at (i := i) fa
    refine ⟨.ref a, rfl, a, C, dx, _, _, rfl, ea, T.cl, T.nS, fr_standing e s q, s, rfl, isD_of fa, .int i, rfl, o, g, ?_⟩
    unfold halveS at h1 h2
    cases hx : sget S i with
    | none =>
      rw [hx] at h1
      rw [g1 hx]
      exact ⟨.non, rfl, rfl, _, rfl, iteT (h1 rfl H fa (Off.of_same (Same.refl H)))⟩
    | some x =>
      rw [hx] at h1 h2
      obtain ⟨t, rfl, ht⟩ := g2 x hx
      refine ⟨.ref t, rfl, rfl, _, rfl, iteF ?_⟩
      refine ⟨.ref t, rfl, t, _, 3, .int x.2.2.2, rfl, rfl, SqT.of ht, at4_3, rfl, _, rfl, ?_⟩
      refine ite2 (fun h0 => ?_) (fun h0 => ?_)
      · have h0' : x.2.2.2 = 0 := V.int.inj (of_decide_eq_true h0)
        exact h1 (if_pos (.inl h0')) H fa (Off.of_same (Same.refl H))
      · have h0' : ¬ x.2.2.2 = 0 := fun z => h0 (decide_eq_true (congrArg V.int z))
        refine ⟨.ref t, rfl, t, x.1, x.2.1, x.2.2.1, x.2.2.2, rfl, ht, _, rfl, ?_⟩
        refine ite2 (fun h3 => ?_) (fun h3 => ?_)
        · exact h1 (if_pos (.inr h3)) H fa (Off.of_same (Same.refl H))
        · have hn : ¬ (x.2.2.2 = 0 ∨ isLead x.1 x.2.1 x.2.2.1 x.2.2.2 = true) := fun z => z.elim h0' h3
          simp only [if_neg hn] at h2
          refine ⟨.ref a, rfl, a, dx, _, rfl, ea, put_no, .int i, rfl, .ref t, rfl, t, x.1, x.2.1, x.2.2.1, x.2.2.2, rfl, ht, fun hz => ?_, fun hz r nr => ?_⟩
          · rw [if_pos hz] at h2
            exact ⟨a, s, q, e, i, S, ps, .non, x, rfl, fa, hx, .inl ⟨rfl, fun H' f1 f2 => h2 _ rfl H' f1 f2⟩⟩
          · rw [if_neg hz] at h2
            exact ⟨a, s, q, e, i, S, ps, .ref r, x, rfl, fa.same (same_upd nr), hx, .inr ⟨r, (x.1, x.2.1 + x.2.2.1 - hlf x.1 x.2.1 x.2.2.1, hlf x.1 x.2.1 x.2.2.1, x.2.2.2), rfl, upd_same, fun H' f1 f2 => h2 _ rfl H' f1 ((Off.of_same (same_upd nr)).trans f2)⟩⟩
theorem ok_merge {f fP fM fS fE fR fC : Addr} {fd fdP fdM fdS fdE fdR fdC : FuncData} (F : Fun K "merge" "Front.merge" s_Fmerge f fd) (T : FrT K mg C) (M_put : Meth K C "put" fP) (G_put : FnOk P w K mg base CX0 3 fP fdP P_Fput (spPut C)) (b_put : Binds K fdP P_Fput [])
    (D_merged : DefAt K mg "merged" s_merged P_merged fM fdM) (D_step_of : DefAt K mg "step_of" s_step_of P_step_of fS fdS) (D_end_of : DefAt K mg "end_of" s_end_of P_end_of fE fdE) (D_is_repeat : DefAt K mg "is_repeat" s_is_repeat P_is_repeat fR fdR)
    (D_common : DefAt K mg "common" s_common P_common fC fdC) (B : Bn mg) : FnOk P w K mg base CX0 4 f fd P_Fmerge (spMerge C) := by
  have G_merged : FnOk P w K mg base CX0 3 fM fdM P_merged spMerged := ok_merged D_merged D_step_of D_end_of D_is_repeat D_common B
  refine F.ok sc_Fmerge (fun vs H Q E h => ?_) (fun cdv A outer s H vs Q E hr h => ?_)
  · obtain ⟨a, s, q, e, i, j, S, ps, rfl, _⟩ := h
    rfl
  · obtain ⟨a, s, q, e, i, j, S, ps, rfl, fa, h1, h2⟩ := h
    have hu := hu_of hr
    refine ⟨_, (pss_cons (ps_set (i := 3) sc_Fmerge.nd rfl (.inl rfl) (pe_dget1 hu (pe_fld (pv 0) rfl) (pv 1) ⟨rfl, rfl, rfl, rfl⟩))
      (pss_cons (ps_set (i := 4) sc_Fmerge.nd rfl (.inl rfl) (pe_dget1 hu (pe_fld (pv 0) rfl) (pv 2) ⟨rfl, rfl, rfl, rfl⟩))
      (pss_cons (ps_if (PW.pt (pw_or (pt_cmpR op_eq (pv 1) (pv 2) (nomark _)) (pw_or (pt_cmpR op_isN (pv 3) pe_non (nomark _)) (pw_or1 (pt_cmpR op_isN (pv 4) pe_non (nomark _)))))) (pss_one (ps_ret pe_bl)) pss_nil)
      (pss_cons (ps_set (i := 5) sc_Fmerge.nd rfl (.inl rfl) (pe_call G_merged (hr.mono (by omega)) (by rfl) D_merged.g D_merged.F.kp D_merged.b .nil pass0 (pa_cons (pv 3) (pa_cons (pv 4) pa_nil))))
      (pss_cons (ps_if (pt_cmpR op_isN (pv 5) pe_non (nomark _)) (pss_one (ps_ret pe_bl)) pss_nil)
      (pss_cons (ps_expr (pe_meth (pv 0) T.cl M_put G_put (hr.mono (by omega)) b_put .nil pass0 (pa_cons (pv 1) (pa_cons (pv 5) pa_nil))))
      (pss_cons (ps_expr (pe_meth (pv 0) T.cl M_put G_put (hr.mono (by omega)) b_put .nil pass0 (pa_cons (pv 2) (pa_cons pe_non pa_nil))))
      (pss_one (ps_ret pe_bl))))))))), ?_⟩
    obtain ⟨dx, ea⟩ := fa.at_a
    obtain ⟨o, g, g1, g2⟩ := get_at (i := i) fa
    obtain ⟨o', g', g1', g2'⟩ := get_at (i := j) fa
    have no : ∀ r, r = false → mergeS S i j = none → Q (.bl r) H := fun r e1 e2 => by
      rw [e1]
      exact h1 e2 H fa (Off.of_same (Same.refl H))
    refine ⟨.ref a, rfl, a, C, dx, _, _, rfl, ea, T.cl, T.nS, fr_standing e s q, s, rfl, isD_of fa, .int i, rfl, o, g, ?_⟩
    refine ⟨.ref a, rfl, a, C, dx, _, _, rfl, ea, T.cl, T.nS, fr_standing e s q, s, rfl, isD_of fa, .int j, rfl, o', g', ?_⟩
    refine ⟨.int i, rfl, .int j, rfl, rfl, _, rfl, ?_⟩
    refine ite2 (fun h => ?_) (fun h => ?_)
    · have h' : i = j := V.int.inj (of_decide_eq_true h)
      exact no _ rfl (by unfold mergeS; rw [if_pos h'])
    · have h' : ¬ i = j := fun z => h (decide_eq_true (congrArg V.int z))
      have em : mergeS S i j = match sget S i, sget S j with | some x, some y => (mrg x y).map fun z => sdrop (sput S i (nrm z)) j | _, _ => none := by
        unfold mergeS
        rw [if_neg h']
      cases hx : sget S i with
      | none =>
        rw [hx] at em
        rw [g1 hx]
        exact ⟨.non, rfl, rfl, _, rfl, iteT (no _ rfl em)⟩
      | some x =>
        obtain ⟨t, rfl, ht⟩ := g2 x hx
        refine ⟨.ref t, rfl, rfl, _, rfl, iteF ?_⟩
        cases hy : sget S j with
        | none =>
          rw [hx, hy] at em
          rw [g1' hy]
          exact ⟨.non, rfl, rfl, _, rfl, iteT (no _ rfl em)⟩
        | some y =>
          rw [hx, hy] at em
          obtain ⟨t', rfl, ht'⟩ := g2' y hy
          refine ⟨.ref t', rfl, rfl, _, rfl, iteF ?_⟩
          refine ⟨.ref t, rfl, .ref t', rfl, t, t', x.1, x.2.1, x.2.2.1, x.2.2.2, y.1, y.2.1, y.2.2.1, y.2.2.2, rfl, ht, ht', fun hn => ?_, fun r1 r2 r3 r nr => ?_⟩
          · refine ⟨.non, rfl, rfl, _, rfl, iteT (no _ rfl ?_)⟩
            rw [em]
            show (mrg x y).map _ = none
            unfold mrg
            rw [if_neg hn]
            rfl
          · refine ⟨.ref r, rfl, rfl, _, rfl, iteF ?_⟩
            have emr : mrg x y = some _ := if_pos ⟨r1, r2, r3⟩
            have em2 : mergeS S i j = (mrg x y).map (fun z => sdrop (sput S i (nrm z)) j) := em
            rw [emr] at em2
            have sm := same_upd (H := H) (o := t4 (imin x.1 y.1, imin x.1 y.1 + (Nat.gcd (x.2.1 - x.1).toNat (y.2.1 - y.1).toNat : Nat), imax (x.2.1 + x.2.2.1) (y.2.1 + y.2.2.1) - imin x.1 y.1 - (Nat.gcd (x.2.1 - x.1).toNat (y.2.1 - y.1).toNat : Nat), 0)) nr
            refine ⟨.ref a, rfl, a, dx, _, rfl, sm _ _ ea, put_no, .int i, rfl, .ref r, rfl, a, s, q, e, i, S, ps, .ref r, x, rfl, fa.same sm, hx, .inr ⟨r, (imin x.1 y.1, imin x.1 y.1 + (Nat.gcd (x.2.1 - x.1).toNat (y.2.1 - y.1).toNat : Nat), imax (x.2.1 + x.2.2.1) (y.2.1 + y.2.2.1) - imin x.1 y.1 - (Nat.gcd (x.2.1 - x.1).toNat (y.2.1 - y.1).toNat : Nat), 0), rfl, upd_same, fun H2 f1 o1 => ?_⟩⟩
            obtain ⟨dx2, ea2⟩ := f1.at_a
            refine ⟨.ref a, rfl, a, dx2, _, rfl, ea2, put_no, .int j, rfl, a, s, q, e, j, _, ps, .non, y, rfl, f1, by rw [sget_put_ne h']; exact hy, .inl ⟨rfl, fun H3 f2 o2 => ?_⟩⟩
            exact h2 _ em2 H3 f2 (((Off.of_same sm).trans o1).trans o2)
end

/-! ### left -/
abbrev s_Fleft : Stmt := inClass (top 48) 2
abbrev N_Fleft : List Str := ["self", "i"]
abbrev P_Fleft : List Str := ["self"]
theorem sc_Fleft : FnScope N_Fleft P_Fleft (defScope s_Fleft) := ⟨rfl, rfl, rfl, by decide +kernel, rfl, by decide +kernel, by decide +kernel⟩
/-- pairs of a number and a mating -/
def LsR (H : Hp) (u : Addr) (s : Int × M4) : Prop := ∃ t, H u = some (.tup [.int s.1, .ref t]) ∧ H t = some (t4 s.2)
def Ls (H : Hp) (us : List Addr) (S : StL) : Prop := Paired (LsR H) us S
theorem Ls.snoc {H : Hp} {u : Addr} {s : Int × M4} (hs : LsR H u s) : ∀ {us : List Addr} {S : StL}, Ls H us S → Ls H (us ++ [u]) (S ++ [s])
  | _, _, .nil => .cons hs .nil
  | _, _, .cons h r => .cons h (Ls.snoc hs r)
theorem Ls.keep {H H' : Hp} (k : KeepT H H') : ∀ {us : List Addr} {S : StL}, Ls H us S → Ls H' us S
  | _, _, .nil => .nil
  | _, _, .cons h r => .cons (h.elim fun t e => ⟨t, k _ _ e.1, k _ _ e.2⟩) (Ls.keep k r)
theorem Ls.length {H : Hp} : ∀ {us : List Addr} {S : StL}, Ls H us S → us.length = S.length
  | _, _, .nil => rfl
  | _, _, .cons h r => congrArg (· + 1) (Ls.length r)
def spLeft (C : Addr) : Sp := fun vs H Q _ => ∃ (a s q : Addr) (e : Int) (S : StL) (ps : List V), vs = [.ref a] ∧ FrAt C H a s q e S ps ∧ S.length < 60 ∧ ∀ (H' : Hp) (r : Addr) (us : List Addr), Same H H' → H r = none → H' r = some (.lst (us.map V.ref)) → Ls H' us S → Q (.ref r) H'
theorem sget_mem : ∀ {S : StL} {s : Int × M4}, (S.map (·.1)).Pairwise (· < ·) → s ∈ S → sget S s.1 = some s.2
  | x :: r, s, h, hm => by
    rcases List.mem_cons.mp hm with rfl | hm
    · exact if_pos rfl
    · have h' := List.pairwise_cons.mp h
      have lt : x.1 < s.1 := h'.1 s.1 (List.mem_map.mpr ⟨s, hm, rfl⟩)
      show (if x.1 = s.1 then some x.2 else sget r s.1) = some s.2
      rw [if_neg (by omega)]
      exact sget_mem h'.2 hm
section
variable {P : Program} {w : World} {K : PySem.W.Frag} {mg : Str → Option Value} {base : Heap} {C : Addr}
theorem ok_left {f : Addr} {fd : FuncData} (F : Fun K "left" "Front.left" s_Fleft f fd) (T : FrT K mg C) (B : Bn mg) : FnOk P w K mg base CX0 1 f fd P_Fleft (spLeft C) := by
  refine F.ok sc_Fleft (fun vs H Q E h => ?_) (fun cdv A outer s H vs Q E hr h => ?_)
  · obtain ⟨a, s, q, e, S, ps, rfl, _⟩ := h
    rfl
  · obtain ⟨a, s, q, e, S, ps, rfl, fa, hlen, qq⟩ := h
    have hu := hu_of hr
    refine ⟨_, (pss_one (ps_ret (pe_lc (own := [("i", 1)]) (g := gName 1) (by rfl) sc_Fleft.nd (pi_list (pe_callB (call_sortedDI rfl) (by rfl) B.sorted (by decide +kernel) (pa_cons (pe_fld (pv 0) rfl) pa_nil))) (blkOk_by (own := [("i", 1)]) (N := N_Fleft) (sc := defScope s_Fleft) (by decide +kernel)) (fun _ _ _ _ _ => (pg_name (i := 1) sc_Fleft.nd rfl (.inl rfl))) (fun _ _ _ _ _ => pts_nil) (fun _ _ _ _ _ => (pe_tup (pa_cons (pv 1) (pa_cons (pe_dget hu (pe_fldK (K := K) rfl (pv 0) rfl) (pv 1) (fun _ _ => rfl)) pa_nil))))))), ?_⟩
    obtain ⟨dx, ea⟩ := fa.at_a
    obtain ⟨kvs, es, st⟩ := fa.at_s
    refine ⟨.ref a, rfl, a, C, dx, _, _, rfl, ea, T.cl, T.nS, fr_standing e s q, s, kvs, S.map (·.1), rfl, .inl es, st.keys, by rw [List.length_map]; omega, fun ys p py so np => ?_⟩
    have ey := perm_sorted py so fa.up
    subst ey
    refine ⟨p, rfl, ⟨_, SqL.of upd_same⟩, fun L nL => lc_list (K := K) (a := p) (xs := (S.map (·.1)).map V.int) (fun i H2 => ∃ us, Same (upd H p (.lst ((S.map (·.1)).map V.int))) H2 ∧ H2 L = some (.lst (us.map V.ref)) ∧ Ls H2 us (S.take i))
      ⟨[], same_upd nL, upd_same, .nil⟩ (fun i H2 _ ⟨_, sm, _⟩ => SqL.of (sm _ _ upd_same)) ?_ ?_⟩
    · rintro i x H2 hx ⟨us, sm, e2, ls⟩
      rw [List.map_map, List.getElem?_map] at hx
      obtain ⟨z, hz, rfl⟩ := Option.map_eq_some_iff.mp hx
      have sm2 : Same H H2 := (same_upd np).trans sm
      have fa2 := fa.same sm2
      obtain ⟨o, g, _, g2⟩ := get_at (i := z.1) fa2
      obtain ⟨t, rfl, ht⟩ := g2 z.2 (sget_mem fa.up (List.mem_of_getElem? hz))
      have hl := ls.length
      have hi : i < S.length := (List.getElem?_eq_some_iff.mp hz).1
      rw [List.length_take] at hl
      refine ⟨rfl, .int z.1, rfl, .ref a, rfl, a, C, dx, _, _, rfl, sm2 _ _ ea, T.cl, T.nS, fr_standing e s q, .int z.1, rfl, s, .ref t, rfl, g, by show 2 ≤ sizeLine; decide, fun u nu => ?_⟩
      refine ⟨us.map V.ref, same_upd nu _ _ e2, sz_lt (by rw [List.length_map]; omega), us ++ [u], fun b o' hb => ?_, by rw [upd_same, List.map_append]; rfl, ?_⟩
      · rw [upd_ne (ne_of_none hb nL)]
        exact same_upd nu _ _ (sm _ _ hb)
      · have kt : ∀ {b : Addr} {xs : List V}, H2 b = some (.tup xs) → (upd (upd H2 u (.tup [.int z.1, .ref t])) L (.lst (us.map V.ref ++ [.ref u]))) b = some (.tup xs) := fun hb => by
          rw [upd_ne (ne_of hb e2 (fun z => by cases z))]
          exact same_upd nu _ _ hb
        rw [List.take_add_one, hz]
        refine Ls.snoc ⟨t, ?_, kt ht⟩ (ls.keep fun b xs hb => kt hb)
        rw [upd_ne (ne_of_none e2 nu).symm]
        exact upd_same
    · rintro H2 ⟨us, sm, e2, ls⟩
      rw [List.length_map, List.length_map, List.take_length] at ls
      exact qq H2 L us ((same_upd np).trans sm) ((same_upd np).free nL) e2 ls
end
/-! ### __init__ -/
abbrev s_Finit : Stmt := inClass (top 48) 0
abbrev N_Finit : List Str := ["self", "length", "matings", "i", "mating"]
abbrev P_Finit : List Str := ["self", "length", "matings"]
theorem sc_Finit : FnScope N_Finit P_Finit (defScope s_Finit) := ⟨rfl, rfl, rfl, by decide +kernel, rfl, by decide +kernel, by decide +kernel⟩
def en : Nat → List M4 → StL
  | _, [] => []
  | i, x :: r => (((i : Nat) : Int), nrm x) :: en (i + 1) r
theorem en_snoc (x : M4) : ∀ (k : Nat) (l : List M4), en k (l ++ [x]) = en k l ++ [(((k + l.length : Nat) : Int), nrm x)]
  | _, [] => rfl
  | k, y :: r => by
    show (((k : Nat) : Int), nrm y) :: en (k + 1) (r ++ [x]) = (((k : Nat) : Int), nrm y) :: (en (k + 1) r ++ [(((k + (r.length + 1) : Nat) : Int), nrm x)])
    rw [en_snoc x (k + 1) r, show k + 1 + r.length = k + (r.length + 1) by omega]
theorem en_length : ∀ (k : Nat) (l : List M4), (en k l).length = l.length
  | _, [] => rfl
  | k, y :: r => congrArg (· + 1) (en_length (k + 1) r)
theorem en_ge : ∀ (k : Nat) (l : List M4) (s : Int × M4), s ∈ en k l → (k : Int) ≤ s.1 ∧ s.1 < ((k + l.length : Nat) : Int)
  | k, y :: r, s, h => by
    rcases List.mem_cons.mp h with rfl | h
    · simp only [List.length_cons]
      omega
    · have := en_ge (k + 1) r s h
      simp only [List.length_cons]
      omega
theorem en_up : ∀ (k : Nat) (l : List M4), ((en k l).map (·.1)).Pairwise (· < ·)
  | _, [] => List.Pairwise.nil
  | k, y :: r => by
    refine List.pairwise_cons.mpr ⟨fun z hz => ?_, en_up (k + 1) r⟩
    obtain ⟨s, hs, rfl⟩ := List.mem_map.mp hz
    have := en_ge (k + 1) r s hs
    show (k : Int) < s.1
    omega
theorem en_none {k : Nat} {l : List M4} {i : Int} (h : i < (k : Int) ∨ ((k + l.length : Nat) : Int) ≤ i) : sget (en k l) i = none := by
  have key : ∀ {S : StL}, (∀ s ∈ S, s.1 ≠ i) → sget S i = none := by
    intro S
    induction S with
    | nil => exact fun _ => rfl
    | cons s r ih =>
      intro hh
      show (if s.1 = i then some s.2 else sget r i) = none
      rw [if_neg (hh s List.mem_cons_self)]
      exact ih fun z hz => hh z (List.mem_cons_of_mem _ hz)
  refine key fun s hs => ?_
  have := en_ge k l s hs
  omega
def spFinit (K : PySem.W.Frag) (C : Addr) : Sp := fun vs H Q _ => ∃ (x dx L : Addr) (n : Int) (ts : List Addr) (ms : List M4), vs = [.ref x, .int n, .ref L] ∧ H x = some (.ins C dx []) ∧ 0 ≤ n ∧ n ≤ 1000000000000000000 ∧ H L = some (.lst (ts.map V.ref)) ∧ Mts H ts ms ∧ (∀ y ∈ ms, Mok n y) ∧ ms.length ≤ 24 ∧
  ∀ (H' : Hp) (s q : Addr), FrAt C H' x s q n (en 0 ms) [] → H s = none → H q = none → (∀ b o, H b = some o → b ≠ x → H' b = some o) → Q .non H'
def spFinitT (K : PySem.W.Frag) (C : Addr) : Sp := fun vs H Q _ => ∃ (x dx L : Addr) (n : Int) (ts : List Addr) (ms : List M4), vs = [.ref x, .int n, .ref L] ∧ H x = some (.ins C dx []) ∧ 0 ≤ n ∧ n ≤ 1000000000000000000 ∧ H L = some (.tup (ts.map V.ref)) ∧ Mts H ts ms ∧ (∀ y ∈ ms, Mok n y) ∧ ms.length ≤ 24 ∧
  ∀ (H' : Hp) (s q : Addr), FrAt C H' x s q n (en 0 ms) [] → H s = none → H q = none → (∀ b o, H b = some o → b ≠ x → H' b = some o) → Q .non H'
section
variable {P : Program} {w : World} {K : PySem.W.Frag} {mg : Str → Option Value} {base : Heap} {C : Addr}
theorem ok_Finit {f fA fV fR fN fM fI fO fB : Addr} {fd fdA fdV fdR fdN fdM fdI fdO fdB : FuncData} {tok1 tok2 : Tok} (F : Fun K "__init__" "Front.__init__" s_Finit f fd) (T : FrT K mg C) (D_need_road : DefAt K mg "need_road" s_need_road P_need_road fR fdR) (D_need_from : DefAt K mg "need_from" s_need_from P_need_from fA fdA) (D_need_within : DefAt K mg "need_within" s_need_within P_need_within fV fdV) (D_need_length : DefAt K mg "need_length" s_need_length P_need_length fN fdN) (D_need_mating : DefAt K mg "need_mating" s_need_mating P_need_mating fM fdM)
    (D_is_mating : DefAt K mg "is_mating" s_is_mating P_is_mating fI fdI) (D_normal : DefAt K mg "normal" s_normal P_normal fO fdO) (D_back : DefAt K mg "back" s_back P_back fB fdB) (g_FAR : mg "FAR" = some (.int 1000000000000000000 tok1)) (g_MOST : mg "MOST" = some (.int 24 tok2)) (zE : mg "enumerate" = none) (B : Bn mg) :
    FnOk P w K mg base CX0 5 f fd P_Finit (spFinit K C) := by
  have G_need_road : FnOk P w K mg base CX0 4 fR fdR P_need_road spNeedM := ok_needR D_need_road D_need_from D_need_within D_need_length D_need_mating D_is_mating g_FAR g_MOST B
  have G_normal : FnOk P w K mg base CX0 2 fO fdO P_normal spNormal := ok_normal D_normal D_back
  refine F.ok sc_Finit (fun vs H Q E h => ?_) (fun cdv A outer s H vs Q E hr h => ?_)
  · obtain ⟨x, dx, L, n, ts, ms, rfl, _⟩ := h
    rfl
  · obtain ⟨x, dx, L, n, ts, ms, rfl, hx, n0, n1, hL, hM, hok, hl, qq⟩ := h
    refine ⟨_, (pss_cons (ps_expr (pe_call G_need_road (hr.mono (by omega)) (by rfl) D_need_road.g D_need_road.F.kp D_need_road.b .nil pass0 (pa_cons (pv 1) (pa_cons (pv 2) pa_nil))))
      (pss_cons (ps_fld (pv 0) (pv 1) rfl)
      (pss_cons (ps_fld (pv 0) (pe_dc (own := [("i", 3), ("mating", 4)]) (g := gTup K 2 (gCons (gName 3) (gCons (gName 4) gNil))) (by rfl) sc_Finit.nd (pi_enum (by rfl) zE (pa_cons (pv 2) pa_nil)) (blkOk_by (own := [("i", 3), ("mating", 4)]) (N := N_Finit) (sc := defScope s_Finit) (by decide +kernel)) (fun _ _ _ _ _ => (pg_tup (by rfl) (pgs_cons (pg_name (i := 3) sc_Finit.nd rfl (.inl rfl)) (pgs_cons (pg_name (i := 4) sc_Finit.nd rfl (.inl rfl)) pgs_nil)))) (fun _ _ _ _ _ => pts_nil) (fun _ _ _ _ _ => (pv 3)) (fun _ _ _ _ _ => (pe_call G_normal (hr.mono (by omega)) (by rfl) D_normal.g D_normal.F.kp D_normal.b .nil pass0 (pa_cons (pv 4) pa_nil)))) rfl)
      (pss_one (ps_fld (pv 0) (pe_lst pa_nil) rfl))))), ?_⟩
    refine ⟨.int n, rfl, .ref L, rfl, n, L, ts, ms, rfl, n0, n1, .inl hL, hM, hok, hl, fun H1 s1 => ?_⟩
    -- edge
    refine ⟨.int n, rfl, .ref x, rfl, x, C, dx, [], rfl, s1 _ _ hx, T.cl, T.nE, by show 0 < 1000; decide, ?_⟩
    have off2 : ∀ b o, H b = some o → b ≠ x → (upd H1 x (.ins C dx (putF "edge" (.int n) []))) b = some o := fun b o hb nb => by
      rw [upd_ne nb]
      exact s1 _ _ hb
    have free2 : ∀ b, (upd H1 x (.ins C dx (putF "edge" (.int n) []))) b = none → H b = none := fun b hb => by
      have nb : b ≠ x := fun z => by
        rw [z, upd_same] at hb
        cases hb
      rw [upd_ne nb] at hb
      exact s1.free hb
    have x2 : (upd H1 x (.ins C dx (putF "edge" (.int n) []))) x = some (.ins C dx (putF "edge" (.int n) [])) := upd_same
    generalize upd H1 x (.ins C dx (putF "edge" (.int n) [])) = H2 at off2 free2 x2
    have nLx : L ≠ x := ne_of hL hx (fun z => by cases z)
    have L2 := off2 _ _ hL nLx
    -- standing
    refine ⟨.ref L, rfl, L, ts.map V.ref, rfl, SqL.of L2, fun D nD => dc_enum (K := K) (a := L) (us := ts.map V.ref) (fun i H3 => ∃ kvs, Same H2 H3 ∧ H3 D = some (.dK kvs) ∧ Std H3 kvs (en 0 (ms.take i)))
      ⟨[], same_upd nD, upd_same, .nil⟩ (fun i H3 _ ⟨_, sm, _⟩ => SqL.of (sm _ _ L2)) ?_ ?_⟩
    · rintro i v H3 Tn hv ⟨kvs, sm, eD, st⟩ nT
      rw [List.getElem?_map] at hv
      obtain ⟨t, ht, rfl⟩ := Option.map_eq_some_iff.mp hv
      obtain ⟨m, hm, em⟩ := hM.at i t ht
      have ntx : t ≠ x := ne_of em hx (fun z => by cases z)
      have sT := same_upd (H := H3) (o := .tup [.int (i : Nat), .ref t]) nT
      have e3 : H3 t = some (t4 m) := sm _ _ (off2 _ _ em ntx)
      have hi : i < ms.length := (List.getElem?_eq_some_iff.mp hm).1
      have sl := st.length
      rw [en_length, List.length_take] at sl
      refine ⟨Tn, _, rfl, SqT.of upd_same, rfl, .int (i : Nat), _, rfl, .ref t, _, rfl, rfl, rfl, .int (i : Nat), rfl, ?_⟩
      refine ⟨.ref t, rfl, t, m.1, m.2.1, m.2.2.1, m.2.2.2, rfl, sT _ _ e3, fun r H4 s4 e4 => ?_⟩
      have sm4 : Same H3 H4 := sT.trans s4
      refine ⟨kvs, Sum.inl ((i : Nat) : Int), rfl, sm4 _ _ eD, sz_lt (by omega), putK kvs (Sum.inl ((i : Nat) : Int)) (.ref r), fun b o hb => ?_, upd_same, ?_⟩
      · rw [upd_ne (ne_of_none hb nD)]
        exact sm4 _ _ (sm _ _ hb)
      · have hno : valV kvs (Sum.inl ((i : Nat) : Int)) = none := (st.get _).1 (en_none (.inr (by rw [List.length_take]; omega)))
        rw [putK_new _ hno, List.take_add_one, hm, show (some m).toList = [m] from rfl, en_snoc]
        have kt : KeepT H4 (upd H4 D (.dK (kvs ++ [(Sum.inl ((i : Nat) : Int), .ref r)]))) := fun b xs hb => by
          rw [upd_ne (ne_of hb (sm4 _ _ eD) (fun z => by cases z))]
          exact hb
        refine Std.snoc (s := (((0 + (ms.take i).length : Nat) : Int), nrm m)) ⟨?_, r, rfl, kt _ _ e4⟩ (st.keep fun b xs hb => kt _ _ (sm4 _ _ hb))
        show Sum.inl ((i : Nat) : Int) = Sum.inl (((0 + (ms.take i).length : Nat) : Int))
        rw [List.length_take, Nat.min_eq_left (by omega), Nat.zero_add]
    · rintro H3 ⟨kvs, sm, eD, st⟩
      have e1 := hM.length
      rw [List.length_map, e1, List.take_length] at st
      refine ⟨.ref x, rfl, x, C, dx, _, rfl, sm _ _ x2, T.cl, T.nS, by show 1 < 1000; decide, ?_⟩
      have nDx : D ≠ x := (ne_of_none x2 nD).symm
      -- past
      refine ⟨Nat.zero_le _, fun q nq => ?_⟩
      have nqx : q ≠ x := fun z => by
        rw [z, upd_same] at nq
        cases nq
      have nqD : q ≠ D := fun z => by
        rw [z, upd_ne nDx, eD] at nq
        cases nq
      have nq3 : H3 q = none := by
        rw [upd_ne nqx] at nq
        exact nq
      refine ⟨.ref x, rfl, x, C, dx, _, rfl, by rw [upd_ne nqx.symm]; exact upd_same, T.cl, T.nP, ?_, ?_⟩
      · show 2 < 1000
        decide
      rw [show putF ("past" : Str) (V.ref q) (putF ("standing" : Str) (V.ref D) (putF ("edge" : Str) (V.int n) [])) = fr n D q from fr_make n D q]
      refine qq _ D q ⟨⟨dx, upd_same⟩, ⟨kvs, ?_, st.keep fun b xs hb => ?_⟩, ?_, en_up 0 ms, by rw [en_length]; omega⟩ (free2 _ nD) (free2 _ (sm.free nq3)) fun b o hb nb => ?_
      · rw [upd_ne nDx, upd_ne nqD.symm, upd_ne nDx]
        exact eD
      · have nbx : b ≠ x := ne_of hb (sm _ _ x2) (fun z => by cases z)
        rw [upd_ne nbx, upd_ne (ne_of_none hb nq3), upd_ne nbx]
        exact hb
      · rw [upd_ne nqx]
        exact upd_same
      · have hb3 := sm _ _ (off2 _ _ hb nb)
        rw [upd_ne nb, upd_ne (ne_of_none hb3 nq3), upd_ne nb]
        exact hb3
theorem ok_FinitT {f fA fV fR fN fM fI fO fB : Addr} {fd fdA fdV fdR fdN fdM fdI fdO fdB : FuncData} {tok1 tok2 : Tok} (F : Fun K "__init__" "Front.__init__" s_Finit f fd) (T : FrT K mg C) (D_need_road : DefAt K mg "need_road" s_need_road P_need_road fR fdR) (D_need_from : DefAt K mg "need_from" s_need_from P_need_from fA fdA) (D_need_within : DefAt K mg "need_within" s_need_within P_need_within fV fdV) (D_need_length : DefAt K mg "need_length" s_need_length P_need_length fN fdN) (D_need_mating : DefAt K mg "need_mating" s_need_mating P_need_mating fM fdM)
    (D_is_mating : DefAt K mg "is_mating" s_is_mating P_is_mating fI fdI) (D_normal : DefAt K mg "normal" s_normal P_normal fO fdO) (D_back : DefAt K mg "back" s_back P_back fB fdB) (g_FAR : mg "FAR" = some (.int 1000000000000000000 tok1)) (g_MOST : mg "MOST" = some (.int 24 tok2)) (zE : mg "enumerate" = none) (B : Bn mg) :
    FnOk P w K mg base CX0 5 f fd P_Finit (spFinitT K C) := by
  have G_need_road : FnOk P w K mg base CX0 4 fR fdR P_need_road spNeedM := ok_needR D_need_road D_need_from D_need_within D_need_length D_need_mating D_is_mating g_FAR g_MOST B
  have G_normal : FnOk P w K mg base CX0 2 fO fdO P_normal spNormal := ok_normal D_normal D_back
  refine F.ok sc_Finit (fun vs H Q E h => ?_) (fun cdv A outer s H vs Q E hr h => ?_)
  · obtain ⟨x, dx, L, n, ts, ms, rfl, _⟩ := h
    rfl
  · obtain ⟨x, dx, L, n, ts, ms, rfl, hx, n0, n1, hL, hM, hok, hl, qq⟩ := h
    refine ⟨_, (pss_cons (ps_expr (pe_call G_need_road (hr.mono (by omega)) (by rfl) D_need_road.g D_need_road.F.kp D_need_road.b .nil pass0 (pa_cons (pv 1) (pa_cons (pv 2) pa_nil))))
      (pss_cons (ps_fld (pv 0) (pv 1) rfl)
      (pss_cons (ps_fld (pv 0) (pe_dc (own := [("i", 3), ("mating", 4)]) (g := gTup K 2 (gCons (gName 3) (gCons (gName 4) gNil))) (by rfl) sc_Finit.nd (pi_enumT (by rfl) zE (pa_cons (pv 2) pa_nil)) (blkOk_by (own := [("i", 3), ("mating", 4)]) (N := N_Finit) (sc := defScope s_Finit) (by decide +kernel)) (fun _ _ _ _ _ => (pg_tup (by rfl) (pgs_cons (pg_name (i := 3) sc_Finit.nd rfl (.inl rfl)) (pgs_cons (pg_name (i := 4) sc_Finit.nd rfl (.inl rfl)) pgs_nil)))) (fun _ _ _ _ _ => pts_nil) (fun _ _ _ _ _ => (pv 3)) (fun _ _ _ _ _ => (pe_call G_normal (hr.mono (by omega)) (by rfl) D_normal.g D_normal.F.kp D_normal.b .nil pass0 (pa_cons (pv 4) pa_nil)))) rfl)
      (pss_one (ps_fld (pv 0) (pe_lst pa_nil) rfl))))), ?_⟩
    refine ⟨.int n, rfl, .ref L, rfl, n, L, ts, ms, rfl, n0, n1, .inr hL, hM, hok, hl, fun H1 s1 => ?_⟩
    -- edge
    refine ⟨.int n, rfl, .ref x, rfl, x, C, dx, [], rfl, s1 _ _ hx, T.cl, T.nE, by show 0 < 1000; decide, ?_⟩
    have off2 : ∀ b o, H b = some o → b ≠ x → (upd H1 x (.ins C dx (putF "edge" (.int n) []))) b = some o := fun b o hb nb => by
      rw [upd_ne nb]
      exact s1 _ _ hb
    have free2 : ∀ b, (upd H1 x (.ins C dx (putF "edge" (.int n) []))) b = none → H b = none := fun b hb => by
      have nb : b ≠ x := fun z => by
        rw [z, upd_same] at hb
        cases hb
      rw [upd_ne nb] at hb
      exact s1.free hb
    have x2 : (upd H1 x (.ins C dx (putF "edge" (.int n) []))) x = some (.ins C dx (putF "edge" (.int n) [])) := upd_same
    generalize upd H1 x (.ins C dx (putF "edge" (.int n) [])) = H2 at off2 free2 x2
    have nLx : L ≠ x := ne_of hL hx (fun z => by cases z)
    have L2 := off2 _ _ hL nLx
    -- standing
    refine ⟨.ref L, rfl, L, ts.map V.ref, rfl, SqT.of L2, fun D nD => dc_enumT (K := K) (a := L) (us := ts.map V.ref) (fun i H3 => ∃ kvs, Same H2 H3 ∧ H3 D = some (.dK kvs) ∧ Std H3 kvs (en 0 (ms.take i)))
      ⟨[], same_upd nD, upd_same, .nil⟩ (fun i H3 _ ⟨_, sm, _⟩ => SqT.of (sm _ _ L2)) ?_ ?_⟩
    · rintro i v H3 Tn hv ⟨kvs, sm, eD, st⟩ nT
      rw [List.getElem?_map] at hv
      obtain ⟨t, ht, rfl⟩ := Option.map_eq_some_iff.mp hv
      obtain ⟨m, hm, em⟩ := hM.at i t ht
      have ntx : t ≠ x := ne_of em hx (fun z => by cases z)
      have sT := same_upd (H := H3) (o := .tup [.int (i : Nat), .ref t]) nT
      have e3 : H3 t = some (t4 m) := sm _ _ (off2 _ _ em ntx)
      have hi : i < ms.length := (List.getElem?_eq_some_iff.mp hm).1
      have sl := st.length
      rw [en_length, List.length_take] at sl
      refine ⟨Tn, _, rfl, SqT.of upd_same, rfl, .int (i : Nat), _, rfl, .ref t, _, rfl, rfl, rfl, .int (i : Nat), rfl, ?_⟩
      refine ⟨.ref t, rfl, t, m.1, m.2.1, m.2.2.1, m.2.2.2, rfl, sT _ _ e3, fun r H4 s4 e4 => ?_⟩
      have sm4 : Same H3 H4 := sT.trans s4
      refine ⟨kvs, Sum.inl ((i : Nat) : Int), rfl, sm4 _ _ eD, sz_lt (by omega), putK kvs (Sum.inl ((i : Nat) : Int)) (.ref r), fun b o hb => ?_, upd_same, ?_⟩
      · rw [upd_ne (ne_of_none hb nD)]
        exact sm4 _ _ (sm _ _ hb)
      · have hno : valV kvs (Sum.inl ((i : Nat) : Int)) = none := (st.get _).1 (en_none (.inr (by rw [List.length_take]; omega)))
        rw [putK_new _ hno, List.take_add_one, hm, show (some m).toList = [m] from rfl, en_snoc]
        have kt : KeepT H4 (upd H4 D (.dK (kvs ++ [(Sum.inl ((i : Nat) : Int), .ref r)]))) := fun b xs hb => by
          rw [upd_ne (ne_of hb (sm4 _ _ eD) (fun z => by cases z))]
          exact hb
        refine Std.snoc (s := (((0 + (ms.take i).length : Nat) : Int), nrm m)) ⟨?_, r, rfl, kt _ _ e4⟩ (st.keep fun b xs hb => kt _ _ (sm4 _ _ hb))
        show Sum.inl ((i : Nat) : Int) = Sum.inl (((0 + (ms.take i).length : Nat) : Int))
        rw [List.length_take, Nat.min_eq_left (by omega), Nat.zero_add]
    · rintro H3 ⟨kvs, sm, eD, st⟩
      have e1 := hM.length
      rw [List.length_map, e1, List.take_length] at st
      refine ⟨.ref x, rfl, x, C, dx, _, rfl, sm _ _ x2, T.cl, T.nS, by show 1 < 1000; decide, ?_⟩
      have nDx : D ≠ x := (ne_of_none x2 nD).symm
      -- past
      refine ⟨Nat.zero_le _, fun q nq => ?_⟩
      have nqx : q ≠ x := fun z => by
        rw [z, upd_same] at nq
        cases nq
      have nqD : q ≠ D := fun z => by
        rw [z, upd_ne nDx, eD] at nq
        cases nq
      have nq3 : H3 q = none := by
        rw [upd_ne nqx] at nq
        exact nq
      refine ⟨.ref x, rfl, x, C, dx, _, rfl, by rw [upd_ne nqx.symm]; exact upd_same, T.cl, T.nP, ?_, ?_⟩
      · show 2 < 1000
        decide
      rw [show putF ("past" : Str) (V.ref q) (putF ("standing" : Str) (V.ref D) (putF ("edge" : Str) (V.int n) [])) = fr n D q from fr_make n D q]
      refine qq _ D q ⟨⟨dx, upd_same⟩, ⟨kvs, ?_, st.keep fun b xs hb => ?_⟩, ?_, en_up 0 ms, by rw [en_length]; omega⟩ (free2 _ nD) (free2 _ (sm.free nq3)) fun b o hb nb => ?_
      · rw [upd_ne nDx, upd_ne nqD.symm, upd_ne nDx]
        exact eD
      · have nbx : b ≠ x := ne_of hb (sm _ _ x2) (fun z => by cases z)
        rw [upd_ne nbx, upd_ne (ne_of_none hb nq3), upd_ne nbx]
        exact hb
      · rw [upd_ne nqx]
        exact upd_same
      · have hb3 := sm _ _ (off2 _ _ hb nb)
        rw [upd_ne nb, upd_ne (ne_of_none hb3 nq3), upd_ne nb]
        exact hb3
end
def spFinitX (K : PySem.W.Frag) (C : Addr) : Sp := fun vs H Q E => spFinit K C vs H Q E ∨ spFinitT K C vs H Q E
theorem FnOk.or {P : Program} {w : World} {K : PySem.W.Frag} {mg : Str → Option Value} {base : Heap} {CX : CXT} {k : Nat} {f : Addr} {fd : FuncData} {ps : List Str} {s1 s2 : Sp} (F : FnOk P w K mg base CX k f fd ps s1) (G : FnOk P w K mg base CX k f fd ps s2) :
    FnOk P w K mg base CX k f fd ps (fun vs H Q E => s1 vs H Q E ∨ s2 vs H Q E) :=
  ⟨fun vs H Q E h => h.elim (F.len vs H Q E) (G.len vs H Q E), fun A outer s H args us vs Q E hr he hb hv h => h.elim (F.run A outer s H args us vs Q E hr he hb hv) (G.run A outer s H args us vs Q E hr he hb hv)⟩

/-! ### sorted(d.items()) of a dict with rising int keys whose values are objects -/
namespace SIt
open PySem PySem.W PySem.Calls PyProof.Rows PyProof.V PySem.Spec
section
variable {prog : Program} {w : World} {A : Around} {E : Value → Shared → Prop} {s : Shared}
theorem eqBool_self {t : Addr} {Q : Bool → Shared → Prop} (h : Q true s) : wpAny (model prog w) A (eqBool (.ref t) (.ref t)) Q E s := by
  unfold eqBool
  refine wpAny_holding ?_
  rw [if_pos (show (Value.ref t == Value.ref t) = true from beq_self_eq_true _)]
  exact wpAny_bind (wpAny_rule (wpAny_pure h))
/-- the tuple (k, the object at u) -/
def PairK (h : Heap) (v : Value) (k : Int) (u : Addr) : Prop := ∃ (a : Addr) (t : Tok), v = .ref a ∧ IsTup h a #[.int k t, .ref u]
def intOf : Option Value → Int
  | some (.int x _) => x
  | _ => 0
def keyI (h : Heap) (v : Value) : Int := intOf (DT.seqAt0 h (DT.refOf (some v)))
theorem PairK.key {h : Heap} {v : Value} {k : Int} {u : Addr} (x : PairK h v k u) : keyI h v = k := by
  obtain ⟨a, t, rfl, h1⟩ := x
  show intOf (DT.seqAt0 h a) = k
  rw [DT.seqAt0_of h1]
  rfl
theorem firstsK {h : Heap} : ∀ vs : List Value, (∀ v ∈ vs, ∃ k u, PairK h v k u) → ∃ fs : List Value, KatTups h vs fs ∧ fs.length = vs.length ∧ ∀ f ∈ fs, ∃ (k : Int) (t : Tok), f = Value.int k t
  | [], _ => ⟨[], KatTups.nil, rfl, fun f hf => by simp at hf⟩
  | v :: vs, x => by
    obtain ⟨fs, k, hl, hi⟩ := firstsK vs fun u hu => x u (List.mem_cons_of_mem _ hu)
    obtain ⟨y, u, a, t, rfl, ⟨o, ho, hc, n, hd⟩⟩ := x v (List.mem_cons_self ..)
    refine ⟨.int y t :: fs, KatTups.cons ho hc hd rfl k, by rw [List.length_cons, List.length_cons, hl], fun f hf => ?_⟩
    rcases List.mem_cons.mp hf with rfl | hf
    · exact ⟨y, t, rfl⟩
    · exact hi f hf
theorem kind_k {vs : List Value} (h2 : 2 ≤ vs.length) (x : ∀ v ∈ vs, ∃ k u, PairK s.heap v k u) (inj : ∀ v ∈ vs, ∀ v' ∈ vs, keyI s.heap v = keyI s.heap v' → v = v') (Q : SortKind → Shared → Prop)
    (h : ∀ κ, TS.Cmp prog w A s κ (pairsOf vs) (fun v => keyI s.heap v) → Q κ s) : wpAny (model prog w) A (keyKind' vs.toArray) Q E s := by
  obtain ⟨fs, k, hl, hi⟩ := firstsK vs x
  refine kat_kind (T := Value.type "int") k (by omega) (fun f hf => ?_) rfl (h _ ?_)
  · obtain ⟨q, t, rfl⟩ := hi f hf
    exact PySem.W.Looks.now
  · have hb : (Value.type "int" != Value.type "tuple") = true := by first | rfl | decide | simp
    rw [hb]
    intro p q hp hq Q' E' hQ
    rw [pairsOf_toList] at hp hq
    have mp := (mem_zip_self hp).2
    have mq := (mem_zip_self hq).2
    obtain ⟨y, u, py⟩ := x _ mp
    obtain ⟨z, u', pz⟩ := x _ mq
    have hQ' : Q' (decide (y < z)) s := by
      have hQ2 : Q' (decide (keyI s.heap p.1 < keyI s.heap q.1)) s := hQ
      rw [py.key, pz.key] at hQ2
      exact hQ2
    by_cases e : y = z
    · have same : p.1 = q.1 := inj _ mp _ mq (by rw [py.key, pz.key]; exact e)
      have irr : decide (y < z) = false := decide_eq_false (by omega)
      rw [irr] at hQ'
      obtain ⟨a, t, e1, ⟨o, ho, hc, n, hd⟩⟩ := py
      rw [← same, e1]
      refine kat_lt ho hd ho hd ?_
      show KatLex prog w A true (decide ((#[Value.int y t, Value.ref u] : Array Value).size < (#[Value.int y t, Value.ref u] : Array Value).size)) Q' [(Value.int y t, Value.int y t), (Value.ref u, Value.ref u)] 0 s
      rw [show decide ((#[Value.int y t, Value.ref u] : Array Value).size < (#[Value.int y t, Value.ref u] : Array Value).size) = false from decide_eq_false (Nat.lt_irrefl _)]
      refine kat_cons (wpAny_eqBool_int ?_)
      rw [beq_self_eq_true]
      exact kat_yes (kat_cons (eqBool_self (kat_yes (kat_nil hQ'))))
    · obtain ⟨a, t, e1, ⟨o, ho, hc, n, hd⟩⟩ := py
      obtain ⟨a', t', e2, ⟨o', ho', hc', n', hd'⟩⟩ := pz
      rw [e1, e2]
      refine kat_lt ho hd ho' hd' ?_
      show KatLex prog w A true _ Q' [(Value.int y t, Value.int z t'), (Value.ref u, Value.ref u')] 0 s
      refine kat_cons (wpAny_eqBool_int ?_)
      rw [show (y == z) = false from beq_eq_false_iff_ne.mpr e]
      exact kat_no (TS.oneLt_ints _ hQ')
end
theorem pairs_get {prog : Program} {w : World} {κ : Type} [DecidableEq κ] {knd : KeyKind prog w κ} : ∀ {es : List DictEntry} {kvs : List (κ × Value)}, Pairs knd es kvs → ∀ (j : Nat) (e : DictEntry), es[j]? = some e → ∃ kv, kvs[j]? = some kv ∧ knd.is kv.1 e.key = true ∧ e.val = kv.2
  | _, _, .nil, j, e, h => by simp at h
  | _, _, .cons h1 h2 _, 0, e, h => by
    cases h
    exact ⟨_, rfl, h1, h2⟩
  | _, _, .cons _ _ r, j + 1, e, h => pairs_get r j e h
theorem pairs_len {prog : Program} {w : World} {κ : Type} [DecidableEq κ] {knd : KeyKind prog w κ} : ∀ {es : List DictEntry} {kvs : List (κ × Value)}, Pairs knd es kvs → es.length = kvs.length
  | _, _, .nil => rfl
  | _, _, .cons _ _ r => congrArg (· + 1) (pairs_len r)
/-- a permutation that rises is the one that rises strictly -/
theorem perm_rise {α : Type} {f : α → Int} : ∀ {xs ys : List α}, xs.Perm ys → xs.Pairwise (fun a b => f a ≤ f b) → ys.Pairwise (fun a b => f a < f b) → xs = ys
  | [], ys, p, _, _ => (List.Perm.nil_eq p)
  | x :: xs, [], p, _, _ => nomatch (List.Perm.eq_nil p)
  | x :: xs, y :: ys, p, h1, h2 => by
    have m1 : x ∈ y :: ys := p.subset List.mem_cons_self
    have m2 : y ∈ x :: xs := p.symm.subset List.mem_cons_self
    have e : x = y := by
      rcases List.mem_cons.mp m1 with z | z
      · exact z
      · rcases List.mem_cons.mp m2 with z' | z'
        · exact z'.symm
        · have a1 := (List.pairwise_cons.mp h1).1 _ z'
          have a2 := (List.pairwise_cons.mp h2).1 _ z
          omega
    subst e
    rw [perm_rise (List.Perm.cons_inv p) (List.pairwise_cons.mp h1).2 (List.pairwise_cons.mp h2).2]
end SIt
section
open PySem PySem.Spec PyProof.Rows
variable {X : Cx}
abbrev entK (e : Int × Addr) : Key × V := (Sum.inl e.1, V.ref e.2)
def rItemsK : V → List V → Hp → VK → Prop := fun x xs H Q => ∃ (a : Addr) (kvs : List (Key × V)), x = .ref a ∧ xs = [] ∧ H a = some (.dK kvs) ∧ ∀ p, H p = none → Q (.ref p) (upd H p (L2.DX.itemsO p a))
theorem mt_itemsK : MtR X "dict.items" rItemsK := by
  intro pins s σ H x xs v us Q I rx rxs h
  obtain ⟨a, kvs, rfl, rfl, ha, q⟩ := h
  cases rx
  cases rxs
  obtain ⟨z, hd, vs, rel, o, es, ep, ho, hx, hdat, _⟩ := dk_of I.hok ha
  refine DT.callItems (es := es) (ep := ep) hd ⟨o, ho, hx, hdat⟩ ?_
  have hf : H s.heap.objs.size = none := I.hok.fresh (Nat.le_refl _)
  exact ⟨.ref s.heap.objs.size, upd H s.heap.objs.size (L2.DX.itemsO s.heap.objs.size a), I.laid (t' := s.toks) (fun b u e => Heap.get?_push_of_some _ e) (Nat.le_refl _) (L2.DX.itemsO_ok (Heap.get?_push_size _ rfl)), rfl, q _ hf⟩
def rSortK : List V → Hp → VK → Prop := fun vs H Q => ∃ (p a : Addr) (ks : List (Int × Addr)), vs = [.ref p] ∧ H p = some (L2.DX.itemsO p a) ∧ H a = some (.dK (ks.map entK)) ∧ ks.length < 64 ∧ (ks.map (·.1)).Pairwise (· < ·) ∧
  ∀ (H' : Hp) (l : Addr) (as : List Addr), Same H H' → H l = none → H' l = some (.lst (as.map V.ref)) → Paired (fun (t : Addr) (e : Int × Addr) => H' t = some (.tup [.int e.1, .ref e.2])) as ks → Q (.ref l) H'
theorem paired_of {α β : Type} {F : α → β → Prop} : ∀ {as : List α} {bs : List β}, as.length = bs.length → (∀ (j : Nat) (a : α) (b : β), as[j]? = some a → bs[j]? = some b → F a b) → Paired F as bs
  | [], [], _, _ => .nil
  | [], _ :: _, h, _ => by cases h
  | _ :: _, [], h, _ => by cases h
  | a :: as, b :: bs, h, f => .cons (f 0 a b rfl rfl) (paired_of (Nat.succ.inj h) fun j x y hx hy => f (j + 1) x y hx hy)
theorem cr_sortedK (hc : X.calm = true) : CallR X (.builtin "sorted") rSortK := by
  intro pins s σ H xs us Q I r h
  obtain ⟨p, a, ks, rfl, hp, ha, h64, up, q⟩ := h
  obtain rfl := Vals.ref1 r
  have view : s.heap.IsItemsView p a := (show ObjOk X.prog X.w H s.heap p (L2.DX.itemsO p a) from I.hok p _ hp).1
  obtain ⟨z, hd, xs', rel, o, es, ep, ho, hx, hdat, _, hes, hn⟩ := dk_of I.hok ha
  have l1 : (ks.map entK).length = xs'.length := Paired.length rel
  rw [List.length_map] at l1
  have l2 : es.size = xs'.length := by rw [← Array.length_toList]; exact SIt.pairs_len hes
  have hh : X.A.handled = none := I.ok.hd hc
  refine DT.sortedI (es := es) (ep := ep) hh view ⟨o, ho, hx, hdat⟩ (by rw [sizeLine_eq]; omega) fun h' tk as hk hlt hl hG => ?_
  have lak : as.length = ks.length := by omega
  have nd : as.Nodup := List.Pairwise.imp (fun h => Nat.ne_of_lt h) hG.rise
  -- the pairs that were made
  have pr : ∀ (j : Nat) (b : Addr), as[j]? = some b → ∃ (e : Int × Addr) (t : Tok), ks[j]? = some e ∧ h'.get? b = some { cls := .type "tuple", data := .seq #[Value.int e.1 t, Value.ref e.2] } := by
    intro j b hj
    obtain ⟨en, he, hg⟩ := hG.pairs j b hj
    rw [← Array.getElem?_toList] at he
    obtain ⟨kv, hkv, k1, k2⟩ := SIt.pairs_get hes j en he
    obtain ⟨e0, he0, r1, r2⟩ := L2.DX.pget rel hkv
    rw [List.getElem?_map] at he0
    obtain ⟨e, hej, rfl⟩ := Option.map_eq_some_iff.mp he0
    have k1' : keyIs kv.1 en.key = true := k1
    rw [← r1] at k1'
    obtain ⟨t, et⟩ : ∃ t, en.key = Value.int e.1 t := by
      rcases keyIs_shape k1' with ⟨i, t, e1, e2⟩ | ⟨x, t, e1, e2⟩
      · cases e1
        exact ⟨t, e2⟩
      · cases e1
    have ev : en.val = Value.ref e.2 := k2.trans (show kv.2 = Value.ref e.2 from r2)
    exact ⟨e, t, hej, by rw [hg, et, ev]⟩
  -- the heap of the sort
  have hob : (h'.push { cls := .type "list", data := .seq (as.map Value.ref).toArray }).get? h'.objs.size = some (seqObj "list" (as.map Value.ref).toArray 0) := Heap.get?_push_size _ rfl
  have kb : ∀ b o, s.heap.get? b = some o → (h'.push { cls := .type "list", data := .seq (as.map Value.ref).toArray }).get? b = some o := fun b o e => Heap.get?_push_of_some _ (hk b o e)
  have ne0 : ∀ b o, h'.get? b = some o → b ≠ h'.objs.size := fun b o e => Nat.ne_of_lt (Heap.lt_size e)
  generalize hh2 : h'.push { cls := .type "list", data := .seq (as.map Value.ref).toArray } = h2 at hob kb ⊢
  have ka : ∀ b o, h'.get? b = some o → h2.get? b = some o := fun b o e => by rw [← hh2]; exact Heap.get?_push_of_some _ e
  have pin : ∀ (j : Nat) (b : Addr), as[j]? = some b → ∃ e : Int × Addr, ks[j]? = some e ∧ SIt.PairK (TS.midHeap h2 h'.objs.size (as.map Value.ref)) (.ref b) e.1 e.2 := by
    intro j b hj
    obtain ⟨e, t, he, hg⟩ := pr j b hj
    exact ⟨e, he, b, t, rfl, ⟨_, TS.midHeap_old (ne0 _ _ hg) (ka _ _ hg), rfl, 0, rfl⟩⟩
  have tx : ∀ (j : Nat) (b : Addr) (e : Int × Addr), as[j]? = some b → ks[j]? = some e → SIt.keyI (TS.midHeap h2 h'.objs.size (as.map Value.ref)) (.ref b) = e.1 := by
    intro j b e hj he
    obtain ⟨e', he', hp'⟩ := pin j b hj
    have ee : e' = e := Option.some.inj (he'.symm.trans he)
    rw [← ee]
    exact hp'.key
  have at_ : ∀ v ∈ as.map Value.ref, ∃ (j : Nat) (b : Addr) (e : Int × Addr), v = .ref b ∧ as[j]? = some b ∧ ks[j]? = some e := by
    intro v hv'
    obtain ⟨b, hb, rfl⟩ := List.mem_map.mp hv'
    obtain ⟨j, hj⟩ := List.mem_iff_getElem?.mp hb
    obtain ⟨e, _, he, _⟩ := pr j b hj
    exact ⟨j, b, e, rfl, hj, he⟩
  have inj : ∀ (i j : Nat) (e f : Int × Addr), ks[i]? = some e → ks[j]? = some f → e.1 = f.1 → i = j := by
    intro i j e f hi hj ef
    have ndk : (ks.map (·.1)).Nodup := List.Pairwise.imp (fun h => by omega) up
    have hi' : i < (ks.map (·.1)).length := by rw [List.length_map]; exact (List.getElem?_eq_some_iff.mp hi).1
    refine (List.getElem?_inj hi' ndk).mp ?_
    rw [List.getElem?_map, List.getElem?_map, hi, hj]
    exact congrArg some ef
  refine wpAny_call_entry PyProof.Rows.slot_list_sort ⟨_, hob, rfl⟩ PyProof.Rows.entry_list_sort
    (SK.plain_sort (s := { s with heap := h2, toks := tk }) (r := fun v => SIt.keyI (TS.midHeap h2 h'.objs.size (as.map Value.ref)) v) hob (by rw [List.length_map]; omega) (fun h2' Qk hQk => ?_) fun ps out o1 o2 o3 => ⟨.none, rfl, ?_⟩) (PyProof.Rows.args_list_sort _)
  · refine SIt.kind_k (s := { s with heap := TS.midHeap h2 h'.objs.size (as.map Value.ref), toks := tk }) h2' (fun v hv' => ?_) (fun v hv' u hu' ek => ?_) Qk hQk
    · obtain ⟨j, b, e, rfl, hj, he⟩ := at_ v hv'
      obtain ⟨e', _, hp'⟩ := pin j b hj
      exact ⟨e'.1, e'.2, hp'⟩
    · obtain ⟨j, b, e, rfl, hj, he⟩ := at_ v hv'
      obtain ⟨j2, b2, e2, rfl, hj2, he2⟩ := at_ u hu'
      have ek' : SIt.keyI (TS.midHeap h2 h'.objs.size (as.map Value.ref)) (.ref b) = SIt.keyI (TS.midHeap h2 h'.objs.size (as.map Value.ref)) (.ref b2) := ek
      rw [tx j b e hj he, tx j2 b2 e2 hj2 he2] at ek'
      have ij := inj j j2 e e2 he he2 ek'
      subst ij
      rw [hj] at hj2
      rw [Option.some.inj hj2]
  · show EP X pins σ Q (.ref h'.objs.size) { s with heap := sortedHeap h2 h'.objs.size (as.map Value.ref) out, toks := tk }
    obtain ⟨zs, pz, ez⟩ := perm_lift (fun z : Addr × Int × Addr => (Value.ref z.1, Value.ref z.1)) o2 (as.zip ks) (L2.DX.zip_self Value.ref as ks lak)
    have idx : ∀ z ∈ as.zip ks, ∃ j : Nat, as[j]? = some z.1 ∧ ks[j]? = some z.2 := by
      intro z' hz'
      obtain ⟨j, hj⟩ := List.mem_iff_getElem?.mp hz'
      exact ⟨j, List.getElem?_zip_eq_some.mp hj⟩
    have m2 : (as.zip ks).map (·.2) = ks := List.map_snd_zip (by rw [lak]; exact Nat.le_refl _)
    have m1 : (as.zip ks).map (·.1) = as := List.map_fst_zip (by rw [lak]; exact Nat.le_refl _)
    have hsort : zs.Pairwise (fun e f => e.2.1 ≤ f.2.1) := by
      rw [← ez, List.pairwise_map] at o3
      refine List.Pairwise.imp_of_mem (fun {x y} hx hy h => ?_) o3
      obtain ⟨j, j1, j2⟩ := idx x (pz.mem_iff.mp hx)
      obtain ⟨i, i1, i2⟩ := idx y (pz.mem_iff.mp hy)
      have h' : SIt.keyI (TS.midHeap h2 h'.objs.size (as.map Value.ref)) (.ref x.1) ≤ SIt.keyI (TS.midHeap h2 h'.objs.size (as.map Value.ref)) (.ref y.1) := h
      rw [tx j _ _ j1 j2, tx i _ _ i1 i2] at h'
      exact h'
    have hrise : (as.zip ks).Pairwise (fun e f => e.2.1 < f.2.1) := by
      have e : ((as.zip ks).map (fun z => z.2.1)).Pairwise (· < ·) := by
        rw [show (as.zip ks).map (fun z => z.2.1) = ((as.zip ks).map (·.2)).map (·.1) by rw [List.map_map]; rfl, m2]
        exact up
      exact List.pairwise_map.mp e
    have ezs : zs = as.zip ks := SIt.perm_rise (f := fun z : Addr × Int × Addr => z.2.1) pz hsort hrise
    subst ezs
    have hout : out.toList = as.map Value.ref := by
      rw [o1, ← ez, List.map_map]
      show (as.zip ks).map (fun z => Value.ref z.1) = as.map Value.ref
      rw [show (as.zip ks).map (fun z => Value.ref z.1) = ((as.zip ks).map (·.1)).map Value.ref by rw [List.map_map]; rfl, m1]
    -- behind the sort
    have kF : ∀ b o, b ≠ h'.objs.size → h2.get? b = some o → (sortedHeap h2 h'.objs.size (as.map Value.ref) out).get? b = some o := fun b o hb e => (PyProof.Rows.sortedHeap_old hb (Heap.lt_size e)).trans e
    have kS : ∀ b o, s.heap.get? b = some o → (sortedHeap h2 h'.objs.size (as.map Value.ref) out).get? b = some o := fun b o e => kF b o (ne0 _ _ (hk b o e)) (kb b o e)
    obtain ⟨eF, heF⟩ := PyProof.Rows.sortedHeap_at (vs := as.map Value.ref) (out := out) hob
    have I1 : Inv X pins σ H { s with heap := sortedHeap h2 h'.objs.size (as.map Value.ref) out, toks := tk } := I.kept (t' := tk) kS
    have hn0 : H h'.objs.size = none := I.hok.fresh (Nat.le_of_lt hlt)
    have hlen : (as.map V.ref).length ≤ sizeLine := by
      rw [List.length_map, sizeLine_eq]
      omega
    have rv : Vals (as.map V.ref) out.toList := by
      rw [hout]
      exact LiI.vals_refs as
    have I2 : Inv X pins σ (upd H h'.objs.size (.lst (as.map V.ref))) { s with heap := sortedHeap h2 h'.objs.size (as.map Value.ref) out, toks := tk } :=
      I1.take (h' := sortedHeap h2 h'.objs.size (as.map Value.ref) out) (t' := tk) (fun b ob _ e => e) (I.fpOk (Nat.le_of_lt hlt) hn0) ⟨hlen, out.toList, eF, rv, heF⟩
    obtain ⟨H2, I3, g, qt⟩ := L2.DX.takeT (P := fun b vs => ∃ (j : Nat) (e : Int × Addr), as[j]? = some b ∧ ks[j]? = some e ∧ vs = [.int e.1, .ref e.2]) I as _ I2 nd fun b hb => by
      obtain ⟨j, hj⟩ := List.mem_iff_getElem?.mp hb
      obtain ⟨e, t, he, hg⟩ := pr j b hj
      have hbl : s.heap.objs.size ≤ b := Nat.le_of_lt (hG.above b hb)
      refine ⟨hbl, ?_, [.int e.1, .ref e.2], ⟨j, e, hj, he, rfl⟩, fun H3 => ⟨(by rw [sizeLine_eq]; show 2 ≤ 16777216; omega), [Value.int e.1 t, Value.ref e.2], .cons ⟨t, rfl⟩ (.cons rfl .nil), ⟨_, kF _ _ (ne0 _ _ hg) (ka _ _ hg), rfl, 0, rfl⟩⟩⟩
      rw [upd_ne (ne0 _ _ hg)]
      exact I.hok.fresh hbl
    have gr : ∀ b o, H b = some o → H2 b = some o := fun b o e => g b o (by rw [upd_ne (ne_of_none e hn0)]; exact e)
    refine ⟨.ref h'.objs.size, H2, I3, rfl, q H2 h'.objs.size as gr hn0 (g _ _ upd_same) (paired_of lak fun j b e hj he => ?_)⟩
    obtain ⟨vs, ⟨i, e', i1, i2, ev⟩, hH⟩ := qt b (List.mem_of_getElem? hj)
    have eij : i = j := (List.getElem?_inj (List.getElem?_eq_some_iff.mp i1).1 nd).mp (i1.trans hj.symm)
    subst eij
    have ee : e' = e := Option.some.inj (i2.symm.trans he)
    rw [hH, ev, ee]
end

/-! ### max(xs, default=d), xs a list of ints -/
section
open PySem.Spec PyProof.Rows
variable {prog : Program} {w : World} {A : Around} {E : Value → Shared → Prop} {s : Shared} {l : Addr}
theorem old_of_push {ob : Obj} {g : Heap} (hk : ∀ b o, b ∉ [s.heap.objs.size] → (s.heap.push ob).get? b = some o → g.get? b = some o) {b : Addr} {o : Obj} (e : s.heap.get? b = some o) : g.get? b = some o :=
  hk b o (fun z => Nat.lt_irrefl _ ((List.mem_singleton.mp z) ▸ Heap.lt_size e)) (Heap.get?_push_of_some _ e)
theorem max_dflt {its : List Value} {ns : List Int} {d : Value} {Q : Value → Shared → Prop} (hh : A.handled = none) (hl : s.heap.IsList l its.toArray) (hi : IntsAre its ns)
    (h0 : ns = [] → ∀ g tk, (∀ b o, s.heap.get? b = some o → g.get? b = some o) → Q d { s with heap := g, toks := tk })
    (h1 : ∀ g tk M t, (∀ b o, s.heap.get? b = some o → g.get? b = some o) → M ∈ ns → (∀ a, a ∈ ns → a ≤ M) → Q (.int M t) { s with heap := g, toks := tk }) :
    wpAny (model prog w) A (call (.builtin "max") [.ref l] [(Str.ofString "default", d)]) Q E s := by
  obtain ⟨xs, e⟩ := hi.allInts.items
  have hn : numsOf (intItems xs).toList = ns := by
    rw [← e]
    exact hi.numsOf
  rw [nums_intItems] at hn
  subst hn
  rw [e] at hl
  refine PySem.call_max_walkD (iter_any hl fun s2 e2 st hne => ?_)
  subst e2
  have hlt : l < s.heap.objs.size := by
    obtain ⟨_, q, _⟩ := hl
    exact Heap.lt_size q
  have hz : (intItems xs).size = xs.size := by simp [intItems]
  refine ⟨_, _, _, _, _, _, _, ⟨#[], {}⟩, fun i j => decide (numAt xs i > numAt xs j), rfl, (Walks.list (A := A.in1) hh _ l hne (intItems xs)).toS, st, fun b hb => ?_, fun b o q => by simp [Heap.get?] at q, fun b o q => by simp [Heap.get?] at q, fun hn s' mv => ?_, fun hn => ⟨fun i j vi vj s0 Q' E' _ pi pj q => ?_, fun v s' pv mv => ?_⟩⟩
  · rw [Heap.size_push]
    rcases List.mem_cons.mp hb with rfl | hb
    · exact Nat.lt_succ_self _
    · rcases List.mem_cons.mp hb with rfl | hb
      · exact Nat.lt_succ_of_lt hlt
      · cases hb
  · have hx : xs.toList.map (·.1) = [] := by
      rw [hz] at hn
      rw [List.map_eq_nil_iff, ← List.length_eq_zero_iff, Array.length_toList]
      exact hn
    obtain ⟨hp, hg, hd, ht, ho⟩ := s'
    obtain ⟨m1, m2, m3, m4, m5⟩ := mv
    simp only at m2 m3 m4
    subst m2 m3 m4
    exact h0 hx hp ht fun b o q => old_of_push m1 q
  · exact CmpOf.ints_gt (numAt xs) (fun _ _ => intItems_at) i j vi vj s0 Q' E' pi pj q
  · obtain ⟨t, rfl⟩ := intItems_at pv
    rw [hz] at hn
    obtain ⟨a1, a2⟩ := argBest_gt (numAt xs) (xs.size - 1)
    obtain ⟨hp, hg, hd, ht, ho⟩ := s'
    obtain ⟨m1, m2, m3, m4, m5⟩ := mv
    simp only at m2 m3 m4
    subst m2 m3 m4
    rw [hz]
    refine h1 hp ht _ t (fun b o q => old_of_push m1 q) ?_ fun a ha => ?_
    · rw [numAt_eq]
      exact PySem.getD_mem (by rw [List.length_map, Array.length_toList]; omega)
    · obtain ⟨j, hj, rfl⟩ := mem_getD ha
      rw [List.length_map, Array.length_toList] at hj
      rw [← numAt_eq]
      exact a2 j (by omega)
end
def rMaxDf (K : PySem.W.Frag) : List V → List V → Hp → VK → Prop := fun vs zs H Q => ∃ (a : Addr) (ns : List Int) (d : V), vs = [.ref a] ∧ zs = [d] ∧ SqL K H a (ns.map V.int) ∧ (ns = [] → Q d H) ∧ ∀ m, m ∈ ns → (∀ y, y ∈ ns → y ≤ m) → Q (.int m) H
theorem cr_maxDf {X : Cx} (hc : X.calm = true) : CallRK X (.builtin "max") ["default"] (rMaxDf X.K) := by
  intro pins s σ H vs zs us ws Q I r1 r2 h
  obtain ⟨a, ns, d, rfl, rfl, hs, q0, q1⟩ := h
  obtain ⟨its, rv, hl, _⟩ := I.list hs
  rw [Vals.ref1 r1]
  cases r2 with
  | cons rd rn =>
    cases rn
    exact max_dflt (I.ok.hd hc) hl.isList rv.ints (fun e g tk hk => ⟨d, H, I.kept hk, rd, q0 e⟩) fun g tk m t hk h1 h2 => ⟨.int _, H, I.kept hk, ⟨_, rfl⟩, q1 m h1 h2⟩

def xorP (f g : Int) : Int := if f = g then 0 else 1
theorem xor_is {f g : Int} (hf : f = 0 ∨ f = 1) (hg : g = 0 ∨ g = 1) : Builtin.bitXor f g = xorP f g := by
  rcases hf with rfl | rfl <;> rcases hg with rfl | rfl <;> decide
theorem mod2_is {f g : Int} (hf : f = 0 ∨ f = 1) (hg : g = 0 ∨ g = 1) : (f + g) % 2 = xorP f g := by
  rcases hf with rfl | rfl <;> rcases hg with rfl | rfl <;> decide

/-! ### a road that is being folded, as data -/
inductive Ev where
  | bare (m e : Int)
  | fold (m e lo st f : Int)
structure FS where
  e : Int
  S : StL
  L : List Ev
def evV : Ev → List V
  | .bare m e => [.str "bare", .int m, .int e]
  | .fold m e lo st f => [.str "fold", .int m, .int e, .int lo, .int st, .int f]
inductive Mo where
  | idle (i : Int)
  | halve (i : Int)
  | merge (i j : Int)
  | lead (j d i : Int)
  | fold (i m : Int)
  | bare (m : Int)
def moV : Mo → List V
  | .idle i => [.str "idle", .int i]
  | .halve i => [.str "halve", .int i]
  | .merge i j => [.str "merge", .int i, .int j]
  | .lead j d i => [.str "lead", .int j, .int d, .int i]
  | .fold i m => [.str "fold", .int i, .int m]
  | .bare m => [.str "bare", .int m]
abbrev xLead (x : M4) : Bool := isLead x.1 x.2.1 x.2.2.1 x.2.2.2
/-- the ends of all but one -/
def endsL (S : StL) (b : Option Int) : List Int := (S.filter fun s => decide (b ≠ some s.1)).map fun s => s.2.2.1 + s.2.2.2.1
def rch (S : StL) (b : Option Int) : Int := (endsL S b).foldl max 0
def ledB (w : M4) (at_ m : Int) : Int := if w.2.2.2 = 1 then w.1 + w.2.2.1 - (at_ - w.2.1) - m else w.1 + (at_ - w.1) % (w.2.1 - w.1)
def leadX (x w : M4) (d : Int) : Option M4 :=
  if (d = 0 ∨ d = 1) ∧ xLead w = true ∧ w.2.1 ≤ (if d = 1 then x.2.1 else x.1) ∧ (if d = 1 then x.2.1 else x.1) + x.2.2.1 ≤ w.2.1 + w.2.2.1 then
    some (nrm (if d = 1 then x.1 else ledB w x.1 x.2.2.1, if d = 1 then ledB w x.2.1 x.2.2.1 else x.2.1, x.2.2.1, xorP x.2.2.2 w.2.2.2)) else none
def leadS (S : StL) (j d i : Int) : Option StL := if i = j then none else match sget S j, sget S i with
  | some x, some w => (leadX x w d).map fun y => sput S j y
  | _, _ => none
def idleS (S : StL) (i : Int) : Option StL := match sget S i with
  | some x => if x.2.2.2 = 0 ∧ x.1 = x.2.1 then some (sdrop S i) else none
  | none => none
/-- what a fold leaves of the mating x, cut at m -/
def cutX (x : M4) (m : Int) : M4 := (if x.2.2.2 = 1 then x.1 + x.2.2.1 - (m - x.2.1) else x.1, x.2.1, m - x.2.1, x.2.2.2)
def foldS (X : FS) (i m : Int) : Option FS := match sget X.S i with
  | some x => if xLead x = true ∧ x.2.1 + x.2.2.1 = X.e ∧ x.2.1 ≤ m ∧ m < X.e ∧ rch X.S (some i) ≤ m then
      some ⟨m, if m - x.2.1 = 0 then sdrop X.S i else sput X.S i (cutX x m), X.L ++ [.fold m X.e x.1 (if x.2.2.2 = 1 then 0 else x.2.1 - x.1) x.2.2.2]⟩ else none
  | none => none
def bareS (X : FS) (m : Int) : Option FS := if rch X.S none ≤ m ∧ m < X.e then some ⟨m, X.S, X.L ++ [.bare m X.e]⟩ else none
def mkS (X : FS) : Mo → Option FS
  | .idle i => (idleS X.S i).map fun S => ⟨X.e, S, X.L⟩
  | .halve i => (halveS X.S i).map fun S => ⟨X.e, S, X.L⟩
  | .merge i j => (mergeS X.S i j).map fun S => ⟨X.e, S, X.L⟩
  | .lead j d i => (leadS X.S j d i).map fun S => ⟨X.e, S, X.L⟩
  | .fold i m => foldS X i m
  | .bare m => bareS X m
/-- a mating below e, told with its lesser stretch first -/
structure Rok (e : Int) (x : M4) : Prop where
  o0 : 0 ≤ x.1
  op : x.1 ≤ x.2.1
  m1 : 1 ≤ x.2.2.1
  pe : x.2.1 + x.2.2.1 ≤ e
  f01 : x.2.2.2 = 0 ∨ x.2.2.2 = 1
structure WF (X : FS) : Prop where
  e0 : 0 ≤ X.e
  e1 : X.e ≤ 1000000000000000000
  r : ∀ s ∈ X.S, Rok X.e s.2
  up : (X.S.map (·.1)).Pairwise (· < ·)
  len : X.S.length ≤ 24
theorem sget_in : ∀ {S : StL} {i : Int} {x : M4}, sget S i = some x → (i, x) ∈ S
  | s :: r, i, x, h => by
    have h' : (if s.1 = i then some s.2 else sget r i) = some x := h
    by_cases e : s.1 = i
    · rw [if_pos e] at h'
      cases h'
      rw [← e]
      exact List.mem_cons_self
    · rw [if_neg e] at h'
      exact List.mem_cons_of_mem _ (sget_in h')
theorem WF.at {X : FS} (h : WF X) {i : Int} {x : M4} (e : sget X.S i = some x) : Rok X.e x := h.r _ (sget_in e)
theorem sput_mem {S : StL} {i : Int} {x : M4} {s : Int × M4} (h : s ∈ sput S i x) : (s.1 = i ∧ s.2 = x) ∨ s ∈ S ∧ s.1 ≠ i := by
  obtain ⟨t, ht, e⟩ := List.mem_map.mp h
  by_cases z : t.1 = i
  · rw [if_pos z] at e
    rw [← e]
    exact .inl ⟨z, rfl⟩
  · rw [if_neg z] at e
    rw [← e]
    exact .inr ⟨ht, z⟩
theorem sdrop_mem {S : StL} {i : Int} {s : Int × M4} (h : s ∈ sdrop S i) : s ∈ S ∧ s.1 ≠ i := by
  obtain ⟨h1, h2⟩ := List.mem_filter.mp h
  exact ⟨h1, of_decide_eq_true h2⟩
theorem fold_max_ge (l : List Int) : ∀ a : Int, a ≤ l.foldl max a ∧ ∀ y ∈ l, y ≤ l.foldl max a := by
  induction l with
  | nil => exact fun a => ⟨Int.le_refl _, fun y h => by cases h⟩
  | cons z r ih =>
    intro a
    obtain ⟨h1, h2⟩ := ih (max a z)
    refine ⟨by show a ≤ r.foldl max (max a z); omega, fun y hy => ?_⟩
    show y ≤ r.foldl max (max a z)
    rcases List.mem_cons.mp hy with rfl | hy
    · omega
    · exact h2 y hy
theorem fold_max_in (l : List Int) : ∀ a : Int, l.foldl max a = a ∨ l.foldl max a ∈ l := by
  induction l with
  | nil => exact fun a => .inl rfl
  | cons z r ih =>
    intro a
    show r.foldl max (max a z) = a ∨ r.foldl max (max a z) ∈ z :: r
    rcases ih (max a z) with h | h
    · rw [h]
      by_cases q : a < z
      · exact .inr (by rw [show max a z = z by omega]; exact List.mem_cons_self)
      · exact .inl (by omega)
    · exact .inr (List.mem_cons_of_mem _ h)
/-- the greatest of the numbers, and 0 -/
theorem max_is {l : List Int} {M : Int} (h0 : 0 ≤ M) (h1 : M = 0 ∨ M ∈ l) (h2 : ∀ y ∈ l, y ≤ M) : M = l.foldl max 0 := by
  obtain ⟨g1, g2⟩ := fold_max_ge l 0
  have a : M ≤ l.foldl max 0 := by
    rcases h1 with h | h
    · omega
    · exact g2 M h
  have b : l.foldl max 0 ≤ M := by
    rcases fold_max_in l 0 with h | h
    · omega
    · exact h2 _ h
  omega
theorem endsL_mem {S : StL} {b : Option Int} {s : Int × M4} (hs : s ∈ S) (hb : b ≠ some s.1) : s.2.2.1 + s.2.2.2.1 ∈ endsL S b :=
  List.mem_map.mpr ⟨s, List.mem_filter.mpr ⟨hs, decide_eq_true hb⟩, rfl⟩
theorem rch_ge {S : StL} {b : Option Int} {s : Int × M4} (hs : s ∈ S) (hb : b ≠ some s.1) : s.2.2.1 + s.2.2.2.1 ≤ rch S b := (fold_max_ge _ 0).2 _ (endsL_mem hs hb)
theorem rch_0 (S : StL) (b : Option Int) : 0 ≤ rch S b := (fold_max_ge _ 0).1
theorem rch_le {X : FS} (h : WF X) (b : Option Int) : rch X.S b ≤ X.e := by
  rcases fold_max_in (endsL X.S b) 0 with z | z
  · have := h.e0
    unfold rch
    omega
  · obtain ⟨s, hs, e⟩ := List.mem_map.mp z
    have := (h.r s (List.mem_filter.mp hs).1).pe
    unfold rch
    omega
theorem nrm_id {x : M4} (h : x.1 ≤ x.2.1) : nrm x = x := by
  unfold nrm
  rw [if_neg (by omega), if_neg (by omega)]
theorem nrm_ok {e : Int} {x : M4} (h0 : 0 ≤ x.1) (h1 : 0 ≤ x.2.1) (hm : 1 ≤ x.2.2.1) (h2 : x.1 + x.2.2.1 ≤ e) (h3 : x.2.1 + x.2.2.1 ≤ e) (hf : x.2.2.2 = 0 ∨ x.2.2.2 = 1) : Rok e (nrm x) := by
  unfold nrm
  refine ⟨?_, ?_, hm, ?_, hf⟩
  · show 0 ≤ (if x.2.1 < x.1 then x.2.1 else x.1)
    split <;> omega
  · show (if x.2.1 < x.1 then x.2.1 else x.1) ≤ (if x.2.1 < x.1 then x.1 else x.2.1)
    split <;> omega
  · show (if x.2.1 < x.1 then x.1 else x.2.1) + x.2.2.1 ≤ e
    split <;> omega
theorem xor01 (f g : Int) : xorP f g = 0 ∨ xorP f g = 1 := by
  unfold xorP
  split
  · exact .inl rfl
  · exact .inr rfl
theorem ledB_ok {w : M4} {e at_ m : Int} (h : Rok e w) (hl : xLead w = true) (hm : 1 ≤ m) (h1 : w.2.1 ≤ at_) (h2 : at_ + m ≤ w.2.1 + w.2.2.1) : 0 ≤ ledB w at_ m ∧ ledB w at_ m + m ≤ e := by
  have g1 := h.o0
  have g2 := h.op
  have g3 := h.pe
  unfold ledB
  by_cases hf : w.2.2.2 = 1
  · rw [if_pos hf]
    have hl' : w.2.2.1 ≤ w.2.1 - w.1 := by
      have z : (if w.2.2.2 = 1 then decide (w.2.2.1 ≤ w.2.1 - w.1) else decide (1 ≤ w.2.1 - w.1)) = true := hl
      rw [if_pos hf] at z
      exact of_decide_eq_true z
    omega
  · rw [if_neg hf]
    have hl' : 1 ≤ w.2.1 - w.1 := by
      have z : (if w.2.2.2 = 1 then decide (w.2.2.1 ≤ w.2.1 - w.1) else decide (1 ≤ w.2.1 - w.1)) = true := hl
      rw [if_neg hf] at z
      exact of_decide_eq_true z
    have a1 := Int.emod_nonneg (at_ - w.1) (show w.2.1 - w.1 ≠ 0 by omega)
    have a2 := Int.emod_lt_of_pos (at_ - w.1) (show 0 < w.2.1 - w.1 by omega)
    omega
theorem lead_ok {x w y : M4} {e d : Int} (hx : Rok e x) (hw : Rok e w) (h : leadX x w d = some y) : Rok e y := by
  unfold leadX at h
  by_cases hc : (d = 0 ∨ d = 1) ∧ xLead w = true ∧ w.2.1 ≤ (if d = 1 then x.2.1 else x.1) ∧ (if d = 1 then x.2.1 else x.1) + x.2.2.1 ≤ w.2.1 + w.2.2.1
  · rw [if_pos hc] at h
    obtain ⟨hd, hl, h1, h2⟩ := hc
    cases h
    have b := ledB_ok hw hl hx.m1 h1 h2
    have g1 := hx.o0
    have g2 := hx.op
    have g3 := hx.pe
    by_cases z : d = 1
    · rw [if_pos z] at b
      simp only [if_pos z]
      exact nrm_ok (x := (x.1, ledB w x.2.1 x.2.2.1, x.2.2.1, xorP x.2.2.2 w.2.2.2)) g1 b.1 hx.m1 (by show x.1 + x.2.2.1 ≤ e; omega) b.2 (xor01 _ _)
    · rw [if_neg z] at b
      simp only [if_neg z]
      exact nrm_ok (x := (ledB w x.1 x.2.2.1, x.2.1, x.2.2.1, xorP x.2.2.2 w.2.2.2)) b.1 (by show 0 ≤ x.2.1; omega) hx.m1 b.2 (by show x.2.1 + x.2.2.1 ≤ e; omega) (xor01 _ _)
  · rw [if_neg hc] at h
    cases h
theorem WF.drop {X : FS} (h : WF X) (i : Int) : WF ⟨X.e, sdrop X.S i, X.L⟩ := ⟨h.e0, h.e1, fun s hs => h.r s (sdrop_mem hs).1, sdrop_keys h.up, Nat.le_trans (sdrop_length _ _) h.len⟩
theorem WF.put {X : FS} (h : WF X) {i : Int} {y : M4} (hy : Rok X.e y) : WF ⟨X.e, sput X.S i y, X.L⟩ := by
  refine ⟨h.e0, h.e1, fun s hs => ?_, by rw [sput_keys]; exact h.up, by rw [sput_length]; exact h.len⟩
  rcases sput_mem hs with ⟨_, e⟩ | ⟨hs, _⟩
  · rw [e]
    exact hy
  · exact h.r s hs
theorem isRep_of {o p m f : Int} (h : isRep o p m f = true) : f = 0 ∧ 1 ≤ p - o ∧ p - o ≤ m := of_decide_eq_true h
theorem mrg_ok {x y z : M4} {e : Int} (hx : Rok e x) (hy : Rok e y) (h : mrg x y = some z) : Rok e z := by
  unfold mrg at h
  split at h
  · rename_i hc
    obtain ⟨r1, r2, _⟩ := hc
    cases h
    obtain ⟨_, a1, a2⟩ := isRep_of r1
    obtain ⟨_, b1, b2⟩ := isRep_of r2
    have g1 := hx.o0
    have g2 := hx.pe
    have g3 := hy.o0
    have g4 := hy.pe
    have hg1 : 1 ≤ Nat.gcd (x.2.1 - x.1).toNat (y.2.1 - y.1).toNat := Nat.gcd_pos_of_pos_left _ (by omega)
    have hg2 : Nat.gcd (x.2.1 - x.1).toNat (y.2.1 - y.1).toNat ≤ (x.2.1 - x.1).toNat := Nat.gcd_le_left _ (by omega)
    have hg3 : Nat.gcd (x.2.1 - x.1).toNat (y.2.1 - y.1).toNat ≤ (y.2.1 - y.1).toNat := Nat.gcd_le_right _ (by omega)
    generalize Nat.gcd (x.2.1 - x.1).toNat (y.2.1 - y.1).toNat = g at hg1 hg2 hg3 ⊢
    unfold imin imax
    refine ⟨?_, ?_, ?_, ?_, .inl rfl⟩
    · show 0 ≤ (if y.1 < x.1 then y.1 else x.1)
      split <;> omega
    · show (if y.1 < x.1 then y.1 else x.1) ≤ (if y.1 < x.1 then y.1 else x.1) + (g : Int)
      omega
    · show 1 ≤ (if y.2.1 + y.2.2.1 > x.2.1 + x.2.2.1 then y.2.1 + y.2.2.1 else x.2.1 + x.2.2.1) - (if y.1 < x.1 then y.1 else x.1) - (g : Int)
      split <;> split <;> omega
    · show (if y.1 < x.1 then y.1 else x.1) + (g : Int) + ((if y.2.1 + y.2.2.1 > x.2.1 + x.2.2.1 then y.2.1 + y.2.2.1 else x.2.1 + x.2.2.1) - (if y.1 < x.1 then y.1 else x.1) - (g : Int)) ≤ e
      split <;> omega
  · cases h
theorem half_ok {x : M4} {e : Int} (hx : Rok e x) (h : hlf x.1 x.2.1 x.2.2.1 ≠ 0) : Rok e (x.1, x.2.1 + x.2.2.1 - hlf x.1 x.2.1 x.2.2.1, hlf x.1 x.2.1 x.2.2.1, x.2.2.2) := by
  have g1 := hx.o0
  have g2 := hx.op
  have g3 := hx.pe
  have g4 := hx.m1
  have e0 : hlf x.1 x.2.1 x.2.2.1 = (x.2.1 + x.2.2.1 - x.1) / 2 := rfl
  generalize hlf x.1 x.2.1 x.2.2.1 = k at h e0 ⊢
  refine ⟨g1, ?_, ?_, ?_, hx.f01⟩
  · show x.1 ≤ x.2.1 + x.2.2.1 - k
    omega
  · show 1 ≤ k
    omega
  · show x.2.1 + x.2.2.1 - k + k ≤ e
    omega
theorem cut_ok {x : M4} {e m : Int} (hx : Rok e x) (hl : xLead x = true) (h1 : x.2.1 ≤ m) (h2 : m - x.2.1 ≠ 0) (h3 : m < x.2.1 + x.2.2.1) : Rok m (cutX x m) := by
  have g1 := hx.o0
  have g2 := hx.op
  unfold cutX
  by_cases hf : x.2.2.2 = 1
  · have hl' : x.2.2.1 ≤ x.2.1 - x.1 := by
      have z : (if x.2.2.2 = 1 then decide (x.2.2.1 ≤ x.2.1 - x.1) else decide (1 ≤ x.2.1 - x.1)) = true := hl
      rw [if_pos hf] at z
      exact of_decide_eq_true z
    rw [if_pos hf]
    exact ⟨by show 0 ≤ x.1 + x.2.2.1 - (m - x.2.1); omega, by show x.1 + x.2.2.1 - (m - x.2.1) ≤ x.2.1; omega, by show 1 ≤ m - x.2.1; omega, by show x.2.1 + (m - x.2.1) ≤ m; omega, hx.f01⟩
  · rw [if_neg hf]
    exact ⟨g1, g2, by show 1 ≤ m - x.2.1; omega, by show x.2.1 + (m - x.2.1) ≤ m; omega, hx.f01⟩
/-- a right move leaves a road that is well formed -/
theorem mkS_wf {X X' : FS} (h : WF X) : ∀ {mo : Mo}, mkS X mo = some X' → WF X'
  | .idle i, e => by
    obtain ⟨S, hS, rfl⟩ := Option.map_eq_some_iff.mp (show (idleS X.S i).map (fun S => (⟨X.e, S, X.L⟩ : FS)) = some X' from e)
    unfold idleS at hS
    split at hS
    · split at hS
      · cases hS
        exact h.drop i
      · cases hS
    · cases hS
  | .halve i, e => by
    obtain ⟨S, hS, rfl⟩ := Option.map_eq_some_iff.mp (show (halveS X.S i).map (fun S => (⟨X.e, S, X.L⟩ : FS)) = some X' from e)
    unfold halveS at hS
    split at hS
    · rename_i x hx
      split at hS
      · cases hS
      · split at hS
        · cases hS
          exact h.drop i
        · rename_i hz
          cases hS
          have k := half_ok (h.at hx) hz
          rw [nrm_id k.op]
          exact h.put k
    · cases hS
  | .merge i j, e => by
    obtain ⟨S, hS, rfl⟩ := Option.map_eq_some_iff.mp (show (mergeS X.S i j).map (fun S => (⟨X.e, S, X.L⟩ : FS)) = some X' from e)
    unfold mergeS at hS
    split at hS
    · cases hS
    · split at hS
      · rename_i x y hx hy
        obtain ⟨z, hz, rfl⟩ := Option.map_eq_some_iff.mp hS
        have k := mrg_ok (h.at hx) (h.at hy) hz
        rw [nrm_id k.op]
        exact WF.drop (X := ⟨X.e, sput X.S i z, X.L⟩) (h.put k) j
      · cases hS
  | .lead j d i, e => by
    obtain ⟨S, hS, rfl⟩ := Option.map_eq_some_iff.mp (show (leadS X.S j d i).map (fun S => (⟨X.e, S, X.L⟩ : FS)) = some X' from e)
    unfold leadS at hS
    split at hS
    · cases hS
    · split at hS
      · rename_i x w hx hw
        obtain ⟨z, hz, rfl⟩ := Option.map_eq_some_iff.mp hS
        exact h.put (lead_ok (h.at hx) (h.at hw) hz)
      · cases hS
  | .fold i m, e => by
    have e' : foldS X i m = some X' := e
    unfold foldS at e'
    split at e'
    · rename_i x hx
      split at e'
      · rename_i hc
        obtain ⟨hl, h1, h2, h3, h4⟩ := hc
        cases e'
        have k0 := h.at hx
        have others : ∀ s ∈ X.S, s.1 ≠ i → Rok m s.2 := fun s hs hn => by
          have r := h.r s hs
          have z := rch_ge hs (b := some i) (fun q => hn (Option.some.inj q).symm)
          exact ⟨r.o0, r.op, r.m1, by omega, r.f01⟩
        have hm0 : 0 ≤ m := Int.le_trans (rch_0 _ _) h4
        have hm1 : m ≤ 1000000000000000000 := by have := h.e1; omega
        by_cases z : m - x.2.1 = 0
        · rw [if_pos z]
          exact ⟨hm0, hm1, fun s hs => others s (sdrop_mem hs).1 (sdrop_mem hs).2, sdrop_keys h.up, Nat.le_trans (sdrop_length _ _) h.len⟩
        · rw [if_neg z]
          refine ⟨hm0, hm1, fun s hs => ?_, by rw [sput_keys]; exact h.up, by rw [sput_length]; exact h.len⟩
          rcases sput_mem hs with ⟨_, q⟩ | ⟨hs, hn⟩
          · rw [q]
            exact cut_ok k0 hl h2 z (by rw [h1]; exact h3)
          · exact others s hs hn
      · cases e'
    · cases e'
  | .bare m, e => by
    have e' : bareS X m = some X' := e
    unfold bareS at e'
    split at e'
    · rename_i hc
      cases e'
      refine ⟨Int.le_trans (rch_0 _ _) hc.1, by show m ≤ _; have := h.e1; omega, fun s hs => ?_, h.up, h.len⟩
      have r := h.r s hs
      have z : s.2.2.1 + s.2.2.2.1 ≤ rch X.S none := rch_ge hs (b := none) (fun q => by cases q)
      have z2 := hc.1
      exact ⟨r.o0, r.op, r.m1, by show s.2.2.1 + s.2.2.2.1 ≤ m; omega, r.f01⟩
    · cases e'

/-! ### a front, as the data tell it -/
def Past (H : Hp) (ps : List V) (L : List Ev) : Prop := Paired (fun v ev => ∃ t, v = V.ref t ∧ H t = some (.tup (evV ev))) ps L
theorem Past.keep {H H' : Hp} (k : KeepT H H') {ps : List V} {L : List Ev} (h : Past H ps L) : Past H' ps L := Paired.mapP h fun v ev ⟨t, e1, e2⟩ => ⟨t, e1, k _ _ e2⟩
theorem Past.length {H : Hp} : ∀ {ps : List V} {L : List Ev}, Past H ps L → ps.length = L.length
  | _, _, .nil => rfl
  | _, _, .cons _ r => congrArg (· + 1) (Past.length r)
theorem Past.snoc {H : Hp} {v : V} {ev : Ev} (hs : ∃ t, v = V.ref t ∧ H t = some (.tup (evV ev))) : ∀ {ps : List V} {L : List Ev}, Past H ps L → Past H (ps ++ [v]) (L ++ [ev])
  | _, _, .nil => .cons hs .nil
  | _, _, .cons h r => .cons h (Past.snoc hs r)
def FrS (C : Addr) (H : Hp) (a s q : Addr) (X : FS) : Prop := ∃ ps, FrAt C H a s q X.e X.S ps ∧ Past H ps X.L
theorem FrAt.offT {C : Addr} {H H' : Hp} {a s q : Addr} {e : Int} {S : StL} {ps : List V} (h : FrAt C H a s q e S ps) (o : Off a s q H H') : KeepT H H' := fun b xs hb => by
  obtain ⟨h1, h2, h3⟩ := h.ne_tup hb
  exact o _ _ hb h1 h2 h3
theorem FrS.same {C : Addr} {H H' : Hp} {a s q : Addr} {X : FS} (h : FrS C H a s q X) (k : Same H H') : FrS C H' a s q X := by
  obtain ⟨ps, h1, h2⟩ := h
  exact ⟨ps, h1.same k, h2.keep fun b xs hb => k _ _ hb⟩
/-- what stands behind a move: r the road then, or none where it is refused -/
def AfterS (C : Addr) (H : Hp) (a s q : Addr) (X : FS) (r : Option FS) (Q : VK) : Prop :=
  (r = none → ∀ H', FrS C H' a s q X → Off a s q H H' → Q (.bl false) H') ∧ ∀ X', r = some X' → ∀ H', FrS C H' a s q X' → Off a s q H H' → Q (.bl true) H'
theorem After.ofS {C : Addr} {H : Hp} {a s q : Addr} {X : FS} {ps : List V} {r : Option StL} {Q : VK} (fa : FrAt C H a s q X.e X.S ps) (hp : Past H ps X.L) (h : AfterS C H a s q X (r.map fun S => ⟨X.e, S, X.L⟩) Q) : After C H a s q X.e X.S ps r Q :=
  ⟨fun e H' f o => h.1 (by rw [e]; rfl) H' ⟨ps, f, hp.keep (fa.offT o)⟩ o, fun S' e H' f o => h.2 ⟨X.e, S', X.L⟩ (by rw [e]; rfl) H' ⟨ps, f, hp.keep (fa.offT o)⟩ o⟩
theorem putF_edge (e m : Int) (s q : Addr) : putF ("edge" : Str) (V.int m) (fr e s q) = fr m s q := by
  unfold fr putF
  rw [if_pos rfl]
theorem FrAt.edge {C dx : Addr} {H : Hp} {a s q : Addr} {e m : Int} {S : StL} {ps : List V} (h : FrAt C H a s q e S ps) : FrAt C (upd H a (.ins C dx (fr m s q))) a s q m S ps ∧ Off a s q H (upd H a (.ins C dx (fr m s q))) := by
  obtain ⟨⟨dx0, ea⟩, ⟨kvs0, es, st0⟩, eq, up, len⟩ := h
  have n1 : s ≠ a := ne_of es ea (fun z => by cases z)
  have n2 : q ≠ a := ne_of eq ea (fun z => by cases z)
  refine ⟨⟨⟨dx, upd_same⟩, ⟨kvs0, by rw [upd_ne n1]; exact es, st0.keep fun b xs hb => ?_⟩, by rw [upd_ne n2]; exact eq, up, len⟩, fun b o hb h1 _ _ => ?_⟩
  · rw [upd_ne (ne_of hb ea (fun z => by cases z))]
    exact hb
  · rw [upd_ne h1]
    exact hb
theorem FrAt.past {C : Addr} {H : Hp} {a s q : Addr} {e : Int} {S : StL} {ps ps' : List V} (h : FrAt C H a s q e S ps) : FrAt C (upd H q (.lst ps')) a s q e S ps' ∧ Off a s q H (upd H q (.lst ps')) := by
  obtain ⟨⟨dx0, ea⟩, ⟨kvs0, es, st0⟩, eq, up, len⟩ := h
  have n1 : s ≠ q := ne_of es eq (fun z => by cases z)
  have n2 : a ≠ q := ne_of ea eq (fun z => by cases z)
  refine ⟨⟨⟨dx0, by rw [upd_ne n2]; exact ea⟩, ⟨kvs0, by rw [upd_ne n1]; exact es, st0.keep fun b xs hb => ?_⟩, upd_same, up, len⟩, fun b o hb _ _ h3 => ?_⟩
  · rw [upd_ne (ne_of hb eq (fun z => by cases z))]
    exact hb
  · rw [upd_ne h3]
    exact hb
/-! ### leader, idle, bare, reach -/
abbrev s_Fleader : Stmt := inClass (top 48) 13
abbrev N_Fleader : List Str := ["self", "i", "mating"]
abbrev P_Fleader : List Str := ["self", "i"]
theorem sc_Fleader : FnScope N_Fleader P_Fleader (defScope s_Fleader) := ⟨rfl, rfl, rfl, by decide +kernel, rfl, by decide +kernel, by decide +kernel⟩
abbrev s_Fidle : Stmt := inClass (top 48) 7
abbrev N_Fidle : List Str := ["self", "i", "mating"]
abbrev P_Fidle : List Str := ["self", "i"]
theorem sc_Fidle : FnScope N_Fidle P_Fidle (defScope s_Fidle) := ⟨rfl, rfl, rfl, by decide +kernel, rfl, by decide +kernel, by decide +kernel⟩
abbrev s_Freach : Stmt := inClass (top 48) 14
abbrev N_Freach : List Str := ["self", "but", "i"]
abbrev P_Freach : List Str := ["self", "but"]
theorem sc_Freach : FnScope N_Freach P_Freach (defScope s_Freach) := ⟨rfl, rfl, rfl, by decide +kernel, rfl, by decide +kernel, by decide +kernel⟩
abbrev s_Fbare : Stmt := inClass (top 48) 12
abbrev N_Fbare : List Str := ["self", "m"]
abbrev P_Fbare : List Str := ["self", "m"]
theorem sc_Fbare : FnScope N_Fbare P_Fbare (defScope s_Fbare) := ⟨rfl, rfl, rfl, by decide +kernel, rfl, by decide +kernel, by decide +kernel⟩
def spLeader (C : Addr) : Sp := fun vs H Q _ => ∃ (a s q : Addr) (e i : Int) (S : StL) (ps : List V), vs = [.ref a, .int i] ∧ FrAt C H a s q e S ps ∧ (∀ x t, sget S i = some x → xLead x = true → H t = some (t4 x) → Q (.ref t) H) ∧ ((∀ x, sget S i = some x → xLead x = false) → Q .non H)
def spIdle (C : Addr) : Sp := fun vs H Q _ => ∃ (a s q : Addr) (i : Int) (X : FS), vs = [.ref a, .int i] ∧ FrS C H a s q X ∧ WF X ∧ AfterS C H a s q X (mkS X (.idle i)) Q
def spReach (C : Addr) : Sp := fun vs H Q _ => ∃ (a s q : Addr) (v : V) (b : Option Int) (X : FS), vs = [.ref a, v] ∧ ((v = .non ∧ b = none) ∨ ∃ i : Int, v = .int i ∧ b = some i) ∧ FrS C H a s q X ∧ WF X ∧ ∀ H', Same H H' → Q (.int (rch X.S b)) H'
def spBare (C : Addr) : Sp := fun vs H Q _ => ∃ (a s q : Addr) (m : Int) (X : FS), vs = [.ref a, .int m] ∧ FrS C H a s q X ∧ WF X ∧ X.L.length ≤ 1000 ∧ AfterS C H a s q X (mkS X (.bare m)) Q
section
variable {P : Program} {w : World} {K : PySem.W.Frag} {mg : Str → Option Value} {base : Heap} {C : Addr}
theorem ok_leader {f fL fS : Addr} {fd fdL fdS : FuncData} (F : Fun K "leader" "Front.leader" s_Fleader f fd) (T : FrT K mg C) (D_is_leader : DefAt K mg "is_leader" s_is_leader P_is_leader fL fdL) (D_step_of : DefAt K mg "step_of" s_step_of P_step_of fS fdS) : FnOk P w K mg base CX0 3 f fd P_Fleader (spLeader C) := by
  have G_is_leader : FnOk P w K mg base CX0 2 fL fdL P_is_leader spLead := ok_lead D_is_leader D_step_of
  refine F.ok sc_Fleader (fun vs H Q E h => ?_) (fun cdv A outer s H vs Q E hr h => ?_)
  · obtain ⟨a, s, q, e, i, S, ps, rfl, _⟩ := h
    rfl
  · obtain ⟨a, s, q, e, i, S, ps, rfl, fa, h1, h2⟩ := h
    have hu := hu_of hr
    refine ⟨_, (pss_cons (ps_set (i := 2) sc_Fleader.nd rfl (.inl rfl) (pe_dget1 hu (pe_fld (pv 0) rfl) (pv 1) ⟨rfl, rfl, rfl, rfl⟩))
      (pss_cons (ps_if (PW.pt (pw_or (pt_cmpR op_isN (pv 2) pe_non (nomark _)) (pw_or1 (pt_not (pt_val (pe_call G_is_leader (hr.mono (by omega)) (by rfl) D_is_leader.g D_is_leader.F.kp D_is_leader.b .nil pass0 (pa_cons (pv 2) pa_nil))))))) (pss_one (ps_ret pe_non)) pss_nil)
      (pss_one (ps_ret (pv 2))))), ?_⟩
    obtain ⟨dx, ea⟩ := fa.at_a
    obtain ⟨o, g, g1, g2⟩ := get_at (i := i) fa
    refine ⟨.ref a, rfl, a, C, dx, _, _, rfl, ea, T.cl, T.nS, fr_standing e s q, s, rfl, isD_of fa, .int i, rfl, o, g, ?_⟩
    cases hx : sget S i with
    | none =>
      rw [g1 hx]
      exact ⟨.non, rfl, rfl, _, rfl, iteT (h2 fun x z => by rw [hx] at z; cases z)⟩
    | some x =>
      obtain ⟨t, rfl, ht⟩ := g2 x hx
      refine ⟨.ref t, rfl, rfl, _, rfl, iteF ?_⟩
      refine ⟨.ref t, rfl, t, x.1, x.2.1, x.2.2.1, x.2.2.2, rfl, ht, _, rfl, ?_⟩
      by_cases hl : xLead x = true
      · rw [show isLead x.1 x.2.1 x.2.2.1 x.2.2.2 = true from hl]
        exact iteF ⟨.ref t, rfl, h1 x t hx hl ht⟩
      · rw [show isLead x.1 x.2.1 x.2.2.1 x.2.2.2 = false from Bool.eq_false_iff.mpr hl]
        exact iteT (h2 fun y z => by rw [hx] at z; cases z; exact Bool.eq_false_iff.mpr hl)
theorem ok_idle {f fP fS : Addr} {fd fdP fdS : FuncData} (F : Fun K "idle" "Front.idle" s_Fidle f fd) (T : FrT K mg C) (M_put : Meth K C "put" fP) (G_put : FnOk P w K mg base CX0 3 fP fdP P_Fput (spPut C)) (b_put : Binds K fdP P_Fput []) (D_step_of : DefAt K mg "step_of" s_step_of P_step_of fS fdS) :
    FnOk P w K mg base CX0 4 f fd P_Fidle (spIdle C) := by
  have G_step_of : FnOk P w K mg base CX0 1 fS fdS P_step_of spStep := ok_step D_step_of
  refine F.ok sc_Fidle (fun vs H Q E h => ?_) (fun cdv A outer s H vs Q E hr h => ?_)
  · obtain ⟨a, s, q, i, X, rfl, _⟩ := h
    rfl
  · obtain ⟨a, s, q, i, X, rfl, ⟨ps, fa, hp⟩, wf, af⟩ := h
    have hu := hu_of hr
    refine ⟨_, (pss_cons (ps_set (i := 2) sc_Fidle.nd rfl (.inl rfl) (pe_dget1 hu (pe_fld (pv 0) rfl) (pv 1) ⟨rfl, rfl, rfl, rfl⟩))
      (pss_cons (ps_if (PW.pt (pw_or (pt_cmpR op_isN (pv 2) pe_non (nomark _)) (pw_or (pt_cmpR op_eq (pe_ix ix_tup (pv 2) pe_int (fun _ _ => rfl)) pe_int (nomark _)) (pw_or1 (pt_cmpR op_ne (pe_call G_step_of (hr.mono (by omega)) (by rfl) D_step_of.g D_step_of.F.kp D_step_of.b .nil pass0 (pa_cons (pv 2) pa_nil)) pe_int (nomark _)))))) (pss_one (ps_ret pe_bl)) pss_nil)
      (pss_cons (ps_expr (pe_meth (pv 0) T.cl M_put G_put (hr.mono (by omega)) b_put .nil pass0 (pa_cons (pv 1) (pa_cons pe_non pa_nil))))
      (pss_one (ps_ret pe_bl))))), ?_⟩
    obtain ⟨dx, ea⟩ := fa.at_a
    obtain ⟨o, g, g1, g2⟩ := get_at (i := i) fa
    obtain ⟨h1, h2⟩ := After.ofS (r := idleS X.S i) fa hp af
    refine ⟨.ref a, rfl, a, C, dx, _, _, rfl, ea, T.cl, T.nS, fr_standing X.e s q, s, rfl, isD_of fa, .int i, rfl, o, g, ?_⟩
    unfold idleS at h1 h2
    cases hx : sget X.S i with
    | none =>
      rw [hx] at h1
      rw [g1 hx]
      exact ⟨.non, rfl, rfl, _, rfl, iteT (h1 rfl H fa (Off.of_same (Same.refl H)))⟩
    | some x =>
      rw [hx] at h1 h2
      obtain ⟨t, rfl, ht⟩ := g2 x hx
      have rk := wf.at hx
      refine ⟨.ref t, rfl, rfl, _, rfl, iteF ?_⟩
      refine ⟨.ref t, rfl, t, _, 3, .int x.2.2.2, rfl, rfl, SqT.of ht, at4_3, rfl, _, rfl, ?_⟩
      refine ite2 (fun h0 => ?_) (fun h0 => ?_)
      · have h0' : x.2.2.2 = 1 := V.int.inj (of_decide_eq_true h0)
        exact h1 (if_neg (by omega)) H fa (Off.of_same (Same.refl H))
      · have h0' : ¬ x.2.2.2 = 1 := fun z => h0 (decide_eq_true (congrArg V.int z))
        have hf : x.2.2.2 = 0 := rk.f01.resolve_right h0'
        refine ⟨.ref t, rfl, t, x.1, x.2.1, x.2.2.1, x.2.2.2, rfl, ht, rfl, _, rfl, ?_⟩
        by_cases hz : x.2.1 - x.1 = 0
        · refine iteNS (congrArg V.int hz) ?_
          have e2 := h2 (sdrop X.S i) (if_pos ⟨hf, by omega⟩)
          exact ⟨.ref a, rfl, a, dx, _, rfl, ea, put_no, .int i, rfl, a, s, q, X.e, i, X.S, ps, .non, x, rfl, fa, hx, .inl ⟨rfl, fun H' f1 f2 => e2 H' f1 f2⟩⟩
        · rw [decide_eq_false (show ¬ V.int (x.2.1 - x.1) = V.int 0 from fun z => hz (V.int.inj z))]
          exact h1 (if_neg (by omega)) H fa (Off.of_same (Same.refl H))
theorem ok_reach {f fE : Addr} {fd fdE : FuncData} (F : Fun K "reach" "Front.reach" s_Freach f fd) (T : FrT K mg C) (D_end_of : DefAt K mg "end_of" s_end_of P_end_of fE fdE) (B : Bn mg) : FnOk P w K mg base CX0 2 f fd P_Freach (spReach C) := by
  have G_end_of : FnOk P w K mg base CX0 1 fE fdE P_end_of spEnd := ok_end D_end_of
  refine F.ok sc_Freach (fun vs H Q E h => ?_) (fun cdv A outer s H vs Q E hr h => ?_)
  · obtain ⟨a, s, q, v, b, X, rfl, _⟩ := h
    rfl
  · obtain ⟨a, s, q, v, b, X, rfl, hb, ⟨ps, fa, hp⟩, wf, qq⟩ := h
    have hu := hu_of hr
    refine ⟨_, (pss_one (ps_ret (pe_callBK (cr_maxDf rfl) (by rfl) B.max (by decide +kernel) (pa_cons (pe_lock (pe_lc (own := [("i", 2)]) (g := gName 2) (by rfl) sc_Freach.nd (pi_keys (pe_fld (pv 0) rfl)) (blkOk_by (own := [("i", 2)]) (N := N_Freach) (sc := defScope s_Freach) (by decide +kernel)) (fun _ _ _ _ _ => (pg_name (i := 2) sc_Freach.nd rfl (.inl rfl))) (fun _ _ _ _ _ => (pts_one (pt_cmpR op_ne (pv 2) (pv 1) (nomark _)))) (fun _ _ _ _ _ => (pe_call G_end_of (hr.mono (by omega)) (by rfl) D_end_of.g D_end_of.F.kp D_end_of.b .nil pass0 (pa_cons (pe_dget hu (pe_fldK (K := K) rfl (pv 0) rfl) (pv 2) (fun _ _ => rfl)) pa_nil))))) pa_nil) (pk_cons pe_int pk_nil)))), ?_⟩
    obtain ⟨dx, ea⟩ := fa.at_a
    obtain ⟨kvs, es, st⟩ := fa.at_s
    have nas : a ≠ s := ne_of ea es (fun z => by cases z)
    have hl := fa.len
    have hkl := st.length
    have ntest : ∀ z : Int, scal (.int z) v = true ∧ (!decide (V.int z = v)) = decide (b ≠ some z) := fun z => by
      rcases hb with ⟨rfl, rfl⟩ | ⟨i, rfl, rfl⟩
      · refine ⟨rfl, ?_⟩
        rw [decide_eq_false (show ¬ V.int z = V.non from fun q => by cases q), decide_eq_true (show (none : Option Int) ≠ some z from fun q => by cases q)]
        rfl
      · refine ⟨rfl, ?_⟩
        by_cases e : z = i
        · rw [e, decide_eq_true rfl, decide_eq_false (fun q => q rfl)]
          rfl
        · rw [decide_eq_false (show ¬ V.int z = V.int i from fun q => e (V.int.inj q)), decide_eq_true (show some i ≠ some z from fun q => e (Option.some.inj q).symm)]
          rfl
    refine ⟨s, .dK kvs, es, trivial, fun od => ?_⟩
    have sl : ∀ {c : Addr} {o : HO}, H c = some o → c ≠ s → (upd H s (.frz od (.dK kvs))) c = some o := fun h n => by rw [upd_ne n]; exact h
    refine ⟨.ref a, rfl, a, C, dx, _, _, rfl, sl ea nas, T.cl, T.nS, fr_standing X.e s q, s, od, rfl, .inl ⟨kvs, upd_same, fun D nD => lc_it walk_keys (fun i H2 => ∃ ns : List Int, Same (upd H s (.frz od (.dK kvs))) H2 ∧ H2 D = some (.lst (ns.map V.int)) ∧ ns = endsL (X.S.take i) b)
      ⟨[], same_upd nD, upd_same, rfl⟩ (fun i H2 _ ⟨_, sm, _⟩ => sm _ _ upd_same) ?_ ?_⟩⟩
    · rintro i x H2 H3 hi ⟨ns, sm, eD, en⟩ ⟨rfl, k, v2, hk, rfl⟩
      obtain ⟨z, hz, e1, t, e2, e3⟩ := LiI.paired_get st hk
      have e1' : k = Sum.inl z.1 := e1
      subst e1'
      have e2' : v2 = V.ref t := e2
      subst e2'
      obtain ⟨tt, ht1, ht2⟩ := (st.get z.1).2 z.2 (sget_mem wf.up (List.mem_of_getElem? hz))
      have ntt : tt ≠ s := ne_of ht2 es (fun z => by cases z)
      obtain ⟨sc, nt⟩ := ntest z.1
      have hi' : i < X.S.length := (List.getElem?_eq_some_iff.mp hz).1
      have hle : ns.length ≤ i := by
        rw [en]
        unfold endsL
        rw [List.length_map]
        have := List.length_filter_le (fun s => decide (b ≠ some s.1)) (X.S.take i)
        rw [List.length_take] at this
        omega
      refine ⟨rfl, .int z.1, rfl, v, rfl, sc, _, rfl, ?_⟩
      rw [nt]
      have stepE : endsL (X.S.take (i + 1)) b = endsL (X.S.take i) b ++ (if decide (b ≠ some z.1) = true then [z.2.2.1 + z.2.2.2.1] else []) := by
        unfold endsL
        rw [List.take_add_one, hz, List.filter_append, List.map_append]
        congr 1
        show (List.filter (fun s => decide (b ≠ some s.1)) [z]).map _ = _
        simp only [List.filter_cons, List.filter_nil]
        by_cases q : decide (b ≠ some z.1) = true
        · rw [if_pos q, if_pos q]
          rfl
        · rw [if_neg q, if_neg q]
          rfl
      refine ite2 (fun h => ?_) (fun h => ?_)
      · rw [if_pos h] at stepE
        refine ⟨.ref a, rfl, a, C, dx, _, _, rfl, sm _ _ (sl ea nas), T.cl, T.nS, fr_standing X.e s q, .int z.1, rfl, s, .ref tt, rfl, .inl ⟨kvs, Sum.inl z.1, .inr ⟨od, sm _ _ upd_same⟩, rfl, ht1.symm⟩, ?_⟩
        refine ⟨tt, z.2.1, z.2.2.1, z.2.2.2.1, z.2.2.2.2, rfl, sm _ _ (sl ht2 ntt), ?_⟩
        refine ⟨_, eD, sz_lt (by rw [List.length_map]; omega), ns ++ [z.2.2.1 + z.2.2.2.1], fun c o hc => ?_, by rw [upd_same, List.map_append]; rfl, by rw [stepE, en]⟩
        rw [upd_ne (ne_of_none hc nD)]
        exact sm _ _ hc
      · rw [if_neg h, List.append_nil] at stepE
        exact ⟨ns, sm, eD, by rw [stepE, en]⟩
    · rintro H2 ⟨ns, sm, eD, en⟩
      rw [hkl, List.take_length] at en
      have nDs : D ≠ s := fun z => by
        rw [z, upd_same] at nD
        cases nD
      have fin : Same H (upd H2 s (.dK kvs)) := fun c o hc => by
        by_cases z : c = s
        · rw [z] at hc ⊢
          rw [es] at hc
          rw [upd_same]
          exact hc
        · rw [upd_ne z]
          exact sm _ _ (sl hc z)
      have pos : ∀ y ∈ ns, 0 ≤ y := fun y hy => by
        rw [en] at hy
        obtain ⟨z, hz, rfl⟩ := List.mem_map.mp hy
        have r := wf.r z (List.mem_filter.mp hz).1
        have := r.o0
        have := r.op
        have := r.m1
        omega
      refine ⟨sm _ _ upd_same, D, ns, .int 0, rfl, rfl, SqL.of (by rw [upd_ne nDs]; exact eD), fun e => ?_, fun m hm hle => ?_⟩
      · have z : rch X.S b = 0 := by
          unfold rch
          rw [← en, e]
          rfl
        rw [← z]
        exact qq _ fin
      · have z : m = rch X.S b := by
          unfold rch
          rw [← en]
          exact max_is (pos m hm) (.inr hm) hle
        rw [z]
        exact qq _ fin
theorem ok_bare {f fR : Addr} {fd fdR : FuncData} (F : Fun K "bare" "Front.bare" s_Fbare f fd) (T : FrT K mg C) (M_reach : Meth K C "reach" fR) (G_reach : FnOk P w K mg base CX0 2 fR fdR P_Freach (spReach C)) (b_reach : Binds K fdR P_Freach []) : FnOk P w K mg base CX0 3 f fd P_Fbare (spBare C) := by
  refine F.ok sc_Fbare (fun vs H Q E h => ?_) (fun cdv A outer s H vs Q E hr h => ?_)
  · obtain ⟨a, s, q, m, X, rfl, _⟩ := h
    rfl
  · obtain ⟨a, s, q, m, X, rfl, fS, wf, hL, h1, h2⟩ := h
    refine ⟨_, (pss_cons (ps_if (PW.pt (pw_or (pt_cmpR op_lt (pv 1) (pe_meth (pv 0) T.cl M_reach G_reach (hr.mono (by omega)) b_reach .nil pass0 (pa_cons pe_non pa_nil)) (nomark _)) (pw_or1 (pt_cmpR op_ge (pv 1) (pe_fld (pv 0) rfl) (nomark _))))) (pss_one (ps_ret pe_bl)) pss_nil)
      (pss_cons (ps_expr (pe_bm PySem.F.plainAttrs_list PySem.F.slot_list_append PySem.F.type_list_append mt_append (pe_fld (pv 0) rfl) (pa_cons (pe_tup (pa_cons pe_str (pa_cons (pv 1) (pa_cons (pe_fld (pv 0) rfl) pa_nil)))) pa_nil)))
      (pss_cons (ps_fld (pv 0) (pv 1) rfl)
      (pss_one (ps_ret pe_bl))))), ?_⟩
    have ea0 : ∃ dx, H a = some (.ins C dx (fr X.e s q)) := let ⟨_, fa, _⟩ := fS; fa.at_a
    obtain ⟨dx, ea⟩ := ea0
    refine ⟨.int m, rfl, .ref a, rfl, a, dx, _, rfl, ea, put_no, a, s, q, .non, none, X, rfl, .inl ⟨rfl, rfl⟩, fS, wf, fun H1 s1 => ?_⟩
    have f1 := fS.same s1
    obtain ⟨ps, fa, hp⟩ := id f1
    refine ⟨m, _, rfl, rfl, _, rfl, ?_⟩
    have no : ¬ (rch X.S none ≤ m ∧ m < X.e) → Q (.bl false) H1 := fun z => h1 (show bareS X m = none by unfold bareS; exact if_neg z) H1 f1 (Off.of_same s1)
    refine ite2 (fun h => ?_) (fun h => ?_)
    · exact no fun z => by have := of_decide_eq_true h; omega
    · have h' : ¬ m < rch X.S none := fun z => h (decide_eq_true z)
      refine ⟨.int m, rfl, .ref a, rfl, a, C, dx, _, _, rfl, s1 _ _ ea, T.cl, T.nE, fr_edge X.e s q, m, X.e, rfl, rfl, _, rfl, ?_⟩
      refine ite2 (fun h3 => ?_) (fun h3 => ?_)
      · exact no fun z => by have := of_decide_eq_true h3; omega
      · have h3' : ¬ X.e ≤ m := fun z => h3 (decide_eq_true z)
        have hq := fa.at_q
        have hpl := hp.length
        refine ⟨.ref a, rfl, a, C, dx, _, _, rfl, s1 _ _ ea, T.cl, T.nP, fr_past X.e s q, .inl ⟨rfl, _, SqL.of hq⟩, .int m, rfl, .ref a, rfl, a, C, dx, _, _, rfl, s1 _ _ ea, T.cl, T.nE, fr_edge X.e s q, by show 3 ≤ sizeLine; decide, fun t nt => ?_⟩
        have st := same_upd (H := H1) (o := .tup [.str "bare", .int m, .int X.e]) nt
        refine ⟨q, ps, _, rfl, rfl, st _ _ hq, sz_lt (by omega), ?_⟩
        have fa2 := fa.same st
        obtain ⟨fa3, o3⟩ := fa2.past (ps' := ps ++ [.ref t])
        obtain ⟨dx3, ea3⟩ := fa3.at_a
        refine ⟨.int m, rfl, .ref a, rfl, a, C, dx3, _, rfl, ea3, T.cl, T.nE, by show 3 < 1000; decide, ?_⟩
        rw [putF_edge]
        obtain ⟨fa4, o4⟩ := fa3.edge (dx := dx3) (m := m)
        have ks : KeepT (upd H1 t (.tup [.str "bare", .int m, .int X.e])) (upd (upd (upd H1 t (.tup [.str "bare", .int m, .int X.e])) q (.lst (ps ++ [.ref t]))) a (.ins C dx3 (fr m s q))) := fa2.offT (o3.trans o4)
        have eb : mkS X (.bare m) = some ⟨m, X.S, X.L ++ [.bare m X.e]⟩ := by
          show bareS X m = _
          unfold bareS
          exact if_pos ⟨by omega, by omega⟩
        refine h2 _ eb _ ⟨_, fa4, Past.snoc ⟨t, rfl, ks _ _ upd_same⟩ ((hp.keep fun b xs hb => st _ _ hb).keep ks)⟩ (((Off.of_same s1).trans (Off.of_same st)).trans (o3.trans o4))
end

/-! ### led_back, lead -/
abbrev s_led_back : Stmt := top 47
abbrev N_led_back : List Str := ["leader", "at", "many"]
abbrev P_led_back : List Str := ["leader", "at", "many"]
theorem sc_led_back : FnScope N_led_back P_led_back (defScope s_led_back) := ⟨rfl, rfl, rfl, by decide +kernel, rfl, by decide +kernel, by decide +kernel⟩
abbrev s_Flead : Stmt := inClass (top 48) 10
abbrev N_Flead : List Str := ["self", "j", "side", "i", "mating", "leader", "one", "other", "many", "turned", "at", "begin"]
abbrev P_Flead : List Str := ["self", "j", "side", "i"]
theorem sc_Flead : FnScope N_Flead P_Flead (defScope s_Flead) := ⟨rfl, rfl, rfl, by decide +kernel, rfl, by decide +kernel, by decide +kernel⟩
def spLedBack : Sp := fun vs H Q _ => ∃ (t : Addr) (w : M4) (at_ m : Int), vs = [.ref t, .int at_, .int m] ∧ H t = some (t4 w) ∧ (w.2.2.2 = 0 ∨ w.2.2.2 = 1) ∧ xLead w = true ∧ 1 ≤ m ∧ w.2.1 ≤ at_ ∧ at_ + m ≤ w.2.1 + w.2.2.1 ∧ ∀ H', Same H H' → Q (.int (ledB w at_ m)) H'
def spFlead (C : Addr) : Sp := fun vs H Q _ => ∃ (a s q : Addr) (j d i : Int) (X : FS), vs = [.ref a, .int j, .int d, .int i] ∧ FrS C H a s q X ∧ WF X ∧ AfterS C H a s q X (mkS X (.lead j d i)) Q
theorem lead_st {w : M4} (h : xLead w = true) (hf : ¬ w.2.2.2 = 1) : 1 ≤ w.2.1 - w.1 := by
  have z : (if w.2.2.2 = 1 then decide (w.2.2.1 ≤ w.2.1 - w.1) else decide (1 ≤ w.2.1 - w.1)) = true := h
  rw [if_neg hf] at z
  exact of_decide_eq_true z
theorem lead_tu {w : M4} (h : xLead w = true) (hf : w.2.2.2 = 1) : w.2.2.1 ≤ w.2.1 - w.1 := by
  have z : (if w.2.2.2 = 1 then decide (w.2.2.1 ≤ w.2.1 - w.1) else decide (1 ≤ w.2.1 - w.1)) = true := h
  rw [if_pos hf] at z
  exact of_decide_eq_true z
theorem leadS_eq {S : StL} {j d i : Int} {x w : M4} (hij : ¬ i = j) (hx : sget S j = some x) (hw : sget S i = some w) : leadS S j d i = (leadX x w d).map fun y => sput S j y := by
  unfold leadS
  rw [if_neg hij, hx, hw]
theorem leadS_no {S : StL} {j d i : Int} (h : i = j ∨ sget S j = none ∨ (∀ w, sget S i = some w → xLead w = false) ∨ ¬ (d = 0 ∨ d = 1)) : leadS S j d i = none := by
  by_cases hij : i = j
  · unfold leadS
    rw [if_pos hij]
  cases hx : sget S j with
  | none =>
    unfold leadS
    rw [if_neg hij, hx]
  | some x =>
    cases hw : sget S i with
    | none =>
      unfold leadS
      rw [if_neg hij, hx, hw]
    | some w =>
      rw [leadS_eq hij hx hw]
      have e : leadX x w d = none := by
        unfold leadX
        refine if_neg fun z => ?_
        rcases h with h | h | h | h
        · exact hij h
        · rw [hx] at h
          cases h
        · have := h w hw
          rw [z.2.1] at this
          cases this
        · exact h z.1
      rw [e]
      rfl
theorem in01 (d : Int) : (([V.int 0, V.int 1] : List V).any fun y => decide (V.int d = y)) = decide (d = 0 ∨ d = 1) := by
  simp only [List.any_cons, List.any_nil, Bool.or_false, V.int.injEq]
  rw [← Bool.decide_or]
section
variable {P : Program} {w : World} {K : PySem.W.Frag} {mg : Str → Option Value} {base : Heap} {C : Addr}
theorem ok_led_back {f fP fH fB fS : Addr} {fd fdP fdH fdB fdS : FuncData} (D : DefAt K mg "led_back" s_led_back P_led_back f fd) (D_part : DefAt K mg "part" s_part P_part fP fdP) (D_holds : DefAt K mg "holds" s_holds P_holds fH fdH) (D_back : DefAt K mg "back" s_back P_back fB fdB) (D_step_of : DefAt K mg "step_of" s_step_of P_step_of fS fdS) (B : Bn mg) :
    FnOk P w K mg base CX0 3 f fd P_led_back spLedBack := by
  have G_part : FnOk P w K mg base CX0 2 fP fdP P_part spPart := ok_part D_part D_holds B
  have G_back : FnOk P w K mg base CX0 1 fB fdB P_back spBack := ok_back D_back
  have G_step_of : FnOk P w K mg base CX0 1 fS fdS P_step_of spStep := ok_step D_step_of
  refine D.F.ok sc_led_back (fun vs H Q E h => ?_) (fun cdv A outer s H vs Q E hr h => ?_)
  · obtain ⟨t, w, at_, m, rfl, _⟩ := h
    rfl
  · obtain ⟨t, w, at_, m, rfl, ht, hf01, hl, m1, h1, h2, q⟩ := h
    refine ⟨_, (pss_cons (ps_if (pt_cmpR op_eq (pe_ix ix_tup (pv 0) pe_int (fun _ _ => rfl)) pe_int (nomark _)) (pss_one (ps_ret (pe_ix ix_tup (pe_call G_part (hr.mono (by omega)) (by rfl) D_part.g D_part.F.kp D_part.b .nil pass0 (pa_cons (pe_call G_back (hr.mono (by omega)) (by rfl) D_back.g D_back.F.kp D_back.b .nil pass0 (pa_cons (pv 0) pa_nil)) (pa_cons (pv 1) (pa_cons (pv 2) pa_nil)))) pe_int (fun _ _ => rfl)))) pss_nil)
      (pss_one (ps_ret (pe_op op_add (pe_ix ix_tup (pv 0) pe_int (fun _ _ => rfl)) (pe_op op_mod (pe_op op_sub (pv 1) (pe_ix ix_tup (pv 0) pe_int (fun _ _ => rfl))) (pe_call G_step_of (hr.mono (by omega)) (by rfl) D_step_of.g D_step_of.F.kp D_step_of.b .nil pass0 (pa_cons (pv 0) pa_nil))))))), ?_⟩
    refine ⟨.ref t, rfl, t, _, 3, .int w.2.2.2, rfl, rfl, SqT.of ht, at4_3, rfl, _, rfl, ?_⟩
    unfold ledB at q
    refine ite2 (fun h => ?_) (fun h => ?_)
    · have hf : w.2.2.2 = 1 := V.int.inj (of_decide_eq_true h)
      rw [if_pos hf] at q
      refine ⟨.ref t, rfl, t, w.1, w.2.1, w.2.2.1, w.2.2.2, rfl, ht, fun r nr => ?_⟩
      refine ⟨.int at_, rfl, .int m, rfl, r, w.2.1, w.1, w.2.2.1, w.2.2.2, at_, m, rfl, upd_same, hf01, m1, h1, h2, fun u nu => ?_⟩
      have sm : Same H (upd (upd H r (tup4 w.2.1 w.1 w.2.2.1 w.2.2.2)) u (tup4 at_ (partP w.2.1 w.1 w.2.2.1 w.2.2.2 at_ m) m w.2.2.2)) := (same_upd nr).trans (same_upd nu)
      refine ⟨u, _, 1, _, rfl, rfl, SqT.of upd_same, at4_1, ?_⟩
      unfold partP
      rw [if_pos hf]
      exact q _ (by unfold partP at sm; rw [if_pos hf] at sm; exact sm)
    · have hf : ¬ w.2.2.2 = 1 := fun z => h (decide_eq_true (congrArg V.int z))
      rw [if_neg hf] at q
      have hs := lead_st hl hf
      exact ⟨.ref t, rfl, t, _, 0, .int w.1, rfl, rfl, SqT.of ht, at4_0, .int at_, rfl, .ref t, rfl, t, _, 0, .int w.1, rfl, rfl, SqT.of ht, at4_0, at_, w.1, rfl, rfl, .ref t, rfl, t, w.1, w.2.1, w.2.2.1, w.2.2.2, rfl, ht, _, _, rfl, rfl, by omega, w.1, _, rfl, rfl, q H (Same.refl H)⟩
theorem ok_Flead {f fP fL fB fH fD : Addr} {fd fdP fdL fdB fdH fdD : FuncData} (F : Fun K "lead" "Front.lead" s_Flead f fd) (T : FrT K mg C) (M_put : Meth K C "put" fP) (G_put : FnOk P w K mg base CX0 3 fP fdP P_Fput (spPut C)) (b_put : Binds K fdP P_Fput [])
    (M_leader : Meth K C "leader" fL) (G_leader : FnOk P w K mg base CX0 3 fL fdL P_Fleader (spLeader C)) (b_leader : Binds K fdL P_Fleader []) (D_back : DefAt K mg "back" s_back P_back fB fdB) (D_holds : DefAt K mg "holds" s_holds P_holds fH fdH)
    (D_led_back : DefAt K mg "led_back" s_led_back P_led_back fD fdD) (G_led_back : FnOk P w K mg base CX0 3 fD fdD P_led_back spLedBack) (B : Bn mg) : FnOk P w K mg base CX0 4 f fd P_Flead (spFlead C) := by
  have G_back : FnOk P w K mg base CX0 1 fB fdB P_back spBack := ok_back D_back
  have G_holds : FnOk P w K mg base CX0 1 fH fdH P_holds spHolds := ok_holds D_holds B
  refine F.ok sc_Flead (fun vs H Q E h => ?_) (fun cdv A outer s H vs Q E hr h => ?_)
  · obtain ⟨a, s, q, j, d, i, X, rfl, _⟩ := h
    rfl
  · obtain ⟨a, s, q, j, d, i, X, rfl, ⟨ps, fa, hp⟩, wf, af⟩ := h
    have hu := hu_of hr
    refine ⟨_, (pss_cons (ps_set (i := 4) sc_Flead.nd rfl (.inl rfl) (pe_dget1 hu (pe_fld (pv 0) rfl) (pv 1) ⟨rfl, rfl, rfl, rfl⟩))
      (pss_cons (ps_set (i := 5) sc_Flead.nd rfl (.inl rfl) (pe_meth (pv 0) T.cl M_leader G_leader (hr.mono (by omega)) b_leader .nil pass0 (pa_cons (pv 3) pa_nil)))
      (pss_cons (ps_if (PW.pt (pw_or (pt_cmpR op_eq (pv 3) (pv 1) (nomark _)) (pw_or (pt_cmpR op_notIn_seq (pv 2) (pe_tup (pa_cons pe_int (pa_cons pe_int pa_nil))) (by rfl)) (pw_or (pt_cmpR op_isN (pv 4) pe_non (nomark _)) (pw_or1 (pt_cmpR op_isN (pv 5) pe_non (nomark _))))))) (pss_one (ps_ret pe_bl)) pss_nil)
      (pss_cons (ps_asg (pv 4) (pg_tup (by rfl) (pgs_cons (pg_name (i := 6) sc_Flead.nd rfl (.inl rfl)) (pgs_cons (pg_name (i := 7) sc_Flead.nd rfl (.inl rfl)) (pgs_cons (pg_name (i := 8) sc_Flead.nd rfl (.inl rfl)) (pgs_cons (pg_name (i := 9) sc_Flead.nd rfl (.inl rfl)) pgs_nil))))))
      (pss_cons (ps_set (i := 10) sc_Flead.nd rfl (.inl rfl) (pe_ifExp (pt_cmpR op_eq (pv 2) pe_int (nomark _)) (pv 7) (pv 6)))
      (pss_cons (ps_if (pt_not (pt_val (pe_call G_holds (hr.mono (by omega)) (by rfl) D_holds.g D_holds.F.kp D_holds.b .nil pass0 (pa_cons (pe_call G_back (hr.mono (by omega)) (by rfl) D_back.g D_back.F.kp D_back.b .nil pass0 (pa_cons (pv 5) pa_nil)) (pa_cons (pv 10) (pa_cons (pv 8) pa_nil)))))) (pss_one (ps_ret pe_bl)) pss_nil)
      (pss_cons (ps_set (i := 11) sc_Flead.nd rfl (.inl rfl) (pe_call G_led_back (hr.mono (by omega)) (by rfl) D_led_back.g D_led_back.F.kp D_led_back.b .nil pass0 (pa_cons (pv 5) (pa_cons (pv 10) (pa_cons (pv 8) pa_nil)))))
      (pss_cons (ps_if (pt_cmpR op_eq (pv 2) pe_int (nomark _)) (pss_one (ps_set (i := 7) sc_Flead.nd rfl (.inl rfl) (pv 11))) (pss_one (ps_set (i := 6) sc_Flead.nd rfl (.inl rfl) (pv 11))))
      (pss_cons (ps_expr (pe_meth (pv 0) T.cl M_put G_put (hr.mono (by omega)) b_put .nil pass0 (pa_cons (pv 1) (pa_cons (pe_tup (pa_cons (pv 6) (pa_cons (pv 7) (pa_cons (pv 8) (pa_cons (pe_op op_xor (pv 9) (pe_ix ix_tup (pv 5) pe_int (fun _ _ => rfl))) pa_nil))))) pa_nil))))
      (pss_one (ps_ret pe_bl))))))))))), ?_⟩
    obtain ⟨dx, ea⟩ := fa.at_a
    obtain ⟨o, g, g1, g2⟩ := get_at (i := j) fa
    obtain ⟨o', g', g1', g2'⟩ := get_at (i := i) fa
    obtain ⟨h1, h2⟩ := After.ofS (r := leadS X.S j d i) fa hp af
    have no : ∀ H', Same H H' → leadS X.S j d i = none → Q (.bl false) H' := fun H' sm e => h1 e H' (fa.same sm) (Off.of_same sm)
    refine ⟨.ref a, rfl, a, C, dx, _, _, rfl, ea, T.cl, T.nS, fr_standing X.e s q, s, rfl, isD_of fa, .int j, rfl, o, g, ?_⟩
    -- the leader
    refine ⟨.ref a, rfl, a, dx, _, rfl, ea, put_no, .int i, rfl, a, s, q, X.e, i, X.S, ps, rfl, fa, fun w t hw hlw htw => ?_, fun hno => ?_⟩
    · refine ⟨.int i, rfl, .int j, rfl, rfl, _, rfl, ?_⟩
      refine ite2 (fun h => ?_) (fun h => ?_)
      · have h' : i = j := V.int.inj (of_decide_eq_true h)
        exact no H (Same.refl H) (leadS_no (.inl h'))
      · have hij : ¬ i = j := fun z => h (decide_eq_true (congrArg V.int z))
        refine ⟨.int d, rfl, by show 2 ≤ sizeLine; decide, fun tp ntp => ?_⟩
        have s1 := same_upd (H := H) (o := .tup [.int 0, .int 1]) ntp
        refine ⟨tp, _, rfl, .inr (SqT.of upd_same), rfl, rfl, _, rfl, ?_⟩
        rw [if_pos rfl, inV01]
        by_cases hd : d = 0 ∨ d = 1
        · rw [decide_eq_true hd]
          refine iteF ?_
          cases hx : sget X.S j with
          | none =>
            rw [g1 hx]
            exact ⟨.non, rfl, rfl, _, rfl, iteT (no _ s1 (leadS_no (.inr (.inl hx))))⟩
          | some x =>
            obtain ⟨tx, rfl, htx⟩ := g2 x hx
            have rx := wf.at hx
            have rw_ := wf.at hw
            have htx1 := s1 _ _ htx
            have htw1 := s1 _ _ htw
            refine ⟨.ref tx, rfl, rfl, _, rfl, iteF ?_⟩
            refine ⟨.ref t, rfl, rfl, _, rfl, iteF ?_⟩
            refine ⟨.ref tx, rfl, tx, _, rfl, SqT.of htx1, rfl, .int x.1, _, rfl, .int x.2.1, _, rfl, .int x.2.2.1, _, rfl, .int x.2.2.2, _, rfl, rfl, ?_⟩
            rcases id hd with rfl | rfl
            · skip
              refine ⟨.int 0, rfl, rfl, _, rfl, ite2 (fun h => absurd (of_decide_eq_true h) (by decide)) (fun _ => ⟨.int x.1, rfl, ?_⟩)⟩
              refine ⟨.ref t, rfl, t, w.1, w.2.1, w.2.2.1, w.2.2.2, rfl, htw1, fun r nr => ?_⟩
              have s2 := s1.trans (same_upd (o := tup4 w.2.1 w.1 w.2.2.1 w.2.2.2) nr)
              have htw2 := s2 _ _ htw
              refine ⟨.int x.1, rfl, .int x.2.2.1, rfl, r, w.2.1, w.1, w.2.2.1, w.2.2.2, .int x.1, .int x.2.2.1, rfl, upd_same, .inr (.inr ⟨x.1, x.2.2.1, rfl, rfl, ?_⟩)⟩
              refine ⟨_, rfl, ?_⟩
              by_cases hc : 1 ≤ x.2.2.1 ∧ w.2.1 ≤ x.1 ∧ x.1 + x.2.2.1 ≤ w.2.1 + w.2.2.1
              · rw [decide_eq_true hc]
                refine iteF ?_
                have el : leadX x w 0 = some (nrm (ledB w x.1 x.2.2.1, x.2.1, x.2.2.1, Builtin.bitXor x.2.2.2 w.2.2.2)) := by
                  rw [xor_is rx.f01 rw_.f01]
                  exact if_pos ⟨hd, hlw, hc.2.1, hc.2.2⟩
                refine ⟨.ref t, rfl, .int x.1, rfl, .int x.2.2.1, rfl, t, w, x.1, x.2.2.1, rfl, htw2, rw_.f01, hlw, hc.1, hc.2.1, hc.2.2, fun H3 s3 => ?_⟩
                have s4 := s2.trans s3
                refine ⟨.int 0, rfl, rfl, _, rfl, ite2 (fun h => absurd (of_decide_eq_true h) (by decide)) (fun _ => ⟨.int (ledB w x.1 x.2.2.1), rfl, ?_⟩)⟩
                refine ⟨.ref a, rfl, a, dx, _, rfl, s4 _ _ ea, put_no, .int j, rfl, .int (ledB w x.1 x.2.2.1), rfl, .int (x.2.1), rfl, .int x.2.2.1, rfl, .int x.2.2.2, rfl, .ref t, rfl, t, _, 3, .int w.2.2.2, rfl, rfl, SqT.of (s4 _ _ htw), at4_3, x.2.2.2, w.2.2.2, rfl, rfl, by show 4 ≤ sizeLine; decide, fun u nu => ?_⟩
                have s5 := s4.trans (same_upd (o := t4 (ledB w x.1 x.2.2.1, x.2.1, x.2.2.1, Builtin.bitXor x.2.2.2 w.2.2.2)) nu)
                refine ⟨a, s, q, X.e, j, X.S, ps, .ref u, x, rfl, fa.same s5, hx, .inr ⟨u, (ledB w x.1 x.2.2.1, x.2.1, x.2.2.1, Builtin.bitXor x.2.2.2 w.2.2.2), rfl, upd_same, fun H' f1 o1 => ?_⟩⟩
                exact h2 _ (by rw [leadS_eq hij hx hw, el]; rfl) H' f1 ((Off.of_same s5).trans o1)
              · rw [decide_eq_false hc]
                refine iteT ?_
                refine no _ s2 ?_
                have el : leadX x w 0 = none := if_neg fun z => hc ⟨rx.m1, z.2.2.1, z.2.2.2⟩
                rw [leadS_eq hij hx hw, el]
                rfl
            · skip
              refine ⟨.int 1, rfl, rfl, _, rfl, ite2 (fun _ => ⟨.int x.2.1, rfl, ?_⟩) (fun h => absurd (decide_eq_true rfl) h)⟩
              refine ⟨.ref t, rfl, t, w.1, w.2.1, w.2.2.1, w.2.2.2, rfl, htw1, fun r nr => ?_⟩
              have s2 := s1.trans (same_upd (o := tup4 w.2.1 w.1 w.2.2.1 w.2.2.2) nr)
              have htw2 := s2 _ _ htw
              refine ⟨.int x.2.1, rfl, .int x.2.2.1, rfl, r, w.2.1, w.1, w.2.2.1, w.2.2.2, .int x.2.1, .int x.2.2.1, rfl, upd_same, .inr (.inr ⟨x.2.1, x.2.2.1, rfl, rfl, ?_⟩)⟩
              refine ⟨_, rfl, ?_⟩
              by_cases hc : 1 ≤ x.2.2.1 ∧ w.2.1 ≤ x.2.1 ∧ x.2.1 + x.2.2.1 ≤ w.2.1 + w.2.2.1
              · rw [decide_eq_true hc]
                refine iteF ?_
                have el : leadX x w 1 = some (nrm (x.1, ledB w x.2.1 x.2.2.1, x.2.2.1, Builtin.bitXor x.2.2.2 w.2.2.2)) := by
                  rw [xor_is rx.f01 rw_.f01]
                  exact if_pos ⟨hd, hlw, hc.2.1, hc.2.2⟩
                refine ⟨.ref t, rfl, .int x.2.1, rfl, .int x.2.2.1, rfl, t, w, x.2.1, x.2.2.1, rfl, htw2, rw_.f01, hlw, hc.1, hc.2.1, hc.2.2, fun H3 s3 => ?_⟩
                have s4 := s2.trans s3
                refine ⟨.int 1, rfl, rfl, _, rfl, ite2 (fun _ => ⟨.int (ledB w x.2.1 x.2.2.1), rfl, ?_⟩) (fun h => absurd (decide_eq_true rfl) h)⟩
                refine ⟨.ref a, rfl, a, dx, _, rfl, s4 _ _ ea, put_no, .int j, rfl, .int (x.1), rfl, .int (ledB w x.2.1 x.2.2.1), rfl, .int x.2.2.1, rfl, .int x.2.2.2, rfl, .ref t, rfl, t, _, 3, .int w.2.2.2, rfl, rfl, SqT.of (s4 _ _ htw), at4_3, x.2.2.2, w.2.2.2, rfl, rfl, by show 4 ≤ sizeLine; decide, fun u nu => ?_⟩
                have s5 := s4.trans (same_upd (o := t4 (x.1, ledB w x.2.1 x.2.2.1, x.2.2.1, Builtin.bitXor x.2.2.2 w.2.2.2)) nu)
                refine ⟨a, s, q, X.e, j, X.S, ps, .ref u, x, rfl, fa.same s5, hx, .inr ⟨u, (x.1, ledB w x.2.1 x.2.2.1, x.2.2.1, Builtin.bitXor x.2.2.2 w.2.2.2), rfl, upd_same, fun H' f1 o1 => ?_⟩⟩
                exact h2 _ (by rw [leadS_eq hij hx hw, el]; rfl) H' f1 ((Off.of_same s5).trans o1)
              · rw [decide_eq_false hc]
                refine iteT ?_
                refine no _ s2 ?_
                have el : leadX x w 1 = none := if_neg fun z => hc ⟨rx.m1, z.2.2.1, z.2.2.2⟩
                rw [leadS_eq hij hx hw, el]
                rfl
        · rw [decide_eq_false hd]
          refine iteT ?_
          exact no _ s1 (leadS_no (.inr (.inr (.inr hd))))
    · -- no leader
      refine ⟨.int i, rfl, .int j, rfl, rfl, _, rfl, ?_⟩
      refine ite2 (fun h => ?_) (fun h => ?_)
      · exact no H (Same.refl H) (leadS_no (.inr (.inr (.inl hno))))
      · refine ⟨.int d, rfl, by show 2 ≤ sizeLine; decide, fun tp ntp => ?_⟩
        have s1 := same_upd (H := H) (o := .tup [.int 0, .int 1]) ntp
        refine ⟨tp, _, rfl, .inr (SqT.of upd_same), rfl, rfl, _, rfl, ?_⟩
        rw [if_pos rfl, inV01]
        by_cases hd : d = 0 ∨ d = 1
        · rw [decide_eq_true hd]
          refine iteF ?_
          cases hx : sget X.S j with
          | none =>
            rw [g1 hx]
            exact ⟨.non, rfl, rfl, _, rfl, iteT (no _ s1 (leadS_no (.inr (.inl hx))))⟩
          | some x =>
            obtain ⟨tx, rfl, htx⟩ := g2 x hx
            refine ⟨.ref tx, rfl, rfl, _, rfl, iteF ?_⟩
            exact ⟨.non, rfl, rfl, _, rfl, iteT (no _ s1 (leadS_no (.inr (.inr (.inl hno)))))⟩
        · rw [decide_eq_false hd]
          refine iteT ?_
          exact no _ s1 (leadS_no (.inr (.inr (.inl hno))))
end

/-! ### clipped -/
abbrev s_clipped : Stmt := top 38
abbrev N_clipped : List Str := ["mating", "length", "one", "other", "many", "turned", "low", "end"]
abbrev P_clipped : List Str := ["mating", "length"]
theorem sc_clipped : FnScope N_clipped P_clipped (defScope s_clipped) := ⟨rfl, rfl, rfl, by decide +kernel, rfl, by decide +kernel, by decide +kernel⟩
def clipLo (o p m f n : Int) : Int := if f = 1 then o + (if p + m - n > 0 then p + m - n else 0) else o
def clipHi (o p m f n : Int) : Int := if f = 1 then (if n < o + m then n else o + m) else (if o + n - p < (if n < o + m then n else o + m) then o + n - p else (if n < o + m then n else o + m))
def spClipped : Sp := fun vs H Q _ => ∃ (t : Addr) (o p m f n : Int), vs = [.ref t, .int n] ∧ H t = some (tup4 o p m f) ∧ (f = 0 ∨ f = 1) ∧
  (clipHi o p m f n ≤ clipLo o p m f n → Q .non H) ∧ (clipLo o p m f n < clipHi o p m f n → ∀ r, H r = none → Q (.ref r) (upd H r (tup4 (clipLo o p m f n) (partP o p m f (clipLo o p m f n) (clipHi o p m f n - clipLo o p m f n)) (clipHi o p m f n - clipLo o p m f n) f)))
theorem clip_lo (o p m f n : Int) : o ≤ clipLo o p m f n := by
  unfold clipLo
  split
  · split <;> omega
  · omega
theorem clip_hi (o p m f n : Int) : clipHi o p m f n ≤ o + m := by
  unfold clipHi
  split
  · split <;> omega
  · split
    · split at * <;> omega
    · split <;> omega
section
variable {P : Program} {w : World} {K : PySem.W.Frag} {mg : Str → Option Value} {base : Heap}
theorem ok_clipped {f fH fP : Addr} {fd fdH fdP : FuncData} (D : DefAt K mg "clipped" s_clipped P_clipped f fd) (D_part : DefAt K mg "part" s_part P_part fP fdP) (D_holds : DefAt K mg "holds" s_holds P_holds fH fdH) (B : Bn mg) : FnOk P w K mg base CX0 3 f fd P_clipped spClipped := by
  have G_part : FnOk P w K mg base CX0 2 fP fdP P_part spPart := ok_part D_part D_holds B
  refine D.F.ok sc_clipped (fun vs H Q E h => ?_) (fun cdv A outer s H vs Q E hr h => ?_)
  · obtain ⟨t, o, p, m, f, n, rfl, _⟩ := h
    rfl
  · obtain ⟨t, o, p, m, f, n, rfl, ht, hf, q1, q2⟩ := h
    refine ⟨_, (pss_cons (ps_asg (pv 0) (pg_tup (by rfl) (pgs_cons (pg_name (i := 2) sc_clipped.nd rfl (.inl rfl)) (pgs_cons (pg_name (i := 3) sc_clipped.nd rfl (.inl rfl)) (pgs_cons (pg_name (i := 4) sc_clipped.nd rfl (.inl rfl)) (pgs_cons (pg_name (i := 5) sc_clipped.nd rfl (.inl rfl)) pgs_nil))))))
      (pss_cons (ps_set (i := 6) sc_clipped.nd rfl (.inl rfl) (pv 2))
      (pss_cons (ps_set (i := 7) sc_clipped.nd rfl (.inl rfl) (pe_callB (call_min2 rfl) (by rfl) B.min (by decide +kernel) (pa_cons (pe_op op_add (pv 2) (pv 4)) (pa_cons (pv 1) pa_nil))))
      (C8.pss_cut (ps_if (pt_cmpR op_eq (pv 5) pe_int (nomark _)) (pss_one (ps_set (i := 6) sc_clipped.nd rfl (.inl rfl) (pe_op op_add (pv 2) (pe_callB (call_max2 rfl) (by rfl) B.max (by decide +kernel) (pa_cons pe_int (pa_cons (pe_op op_sub (pe_op op_add (pv 3) (pv 4)) (pv 1)) pa_nil)))))) (pss_one (ps_set (i := 7) sc_clipped.nd rfl (.inl rfl) (pe_callB (call_min2 rfl) (by rfl) B.min (by decide +kernel) (pa_cons (pv 7) (pa_cons (pe_op op_sub (pe_op op_add (pv 2) (pv 1)) (pv 3)) pa_nil))))))
      (pss_cons (ps_if (pt_cmpR op_le (pv 7) (pv 6) (nomark _)) (pss_one (ps_ret pe_non)) pss_nil)
      (pss_one (ps_ret (pe_call G_part (hr.mono (by omega)) (by rfl) D_part.g D_part.F.kp D_part.b .nil pass0 (pa_cons (pv 0) (pa_cons (pv 6) (pa_cons (pe_op op_sub (pv 7) (pv 6)) pa_nil))))))))))), ?_⟩
    refine ⟨.ref t, rfl, t, _, rfl, SqT.of ht, rfl, .int o, _, rfl, .int p, _, rfl, .int m, _, rfl, .int f, _, rfl, rfl, ?_⟩
    refine ⟨.int o, rfl, ?_⟩
    refine ⟨.int o, rfl, .int m, rfl, o, m, rfl, rfl, .int n, rfl, _, n, rfl, ?_⟩
    refine ⟨fun σ H' => σ = [some (.ref t), some (.int n), some (.int o), some (.int p), some (.int m), some (.int f), some (.int (clipLo o p m f n)), some (.int (clipHi o p m f n))] ∧ H' = H, ?_, ?_⟩
    · refine ⟨.int f, rfl, rfl, _, rfl, ?_⟩
      refine ite2 (fun h => ?_) (fun h => ?_)
      · have hf1 : f = 1 := V.int.inj (of_decide_eq_true h)
        refine ⟨.int o, rfl, .int p, rfl, .int m, rfl, p, m, rfl, rfl, .int n, rfl, _, n, rfl, rfl, 0, _, rfl, o, _, rfl, rfl, ?_, rfl⟩
        unfold clipLo clipHi
        rw [if_pos hf1, if_pos hf1]
        rfl
      · have hf1 : ¬ f = 1 := fun z => h (decide_eq_true (congrArg V.int z))
        refine ⟨_, rfl, .int o, rfl, .int n, rfl, o, n, rfl, rfl, .int p, rfl, _, p, rfl, rfl, _, _, rfl, ?_, rfl⟩
        unfold clipLo clipHi
        rw [if_neg hf1, if_neg hf1]
        rfl
    · rintro σ H' ⟨rfl, rfl⟩
      refine ⟨.int (clipHi o p m f n), rfl, .int (clipLo o p m f n), rfl, _, _, rfl, rfl, _, rfl, ?_⟩
      refine ite2 (fun h => ?_) (fun h => ?_)
      · exact q1 (of_decide_eq_true h)
      · have hlt : clipLo o p m f n < clipHi o p m f n := by
          have : ¬ clipHi o p m f n ≤ clipLo o p m f n := fun z => h (decide_eq_true z)
          omega
        have h1 := clip_lo o p m f n
        have h2 := clip_hi o p m f n
        refine ⟨.ref t, rfl, .int (clipLo o p m f n), rfl, .int (clipHi o p m f n), rfl, .int (clipLo o p m f n), rfl, _, _, rfl, rfl, t, o, p, m, f, _, _, rfl, ht, hf, by omega, h1, by omega, fun r hr' => ?_⟩
        exact q2 hlt r hr'
end

/-! ### fold -/
abbrev s_Ffold : Stmt := inClass (top 48) 11
abbrev N_Ffold : List Str := ["self", "i", "m", "leader", "step"]
abbrev P_Ffold : List Str := ["self", "i", "m"]
theorem sc_Ffold : FnScope N_Ffold P_Ffold (defScope s_Ffold) := ⟨rfl, rfl, rfl, by decide +kernel, rfl, by decide +kernel, by decide +kernel⟩
abbrev s_Ftop : Stmt := inClass (top 48) 1
abbrev N_Ftop : List Str := ["self"]
abbrev P_Ftop : List Str := ["self"]
theorem sc_Ftop : FnScope N_Ftop P_Ftop (defScope s_Ftop) := ⟨rfl, rfl, rfl, by decide +kernel, rfl, by decide +kernel, by decide +kernel⟩
def spFfold (C : Addr) : Sp := fun vs H Q _ => ∃ (a s q : Addr) (i m : Int) (X : FS), vs = [.ref a, .int i, .int m] ∧ FrS C H a s q X ∧ WF X ∧ X.L.length ≤ 1000 ∧ AfterS C H a s q X (mkS X (.fold i m)) Q
def spTop (C : Addr) : Sp := fun vs H Q _ => ∃ (a s q : Addr) (e : Int) (S : StL) (ps : List V), vs = [.ref a] ∧ FrAt C H a s q e S ps ∧ Q (.int e) H
/-- what is left of a leader by a fold -/
theorem clip_cut {x : M4} {e m : Int} (hx : Rok e x) (hl : xLead x = true) (h1 : x.2.1 ≤ m) (h2 : m < x.2.1 + x.2.2.1) :
    clipLo x.1 x.2.1 x.2.2.1 x.2.2.2 m = (cutX x m).1 ∧ clipHi x.1 x.2.1 x.2.2.1 x.2.2.2 m - clipLo x.1 x.2.1 x.2.2.1 x.2.2.2 m = m - x.2.1 ∧ partP x.1 x.2.1 x.2.2.1 x.2.2.2 (clipLo x.1 x.2.1 x.2.2.1 x.2.2.2 m) (clipHi x.1 x.2.1 x.2.2.1 x.2.2.2 m - clipLo x.1 x.2.1 x.2.2.1 x.2.2.2 m) = x.2.1 := by
  have g1 := hx.op
  have g2 := hx.o0
  unfold clipLo clipHi partP cutX
  by_cases hf : x.2.2.2 = 1
  · have z := lead_tu hl hf
    simp only [if_pos hf]
    rw [if_pos (by omega), if_neg (by omega)]
    omega
  · have z := lead_st hl hf
    simp only [if_neg hf]
    rw [if_pos (by split <;> omega)]
    refine ⟨trivial, ?_, ?_⟩ <;> omega
section
variable {P : Program} {w : World} {K : PySem.W.Frag} {mg : Str → Option Value} {base : Heap} {C : Addr}
theorem ok_top {f : Addr} {fd : FuncData} (F : Fun K "top" "Front.top" s_Ftop f fd) (T : FrT K mg C) : FnOk P w K mg base CX0 1 f fd P_Ftop (spTop C) := by
  refine F.ok sc_Ftop (fun vs H Q E h => ?_) (fun cdv A outer s H vs Q E hr h => ?_)
  · obtain ⟨a, s, q, e, S, ps, rfl, _⟩ := h
    rfl
  · obtain ⟨a, s, q, e, S, ps, rfl, fa, qq⟩ := h
    refine ⟨_, (pss_one (ps_ret (pe_fld (pv 0) rfl))), ?_⟩
    obtain ⟨dx, ea⟩ := fa.at_a
    exact ⟨.ref a, rfl, a, C, dx, _, _, rfl, ea, T.cl, T.nE, fr_edge e s q, qq⟩
theorem ok_Ffold {f fP fL fR fE fS fC : Addr} {fd fdP fdL fdR fdE fdS fdC : FuncData} (F : Fun K "fold" "Front.fold" s_Ffold f fd) (T : FrT K mg C) (M_put : Meth K C "put" fP) (G_put : FnOk P w K mg base CX0 3 fP fdP P_Fput (spPut C)) (b_put : Binds K fdP P_Fput [])
    (M_leader : Meth K C "leader" fL) (G_leader : FnOk P w K mg base CX0 3 fL fdL P_Fleader (spLeader C)) (b_leader : Binds K fdL P_Fleader []) (M_reach : Meth K C "reach" fR) (G_reach : FnOk P w K mg base CX0 2 fR fdR P_Freach (spReach C)) (b_reach : Binds K fdR P_Freach [])
    (D_end_of : DefAt K mg "end_of" s_end_of P_end_of fE fdE) (D_step_of : DefAt K mg "step_of" s_step_of P_step_of fS fdS) (D_clipped : DefAt K mg "clipped" s_clipped P_clipped fC fdC) (G_clipped : FnOk P w K mg base CX0 3 fC fdC P_clipped spClipped) : FnOk P w K mg base CX0 4 f fd P_Ffold (spFfold C) := by
  have G_end_of : FnOk P w K mg base CX0 1 fE fdE P_end_of spEnd := ok_end D_end_of
  have G_step_of : FnOk P w K mg base CX0 1 fS fdS P_step_of spStep := ok_step D_step_of
  refine F.ok sc_Ffold (fun vs H Q E h => ?_) (fun cdv A outer s H vs Q E hr h => ?_)
  · obtain ⟨a, s, q, i, m, X, rfl, _⟩ := h
    rfl
  · obtain ⟨a, s, q, i, m, X, rfl, fS, wf, hL, h1, h2⟩ := h
    have ea0 : ∃ ps, FrAt C H a s q X.e X.S ps ∧ Past H ps X.L := fS
    obtain ⟨ps, fa, hp⟩ := ea0
    refine ⟨_, (pss_cons (ps_set (i := 3) sc_Ffold.nd rfl (.inl rfl) (pe_meth (pv 0) T.cl M_leader G_leader (hr.mono (by omega)) b_leader .nil pass0 (pa_cons (pv 1) pa_nil)))
      (pss_cons (ps_if (PW.pt (pw_or (pt_cmpR op_isN (pv 3) pe_non (nomark _)) (pw_or1 (pt_cmpR op_ne (pe_call G_end_of (hr.mono (by omega)) (by rfl) D_end_of.g D_end_of.F.kp D_end_of.b .nil pass0 (pa_cons (pv 3) pa_nil)) (pe_fld (pv 0) rfl) (nomark _))))) (pss_one (ps_ret pe_bl)) pss_nil)
      (pss_cons (ps_if (PW.pt (pw_or (pt_cmpR op_lt (pv 2) (pe_ix ix_tup (pv 3) pe_int (fun _ _ => rfl)) (nomark _)) (pw_or (pt_cmpR op_ge (pv 2) (pe_fld (pv 0) rfl) (nomark _)) (pw_or1 (pt_cmpR op_lt (pv 2) (pe_meth (pv 0) T.cl M_reach G_reach (hr.mono (by omega)) b_reach .nil pass0 (pa_cons (pv 1) pa_nil)) (nomark _)))))) (pss_one (ps_ret pe_bl)) pss_nil)
      (C8.pss_cut (ps_set (i := 4) sc_Ffold.nd rfl (.inl rfl) (pe_ifExp (pt_cmpR op_eq (pe_ix ix_tup (pv 3) pe_int (fun _ _ => rfl)) pe_int (nomark _)) pe_int (pe_call G_step_of (hr.mono (by omega)) (by rfl) D_step_of.g D_step_of.F.kp D_step_of.b .nil pass0 (pa_cons (pv 3) pa_nil))))
      (pss_cons (ps_expr (pe_bm PySem.F.plainAttrs_list PySem.F.slot_list_append PySem.F.type_list_append mt_append (pe_fld (pv 0) rfl) (pa_cons (pe_tup (pa_cons pe_str (pa_cons (pv 2) (pa_cons (pe_fld (pv 0) rfl) (pa_cons (pe_ix ix_tup (pv 3) pe_int (fun _ _ => rfl)) (pa_cons (pv 4) (pa_cons (pe_ix ix_tup (pv 3) pe_int (fun _ _ => rfl)) pa_nil))))))) pa_nil)))
      (pss_cons (ps_expr (pe_meth (pv 0) T.cl M_put G_put (hr.mono (by omega)) b_put .nil pass0 (pa_cons (pv 1) (pa_cons (pe_call G_clipped (hr.mono (by omega)) (by rfl) D_clipped.g D_clipped.F.kp D_clipped.b .nil pass0 (pa_cons (pv 3) (pa_cons (pv 2) pa_nil))) pa_nil))))
      (pss_cons (ps_fld (pv 0) (pv 2) rfl)
      (pss_one (ps_ret pe_bl))))))))), ?_⟩
    obtain ⟨dx, ea⟩ := fa.at_a
    have no : ∀ H', Same H H' → foldS X i m = none → Q (.bl false) H' := fun H' sm e => h1 e H' (fS.same sm) (Off.of_same sm)
    refine ⟨.ref a, rfl, a, dx, _, rfl, ea, put_no, .int i, rfl, a, s, q, X.e, i, X.S, ps, rfl, fa, fun x t hx hlx htx => ?_, fun hno => ?_⟩
    · have rx := wf.at hx
      have e0 : foldS X i m = if xLead x = true ∧ x.2.1 + x.2.2.1 = X.e ∧ x.2.1 ≤ m ∧ m < X.e ∧ rch X.S (some i) ≤ m then
          some ⟨m, if m - x.2.1 = 0 then sdrop X.S i else sput X.S i (cutX x m), X.L ++ [.fold m X.e x.1 (if x.2.2.2 = 1 then 0 else x.2.1 - x.1) x.2.2.2]⟩ else none := by
        unfold foldS
        rw [hx]
      refine ⟨.ref t, rfl, rfl, _, rfl, iteF ?_⟩
      refine ⟨.ref t, rfl, t, x.1, x.2.1, x.2.2.1, x.2.2.2, rfl, htx, .ref a, rfl, a, C, dx, _, _, rfl, ea, T.cl, T.nE, fr_edge X.e s q, rfl, _, rfl, ?_⟩
      by_cases hE : x.2.1 + x.2.2.1 = X.e
      · refine iteNS (congrArg V.int hE) ?_
        refine ⟨.int m, rfl, .ref t, rfl, t, _, 1, .int x.2.1, rfl, rfl, SqT.of htx, at4_1, m, x.2.1, rfl, rfl, _, rfl, ?_⟩
        refine ite2 (fun h => ?_) (fun h => ?_)
        · exact no H (Same.refl H) (by rw [e0]; exact if_neg fun z => by have := of_decide_eq_true h; omega)
        · have h' : ¬ m < x.2.1 := fun z => h (decide_eq_true z)
          refine ⟨.int m, rfl, .ref a, rfl, a, C, dx, _, _, rfl, ea, T.cl, T.nE, fr_edge X.e s q, m, X.e, rfl, rfl, _, rfl, ?_⟩
          refine ite2 (fun h3 => ?_) (fun h3 => ?_)
          · exact no H (Same.refl H) (by rw [e0]; exact if_neg fun z => by have := of_decide_eq_true h3; omega)
          · have h3' : ¬ X.e ≤ m := fun z => h3 (decide_eq_true z)
            refine ⟨.int m, rfl, .ref a, rfl, a, dx, _, rfl, ea, put_no, .int i, rfl, a, s, q, .int i, some i, X, rfl, .inr ⟨i, rfl, rfl⟩, fS, wf, fun H1 s1 => ?_⟩
            refine ⟨m, _, rfl, rfl, _, rfl, ?_⟩
            refine ite2 (fun h4 => ?_) (fun h4 => ?_)
            · exact no H1 s1 (by rw [e0]; exact if_neg fun z => by have := of_decide_eq_true h4; omega)
            · have h4' : ¬ m < rch X.S (some i) := fun z => h4 (decide_eq_true z)
              rw [if_pos ⟨hlx, hE, by omega, by omega, by omega⟩] at e0
              obtain ⟨k1, k2, k3⟩ := clip_cut (m := m) rx hlx (by omega) (by omega)
              have htx1 := s1 _ _ htx
              have ea1 := s1 _ _ ea
              have fa1 := fa.same s1
              have hp1 := hp.keep (fun b xs hb => s1 b _ hb)
              have hpl := hp.length
              -- the step
              have fin : ∀ st : Int, st = (if x.2.2.2 = 1 then 0 else x.2.1 - x.1) → ∀ t2, H1 t2 = none → ∃ H5, H5 = upd (upd H1 t2 (.tup [.str "fold", .int m, .int X.e, .int x.1, .int st, .int x.2.2.2])) q (.lst (ps ++ [.ref t2])) ∧ FrAt C H5 a s q X.e X.S (ps ++ [.ref t2]) ∧ Past H5 (ps ++ [.ref t2]) (X.L ++ [.fold m X.e x.1 (if x.2.2.2 = 1 then 0 else x.2.1 - x.1) x.2.2.2]) ∧ Off a s q H H5 ∧ H5 t = some (t4 x) := by
                rintro st rfl t2 n2
                have s2 := same_upd (H := H1) (o := .tup [.str "fold", .int m, .int X.e, .int x.1, .int (if x.2.2.2 = 1 then 0 else x.2.1 - x.1), .int x.2.2.2]) n2
                have fa2 := fa1.same s2
                obtain ⟨fa3, o3⟩ := fa2.past (ps' := ps ++ [.ref t2])
                have ks := fa2.offT o3
                exact ⟨_, rfl, fa3, Past.snoc ⟨t2, rfl, ks _ _ upd_same⟩ ((hp1.keep fun b xs hb => s2 _ _ hb).keep ks), ((Off.of_same s1).trans (Off.of_same s2)).trans o3, ks _ _ (s2 _ _ htx1)⟩
              refine ⟨fun σ H' => σ = [some (.ref a), some (.int i), some (.int m), some (.ref t), some (.int (if x.2.2.2 = 1 then 0 else x.2.1 - x.1))] ∧ H' = H1, ?_, ?_⟩
              · refine ⟨.ref t, rfl, t, _, 3, .int x.2.2.2, rfl, rfl, SqT.of htx1, at4_3, rfl, _, rfl, ?_⟩
                refine ite2 (fun hf => ?_) (fun hf => ?_)
                · rw [if_pos (V.int.inj (of_decide_eq_true hf))]
                  exact ⟨rfl, rfl⟩
                · rw [if_neg (fun z => hf (decide_eq_true (congrArg V.int z)))]
                  exact ⟨.ref t, rfl, t, x.1, x.2.1, x.2.2.1, x.2.2.2, rfl, htx1, rfl, rfl⟩
              · rintro σ H' ⟨rfl, rfl⟩
                generalize hst : (if x.2.2.2 = 1 then 0 else x.2.1 - x.1) = st at *
                refine ⟨.ref a, rfl, a, C, dx, _, _, rfl, ea1, T.cl, T.nP, fr_past X.e s q, .inl ⟨rfl, _, SqL.of fa1.at_q⟩, .int m, rfl, .ref a, rfl, a, C, dx, _, _, rfl, ea1, T.cl, T.nE, fr_edge X.e s q, .ref t, rfl, t, _, 0, .int x.1, rfl, rfl, SqT.of htx1, at4_0, .int st, rfl, .ref t, rfl, t, _, 3, .int x.2.2.2, rfl, rfl, SqT.of htx1, at4_3, by show 6 ≤ sizeLine; decide, fun t2 n2 => ?_⟩
                obtain ⟨H5, e5, fa5, hp5, o5, ht5⟩ := fin st rfl t2 n2
                refine ⟨q, ps, _, rfl, rfl, same_upd n2 _ _ fa1.at_q, sz_lt (by omega), ?_⟩
                rw [← e5]
                obtain ⟨dx5, ea5⟩ := fa5.at_a
                -- put
                have done : ∀ (S' : StL), S' = (if m - x.2.1 = 0 then sdrop X.S i else sput X.S i (cutX x m)) → ∀ (H7 : Hp) (dx7 : Addr), FrAt C H7 a s q X.e S' (ps ++ [.ref t2]) → Off a s q H5 H7 → Q (.bl true) (upd H7 a (.ins C dx7 (fr m s q))) := fun S' eS H7 dx7 f7 o7 => by
                  obtain ⟨f8, o8⟩ := f7.edge (dx := dx7) (m := m)
                  subst eS
                  exact h2 _ e0 _ ⟨_, f8, (hp5.keep (fa5.offT o7)).keep (f7.offT o8)⟩ ((o5.trans o7).trans o8)
                refine ⟨.ref a, rfl, a, dx5, _, rfl, ea5, put_no, .int i, rfl, .ref t, rfl, .int m, rfl, t, x.1, x.2.1, x.2.2.1, x.2.2.2, m, rfl, ht5, rx.f01, fun hz => ?_, fun hz r nr => ?_⟩
                · have z : m - x.2.1 = 0 := by omega
                  refine ⟨a, s, q, X.e, i, X.S, _, .non, x, rfl, fa5, hx, .inl ⟨rfl, fun H7 f7 o7 => ?_⟩⟩
                  obtain ⟨dx7, ea7⟩ := f7.at_a
                  refine ⟨.int m, rfl, .ref a, rfl, a, C, dx7, _, rfl, ea7, T.cl, T.nE, by show 3 < 1000; decide, ?_⟩
                  rw [putF_edge]
                  exact done _ (if_pos z).symm H7 dx7 f7 o7
                · have z : ¬ m - x.2.1 = 0 := by omega
                  have ck := cut_ok (m := m) rx hlx (by omega) z (by omega)
                  have sr := same_upd (H := H5) (o := t4 (cutX x m)) nr
                  rw [k3, k2, k1]
                  refine ⟨a, s, q, X.e, i, X.S, _, .ref r, x, rfl, fa5.same sr, hx, .inr ⟨r, cutX x m, rfl, upd_same, fun H7 f7 o7 => ?_⟩⟩
                  rw [nrm_id ck.op] at f7
                  obtain ⟨dx7, ea7⟩ := f7.at_a
                  refine ⟨.int m, rfl, .ref a, rfl, a, C, dx7, _, rfl, ea7, T.cl, T.nE, by show 3 < 1000; decide, ?_⟩
                  rw [putF_edge]
                  exact done _ (if_neg z).symm H7 dx7 f7 ((Off.of_same sr).trans o7)
      · rw [decide_eq_false (show ¬ V.int (x.2.1 + x.2.2.1) = V.int X.e from fun z => hE (V.int.inj z))]
        exact no H (Same.refl H) (by rw [e0]; exact if_neg fun z => hE z.2.1)
    · refine ⟨.non, rfl, rfl, _, rfl, iteT ?_⟩
      refine no H (Same.refl H) ?_
      unfold foldS
      cases hx : sget X.S i with
      | none => rfl
      | some x =>
        refine if_neg fun z => ?_
        have := hno x hx
        rw [z.1] at this
        cases this
end

/-! ### made, make -/
abbrev s_Fmade : Stmt := inClass (top 48) 6
abbrev N_Fmade : List Str := ["self", "move", "name"]
abbrev P_Fmade : List Str := ["self", "move"]
theorem sc_Fmade : FnScope N_Fmade P_Fmade (defScope s_Fmade) := ⟨rfl, rfl, rfl, by decide +kernel, rfl, by decide +kernel, by decide +kernel⟩
abbrev s_Fmake : Stmt := inClass (top 48) 5
abbrev N_Fmake : List Str := ["self", "move", "number"]
abbrev P_Fmake : List Str := ["self", "move"]
theorem sc_Fmake : FnScope N_Fmake P_Fmake (defScope s_Fmake) := ⟨rfl, rfl, rfl, by decide +kernel, rfl, by decide +kernel, by decide +kernel⟩
theorem isB_ty {K : PySem.W.Frag} {H : Hp} {y : V} (h : MV y) : ∃ t, TyX K H y t ∧ PySem.W.kitOne K t (.type "bool") = some (isB y) := by
  rcases h with (⟨i, rfl, _⟩ | ⟨b, rfl⟩) | ⟨z, rfl, _⟩
  · exact ⟨_, TyX.base (TyOf.int _), kit_ty (r := false) (by decide +kernel)⟩
  · exact ⟨_, TyX.base (TyOf.bl _), kit_ty (r := true) (by decide +kernel)⟩
  · exact ⟨_, TyX.base (TyOf.str _), kit_ty (r := false) (by decide +kernel)⟩
theorem moV_noB (mo : Mo) : (moV mo).any isB = false := by cases mo <;> rfl
/-- what the move xs makes of the road X -/
def MvS (xs : List V) (X : FS) (r : Option FS) : Prop := ((∃ mo, xs = moV mo ∧ r = mkS X mo) ∨ (xs.any isB = true ∧ r = none)) ∧ (∀ y ∈ xs, MV y) ∧ xs.length ≤ 20
def spMadeS (C : Addr) : Sp := fun vs H Q _ => ∃ (a s q t : Addr) (X : FS) (mo : Mo), vs = [.ref a, .ref t] ∧ FrS C H a s q X ∧ WF X ∧ X.L.length ≤ 1000 ∧ H t = some (.tup (moV mo)) ∧ AfterS C H a s q X (mkS X mo) Q
def spMakeS (C CM : Addr) : Sp := fun vs H Q E => ∃ (a s q t : Addr) (X : FS) (xs : List V) (r : Option FS), vs = [.ref a, .ref t] ∧ FrS C H a s q X ∧ WF X ∧ X.L.length ≤ 1000 ∧ H t = some (.tup xs) ∧ MvS xs X r ∧
  (∀ X', r = some X' → ∀ H', FrS C H' a s q X' → Off a s q H H' → Q .non H') ∧
  (r = none → ∀ (H' : Hp) (d : Addr), FrS C H' a s q X → Off a s q H H' → H' d = some (.xd (bmF (.ref t))) → E (.ref CM) (some d) H')
section
variable {P : Program} {w : World} {K : PySem.W.Frag} {mg : Str → Option Value} {base : Heap} {C : Addr}
theorem ok_madeS {f fI fH fM fL fF fB : Addr} {fd fdI fdH fdM fdL fdF fdB : FuncData} (F : Fun K "made" "Front.made" s_Fmade f fd) (T : FrT K mg C) (M_idle : Meth K C "idle" fI) (G_idle : FnOk P w K mg base CX0 4 fI fdI P_Fidle (spIdle C)) (b_idle : Binds K fdI P_Fidle [])
    (M_halve : Meth K C "halve" fH) (G_halve : FnOk P w K mg base CX0 4 fH fdH P_Fhalve (spHalve C)) (b_halve : Binds K fdH P_Fhalve []) (M_merge : Meth K C "merge" fM) (G_merge : FnOk P w K mg base CX0 4 fM fdM P_Fmerge (spMerge C)) (b_merge : Binds K fdM P_Fmerge [])
    (M_lead : Meth K C "lead" fL) (G_lead : FnOk P w K mg base CX0 4 fL fdL P_Flead (spFlead C)) (b_lead : Binds K fdL P_Flead []) (M_fold : Meth K C "fold" fF) (G_fold : FnOk P w K mg base CX0 4 fF fdF P_Ffold (spFfold C)) (b_fold : Binds K fdF P_Ffold [])
    (M_bare : Meth K C "bare" fB) (G_bare : FnOk P w K mg base CX0 3 fB fdB P_Fbare (spBare C)) (b_bare : Binds K fdB P_Fbare []) : FnOk P w K mg base CX0 5 f fd P_Fmade (spMadeS C) := by
  refine F.ok sc_Fmade (fun vs H Q E h => ?_) (fun cdv A outer s H vs Q E hr h => ?_)
  · obtain ⟨a, s, q, t, X, mo, rfl, _⟩ := h
    rfl
  · obtain ⟨a, s, q, t, X, mo, rfl, fS, wf, hL, ht, af⟩ := h
    refine ⟨_, (pss_cons (ps_set (i := 2) sc_Fmade.nd rfl (.inl rfl) (pe_ix ix_tup (pv 1) pe_int (fun _ _ => rfl)))
      (pss_cons (ps_if (pt_cmpR op_eq (pv 2) pe_str (nomark _)) (pss_one (ps_ret (pe_meth (pv 0) T.cl M_idle G_idle (hr.mono (by omega)) b_idle .nil pass0 (pa_cons (pe_ix ix_tup (pv 1) pe_int (fun _ _ => rfl)) pa_nil)))) pss_nil)
      (pss_cons (ps_if (pt_cmpR op_eq (pv 2) pe_str (nomark _)) (pss_one (ps_ret (pe_meth (pv 0) T.cl M_halve G_halve (hr.mono (by omega)) b_halve .nil pass0 (pa_cons (pe_ix ix_tup (pv 1) pe_int (fun _ _ => rfl)) pa_nil)))) pss_nil)
      (pss_cons (ps_if (pt_cmpR op_eq (pv 2) pe_str (nomark _)) (pss_one (ps_ret (pe_meth (pv 0) T.cl M_merge G_merge (hr.mono (by omega)) b_merge .nil pass0 (pa_cons (pe_ix ix_tup (pv 1) pe_int (fun _ _ => rfl)) (pa_cons (pe_ix ix_tup (pv 1) pe_int (fun _ _ => rfl)) pa_nil))))) pss_nil)
      (pss_cons (ps_if (pt_cmpR op_eq (pv 2) pe_str (nomark _)) (pss_one (ps_ret (pe_meth (pv 0) T.cl M_lead G_lead (hr.mono (by omega)) b_lead .nil pass0 (pa_cons (pe_ix ix_tup (pv 1) pe_int (fun _ _ => rfl)) (pa_cons (pe_ix ix_tup (pv 1) pe_int (fun _ _ => rfl)) (pa_cons (pe_ix ix_tup (pv 1) pe_int (fun _ _ => rfl)) pa_nil)))))) pss_nil)
      (pss_cons (ps_if (pt_cmpR op_eq (pv 2) pe_str (nomark _)) (pss_one (ps_ret (pe_meth (pv 0) T.cl M_fold G_fold (hr.mono (by omega)) b_fold .nil pass0 (pa_cons (pe_ix ix_tup (pv 1) pe_int (fun _ _ => rfl)) (pa_cons (pe_ix ix_tup (pv 1) pe_int (fun _ _ => rfl)) pa_nil))))) pss_nil)
      (pss_one (ps_ret (pe_and (pe_cmpR op_eq (pv 2) pe_str (nomark _)) (pe_one (pe_meth (pv 0) T.cl M_bare G_bare (hr.mono (by omega)) b_bare .nil pass0 (pa_cons (pe_ix ix_tup (pv 1) pe_int (fun _ _ => rfl)) pa_nil)))))))))))), ?_⟩
    have fS0 := fS
    obtain ⟨ps, fa, hp⟩ := fS0
    obtain ⟨dx, ea⟩ := fa.at_a
    cases mo with
    | idle i =>
      refine ⟨.ref t, rfl, t, _, 0, .str "idle", rfl, rfl, SqT.of ht, atI_nat (j := 0) rfl, ?_⟩
      refine ⟨.str "idle", rfl, rfl, _, rfl, ite2 (fun _ => ?_) (fun h => absurd (by decide +kernel) h)⟩
      exact ⟨.ref a, rfl, a, dx, _, rfl, ea, put_no, .ref t, rfl, t, _, 1, .int i, rfl, rfl, SqT.of ht, atI_nat (j := 1) rfl, a, s, q, i, X, rfl, fS, wf, af⟩
    | halve i =>
      refine ⟨.ref t, rfl, t, _, 0, .str "halve", rfl, rfl, SqT.of ht, atI_nat (j := 0) rfl, ?_⟩
      refine ⟨.str "halve", rfl, rfl, _, rfl, ite2 (fun h => absurd h (by decide +kernel)) (fun _ => ?_)⟩
      refine ⟨.str "halve", rfl, rfl, _, rfl, ite2 (fun _ => ?_) (fun h => absurd (by decide +kernel) h)⟩
      exact ⟨.ref a, rfl, a, dx, _, rfl, ea, put_no, .ref t, rfl, t, _, 1, .int i, rfl, rfl, SqT.of ht, atI_nat (j := 1) rfl, a, s, q, X.e, i, X.S, ps, rfl, fa, After.ofS fa hp af⟩
    | merge i j =>
      refine ⟨.ref t, rfl, t, _, 0, .str "merge", rfl, rfl, SqT.of ht, atI_nat (j := 0) rfl, ?_⟩
      refine ⟨.str "merge", rfl, rfl, _, rfl, ite2 (fun h => absurd h (by decide +kernel)) (fun _ => ?_)⟩
      refine ⟨.str "merge", rfl, rfl, _, rfl, ite2 (fun h => absurd h (by decide +kernel)) (fun _ => ?_)⟩
      refine ⟨.str "merge", rfl, rfl, _, rfl, ite2 (fun _ => ?_) (fun h => absurd (by decide +kernel) h)⟩
      exact ⟨.ref a, rfl, a, dx, _, rfl, ea, put_no, .ref t, rfl, t, _, 1, .int i, rfl, rfl, SqT.of ht, atI_nat (j := 1) rfl, .ref t, rfl, t, _, 2, .int j, rfl, rfl, SqT.of ht, atI_nat (j := 2) rfl, a, s, q, X.e, i, j, X.S, ps, rfl, fa, After.ofS fa hp af⟩
    | lead j d i =>
      refine ⟨.ref t, rfl, t, _, 0, .str "lead", rfl, rfl, SqT.of ht, atI_nat (j := 0) rfl, ?_⟩
      refine ⟨.str "lead", rfl, rfl, _, rfl, ite2 (fun h => absurd h (by decide +kernel)) (fun _ => ?_)⟩
      refine ⟨.str "lead", rfl, rfl, _, rfl, ite2 (fun h => absurd h (by decide +kernel)) (fun _ => ?_)⟩
      refine ⟨.str "lead", rfl, rfl, _, rfl, ite2 (fun h => absurd h (by decide +kernel)) (fun _ => ?_)⟩
      refine ⟨.str "lead", rfl, rfl, _, rfl, ite2 (fun _ => ?_) (fun h => absurd (by decide +kernel) h)⟩
      exact ⟨.ref a, rfl, a, dx, _, rfl, ea, put_no, .ref t, rfl, t, _, 1, .int j, rfl, rfl, SqT.of ht, atI_nat (j := 1) rfl, .ref t, rfl, t, _, 2, .int d, rfl, rfl, SqT.of ht, atI_nat (j := 2) rfl, .ref t, rfl, t, _, 3, .int i, rfl, rfl, SqT.of ht, atI_nat (j := 3) rfl, a, s, q, j, d, i, X, rfl, fS, wf, af⟩
    | fold i m =>
      refine ⟨.ref t, rfl, t, _, 0, .str "fold", rfl, rfl, SqT.of ht, atI_nat (j := 0) rfl, ?_⟩
      refine ⟨.str "fold", rfl, rfl, _, rfl, ite2 (fun h => absurd h (by decide +kernel)) (fun _ => ?_)⟩
      refine ⟨.str "fold", rfl, rfl, _, rfl, ite2 (fun h => absurd h (by decide +kernel)) (fun _ => ?_)⟩
      refine ⟨.str "fold", rfl, rfl, _, rfl, ite2 (fun h => absurd h (by decide +kernel)) (fun _ => ?_)⟩
      refine ⟨.str "fold", rfl, rfl, _, rfl, ite2 (fun h => absurd h (by decide +kernel)) (fun _ => ?_)⟩
      refine ⟨.str "fold", rfl, rfl, _, rfl, ite2 (fun _ => ?_) (fun h => absurd (by decide +kernel) h)⟩
      exact ⟨.ref a, rfl, a, dx, _, rfl, ea, put_no, .ref t, rfl, t, _, 1, .int i, rfl, rfl, SqT.of ht, atI_nat (j := 1) rfl, .ref t, rfl, t, _, 2, .int m, rfl, rfl, SqT.of ht, atI_nat (j := 2) rfl, a, s, q, i, m, X, rfl, fS, wf, hL, af⟩
    | bare m =>
      refine ⟨.ref t, rfl, t, _, 0, .str "bare", rfl, rfl, SqT.of ht, atI_nat (j := 0) rfl, ?_⟩
      refine ⟨.str "bare", rfl, rfl, _, rfl, ite2 (fun h => absurd h (by decide +kernel)) (fun _ => ?_)⟩
      refine ⟨.str "bare", rfl, rfl, _, rfl, ite2 (fun h => absurd h (by decide +kernel)) (fun _ => ?_)⟩
      refine ⟨.str "bare", rfl, rfl, _, rfl, ite2 (fun h => absurd h (by decide +kernel)) (fun _ => ?_)⟩
      refine ⟨.str "bare", rfl, rfl, _, rfl, ite2 (fun h => absurd h (by decide +kernel)) (fun _ => ?_)⟩
      refine ⟨.str "bare", rfl, rfl, _, rfl, ite2 (fun h => absurd h (by decide +kernel)) (fun _ => ?_)⟩
      refine ⟨.str "bare", rfl, rfl, _, rfl, ite2 (fun _ => ?_) (fun h => absurd (by decide +kernel) h)⟩
      exact ⟨.ref a, rfl, a, dx, _, rfl, ea, put_no, .ref t, rfl, t, _, 1, .int m, rfl, rfl, SqT.of ht, atI_nat (j := 1) rfl, a, s, q, m, X, rfl, fS, wf, hL, af⟩
theorem ok_makeS {f fM CF CM fI : Addr} {fd fdM fdI : FuncData} (F : Fun K "make" "Front.make" s_Fmake f fd) (T : FrT K mg C) (M_made : Meth K C "made" fM) (G_made : FnOk P w K mg base CX0 5 fM fdM P_Fmade (spMadeS C)) (b_made : Binds K fdM P_Fmade []) (B : Bn mg)
    (Te : ErT K mg CF CM fI fdI "BadMove" N_bminit) (n1 : PySem.W.findIn K (.ref CM) "move" = some none) (GI : FnOk P w K mg base CX0 2 fI fdI N_bminit (spBmInit K)) : FnOk P w K mg base (L2.CX P w) 6 f fd P_Fmake (spMakeS C CM) := by
  refine F.okX sc_Fmake (fun vs H Q E h => ?_) (fun cdv A outer s H vs Q E hr h => ?_)
  · obtain ⟨a, s, q, t, X, xs, r, rfl, _⟩ := h
    rfl
  · obtain ⟨a, s, q, t, X, xs, r, rfl, fS, wf, hL, ht, mv, q1, q2⟩ := h
    refine ⟨_, (pss_one (ps_if (PW.pt (pw_or (pt_val (pe_callB (cr_any rfl) (by rfl) B.any (by decide +kernel) (pa_cons (pe_lc (own := [("number", 2)]) (g := gName 2) (by rfl) sc_Fmake.nd (pi_tup (pv 1)) (blkOk_by (own := [("number", 2)]) (N := N_Fmake) (sc := defScope s_Fmake) (by decide +kernel)) (fun _ _ _ _ _ => (pg_name (i := 2) sc_Fmake.nd rfl (.inl rfl))) (fun _ _ _ _ _ => pts_nil) (fun _ _ _ _ _ => (pe_callB (show CallR _ _ (rIsi K) from call_isi) (by rfl) B.isinstance (by decide +kernel) (pa_cons (pv 2) (pa_cons (pe_bltn (v := .ty "bool") (by rfl) B.bool (by decide +kernel) rfl) pa_nil))))) pa_nil))) (pw_or1 (pt_not (pt_val (pe_meth (pv 0) T.cl M_made G_made (hr.mono (by omega)) b_made .nil pass0 (pa_cons (pv 1) pa_nil))))))) (pss_one (ps_raise rfl (takes_of rfl rfl rfl rfl) (pmk_oex Te.e.o Te.iC Te.tI GI (hr.mono (by omega)) Te.bI .nil pass0 (by rfl) Te.gC (pa_cons (pv 1) pa_nil)))) pss_nil)), ?_⟩
    obtain ⟨mv0, m1, m2⟩ := mv
    have bad : ∀ H3, FrS C H3 a s q X → Off a s q H H3 → H3 t = some (.tup xs) → r = none → (tMkO CM (spBmInit K) [] (tCons (tVar 1) tNil)) [some (.ref a), some (.ref t), none] H3 (fun cls d H' => E cls d H') := fun H3 f3 o3 ht3 hr0 => by
      refine ⟨.ref t, rfl, by show 1 ≤ 1000; decide, fun x nx => ?_⟩
      refine ⟨x, CM, t, xs, rfl, same_upd nx _ _ ht3, m1, m2, Te.e, n1, upd_same, fun H' dy ndy ex ed kp => ⟨rfl, dy, bmF (.ref t), ex, ed, (same_upd nx).free ndy, ?_⟩⟩
      have k3 : Same H3 (upd (del H' x) dy (.xd (bmF (.ref t)))) := fun b o hb => by
        have nbx : b ≠ x := ne_of_none hb nx
        have nbd : b ≠ dy := ne_of_none hb ((same_upd nx).free ndy)
        rw [upd_ne nbd, del_ne nbx]
        exact kp b o nbx (by rw [upd_ne nbx]; exact hb)
      exact q2 hr0 _ dy (f3.same k3) (o3.trans (Off.of_same k3)) upd_same
    refine ⟨.ref t, rfl, t, rfl, ⟨_, SqT.of ht⟩, fun L nL => lc_tup (K := K) (a := t) (xs := xs) (fun i H2 => Same H H2 ∧ H2 L = some (.lst (((xs.map isB).take i).map V.bl)) ∧ i ≤ xs.length)
      ⟨same_upd nL, upd_same, Nat.zero_le _⟩ (fun i H2 _ ⟨sm, _⟩ => SqT.of (sm _ _ ht)) ?_ ?_⟩
    · rintro i x H2 hx ⟨sm, e2, hi0⟩
      have hi : i < xs.length := (List.getElem?_eq_some_iff.mp hx).1
      obtain ⟨ty, h1, h2⟩ := isB_ty (K := K) (H := H2) (m1 x (List.mem_of_getElem? hx))
      refine ⟨rfl, ?_⟩
      refine ⟨x, rfl, _, _, _, _, isB x, rfl, ClsV.ty _, h1, h2, ?_⟩
      refine ⟨_, e2, sz_lt (by rw [List.length_map, List.length_take]; omega), fun b o' hb => ?_, ?_, by omega⟩
      · rw [upd_ne (ne_of_none hb nL)]
        exact sm _ _ hb
      · rw [upd_same, List.take_add_one, List.getElem?_map, hx, List.map_append]
        rfl
    · rintro H2 ⟨sm, e2, _⟩
      rw [show (xs.map isB).take xs.length = xs.map isB by rw [← List.length_map (f := isB), List.take_length]] at e2
      have ef : (xs.map isB).any id = xs.any isB := by rw [List.any_map]; rfl
      refine ⟨L, _, rfl, SqL.of e2, _, rfl, ?_⟩
      rw [ef]
      have f2 := fS.same sm
      rcases mv0 with ⟨mo, rfl, rfl⟩ | ⟨hb, rfl⟩
      · rw [moV_noB]
        refine iteF ?_
        have f20 := f2
        obtain ⟨ps, fa2, _⟩ := f20
        obtain ⟨dx, ea⟩ := fa2.at_a
        refine ⟨.ref a, rfl, a, dx, _, rfl, ea, put_no, .ref t, rfl, a, s, q, t, X, mo, rfl, f2, wf, hL, sm _ _ ht, fun hr0 H3 f3 o3 => ?_, fun X' hX H3 f3 o3 => ?_⟩
        · refine ⟨false, rfl, iteT ?_⟩
          exact bad H3 f3 ((Off.of_same sm).trans o3) (fa2.offT o3 _ _ (sm _ _ ht)) hr0
        · exact ⟨true, rfl, iteF (q1 X' hX H3 f3 ((Off.of_same sm).trans o3))⟩
      · rw [hb]
        exact iteT (bad H2 f2 (Off.of_same sm) (sm _ _ ht) rfl)
end

theorem Std.dget {H : Hp} {R : Addr} {kvs : List (Key × V)} {S : StL} (h : Std H kvs S) (e : H R = some (.dK kvs)) {k : Int} {x : M4} (hx : sget S k = some x) : ∃ tx, DGet H R (.int k) (some (.ref tx)) ∧ valV kvs (Sum.inl k) = some (.ref tx) ∧ H tx = some (t4 x) := by
  obtain ⟨tx, h1, h2⟩ := (h.get k).2 x hx
  refine ⟨tx, ?_, h1, h2⟩
  rw [← h1]
  exact DGet.k (k := Sum.inl k) e
theorem Std.dnone {H : Hp} {R : Addr} {kvs : List (Key × V)} {S : StL} (h : Std H kvs S) (e : H R = some (.dK kvs)) {k : Int} (hx : sget S k = none) : DGet H R (.int k) none := by
  rw [← (h.get k).1 hx]
  exact DGet.k (k := Sum.inl k) e

/-! ### {**d, k: v}: a new dict, with one key more (for the class Road) -/
namespace DStar
open PySem PySem.Spec PyProof.V PyProof.Rows L2
section
variable {prog : Program} {w : World} {K : Type} [DecidableEq K] {knd : KeyKind prog w K} {A : Around} {E : Value → Shared → Prop} {s : Shared}
theorem wpAny_dictPut_pairs {d : Addr} {kvs : List (K × Value)} {k : K} {key v : Value} {Q : Unit → Shared → Prop} (hkey : knd.is k key = true) (hm : s.heap.DictOf knd d kvs)
    (hQ : ∀ h', h'.DictOf knd d (stored kvs k v) → Heap.SameBut d s.heap h' → Q () { s with heap := h' })
    (hsz : kvs.length ≤ sizeLine) :
    wpAny (model prog w) A (dictPut d (knd.hash k) key v) Q E s := by
  obtain ⟨o, es, ep, ho, hc, hd, hk, hp, hn⟩ := hm
  have hes : es.size ≤ sizeLine := by
    have e1 := hp.length
    have e2 : es.toList.length = es.size := by simp
    omega
  unfold dictPut
  refine wpAny_bind (wpAny_dictFind_of hkey ho hd hk ?_)
  have hidx : (es.findIdx? fun e => knd.is k e.key) = kvs.findIdx? fun kv => decide (kv.1 = k) := by
    rw [← hp.findIdx k]; obtain ⟨l⟩ := es; simp
  cases hi : es.findIdx? fun e => knd.is k e.key with
  | some i =>
    refine wpAny_updateDict ho hd (hQ _ ⟨_, _, ep, Heap.get?_update_self _ ho (Obj.isFreed_of_dict (Obj.data_mapDict hd _)), hc.mapDict _, Obj.data_mapDict hd _, hk.modify _ _, ?_, ?_⟩ (Heap.SameBut.update ..))
    · rw [stored, if_pos (any_of_findIdx_some (hidx ▸ hi))]
      have hl : (es.toList.findIdx? fun e => knd.is k e.key) = some i := by rw [← hi]; obtain ⟨l⟩ := es; simp
      have := hp.modify hn hl v
      obtain ⟨l⟩ := es
      simpa using this
    · rw [stored, if_pos (any_of_findIdx_some (hidx ▸ hi)), keys_map_store]; exact hn
  | none =>
    have hnot : k ∉ kvs.map (·.1) := not_mem_of_findIdx_none (hidx ▸ hi)
    have hany : ¬ (kvs.any fun kv => decide (kv.1 = k)) = true := by
      rw [List.any_eq_true]; rintro ⟨kv, hkv, he⟩
      exact hnot (List.mem_map.mpr ⟨kv, hkv, of_decide_eq_true he⟩)
    refine wpAny_updateDictKeys (hz := hes) ho hd (hQ _ ⟨_, _, ep + 1, Heap.get?_update_self _ ho (Obj.isFreed_of_dict (Obj.data_mapDictKeys hd _)), hc.mapDictKeys _, Obj.data_mapDictKeys hd _, hk.push hkey _, ?_, ?_⟩ (Heap.SameBut.update ..))
    · rw [stored, if_neg hany]
      have := hp.append hkey (knd.hash k) v
      obtain ⟨l⟩ := es
      simpa using this
    · rw [stored, if_neg hany, List.map_append, List.nodup_append]
      refine ⟨hn, by simp, ?_⟩
      intro a ha b hb
      simp only [List.map_cons, List.map_nil, List.mem_singleton] at hb
      subst hb
      exact fun e => hnot (e ▸ ha)
theorem wpAny_mergeMapping_dict {d o : Addr} {kvs more : List (K × Value)} {Q : Unit → Shared → Prop} (hdo : d ≠ o) (hoS : (o == sysModules) = false)
    (hno_ref : ∀ k v, knd.is k v = true → ∀ a, v ≠ .ref a)
    (hd : s.heap.DictOf knd d kvs) (ho : s.heap.DictOf knd o more)
    (hQ : ∀ h', h'.DictOf knd d (merged kvs more) → h'.DictOf knd o more → Heap.SameBut d s.heap h' → Q () { s with heap := h' })
    (hsz : kvs.length + more.length ≤ sizeLine) :
    wpAny (model prog w) A (mergeMapping d (.ref o) false) Q E s := by
  obtain ⟨od, esd, epd, hod, hcd, hdd, hkd, hpd, hnd⟩ := id hd
  obtain ⟨oo, eso, epo, hoo, hco, hdo', hko, hpo, hno⟩ := id ho
  unfold mergeMapping
  refine wpAny_bind (wpAny_isInstance ho.typeIs isSubtype_dict_dict ?_)
  rw [if_pos rfl]
  refine wpAny_bind (wpAny_specialOf ho.typeIs PySem.F.slot_dict_iter.lookup ?_)
  have hlen : more.length = eso.size := by rw [← hpo.length]; simp
  have loop : wpAny (model prog w) A (do
      let l ← dictEntries o
      let epoch ← dictEpoch o
      forIn (List.range l.size) PUnit.unit fun i (_ : PUnit) => (do
          let l' ← dictEntries o
          match l'[i]? with
            | some e => do
              holding [e.key, e.val] (dictPut d e.hash e.key e.val)
              let ep' ← dictEpoch o
              if (ep' != epoch) = true then do
                  (unsupported "dict.changed-during-merge" : Sem PUnit)
                  pure (ForInStep.yield PUnit.unit)
                else pure (ForInStep.yield PUnit.unit)
            | _ => do
              (unsupported "dict.changed-during-merge" : Sem PUnit)
              pure (ForInStep.yield PUnit.unit) : Sem (ForInStep PUnit))
      pure ()) Q E s := by
    refine wpAny_bind (wpAny_dictEntries hoo hdo' ?_)
    refine wpAny_bind (wpAny_dictEpoch hoo hdo' ?_)
    refine wpAny_bind ?_
    rw [List.range_eq_range']
    refine wpAny_forIn_list _
      (fun rest _ s' => ∃ h' i, s' = { s with heap := h' } ∧ rest = List.range' i (eso.size - i) ∧ i ≤ eso.size ∧ h'.DictOf knd d (merged kvs (more.take i)) ∧ h'.get? o = some oo ∧ Heap.SameBut d s.heap h')
      _ ?_ ?_ _ _ ⟨s.heap, 0, rfl, by simp, Nat.zero_le _, by simpa [merged] using hd, hoo, Heap.SameBut.refl _ _⟩
    · rintro x rest b s' ⟨h', i, rfl, hr, hi, hd', hoo', hs'⟩
      have hlt : i < eso.size := by
        rcases Nat.lt_or_ge i eso.size with h | h
        · exact h
        · rw [Nat.sub_eq_zero_of_le h] at hr; simp at hr
      obtain ⟨rfl, hrest⟩ : x = i ∧ rest = List.range' (i + 1) (eso.size - (i + 1)) := by
        have e : eso.size - i = (eso.size - (i + 1)) + 1 := by omega
        rw [e, List.range'_succ] at hr
        injection hr with h1 h2
        exact ⟨h1, h2⟩
      refine wpAny_bind (wpAny_dictEntries hoo' hdo' ?_)
      rw [Array.getElem?_eq_getElem hlt]
      obtain ⟨kv, hkv⟩ : ∃ kv, more[x]? = some kv := ⟨more[x]'(by rw [hlen]; exact hlt), List.getElem?_eq_getElem _⟩
      obtain ⟨k, v⟩ := kv
      obtain ⟨hkey, hval⟩ := hpo.get? (e := eso[x]) (by simp [hlt]) hkv
      obtain ⟨k', hkey', hhash⟩ := hko eso[x] (Array.getElem_mem hlt)
      obtain rfl : k' = k := knd.inj _ _ _ hkey' hkey
      show wpAny _ _ (holding [eso[x].key, eso[x].val] (dictPut d eso[x].hash eso[x].key eso[x].val) >>= _) _ _ _
      rw [hhash, hval]
      have hmx : (merged kvs (more.take x)).length ≤ sizeLine := by
        have e1 := merged_length_le kvs (more.take x)
        have e2 : (more.take x).length ≤ more.length := by rw [List.length_take]; omega
        omega
      refine wpAny_bind (wpAny_holding (wpAny_dictPut_pairs (hsz := hmx) hkey hd' fun h'' hd'' hs'' => ?_))
      have hoo'' : h''.get? o = some oo := (hs''.2 o (Ne.symm hdo)).trans hoo'
      refine wpAny_bind (wpAny_dictEpoch hoo'' hdo' ?_)
      rw [if_neg (by simp)]
      exact wpAny_pure ⟨h'', x + 1, rfl, hrest, hlt, by rw [merged_take_succ kvs more x (k', v) hkv]; exact hd'', hoo'', hs'.trans hs''⟩
    · rintro b s' ⟨h', i, rfl, hr, hi, hd', hoo', hs'⟩
      have hin : i = eso.size := by
        rcases Nat.lt_or_ge i eso.size with h | h
        · have e : eso.size - i = (eso.size - (i + 1)) + 1 := by omega
          rw [e, List.range'_succ] at hr; exact nomatch hr
        · exact Nat.le_antisymm hi h
      refine wpAny_pure (hQ h' ?_ ⟨oo, eso, epo, hoo', hco, hdo', hko, hpo, hno⟩ hs')
      rw [hin, ← hlen, List.take_length] at hd'; exact hd'
  simp only [beq_self_eq_true, Bool.false_eq_true, if_false]
  refine wpAny_bind (wpAny_pure ?_)
  dsimp only
  rw [if_neg (by rw [hoS]; exact Bool.false_ne_true)]
  refine wpAny_bind (wpAny_dictEntries hod hdd ?_)
  split
  · refine wpAny_bind (wpAny_dictEntries hoo hdo' ?_)
    refine wpAny_bind ?_
    rw [← Array.forIn_toList]
    refine wpAny_forIn_list _ (fun rest _ s' => s' = s ∧ ∀ e ∈ rest, e ∈ eso.toList) _ ?_ ?_ _ _ ⟨rfl, fun e he => he⟩
    · rintro e rest b s' ⟨rfl, hr⟩
      obtain ⟨k', hk', _⟩ := hko e (by simpa using hr e List.mem_cons_self)
      have nr := hno_ref _ _ hk'
      split
      · rename_i a' ha'
        exact absurd ha' (nr a')
      · exact wpAny_pure ⟨rfl, fun x hx => hr x (List.mem_cons_of_mem _ hx)⟩
    · rintro b s' ⟨rfl, _⟩
      exact loop
  · exact loop
end
/-- {**d, k: v}: D the new dict, B the one of the pair -/
def tDStar (td tk tv : TE) : TE := fun σ H Q => ∀ D, H D = none → td σ (upd H D (.dK [])) fun x H1 => ∃ (S : Addr) (kvs : List (Key × V)), x = .ref S ∧ S ≠ D ∧ H1 S = some (.dK kvs) ∧ H1 D = some (.dK []) ∧ kvs.length < sizeLine ∧
  ∀ B, (upd H1 D (.dK kvs)) B = none → tPairs [(tk, tv)] σ (upd (upd H1 D (.dK kvs)) B (.dK [])) fun ps H3 => ∃ (key : Key) (z : V), ps = [(kV key, z)] ∧ H3 D = some (.dK kvs) ∧ H3 B = some (.dK []) ∧ Q (.ref D) (upd (upd H3 B (.dK [(key, z)])) D (.dK (putK kvs key z)))
theorem pe_dstar {X : Cx} {pos : Pos} {ed ek ev : Expr} {td tk tv : TE} (hd : PE X ed td) (hk : PE X ek tk) (hv : PE X ev tv) : PE X (.Dict [none, some ek] [ed, ev] pos) (tDStar td tk tv) := by
  refine ⟨fun pins s σ H Q I q => ?_⟩
  rw [arm_eval_Dict]
  refine wpAny_bind (wpAny_standAt ?_)
  show wpAny _ _ (dictDisplay [(none, do let x ← eval ed X.env; standAt pos; pure x), (some (eval ek X.env), do let x ← eval ev X.env; standAt pos; pure x)]) _ _ _
  unfold dictDisplay
  dsimp only
  rw [List.forIn_cons]
  dsimp only [List.isEmpty]
  have hn := I.hok.fresh (Nat.le_refl s.heap.objs.size)
  have I1 := I.laid (a := s.heap.objs.size) (o := .dK []) (h' := s.heap.push { cls := .type "dict", data := .dict #[] }) (t' := s.toks) (fun _ _ q => Heap.get?_push_of_some _ q) (Nat.le_refl _) (dk_empty s.heap I.big)
  refine wpAny_bind (wpAny_bind (wpAny_bind ?_))
  rw [if_pos rfl]
  refine wpAny_pure ?_
  dsimp only
  refine wpAny_bind (wpAny_alloc ?_)
  refine wpAny_bind (wpAny_holding ?_)
  refine wpAny_bind (thn (hd.run pins _ σ _ _ I1 (q _ hn)) fun u s1 ⟨x, H1, I1', rx, S, kvs, ex, nSD, eS, eD, hl, q1⟩ => ?_)
  refine wpAny_bind (wpAny_standAt (wpAny_pure ?_))
  subst ex
  obtain rfl : u = Value.ref S := rx
  obtain ⟨z1, hd1, vs1, rel1, dd1⟩ := dk_of I1'.hok eS
  obtain ⟨z0, hd0, vs0, rel0, dd0⟩ := dk_of I1'.hok eD
  cases rel0
  have lvs : vs1.length = kvs.length := rel1.length.symm
  have noref : ∀ (k : Key) (v : Value), (mixKind X.prog X.w).is k v = true → ∀ a, v ≠ .ref a := fun k v h a e => by
    rcases keyIs_shape h with ⟨i, t, _, e'⟩ | ⟨y, t, _, e'⟩ <;> rw [e'] at e <;> cases e
  refine wpAny_bind (wpAny_onRaise (wpAny_tryCatch (wpAny_onRaise (wpAny_holding (wpAny_mergeMapping_dict (knd := mixKind X.prog X.w) (Ne.symm nSD) hd1 noref dd0 dd1 (fun h' dd' ddo hs => ?_) (by rw [List.length_nil, lvs]; omega))))))
  have nd : (vs1.map (·.1)).Nodup := let ⟨_, _, _, _, _, _, _, _, hn⟩ := dd1; hn
  rw [merged_nil_of_nodup vs1 nd] at dd'
  have he1 : ∃ q, h'.get? s.heap.objs.size = some q := let ⟨q, _, _, hq, _⟩ := dd'; ⟨q, hq⟩
  have I2 : Inv X pins σ (upd H1 s.heap.objs.size (.dK kvs)) { s1 with heap := h' } := d_write I1' (by rw [eD]; exact True.intro) hs he1 (dk_new z1 hd0 rel1 dd')
  refine wpAny_pure ?_
  dsimp only
  rw [List.forIn_cons]
  dsimp only
  rw [if_neg (by simp)]
  refine wpAny_bind (wpAny_pure ?_)
  dsimp only
  rw [List.forIn_nil]
  refine wpAny_pure ?_
  dsimp only [List.nil_append]
  rw [if_neg Bool.false_ne_true]
  generalize hs2 : ({ s1 with heap := h' } : Shared) = s2 at *
  have eh : s2.heap = h' := by rw [← hs2]
  rw [← eh] at dd' ddo hs he1
  have hnB := I2.hok.fresh (Nat.le_refl s2.heap.objs.size)
  have I3 := I2.laid (a := s2.heap.objs.size) (o := .dK []) (h' := s2.heap.push { cls := .type "dict", data := .dict #[] }) (t' := s2.toks) (fun _ _ q => Heap.get?_push_of_some _ q) (Nat.le_refl _) (dk_empty s2.heap I2.big)
  refine wpAny_bind (wpAny_bind (wpAny_holding (wpAny_subDict (knd := mixKind X.prog X.w) (by show 1 ≤ 15; decide) (thn ((pps_cons hk hv pps_nil).run pins _ σ _ _ I3 (q1 _ hnB)) fun ws s3 ⟨ps, H3, I4, rel3, key, z, eps, eD3, eB3, q3⟩ => ?_))))
  subst eps
  obtain ⟨rs, c, rk⟩ := carries_of (P := X.prog) (w := X.w) (kvs := [(key, z)]) rel3
  obtain ⟨zB, hdB, vB, rB, ddB⟩ := dk_of I4.hok eB3
  cases rB
  refine ⟨rs, c, ddB, fun h4 dd4 hs4 => ?_⟩
  have mer : KV [(key, z)] (merged [] rs) := rk.merge (kvs := []) .nil
  have zB1 : ([(key, z)] : List (Key × V)).length ≤ sizeLine := by show 1 ≤ sizeLine; decide
  have he4 : ∃ q, h4.get? s2.heap.objs.size = some q := let ⟨q, _, _, hq, _⟩ := dd4; ⟨q, hq⟩
  have I5 : Inv X pins σ (upd H3 s2.heap.objs.size (.dK [(key, z)])) { s3 with heap := h4, toks := s3.toks + ws.length } := d_write I4 (by rw [eB3]; exact True.intro) hs4 he4 (dk_new zB1 hdB mer dd4)
  have nBD : s2.heap.objs.size ≠ s.heap.objs.size := fun e => by
    rw [e] at eB3
    rw [eD3] at eB3
    have e1 : kvs = [] := HO.dK.inj (Option.some.inj eB3)
    rw [e] at hnB
    rw [upd_same] at hnB
    cases hnB
  have eD5 : (upd H3 s2.heap.objs.size (.dK [(key, z)])) s.heap.objs.size = some (.dK kvs) := by
    rw [upd_ne nBD.symm]
    exact eD3
  have eB5 : (upd H3 s2.heap.objs.size (.dK [(key, z)])) s2.heap.objs.size = some (.dK [(key, z)]) := upd_same
  generalize hs5 : ({ s3 with heap := h4, toks := s3.toks + ws.length } : Shared) = s5 at *
  obtain ⟨z5, hd5, vs5, rel5, dd5⟩ := dk_of I5.hok eD5
  obtain ⟨z6, hd6, vs6, rel6, dd6⟩ := dk_of I5.hok eB5
  have l5 : vs5.length = kvs.length := rel5.length.symm
  have l6 : vs6.length = 1 := rel6.length.symm
  refine wpAny_bind (wpAny_onRaise (wpAny_holding (wpAny_mergeMapping_dict (knd := mixKind X.prog X.w) nBD.symm hd6 noref dd5 dd6 (fun h7 dd7 _ hs7 => ?_) (by omega))))
  have he7 : ∃ q, h7.get? s.heap.objs.size = some q := let ⟨q, _, _, hq, _⟩ := dd7; ⟨q, hq⟩
  have l7 : (putK kvs key z).length ≤ sizeLine := by
    have := length_putK kvs key z
    omega
  have I7 : Inv X pins σ (upd (upd H3 s2.heap.objs.size (.dK [(key, z)])) s.heap.objs.size (.dK (putK kvs key z))) { s5 with heap := h7 } := d_write I5 (by rw [eD5]; exact True.intro) hs7 he7 (dk_new l7 hd5 (rel6.merge rel5) dd7)
  exact wpAny_pure (wpAny_pure ⟨.ref s.heap.objs.size, _, I7, rfl, q3⟩)
end DStar

/-! ### dicts of matings compared (for the class Road) -/
def t4P (x : M4) : PyData := .tuple [.int x.1, .int x.2.1, .int x.2.2.1, .int x.2.2.2]
def sameS (S1 S2 : StL) : Bool := S1.all fun t => decide (sget S2 t.1 = some t.2)
theorem t4P_dp {K : PySem.W.Frag} {H : Hp} {t : Addr} {x : M4} (h : H t = some (t4 x)) : Dp K H (.ref t) (t4P x) := .tup (SqT.of h) (.cons (.int _) (.cons (.int _) (.cons (.int _) (.cons (.int _) .nil))))
theorem t4P_eqv (x y : M4) : PyData.eqv (t4P x) (t4P y) = decide (x = y) := by
  obtain ⟨a, b, c, d⟩ := x
  obtain ⟨a', b', c', d'⟩ := y
  unfold t4P
  rw [PyData.eqv]
  simp [PyData.eqvAll, PyData.eqv]
  rfl
section
variable {X : Cx} {pins : List (Addr × Obj)} {σ : St} {H : Hp} {s : Shared}
theorem std_hits (I : Inv X pins σ H s) {S2 : StL} {kb : List (Key × V)} {vb : List (Key × Value)} (rb : KV kb vb) (tb : Std H kb S2) (hu : X.A.units + 64 < cLine) :
    ∀ {ka : List (Key × V)} {va : List (Key × Value)}, KV ka va → ∀ {S1 : StL}, Std H ka S1 → PySem.W.KeqHits X.A.in1 s vb va (sameS S1 S2) := by
  intro ka va ra
  unfold KV at ra
  induction ra with
  | nil =>
    intro S1 h
    cases h
    exact .nil
  | @cons p q ps qs h t ih =>
    intro S1 hs
    cases hs with
    | @cons _ y _ r hy hr =>
    obtain ⟨h1, h2⟩ := h
    obtain ⟨k, v⟩ := q
    obtain ⟨e1, t0, e2, e3⟩ := hy
    have ek : k = Sum.inl y.1 := by rw [← e1]; exact h1.symm
    subst ek
    have e2' : v = Value.ref t0 := by
      have := h2
      rw [e2] at this
      exact this
    subst e2'
    obtain ⟨g1, g2⟩ := tb.get y.1
    show PySem.W.KeqHits X.A.in1 s vb ((Sum.inl y.1, Value.ref t0) :: qs) (decide (sget S2 y.1 = some y.2) && sameS r S2)
    cases hg : sget S2 y.1 with
    | none =>
      rw [decide_eq_false (fun z => by cases z), Bool.false_and]
      have rr : RelO none (valueAt vb (Sum.inl y.1)) := by rw [← g1 hg]; exact rb.val _
      exact .miss rr.none_of
    | some z =>
      obtain ⟨t1, f1, f2⟩ := g2 z hg
      have rr : RelO (some (.ref t1)) (valueAt vb (Sum.inl y.1)) := by rw [← f1]; exact rb.val _
      obtain ⟨u, hu1, hu2⟩ := rr.some_of
      obtain rfl : u = Value.ref t1 := hu2
      obtain ⟨as, r1⟩ := Dp.reads I _ _ (Value.ref t0) (t4P_dp (K := X.K) e3) rfl
      obtain ⟨bs, r2⟩ := Dp.reads I _ _ (Value.ref t1) (t4P_dp (K := X.K) f2) rfl
      have hq := SeqAt.eqAt_reads (t4P y.2) (t4P z) X.A.in1 s _ _ as bs r1 r2 rfl rfl (by
        have e1 : (t4P y.2).depth = 1 := rfl
        have e2 : (t4P z).depth = 1 := rfl
        rw [e1, e2, Around.in1_units]
        omega)
      have ee : decide (some z = some y.2) = PyData.eqv (t4P y.2) (t4P z) := by
        rw [t4P_eqv]
        by_cases w : y.2 = z
        · rw [w, decide_eq_true rfl, decide_eq_true rfl]
        · rw [decide_eq_false w, decide_eq_false (fun q => w (Option.some.inj q).symm)]
      rw [ee]
      exact .hit hu1 hq (ih hr)
end
section
variable {X : Cx}
def rNeS : R2 := fun x y H Q => ∃ a b ka kb S1 S2, x = .ref a ∧ y = .ref b ∧ H a = some (.dK ka) ∧ H b = some (.dK kb) ∧ Std H ka S1 ∧ Std H kb S2 ∧ Q (.bl (!(decide (S1.length = S2.length) && sameS S1 S2))) H
def rEqS : R2 := fun x y H Q => ∃ a b ka kb S1 S2, x = .ref a ∧ y = .ref b ∧ H a = some (.dK ka) ∧ H b = some (.dK kb) ∧ Std H ka S1 ∧ Std H kb S2 ∧ Q (.bl (decide (S1.length = S2.length) && sameS S1 S2)) H
theorem op_neS (hu : X.A.units + 64 < cLine) : OpR X (compareOp .NotEq) rNeS := by
  intro pins s σ H x y v u Q I rx ry h
  obtain ⟨a, b, ka, kb, S1, S2, rfl, rfl, ea, eb, sa, sb, q⟩ := h
  obtain rfl : v = Value.ref a := rx
  obtain rfl : u = Value.ref b := ry
  obtain ⟨_, ya, va, ra, da⟩ := (show ObjOk X.prog X.w H s.heap a (.dK ka) from I.hok a _ ea)
  obtain ⟨_, yb, vb, rb, db⟩ := (show ObjOk X.prog X.w H s.heap b (.dK kb) from I.hok b _ eb)
  have l1 : va.length = S1.length := by rw [← ra.length]; exact sa.length
  have l2 : vb.length = S2.length := by rw [← rb.length]; exact sb.length
  exact PySem.W.keq_ne (knd := mixKind X.prog X.w) (r := sameS S1 S2) ya yb da db (by omega) (fun _ => std_hits I rb sb hu ra sa) (fin_bl I q (by rw [l1, l2]; rfl))
theorem op_eqS (hu : X.A.units + 64 < cLine) : OpR X (compareOp .Eq) rEqS := by
  intro pins s σ H x y v u Q I rx ry h
  obtain ⟨a, b, ka, kb, S1, S2, rfl, rfl, ea, eb, sa, sb, q⟩ := h
  obtain rfl : v = Value.ref a := rx
  obtain rfl : u = Value.ref b := ry
  obtain ⟨_, ya, va, ra, da⟩ := (show ObjOk X.prog X.w H s.heap a (.dK ka) from I.hok a _ ea)
  obtain ⟨_, yb, vb, rb, db⟩ := (show ObjOk X.prog X.w H s.heap b (.dK kb) from I.hok b _ eb)
  have l1 : va.length = S1.length := by rw [← ra.length]; exact sa.length
  have l2 : vb.length = S2.length := by rw [← rb.length]; exact sb.length
  exact PySem.W.keq_eq (knd := mixKind X.prog X.w) (r := sameS S1 S2) ya yb da db (by omega) (fun _ => std_hits I rb sb hu ra sa) (fin_bl I q (by rw [l1, l2]; rfl))
end
theorem sget_rise {S : StL} (up : (S.map (·.1)).Pairwise (· < ·)) : ∀ {s : Int × M4}, s ∈ S → sget S s.1 = some s.2 := by
  induction S with
  | nil => intro s h; cases h
  | cons t r ih =>
    intro s h
    rw [List.map_cons, List.pairwise_cons] at up
    unfold sget
    rcases List.mem_cons.mp h with e | h
    · rw [e, if_pos rfl]
    · have := up.1 s.1 (List.mem_map.mpr ⟨s, h, rfl⟩)
      rw [if_neg (by omega)]
      exact ih up.2 h
theorem sub_rise : ∀ {S2 S1 : StL}, S1.Pairwise (fun a b => a.1 < b.1) → S2.Pairwise (fun a b => a.1 < b.1) → S1 ⊆ S2 → S1.Sublist S2
  | [], [], _, _, _ => .slnil
  | [], a :: r, _, _, h => absurd (h List.mem_cons_self) (List.not_mem_nil)
  | b :: r2, [], _, _, _ => List.nil_sublist _
  | b :: r2, a :: r1, u1, u2, h => by
    rw [List.pairwise_cons] at u1 u2
    by_cases e : a = b
    · subst e
      refine .cons₂ _ (sub_rise u1.2 u2.2 fun t ht => ?_)
      rcases List.mem_cons.mp (h (List.mem_cons_of_mem _ ht)) with z | z
      · have := u1.1 t ht
        rw [z] at this
        omega
      · exact z
    · have ha : a ∈ r2 := (List.mem_cons.mp (h List.mem_cons_self)).resolve_left e
      refine .cons _ (sub_rise (List.pairwise_cons.mpr u1) u2.2 fun t ht => ?_)
      rcases List.mem_cons.mp (h ht) with z | z
      · exfalso
        have h2 := u2.1 a ha
        rcases List.mem_cons.mp ht with y | y
        · exact e (y.symm.trans z)
        · have h1 := u1.1 t y
          rw [z] at h1
          omega
      · exact z
/-- rows of rising numbers are the same where they tell the same -/
theorem sameS_rise : ∀ {S1 S2 : StL}, (S1.map (·.1)).Pairwise (· < ·) → (S2.map (·.1)).Pairwise (· < ·) → S1.length = S2.length → sameS S1 S2 = true → S1 = S2 := by
  intro S1 S2 u1 u2 hl hs
  have hall : ∀ t ∈ S1, sget S2 t.1 = some t.2 := fun t ht => by
    unfold sameS at hs
    rw [List.all_eq_true] at hs
    exact of_decide_eq_true (hs t ht)
  have sub : S1 ⊆ S2 := fun t ht => by
    have := sget_in (hall t ht)
    exact this
  have rise : ∀ {S : StL}, (S.map (·.1)).Pairwise (· < ·) → S.Pairwise (fun a b => a.1 < b.1) := fun h => List.pairwise_map.mp h
  exact (sub_rise (rise u1) (rise u2) sub).eq_of_length hl
theorem sameS_self {S : StL} (u : (S.map (·.1)).Pairwise (· < ·)) : sameS S S = true := by
  unfold sameS
  rw [List.all_eq_true]
  intro t ht
  exact decide_eq_true (sget_rise u ht)
section
variable {X : Cx}
/-- len of a dict -/
theorem call_lenDk : CallR X (.builtin "len") (fun xs H Q => ∃ a kvs, xs = [V.ref a] ∧ H a = some (.dK kvs) ∧ Q (.int kvs.length) H) := by
  intro pins s σ H xs us Q I r h
  obtain ⟨a, kvs, rfl, ha, q⟩ := h
  obtain ⟨u, rfl, ru⟩ := vals1 r
  cases ru
  exact d_len I (.inl ha) fun t s' I' => ⟨.int kvs.length, H, I', ⟨t, rfl⟩, q⟩
end

/-! ### what stands beside a list that changes -/
theorem tabs_keepR {T : List (Addr × Str)} {H H' : Hp} {r : Addr} {xs : List V} (t : LamX.Tabs T H) (hr : H r = some (.lst xs)) (k : Keep r H H') : LamX.Tabs T H' := fun p hp => by
  obtain ⟨ps, h1, h2, h3⟩ := t p hp
  refine ⟨ps, k.of h1 (ne_of h1 hr (fun e => by cases e)), h2, fun pos cv hc => ?_⟩
  obtain ⟨c, e1, e2⟩ := h3 pos cv hc
  exact ⟨c, e1, k.of e2 (ne_of e2 hr (fun e => by unfold LamX.CodeO at e; cases e))⟩
theorem draw_keepR {H H' : Hp} {d l r : Addr} (D : Draw H d l) (h1 : d ≠ r) (h2 : l ≠ r) (k : Keep r H H') : Draw H' d l := by
  obtain ⟨ns, i, z, s, W⟩ := D
  exact ⟨ns, i, z, s, { W with at_d := k.of W.at_d h1, at_l := k.of W.at_l h2 }⟩
theorem draw_apart {H : Hp} {d l r : Addr} (D : Draw H d l) (n : H r = none) : d ≠ r ∧ l ≠ r := by
  obtain ⟨ns, i, z, s, W⟩ := D
  exact ⟨ne_of_none W.at_d n, ne_of_none W.at_l n⟩
theorem map_eraseI {α β : Type} (f : α → β) : ∀ (l : List α) (j : Nat), (l.eraseIdx j).map f = (l.map f).eraseIdx j
  | [], _ => rfl
  | _ :: _, 0 => rfl
  | x :: l, j + 1 => by
    show f x :: (l.eraseIdx j).map f = f x :: (l.map f).eraseIdx j
    rw [map_eraseI f l j]
theorem seqIndex_nat {j n : Nat} (h : j < n) : seqIndex? (j : Int) n = some j := by
  unfold seqIndex?
  simp
  omega

/-! ### _law_mating -/
abbrev s_mating : Stmt := top 72
abbrev N_mating : List Str := ["_law_draw", "_law_length", "_law_many", "_law_room"]
abbrev P_mating : List Str := ["_law_draw", "_law_length"]
theorem sc_mating : FnScope N_mating P_mating (defScope s_mating) := ⟨rfl, rfl, rfl, by decide +kernel, rfl, by decide +kernel, by decide +kernel⟩
structure Mat (n o p m f : Int) : Prop where
  m1 : 1 ≤ m
  o0 : 0 ≤ o
  o1 : o + m ≤ n
  p0 : 0 ≤ p
  p1 : p + m ≤ n
  f01 : f = 0 ∨ f = 1
def spMating : Sp := fun vs H Q _ => ∃ (d l : Addr) (n : Int), vs = [.ref d, .int n] ∧ Draw H d l ∧ 1 ≤ n ∧ n < 2 ^ 60 ∧
  ∀ (H' : Hp) (t : Addr) (o p m f : Int), Draw H' d l → Keep d H H' → H' t = some (tup4 o p m f) → Mat n o p m f → Q (.ref t) H'
section
variable {P : Program} {w : World} {K : PySem.W.Frag} {mg : Str → Option Value} {base : Heap}
theorem ok_mating {f fP : Addr} {fd fdP : FuncData} (D : DefAt K mg "_law_mating" s_mating P_mating f fd) (D_pull : DefAt K mg "_law_pull" s_pull P_pull fP fdP) (B : Bn mg) : FnOk P w K mg base CX0 2 f fd P_mating spMating := by
  have G_pull : FnOk P w K mg base CX0 1 fP fdP P_pull spPull := ok_pull D_pull B
  refine D.F.ok sc_mating (fun vs H Q E h => ?_) (fun cdv A outer s H vs Q E hr h => ?_)
  · obtain ⟨d, l, n, rfl, _⟩ := h
    rfl
  · obtain ⟨d, l, n, rfl, hD, n1, n2, q⟩ := h
    refine ⟨_, (pss_cons (ps_set (i := 2) sc_mating.nd rfl (.inl rfl) (pe_op op_add pe_int (pe_call G_pull (hr.mono (by omega)) (by rfl) D_pull.g D_pull.F.kp D_pull.b .nil pass0 (pa_cons (pv 0) (pa_cons (pv 1) pa_nil)))))
      (C8.pss_cut (ps_if (pt_cmpR op_eq (pe_call G_pull (hr.mono (by omega)) (by rfl) D_pull.g D_pull.F.kp D_pull.b .nil pass0 (pa_cons (pv 0) (pa_cons pe_int pa_nil))) pe_int (nomark _)) (pss_one (ps_set (i := 2) sc_mating.nd rfl (.inl rfl) (pe_op op_add pe_int (pe_call G_pull (hr.mono (by omega)) (by rfl) D_pull.g D_pull.F.kp D_pull.b .nil pass0 (pa_cons (pv 0) (pa_cons (pe_callB (call_min2 rfl) (by rfl) B.min (by decide +kernel) (pa_cons (pv 2) (pa_cons pe_int pa_nil))) pa_nil)))))) pss_nil)
      (pss_cons (ps_set (i := 3) sc_mating.nd rfl (.inl rfl) (pe_op op_add (pe_op op_sub (pv 1) (pv 2)) pe_int))
      (pss_one (ps_ret (pe_tup (pa_cons (pe_call G_pull (hr.mono (by omega)) (by rfl) D_pull.g D_pull.F.kp D_pull.b .nil pass0 (pa_cons (pv 0) (pa_cons (pv 3) pa_nil))) (pa_cons (pe_call G_pull (hr.mono (by omega)) (by rfl) D_pull.g D_pull.F.kp D_pull.b .nil pass0 (pa_cons (pv 0) (pa_cons (pv 3) pa_nil))) (pa_cons (pv 2) (pa_cons (pe_call G_pull (hr.mono (by omega)) (by rfl) D_pull.g D_pull.F.kp D_pull.b .nil pass0 (pa_cons (pv 0) (pa_cons pe_int pa_nil))) pa_nil)))))))))), ?_⟩
    refine ⟨.ref d, rfl, .int n, rfl, d, l, n, rfl, hD, n1, by omega, fun a H1 a0 a1 D1 k1 => ?_⟩
    refine ⟨1, a, rfl, rfl, ?_⟩
    refine ⟨fun σ H' => ∃ m : Int, σ = [some (.ref d), some (.int n), some (.int m), none] ∧ Draw H' d l ∧ Keep d H H' ∧ 1 ≤ m ∧ m ≤ n, ?_, ?_⟩
    · refine ⟨.ref d, rfl, d, l, 2, rfl, D1, by decide, by decide, fun b H2 b0 b1 D2 k2 => ?_⟩
      refine ⟨rfl, _, rfl, ?_⟩
      refine ite2 (fun _ => ?_) (fun _ => ?_)
      · refine ⟨.ref d, rfl, .int (1 + a), rfl, 1 + a, 5, rfl, d, l, _, rfl, D2, ?_, ?_, fun c H3 c0 c1 D3 k3 => ?_⟩
        · split <;> omega
        · split <;> omega
        · refine ⟨1, c, rfl, rfl, 1 + c, rfl, D3, (k1.trans k2).trans k3, by omega, ?_⟩
          have c1' : c < (if (5 : Int) < 1 + a then 5 else 1 + a) := c1
          split at c1' <;> omega
      · exact ⟨1 + a, rfl, D2, k1.trans k2, by omega, by omega⟩
    · rintro σ H3 ⟨m, rfl, D3, k3, m1, m2⟩
      refine ⟨.int n, rfl, .int m, rfl, n, m, rfl, rfl, _, 1, rfl, rfl, ?_⟩
      refine ⟨.ref d, rfl, .int (n - m + 1), rfl, d, l, n - m + 1, rfl, D3, by omega, by omega, fun o H4 o0 o1 D4 k4 => ?_⟩
      refine ⟨.ref d, rfl, .int (n - m + 1), rfl, d, l, n - m + 1, rfl, D4, by omega, by omega, fun p H5 p0 p1 D5 k5 => ?_⟩
      refine ⟨.int m, rfl, .ref d, rfl, d, l, 2, rfl, D5, by decide, by decide, fun f H6 f0 f1 D6 k6 => ?_⟩
      refine ⟨by show 4 ≤ sizeLine; decide, fun t nt => ?_⟩
      exact q _ t o p m f (D6.same (same_upd nt)) ((((k3.trans k4).trans k5).trans k6).trans (keepS (same_upd nt))) upd_same ⟨m1, o0, by omega, p0, by omega, by omega⟩
end

/-! ### _law_road, _law_far_road, _law_scaled -/
abbrev s_road : Stmt := top 73
abbrev N_road : List Str := ["_law_draw", "_law_longest", "_law_cap", "_law_length", "_law_k"]
abbrev P_road : List Str := ["_law_draw", "_law_longest", "_law_cap"]
theorem sc_road : FnScope N_road P_road (defScope s_road) := ⟨rfl, rfl, rfl, by decide +kernel, rfl, by decide +kernel, by decide +kernel⟩
def Mrd (n : Int) (x : M4) : Prop := Mat n x.1 x.2.1 x.2.2.1 x.2.2.2
def spRoad : Sp := fun vs H Q _ => ∃ (d l : Addr) (g c : Int), vs = [.ref d, .int g, .int c] ∧ Draw H d l ∧ 1 ≤ g ∧ g ≤ 1000 ∧ 0 ≤ c ∧ c ≤ 24 ∧
  ∀ (H' : Hp) (t L : Addr) (n : Int) (ts : List Addr) (ms : List M4), Draw H' d l → Keep d H H' → H' t = some (.tup [.int n, .ref L]) → H L = none → H' L = some (.lst (ts.map V.ref)) → Mts H' ts ms → (∀ x ∈ ms, Mrd n x) → (ms.length : Int) ≤ c → 1 ≤ n → n ≤ g → Q (.ref t) H'
def scX (k : Int) (x : M4) : M4 := (x.1 * k, x.2.1 * k, x.2.2.1 * k, x.2.2.2)
theorem Mts.keep {H H' : Hp} (k : KeepT H H') : ∀ {ts : List Addr} {ms : List M4}, Mts H ts ms → Mts H' ts ms
  | _, _, .nil => .nil
  | _, _, .cons h r => .cons (k _ _ h) (Mts.keep k r)
theorem Mts.snoc {H : Hp} {t : Addr} {x : M4} (hs : H t = some (t4 x)) : ∀ {ts : List Addr} {ms : List M4}, Mts H ts ms → Mts H (ts ++ [t]) (ms ++ [x])
  | _, _, .nil => .cons hs .nil
  | _, _, .cons h r => .cons h (Mts.snoc hs r)
theorem Draw.keepT {H H' : Hp} {d l : Addr} (D : Draw H d l) (k : Keep d H H') : KeepT H H' := fun b xs hb => by
  obtain ⟨ns, i, zz, sd, W⟩ := D
  exact k.of hb (ne_of hb W.at_d (fun q => by cases q))
section
variable {P : Program} {w : World} {K : PySem.W.Frag} {mg : Str → Option Value} {base : Heap}
theorem ok_road {f fP fM : Addr} {fd fdP fdM : FuncData} (D : DefAt K mg "_law_road" s_road P_road f fd) (D_pull : DefAt K mg "_law_pull" s_pull P_pull fP fdP) (D_mating : DefAt K mg "_law_mating" s_mating P_mating fM fdM) (B : Bn mg) : FnOk P w K mg base CX0 3 f fd P_road spRoad := by
  have G_pull : FnOk P w K mg base CX0 1 fP fdP P_pull spPull := ok_pull D_pull B
  have G_mating : FnOk P w K mg base CX0 2 fM fdM P_mating spMating := ok_mating D_mating D_pull B
  refine D.F.ok sc_road (fun vs H Q E h => ?_) (fun cdv A outer s H vs Q E hr h => ?_)
  · obtain ⟨d, l, g, c, rfl, _⟩ := h
    rfl
  · obtain ⟨d, l, g, c, rfl, hD, g1, g2, c0, c1, q⟩ := h
    refine ⟨_, (pss_cons (ps_set (i := 3) sc_road.nd rfl (.inr rfl) (pe_op op_add pe_int (pe_call G_pull (hr.mono (by omega)) (by rfl) D_pull.g D_pull.F.kp D_pull.b .nil pass0 (pa_cons (pv 0) (pa_cons (pv 1) pa_nil)))))
      (pss_one (ps_ret (pe_tup (pa_cons (pv 3) (pa_cons (pe_lc (own := [("_law_k", 4)]) (g := gName 4) (by rfl) sc_road.nd (pi_range1 (by rfl) B.range (pa_cons (pe_call G_pull (hr.mono (by omega)) (by rfl) D_pull.g D_pull.F.kp D_pull.b .nil pass0 (pa_cons (pv 0) (pa_cons (pe_op op_add (pv 2) pe_int) pa_nil))) pa_nil)) (blkOk_by (own := [("_law_k", 4)]) (N := N_road) (sc := defScope s_road) (by decide +kernel)) (fun _ _ _ _ _ => (pg_name (i := 4) sc_road.nd rfl (.inl rfl))) (fun _ _ _ _ _ => pts_nil) (fun _ _ _ _ _ => (pe_call G_mating (hr.mono (by omega)) (by rfl) D_mating.g D_mating.F.kp D_mating.b .nil pass0 (pa_cons (pv 0) (pa_cons (pv 3) pa_nil))))) pa_nil)))))), ?_⟩
    refine ⟨.ref d, rfl, .int g, rfl, d, l, g, rfl, hD, g1, by omega, fun v H1 v0 v1 D1 k1 => ?_⟩
    refine ⟨1, v, rfl, rfl, ?_⟩
    refine ⟨.int (1 + v), rfl, .ref d, rfl, .int c, rfl, c, 1, rfl, rfl, d, l, _, rfl, D1, by omega, by omega, fun u H2 u0 u1 D2 k2 => ?_⟩
    refine ⟨u, rfl, by omega, by omega, fun L nL => lc_range (lo := 0) (n := u.toNat) (fun i H3 => ∃ (ts : List Addr) (ms : List M4), Draw H3 d l ∧ (∀ b o, H2 b = some o → b ≠ d → H3 b = some o) ∧ H3 L = some (.lst (ts.map V.ref)) ∧ Mts H3 ts ms ∧ (∀ x ∈ ms, Mrd (1 + v) x) ∧ ms.length = i)
      ⟨[], [], D2.same (same_upd nL), fun b o hb _ => same_upd nL _ _ hb, upd_same, .nil, fun x hx => (by cases hx), rfl⟩ ?_ ?_⟩
    · rintro i H3 hi ⟨ts, ms, D3, kp, eL, hM, hok, rfl⟩
      have nLd := (draw_apart D2 nL).1.symm
      have nLl := (draw_apart D2 nL).2
      refine ⟨rfl, .ref d, rfl, .int (1 + v), rfl, d, l, 1 + v, rfl, D3, by omega, by omega, fun H4 t o p m fl D4 k4 e4 M4' => ?_⟩
      have eL4 := k4.of eL nLd
      have hM4 := hM.keep (D3.keepT k4)
      have hml := hM.length
      have k5 : Keep L H4 (upd H4 L (.lst (ts.map V.ref ++ [.ref t]))) := Keep.upd
      have kt5 : KeepT H4 (upd H4 L (.lst (ts.map V.ref ++ [.ref t]))) := fun b xs hb => k5.of hb (ne_of hb eL4 (fun q => by cases q))
      refine ⟨_, eL4, sz_lt (by rw [List.length_map]; omega), ts ++ [t], ms ++ [(o, p, m, fl)], draw_keepR D4 nLd.symm nLl k5, fun b o' hb nb => ?_, by rw [upd_same, List.map_append]; rfl, Mts.snoc (kt5 _ _ e4) (hM4.keep kt5), fun x hx => ?_, by rw [List.length_append]; rfl⟩
      · exact k5.of (k4.of (kp b o' hb nb) nb) (ne_of_none hb nL)
      · rcases List.mem_append.mp hx with h | h
        · exact hok x h
        · rw [List.mem_singleton.mp h]
          exact M4'
    · rintro H3 ⟨ts, ms, D3, kp, eL, hM, hok, hl⟩
      refine ⟨by show 2 ≤ sizeLine; decide, fun t nt => ?_⟩
      have st := same_upd (H := H3) (o := .tup [.int (1 + v), .ref L]) nt
      have k3 : Keep d H2 H3 := fun b o nb hb => kp b o hb nb
      have nLH : H L = none := by
        cases e : H L with
        | none => rfl
        | some o =>
          have nLd := (draw_apart D2 nL).1.symm
          have := k2.of (k1.of e nLd) nLd
          rw [nL] at this
          cases this
      exact q _ t L (1 + v) ts ms (D3.same st) (((k1.trans k2).trans k3).trans (keepS st)) upd_same nLH (st _ _ eL) (hM.keep fun b xs hb => st _ _ hb) hok (by omega) (by omega) (by omega)
end

/-! ### o.m(e, .., k = v): a method's keyword-only parameter told -/
def tMethK (C : Addr) (m : Str) (n kn : Nat) (sp : Sp) (gV : List V → List V → List V) (E : XK) (ta : TE) (t tk : TA) : TE := fun σ H Q => ta σ H fun x H1 => ∃ a dx fs, x = .ref a ∧ H1 a = some (.ins C dx fs) ∧ fs.lookup m = none ∧
  t σ H1 fun vs H2 => tk σ H2 fun zs H3 => vs.length = n ∧ zs.length = kn ∧ sp (gV (.ref a :: vs) zs) H3 Q E
section
variable {X : Cx} {CX : CXT} {k n : Nat} {f C : Addr} {fd : FuncData} {ps ks : List Str} {sp : Sp} {E : XK} {m : Str} {p pos apos : Pos} {e o : Expr} {es : List Expr} {kws : List Keyword} {ta : TE} {t tk : TA} {g : List Value → List Value → List Value} {gV : List V → List V → List V}
theorem run_fnKn {pins : List (Addr × Obj)} {σ : St} {H : Hp} {s : Shared} {Q : VK} {us ws : List Value} {vs zs : List V} (F : FnOk X.prog X.w X.K X.mg X.base CX k f fd ps sp) (hr : Room k X.A) (hb : KBn X.K fd ps n ks g gV) (hx : Passes CX X E)
    (I : Inv X pins σ H s) (r : Vals vs us) (rz : Vals zs ws) (l1 : us.length = n) (l2 : ws.length = ks.length) (h : sp (gV vs zs) H Q E) : wpAny (model X.prog X.w) X.A (call (.ref f) us (ks.zip ws)) (EP X pins σ Q) X.xe s := by
  have r2 := hb.rel r rz
  refine wpAny_call (codeAny_mono (F.run X.A X.stack s H ⟨us, ks.zip ws⟩ (g us ws) (gV vs zs) Q E hr I.env0 (hb.to s us ws I.kIn l1 l2) r2 h) fun r s' hq => ?_)
  cases r with
  | error e => exact hx pins σ H s e s' I hq
  | ok fl =>
    cases fl with
    | ret u => exact I.after hq
    | next => exact False.elim hq
    | brk => exact False.elim hq
    | cont => exact False.elim hq
theorem pe_methK {pl : Sem Bool} (he : PE X o ta) (c : Cls X.K C) (hm : Meth X.K C m f) (F : FnOk X.prog X.w X.K X.mg X.base CX k f fd ps sp) (hr : Room k X.A) (hb : KBn X.K fd ps (n + 1) ks g gV) (hx : Passes CX X E) (ha : PA X (e :: es) t) (hkw : PK X kws tk)
    (hall : (backToKw pos (keywordEach kws X.env)).all (·.1.isSome) = true := by rfl) (hks : (backToKw pos (keywordEach kws X.env)).filterMap (·.1) = ks := by rfl)
    (hst : starEach (e :: es) X.env = (false, eval e X.env) :: starEach es X.env := by rfl) (hpl : ((backTo pos (starEach (e :: es) X.env)).any (·.1) || (backToKw pos (keywordEach kws X.env)).any (·.1.isNone)) = false := by rfl)
    (ht : eval (.Call (.Attribute o m apos) (e :: es) kws pos) X.env = (do
      let ov ← eval o X.env
      standAt apos.atName
      let (f, first) ← holding [ov] (getMethod ov m pl)
      callWith pos f first (backTo pos (starEach (e :: es) X.env)) (backToKw pos (keywordEach kws X.env))) := by rfl) :
    PE X (.Call (.Attribute o m apos) (e :: es) kws pos) (tMethK C m n ks.length sp gV E ta t tk) := by
  refine ⟨fun pins s σ H Q I h => ?_⟩
  refine PySem.W.methodCall_KW (pl := pl) (thn (he.run pins s σ H _ I h) fun u s1 ⟨x, H1, I1, rx, a, dx, fs, ex, ea, l, q⟩ => ?_) ht
  subst ex
  obtain rfl : u = Value.ref a := rx
  refine getmeth_ok I1 ea c hm l ?_
  refine PySem.W.callWith_KW (first := [.ref a]) (h₀ := X.base) I.ok.mod.kin hm.kp hall (thn (ha.run pos pins s1 σ H1 _ I1 q) fun us s2 ⟨vs, H2, I2, r, q2⟩ => ?_) hpl hst
  refine thn (hkw.run pos pins s2 σ H2 _ I2 q2) fun ws s3 ⟨zs, H3, I3, rz, l1, l2, q3⟩ => ⟨I3.kIn, ?_⟩
  rw [hks]
  exact run_fnKn (us := .ref a :: us) (vs := .ref a :: vs) F hr hb hx I3 (.cons rfl r) rz (by rw [List.length_cons, ← r.length, l1]) (by rw [← rz.length, l2]) q3
end

/-! ### a road, told by its matings: __init__, become, next_number, length -/
abbrev s_Ro_init : Stmt := inClass (top 65) 0
abbrev N_Ro_init : List Str := ["self", "length"]
abbrev P_Ro_init : List Str := ["self", "length"]
theorem sc_Ro_init : FnScope N_Ro_init P_Ro_init (defScope s_Ro_init) := ⟨rfl, rfl, rfl, by decide +kernel, rfl, by decide +kernel, by decide +kernel⟩
abbrev s_Ro_become : Stmt := inClass (top 65) 1
abbrev N_Ro_become : List Str := ["self", "length", "standing"]
abbrev P_Ro_become : List Str := ["self", "length", "standing"]
theorem sc_Ro_become : FnScope N_Ro_become P_Ro_become (defScope s_Ro_become) := ⟨rfl, rfl, rfl, by decide +kernel, rfl, by decide +kernel, by decide +kernel⟩
abbrev s_Ro_next_number : Stmt := inClass (top 65) 2
abbrev N_Ro_next_number : List Str := ["self"]
abbrev P_Ro_next_number : List Str := ["self"]
theorem sc_Ro_next_number : FnScope N_Ro_next_number P_Ro_next_number (defScope s_Ro_next_number) := ⟨rfl, rfl, rfl, by decide +kernel, rfl, by decide +kernel, by decide +kernel⟩
abbrev s_Ro_length : Stmt := inClass (top 65) 11
abbrev N_Ro_length : List Str := ["self"]
abbrev P_Ro_length : List Str := ["self"]
theorem sc_Ro_length : FnScope N_Ro_length P_Ro_length (defScope s_Ro_length) := ⟨rfl, rfl, rfl, by decide +kernel, rfl, by decide +kernel, by decide +kernel⟩
def roF (n : Int) (st : Addr) (k : V) (c : Int) : List (Str × V) := [("extent", .int n), ("standing", .ref st), ("kept", k), ("foldings", .int c)]
structure RoT (K : PySem.W.Frag) (mg : Str → Option Value) (C5 : Addr) : Prop where
  gC : mg "Road" = some (.ref C5)
  cl : Cls K C5
  nE : NoAttr K C5 "extent"
  nS : NoAttr K C5 "standing"
  nK : NoAttr K C5 "kept"
  nF : NoAttr K C5 "foldings"
/-- the road g, its matings in the dict st -/
structure RoAt (C5 : Addr) (H : Hp) (g st : Addr) (n : Int) (S : StL) (k : V) (c : Int) : Prop where
  at_g : ∃ dx, H g = some (.ins C5 dx (roF n st k c))
  at_s : ∃ kvs, H st = some (.dK kvs) ∧ Std H kvs S
structure RoW (n : Int) (S : StL) : Prop where
  n0 : 0 ≤ n
  n1 : n ≤ 1000000000000000000
  up : (S.map (·.1)).Pairwise (· < ·)
  low : ∀ s ∈ S, 1 ≤ s.1
  len : S.length ≤ 24
  ok : ∀ s ∈ S, Mok n s.2
theorem RoAt.same {C5 : Addr} {H H' : Hp} {g st : Addr} {n : Int} {S : StL} {k : V} {c : Int} (h : RoAt C5 H g st n S k c) (s : Same H H') : RoAt C5 H' g st n S k c := by
  obtain ⟨⟨dx, e⟩, kvs, e1, e2⟩ := h
  exact ⟨⟨dx, s _ _ e⟩, kvs, s _ _ e1, e2.keep fun b xs hb => s _ _ hb⟩
theorem RoAt.ne {C5 : Addr} {H : Hp} {g st : Addr} {n : Int} {S : StL} {k : V} {c : Int} (h : RoAt C5 H g st n S k c) : g ≠ st := by
  obtain ⟨⟨dx, e⟩, kvs, e1, e2⟩ := h
  exact ne_of e e1 (fun z => by cases z)
def nxt (S : StL) : Int := (S.map (·.1)).foldl max 0 + 1
def spRoInit (C5 : Addr) : Sp := fun vs H Q _ => ∃ (g dx : Addr) (n : Int), vs = [.ref g, .int n] ∧ H g = some (.ins C5 dx []) ∧ 0 ≤ n ∧ n ≤ 1000000000000000000 ∧
  ∀ H' st, H' g = some (.ins C5 dx (roF n st .non 0)) → H' st = some (.dK []) → H st = none → Keep g H H' → Q .non H'
def spBecome (C5 : Addr) : Sp := fun vs H Q _ => ∃ (g st st2 dx : Addr) (n m : Int) (S S2 : StL) (k : V) (c : Int) (kvs kvs2 : List (Key × V)), vs = [.ref g, .int m, .ref st2] ∧ H g = some (.ins C5 dx (roF n st k c)) ∧
  H st = some (.dK kvs) ∧ Std H kvs S ∧ H st2 = some (.dK kvs2) ∧ Std H kvs2 S2 ∧ (S.map (·.1)).Pairwise (· < ·) ∧ (S2.map (·.1)).Pairwise (· < ·) ∧
  ∀ H', H' g = some (.ins C5 dx (roF m st2 (if m = n ∧ S2 = S then k else .non) c)) → Keep g H H' → Q .non H'
def spNext (C5 : Addr) : Sp := fun vs H Q _ => ∃ (g st : Addr) (n : Int) (S : StL) (k : V) (c : Int), vs = [.ref g] ∧ RoAt C5 H g st n S k c ∧ S.length ≤ 100 ∧ (∀ s ∈ S, 1 ≤ s.1) ∧ ∀ H', Same H H' → Q (.int (nxt S)) H'
def spRoLen (C5 : Addr) : Sp := fun vs H Q _ => ∃ (g dx st : Addr) (n : Int) (k : V) (c : Int), vs = [.ref g] ∧ H g = some (.ins C5 dx (roF n st k c)) ∧ Q (.int n) H
section
variable {P : Program} {w : World} {K : PySem.W.Frag} {mg : Str → Option Value} {base : Heap} {C5 : Addr}
theorem ok_RoInit {f fN fA fV : Addr} {fd fdN fdA fdV : FuncData} {tok : Tok} {dvs : List V} (F : FunD K "__init__" "Road.__init__" (defArgs s_Ro_init) (defBody s_Ro_init) (defScope s_Ro_init) dvs [] f fd) (TRo_ : RoT K mg C5) (D_need_length : DefAt K mg "need_length" s_need_length P_need_length fN fdN) (D_need_from : DefAt K mg "need_from" s_need_from P_need_from fA fdA) (D_need_within : DefAt K mg "need_within" s_need_within P_need_within fV fdV) (g_FAR : mg "FAR" = some (.int 1000000000000000000 tok)) (B : Bn mg) :
    FnOk P w K mg base CX0 4 f fd P_Ro_init (spRoInit C5) := by
  have G_need_length : FnOk P w K mg base CX0 3 fN fdN P_need_length spNeed0 := ok_need0 D_need_length D_need_from D_need_within g_FAR B
  refine F.ok sc_Ro_init (fun vs H Q E h => ?_) (fun cdv A outer s H vs Q E hr h => ?_)
  · obtain ⟨g, dx, n, rfl, _⟩ := h
    rfl
  · obtain ⟨g, dx, n, rfl, hg, n0, n1, q⟩ := h
    suffices hh : ∃ t, PSs (cxOf CX0 P w K mg base N_Ro_init "Road.__init__" (defScope s_Ro_init) f cdv A outer s H E).nox (defBody s_Ro_init) t ∧ t { nx := fun _ H' => Q .non H', rt := Q } (L2.start N_Ro_init [.ref g, .int n]) H by
      obtain ⟨t, h1, h2⟩ := hh
      exact ⟨t, h1.nox, h2⟩
    refine ⟨_, (pss_cons (ps_expr (pe_call G_need_length (hr.mono (by omega)) (by rfl) D_need_length.g D_need_length.F.kp D_need_length.b .nil pass0 (pa_cons (pv 1) pa_nil)))
      (pss_cons (ps_fld (pv 0) (pv 1) rfl)
      (pss_cons (ps_fld (pv 0) pe_dnewK rfl)
      (pss_cons (ps_fld (pv 0) pe_non rfl)
      (pss_one (ps_fld (pv 0) pe_int rfl)))))), ?_⟩
    refine ⟨.int n, rfl, n, rfl, n0, n1, ?_⟩
    refine ⟨.int n, rfl, .ref g, rfl, g, C5, dx, [], rfl, hg, TRo_.cl, TRo_.nE, by show 0 < 1000; decide, ?_⟩
    have k1 : Keep g H (upd H g (.ins C5 dx (putF "extent" (.int n) []))) := Keep.upd
    have e1 : (upd H g (.ins C5 dx (putF "extent" (.int n) []))) g = some (.ins C5 dx [("extent", .int n)]) := upd_same
    have f1 : ∀ b, (upd H g (.ins C5 dx (putF "extent" (.int n) []))) b = none → H b = none := fun b hb => by
      cases e : H b with
      | none => rfl
      | some o =>
        by_cases c : b = g
        · rw [c, upd_same] at hb
          cases hb
        · rw [upd_ne c, e] at hb
          cases hb
    generalize upd H g (.ins C5 dx (putF "extent" (.int n) [])) = H1 at k1 e1 f1
    intro st nst
    have s2 := same_upd (H := H1) (o := .dK []) nst
    have e2 : (upd H1 st (.dK [])) st = some (.dK []) := upd_same
    generalize upd H1 st (.dK []) = H2 at s2 e2
    have nsg : st ≠ g := (ne_of_none e1 nst).symm
    refine ⟨.ref g, rfl, g, C5, dx, _, rfl, s2 _ _ e1, TRo_.cl, TRo_.nS, by show 1 < 1000; decide, ?_⟩
    refine ⟨.ref g, rfl, g, C5, dx, _, rfl, upd_same, TRo_.cl, TRo_.nK, by show 2 < 1000; decide, ?_⟩
    refine ⟨.ref g, rfl, g, C5, dx, _, rfl, upd_same, TRo_.cl, TRo_.nF, by show 3 < 1000; decide, ?_⟩
    refine q _ st upd_same ?_ (f1 _ nst) fun b o nb hb => ?_
    · rw [upd_ne nsg, upd_ne nsg, upd_ne nsg]
      exact e2
    · rw [upd_ne nb, upd_ne nb, upd_ne nb]
      exact s2 _ _ (k1 _ _ nb hb)
theorem ok_RoLen {f : Addr} {fd : FuncData} (F : Fun K "length" "Road.length" s_Ro_length f fd) (TRo_ : RoT K mg C5) : FnOk P w K mg base CX0 1 f fd P_Ro_length (spRoLen C5) := by
  refine F.ok sc_Ro_length (fun vs H Q E h => ?_) (fun cdv A outer s H vs Q E hr h => ?_)
  · obtain ⟨g, dx, st, n, k, c, rfl, _⟩ := h
    rfl
  · obtain ⟨g, dx, st, n, k, c, rfl, hg, q⟩ := h
    refine ⟨_, (pss_one (ps_ret (pe_fld (pv 0) rfl))), ?_⟩
    exact ⟨.ref g, rfl, g, C5, dx, _, .int n, rfl, hg, TRo_.cl, TRo_.nE, rfl, q⟩
theorem ok_Next {f : Addr} {fd : FuncData} (F : Fun K "next_number" "Road.next_number" s_Ro_next_number f fd) (TRo_ : RoT K mg C5) (B : Bn mg) : FnOk P w K mg base CX0 1 f fd P_Ro_next_number (spNext C5) := by
  refine F.ok sc_Ro_next_number (fun vs H Q E h => ?_) (fun cdv A outer s H vs Q E hr h => ?_)
  · obtain ⟨g, st, n, S, k, c, rfl, _⟩ := h
    rfl
  · obtain ⟨g, st, n, S, k, c, rfl, ⟨⟨dx, hg⟩, kvs, hst, sd⟩, hl, lo, q⟩ := h
    refine ⟨_, (pss_one (ps_ret (pe_op op_add (pe_callBK (cr_maxDf rfl) (by rfl) B.max (by decide +kernel) (pa_cons (pe_callTy (call_listD rfl) (by rfl) B.list (by decide +kernel) (pa_cons (pe_fld (pv 0) rfl) pa_nil)) pa_nil) (pk_cons pe_int pk_nil)) pe_int))), ?_⟩
    refine ⟨.ref g, rfl, g, C5, dx, _, .ref st, rfl, hg, TRo_.cl, TRo_.nS, rfl, st, kvs, rfl, .inl hst, fun p np => ?_⟩
    have e1 : (kvs.map fun kv => kV kv.1) = (S.map (·.1)).map V.int := by
      have := congrArg (List.map kV) sd.keys
      rw [List.map_map, List.map_map] at this
      exact this
    rw [e1]
    refine ⟨p, S.map (·.1), .int 0, rfl, rfl, SqL.of upd_same, fun e => ?_, fun m hm hle => ?_⟩
    · have z : nxt S = 0 + 1 := by
        unfold nxt
        rw [e]
        rfl
      refine ⟨0, 1, rfl, rfl, ?_⟩
      show Q (V.int (0 + 1)) _
      rw [← z]
      exact q _ (same_upd np)
    · obtain ⟨s0, hs0, es0⟩ := List.mem_map.mp hm
      have m0 : 0 ≤ m := by
        have := lo s0 hs0
        have e : s0.1 = m := es0
        omega
      have z : nxt S = m + 1 := by
        unfold nxt
        rw [max_is m0 (.inr hm) hle]
      refine ⟨m, 1, rfl, rfl, ?_⟩
      show Q (V.int (m + 1)) _
      rw [← z]
      exact q _ (same_upd np)
theorem ok_Become {f : Addr} {fd : FuncData} (F : Fun K "become" "Road.become" s_Ro_become f fd) (TRo_ : RoT K mg C5) : FnOk P w K mg base CX0 1 f fd P_Ro_become (spBecome C5) := by
  refine F.ok sc_Ro_become (fun vs H Q E h => ?_) (fun cdv A outer s H vs Q E hr h => ?_)
  · obtain ⟨g, st, st2, dx, n, m, S, S2, k, c, kvs, kvs2, rfl, _⟩ := h
    rfl
  · obtain ⟨g, st, st2, dx, n, m, S, S2, k, c, kvs, kvs2, rfl, hg, hst, sd, hst2, sd2, up, up2, q⟩ := h
    refine ⟨_, (pss_cons (ps_if (PW.pt (pw_or (pt_cmpR op_ne (pv 1) (pe_fld (pv 0) rfl) (nomark _)) (pw_or1 (pt_cmpR (op_neS hr.units) (pv 2) (pe_fld (pv 0) rfl) (nomark _))))) (pss_one (ps_fld (pv 0) pe_non rfl)) pss_nil)
      (pss_cons (ps_fld (pv 0) (pv 1) rfl)
      (pss_one (ps_fld (pv 0) (pv 2) rfl)))), ?_⟩
    have rest : ∀ (k2 : V) (H1 : Hp), H1 g = some (.ins C5 dx (roF n st k2 c)) → Keep g H H1 → k2 = (if m = n ∧ S2 = S then k else .non) →
        tSeq (sFld K (tVar 0) (tVar 1) "extent") (sFld K (tVar 0) (tVar 2) "standing") { nx := fun _ H' => Q .non H', rt := Q } (L2.start N_Ro_become [.ref g, .int m, .ref st2]) H1 := fun k2 H1 e1 k1 ek => by
      refine ⟨.int m, rfl, .ref g, rfl, g, C5, dx, _, rfl, e1, TRo_.cl, TRo_.nE, by show 4 < 1000; decide, ?_⟩
      refine ⟨.ref st2, rfl, .ref g, rfl, g, C5, dx, _, rfl, upd_same, TRo_.cl, TRo_.nS, by show 4 < 1000; decide, ?_⟩
      refine q _ ?_ ((k1.trans Keep.upd).trans Keep.upd)
      rw [upd_same, ← ek]
      rfl
    have none : ¬ (m = n ∧ S2 = S) → tSeq (sFld K (tVar 0) (tC .non) "kept") (tSeq (sFld K (tVar 0) (tVar 1) "extent") (sFld K (tVar 0) (tVar 2) "standing")) { nx := fun _ H' => Q .non H', rt := Q } (L2.start N_Ro_become [.ref g, .int m, .ref st2]) H := fun hne => by
      refine ⟨.ref g, rfl, g, C5, dx, _, rfl, hg, TRo_.cl, TRo_.nK, by show 4 < 1000; decide, ?_⟩
      exact rest .non _ upd_same Keep.upd (if_neg hne).symm
    refine ⟨.int m, rfl, .ref g, rfl, g, C5, dx, _, .int n, rfl, hg, TRo_.cl, TRo_.nE, rfl, rfl, _, rfl, ?_⟩
    refine ite2 (fun h => ?_) (fun h => ?_)
    · refine iteT (none fun z => ?_)
      rw [z.1] at h
      simp at h
    · have hmn : m = n := by
        by_cases z : m = n
        · exact z
        · exfalso
          apply h
          rw [decide_eq_false (fun q => z (V.int.inj q))]
          rfl
      refine ⟨.ref st2, rfl, .ref g, rfl, g, C5, dx, _, .ref st, rfl, hg, TRo_.cl, TRo_.nS, rfl, st2, st, kvs2, kvs, S2, S, rfl, rfl, hst2, hst, sd2, sd, _, rfl, ?_⟩
      by_cases hS : S2 = S
      · rw [hS, sameS_self up, decide_eq_true rfl]
        refine iteF ?_
        exact rest k H hg (fun b o _ e => e) (if_pos ⟨hmn, hS⟩).symm
      · have hb : (decide (S2.length = S.length) && sameS S2 S) = false := by
          cases hz : (decide (S2.length = S.length) && sameS S2 S) with
          | false => rfl
          | true =>
            rw [Bool.and_eq_true, decide_eq_true_eq] at hz
            exact absurd (sameS_rise up2 up hz.1 hz.2) hS
        rw [hb]
        exact iteT (none fun z => hS z.2)
end

/-! ### a road: told, matings, mate_as, mate -/
abbrev s_Ro_told : Stmt := inClass (top 65) 3
abbrev N_Ro_told : List Str := ["self", "number"]
abbrev P_Ro_told : List Str := ["self"]
theorem sc_Ro_told : FnScope N_Ro_told P_Ro_told (defScope s_Ro_told) := ⟨rfl, rfl, rfl, by decide +kernel, rfl, by decide +kernel, by decide +kernel⟩
abbrev s_Ro_matings : Stmt := inClass (top 65) 12
abbrev N_Ro_matings : List Str := ["self", "number"]
abbrev P_Ro_matings : List Str := ["self"]
theorem sc_Ro_matings : FnScope N_Ro_matings P_Ro_matings (defScope s_Ro_matings) := ⟨rfl, rfl, rfl, by decide +kernel, rfl, by decide +kernel, by decide +kernel⟩
abbrev s_Ro_mate_as : Stmt := inClass (top 65) 5
abbrev N_Ro_mate_as : List Str := ["self", "number", "mating"]
abbrev P_Ro_mate_as : List Str := ["self", "number", "mating"]
theorem sc_Ro_mate_as : FnScope N_Ro_mate_as P_Ro_mate_as (defScope s_Ro_mate_as) := ⟨rfl, rfl, rfl, by decide +kernel, rfl, by decide +kernel, by decide +kernel⟩
abbrev s_Ro_mate : Stmt := inClass (top 65) 4
abbrev N_Ro_mate : List Str := ["self", "one", "other", "many", "turned", "number"]
abbrev P_Ro_mate : List Str := ["self", "one", "other", "many", "turned"]
theorem sc_Ro_mate : FnScope N_Ro_mate P_Ro_mate (defScope s_Ro_mate) := ⟨rfl, rfl, rfl, by decide +kernel, rfl, by decide +kernel, by decide +kernel⟩
theorem foldl_max_le : ∀ (l : List Int) (a : Int), a ≤ l.foldl max a ∧ ∀ y ∈ l, y ≤ l.foldl max a
  | [], a => ⟨Int.le_refl a, fun y h => nomatch h⟩
  | x :: r, a => by
    obtain ⟨h1, h2⟩ := foldl_max_le r (max a x)
    refine ⟨Int.le_trans (Int.le_max_left a x) h1, fun y hy => ?_⟩
    rcases List.mem_cons.mp hy with rfl | hy
    · exact Int.le_trans (Int.le_max_right a y) h1
    · exact h2 y hy
theorem nxt_1 (S : StL) : 1 ≤ nxt S := by
  have := (foldl_max_le (S.map (·.1)) 0).1
  unfold nxt
  omega
theorem nxt_gt {S : StL} {s : Int × M4} (h : s ∈ S) : s.1 < nxt S := by
  have := (foldl_max_le (S.map (·.1)) 0).2 s.1 (List.mem_map.mpr ⟨s, h, rfl⟩)
  unfold nxt
  omega
theorem sget_not {S : StL} {i : Int} (h : ∀ s ∈ S, s.1 ≠ i) : sget S i = none := by
  induction S with
  | nil => rfl
  | cons s r ih =>
    show (if s.1 = i then some s.2 else sget r i) = none
    rw [if_neg (h s List.mem_cons_self)]
    exact ih fun z hz => h z (List.mem_cons_of_mem _ hz)
theorem rise_snoc {S : StL} {i : Int} {x : M4} (u : (S.map (·.1)).Pairwise (· < ·)) (h : ∀ s ∈ S, s.1 < i) : ((S ++ [(i, x)]).map (·.1)).Pairwise (· < ·) := by
  rw [List.map_append, List.pairwise_append]
  refine ⟨u, List.pairwise_singleton _ _, fun a ha b hb => ?_⟩
  obtain ⟨s, hs, rfl⟩ := List.mem_map.mp ha
  rw [List.mem_singleton.mp hb]
  exact h s hs
theorem RoW.snoc {n : Int} {S : StL} {i : Int} {x : M4} (h : RoW n S) (hi : ∀ s ∈ S, s.1 < i) (i1 : 1 ≤ i) (hl : S.length < 24) (hx : Mok n x) : RoW n (S ++ [(i, x)]) :=
  ⟨h.n0, h.n1, rise_snoc h.up hi, fun s hs => by
    rcases List.mem_append.mp hs with z | z
    · exact h.low s z
    · rw [List.mem_singleton.mp z]
      exact i1, by rw [List.length_append]; exact hl, fun s hs => by
    rcases List.mem_append.mp hs with z | z
    · exact h.ok s z
    · rw [List.mem_singleton.mp z]
      exact hx⟩
def spTold (C5 : Addr) : Sp := fun vs H Q _ => ∃ (g st : Addr) (n : Int) (S : StL) (k : V) (c : Int), vs = [.ref g] ∧ RoAt C5 H g st n S k c ∧ (S.map (·.1)).Pairwise (· < ·) ∧ S.length < 60 ∧
  ∀ (H' : Hp) (L : Addr) (ts : List Addr), Same H H' → H L = none → H' L = some (.lst (ts.map V.ref)) → Mts H' ts (S.map (·.2)) → Q (.ref L) H'
def spMatings (C5 : Addr) : Sp := fun vs H Q _ => ∃ (g st : Addr) (n : Int) (S : StL) (k : V) (c : Int), vs = [.ref g] ∧ RoAt C5 H g st n S k c ∧ (S.map (·.1)).Pairwise (· < ·) ∧ S.length < 60 ∧
  ∀ (H' : Hp) (r : Addr) (us : List Addr), Same H H' → H r = none → H' r = some (.lst (us.map V.ref)) → Ls H' us S → Q (.ref r) H'
def spMateAs (C5 : Addr) : Sp := fun vs H Q _ => ∃ (g st t : Addr) (n i : Int) (S : StL) (k : V) (c : Int) (x : M4), vs = [.ref g, .int i, .ref t] ∧ RoAt C5 H g st n S k c ∧ RoW n S ∧ S.length < 24 ∧ H t = some (t4 x) ∧ Mok n x ∧ (∀ s ∈ S, s.1 < i) ∧
  ∀ (H' : Hp) (st' : Addr), RoAt C5 H' g st' n (S ++ [(i, x)]) .non c → Keep g H H' → H st' = none → Q .non H'
def spMate (C5 : Addr) : Sp := fun vs H Q _ => ∃ (g st : Addr) (n : Int) (S : StL) (k : V) (c : Int) (x : M4), vs = [.ref g, .int x.1, .int x.2.1, .int x.2.2.1, .int x.2.2.2] ∧ RoAt C5 H g st n S k c ∧ RoW n S ∧ S.length < 24 ∧ Mok n x ∧
  ∀ (H' : Hp) (st' : Addr), RoAt C5 H' g st' n (S ++ [(nxt S, x)]) .non c → Keep g H H' → H st' = none → Q (.int (nxt S)) H'
section
variable {P : Program} {w : World} {K : PySem.W.Frag} {mg : Str → Option Value} {base : Heap} {C5 : Addr}
theorem ok_RoMatings {f : Addr} {fd : FuncData} (F : Fun K "matings" "Road.matings" s_Ro_matings f fd) (TRo_ : RoT K mg C5) (B : Bn mg) : FnOk P w K mg base CX0 1 f fd P_Ro_matings (spMatings C5) := by
  refine F.ok sc_Ro_matings (fun vs H Q E h => ?_) (fun cdv A outer s H vs Q E hr h => ?_)
  · obtain ⟨g, st, n, S, k, c, rfl, _⟩ := h
    rfl
  · obtain ⟨g, st, n, S, k, c, rfl, fa, up, hlen, qq⟩ := h
    have hu := hu_of hr
    refine ⟨_, (pss_one (ps_ret (pe_lc (own := [("number", 1)]) (g := gName 1) (by rfl) sc_Ro_matings.nd (pi_list (pe_callB (call_sortedDI rfl) (by rfl) B.sorted (by decide +kernel) (pa_cons (pe_fld (pv 0) rfl) pa_nil))) (blkOk_by (own := [("number", 1)]) (N := N_Ro_matings) (sc := defScope s_Ro_matings) (by decide +kernel)) (fun _ _ _ _ _ => (pg_name (i := 1) sc_Ro_matings.nd rfl (.inl rfl))) (fun _ _ _ _ _ => pts_nil) (fun _ _ _ _ _ => (pe_tup (pa_cons (pv 1) (pa_cons (pe_dget hu (pe_fldK (K := K) rfl (pv 0) rfl) (pv 1) (fun _ _ => rfl)) pa_nil))))))), ?_⟩
    obtain ⟨⟨dx, ea⟩, kvs, es, sd⟩ := id fa
    refine ⟨.ref g, rfl, g, C5, dx, _, .ref st, rfl, ea, TRo_.cl, TRo_.nS, rfl, st, kvs, S.map (·.1), rfl, .inl es, sd.keys, by rw [List.length_map]; omega, fun ys p py so np => ?_⟩
    have ey := perm_sorted py so up
    subst ey
    refine ⟨p, rfl, ⟨_, SqL.of upd_same⟩, fun L nL => lc_list (K := K) (a := p) (xs := (S.map (·.1)).map V.int) (fun i H2 => ∃ us, Same (upd H p (.lst ((S.map (·.1)).map V.int))) H2 ∧ H2 L = some (.lst (us.map V.ref)) ∧ Ls H2 us (S.take i))
      ⟨[], same_upd nL, upd_same, .nil⟩ (fun i H2 _ ⟨_, sm, _⟩ => SqL.of (sm _ _ upd_same)) ?_ ?_⟩
    · rintro i x H2 hx ⟨us, sm, e2, ls⟩
      rw [List.map_map, List.getElem?_map] at hx
      obtain ⟨z, hz, rfl⟩ := Option.map_eq_some_iff.mp hx
      have sm2 : Same H H2 := (same_upd np).trans sm
      obtain ⟨⟨dx2, ea2⟩, kvs2, es2, sd2⟩ := fa.same sm2
      obtain ⟨t, gt, _, ht⟩ := sd2.dget es2 (sget_mem up (List.mem_of_getElem? hz))
      have hl := ls.length
      have hi : i < S.length := (List.getElem?_eq_some_iff.mp hz).1
      rw [List.length_take] at hl
      refine ⟨rfl, .int z.1, rfl, .ref g, rfl, g, C5, dx2, _, .ref st, rfl, ea2, TRo_.cl, TRo_.nS, rfl, .int z.1, rfl, st, .ref t, rfl, gt, by show 2 ≤ sizeLine; decide, fun u nu => ?_⟩
      refine ⟨us.map V.ref, same_upd nu _ _ e2, sz_lt (by rw [List.length_map]; omega), us ++ [u], fun b o' hb => ?_, by rw [upd_same, List.map_append]; rfl, ?_⟩
      · rw [upd_ne (ne_of_none hb nL)]
        exact same_upd nu _ _ (sm _ _ hb)
      · have kt : ∀ {b : Addr} {xs : List V}, H2 b = some (.tup xs) → (upd (upd H2 u (.tup [.int z.1, .ref t])) L (.lst (us.map V.ref ++ [.ref u]))) b = some (.tup xs) := fun hb => by
          rw [upd_ne (ne_of hb e2 (fun z => by cases z))]
          exact same_upd nu _ _ hb
        rw [List.take_add_one, hz]
        refine Ls.snoc ⟨t, ?_, kt ht⟩ (ls.keep fun b xs hb => kt hb)
        rw [upd_ne (ne_of_none e2 nu).symm]
        exact upd_same
    · rintro H2 ⟨us, sm, e2, ls⟩
      rw [List.length_map, List.length_map, List.take_length] at ls
      exact qq H2 L us ((same_upd np).trans sm) ((same_upd np).free nL) e2 ls
theorem ok_RoTold {f : Addr} {fd : FuncData} (F : Fun K "told" "Road.told" s_Ro_told f fd) (TRo_ : RoT K mg C5) (B : Bn mg) : FnOk P w K mg base CX0 1 f fd P_Ro_told (spTold C5) := by
  refine F.ok sc_Ro_told (fun vs H Q E h => ?_) (fun cdv A outer s H vs Q E hr h => ?_)
  · obtain ⟨g, st, n, S, k, c, rfl, _⟩ := h
    rfl
  · obtain ⟨g, st, n, S, k, c, rfl, fa, up, hlen, qq⟩ := h
    have hu := hu_of hr
    refine ⟨_, (pss_one (ps_ret (pe_lc (own := [("number", 1)]) (g := gName 1) (by rfl) sc_Ro_told.nd (pi_list (pe_callB (call_sortedDI rfl) (by rfl) B.sorted (by decide +kernel) (pa_cons (pe_fld (pv 0) rfl) pa_nil))) (blkOk_by (own := [("number", 1)]) (N := N_Ro_told) (sc := defScope s_Ro_told) (by decide +kernel)) (fun _ _ _ _ _ => (pg_name (i := 1) sc_Ro_told.nd rfl (.inl rfl))) (fun _ _ _ _ _ => pts_nil) (fun _ _ _ _ _ => (pe_dget hu (pe_fldK (K := K) rfl (pv 0) rfl) (pv 1) (fun _ _ => rfl)))))), ?_⟩
    obtain ⟨⟨dx, ea⟩, kvs, es, sd⟩ := id fa
    refine ⟨.ref g, rfl, g, C5, dx, _, .ref st, rfl, ea, TRo_.cl, TRo_.nS, rfl, st, kvs, S.map (·.1), rfl, .inl es, sd.keys, by rw [List.length_map]; omega, fun ys p py so np => ?_⟩
    have ey := perm_sorted py so up
    subst ey
    refine ⟨p, rfl, ⟨_, SqL.of upd_same⟩, fun L nL => lc_list (K := K) (a := p) (xs := (S.map (·.1)).map V.int) (fun i H2 => ∃ ts, Same (upd H p (.lst ((S.map (·.1)).map V.int))) H2 ∧ H2 L = some (.lst (ts.map V.ref)) ∧ Mts H2 ts ((S.take i).map (·.2)))
      ⟨[], same_upd nL, upd_same, .nil⟩ (fun i H2 _ ⟨_, sm, _⟩ => SqL.of (sm _ _ upd_same)) ?_ ?_⟩
    · rintro i x H2 hx ⟨ts, sm, e2, ls⟩
      rw [List.map_map, List.getElem?_map] at hx
      obtain ⟨z, hz, rfl⟩ := Option.map_eq_some_iff.mp hx
      have sm2 : Same H H2 := (same_upd np).trans sm
      obtain ⟨⟨dx2, ea2⟩, kvs2, es2, sd2⟩ := fa.same sm2
      obtain ⟨t, gt, _, ht⟩ := sd2.dget es2 (sget_mem up (List.mem_of_getElem? hz))
      have hl := ls.length
      have hi : i < S.length := (List.getElem?_eq_some_iff.mp hz).1
      rw [List.length_map, List.length_take] at hl
      refine ⟨rfl, .ref g, rfl, g, C5, dx2, _, .ref st, rfl, ea2, TRo_.cl, TRo_.nS, rfl, .int z.1, rfl, st, .ref t, rfl, gt, ?_⟩
      refine ⟨ts.map V.ref, e2, sz_lt (by rw [List.length_map]; omega), ts ++ [t], fun b o' hb => ?_, by rw [upd_same, List.map_append]; rfl, ?_⟩
      · rw [upd_ne (ne_of_none hb nL)]
        exact sm _ _ hb
      · have kt : KeepT H2 (upd H2 L (.lst (ts.map V.ref ++ [.ref t]))) := fun b xs hb => by
          rw [upd_ne (ne_of hb e2 (fun z => by cases z))]
          exact hb
        rw [List.take_add_one, hz, List.map_append]
        exact Mts.snoc (kt _ _ ht) (ls.keep kt)
    · rintro H2 ⟨ts, sm, e2, ls⟩
      rw [List.length_map, List.length_map, List.take_length] at ls
      exact qq H2 L ts ((same_upd np).trans sm) ((same_upd np).free nL) e2 ls
theorem ok_MateAs {f fB fM fI : Addr} {fd fdB fdM fdI : FuncData} {tok : Tok} (F : Fun K "mate_as" "Road.mate_as" s_Ro_mate_as f fd) (TRo_ : RoT K mg C5) (M_Ro_become : Meth K C5 "become" fB) (G_Ro_become : FnOk P w K mg base CX0 1 fB fdB P_Ro_become (spBecome C5)) (b_Ro_become : Binds K fdB P_Ro_become [])
    (D_need_mating : DefAt K mg "need_mating" s_need_mating P_need_mating fM fdM) (D_is_mating : DefAt K mg "is_mating" s_is_mating P_is_mating fI fdI) (g_MOST : mg "MOST" = some (.int 24 tok)) (B : Bn mg) : FnOk P w K mg base CX0 3 f fd P_Ro_mate_as (spMateAs C5) := by
  refine F.ok sc_Ro_mate_as (fun vs H Q E h => ?_) (fun cdv A outer s H vs Q E hr h => ?_)
  · obtain ⟨g, st, t, n, i, S, k, c, x, rfl, _⟩ := h
    rfl
  · obtain ⟨g, st, t, n, i, S, k, c, x, rfl, fa, wf, hlen, ht, hx, hi, qq⟩ := h
    have G_need_mating : FnOk P w K mg base CX0 2 fM fdM P_need_mating (spNeed1 n) := ok_need1 D_need_mating D_is_mating wf.n0 wf.n1 B
    refine ⟨_, (pss_cons (ps_expr (pe_call G_need_mating (hr.mono (by omega)) (by rfl) D_need_mating.g D_need_mating.F.kp D_need_mating.b .nil pass0 (pa_cons (pe_fld (pv 0) rfl) (pa_cons (pv 2) pa_nil))))
      (pss_cons (ps_if (pt_cmpR op_ge (pe_callB call_lenDk (by rfl) B.len (by decide +kernel) (pa_cons (pe_fld (pv 0) rfl) pa_nil)) (pe_glob (v := .int _) (by rfl) g_MOST ⟨_, rfl⟩) (nomark _)) (pss_one ps_never) pss_nil)
      (pss_one (ps_expr (pe_meth (pv 0) TRo_.cl M_Ro_become G_Ro_become (hr.mono (by omega)) b_Ro_become .nil pass0 (pa_cons (pe_fld (pv 0) rfl) (pa_cons (DStar.pe_dstar (pe_fld (pv 0) rfl) (pv 1) (pv 2)) pa_nil))))))), ?_⟩
    obtain ⟨⟨dx, ea⟩, kvs, es, sd⟩ := id fa
    refine ⟨.ref g, rfl, g, C5, dx, _, .int n, rfl, ea, TRo_.cl, TRo_.nE, rfl, .ref t, rfl, t, x, rfl, ht, hx, fun H1 s1 => ?_⟩
    obtain ⟨⟨dx1, ea1⟩, kvs1, es1, sd1⟩ := fa.same s1
    have el := sd1.length
    refine ⟨.ref g, rfl, g, C5, dx1, _, .ref st, rfl, ea1, TRo_.cl, TRo_.nS, rfl, st, kvs1, rfl, es1, ?_⟩
    refine ⟨(kvs1.length : Int), 24, rfl, rfl, _, rfl, ite2 (fun h => absurd (of_decide_eq_true h) (by omega)) (fun _ => ?_)⟩
    refine ⟨.ref g, rfl, g, dx1, _, rfl, ea1, rfl, .ref g, rfl, g, C5, dx1, _, .int n, rfl, ea1, TRo_.cl, TRo_.nE, rfl, fun D nD => ?_⟩
    have s2 := same_upd (H := H1) (o := .dK []) nD
    have nst : st ≠ D := ne_of_none es1 nD
    refine ⟨.ref g, rfl, g, C5, dx1, _, .ref st, rfl, s2 _ _ ea1, TRo_.cl, TRo_.nS, rfl, st, kvs1, rfl, nst, s2 _ _ es1, upd_same, sz_lt (by omega), fun Bx nB => ?_⟩
    have nBD : Bx ≠ D := fun z => by
      rw [z, upd_same] at nB
      cases nB
    have nB1 : H1 Bx = none := by
      rw [upd_ne nBD, upd_ne nBD] at nB
      exact nB
    refine ⟨.int i, rfl, .ref t, rfl, Sum.inl i, .ref t, rfl, ?_, upd_same, ?_⟩
    · rw [upd_ne nBD.symm]
      exact upd_same
    have s4 : Same H1 (upd (upd (upd (upd (upd H1 D (.dK [])) D (.dK kvs1)) Bx (.dK [])) Bx (.dK [(Sum.inl i, .ref t)])) D (.dK (putK kvs1 (Sum.inl i) (.ref t)))) := fun b o hb => by
      have n1 := ne_of_none hb nD
      have n2 := ne_of_none hb nB1
      rw [upd_ne n1, upd_ne n2, upd_ne n2, upd_ne n1, upd_ne n1]
      exact hb
    have e4 : (upd (upd (upd (upd (upd H1 D (.dK [])) D (.dK kvs1)) Bx (.dK [])) Bx (.dK [(Sum.inl i, .ref t)])) D (.dK (putK kvs1 (Sum.inl i) (.ref t)))) D = some (.dK (putK kvs1 (Sum.inl i) (.ref t))) := upd_same
    generalize upd (upd (upd (upd (upd H1 D (.dK [])) D (.dK kvs1)) Bx (.dK [])) Bx (.dK [(Sum.inl i, .ref t)])) D (.dK (putK kvs1 (Sum.inl i) (.ref t))) = H4 at s4 e4
    have hno : valV kvs1 (Sum.inl i) = none := (sd1.get i).1 (sget_not fun s hs => by have := hi s hs; omega)
    rw [putK_new _ hno] at e4
    have sdN : Std H4 (kvs1 ++ [(Sum.inl i, .ref t)]) (S ++ [(i, x)]) := Std.snoc ⟨rfl, t, rfl, s4 _ _ (s1 _ _ ht)⟩ (sd1.keep fun b xs hb => s4 _ _ hb)
    refine ⟨g, st, D, dx1, n, n, S, S ++ [(i, x)], k, c, kvs1, _, rfl, s4 _ _ ea1, s4 _ _ es1, sd1.keep fun b xs hb => s4 _ _ hb, e4, sdN, wf.up, rise_snoc wf.up hi, fun H5 e5 k5 => ?_⟩
    rw [if_neg (fun z => by have := congrArg List.length z.2; rw [List.length_append] at this; simp at this)] at e5
    have nDg : D ≠ g := (ne_of_none ea1 nD).symm
    exact qq H5 D ⟨⟨dx1, e5⟩, _, k5 _ _ nDg e4, sdN.keep fun b xs hb => k5 _ _ (ne_of hb (s4 _ _ ea1) (fun z => by cases z)) hb⟩ (fun b o nb hb => k5 _ _ nb (s4 _ _ (s1 _ _ hb))) (s1.free nD)
theorem ok_Mate {f fN fA : Addr} {fd fdN fdA : FuncData} {dvs : List V} {kws : List (Str × V)} (F : FunD K "mate" "Road.mate" (defArgs s_Ro_mate) (defBody s_Ro_mate) (defScope s_Ro_mate) dvs kws f fd) (TRo_ : RoT K mg C5) (M_Ro_next_number : Meth K C5 "next_number" fN) (G_Ro_next_number : FnOk P w K mg base CX0 1 fN fdN P_Ro_next_number (spNext C5)) (b_Ro_next_number : Binds K fdN P_Ro_next_number [])
    (M_Ro_mate_as : Meth K C5 "mate_as" fA) (G_Ro_mate_as : FnOk P w K mg base CX0 3 fA fdA P_Ro_mate_as (spMateAs C5)) (b_Ro_mate_as : Binds K fdA P_Ro_mate_as []) : FnOk P w K mg base CX0 4 f fd P_Ro_mate (spMate C5) := by
  refine F.ok sc_Ro_mate (fun vs H Q E h => ?_) (fun cdv A outer s H vs Q E hr h => ?_)
  · obtain ⟨g, st, n, S, k, c, x, rfl, _⟩ := h
    rfl
  · obtain ⟨g, st, n, S, k, c, x, rfl, fa, wf, hlen, hx, qq⟩ := h
    suffices hh : ∃ t, PSs (cxOf CX0 P w K mg base N_Ro_mate "Road.mate" (defScope s_Ro_mate) f cdv A outer s H E).nox (defBody s_Ro_mate) t ∧ t { nx := fun _ H' => Q .non H', rt := Q } (L2.start N_Ro_mate [.ref g, .int x.1, .int x.2.1, .int x.2.2.1, .int x.2.2.2]) H by
      obtain ⟨t, h1, h2⟩ := hh
      exact ⟨t, h1.nox, h2⟩
    refine ⟨_, (pss_cons (ps_set (i := 5) sc_Ro_mate.nd rfl (.inl rfl) (pe_meth0 (pv 0) TRo_.cl M_Ro_next_number G_Ro_next_number (hr.mono (by omega)) b_Ro_next_number .nil pass0))
      (pss_cons (ps_expr (pe_meth (pv 0) TRo_.cl M_Ro_mate_as G_Ro_mate_as (hr.mono (by omega)) b_Ro_mate_as .nil pass0 (pa_cons (pv 5) (pa_cons (pe_tup (pa_cons (pv 1) (pa_cons (pv 2) (pa_cons (pv 3) (pa_cons (pv 4) pa_nil))))) pa_nil))))
      (pss_one (ps_ret (pv 5))))), ?_⟩
    obtain ⟨dx, ea⟩ := fa.at_g
    refine ⟨.ref g, rfl, g, dx, _, rfl, ea, rfl, g, st, n, S, k, c, rfl, fa, by omega, wf.low, fun H1 s1 => ?_⟩
    refine ⟨.ref g, rfl, g, dx, _, rfl, s1 _ _ ea, rfl, .int (nxt S), rfl, .int x.1, rfl, .int x.2.1, rfl, .int x.2.2.1, rfl, .int x.2.2.2, rfl, by show 4 ≤ sizeLine; decide, fun t nt => ?_⟩
    have s2 := same_upd (H := H1) (o := t4 x) nt
    have s12 := s1.trans s2
    refine ⟨g, st, t, n, nxt S, S, k, c, x, rfl, fa.same s12, wf, hlen, upd_same, hx, fun s hs => nxt_gt hs, fun H3 st' fa3 k3 n3 => ?_⟩
    exact ⟨.int (nxt S), rfl, qq H3 st' fa3 (fun b o nb hb => k3 _ _ nb (s12 _ _ hb)) (s12.free n3)⟩
end

/-! ### a road: strike -/
abbrev s_Ro_strike : Stmt := inClass (top 65) 6
abbrev N_Ro_strike : List Str := ["self", "number", "k"]
abbrev P_Ro_strike : List Str := ["self", "number"]
theorem sc_Ro_strike : FnScope N_Ro_strike P_Ro_strike (defScope s_Ro_strike) := ⟨rfl, rfl, rfl, by decide +kernel, rfl, by decide +kernel, by decide +kernel⟩
/-- a dict displayed by a walk -/
theorem dc_it {J : It} {n : Nat} {G : Hp → Prop} {Y : Nat → Hp → V → Hp → Prop} (w : Walk J n G Y) {g : TG} {tt : TT} {tk tv : TE} {vs : List Nat} {σ : L2.St} {H1 : Hp} {D : Addr} {Qd : Hp → Prop} (Pv : Nat → Hp → Prop) (h0 : Pv 0 (upd H1 D (.dK []))) (hG : ∀ i H, i ≤ n → Pv i H → G H)
    (hs : ∀ i x H H', i < n → Pv i H → Y i H x H' → g x (wipe σ vs) H' fun σ2 H2 => wipe σ2 vs = wipe σ vs ∧ tt σ2 H2 fun b H3 =>
      if b = true then tk σ2 H3 fun y H4 => tv σ2 H4 fun z H5 => ∃ kvs k, y = kV k ∧ H5 D = some (.dK kvs) ∧ kvs.length < sizeLine ∧ Pv (i + 1) (upd H5 D (.dK (putK kvs k z))) else Pv (i + 1) H3) (hd : ∀ H, Pv n H → Qd H) :
    ∃ W : Nat → Nat → Hp → Prop, (∃ m, W 0 m (upd H1 D (.dK []))) ∧ ∀ i m H, W i m H →
      (J.stop i H ∧ Qd H) ∨ (J.go i H ∧ ∃ Nx : Hp → Prop, (∀ H', Nx H' → ∃ m', m' < m ∧ W (i + 1) m' H') ∧ ∀ x H', J.yld i H x H' → g x (wipe σ vs) H' fun σ2 H2 => wipe σ2 vs = wipe σ vs ∧ tt σ2 H2 fun b H3 =>
        if b = true then tk σ2 H3 fun y H4 => tv σ2 H4 fun z H5 => ∃ kvs k, y = kV k ∧ H5 D = some (.dK kvs) ∧ kvs.length < sizeLine ∧ Nx (upd H5 D (.dK (putK kvs k z))) else Nx H3) := by
  refine ⟨fun i m H => m = n - i ∧ i ≤ n ∧ Pv i H, ⟨n, by simp, Nat.zero_le _, h0⟩, ?_⟩
  rintro i m H ⟨rfl, hi, p⟩
  have q := hG i H hi p
  by_cases hlt : i < n
  · refine .inr ⟨w.goes i H hlt q, Pv (i + 1), fun H' p' => ⟨n - (i + 1), by omega, rfl, hlt, p'⟩, fun x H' y => hs i x H H' hlt p (w.yields i H x H' hlt q y)⟩
  · have e : i = n := by omega
    subst e
    exact .inl ⟨w.stops H q, hd H p⟩
def spStrike (C5 : Addr) : Sp := fun vs H Q _ => ∃ (g st : Addr) (n i : Int) (S : StL) (k : V) (c : Int) (x : M4), vs = [.ref g, .int i] ∧ RoAt C5 H g st n S k c ∧ (S.map (·.1)).Pairwise (· < ·) ∧ S.length < 60 ∧ sget S i = some x ∧
  ∀ (H' : Hp) (st' : Addr), RoAt C5 H' g st' n (sdrop S i) .non c → Keep g H H' → H st' = none → Q .non H'
theorem sdrop_less {S : StL} {i : Int} {x : M4} (h : sget S i = some x) : (sdrop S i).length < S.length := by
  have hm := sget_in h
  have := List.length_filter_lt_length_iff_exists (l := S) (p := fun s => decide (s.1 ≠ i))
  exact this.mpr ⟨_, hm, by simp⟩
section
variable {P : Program} {w : World} {K : PySem.W.Frag} {mg : Str → Option Value} {base : Heap} {C5 : Addr}
theorem ok_Strike {f fB : Addr} {fd fdB : FuncData} (F : Fun K "strike" "Road.strike" s_Ro_strike f fd) (TRo_ : RoT K mg C5) (M_Ro_become : Meth K C5 "become" fB) (G_Ro_become : FnOk P w K mg base CX0 1 fB fdB P_Ro_become (spBecome C5)) (b_Ro_become : Binds K fdB P_Ro_become []) (B : Bn mg) : FnOk P w K mg base CX0 2 f fd P_Ro_strike (spStrike C5) := by
  refine F.ok sc_Ro_strike (fun vs H Q E h => ?_) (fun cdv A outer s H vs Q E hr h => ?_)
  · obtain ⟨g, st, n, i, S, k, c, x, rfl, _⟩ := h
    rfl
  · obtain ⟨g, st, n, i, S, k, c, x, rfl, fa, up, hlen, hx, qq⟩ := h
    have hu := hu_of hr
    refine ⟨_, (pss_cons (ps_if (PW.pt (pw_or (pt_val (pe_callB call_isi (by rfl) B.isinstance (by decide +kernel) (pa_cons (pv 1) (pa_cons (pe_bltn (v := .ty "bool") (by rfl) B.bool (by decide +kernel) rfl) pa_nil)))) (pw_or1 (pt_cmp (pc_dnotin hu (pv 1) (pe_fld (pv 0) rfl)))))) (pss_one ps_never) pss_nil)
      (pss_one (ps_expr (pe_meth (pv 0) TRo_.cl M_Ro_become G_Ro_become (hr.mono (by omega)) b_Ro_become .nil pass0 (pa_cons (pe_fld (pv 0) rfl) (pa_cons (pe_lock (pe_dc (own := [("k", 2)]) (g := gName 2) (by rfl) sc_Ro_strike.nd (pi_keys (pe_fld (pv 0) rfl)) (blkOk_by (own := [("k", 2)]) (N := N_Ro_strike) (sc := defScope s_Ro_strike) (by decide +kernel)) (fun _ _ _ _ _ => (pg_name (i := 2) sc_Ro_strike.nd rfl (.inl rfl))) (fun _ _ _ _ _ => (pts_one (pt_cmpR op_ne (pv 2) (pv 1) (nomark _)))) (fun _ _ _ _ _ => (pv 2)) (fun _ _ _ _ _ => (pe_dget hu (pe_fldK (K := K) rfl (pv 0) rfl) (pv 2) (fun _ _ => rfl))))) pa_nil)))))), ?_⟩
    obtain ⟨⟨dx, ea⟩, kvs, es, sd⟩ := id fa
    have el := sd.length
    obtain ⟨t, gt, _, ht⟩ := sd.dget es hx
    refine ⟨.int i, rfl, _, _, _, _, false, rfl, ClsV.ty _, TyX.base (TyOf.int _), kit_ty (by decide +kernel), _, rfl, iteF ?_⟩
    have ngs : g ≠ st := fa.ne
    refine ⟨.int i, rfl, .ref g, rfl, g, C5, dx, _, .ref st, rfl, ea, TRo_.cl, TRo_.nS, rfl, st, some (.ref t), rfl, gt, _, rfl, iteF ?_⟩
    have sl : ∀ {od : Obj} {b : Addr} {o : HO}, H b = some o → b ≠ st → (upd H st (.frz od (.dK kvs))) b = some o := fun h n => by rw [upd_ne n]; exact h
    refine ⟨.ref g, rfl, g, dx, _, rfl, ea, rfl, .ref g, rfl, g, C5, dx, _, .int n, rfl, ea, TRo_.cl, TRo_.nE, rfl, st, .dK kvs, es, trivial, fun od => ?_⟩
    refine ⟨.ref g, rfl, g, C5, dx, _, .ref st, rfl, sl ea ngs, TRo_.cl, TRo_.nS, rfl, st, od, rfl, .inl ⟨kvs, upd_same, fun D nD => dc_it walk_keys (fun j H2 => ∃ ks, Same (upd H st (.frz od (.dK kvs))) H2 ∧ H2 D = some (.dK ks) ∧ Std H2 ks (sdrop (S.take j) i))
      ⟨[], same_upd nD, upd_same, .nil⟩ (fun j H2 _ ⟨_, sm, _⟩ => sm _ _ upd_same) ?_ ?_⟩⟩
    · rintro j y H2 H3 hj ⟨ks, sm, eD, s2⟩ ⟨rfl, k0, v2, hk, rfl⟩
      obtain ⟨z, hz, e1, t', e2, e3⟩ := LiI.paired_get sd hk
      have e1' : k0 = Sum.inl z.1 := e1
      subst e1'
      obtain ⟨tt, ht1, ht2⟩ := (sd.get z.1).2 z.2 (sget_mem up (List.mem_of_getElem? hz))
      have ntt : tt ≠ st := ne_of ht2 es (fun z => by cases z)
      have stepE : sdrop (S.take (j + 1)) i = sdrop (S.take j) i ++ (if z.1 ≠ i then [z] else []) := by
        unfold sdrop
        rw [List.take_add_one, hz, List.filter_append]
        congr 1
        show List.filter (fun s => decide (s.1 ≠ i)) [z] = _
        rw [List.filter_cons, List.filter_nil]
        by_cases q : z.1 ≠ i
        · rw [if_pos (decide_eq_true q), if_pos q]
        · rw [if_neg (fun w => q (of_decide_eq_true w)), if_neg q]
      have hlt : ∀ s ∈ S.take j, s.1 < z.1 := fun s hs => by
        have u2 : ((S.take (j + 1)).map (·.1)).Pairwise (· < ·) := up.sublist ((List.take_sublist _ _).map _)
        rw [List.take_add_one, hz, List.map_append, List.pairwise_append] at u2
        exact u2.2.2 _ (List.mem_map.mpr ⟨s, hs, rfl⟩) _ (List.mem_singleton.mpr rfl)
      have l2 := s2.length
      have l3 : (sdrop (S.take j) i).length ≤ (S.take j).length := sdrop_length _ _
      rw [List.length_take] at l3
      refine ⟨rfl, .int z.1, rfl, .int i, rfl, rfl, _, rfl, ?_⟩
      refine ite2 (fun h => ?_) (fun h => ?_)
      · have hne : z.1 ≠ i := fun e => by
          rw [e, decide_eq_true rfl] at h
          cases h
        rw [if_pos hne] at stepE
        refine ⟨.int z.1, rfl, .ref g, rfl, g, C5, dx, _, .ref st, rfl, sm _ _ (sl ea ngs), TRo_.cl, TRo_.nS, rfl, .int z.1, rfl, st, .ref tt, rfl, .inl ⟨kvs, Sum.inl z.1, .inr ⟨od, sm _ _ upd_same⟩, rfl, ht1.symm⟩, ?_⟩
        have hno : valV ks (Sum.inl z.1) = none := (s2.get z.1).1 (sget_not fun s hs => by have := hlt s (List.mem_filter.mp hs).1; omega)
        refine ⟨ks, Sum.inl z.1, rfl, eD, sz_lt (by omega), putK ks (Sum.inl z.1) (.ref tt), fun b o hb => ?_, upd_same, ?_⟩
        · rw [upd_ne (ne_of_none hb nD)]
          exact sm _ _ hb
        · have kt : KeepT H3 (upd H3 D (.dK (putK ks (Sum.inl z.1) (.ref tt)))) := fun b xs hb => by
            rw [upd_ne (ne_of hb eD (fun z => by cases z))]
            exact hb
          rw [stepE]
          show Std _ (putK ks (Sum.inl z.1) (.ref tt)) _
          generalize upd H3 D (.dK (putK ks (Sum.inl z.1) (.ref tt))) = H9 at kt
          rw [putK_new _ hno]
          exact Std.snoc ⟨rfl, tt, rfl, kt _ _ (sm _ _ (sl ht2 ntt))⟩ (s2.keep kt)
      · have he : ¬ z.1 ≠ i := fun e => h (by rw [decide_eq_false (fun q => e (V.int.inj q))]; rfl)
        rw [if_neg he, List.append_nil] at stepE
        exact ⟨ks, sm, eD, by rw [stepE]; exact s2⟩
    · rintro H2 ⟨ks, sm, eD, s2⟩
      rw [el, List.take_length] at s2
      have nDs : D ≠ st := fun z => by
        rw [z, upd_same] at nD
        cases nD
      have nD0 : H D = none := by
        rw [upd_ne nDs] at nD
        exact nD
      have fin : Same H (upd H2 st (.dK kvs)) := fun b o hb => by
        by_cases z : b = st
        · rw [z] at hb ⊢
          rw [es] at hb
          rw [upd_same]
          exact hb
        · rw [upd_ne z]
          exact sm _ _ (sl hb z)
      have kt : KeepT H2 (upd H2 st (.dK kvs)) := fun b xs hb => by
        rw [upd_ne (ne_of hb (sm _ _ upd_same) (fun z => by cases z))]
        exact hb
      have eD2 : (upd H2 st (.dK kvs)) D = some (.dK ks) := by
        rw [upd_ne nDs]
        exact eD
      refine ⟨sm _ _ upd_same, ?_⟩
      refine ⟨g, st, D, dx, n, n, S, sdrop S i, k, c, kvs, ks, rfl, fin _ _ ea, upd_same, sd.keep fun b xs hb => fin _ _ hb, eD2, s2.keep kt, up, sdrop_keys up, fun H5 e5 k5 => ?_⟩
      rw [if_neg (fun z => by have := congrArg List.length z.2; have := sdrop_less hx; omega)] at e5
      have nDg : D ≠ g := (ne_of_none ea nD0).symm
      exact qq H5 D ⟨⟨dx, e5⟩, ks, k5 _ _ nDg eD2, (s2.keep kt).keep fun b xs hb => k5 _ _ (ne_of hb (fin _ _ ea) (fun z => by cases z)) hb⟩ (fun b o nb hb => k5 _ _ nb (fin _ _ hb)) nD0
end

/-! ### a road: trim -/
abbrev s_Ro_trim : Stmt := inClass (top 65) 8
abbrev N_Ro_trim : List Str := ["self", "length", "standing", "number", "mating"]
abbrev P_Ro_trim : List Str := ["self", "length"]
theorem sc_Ro_trim : FnScope N_Ro_trim P_Ro_trim (defScope s_Ro_trim) := ⟨rfl, rfl, rfl, by decide +kernel, rfl, by decide +kernel, by decide +kernel⟩
def clipM (m : Int) (x : M4) : Option M4 := if clipHi x.1 x.2.1 x.2.2.1 x.2.2.2 m ≤ clipLo x.1 x.2.1 x.2.2.1 x.2.2.2 m then none else
  some (clipLo x.1 x.2.1 x.2.2.1 x.2.2.2 m, partP x.1 x.2.1 x.2.2.1 x.2.2.2 (clipLo x.1 x.2.1 x.2.2.1 x.2.2.2 m) (clipHi x.1 x.2.1 x.2.2.1 x.2.2.2 m - clipLo x.1 x.2.1 x.2.2.1 x.2.2.2 m), clipHi x.1 x.2.1 x.2.2.1 x.2.2.2 m - clipLo x.1 x.2.1 x.2.2.1 x.2.2.2 m, x.2.2.2)
def trS (m : Int) (S : StL) : StL := S.filterMap fun s => (clipM m s.2).map fun y => (s.1, y)
theorem clipM_ok {m n : Int} {x y : M4} (hx : Mok n x) (m0 : 0 ≤ m) (h : clipM m x = some y) : Mok m y := by
  obtain ⟨o, p, q, f⟩ := x
  obtain ⟨hf, h1, h2, h3, h4, h5⟩ := hx
  unfold clipM at h
  split at h
  · cases h
  · rename_i hlt
    cases h
    simp only at hf h1 h2 h3 h4 h5 hlt ⊢
    have lo := clip_lo o p q f m
    have hi := clip_hi o p q f m
    generalize hL : clipLo o p q f m = L at *
    generalize hH : clipHi o p q f m = G at *
    have hGm : G ≤ m := by
      rw [← hH]
      unfold clipHi
      split
      · split <;> omega
      · split
        · split at * <;> omega
        · split <;> omega
    refine ⟨hf, by show 1 ≤ G - L; omega, by show 0 ≤ L; omega, ?_, by show L + (G - L) ≤ m; omega, ?_⟩
    · show 0 ≤ partP o p q f L (G - L)
      unfold partP
      split <;> omega
    · show partP o p q f L (G - L) + (G - L) ≤ m
      unfold partP
      rcases hf with rfl | rfl
      · rw [if_neg (by decide)]
        rw [← hH]
        unfold clipHi
        rw [if_neg (by decide)]
        split
        · omega
        · split at * <;> omega
      · rw [if_pos rfl, ← hL]
        unfold clipLo
        rw [if_pos rfl]
        split <;> omega
theorem trS_in {m : Int} {S : StL} {s : Int × M4} (h : s ∈ trS m S) : ∃ t ∈ S, t.1 = s.1 ∧ clipM m t.2 = some s.2 := by
  obtain ⟨t, ht, e⟩ := List.mem_filterMap.mp h
  obtain ⟨y, hy, e2⟩ := Option.map_eq_some_iff.mp e
  exact ⟨t, ht, by rw [← e2], by rw [← e2]; exact hy⟩
theorem trS_up {m : Int} {S : StL} (u : (S.map (·.1)).Pairwise (· < ·)) : ((trS m S).map (·.1)).Pairwise (· < ·) := by
  rw [List.pairwise_map] at u ⊢
  unfold trS
  rw [List.pairwise_filterMap]
  refine u.imp fun {a b} hab x hx y hy => ?_
  obtain ⟨x', _, rfl⟩ := Option.map_eq_some_iff.mp hx
  obtain ⟨y', _, rfl⟩ := Option.map_eq_some_iff.mp hy
  exact hab
theorem RoW.trim {n m : Int} {S : StL} (h : RoW n S) (m0 : 0 ≤ m) (m1 : m ≤ n) : RoW m (trS m S) :=
  ⟨m0, by have := h.n1; omega, trS_up h.up, fun s hs => by
    obtain ⟨t, ht, e, _⟩ := trS_in hs
    rw [← e]
    exact h.low t ht, by have := h.len; have := List.length_filterMap_le (fun s : Int × M4 => (clipM m s.2).map fun y => (s.1, y)) S; unfold trS; omega, fun s hs => by
    obtain ⟨t, ht, _, e⟩ := trS_in hs
    exact clipM_ok (h.ok t ht) m0 e⟩
def spTrim (C5 : Addr) : Sp := fun vs H Q _ => ∃ (g st : Addr) (n m : Int) (S : StL) (k : V) (c : Int), vs = [.ref g, .int m] ∧ RoAt C5 H g st n S k c ∧ RoW n S ∧ 0 ≤ m ∧ m ≤ n ∧
  ∀ (H' : Hp) (st' : Addr), RoAt C5 H' g st' m (trS m S) (if m = n ∧ trS m S = S then k else .non) c → Keep g H H' → H st' = none → Q .non H'
section
variable {P : Program} {w : World} {K : PySem.W.Frag} {mg : Str → Option Value} {base : Heap} {C5 : Addr}
theorem ok_Trim {f fB fW fA fC fP fH : Addr} {fd fdB fdW fdA fdC fdP fdH : FuncData} (F : Fun K "trim" "Road.trim" s_Ro_trim f fd) (TRo_ : RoT K mg C5) (M_Ro_become : Meth K C5 "become" fB) (G_Ro_become : FnOk P w K mg base CX0 1 fB fdB P_Ro_become (spBecome C5)) (b_Ro_become : Binds K fdB P_Ro_become [])
    (D_need_within : DefAt K mg "need_within" s_need_within P_need_within fW fdW) (D_need_from : DefAt K mg "need_from" s_need_from P_need_from fA fdA) (D_clipped : DefAt K mg "clipped" s_clipped P_clipped fC fdC) (D_part : DefAt K mg "part" s_part P_part fP fdP) (D_holds : DefAt K mg "holds" s_holds P_holds fH fdH) (B : Bn mg) : FnOk P w K mg base CX0 4 f fd P_Ro_trim (spTrim C5) := by
  have G_need_within : FnOk P w K mg base CX0 2 fW fdW P_need_within spWithin0 := ok_within0 D_need_within D_need_from B
  have G_clipped : FnOk P w K mg base CX0 3 fC fdC P_clipped spClipped := ok_clipped D_clipped D_part D_holds B
  refine F.ok sc_Ro_trim (fun vs H Q E h => ?_) (fun cdv A outer s H vs Q E hr h => ?_)
  · obtain ⟨g, st, n, m, S, k, c, rfl, _⟩ := h
    rfl
  · obtain ⟨g, st, n, m, S, k, c, rfl, fa, wf, m0, m1, qq⟩ := h
    have hu := hu_of hr
    refine ⟨_, (pss_cons (ps_expr (pe_call G_need_within (hr.mono (by omega)) (by rfl) D_need_within.g D_need_within.F.kp D_need_within.b .nil pass0 (pa_cons pe_int (pa_cons (pe_fld (pv 0) rfl) (pa_cons (pv 1) pa_nil)))))
      (pss_cons (ps_set (i := 2) sc_Ro_trim.nd rfl (.inl rfl) pe_dnewK)
      (pss_cons (ps_for PassesOwn.never rfl (pi_list (pe_callB (call_sortedDI rfl) (by rfl) B.sorted (by decide +kernel) (pa_cons (pe_fld (pv 0) rfl) pa_nil))) (pg_name (i := 3) sc_Ro_trim.nd rfl (.inl rfl)) (pss_cons (ps_set (i := 4) sc_Ro_trim.nd rfl (.inl rfl) (pe_call G_clipped (hr.mono (by omega)) (by rfl) D_clipped.g D_clipped.F.kp D_clipped.b .nil pass0 (pa_cons (pe_dget hu (pe_fld (pv 0) rfl) (pv 3) (fun _ _ => rfl)) (pa_cons (pv 1) pa_nil))))
      (pss_one (ps_if (pt_cmpR op_notN (pv 4) pe_non (nomark _)) (pss_one (ps_dput hu (pv 2) (pv 3) (pv 4) rfl)) pss_nil))))
      (pss_one (ps_expr (pe_meth (pv 0) TRo_.cl M_Ro_become G_Ro_become (hr.mono (by omega)) b_Ro_become .nil pass0 (pa_cons (pv 1) (pa_cons (pv 2) pa_nil)))))))), ?_⟩
    obtain ⟨⟨dx, ea⟩, kvs, es, sd⟩ := id fa
    refine ⟨.ref g, rfl, g, C5, dx, _, .int n, rfl, ea, TRo_.cl, TRo_.nE, rfl, .int m, rfl, 0, n, m, rfl, m0, m1, fun D nD => ?_⟩
    have s1 := same_upd (H := H) (o := .dK []) nD
    have nDg : D ≠ g := (ne_of_none ea nD).symm
    refine ⟨.ref g, rfl, g, C5, dx, _, .ref st, rfl, s1 _ _ ea, TRo_.cl, TRo_.nS, rfl, st, kvs, S.map (·.1), rfl, .inl (s1 _ _ es), sd.keys, by rw [List.length_map]; have := wf.len; omega, fun ys p py so np => ?_⟩
    have ey := perm_sorted py so wf.up
    subst ey
    have s2 := same_upd (H := upd H D (.dK [])) (o := .lst ((S.map (·.1)).map V.int)) np
    have s12 := s1.trans s2
    have eD0 : (upd (upd H D (.dK [])) p (.lst ((S.map (·.1)).map V.int))) D = some (.dK []) := s2 _ _ upd_same
    have ep0 : (upd (upd H D (.dK [])) p (.lst ((S.map (·.1)).map V.int))) p = some (.lst ((S.map (·.1)).map V.int)) := upd_same
    generalize upd (upd H D (.dK [])) p (.lst ((S.map (·.1)).map V.int)) = H1 at s12 eD0 ep0
    refine ⟨p, rfl, ⟨_, SqL.of ep0⟩, for_list (K := K) (a := p) (xs := (S.map (·.1)).map V.int) (fun i σ H2 => ∃ y3 y4 ks, σ = [some (.ref g), some (.int m), some (.ref D), y3, y4] ∧ Same H H2 ∧ H2 p = some (.lst ((S.map (·.1)).map V.int)) ∧ H2 D = some (.dK ks) ∧ Std H2 ks (trS m (S.take i)))
      ⟨none, none, [], rfl, s12, ep0, eD0, .nil⟩ (fun i σ H2 _ ⟨_, _, _, _, _, e, _⟩ => SqL.of e) ?_ ?_⟩
    · rintro i y σ H2 hy ⟨y3, y4, ks, rfl, sm, ep, eD, s3⟩
      rw [List.map_map, List.getElem?_map] at hy
      obtain ⟨z, hz, rfl⟩ := Option.map_eq_some_iff.mp hy
      obtain ⟨⟨dx2, ea2⟩, kvs2, es2, sd2⟩ := fa.same sm
      obtain ⟨t, gt, _, ht⟩ := sd2.dget es2 (sget_mem wf.up (List.mem_of_getElem? hz))
      have hf : z.2.2.2.2 = 0 ∨ z.2.2.2.2 = 1 := (wf.ok z (List.mem_of_getElem? hz)).1
      have stepE : trS m (S.take (i + 1)) = trS m (S.take i) ++ (match clipM m z.2 with | some y => [(z.1, y)] | none => []) := by
        unfold trS
        rw [List.take_add_one, hz, List.filterMap_append]
        congr 1
        show List.filterMap _ [z] = _
        rw [List.filterMap_cons, List.filterMap_nil]
        cases clipM m z.2 <;> rfl
      have l3 := s3.length
      have l4 : (trS m (S.take i)).length ≤ (S.take i).length := List.length_filterMap_le _ _
      rw [List.length_take] at l4
      have hlt : ∀ s ∈ S.take i, s.1 < z.1 := fun s hs => by
        have u2 : ((S.take (i + 1)).map (·.1)).Pairwise (· < ·) := wf.up.sublist ((List.take_sublist _ _).map _)
        rw [List.take_add_one, hz, List.map_append, List.pairwise_append] at u2
        exact u2.2.2 _ (List.mem_map.mpr ⟨s, hs, rfl⟩) _ (List.mem_singleton.mpr rfl)
      refine ⟨.ref g, rfl, g, C5, dx2, _, .ref st, rfl, ea2, TRo_.cl, TRo_.nS, rfl, .int z.1, rfl, st, .ref t, rfl, gt, .int m, rfl, ?_⟩
      refine ⟨t, z.2.1, z.2.2.1, z.2.2.2.1, z.2.2.2.2, m, rfl, ht, hf, fun hle => ?_, fun hgt r nr => ?_⟩
      · have e : clipM m z.2 = none := if_pos hle
        rw [e, List.append_nil] at stepE
        refine ⟨.non, rfl, rfl, _, rfl, iteF ?_⟩
        exact ⟨_, _, ks, rfl, sm, ep, eD, by rw [stepE]; exact s3⟩
      · have e : clipM m z.2 = some (clipLo z.2.1 z.2.2.1 z.2.2.2.1 z.2.2.2.2 m, partP z.2.1 z.2.2.1 z.2.2.2.1 z.2.2.2.2 (clipLo z.2.1 z.2.2.1 z.2.2.2.1 z.2.2.2.2 m) (clipHi z.2.1 z.2.2.1 z.2.2.2.1 z.2.2.2.2 m - clipLo z.2.1 z.2.2.1 z.2.2.2.1 z.2.2.2.2 m), clipHi z.2.1 z.2.2.1 z.2.2.2.1 z.2.2.2.2 m - clipLo z.2.1 z.2.2.1 z.2.2.2.1 z.2.2.2.2 m, z.2.2.2.2) := if_neg (by omega)
        rw [e] at stepE
        have sr := same_upd (H := H2) (o := tup4 (clipLo z.2.1 z.2.2.1 z.2.2.2.1 z.2.2.2.2 m) (partP z.2.1 z.2.2.1 z.2.2.2.1 z.2.2.2.2 (clipLo z.2.1 z.2.2.1 z.2.2.2.1 z.2.2.2.2 m) (clipHi z.2.1 z.2.2.1 z.2.2.2.1 z.2.2.2.2 m - clipLo z.2.1 z.2.2.1 z.2.2.2.1 z.2.2.2.2 m)) (clipHi z.2.1 z.2.2.1 z.2.2.2.1 z.2.2.2.2 m - clipLo z.2.1 z.2.2.1 z.2.2.2.1 z.2.2.2.2 m) z.2.2.2.2) nr
        have er : (upd H2 r (tup4 (clipLo z.2.1 z.2.2.1 z.2.2.2.1 z.2.2.2.2 m) (partP z.2.1 z.2.2.1 z.2.2.2.1 z.2.2.2.2 (clipLo z.2.1 z.2.2.1 z.2.2.2.1 z.2.2.2.2 m) (clipHi z.2.1 z.2.2.1 z.2.2.2.1 z.2.2.2.2 m - clipLo z.2.1 z.2.2.1 z.2.2.2.1 z.2.2.2.2 m)) (clipHi z.2.1 z.2.2.1 z.2.2.2.1 z.2.2.2.2 m - clipLo z.2.1 z.2.2.1 z.2.2.2.1 z.2.2.2.2 m) z.2.2.2.2)) r = some (tup4 (clipLo z.2.1 z.2.2.1 z.2.2.2.1 z.2.2.2.2 m) (partP z.2.1 z.2.2.1 z.2.2.2.1 z.2.2.2.2 (clipLo z.2.1 z.2.2.1 z.2.2.2.1 z.2.2.2.2 m) (clipHi z.2.1 z.2.2.1 z.2.2.2.1 z.2.2.2.2 m - clipLo z.2.1 z.2.2.1 z.2.2.2.1 z.2.2.2.2 m)) (clipHi z.2.1 z.2.2.1 z.2.2.2.1 z.2.2.2.2 m - clipLo z.2.1 z.2.2.1 z.2.2.2.1 z.2.2.2.2 m) z.2.2.2.2) := upd_same
        generalize upd H2 r (tup4 (clipLo z.2.1 z.2.2.1 z.2.2.2.1 z.2.2.2.2 m) (partP z.2.1 z.2.2.1 z.2.2.2.1 z.2.2.2.2 (clipLo z.2.1 z.2.2.1 z.2.2.2.1 z.2.2.2.2 m) (clipHi z.2.1 z.2.2.1 z.2.2.2.1 z.2.2.2.2 m - clipLo z.2.1 z.2.2.1 z.2.2.2.1 z.2.2.2.2 m)) (clipHi z.2.1 z.2.2.1 z.2.2.2.1 z.2.2.2.2 m - clipLo z.2.1 z.2.2.1 z.2.2.2.1 z.2.2.2.2 m) z.2.2.2.2) = H3 at sr er
        have eD3 := sr _ _ eD
        have hno : valV ks (Sum.inl z.1) = none := (s3.get z.1).1 (sget_not fun s hs => by
          obtain ⟨s', hs', e', _⟩ := trS_in hs
          have := hlt s' hs'
          omega)
        have kt : KeepT H3 (upd H3 D (.dK (putK ks (Sum.inl z.1) (.ref r)))) := fun b xs hb => by
          rw [upd_ne (ne_of hb eD3 (fun z => by cases z))]
          exact hb
        refine ⟨.ref r, rfl, rfl, _, rfl, iteT ?_⟩
        refine ⟨.ref r, rfl, .ref D, rfl, .int z.1, rfl, D, _, rfl, DPut.k (k := Sum.inl z.1) eD3 (sz_lt (by have := wf.len; omega)), _, _, _, rfl, fun b o hb => ?_, ?_, upd_same, ?_⟩
        · rw [upd_ne (ne_of_none hb nD)]
          exact sr _ _ (sm _ _ hb)
        · rw [upd_ne (ne_of ep eD (fun z => by cases z))]
          exact sr _ _ ep
        · simp only at stepE
          rw [stepE]
          generalize upd H3 D (.dK (putK ks (Sum.inl z.1) (.ref r))) = H9 at kt
          rw [putK_new _ hno]
          refine Std.snoc ?_ ((s3.keep fun b xs hb => sr _ _ hb).keep kt)
          exact ⟨rfl, r, rfl, kt _ _ er⟩
    · rintro σ H2 ⟨y3, y4, ks, rfl, sm, ep, eD, s3⟩
      rw [List.length_map, List.length_map, List.take_length] at s3
      obtain ⟨⟨dx2, ea2⟩, kvs2, es2, sd2⟩ := fa.same sm
      refine ⟨.ref g, rfl, g, dx2, _, rfl, ea2, rfl, .int m, rfl, .ref D, rfl, ?_⟩
      refine ⟨g, st, D, dx2, n, m, S, trS m S, k, c, kvs2, ks, rfl, ea2, es2, sd2, eD, s3, wf.up, trS_up wf.up, fun H5 e5 k5 => ?_⟩
      exact qq H5 D ⟨⟨dx2, e5⟩, ks, k5 _ _ nDg eD, s3.keep fun b xs hb => k5 _ _ (ne_of hb ea2 (fun z => by cases z)) hb⟩ (fun b o nb hb => k5 _ _ nb (sm _ _ hb)) nD
end

/-! ### try, the first of several named clauses takes the error -/
section
open PySem.Spec PyProof.Rows
def wFirst (K : PySem.W.Frag) (c : Value) (i : Nat) (ts : Addr → Value → Option Addr → TS) (D : Ends) : WX := fun k dd τ G =>
  PySem.W.exmOne K k c = some true ∧ ∀ z, G z = none → ts z k dd ⟨fun τ' G' => D.nx (τ'.set i none) G', D.rt, fun τ' G' => D.bk (τ'.set i none) G', fun τ' G' => D.ct (τ'.set i none) G'⟩ (τ.set i (some (.ref z))) G
variable {X : Cx}
theorem ps_try_first {x n : Str} {c : Value} {i : Nat} {bd su : List Stmt} {s0 : Stmt} {np q1 q2 : Pos} {more : List ExceptHandler} {tb : WX → TS} {ts : Addr → Value → Option Addr → TS}
    (stk : X.stack = X.env :: X.outer) (frm : X.env.frame = some X.env.locals) (nod : X.N.Nodup) (slot : X.N[i]? = some n) (loc : X.env.kindOf n = some .local) (nam : Names X x c)
    (run : ∀ (W : WX) (pn : List (Addr × Obj)) (xe : Value → Shared → Prop), L2.Takes (X.tr pn xe) W → PassesOwn (model X.prog X.w) X.A X.env xe → PSs (X.tr pn xe) bd (tb W))
    (sui : ∀ (z : Addr) (oz : Obj) (k : Value) (dd : Option Addr) (pn : List (Addr × Obj)), Zc k dd oz → (∃ vs, oz.data = .fields vs) → PSs (X.suite z ((z, oz) :: pn)) (s0 :: su) (ts z k dd)) :
    PS X (.Try bd (.ExceptHandler (some (.Name x np)) (some n) (s0 :: su) q2 :: more) [] [] q1) (fun D τ G => tb (wFirst X.K c i ts D) D τ G) := by
  refine ⟨fun pins st τ G D I want => ?_⟩
  have okX := I.ok
  have frames : X.A.frames = some (X.env :: X.outer) := (okX.frames).trans (congrArg some stk)
  refine wpAny_Try_except (wpAny_mono ((run (wFirst X.K c i ts D) (X.pn ++ pins) (fun er s1 => wpAny (model X.prog X.w) X.A (noteFrame er X.env) (fun _ s2 => wpAny (model X.prog X.w) X.A (setFlight er none)
    (fun _ s3 => wpAny (model X.prog X.w) X.A (handleBy er X.env (.ExceptHandler (some (.Name x np)) (some n) (s0 :: su) q2 :: more)) (SP X pins D) X.xe s3) X.xe s2) X.xe s1) (fun er s' flown => ?_) PassesOwn.looking).run [] st τ G D (I.toTry _) want) (fun fl s1 done => ?_) (fun _ _ z => z))
  · obtain ⟨z, Bq, sI, pins', τ', G', k, dd, rfl, Jt, nb, up, sky, nz, osq, bare, hit, go⟩ := flown
    have J : Inv X pins τ' G' sI := Jt.ofTry okX
    have sky2 : Sky Bq (X.env :: X.outer) z (Zc k dd) X.env.locals s'.heap := stk ▸ sky
    show wpAny (model X.prog X.w) X.A (noteFrame (.ref z) X.env) _ _ _
    refine Sky.land Zc.steady frames frm sky2 fun g3 fly3 up3 => ?_
    have J3 : Inv X pins τ' G' { s' with heap := g3 } := J.landed nb fly3.1 (up.trans up3) osq bare
    obtain ⟨o3, v3, get3, zc3, dat3⟩ := fly3.there
    have offFr : z ∉ frs (X.env :: X.outer) := fun mem => by
      obtain ⟨_, o', got, nof⟩ := fly3.2.2.1.mem mem
      rw [get3] at got
      cases got
      exact nof _ dat3
    have offL : z ≠ X.env.locals := fun e => offFr (List.mem_filterMap.mpr ⟨X.env, List.mem_cons_self, frm.trans (congrArg some e.symm)⟩)
    have offF : z ∉ X.fs := fun mem => by
      obtain ⟨ev, hev, qe⟩ := List.mem_filterMap.mp mem
      exact offFr (List.mem_filterMap.mpr ⟨ev, List.mem_cons_of_mem _ hev, qe⟩)
    have S3 := J3.suite get3 dat3 nz offL offF
    have ty : PySem.W.Looks (model X.prog X.w) g3 (typeOf (.ref z)) k := fun A' Q' E' sx kx qx => wpAny_typeOf_ref (kx _ _ get3) (zc3.1.symm ▸ qx)
    have mat := PySem.W.exm_one (M := model X.prog X.w) J3.kIn ty hit
    have named : ∀ {Q' : Value → Shared → Prop} {E' : Value → Shared → Prop}, Q' c { s' with heap := g3 } → wpAny (model X.prog X.w) (X.A.mark (some (.ref z))) (eval (.Name x np) X.env) Q' E' { s' with heap := g3 } := fun qc => by
      obtain ⟨g0, dbg, m0 | ⟨m0, v0, n0⟩⟩ := nam
      · exact ld_glob (X := X.suite z ((z, o3) :: (X.pn ++ pins))) S3 g0 m0 qc dbg
      · exact ld_blt (X := X.suite z ((z, o3) :: (X.pn ++ pins))) S3 g0 m0 v0 qc n0 dbg
    refine wpAny_handleBy_cons (codeAny_handlers_test (named (mat.here ?_))) (fun qq => by cases qq)
    refine codeAny_handlers_suite_as (HandSPX.lands_againZ fly3 fun g4 fly4 up4 => ?_)
    have J4 : Inv X pins τ' G' { s' with heap := g4 } := J.landed nb fly4.1 ((up.trans up3).trans up4) osq bare
    obtain ⟨o4, v4, get4, zc4, dat4⟩ := fly4.there
    have S4 := J4.suite get4 dat4 nz offL offF
    refine store_ok (X := X.suite z ((z, o4) :: (X.pn ++ pins))) (v := .ref z) S4 nod slot (.inl loc) rfl (fun s5 S5 => ?_) (.inr loc)
    refine wpAny_mono ((sui z o4 k dd (X.pn ++ pins) zc4 ⟨_, dat4⟩).run [] s5 _ G' _ S5 (go z nz)) (fun fl s6 done => ?_) (fun _ _ bad => bad.elim)
    have gone : ∀ {τ6 : L2.St} {G6 : Hp} {R : Shared → Prop}, Inv (X.suite z ((z, o4) :: (X.pn ++ pins))) [] τ6 G6 s6 → (∀ s7, Inv X pins (τ6.set i none) G6 s7 → R s7) →
        wpAny (model X.prog X.w) X.A (do bindName X.env n .none; unbindBehindTheSuite X.env n q2) (fun _ s7 => R s7) X.xe s6 := fun S6 hq => gone_ok (S6.unsuite okX) nod slot loc hq
    cases fl with
    | next =>
      obtain ⟨τ6, G6, S6, q6⟩ := done
      exact gone S6 fun s7 J7 => ⟨_, _, J7, q6⟩
    | brk =>
      obtain ⟨τ6, G6, S6, q6⟩ := done
      exact gone S6 fun s7 J7 => ⟨_, _, J7, q6⟩
    | cont =>
      obtain ⟨τ6, G6, S6, q6⟩ := done
      exact gone S6 fun s7 J7 => ⟨_, _, J7, q6⟩
    | ret u =>
      obtain ⟨v6, τ6, G6, S6, r6, q6⟩ := done
      exact gone S6 fun s7 J7 => ⟨_, _, _, J7, r6, q6⟩
  · cases fl with
    | next =>
      obtain ⟨τ1, G1, J1, q⟩ := done
      exact wpAny_execs_nil ⟨τ1, G1, J1.ofTry okX, q⟩
    | brk =>
      obtain ⟨τ1, G1, J1, q⟩ := done
      exact ⟨τ1, G1, J1.ofTry okX, q⟩
    | cont =>
      obtain ⟨τ1, G1, J1, q⟩ := done
      exact ⟨τ1, G1, J1.ofTry okX, q⟩
    | ret u =>
      obtain ⟨v1, τ1, G1, J1, r, q⟩ := done
      exact ⟨v1, τ1, G1, J1.ofTry okX, r, q⟩
end

/-! ### an error that is held, looked at by a def -/
section
open PySem.Spec PyProof.Rows PySem.W PySem.Calls
variable {prog : Program} {w : World} {A : Around} {E : Value → Shared → Prop} {st : Shared} {K : Frag} {z C : Addr} {oz : Obj} {oo : Option Obj}
theorem own_class {Q : Option Value → Shared → Prop} (T : ExcC K C) (KI : K.In st.heap) (I : InstAt st.heap z oz C oo) (want : Q (some (.ref C)) { st with toks := st.toks + 1 }) : wpAny (model prog w) A (getAttr? (.ref z) "__class__") Q E st := by
  obtain ⟨cdx, hcdx, _⟩ := any_some T.hd
  have found : findObj K C oo "__class__" = some (.bind (.builtin "getset_descriptor.__get__") (.builtin "object.__class__")) := by
    unfold findObj
    rw [hcdx, Option.bind_some, T.ha, Option.bind_some]
    simp [T.hn, T.ht]
  obtain ⟨hq, gq, dq, tq, oq⟩ := st
  have k0 := I.type (M := model prog w)
  have k1 := looks_findIn (M := model prog w) KI T.hg
  have k2 := looks_findIn (M := model prog w) KI T.hk
  have k3 := looks_find (M := model prog w) KI I found
  have kb : Looks (model prog w) hq (isInstance (.ref z) (.type "BaseException")) true := k0.andThen (looks_subIn KI T.hs)
  have not2 : (Value.builtin "BaseException.__getattribute__" == Value.builtin "object.__getattribute__") = false := by decide +kernel
  have not1 : (onTheHeap (Value.ref C) && Value.builtin "BaseException.__getattribute__" == Value.builtin "object.__getattribute__") = false := by rw [not2] <;> rfl
  unfold getAttr? getAttrBy? getAttrBy
  refine wpAny_bind (wpAny_mkText (wpAny_bind (wpAny_attempt (wpAny_holding (wpAny_bind (k0.at (wpAny_bind (k1.at ?_))))))))
  show wpAny _ _ (if (onTheHeap (Value.ref C) && Value.builtin "BaseException.__getattribute__" == Value.builtin "object.__getattribute__") = true then _ else _) _ _ _
  rw [not1, if_neg Bool.false_ne_true]
  unfold getAttrByItsOwn hookBefore
  refine wpAny_bind ?_
  rw [if_pos (show onTheHeap (Value.ref C) = true from rfl)]
  refine k2.at (wpAny_bind (wpAny_attempt (wpAny_holding ?_)))
  unfold callGetattribute
  rw [show (false && onTheHeap (Value.builtin "BaseException.__getattribute__")) = false from rfl, if_neg Bool.false_ne_true]
  unfold boundAndCalled
  rw [PySem.F.excAttr_ValueError.ga.bind (.ref z)]
  refine wpAny_bind (wpAny_pure ?_)
  show wpAny _ _ (call (.builtin "BaseException.__getattribute__") [.ref z, .str "__class__" tq]) _ _ _
  refine wpAny_call (codeAny_call_builtin PySem.F.excAttr_ValueError.ga.plain PySem.F.entry_bexc_ga ?_)
  refine @check_slot (model prog w) _ _ ⟨hq, gq, dq, tq + 1, oq⟩ "BaseException.__getattribute__" "BaseException" "__getattribute__" (.ref z) [.str "__class__" tq] [] _ (by decide +kernel) (by decide +kernel) kb (PySem.F.args_bexc_ga (.ref z) (.str "__class__" tq)) ?_
  unfold Builtin.«object.__getattribute__»
  refine wpAny_bind (wpAny_of_eq (a := ((Value.ref z : Value), [Value.str "__class__" tq])) (by first | rfl | (simp only [slotArgs]; rfl)) ?_)
  refine wpAny_bind (wpAny_pure (wpAny_bind (k0.at (wpAny_bind (k3.at ?_)))))
  show wpAny _ _ (holding [Value.builtin "object.__class__"] (call (.builtin "getset_descriptor.__get__") [.builtin "object.__class__", .ref z, .ref C]) >>= ret) _ _ _
  refine wpAny_bind (wpAny_holding (wpAny_call (class_get (s := ⟨hq, gq, dq, tq + 1, oq⟩) (ox := oz) (od := oo) KI I T.hm (wpAny_pure ?_))))
  show wpAny _ _ (handedOut (.ref C)) _ _ _
  rw [handedOut_of (v := .ref C) rfl]
  first
    | exact wpAny_pure (wpAny_pure want)
    | exact wpAny_pure want
    | exact wpAny_pure (wpAny_bind (wpAny_pure (wpAny_pure want)))
theorem own_kit (T : ExcC K C) : KitX K (.ref z) (.ref C) (fun h => InstAt h z oz C oo) where
  ty := fun _ _ _ I => I.type
  it := fun _ _ KI _ => by
    obtain ⟨cdx, hcdx, _⟩ := any_some T.hd
    unfold clsIn at hcdx
    split at hcdx
    · rename_i c1 d1 cd1 sl1 got
      intro A' Q' E' s' kp qq
      unfold isType loadHead
      exact wpAny_bind (wpAny_loadPart (kp _ _ (KI _ _ got)) (wpAny_pure qq))
    · cases hcdx
  ne := fun h tp dd its n sl KI htp => by
    obtain ⟨cdx, hcdx, _⟩ := any_some T.hd
    refine Bool.eq_false_iff.mpr fun same => ?_
    have e : C = tp := Value.ref.inj (beq_iff_eq.mp same)
    subst e
    unfold clsIn at hcdx
    split at hcdx
    · rename_i c1 d1 cd1 sl1 got
      have two := (KI _ _ got).symm.trans htp
      cases two
    · cases hcdx
  ca := fun KI I k => own_class T KI I k
end
/-- the error at p.1 is one of the class at C, its dict stands at dd with the fields fs -/
structure Held (p : Addr × Obj) (C dd : Addr) : Prop where
  z : Zc (.ref C) (some dd) p.2
  f : ∃ vs, p.2.data = .fields vs
section
open PySem.Spec PyProof.Rows
variable {X : Cx} {p : Addr × Obj} {C dd : Addr}
theorem Held.inst {pins : List (Addr × Obj)} {σ : L2.St} {H : Hp} {s : Shared} {fs : List (Str × V)} (h : Held p C dd) (hp : p ∈ X.pn) (I : Inv X pins σ H s) (hd : H dd = some (.xd fs)) :
    ∃ (od : Obj) (mA : Str → Option Value), PySem.W.InstAt s.heap p.1 p.2 C (some od) ∧ (∀ n, PySem.W.lookIn n od = some (mA n)) ∧ ∀ f, RelO (fs.lookup f) (mA f) := by
  obtain ⟨got, _⟩ := I.pin p (List.mem_append_left _ hp)
  obtain ⟨vs, dat⟩ := h.f
  obtain ⟨mA, hns, rel⟩ := (show ObjOk X.prog X.w H s.heap dd (.xd fs) from I.hok dd _ hd)
  obtain ⟨od, ho, hl⟩ := lookIn_ns hns
  exact ⟨od, mA, ⟨got, h.z.1, by unfold PySem.W.notCls; rw [dat] <;> rfl, by rw [h.z.2]; exact ho⟩, hl, rel⟩
/-- e.f, e the held error -/
def tHeldF (p : Addr × Obj) (dd : Addr) (f : Str) (te : TE) : TE := fun σ H Q => te σ H fun x H1 => x = .ref p.1 ∧ ∃ (fs : List (Str × V)) (v : V), H1 dd = some (.xd fs) ∧ fs.lookup f = some v ∧ Q v H1
theorem pe_heldf {e : Expr} {te : TE} {pos : Pos} {n : Str} (h : Held p C dd) (hp : p ∈ X.pn) (T : XfC X.K C) (hno : PySem.W.findIn X.K (.ref C) n = some none) (he : PE X e te) (hb : attributeBase e n X.env (eval e X.env) = eval e X.env := by rfl) :
    PE X (.Attribute e n pos) (tHeldF p dd n te) := by
  refine ⟨fun pins s σ H Q I q => ?_⟩
  refine attr_of hb (thn (he.run pins s σ H _ I q) fun u s1 got => ?_)
  obtain ⟨x, H1, I1, rx, rfl, fs, v, hd, l, q1⟩ := got
  obtain rfl : u = Value.ref p.1 := rx
  obtain ⟨od, mA, J, hl, rel⟩ := h.inst hp I1 hd
  obtain ⟨y, hy, ry⟩ := RelO.some_of (v := v) (o := mA n) (by rw [← l]; exact rel n)
  exact HandSPX.exc_get I1.kIn J T.ga T.gg T.exC (PySem.W.findObj_own T.hdC hno rfl (by rw [hl, hy])) (handed_of ry) ⟨v, H1, I1.tok _, ry, q1⟩
/-- isinstance(e, (c, ..)) and isinstance(e, c), e the held error -/
def rHeldT (K : PySem.W.Frag) (p : Addr × Obj) (C dd : Addr) : List V → Hp → VK → Prop := fun xs H Q => ∃ (tp : Addr) (cs : List V) (us : List Value) (b : Bool) (fs : List (Str × V)), xs = [.ref p.1, .ref tp] ∧ H tp = some (.tup cs) ∧ Paired ClsV cs us ∧ PySem.W.kitAny K (.ref C) us = some b ∧ H dd = some (.xd fs) ∧ Q (.bl b) H
theorem call_heldT (h : Held p C dd) (hp : p ∈ X.pn) (T : ExcC X.K C) : CallR X (.builtin "isinstance") (rHeldT X.K p C dd) := by
  intro pins s σ H xs us Q I r q
  obtain ⟨tp, cs, ws, b, fs, rfl, hT, pr, ka, hd, q1⟩ := q
  obtain ⟨u1, u2, rfl, r1, r2⟩ := vals2 r
  cases (show u1 = Value.ref p.1 from r1)
  cases (show u2 = Value.ref tp from r2)
  obtain ⟨od, mA, J, _, _⟩ := h.inst hp I hd
  obtain ⟨_, its, rv, o, h1, h2, n, h3⟩ := (show ObjOk X.prog X.w H s.heap tp (.tup cs) from I.hok tp _ hT)
  have e3 := ClsV.all pr rv
  subst e3
  obtain ⟨oc, od', dt, sl⟩ := o
  simp only at h2 h3
  subst h2 h3
  exact PySem.W.kia_tup (own_kit (oz := p.2) (oo := some od) T) I.kIn J h1 ka (fun e => nomatch e) fun tk => ⟨.bl b, H, I.tok tk, rfl, q1⟩
def rHeld1 (K : PySem.W.Frag) (p : Addr × Obj) (C dd : Addr) : List V → Hp → VK → Prop := fun xs H Q => ∃ (D : Addr) (b : Bool) (fs : List (Str × V)), xs = [.ref p.1, .ref D] ∧ PySem.W.kitOne K (.ref C) (.ref D) = some b ∧ H dd = some (.xd fs) ∧ Q (.bl b) H
theorem call_held1 (h : Held p C dd) (hp : p ∈ X.pn) (T : ExcC X.K C) : CallR X (.builtin "isinstance") (rHeld1 X.K p C dd) := by
  intro pins s σ H xs us Q I r q
  obtain ⟨D, b, fs, rfl, ka, hd, q1⟩ := q
  obtain ⟨u1, u2, rfl, r1, r2⟩ := vals2 r
  cases (show u1 = Value.ref p.1 from r1)
  cases (show u2 = Value.ref D from r2)
  obtain ⟨od, mA, J, _, _⟩ := h.inst hp I hd
  exact PySem.W.kia_one (own_kit (oz := p.2) (oo := some od) T) I.kIn J ka (fun e => nomatch e) fun tk => ⟨.bl b, H, I.tok tk, rfl, q1⟩
end
/-! ### a def called on a held error -/
structure FnP (P : Program) (w : World) (K : PySem.W.Frag) (mg : Str → Option Value) (base : Heap) (p : Addr × Obj) (k : Nat) (f : Addr) (fd : FuncData) (ps : List Str) (sp : Sp) : Prop where
  len : ∀ vs H Q E, sp vs H Q E → vs.length = ps.length
  go : ∀ (A : Around) (outer : List Env) (s : Shared) (H : Hp) (args : Args) (us : List Value) (vs : List V) (Q : VK) (E : XK), L2H.RoomH k A → L2H.PinOk outer H s p → Env0 P w K mg base A outer s H → BindsTo s fd args (ps.zip us) → Vals vs us → sp vs H Q E →
    codeAny (model P w) A (.call (.ref f) args) (CR CX0 outer P w H s Q E) s
section
open PySem.Spec PyProof.Rows
variable {P : Program} {w : World} {K : PySem.W.Frag} {mg : Str → Option Value} {base : Heap}
theorem Fun.okP {x qual : Str} {st : Stmt} {f : Addr} {fd : FuncData} {N ps : List Str} {k : Nat} {sp : Sp} {p : Addr × Obj} (F : Fun K x qual st f fd) (S : FnScope N ps (defScope st)) (len : ∀ vs H Q E, sp vs H Q E → vs.length = ps.length)
    (hbody : ∀ (cdv : Value) (A : Around) (outer : List Env) (s : Shared) (H : Hp) (vs : List V) (Q : VK) (E : XK), L2H.RoomH k (A.deeper (envOfC qual (defScope st) s.heap.objs.size f cdv)) → sp vs H Q E →
      ∃ t, PSs (L2H.cxH CX0 P w K mg base N qual (defScope st) f cdv A outer s H E p) (defBody st) t ∧ t { nx := fun _ H' => Q .non H', rt := Q } (L2.start N vs) H) : FnP P w K mg base p (k + 1) f fd ps sp := by
  obtain ⟨oc, od, kV, doc, pm, an, cdv, ct, osl, rfl, lk, hcd⟩ := F.ex
  refine ⟨len, fun A outer s H args us vs Q E hr hpin e0 hb r hsp => ?_⟩
  have hlen := len _ _ _ _ hsp
  have keepB : ∀ b o, base.get? b = some o → s.heap.get? b = some o := fun b o e => (e0.bs b o e).1
  have KI : K.In s.heap := e0.mod.kin.keeps keepB
  have noLim : s.heap.NoLimit := e0.mod.nolimit.keeps keepB
  have kinds : ∀ y ∈ ps.zip us, (defScope st).names.lookup y.1 = some .local ∨ ((defScope st).names.lookup y.1 = some .cell ∧ ((cellsFrom (s.heap.objs.size + 1) (defScope st).names []).lookup y.1).isSome = true) := fun y hy =>
    (S.par y.1 (List.of_mem_zip (show (y.1, y.2) ∈ _ from hy)).1).imp id fun q => ⟨q, PySem.W.cellsFrom_some _ _ _ (.inl q)⟩
  refine codeAny_call_function hr.depth (KI _ _ lk) rfl S.co S.gen rfl (PySem.W.codeRec_of KI hcd) (hb _ _ _ _ (wpAny_newFunctionEnv_cells S.kind kinds fun env he s1 x1 => ?_))
  subst he
  refine ⟨noLim.keeps x1.toInCall.keep, codeAny_func ?_⟩
  obtain ⟨t, ht, hq⟩ := hbody cdv A outer s H vs Q E (hr.deeper _) hsp
  have I := L2H.inv_startH (CX := CX0) (P := P) (w := w) (K := K) (mg := mg) (base := base) (N := N) (qual := qual) (f := f) (cd := cdv) (E := E) S hpin e0 hlen r x1
  refine wpAny_mono (ht.run [] s1 _ H _ I hq) (fun fl s2 done => ?_) fun _ _ bad => bad
  cases fl with
  | ret u =>
    obtain ⟨v, τ, G, J, rv, q⟩ := done
    exact ⟨v, G, J.os, J.bare, J.base, J.hok, rv, q⟩
  | next =>
    obtain ⟨τ, G, J, q⟩ := done
    exact ⟨.non, G, J.os, J.bare, J.base, J.hok, rfl, q⟩
  | brk =>
    obtain ⟨_, _, _, q⟩ := done
    exact q.elim
  | cont =>
    obtain ⟨_, _, _, q⟩ := done
    exact q.elim
theorem pe_callP {X : Cx} {k : Nat} {f : Addr} {fd : FuncData} {ps : List Str} {sp : Sp} {p : Addr × Obj} {x : Str} {q pos : Pos} {e : Expr} {es : List Expr} {t : TA} (F : FnP X.prog X.w X.K X.mg X.base p k f fd ps sp) (hr : L2H.RoomH k X.A) (hp : p ∈ X.pn)
    (hg : Gl X x) (hm : X.mg x = some (.ref f)) (hk : PySem.W.keepIn X.K (.ref f) = true) (hb : Binds X.K fd ps []) (ha : PA X (e :: es) t)
    (hdb : (x == ("__debug__" : Str)) = false := by decide) (he : starEach (e :: es) X.env = (false, eval e X.env) :: starEach es X.env := by rfl) (hpl : (backTo pos (starEach es X.env)).any (·.1) = false := by rfl) :
    PE X (.Call (.Name x q) (e :: es) [] pos) (tCall sp [] E0 t) := by
  refine ⟨fun pins s σ H Q I h => ?_⟩
  refine wpAny_Call_Name_kw (ld_glob I hg hm ?_ hdb)
  refine PySem.W.callWith_K (h₀ := X.base) I.ok.mod.kin hk (thn (ha.run pos pins s σ H _ I h) fun us s1 got => ?_) he hpl
  obtain ⟨vs, H1, I1, r, want⟩ := got
  rw [List.append_nil] at want
  refine ⟨I1.kIn, ?_⟩
  have hl : us.length = ps.length := (r.length).symm.trans (F.len _ _ _ _ want)
  have bs := hb s1 us I1.kIn (by rw [List.append_nil]; exact hl)
  rw [List.append_nil] at bs
  obtain ⟨p1, p2, p3, p4, p5⟩ := I1.pin p (List.mem_append_left _ hp)
  refine wpAny_call (codeAny_mono (F.go X.A X.stack s1 H1 ⟨us, []⟩ us vs Q E0 hr ⟨p1, p2, fun mem => (List.mem_cons.mp (I1.stkSub p.1 mem)).elim p3 p4, p5⟩ I1.env0 bs r want) fun res s2 hq => ?_)
  cases res with
  | error er => exact (show False from hq).elim
  | ok fl =>
    cases fl with
    | ret u => exact I1.after hq
    | next => exact hq.elim
    | brk => exact hq.elim
    | cont => exact hq.elim
end

/-! ### _law_why of what refuses with one of the own errors (behind 70s_err) -/
def spFieldsG (p : Addr × Obj) (dd : Addr) (FS : Fds → Prop) (Fld : Fds → V → Hp → Prop) : Sp := fun vs H Q _ => ∃ fs : Fds, vs = [.ref p.1] ∧ H dd = some (.xd fs) ∧ FS fs ∧ ∀ H' v, Same H H' → Fld fs v H' → Q v H'
abbrev s_why : Stmt := top 71
abbrev N_why : List Str := ["_law_ask", "_law_found", "_law_e"]
abbrev P_why : List Str := ["_law_ask"]
theorem sc_why : FnScope N_why P_why (defScope s_why) := ⟨rfl, rfl, rfl, by decide +kernel, rfl, by decide +kernel, by decide +kernel⟩
abbrev s_fields : Stmt := top 70
abbrev N_fields : List Str := ["_law_e"]
abbrev P_fields : List Str := ["_law_e"]
theorem sc_fields : FnScope N_fields P_fields (defScope s_fields) := ⟨rfl, rfl, rfl, by decide +kernel, rfl, by decide +kernel, by decide +kernel⟩
def EWhyG (C : Addr) (word : Str) (FS : Fds → Prop) (Fld : Fds → V → Hp → Prop) (Q : VK) : XK := fun cls d H' => ∃ (dd : Addr) (fs : Fds), cls = .ref C ∧ d = some dd ∧ H' dd = some (.xd fs) ∧ FS fs ∧
  ∀ (H'' : Hp) (t1 : Addr) (v : V), Same H' H'' → Fld fs v H'' → H'' t1 = some (.tup [.str word, v]) → Q (.ref t1) H''
def TWhyG (C : Addr) (word : Str) (FS : Fds → Prop) (Fld : Fds → V → Hp → Prop) : (XK → Hp → VK → Prop) → Hp → VK → Prop := fun tl H Q => ∀ t0, H t0 = none → ∀ R : VK, (∀ v H1, Q (.ref t0) H1 → R v H1) → tl (EWhyG C word FS Fld Q) (upd H t0 (.tup [.str "", .non])) R
section
open PySem.Spec PyProof.Rows
theorem three {σ : L2.St} (h : σ.length = 3) : ∃ a b c, σ = [a, b, c] := by
  match σ, h with
  | [a, b, c], _ => exact ⟨a, b, c, rfl⟩
theorem why_givesG {X : Cx} {g CF C fI fF : Addr} {fdI fdF : FuncData} {cdg : Value} {q : Str} {k : Nat} {word : Str} {N : List Str} {FS : Fds → Prop} {Fld : Fds → V → Hp → Prop} (hr : Room (k + 3) X.A) (T : ErT X.K X.mg CF C fI fdI word N)
    (D_fields : DefAt X.K X.mg "_law_fields" s_fields P_fields fF fdF) (hw : ∀ fs, FS fs → fs.lookup ("word" : Str) = some (V.str word)) (st : ∀ fs v H H', Same H H' → Fld fs v H → Fld fs v H')
    (GF : ∀ (p : Addr × Obj) (dd : Addr), Held p C dd → FnP X.prog X.w X.K X.mg X.base p 1 fF fdF P_fields (spFieldsG p dd FS Fld)) :
    LamX.GivesTo X N_why "_law_why" (defScope s_why) g cdg (defBody s_why) "_law_ask" q (TWhyG C word FS Fld) := by
  intro f c' s H Q tl act hc h
  have hr1 : Room (k + 2) (X.A.deeper (envOfC "_law_why" (defScope s_why) s.heap.objs.size g cdg)) := hr.deeper _
  refine ⟨_, pss_cons (ps_set (i := 1) sc_why.nd rfl (.inl rfl) (pe_tup (pa_cons pe_str (pa_cons pe_non pa_nil))))
    (pss_cons (ps_try_first (i := 2) (c := .ref CF)
      (tb := fun W D σ H => ∃ Ech : XK, (∀ cls d σ' H', Ech cls d H' → σ'.length = 3 → W cls d σ' H') ∧ σ[0]? = some (some (.ref f)) ∧ H c' = some (LamX.CodeO c' q) ∧ tl Ech H fun _ H1 => D.nx σ H1)
      (ts := fun z k d D σ H => ∃ d0, k = .ref C ∧ d = some d0 ∧ ∃ fs : Fds, H d0 = some (.xd fs) ∧ FS fs ∧ σ[2]? = some (some (.ref z)) ∧ ∀ (H' : Hp) (t1 : Addr) (v : V), Same H H' → Fld fs v H' → H' t1 = some (.tup [.str word, v]) → D.nx (σ.set 1 (some (.ref t1))) H')
      rfl rfl sc_why.nd rfl rfl ⟨by rfl, by decide, .inl T.gF⟩ (fun W pn xe tk _ => ?_) (fun z oz k d pn hz hf => ?_)) (pss_one (ps_ret (pv 1)))), ?_⟩
  · refine pss_of fun D σ H' h' => ?_
    obtain ⟨Ech, hW, h1, h2, h3⟩ := h'
    exact ⟨_, pss_one (ps_expr (act (fun cls d σ H => σ.length = 3 → W cls d σ H) pn xe Ech _ _ (takes_len tk) (fun cls d σ' H' e l => hW cls d σ' H' e l))), h1, h2, h3⟩
  · refine pss_of fun D σ H' h' => ?_
    obtain ⟨d0, rfl, rfl, fs, hd, hfs, h2, go⟩ := h'
    have hH : Held (z, oz) C d0 := ⟨hz, hf⟩
    have G_fields := GF (z, oz) d0 hH
    have hrm : L2H.RoomH 1 (X.A.deeper (envOfC "_law_why" (defScope s_why) s.heap.objs.size g cdg)) := (L2H.roomH_of hr1).mono (by omega)
    refine ⟨_, pss_one (ps_set (i := 1) sc_why.nd rfl (.inl rfl) (pe_tup (pa_cons (pe_heldf hH List.mem_cons_self T.x T.e.w (pv 2)) (pa_cons (pe_callP G_fields ⟨hrm.dp, hrm.un⟩ List.mem_cons_self (by rfl) D_fields.g D_fields.F.kp D_fields.b (pa_cons (pv 2) pa_nil)) pa_nil)))), ?_⟩
    refine ⟨.ref z, h2, rfl, fs, _, hd, hw fs hfs, .ref z, h2, fs, rfl, hd, hfs, fun H2 v s2 e2 => ?_⟩
    exact ⟨by show 2 ≤ sizeLine; decide, fun t1 n1 => go _ t1 v (s2.trans (same_upd n1)) (st _ _ _ _ (same_upd n1) e2) upd_same⟩
  · refine ⟨by show 2 ≤ sizeLine; decide, fun t0 n0 => ?_⟩
    refine ⟨EWhyG C word FS Fld Q, fun cls d σ' H' hE hl => ?_, rfl, same_upd n0 _ _ hc, ?_⟩
    · obtain ⟨dd, fs, rfl, rfl, hd, hfs, go⟩ := hE
      obtain ⟨x0, x1, x2, rfl⟩ := three hl
      refine ⟨T.m, fun z hz => ⟨dd, rfl, rfl, fs, hd, hfs, rfl, fun H2 t1 v s2 e2 e3 => ?_⟩⟩
      exact ⟨.ref t1, rfl, go H2 t1 v s2 e2 e3⟩
    · exact h t0 n0 _ fun v H1 hq => ⟨.ref t0, rfl, hq⟩
end
/-! ### an error that is none of these -/
section
variable {K : PySem.W.Frag}
theorem kit_no {C D : Addr} (h0 : PySem.W.subIn K (.ref C) (.ref C) = some true) (h1 : PySem.W.subIn K (.ref C) (.ref D) = some false) (h2 : PySem.W.isClsIn K D = true) (h3 : PySem.W.typeIn K (.ref D) = some (.type "type")) : PySem.W.kitOne K (.ref C) (.ref D) = some false := by
  have ne : (Value.ref C == Value.ref D) = false := by
    refine Bool.eq_false_iff.mpr fun same => ?_
    have e : C = D := Value.ref.inj (beq_iff_eq.mp same)
    subst e
    rw [h0] at h1
    cases h1
  have e2 : ((PySem.W.clsIn K D).isSome && PySem.W.typeIn K (.ref D) == some (.type "type")) = true := by
    have q : (PySem.W.clsIn K D).isSome = true := h2
    rw [q, h3] <;> rfl
  unfold PySem.W.kitOne
  rw [ne, if_neg Bool.false_ne_true]
  show (if ((PySem.W.clsIn K D).isSome && PySem.W.typeIn K (.ref D) == some (.type "type")) = true then PySem.W.subIn K (.ref C) (.ref D) else none) = some false
  rw [if_pos e2, h1]
theorem any_no {C : Addr} : ∀ {ds : List Addr}, (∀ D ∈ ds, PySem.W.kitOne K (.ref C) (.ref D) = some false) → PySem.W.kitAny K (.ref C) (ds.map Value.ref) = some false
  | [], _ => rfl
  | D :: r, h => by
    show (match PySem.W.kitOne K (.ref C) (.ref D) with | some true => some true | some false => PySem.W.kitAny K (.ref C) (r.map Value.ref) | none => none) = some false
    rw [h D List.mem_cons_self]
    exact any_no fun E hE => h E (List.mem_cons_of_mem _ hE)
end
/-- the errors that _law_fields looks for ahead of BadStretch -/
structure OthT (K : PySem.W.Frag) (mg : Str → Option Value) (C c0 c1 c2 c3 c4 c5 c6 c7 c8 : Addr) : Prop where
  g0 : mg "BadNumber" = some (.ref c0)
  g1 : mg "NoMating" = some (.ref c1)
  g2 : mg "NoFamily" = some (.ref c2)
  g3 : mg "TooMuch" = some (.ref c3)
  g4 : mg "BadName" = some (.ref c4)
  g5 : mg "Taken" = some (.ref c5)
  g6 : mg "NoRoad" = some (.ref c6)
  g7 : mg "BadMating" = some (.ref c7)
  g8 : mg "BadPlace" = some (.ref c8)
  no : ∀ D ∈ [c0, c1, c2, c3, c4, c5, c6, c7, c8], PySem.W.kitOne K (.ref C) (.ref D) = some false

/-! ### _law_why of what refuses with one of several own errors (behind 70w_why) -/
def EWhyM (I : Addr → Fds → Str → (V → Hp → Prop) → Prop) (Q : VK) : XK := fun cls d H' => ∃ (C dd : Addr) (fs : Fds) (word : Str) (Fld : V → Hp → Prop), cls = .ref C ∧ d = some dd ∧ H' dd = some (.xd fs) ∧ I C fs word Fld ∧
  ∀ (H'' : Hp) (t1 : Addr) (v : V), Same H' H'' → Fld v H'' → H'' t1 = some (.tup [.str word, v]) → Q (.ref t1) H''
def TWhyM (I : Addr → Fds → Str → (V → Hp → Prop) → Prop) : (XK → Hp → VK → Prop) → Hp → VK → Prop := fun tl H Q => ∀ t0, H t0 = none → ∀ R : VK, (∀ v H1, Q (.ref t0) H1 → R v H1) → tl (EWhyM I Q) (upd H t0 (.tup [.str "", .non])) R
/-- an error that the first clause takes -/
structure WhyI (P : Program) (w : World) (K : PySem.W.Frag) (mg : Str → Option Value) (base : Heap) (CF fF : Addr) (fdF : FuncData) (C : Addr) (fs : Fds) (word : Str) (Fld : V → Hp → Prop) : Prop where
  m : PySem.W.exmOne K (.ref C) (.ref CF) = some true
  x : XfC K C
  wd : PySem.W.findIn K (.ref C) "word" = some none
  hw : fs.lookup ("word" : Str) = some (.str word)
  st : ∀ v H H', Same H H' → Fld v H → Fld v H'
  G : ∀ (p : Addr × Obj) (dd : Addr), Held p C dd → FnP P w K mg base p 1 fF fdF P_fields (spFieldsG p dd (fun f => f = fs) (fun _ v H => Fld v H))
section
open PySem.Spec PyProof.Rows
theorem FnP.imp {P : Program} {w : World} {K : PySem.W.Frag} {mg : Str → Option Value} {base : Heap} {p : Addr × Obj} {k : Nat} {f : Addr} {fd : FuncData} {ps : List Str} {sp sp' : Sp} (F : FnP P w K mg base p k f fd ps sp) (h : ∀ vs H Q E, sp' vs H Q E → sp vs H Q E) : FnP P w K mg base p k f fd ps sp' :=
  ⟨fun vs H Q E z => F.len vs H Q E (h _ _ _ _ z), fun A outer s H args us vs Q E hr pk he hb hv z => F.go A outer s H args us vs Q E hr pk he hb hv (h _ _ _ _ z)⟩
theorem why_givesM {X : Cx} {g CF fF : Addr} {fdF : FuncData} {cdg : Value} {q : Str} {k : Nat} {I : Addr → Fds → Str → (V → Hp → Prop) → Prop} (hr : Room (k + 3) X.A) (gF : X.mg "FarError" = some (.ref CF))
    (D_fields : DefAt X.K X.mg "_law_fields" s_fields P_fields fF fdF) (hI : ∀ C fs word Fld, I C fs word Fld → WhyI X.prog X.w X.K X.mg X.base CF fF fdF C fs word Fld) :
    LamX.GivesTo X N_why "_law_why" (defScope s_why) g cdg (defBody s_why) "_law_ask" q (TWhyM I) := by
  intro f c' s H Q tl act hc h
  have hr1 : Room (k + 2) (X.A.deeper (envOfC "_law_why" (defScope s_why) s.heap.objs.size g cdg)) := hr.deeper _
  refine ⟨_, pss_cons (ps_set (i := 1) sc_why.nd rfl (.inl rfl) (pe_tup (pa_cons pe_str (pa_cons pe_non pa_nil))))
    (pss_cons (ps_try_first (i := 2) (c := .ref CF)
      (tb := fun W D σ H => ∃ Ech : XK, (∀ cls d σ' H', Ech cls d H' → σ'.length = 3 → W cls d σ' H') ∧ σ[0]? = some (some (.ref f)) ∧ H c' = some (LamX.CodeO c' q) ∧ tl Ech H fun _ H1 => D.nx σ H1)
      (ts := fun z k d D σ H => ∃ (C d0 : Addr) (fs : Fds) (word : Str) (Fld : V → Hp → Prop), k = .ref C ∧ d = some d0 ∧ H d0 = some (.xd fs) ∧ I C fs word Fld ∧ σ[2]? = some (some (.ref z)) ∧ ∀ (H' : Hp) (t1 : Addr) (v : V), Same H H' → Fld v H' → H' t1 = some (.tup [.str word, v]) → D.nx (σ.set 1 (some (.ref t1))) H')
      rfl rfl sc_why.nd rfl rfl ⟨by rfl, by decide, .inl gF⟩ (fun W pn xe tk _ => ?_) (fun z oz k d pn hz hf => ?_)) (pss_one (ps_ret (pv 1)))), ?_⟩
  · refine pss_of fun D σ H' h' => ?_
    obtain ⟨Ech, hW, h1, h2, h3⟩ := h'
    exact ⟨_, pss_one (ps_expr (act (fun cls d σ H => σ.length = 3 → W cls d σ H) pn xe Ech _ _ (takes_len tk) (fun cls d σ' H' e l => hW cls d σ' H' e l))), h1, h2, h3⟩
  · refine pss_of fun D σ H' h' => ?_
    obtain ⟨C, d0, fs, word, Fld, rfl, rfl, hd, hi, h2, go⟩ := h'
    have hH : Held (z, oz) C d0 := ⟨hz, hf⟩
    have T := hI _ _ _ _ hi
    have G_fields := T.G (z, oz) d0 hH
    have hrm : L2H.RoomH 1 (X.A.deeper (envOfC "_law_why" (defScope s_why) s.heap.objs.size g cdg)) := (L2H.roomH_of hr1).mono (by omega)
    refine ⟨_, pss_one (ps_set (i := 1) sc_why.nd rfl (.inl rfl) (pe_tup (pa_cons (pe_heldf hH List.mem_cons_self T.x T.wd (pv 2)) (pa_cons (pe_callP G_fields ⟨hrm.dp, hrm.un⟩ List.mem_cons_self (by rfl) D_fields.g D_fields.F.kp D_fields.b (pa_cons (pv 2) pa_nil)) pa_nil)))), ?_⟩
    refine ⟨.ref z, h2, rfl, fs, _, hd, T.hw, .ref z, h2, fs, rfl, hd, rfl, fun H2 v s2 e2 => ?_⟩
    exact ⟨by show 2 ≤ sizeLine; decide, fun t1 n1 => go _ t1 v (s2.trans (same_upd n1)) (T.st _ _ _ (same_upd n1) e2) upd_same⟩
  · refine ⟨by show 2 ≤ sizeLine; decide, fun t0 n0 => ?_⟩
    refine ⟨EWhyM I Q, fun cls d σ' H' hE hl => ?_, rfl, same_upd n0 _ _ hc, ?_⟩
    · obtain ⟨C, dd, fs, word, Fld, rfl, rfl, hd, hi, go⟩ := hE
      obtain ⟨x0, x1, x2, rfl⟩ := three hl
      refine ⟨(hI _ _ _ _ hi).m, fun z hz => ⟨C, dd, fs, word, Fld, rfl, rfl, hd, hi, rfl, fun H2 t1 v s2 e2 e3 => ?_⟩⟩
      exact ⟨.ref t1, rfl, go H2 t1 v s2 e2 e3⟩
    · exact h t0 n0 _ fun v H1 hq => ⟨.ref t0, rfl, hq⟩
end

/-! ### BadMating, Full -/
abbrev s_bginit : Stmt := inClass (top 5) 0
abbrev N_bginit : List Str := ["self", "mating"]
theorem sc_bginit : FnScope N_bginit N_bginit (defScope s_bginit) := ⟨rfl, rfl, rfl, by decide +kernel, rfl, by decide +kernel, by decide +kernel⟩
def bgF (x : V) : Fds := [("word", .str "BadMating"), ("mating", x), ("word", .str "FarError")]
def spBgInit (K : PySem.W.Frag) : Sp := fun vs H Q _ => ∃ (a C t : Addr) (xs : List V), vs = [.ref a, .ref t] ∧ H t = some (.tup xs) ∧ (∀ y ∈ xs, MV y) ∧ xs.length ≤ 20 ∧ ErrT K C ∧ PySem.W.findIn K (.ref C) "mating" = some none ∧ H a = some (exo a C none) ∧
  ∀ (H' : Hp) (dx : Addr), H dx = none → H' a = some (exo a C (some dx)) → H' dx = some (exd dx (bgF (.ref t))) → (∀ b o, b ≠ a → H b = some o → H' b = some o) → Q .non H'
section
variable {P : Program} {w : World} {K : PySem.W.Frag} {mg : Str → Option Value} {base : Heap}
theorem ok_bginit {f fF CF : Addr} {fd fdF : FuncData} (F : Fun K "__init__" "BadMating.__init__" s_bginit f fd) (gF : mg "FarError" = some (.ref CF)) (TF : ClsFn K CF "__init__" fF) (bF : Binds K fdF N_farinit [])
    (GF : FnOk P w K mg base CX0 1 fF fdF N_farinit (spFarInit K)) : FnOk P w K mg base CX0 2 f fd N_bginit (spBgInit K) := by
  refine F.ok sc_bginit (fun vs H Q E h => ?_) (fun cdv A outer s H vs Q E hr h => ?_)
  · obtain ⟨a, C, t, xs, rfl, _⟩ := h
    rfl
  · obtain ⟨a, C, t, xs, rfl, ht, hx, hl, T, n1, ha, q⟩ := h
    refine ⟨_, pss_cons (ps_expr (pe_clsfn (by rfl) gF TF GF hr bF pass0 (pa_cons (pv 0) (pa_cons (pe_joined (.cons pe_str (.cons (pe_fmtM hr (pv 1)) .nil))) pa_nil))))
      (pss_cons (ps_ost (pv 0) (pv 1)) (pss_one (ps_ost (pv 0) pe_str))), ?_⟩
    refine ⟨.ref a, rfl, _, rfl, fits_of (n := 100) (by decide +kernel) (by decide), ?_⟩
    refine ⟨.ref t, rfl, t, xs, rfl, SqT.of ht, hx, hl, fun y hy => ?_⟩
    refine ⟨y, rfl, fits_of (app_fits (n := 100) (by decide +kernel) hy) (by decide), ?_⟩
    refine ⟨a, C, _, rfl, T.o, T.w, ha, fun dx ndx ne => ?_⟩
    have e1 : (upd (upd H dx (exd dx [("word", .str "FarError")])) a (exo a C (some dx))) a = some (exo a C (some dx)) := upd_same
    have e2 : (upd (upd H dx (exd dx [("word", .str "FarError")])) a (exo a C (some dx))) dx = some (exd dx [("word", .str "FarError")]) := by rw [upd_ne ne, upd_same]
    refine ⟨.ref t, rfl, .ref a, rfl, a, C, rfl, T.o, n1, .inr ⟨dx, _, e1, e2, by show 1 ≤ 900; decide, ?_⟩⟩
    refine ⟨.ref a, rfl, a, C, rfl, T.o, T.w, .inr ⟨dx, _, by rw [upd_ne ne.symm]; exact e1, upd_same, by show 2 ≤ 900; decide, ?_⟩⟩
    refine q _ dx ndx (by rw [upd_ne ne.symm, upd_ne ne.symm]; exact e1) upd_same fun b o nb hb => ?_
    have nbd : b ≠ dx := ne_of_none hb ndx
    rw [upd_ne nbd, upd_ne nbd, upd_ne nb, upd_ne nbd]
    exact hb
end
abbrev s_fuinit : Stmt := inClass (top 16) 0
abbrev N_fuinit : List Str := ["self", "most"]
theorem sc_fuinit : FnScope N_fuinit N_fuinit (defScope s_fuinit) := ⟨rfl, rfl, rfl, by decide +kernel, rfl, by decide +kernel, by decide +kernel⟩
def fuF (n : V) : List (Str × V) := [("word", .str "Full"), ("most", n), ("word", .str "FarError")]
def spFuInit (K : PySem.W.Frag) : Sp := fun vs H Q _ => ∃ (a C : Addr) (n : V), vs = [.ref a, n] ∧ FV n ∧ ErrT K C ∧ PySem.W.findIn K (.ref C) "most" = some none ∧ H a = some (exo a C none) ∧
  ∀ (H' : Hp) (dx : Addr), H dx = none → H' a = some (exo a C (some dx)) → H' dx = some (exd dx (fuF n)) → (∀ b o, b ≠ a → H b = some o → H' b = some o) → Q .non H'
section
variable {P : Program} {w : World} {K : PySem.W.Frag} {mg : Str → Option Value} {base : Heap}
theorem ok_fuinit {f fF CF : Addr} {fd fdF : FuncData} (F : Fun K "__init__" "Full.__init__" s_fuinit f fd) (gF : mg "FarError" = some (.ref CF)) (TF : ClsFn K CF "__init__" fF) (bF : Binds K fdF N_farinit [])
    (GF : FnOk P w K mg base CX0 1 fF fdF N_farinit (spFarInit K)) : FnOk P w K mg base CX0 2 f fd N_fuinit (spFuInit K) := by
  refine F.ok sc_fuinit (fun vs H Q E h => ?_) (fun cdv A outer s H vs Q E hr h => ?_)
  · obtain ⟨a, C, n, rfl, _⟩ := h
    rfl
  · obtain ⟨a, C, n, rfl, hn, T, hno, ha, q⟩ := h
    refine ⟨_, pss_cons (ps_expr (pe_clsfn (by rfl) gF TF GF hr bF pass0 (pa_cons (pv 0) (pa_cons (pe_joined (.cons pe_str (.cons (pe_fmtV (pv 1)) .nil))) pa_nil))))
      (pss_cons (ps_ost (pv 0) (pv 1)) (pss_one (ps_ost (pv 0) pe_str))), ?_⟩
    refine ⟨.ref a, rfl, _, rfl, fits_of (n := 100) (by decide +kernel) (by decide), ?_⟩
    refine fmtV_at (i := 1) rfl hn fun y hy => ?_
    refine ⟨y, rfl, fits_of (app_fits (n := 100) (by decide +kernel) hy) (by decide), ?_⟩
    refine ⟨a, C, _, rfl, T.o, T.w, ha, fun dx ndx ne => ?_⟩
    have e1 : (upd (upd H dx (exd dx [("word", .str "FarError")])) a (exo a C (some dx))) a = some (exo a C (some dx)) := upd_same
    have e2 : (upd (upd H dx (exd dx [("word", .str "FarError")])) a (exo a C (some dx))) dx = some (exd dx [("word", .str "FarError")]) := by rw [upd_ne ne, upd_same]
    refine ⟨n, rfl, .ref a, rfl, a, C, rfl, T.o, hno, .inr ⟨dx, _, e1, e2, by show 1 ≤ 900; decide, ?_⟩⟩
    refine ⟨.ref a, rfl, a, C, rfl, T.o, T.w, .inr ⟨dx, _, by rw [upd_ne ne.symm]; exact e1, upd_same, by show 2 ≤ 900; decide, ?_⟩⟩
    refine q _ dx ndx (by rw [upd_ne ne.symm, upd_ne ne.symm]; exact e1) upd_same fun b o nb hb => ?_
    have nbd : b ≠ dx := ne_of_none hb ndx
    rw [upd_ne nbd, upd_ne nbd, upd_ne nb, upd_ne nbd]
    exact hb
end
theorem bg_raise {K : PySem.W.Frag} {C t : Addr} {i : Nat} {σ : L2.St} {xs : List V} {H : Hp} {E : XK} (e : ErrT K C) (n1 : PySem.W.findIn K (.ref C) "mating" = some none) (ht : H t = some (.tup xs)) (hx : ∀ y ∈ xs, MV y) (hl : xs.length ≤ 20) (hσ : σ[i]? = some (some (.ref t)))
    (q2 : ∀ (H' : Hp) (d : Addr), Same H H' → H d = none → H' d = some (.xd (bgF (.ref t))) → E (.ref C) (some d) H') : (tMkO C (spBgInit K) [] (tCons (tVar i) tNil)) σ H (fun cls d H' => E cls d H') := by
  refine ⟨.ref t, hσ, by show 1 ≤ 1000; decide, fun a na => ?_⟩
  refine ⟨a, C, t, xs, rfl, same_upd na _ _ ht, hx, hl, e, n1, upd_same, fun H' dx ndx ea ed kp => ⟨rfl, dx, bgF (.ref t), ea, ed, (same_upd na).free ndx, ?_⟩⟩
  refine q2 _ dx (fun b o hb' => ?_) ((same_upd na).free ndx) upd_same
  have nba : b ≠ a := ne_of_none hb' na
  have nbd : b ≠ dx := ne_of_none hb' ((same_upd na).free ndx)
  rw [upd_ne nbd, del_ne nba]
  exact kp b o nba (by rw [upd_ne nba]; exact hb')
theorem fu_raise {K : PySem.W.Frag} {C : Addr} {ta : TE} {σ : L2.St} {n : V} {H : Hp} {E : XK} (e : ErrT K C) (n1 : PySem.W.findIn K (.ref C) "most" = some none) (hn : FV n) (hσ : ∀ Q : VK, Q n H → ta σ H Q)
    (q2 : ∀ (H' : Hp) (d : Addr), Same H H' → H d = none → H' d = some (.xd (fuF n)) → E (.ref C) (some d) H') : (tMkO C (spFuInit K) [] (tCons ta tNil)) σ H (fun cls d H' => E cls d H') := by
  refine hσ _ ⟨by show 1 ≤ 1000; decide, fun a na => ?_⟩
  refine ⟨a, C, n, rfl, hn, e, n1, upd_same, fun H' dx ndx ea ed kp => ⟨rfl, dx, fuF n, ea, ed, (same_upd na).free ndx, ?_⟩⟩
  refine q2 _ dx (fun b o hb' => ?_) ((same_upd na).free ndx) upd_same
  have nba : b ≠ a := ne_of_none hb' na
  have nbd : b ≠ dx := ne_of_none hb' ((same_upd na).free ndx)
  rw [upd_ne nbd, del_ne nba]
  exact kp b o nba (by rw [upd_ne nba]; exact hb')
theorem bn_raiseE {K : PySem.W.Frag} {C : Addr} {ta : TE} {σ : L2.St} {n : V} {H : Hp} {E : XK} (e : ErrT K C) (n1 : PySem.W.findIn K (.ref C) "number" = some none) (hn : FV n) (hσ : ∀ Q : VK, Q n H → ta σ H Q)
    (q2 : ∀ (H' : Hp) (d : Addr), Same H H' → H d = none → H' d = some (.xd (bnF n)) → E (.ref C) (some d) H') : (tMkO C (spBnInit K) [] (tCons ta tNil)) σ H (fun cls d H' => E cls d H') := by
  refine hσ _ ⟨by show 1 ≤ 1000; decide, fun a na => ?_⟩
  refine ⟨a, C, n, rfl, hn, e, n1, upd_same, fun H' dx ndx ea ed kp => ⟨rfl, dx, bnF n, ea, ed, (same_upd na).free ndx, ?_⟩⟩
  refine q2 _ dx (fun b o hb' => ?_) ((same_upd na).free ndx) upd_same
  have nba : b ≠ a := ne_of_none hb' na
  have nbd : b ≠ dx := ne_of_none hb' ((same_upd na).free ndx)
  rw [upd_ne nbd, del_ne nba]
  exact kp b o nba (by rw [upd_ne nba]; exact hb')
theorem bn_wordE (x : V) : (bnF x).lookup ("word" : Str) = some (.str "BadNumber") := by
  unfold bnF
  rw [lookup_put, if_pos rfl]
theorem bn_fldE (x : V) : (bnF x).lookup ("number" : Str) = some x := by
  unfold bnF
  rw [lookup_put, if_neg (by decide +kernel), lookup_put, if_pos rfl]
theorem bg_wordE (x : V) : (bgF x).lookup ("word" : Str) = some (.str "BadMating") := by
  unfold bgF
  rw [lookup_put, if_pos rfl]
theorem bg_fldE (x : V) : (bgF x).lookup ("mating" : Str) = some x := by
  unfold bgF
  rw [lookup_put, if_neg (by decide +kernel), lookup_put, if_pos rfl]
theorem fu_wordE (x : V) : (fuF x).lookup ("word" : Str) = some (.str "Full") := by
  unfold fuF
  rw [lookup_put, if_pos rfl]
theorem fu_fldE (x : V) : (fuF x).lookup ("most" : Str) = some x := by
  unfold fuF
  rw [lookup_put, if_neg (by decide +kernel), lookup_put, if_pos rfl]
/-! ### _law_fields of the three errors of a road -/
structure OthBnE (K : PySem.W.Frag) (mg : Str → Option Value) (C c0 c1 c2 : Addr) : Prop where
  g_NoMating : mg "NoMating" = some (.ref c0)
  g_NoFamily : mg "NoFamily" = some (.ref c1)
  g_TooMuch : mg "TooMuch" = some (.ref c2)
structure OthBgE (K : PySem.W.Frag) (mg : Str → Option Value) (C c0 c1 c2 c3 c4 c5 c6 : Addr) : Prop where
  g_BadNumber : mg "BadNumber" = some (.ref c0)
  g_NoMating : mg "NoMating" = some (.ref c1)
  g_NoFamily : mg "NoFamily" = some (.ref c2)
  g_TooMuch : mg "TooMuch" = some (.ref c3)
  g_BadName : mg "BadName" = some (.ref c4)
  g_Taken : mg "Taken" = some (.ref c5)
  g_NoRoad : mg "NoRoad" = some (.ref c6)
  no : ∀ D ∈ [c0, c1, c2, c3, c4, c5, c6], PySem.W.kitOne K (.ref C) (.ref D) = some false
structure OthFuE (K : PySem.W.Frag) (mg : Str → Option Value) (C c0 c1 c2 c3 c4 c5 c6 c7 c8 c9 c10 c11 c12 c13 c14 c15 c16 : Addr) : Prop where
  g_BadNumber : mg "BadNumber" = some (.ref c0)
  g_NoMating : mg "NoMating" = some (.ref c1)
  g_NoFamily : mg "NoFamily" = some (.ref c2)
  g_TooMuch : mg "TooMuch" = some (.ref c3)
  g_BadName : mg "BadName" = some (.ref c4)
  g_Taken : mg "Taken" = some (.ref c5)
  g_NoRoad : mg "NoRoad" = some (.ref c6)
  g_BadMating : mg "BadMating" = some (.ref c7)
  g_BadPlace : mg "BadPlace" = some (.ref c8)
  g_BadStretch : mg "BadStretch" = some (.ref c9)
  g_BadMove : mg "BadMove" = some (.ref c10)
  g_BadMoves : mg "BadMoves" = some (.ref c11)
  g_BadText : mg "BadText" = some (.ref c12)
  g_BadBoard : mg "BadBoard" = some (.ref c13)
  g_BadCounts : mg "BadCounts" = some (.ref c14)
  g_BadSide : mg "BadSide" = some (.ref c15)
  g_NoSide : mg "NoSide" = some (.ref c16)
  no : ∀ D ∈ [c0, c1, c2, c3, c4, c5, c6, c7, c8, c9, c10, c11, c12, c13, c14, c15, c16], PySem.W.kitOne K (.ref C) (.ref D) = some false
section
variable {P : Program} {w : World} {K : PySem.W.Frag} {mg : Str → Option Value} {base : Heap}
theorem ok_fieldsBnE {f CF C fI c0 c1 c2 dd : Addr} {fd fdI : FuncData} {p : Addr × Obj} {N : List Str} (x : V) (D : DefAt K mg "_law_fields" s_fields P_fields f fd) (B : Bn mg) (T : ErT K mg CF C fI fdI "BadNumber" N) (O : OthBnE K mg C c0 c1 c2)
    (n1 : PySem.W.findIn K (.ref C) "number" = some none) (hH : Held p C dd) : FnP P w K mg base p 1 f fd P_fields (spFieldsG p dd (fun f => f = bnF x) (fun _ v _ => v = x)) := by
  refine Fun.okP D.F sc_fields (fun vs H Q E h => ?_) (fun cdv A outer s H vs Q E hr h => ?_)
  · obtain ⟨fs, rfl, _⟩ := h
    rfl
  · obtain ⟨fs, rfl, hd, rfl, q⟩ := h
    refine ⟨_, (pss_cons (ps_if (pt_val (pe_callB (call_heldT hH List.mem_cons_self T.c) (by rfl) B.isinstance (by decide +kernel) (pa_cons (pv 0) (pa_cons (pe_tup (pa_cons (pe_glob (v := .ref C) (by rfl) T.gC rfl) (pa_cons (pe_glob (v := .ref c0) (by rfl) O.g_NoMating rfl) (pa_cons (pe_glob (v := .ref c1) (by rfl) O.g_NoFamily rfl) (pa_cons (pe_glob (v := .ref c2) (by rfl) O.g_TooMuch rfl) pa_nil))))) pa_nil)))) (pss_one (ps_ret (pe_heldf hH List.mem_cons_self T.x n1 (pv 0)))) pss_nil) pss_never), ?_⟩
    have s0 : Same H H := fun b o hb => hb
    refine ⟨.ref p.1, rfl, by show 4 ≤ sizeLine; decide, fun tp0 ntp0 => ?_⟩
    have s1 := s0.trans (same_upd (o := .tup [.ref C, .ref c0, .ref c1, .ref c2]) ntp0)
    refine ⟨tp0, _, [.ref C, .ref c0, .ref c1, .ref c2], true, bnF x, rfl, upd_same, (.cons (.own _) (.cons (.own _) (.cons (.own _) (.cons (.own _) .nil)))), by simp [PySem.W.kitAny, PySem.W.kitOne], s1 _ _ hd, _, rfl, iteT ?_⟩
    exact ⟨.ref p.1, rfl, rfl, bnF x, x, s1 _ _ hd, bn_fldE x, q _ _ s1 rfl⟩
theorem ok_fieldsBgE {f CF C fI c0 c1 c2 c3 c4 c5 c6 dd : Addr} {fd fdI : FuncData} {p : Addr × Obj} {N : List Str} (x : V) (D : DefAt K mg "_law_fields" s_fields P_fields f fd) (B : Bn mg) (T : ErT K mg CF C fI fdI "BadMating" N) (O : OthBgE K mg C c0 c1 c2 c3 c4 c5 c6)
    (n1 : PySem.W.findIn K (.ref C) "mating" = some none) (hH : Held p C dd) : FnP P w K mg base p 1 f fd P_fields (spFieldsG p dd (fun f => f = bgF x) (fun _ v _ => v = x)) := by
  refine Fun.okP D.F sc_fields (fun vs H Q E h => ?_) (fun cdv A outer s H vs Q E hr h => ?_)
  · obtain ⟨fs, rfl, _⟩ := h
    rfl
  · obtain ⟨fs, rfl, hd, rfl, q⟩ := h
    refine ⟨_, (pss_cons (ps_if (pt_val (pe_callB (call_heldT hH List.mem_cons_self T.c) (by rfl) B.isinstance (by decide +kernel) (pa_cons (pv 0) (pa_cons (pe_tup (pa_cons (pe_glob (v := .ref c0) (by rfl) O.g_BadNumber rfl) (pa_cons (pe_glob (v := .ref c1) (by rfl) O.g_NoMating rfl) (pa_cons (pe_glob (v := .ref c2) (by rfl) O.g_NoFamily rfl) (pa_cons (pe_glob (v := .ref c3) (by rfl) O.g_TooMuch rfl) pa_nil))))) pa_nil)))) (pss_one ps_never) pss_nil)
      (pss_cons (ps_if (pt_val (pe_callB (call_heldT hH List.mem_cons_self T.c) (by rfl) B.isinstance (by decide +kernel) (pa_cons (pv 0) (pa_cons (pe_tup (pa_cons (pe_glob (v := .ref c4) (by rfl) O.g_BadName rfl) (pa_cons (pe_glob (v := .ref c5) (by rfl) O.g_Taken rfl) (pa_cons (pe_glob (v := .ref c6) (by rfl) O.g_NoRoad rfl) pa_nil)))) pa_nil)))) (pss_one ps_never) pss_nil)
      (pss_cons (ps_if (pt_val (pe_callB (call_held1 hH List.mem_cons_self T.c) (by rfl) B.isinstance (by decide +kernel) (pa_cons (pv 0) (pa_cons (pe_glob (v := .ref C) (by rfl) T.gC rfl) pa_nil)))) (pss_one (ps_ret (pe_heldf hH List.mem_cons_self T.x n1 (pv 0)))) pss_nil) pss_never))), ?_⟩
    have s0 : Same H H := fun b o hb => hb
    refine ⟨.ref p.1, rfl, by show 4 ≤ sizeLine; decide, fun tp0 ntp0 => ?_⟩
    have s1 := s0.trans (same_upd (o := .tup [.ref c0, .ref c1, .ref c2, .ref c3]) ntp0)
    refine ⟨tp0, _, [.ref c0, .ref c1, .ref c2, .ref c3], false, bgF x, rfl, upd_same, (.cons (.own _) (.cons (.own _) (.cons (.own _) (.cons (.own _) .nil)))), any_no (ds := [c0, c1, c2, c3]) fun D hD => O.no D (by revert hD; simp only [List.mem_cons, List.not_mem_nil, or_false]; intro hD; rcases hD with h | h | h | h <;> simp [h]), s1 _ _ hd, _, rfl, iteF ?_⟩
    refine ⟨.ref p.1, rfl, by show 3 ≤ sizeLine; decide, fun tp1 ntp1 => ?_⟩
    have s2 := s1.trans (same_upd (o := .tup [.ref c4, .ref c5, .ref c6]) ntp1)
    refine ⟨tp1, _, [.ref c4, .ref c5, .ref c6], false, bgF x, rfl, upd_same, (.cons (.own _) (.cons (.own _) (.cons (.own _) .nil))), any_no (ds := [c4, c5, c6]) fun D hD => O.no D (by revert hD; simp only [List.mem_cons, List.not_mem_nil, or_false]; intro hD; rcases hD with h | h | h <;> simp [h]), s2 _ _ hd, _, rfl, iteF ?_⟩
    refine ⟨.ref p.1, rfl, C, true, bgF x, rfl, by simp [PySem.W.kitOne], s2 _ _ hd, _, rfl, iteT ?_⟩
    exact ⟨.ref p.1, rfl, rfl, bgF x, x, s2 _ _ hd, bg_fldE x, q _ _ s2 rfl⟩
theorem ok_fieldsFuE {f CF C fI c0 c1 c2 c3 c4 c5 c6 c7 c8 c9 c10 c11 c12 c13 c14 c15 c16 dd : Addr} {fd fdI : FuncData} {p : Addr × Obj} {N : List Str} (x : V) (D : DefAt K mg "_law_fields" s_fields P_fields f fd) (B : Bn mg) (T : ErT K mg CF C fI fdI "Full" N) (O : OthFuE K mg C c0 c1 c2 c3 c4 c5 c6 c7 c8 c9 c10 c11 c12 c13 c14 c15 c16)
    (n1 : PySem.W.findIn K (.ref C) "most" = some none) (hH : Held p C dd) : FnP P w K mg base p 1 f fd P_fields (spFieldsG p dd (fun f => f = fuF x) (fun _ v _ => v = x)) := by
  refine Fun.okP D.F sc_fields (fun vs H Q E h => ?_) (fun cdv A outer s H vs Q E hr h => ?_)
  · obtain ⟨fs, rfl, _⟩ := h
    rfl
  · obtain ⟨fs, rfl, hd, rfl, q⟩ := h
    refine ⟨_, (pss_cons (ps_if (pt_val (pe_callB (call_heldT hH List.mem_cons_self T.c) (by rfl) B.isinstance (by decide +kernel) (pa_cons (pv 0) (pa_cons (pe_tup (pa_cons (pe_glob (v := .ref c0) (by rfl) O.g_BadNumber rfl) (pa_cons (pe_glob (v := .ref c1) (by rfl) O.g_NoMating rfl) (pa_cons (pe_glob (v := .ref c2) (by rfl) O.g_NoFamily rfl) (pa_cons (pe_glob (v := .ref c3) (by rfl) O.g_TooMuch rfl) pa_nil))))) pa_nil)))) (pss_one ps_never) pss_nil)
      (pss_cons (ps_if (pt_val (pe_callB (call_heldT hH List.mem_cons_self T.c) (by rfl) B.isinstance (by decide +kernel) (pa_cons (pv 0) (pa_cons (pe_tup (pa_cons (pe_glob (v := .ref c4) (by rfl) O.g_BadName rfl) (pa_cons (pe_glob (v := .ref c5) (by rfl) O.g_Taken rfl) (pa_cons (pe_glob (v := .ref c6) (by rfl) O.g_NoRoad rfl) pa_nil)))) pa_nil)))) (pss_one ps_never) pss_nil)
      (pss_cons (ps_if (pt_val (pe_callB (call_held1 hH List.mem_cons_self T.c) (by rfl) B.isinstance (by decide +kernel) (pa_cons (pv 0) (pa_cons (pe_glob (v := .ref c7) (by rfl) O.g_BadMating rfl) pa_nil)))) (pss_one ps_never) pss_nil)
      (pss_cons (ps_if (pt_val (pe_callB (call_held1 hH List.mem_cons_self T.c) (by rfl) B.isinstance (by decide +kernel) (pa_cons (pv 0) (pa_cons (pe_glob (v := .ref c8) (by rfl) O.g_BadPlace rfl) pa_nil)))) (pss_one ps_never) pss_nil)
      (pss_cons (ps_if (pt_val (pe_callB (call_held1 hH List.mem_cons_self T.c) (by rfl) B.isinstance (by decide +kernel) (pa_cons (pv 0) (pa_cons (pe_glob (v := .ref c9) (by rfl) O.g_BadStretch rfl) pa_nil)))) (pss_one ps_never) pss_nil)
      (pss_cons (ps_if (pt_val (pe_callB (call_held1 hH List.mem_cons_self T.c) (by rfl) B.isinstance (by decide +kernel) (pa_cons (pv 0) (pa_cons (pe_glob (v := .ref c10) (by rfl) O.g_BadMove rfl) pa_nil)))) (pss_one ps_never) pss_nil)
      (pss_cons (ps_if (pt_val (pe_callB (call_heldT hH List.mem_cons_self T.c) (by rfl) B.isinstance (by decide +kernel) (pa_cons (pv 0) (pa_cons (pe_tup (pa_cons (pe_glob (v := .ref c11) (by rfl) O.g_BadMoves rfl) (pa_cons (pe_glob (v := .ref c12) (by rfl) O.g_BadText rfl) pa_nil))) pa_nil)))) (pss_one ps_never) pss_nil)
      (pss_cons (ps_if (pt_val (pe_callB (call_heldT hH List.mem_cons_self T.c) (by rfl) B.isinstance (by decide +kernel) (pa_cons (pv 0) (pa_cons (pe_tup (pa_cons (pe_glob (v := .ref c13) (by rfl) O.g_BadBoard rfl) (pa_cons (pe_glob (v := .ref c14) (by rfl) O.g_BadCounts rfl) pa_nil))) pa_nil)))) (pss_one ps_never) pss_nil)
      (pss_cons (ps_if (pt_val (pe_callB (call_heldT hH List.mem_cons_self T.c) (by rfl) B.isinstance (by decide +kernel) (pa_cons (pv 0) (pa_cons (pe_tup (pa_cons (pe_glob (v := .ref c15) (by rfl) O.g_BadSide rfl) (pa_cons (pe_glob (v := .ref c16) (by rfl) O.g_NoSide rfl) pa_nil))) pa_nil)))) (pss_one ps_never) pss_nil)
      (pss_one (ps_ret (pe_ifExp (pt_val (pe_callB (call_held1 hH List.mem_cons_self T.c) (by rfl) B.isinstance (by decide +kernel) (pa_cons (pv 0) (pa_cons (pe_glob (v := .ref C) (by rfl) T.gC rfl) pa_nil)))) (pe_heldf hH List.mem_cons_self T.x n1 (pv 0)) pe_non)))))))))))), ?_⟩
    have s0 : Same H H := fun b o hb => hb
    refine ⟨.ref p.1, rfl, by show 4 ≤ sizeLine; decide, fun tp0 ntp0 => ?_⟩
    have s1 := s0.trans (same_upd (o := .tup [.ref c0, .ref c1, .ref c2, .ref c3]) ntp0)
    refine ⟨tp0, _, [.ref c0, .ref c1, .ref c2, .ref c3], false, fuF x, rfl, upd_same, (.cons (.own _) (.cons (.own _) (.cons (.own _) (.cons (.own _) .nil)))), any_no (ds := [c0, c1, c2, c3]) fun D hD => O.no D (by revert hD; simp only [List.mem_cons, List.not_mem_nil, or_false]; intro hD; rcases hD with h | h | h | h <;> simp [h]), s1 _ _ hd, _, rfl, iteF ?_⟩
    refine ⟨.ref p.1, rfl, by show 3 ≤ sizeLine; decide, fun tp1 ntp1 => ?_⟩
    have s2 := s1.trans (same_upd (o := .tup [.ref c4, .ref c5, .ref c6]) ntp1)
    refine ⟨tp1, _, [.ref c4, .ref c5, .ref c6], false, fuF x, rfl, upd_same, (.cons (.own _) (.cons (.own _) (.cons (.own _) .nil))), any_no (ds := [c4, c5, c6]) fun D hD => O.no D (by revert hD; simp only [List.mem_cons, List.not_mem_nil, or_false]; intro hD; rcases hD with h | h | h <;> simp [h]), s2 _ _ hd, _, rfl, iteF ?_⟩
    refine ⟨.ref p.1, rfl, c7, false, fuF x, rfl, O.no c7 (by simp), s2 _ _ hd, _, rfl, iteF ?_⟩
    refine ⟨.ref p.1, rfl, c8, false, fuF x, rfl, O.no c8 (by simp), s2 _ _ hd, _, rfl, iteF ?_⟩
    refine ⟨.ref p.1, rfl, c9, false, fuF x, rfl, O.no c9 (by simp), s2 _ _ hd, _, rfl, iteF ?_⟩
    refine ⟨.ref p.1, rfl, c10, false, fuF x, rfl, O.no c10 (by simp), s2 _ _ hd, _, rfl, iteF ?_⟩
    refine ⟨.ref p.1, rfl, by show 2 ≤ sizeLine; decide, fun tp2 ntp2 => ?_⟩
    have s3 := s2.trans (same_upd (o := .tup [.ref c11, .ref c12]) ntp2)
    refine ⟨tp2, _, [.ref c11, .ref c12], false, fuF x, rfl, upd_same, (.cons (.own _) (.cons (.own _) .nil)), any_no (ds := [c11, c12]) fun D hD => O.no D (by revert hD; simp only [List.mem_cons, List.not_mem_nil, or_false]; intro hD; rcases hD with h | h <;> simp [h]), s3 _ _ hd, _, rfl, iteF ?_⟩
    refine ⟨.ref p.1, rfl, by show 2 ≤ sizeLine; decide, fun tp3 ntp3 => ?_⟩
    have s4 := s3.trans (same_upd (o := .tup [.ref c13, .ref c14]) ntp3)
    refine ⟨tp3, _, [.ref c13, .ref c14], false, fuF x, rfl, upd_same, (.cons (.own _) (.cons (.own _) .nil)), any_no (ds := [c13, c14]) fun D hD => O.no D (by revert hD; simp only [List.mem_cons, List.not_mem_nil, or_false]; intro hD; rcases hD with h | h <;> simp [h]), s4 _ _ hd, _, rfl, iteF ?_⟩
    refine ⟨.ref p.1, rfl, by show 2 ≤ sizeLine; decide, fun tp4 ntp4 => ?_⟩
    have s5 := s4.trans (same_upd (o := .tup [.ref c15, .ref c16]) ntp4)
    refine ⟨tp4, _, [.ref c15, .ref c16], false, fuF x, rfl, upd_same, (.cons (.own _) (.cons (.own _) .nil)), any_no (ds := [c15, c16]) fun D hD => O.no D (by revert hD; simp only [List.mem_cons, List.not_mem_nil, or_false]; intro hD; rcases hD with h | h <;> simp [h]), s5 _ _ hd, _, rfl, iteF ?_⟩
    refine ⟨.ref p.1, rfl, C, true, fuF x, rfl, by simp [PySem.W.kitOne], s5 _ _ hd, _, rfl, iteT ?_⟩
    exact ⟨.ref p.1, rfl, rfl, fuF x, x, s5 _ _ hd, fu_fldE x, q _ _ s5 rfl⟩
/-- the three errors of a road -/
def I08 (CB CG CU : Addr) : Addr → Fds → Str → (V → Hp → Prop) → Prop := fun C fs word Fld => (∃ x, C = CB ∧ fs = bnF x ∧ word = "BadNumber" ∧ Fld = fun v _ => v = x) ∨ (∃ x, C = CG ∧ fs = bgF x ∧ word = "BadMating" ∧ Fld = fun v _ => v = x) ∨ ∃ x, C = CU ∧ fs = fuF x ∧ word = "Full" ∧ Fld = fun v _ => v = x
theorem whyI08 {f CF CB CG CU fI gI hI ac0 ac1 ac2 bc0 bc1 bc2 bc3 bc4 bc5 bc6 ec0 ec1 ec2 ec3 ec4 ec5 ec6 ec7 ec8 ec9 ec10 ec11 ec12 ec13 ec14 ec15 ec16 : Addr} {fd fdI gdI hdI : FuncData} {N M L : List Str} (D : DefAt K mg "_law_fields" s_fields P_fields f fd) (B : Bn mg)
    (Tb : ErT K mg CF CB fI fdI "BadNumber" N) (Ob : OthBnE K mg CB ac0 ac1 ac2) (n1 : PySem.W.findIn K (.ref CB) "number" = some none) (Tg : ErT K mg CF CG gI gdI "BadMating" M) (Og : OthBgE K mg CG bc0 bc1 bc2 bc3 bc4 bc5 bc6) (n2 : PySem.W.findIn K (.ref CG) "mating" = some none)
    (Tu : ErT K mg CF CU hI hdI "Full" L) (Ou : OthFuE K mg CU ec0 ec1 ec2 ec3 ec4 ec5 ec6 ec7 ec8 ec9 ec10 ec11 ec12 ec13 ec14 ec15 ec16) (n3 : PySem.W.findIn K (.ref CU) "most" = some none) :
    ∀ C fs word Fld, I08 CB CG CU C fs word Fld → WhyI P w K mg base CF f fd C fs word Fld := by
  rintro C fs word Fld (⟨x, rfl, rfl, rfl, rfl⟩ | ⟨x, rfl, rfl, rfl, rfl⟩ | ⟨x, rfl, rfl, rfl, rfl⟩)
  · exact ⟨Tb.m, Tb.x, Tb.e.w, bn_wordE x, fun v H H' _ h => h, fun p dd hH => ok_fieldsBnE x D B Tb Ob n1 hH⟩
  · exact ⟨Tg.m, Tg.x, Tg.e.w, bg_wordE x, fun v H H' _ h => h, fun p dd hH => ok_fieldsBgE x D B Tg Og n2 hH⟩
  · exact ⟨Tu.m, Tu.x, Tu.e.w, fu_wordE x, fun v H H' _ h => h, fun p dd hH => ok_fieldsFuE x D B Tu Ou n3 hH⟩
end

/-! ### a road that is none: need_road refuses (behind 82x_need, 76_roaderrs) -/
def goodLen (n : V) : Prop := ∃ i : Int, n = .int i ∧ 0 ≤ i ∧ i ≤ 1000000000000000000
/-- four values, told as a mating -/
abbrev Q4 := V × V × V × V
def q4 (x : Q4) : List V := [x.1, x.2.1, x.2.2.1, x.2.2.2]
def IBq (x : Q4) : Prop := IB x.1 ∧ IB x.2.1 ∧ IB x.2.2.1 ∧ IB x.2.2.2
abbrev isM (n : Int) (x : Q4) : Bool := isMat n x.1 x.2.1 x.2.2.1 x.2.2.2
def Mqs (H : Hp) (ts : List Addr) (qs : List Q4) : Prop := Paired (fun t x => H t = some (.tup (q4 x))) ts qs
theorem Mqs.keep {H H' : Hp} (k : KeepT H H') : ∀ {ts : List Addr} {qs : List Q4}, Mqs H ts qs → Mqs H' ts qs
  | _, _, .nil => .nil
  | _, _, .cons h r => .cons (k _ _ h) (Mqs.keep k r)
theorem Mqs.length {H : Hp} : ∀ {ts : List Addr} {qs : List Q4}, Mqs H ts qs → ts.length = qs.length
  | _, _, .nil => rfl
  | _, _, .cons _ r => congrArg (· + 1) (Mqs.length r)
theorem Mqs.at {H : Hp} : ∀ {ts : List Addr} {qs : List Q4}, Mqs H ts qs → ∀ (i : Nat) (t : Addr), ts[i]? = some t → ∃ x, qs[i]? = some x ∧ H t = some (.tup (q4 x))
  | _, _, .nil, i, t, h => by simp at h
  | _, _, .cons (b := x) h r, 0, t, e => by
    cases e
    exact ⟨x, rfl, h⟩
  | _, _, .cons h r, i + 1, t, e => Mqs.at r i t e
/-- what refuses a road, and with what -/
inductive RdBad (x : V) (ts : List Addr) (qs : List Q4) : Str → V → Prop
  | num : ¬ goodLen x → RdBad x ts qs "BadNumber" x
  | mat {n : Int} {j : Nat} {t : Addr} {q : Q4} : x = .int n → 0 ≤ n → n ≤ 1000000000000000000 → ts[j]? = some t → qs[j]? = some q → isM n q = false → (∀ i q', i < j → qs[i]? = some q' → isM n q' = true) → RdBad x ts qs "BadMating" (.ref t)
  | full {n : Int} : x = .int n → 0 ≤ n → n ≤ 1000000000000000000 → (∀ q ∈ qs, isM n q = true) → 24 < qs.length → RdBad x ts qs "Full" (.int 24)
/-- the error with this word and this value -/
def ErrIs (CB CG CU : Addr) (word : Str) (v : V) (C : Addr) (fs : Fds) : Prop := (word = "BadNumber" ∧ C = CB ∧ fs = bnF v) ∨ (word = "BadMating" ∧ C = CG ∧ fs = bgF v) ∨ (word = "Full" ∧ C = CU ∧ fs = fuF v)
theorem ErrIs.i08 {CB CG CU C : Addr} {word : Str} {v : V} {fs : Fds} (h : ErrIs CB CG CU word v C fs) : I08 CB CG CU C fs word (fun u _ => u = v) := by
  rcases h with ⟨rfl, rfl, rfl⟩ | ⟨rfl, rfl, rfl⟩ | ⟨rfl, rfl, rfl⟩
  · exact .inl ⟨v, rfl, rfl, rfl, rfl⟩
  · exact .inr (.inl ⟨v, rfl, rfl, rfl, rfl⟩)
  · exact .inr (.inr ⟨v, rfl, rfl, rfl, rfl⟩)
/-- E takes the error -/
def TakesE (CB CG CU : Addr) (H : Hp) (E : XK) (word : Str) (v : V) : Prop := ∀ (C : Addr) (fs : Fds) (H' : Hp) (d : Addr), ErrIs CB CG CU word v C fs → Same H H' → H d = none → H' d = some (.xd fs) → E (.ref C) (some d) H'
theorem TakesE.same {CB CG CU : Addr} {H H1 : Hp} {E : XK} {word : Str} {v : V} (h : TakesE CB CG CU H E word v) (s : Same H H1) : TakesE CB CG CU H1 E word v := fun C fs H' d e s' nd ed => h C fs H' d e (s.trans s') (s.free nd) ed
/-- a road in memory, a list or a tuple, told with any values -/
structure RqAt (H : Hp) (L : Addr) (ts : List Addr) (qs : List Q4) : Prop where
  at_L : H L = some (.lst (ts.map V.ref)) ∨ H L = some (.tup (ts.map V.ref))
  mq : Mqs H ts qs
  ib : ∀ q ∈ qs, IBq q
  len : qs.length ≤ 1000
theorem RqAt.same {H H' : Hp} {L : Addr} {ts : List Addr} {qs : List Q4} (h : RqAt H L ts qs) (s : Same H H') : RqAt H' L ts qs := ⟨h.at_L.imp (s _ _) (s _ _), h.mq.keep (fun b xs hb => s _ _ hb), h.ib, h.len⟩
def spFromX (CB CG CU : Addr) : Sp := fun vs H Q E => ∃ (lo : Int) (n : V), vs = [.int lo, n] ∧ FV n ∧ ((∃ i : Int, n = .int i ∧ lo ≤ i ∧ Q .non H) ∨ ((∀ i : Int, n = .int i → i < lo) ∧ TakesE CB CG CU H E "BadNumber" n))
def spWithinX (CB CG CU : Addr) : Sp := fun vs H Q E => ∃ (lo hi : Int) (n : V), vs = [.int lo, .int hi, n] ∧ FV n ∧ (∀ i : Int, n = .int i → i < lo ∨ hi < i) ∧ TakesE CB CG CU H E "BadNumber" n
def spLenX (CB CG CU : Addr) : Sp := fun vs H _ E => ∃ n : V, vs = [n] ∧ FV n ∧ ¬ goodLen n ∧ TakesE CB CG CU H E "BadNumber" n
def spMatX (CB CG CU : Addr) : Sp := fun vs H Q E => ∃ (n : Int) (t : Addr) (q : Q4), vs = [.int n, .ref t] ∧ 0 ≤ n ∧ n ≤ 1000000000000000000 ∧ H t = some (.tup (q4 q)) ∧ IBq q ∧ (isM n q = true → ∀ H', Same H H' → Q .non H') ∧ (isM n q = false → TakesE CB CG CU H E "BadMating" (.ref t))
def spRoadX (CB CG CU : Addr) : Sp := fun vs H _ E => ∃ (x : V) (L : Addr) (ts : List Addr) (qs : List Q4) (word : Str) (v : V), vs = [x, .ref L] ∧ FV x ∧ RqAt H L ts qs ∧ RdBad x ts qs word v ∧ TakesE CB CG CU H E word v
section
variable {P : Program} {w : World} {K : PySem.W.Frag} {mg : Str → Option Value} {base : Heap} {CB CG CU : Addr}
theorem ok_fromX {f CF fI : Addr} {fd fdI : FuncData} (D : DefAt K mg "need_from" s_need_from P_need_from f fd) (B : Bn mg) (Tb : ErT K mg CF CB fI fdI "BadNumber" N_bninit) (n1 : PySem.W.findIn K (.ref CB) "number" = some none) (GB : FnOk P w K mg base CX0 2 fI fdI N_bninit (spBnInit K)) : FnOk P w K mg base (L2.CX P w) 4 f fd P_need_from (spFromX CB CG CU) := by
  refine D.F.okX sc_need_from (fun vs H Q E h => ?_) (fun cdv A outer s H vs Q E hr h => ?_)
  · obtain ⟨lo, n, rfl, _⟩ := h
    rfl
  · obtain ⟨lo, n, rfl, hn, q⟩ := h
    refine ⟨_, (pss_one (ps_if (PW.pt (pw_or (pt_val (pe_callB call_isi (by rfl) B.isinstance (by decide +kernel) (pa_cons (pv 1) (pa_cons (pe_bltn (v := .ty "bool") (by rfl) B.bool (by decide +kernel) rfl) pa_nil)))) (pw_or1 (pt_cmpR op_lt (pv 1) (pv 0) (nomark _))))) (pss_one (ps_raise rfl (takes_of rfl rfl rfl rfl) (pmk_oex Tb.e.o Tb.iC Tb.tI GB (hr.mono (by omega)) Tb.bI .nil pass0 (by rfl) Tb.gC (pa_cons (pv 1) pa_nil)))) pss_nil)), ?_⟩
    have bad : (∀ i : Int, n = .int i → i < lo) ∧ TakesE CB CG CU H E "BadNumber" n → (tMkO CB (spBnInit K) [] (tCons (tVar 1) tNil)) [some (.int lo), some n] H (fun cls d H' => E cls d H') := fun z => bn_raiseE Tb.e n1 hn (fun Q q => ⟨n, rfl, q⟩) fun H' d s nd ed => z.2 _ _ _ _ (.inl ⟨rfl, rfl, rfl⟩) s nd ed
    rcases id hn with ⟨i, rfl, hi⟩ | ⟨b, rfl⟩
    · refine ⟨.int i, rfl, _, _, _, _, false, rfl, ClsV.ty _, TyX.base (TyOf.int _), kit_ty (by decide +kernel), _, rfl, ?_⟩
      refine ⟨.int i, rfl, .int lo, rfl, i, lo, rfl, rfl, _, rfl, ite2 (fun h0 => ?_) (fun h0 => ?_)⟩
      · have h0' : i < lo := of_decide_eq_true h0
        rcases q with ⟨j, e, lj, _⟩ | q
        · cases e
          omega
        · exact bad q
      · have h0' : ¬ i < lo := fun z => h0 (decide_eq_true z)
        rcases q with ⟨j, e, lj, q⟩ | q
        · exact q
        · exact absurd (q.1 i rfl) h0'
    · refine ⟨.bl b, rfl, _, _, _, _, true, rfl, ClsV.ty _, TyX.base (TyOf.bl _), kit_ty (by decide +kernel), _, rfl, ?_⟩
      rcases q with ⟨j, e, _⟩ | q
      · cases e
      · exact bad q
theorem ok_withinX {f fN CF fI : Addr} {fd fdN fdI : FuncData} (D : DefAt K mg "need_within" s_need_within P_need_within f fd) (D_need_from : DefAt K mg "need_from" s_need_from P_need_from fN fdN) (B : Bn mg) (Tb : ErT K mg CF CB fI fdI "BadNumber" N_bninit) (n1 : PySem.W.findIn K (.ref CB) "number" = some none) (GB : FnOk P w K mg base CX0 2 fI fdI N_bninit (spBnInit K)) : FnOk P w K mg base (L2.CX P w) 5 f fd P_need_within (spWithinX CB CG CU) := by
  have G_need_from : FnOk P w K mg base (L2.CX P w) 4 fN fdN P_need_from (spFromX CB CG CU) := ok_fromX D_need_from B Tb n1 GB
  refine D.F.okX sc_need_within (fun vs H Q E h => ?_) (fun cdv A outer s H vs Q E hr h => ?_)
  · obtain ⟨lo, hi, n, rfl, _⟩ := h
    rfl
  · obtain ⟨lo, hi, n, rfl, hn, bad, tk⟩ := h
    refine ⟨_, (pss_cons (ps_expr (pe_call G_need_from (hr.mono (by omega)) (by rfl) D_need_from.g D_need_from.F.kp D_need_from.b .nil (passes_call (takes_of rfl rfl rfl rfl) fun _ _ _ _ h => h) (pa_cons (pv 0) (pa_cons (pv 2) pa_nil))))
      (pss_one (ps_if (pt_cmpR op_gt (pv 2) (pv 1) (nomark _)) (pss_one (ps_raise rfl (takes_of rfl rfl rfl rfl) (pmk_oex Tb.e.o Tb.iC Tb.tI GB (hr.mono (by omega)) Tb.bI .nil pass0 (by rfl) Tb.gC (pa_cons (pv 2) pa_nil)))) pss_nil))), ?_⟩
    refine ⟨.int lo, rfl, n, rfl, lo, n, rfl, hn, ?_⟩
    by_cases g : ∃ i : Int, n = .int i ∧ lo ≤ i
    · obtain ⟨i, rfl, li⟩ := g
      refine .inl ⟨i, rfl, li, .int i, rfl, .int hi, rfl, i, hi, rfl, rfl, _, rfl, ite2 (fun h => ?_) (fun h => ?_)⟩
      · exact bn_raiseE Tb.e n1 hn (fun Q q => ⟨.int i, rfl, q⟩) fun H' d s nd ed => tk _ _ _ _ (.inl ⟨rfl, rfl, rfl⟩) s nd ed
      · have h' : ¬ hi < i := fun z => h (decide_eq_true z)
        have := bad i rfl
        omega
    · exact .inr ⟨fun i e => Int.not_le.mp fun z => g ⟨i, e, z⟩, tk⟩
theorem ok_lenX {f fN fV CF fI : Addr} {fd fdN fdV fdI : FuncData} {tok : Tok} (D : DefAt K mg "need_length" s_need_length P_need_length f fd) (D_need_from : DefAt K mg "need_from" s_need_from P_need_from fN fdN) (D_need_within : DefAt K mg "need_within" s_need_within P_need_within fV fdV) (B : Bn mg) (Tb : ErT K mg CF CB fI fdI "BadNumber" N_bninit) (n1 : PySem.W.findIn K (.ref CB) "number" = some none) (g_FAR : mg "FAR" = some (.int 1000000000000000000 tok))
    (GB : FnOk P w K mg base CX0 2 fI fdI N_bninit (spBnInit K)) : FnOk P w K mg base (L2.CX P w) 6 f fd P_need_length (spLenX CB CG CU) := by
  have G_need_within : FnOk P w K mg base (L2.CX P w) 5 fV fdV P_need_within (spWithinX CB CG CU) := ok_withinX D_need_within D_need_from B Tb n1 GB
  refine D.F.okX sc_need_length (fun vs H Q E h => ?_) (fun cdv A outer s H vs Q E hr h => ?_)
  · obtain ⟨n, rfl, _⟩ := h
    rfl
  · obtain ⟨n, rfl, hn, bad, tk⟩ := h
    refine ⟨_, (pss_one (ps_expr (pe_call G_need_within (hr.mono (by omega)) (by rfl) D_need_within.g D_need_within.F.kp D_need_within.b .nil (passes_call (takes_of rfl rfl rfl rfl) fun _ _ _ _ h => h) (pa_cons pe_int (pa_cons (pe_glob (v := .int _) (by rfl) g_FAR ⟨_, rfl⟩) (pa_cons (pv 0) pa_nil)))))), ?_⟩
    refine ⟨n, rfl, 0, 1000000000000000000, n, rfl, hn, fun i e => ?_, tk⟩
    refine Classical.byContradiction fun z => bad ⟨i, e, by omega, by omega⟩
theorem ok_matX {f fM CF fI : Addr} {fd fdM fdI : FuncData} (D : DefAt K mg "need_mating" s_need_mating P_need_mating f fd) (D_is_mating : DefAt K mg "is_mating" s_is_mating P_is_mating fM fdM) (B : Bn mg) (Tg : ErT K mg CF CG fI fdI "BadMating" N_bginit) (n2 : PySem.W.findIn K (.ref CG) "mating" = some none) (GG : FnOk P w K mg base CX0 2 fI fdI N_bginit (spBgInit K)) : FnOk P w K mg base (L2.CX P w) 4 f fd P_need_mating (spMatX CB CG CU) := by
  have G_is_mating : FnOk P w K mg base CX0 1 fM fdM P_is_mating spIsMat := ok_is_mating D_is_mating B
  refine D.F.okX sc_need_mating (fun vs H Q E h => ?_) (fun cdv A outer s H vs Q E hr h => ?_)
  · obtain ⟨n, t, q, rfl, _⟩ := h
    rfl
  · obtain ⟨n, t, q, rfl, n0, n1, et, ⟨i1, i2, i3, i4⟩, q1, q2⟩ := h
    refine ⟨_, (pss_one (ps_if (pt_not (pt_val (pe_call G_is_mating (hr.mono (by omega)) (by rfl) D_is_mating.g D_is_mating.F.kp D_is_mating.b .nil pass0 (pa_cons (pv 0) (pa_cons (pv 1) pa_nil))))) (pss_one (ps_raise rfl (takes_of rfl rfl rfl rfl) (pmk_oex Tg.e.o Tg.iC Tg.tI GG (hr.mono (by omega)) Tg.bI .nil pass0 (by rfl) Tg.gC (pa_cons (pv 1) pa_nil)))) pss_nil)), ?_⟩
    refine ⟨.int n, rfl, .ref t, rfl, n, t, q.1, q.2.1, q.2.2.1, q.2.2.2, rfl, by omega, et, i1, i2, i3, i4, fun H3 s3 => ?_⟩
    cases e : isM n q with
    | true =>
      rw [show isMat n q.1 q.2.1 q.2.2.1 q.2.2.2 = true from e]
      exact ⟨true, rfl, iteF (q1 e _ s3)⟩
    | false =>
      rw [show isMat n q.1 q.2.1 q.2.2.1 q.2.2.2 = false from e]
      refine ⟨false, rfl, iteT ?_⟩
      refine bg_raise (σ := [some (.int n), some (.ref t)]) (i := 1) Tg.e n2 (s3 _ _ et) (fun y hy => ?_) (by show 4 ≤ 20; decide) rfl fun H' d s nd ed => (q2 e).same s3 _ _ _ _ (.inr (.inl ⟨rfl, rfl, rfl⟩)) s nd ed
      have hy : y ∈ [q.1, q.2.1, q.2.2.1, q.2.2.2] := hy
      simp only [List.mem_cons, List.not_mem_nil, or_false] at hy
      rcases hy with rfl | rfl | rfl | rfl
      · exact .inl i1.fv
      · exact .inl i2.fv
      · exact .inl i3.fv
      · exact .inl i4.fv
end

/-! ### moved -/
abbrev s_moved : Stmt := top 37
abbrev N_moved : List Str := ["mating", "by", "one", "other", "many", "turned"]
abbrev P_moved : List Str := ["mating", "by"]
theorem sc_moved : FnScope N_moved P_moved (defScope s_moved) := ⟨rfl, rfl, rfl, by decide +kernel, rfl, by decide +kernel, by decide +kernel⟩
def spMoved : Sp := fun vs H Q _ => ∃ (t : Addr) (o p m f b : Int), vs = [.ref t, .int b] ∧ H t = some (tup4 o p m f) ∧ ∀ r, H r = none → Q (.ref r) (upd H r (tup4 (o + b) (p + b) m f))
section
variable {P : Program} {w : World} {K : PySem.W.Frag} {mg : Str → Option Value} {base : Heap}
theorem ok_moved {f : Addr} {fd : FuncData} (D : DefAt K mg "moved" s_moved P_moved f fd) : FnOk P w K mg base CX0 1 f fd P_moved spMoved := by
  refine D.F.ok sc_moved (fun vs H Q E h => ?_) (fun cdv A outer s H vs Q E hr h => ?_)
  · obtain ⟨t, o, p, m, f, b, rfl, _⟩ := h
    rfl
  · obtain ⟨t, o, p, m, f, b, rfl, ht, q⟩ := h
    refine ⟨_, (pss_cons (ps_asg (pv 0) (pg_tup (by rfl) (pgs_cons (pg_name (i := 2) sc_moved.nd rfl (.inl rfl)) (pgs_cons (pg_name (i := 3) sc_moved.nd rfl (.inl rfl)) (pgs_cons (pg_name (i := 4) sc_moved.nd rfl (.inl rfl)) (pgs_cons (pg_name (i := 5) sc_moved.nd rfl (.inl rfl)) pgs_nil))))))
      (pss_one (ps_ret (pe_tup (pa_cons (pe_op op_add (pv 2) (pv 1)) (pa_cons (pe_op op_add (pv 3) (pv 1)) (pa_cons (pv 4) (pa_cons (pv 5) pa_nil)))))))), ?_⟩
    refine ⟨.ref t, rfl, t, _, rfl, SqT.of ht, rfl, .int o, _, rfl, .int p, _, rfl, .int m, _, rfl, .int f, _, rfl, rfl, ?_⟩
    exact ⟨.int o, rfl, .int b, rfl, o, b, rfl, rfl, .int p, rfl, .int b, rfl, p, b, rfl, rfl, .int m, rfl, .int f, rfl, by show 4 ≤ sizeLine; decide, fun r hr' => q r hr'⟩
end

/-! ### a road: behind -/
abbrev s_Ro_behind : Stmt := inClass (top 65) 10
abbrev N_Ro_behind : List Str := ["self", "other", "length", "standing", "at", "number", "mating"]
abbrev P_Ro_behind : List Str := ["self", "other"]
theorem sc_Ro_behind : FnScope N_Ro_behind P_Ro_behind (defScope s_Ro_behind) := ⟨rfl, rfl, rfl, by decide +kernel, rfl, by decide +kernel, by decide +kernel⟩
def mvX (b : Int) (x : M4) : M4 := (x.1 + b, x.2.1 + b, x.2.2.1, x.2.2.2)
def bhS (N b : Int) : StL → StL
  | [] => []
  | s :: r => (N, mvX b s.2) :: bhS (N + 1) b r
theorem bhS_len (b : Int) : ∀ (N : Int) (l : StL), (bhS N b l).length = l.length
  | _, [] => rfl
  | N, s :: r => congrArg (· + 1) (bhS_len b (N + 1) r)
theorem bhS_snoc (b : Int) (s : Int × M4) : ∀ (N : Int) (l : StL), bhS N b (l ++ [s]) = bhS N b l ++ [(N + (l.length : Nat), mvX b s.2)]
  | N, [] => by
    show [(N, mvX b s.2)] = [(N + ((0 : Nat) : Int), mvX b s.2)]
    rw [show N + ((0 : Nat) : Int) = N by omega]
  | N, y :: r => by
    show (N, mvX b y.2) :: bhS (N + 1) b (r ++ [s]) = (N, mvX b y.2) :: (bhS (N + 1) b r ++ [(N + ((r.length + 1 : Nat) : Int), mvX b s.2)])
    rw [bhS_snoc b s (N + 1) r, show N + 1 + (r.length : Int) = N + ((r.length + 1 : Nat) : Int) by omega]
theorem bhS_in (b : Int) : ∀ (N : Int) (l : StL) (s : Int × M4), s ∈ bhS N b l → N ≤ s.1 ∧ s.1 < N + (l.length : Nat) ∧ ∃ t ∈ l, s.2 = mvX b t.2
  | N, y :: r, s, h => by
    simp only [List.length_cons]
    rcases List.mem_cons.mp h with rfl | h
    · exact ⟨Int.le_refl _, by show N < _; omega, y, List.mem_cons_self, rfl⟩
    · obtain ⟨h1, h2, t, ht, e⟩ := bhS_in b (N + 1) r s h
      exact ⟨by omega, by omega, t, List.mem_cons_of_mem _ ht, e⟩
theorem bhS_up (b : Int) : ∀ (N : Int) (l : StL), ((bhS N b l).map (·.1)).Pairwise (· < ·)
  | _, [] => List.Pairwise.nil
  | N, y :: r => by
    refine List.pairwise_cons.mpr ⟨fun z hz => ?_, bhS_up b (N + 1) r⟩
    obtain ⟨s, hs, rfl⟩ := List.mem_map.mp hz
    have := bhS_in b (N + 1) r s hs
    show N < s.1
    omega
theorem lg2_62 {i : Int} (h0 : 0 < i) (h1 : i < 4611686018427387904) : i.natAbs.log2 < 1920 :=
  (Nat.log2_lt (by omega)).mpr (Nat.lt_of_lt_of_le (show i.natAbs < 2 ^ 62 by omega) (Nat.pow_le_pow_right (by decide) (by decide)))
/-- the matings of S, those of S2 behind them -/
def bhd (n : Int) (S S2 : StL) : StL := S ++ bhS (nxt S) n S2
theorem bhd_up {n : Int} {S S2 : StL} (u : (S.map (·.1)).Pairwise (· < ·)) : ((bhd n S S2).map (·.1)).Pairwise (· < ·) := by
  unfold bhd
  rw [List.map_append, List.pairwise_append]
  refine ⟨u, bhS_up _ _ _, fun a ha b hb => ?_⟩
  obtain ⟨s, hs, rfl⟩ := List.mem_map.mp ha
  obtain ⟨t, ht, rfl⟩ := List.mem_map.mp hb
  have h1 := nxt_gt hs
  have h2 := (bhS_in _ _ _ _ ht).1
  omega
theorem RoW.behind {n n2 : Int} {S S2 : StL} (h : RoW n S) (h2 : RoW n2 S2) (hf : n + n2 ≤ 1000000000000000000) (hl : S.length + S2.length ≤ 24) : RoW (n + n2) (bhd n S S2) := by
  have n0 := h.n0
  have n20 := h2.n0
  refine ⟨by omega, hf, bhd_up h.up, fun s hs => ?_, ?_, fun s hs => ?_⟩
  · rcases List.mem_append.mp hs with z | z
    · exact h.low s z
    · have := (bhS_in _ _ _ _ z).1
      have := nxt_1 S
      omega
  · unfold bhd
    rw [List.length_append, bhS_len]
    exact hl
  · rcases List.mem_append.mp hs with z | z
    · obtain ⟨a1, a2, a3, a4, a5, a6⟩ := h.ok s z
      exact ⟨a1, a2, a3, a4, by omega, by omega⟩
    · obtain ⟨_, _, t, ht, e⟩ := bhS_in _ _ _ _ z
      obtain ⟨a1, a2, a3, a4, a5, a6⟩ := h2.ok t ht
      rw [e]
      exact ⟨a1, a2, by show 0 ≤ t.2.1 + n; omega, by show 0 ≤ t.2.2.1 + n; omega, by show t.2.1 + n + t.2.2.2.1 ≤ _; omega, by show t.2.2.1 + n + t.2.2.2.1 ≤ _; omega⟩
def spBehind (C5 CB CG CU : Addr) : Sp := fun vs H Q E => ∃ (g st g2 st2 : Addr) (n n2 : Int) (S S2 : StL) (k k2 : V) (c c2 : Int), vs = [.ref g, .ref g2] ∧ RoAt C5 H g st n S k c ∧ RoAt C5 H g2 st2 n2 S2 k2 c2 ∧ RoW n S ∧ RoW n2 S2 ∧
  (1000000000000000000 < n + n2 → TakesE CB CG CU H E "BadNumber" (.int (n + n2))) ∧ (n + n2 ≤ 1000000000000000000 → 24 < S.length + S2.length → TakesE CB CG CU H E "Full" (.int 24)) ∧
  (n + n2 ≤ 1000000000000000000 → S.length + S2.length ≤ 24 → ∀ (H' : Hp) (st' : Addr), RoAt C5 H' g st' (n + n2) (bhd n S S2) (if n + n2 = n ∧ bhd n S S2 = S then k else .non) c → Keep g H H' → H st' = none → Q .non H')
section
variable {P : Program} {w : World} {K : PySem.W.Frag} {mg : Str → Option Value} {base : Heap} {C5 CB CG CU : Addr}
theorem ok_Behind {f fB fN fL fM fV CF gB gU : Addr} {fd fdB fdN fdL fdM fdV gdB gdU : FuncData} {tok1 tok2 : Tok} (F : Fun K "behind" "Road.behind" s_Ro_behind f fd) (TRo_ : RoT K mg C5) (M_Ro_become : Meth K C5 "become" fB) (G_Ro_become : FnOk P w K mg base CX0 1 fB fdB P_Ro_become (spBecome C5)) (b_Ro_become : Binds K fdB P_Ro_become [])
    (M_Ro_next_number : Meth K C5 "next_number" fN) (G_Ro_next_number : FnOk P w K mg base CX0 1 fN fdN P_Ro_next_number (spNext C5)) (b_Ro_next_number : Binds K fdN P_Ro_next_number []) (M_Ro_length : Meth K C5 "length" fL) (G_Ro_length : FnOk P w K mg base CX0 1 fL fdL P_Ro_length (spRoLen C5)) (b_Ro_length : Binds K fdL P_Ro_length [])
    (M_Ro_matings : Meth K C5 "matings" fM) (G_Ro_matings : FnOk P w K mg base CX0 1 fM fdM P_Ro_matings (spMatings C5)) (b_Ro_matings : Binds K fdM P_Ro_matings []) (D_moved : DefAt K mg "moved" s_moved P_moved fV fdV)
    (g_FAR : mg "FAR" = some (.int 1000000000000000000 tok1)) (g_MOST : mg "MOST" = some (.int 24 tok2)) (zE : mg "enumerate" = none) (B : Bn mg) (Tb : ErT K mg CF CB gB gdB "BadNumber" N_bninit) (m1 : PySem.W.findIn K (.ref CB) "number" = some none) (GB : FnOk P w K mg base CX0 2 gB gdB N_bninit (spBnInit K))
    (Tu : ErT K mg CF CU gU gdU "Full" N_fuinit) (m3 : PySem.W.findIn K (.ref CU) "most" = some none) (GU : FnOk P w K mg base CX0 2 gU gdU N_fuinit (spFuInit K)) : FnOk P w K mg base (L2.CX P w) 4 f fd P_Ro_behind (spBehind C5 CB CG CU) := by
  have G_moved : FnOk P w K mg base CX0 1 fV fdV P_moved spMoved := ok_moved D_moved
  refine F.okX sc_Ro_behind (fun vs H Q E h => ?_) (fun cdv A outer s H vs Q E hr h => ?_)
  · obtain ⟨g, st, g2, st2, n, n2, S, S2, k, k2, c, c2, rfl, _⟩ := h
    rfl
  · obtain ⟨g, st, g2, st2, n, n2, S, S2, k, k2, c, c2, rfl, fa, fb, wf, wf2, q1, q2, qq⟩ := h
    have hu := hu_of hr
    obtain ⟨⟨dx, ea⟩, kvs, es, sd⟩ := id fa
    obtain ⟨⟨dx2, ea2⟩, kvs2, es2, sd2⟩ := id fb
    have n0 := wf.n0
    have n1 := wf.n1
    have n20 := wf2.n0
    have n21 := wf2.n1
    have lS := wf.len
    have lS2 := wf2.len
    have elk := sd.length
    refine ⟨_, (pss_cons (ps_set (i := 2) sc_Ro_behind.nd rfl (.inl rfl) (pe_op op_add (pe_fld (pv 0) rfl) (pe_meth0 (pv 1) TRo_.cl M_Ro_length G_Ro_length (hr.mono (by omega)) b_Ro_length .nil pass0)))
      (pss_cons (ps_if (pt_cmpR op_gt (pv 2) (pe_glob (v := .int _) (by rfl) g_FAR ⟨_, rfl⟩) (nomark _)) (pss_one (ps_raise rfl (takes_of rfl rfl rfl rfl) (pmk_oex Tb.e.o Tb.iC Tb.tI GB (hr.mono (by omega)) Tb.bI .nil pass0 (by rfl) Tb.gC (pa_cons (pv 2) pa_nil)))) pss_nil)
      (pss_cons (ps_if (pt_cmpR op_gt (pe_op op_add (pe_callB call_lenDk (by rfl) B.len (by decide +kernel) (pa_cons (pe_fld (pv 0) rfl) pa_nil)) (pe_callB call_len_seq (by rfl) B.len (by decide +kernel) (pa_cons (pe_meth0 (pv 1) TRo_.cl M_Ro_matings G_Ro_matings (hr.mono (by omega)) b_Ro_matings .nil pass0) pa_nil))) (pe_glob (v := .int _) (by rfl) g_MOST ⟨_, rfl⟩) (nomark _)) (pss_one (ps_raise rfl (takes_of rfl rfl rfl rfl) (pmk_oex Tu.e.o Tu.iC Tu.tI GU (hr.mono (by omega)) Tu.bI .nil pass0 (by rfl) Tu.gC (pa_cons (pe_glob (v := .int _) (by rfl) g_MOST ⟨_, rfl⟩) pa_nil)))) pss_nil)
      (pss_cons (ps_set (i := 3) sc_Ro_behind.nd rfl (.inl rfl) (pe_callTy call_dictD (by rfl) B.dict (by decide +kernel) (pa_cons (pe_fld (pv 0) rfl) pa_nil)))
      (pss_cons (ps_for (passes_of rfl) rfl (pi_enum (by rfl) zE (pa_cons (pe_meth0 (pv 1) TRo_.cl M_Ro_matings G_Ro_matings (hr.mono (by omega)) b_Ro_matings .nil pass0) pa_nil)) (pg_tup (by rfl) (pgs_cons (pg_name (i := 4) sc_Ro_behind.nd rfl (.inl rfl)) (pgs_cons (pg_tup (by rfl) (pgs_cons (pg_name (i := 5) sc_Ro_behind.nd rfl (.inl rfl)) (pgs_cons (pg_name (i := 6) sc_Ro_behind.nd rfl (.inl rfl)) pgs_nil))) pgs_nil))) (pss_one (ps_dput hu (pv 3) (pe_op op_add (pe_meth0 (pv 0) TRo_.cl M_Ro_next_number G_Ro_next_number (hr.mono (by omega)) b_Ro_next_number .nil pass0) (pv 4)) (pe_call G_moved (hr.mono (by omega)) (by rfl) D_moved.g D_moved.F.kp D_moved.b .nil pass0 (pa_cons (pv 6) (pa_cons (pe_fld (pv 0) rfl) pa_nil))) rfl)))
      (pss_one (ps_expr (pe_meth (pv 0) TRo_.cl M_Ro_become G_Ro_become (hr.mono (by omega)) b_Ro_become .nil pass0 (pa_cons (pv 2) (pa_cons (pv 3) pa_nil)))))))))), ?_⟩
    refine ⟨.ref g, rfl, g, C5, dx, _, .int n, rfl, ea, TRo_.cl, TRo_.nE, rfl, .ref g2, rfl, g2, dx2, _, rfl, ea2, rfl, g2, dx2, st2, n2, k2, c2, rfl, ea2, n, n2, rfl, rfl, ?_⟩
    refine ⟨.int (n + n2), rfl, n + n2, 1000000000000000000, rfl, rfl, _, rfl, ite2 (fun h => ?_) (fun h => ?_)⟩
    · have h' := of_decide_eq_true h
      exact bn_raiseE Tb.e m1 (.inl ⟨_, rfl, lg2_62 (by omega) (by omega)⟩) (fun Q q => ⟨.int (n + n2), rfl, q⟩) fun H' d s nd ed => q1 (by omega) _ _ _ _ (.inl ⟨rfl, rfl, rfl⟩) s nd ed
    have hF : n + n2 ≤ 1000000000000000000 := by
      have h' : ¬ n + n2 > 1000000000000000000 := fun z => h (decide_eq_true z)
      omega
    refine ⟨.ref g, rfl, g, C5, dx, _, .ref st, rfl, ea, TRo_.cl, TRo_.nS, rfl, st, kvs, rfl, es, .ref g2, rfl, g2, dx2, _, rfl, ea2, rfl, g2, st2, n2, S2, k2, c2, rfl, fb, wf2.up, by omega, fun H1 r1 us1 s1 nr1 er1 ls1 => ?_⟩
    have lu1 := ls1.length
    refine ⟨r1, _, rfl, .inl (SqL.of er1), (kvs.length : Int), _, rfl, rfl, _, 24, rfl, rfl, _, rfl, ite2 (fun h => ?_) (fun h => ?_)⟩
    · have h' := of_decide_eq_true h
      rw [List.length_map] at h'
      exact fu_raise Tu.e m3 (.inl ⟨24, rfl, by decide⟩) (fun Q q => q) fun H' d s nd ed => ((q2 hF (by omega)).same s1) _ _ _ _ (.inr (.inr ⟨rfl, rfl, rfl⟩)) s nd ed
    have hL : S.length + S2.length ≤ 24 := by
      have h' : ¬ ((kvs.length : Int) + (((us1.map V.ref).length : Nat) : Int)) > 24 := fun z => h (decide_eq_true z)
      rw [List.length_map] at h'
      omega
    have z0 := qq hF hL
    refine ⟨.ref g, rfl, g, C5, dx, _, .ref st, rfl, s1 _ _ ea, TRo_.cl, TRo_.nS, rfl, st, kvs, rfl, .inl (s1 _ _ es), fun D nD => ?_⟩
    have s2 := same_upd (H := H1) (o := .dK kvs) nD
    have s12 := s1.trans s2
    have nD0 : H D = none := s1.free nD
    have eD2 : (upd H1 D (.dK kvs)) D = some (.dK kvs) := upd_same
    generalize upd H1 D (.dK kvs) = H2 at s2 s12 eD2
    refine ⟨.ref g2, rfl, g2, dx2, _, rfl, s12 _ _ ea2, rfl, g2, st2, n2, S2, k2, c2, rfl, fb.same s12, wf2.up, by omega, fun H3 r us s3 nr er ls => ?_⟩
    have s13 := s12.trans s3
    have eD3 := s3 _ _ eD2
    have lu := ls.length
    have nDg : D ≠ g := (ne_of_none ea nD0).symm
    refine ⟨r, us.map V.ref, rfl, SqL.of er, for_it walk_enum (fun i σ G => ∃ y4 y5 y6 ks, σ = [some (.ref g), some (.ref g2), some (.int (n + n2)), some (.ref D), y4, y5, y6] ∧ Same H G ∧ G r = some (.lst (us.map V.ref)) ∧ Ls G us S2 ∧ G D = some (.dK ks) ∧ Std G ks (S ++ bhS (nxt S) n (S2.take i)))
      ⟨none, none, none, kvs, rfl, s13, er, ls, eD3, by rw [List.take_zero]; show Std _ _ (S ++ []); rw [List.append_nil]; exact sd.keep fun b xs hb => s13 _ _ hb⟩ (fun i σ G _ ⟨_, _, _, _, _, _, e, _⟩ => SqL.of e) ?_ ?_⟩
    · rintro i x σ G G' hi ⟨y4, y5, y6, ks, rfl, sm, erG, lsG, eDG, sdG⟩ ⟨Tn, x1, y1, rfl, nTn, rfl, hx, hy⟩
      cases hx
      have hy : (us.map V.ref)[i]? = some y1 := hy
      rw [List.getElem?_map] at hy
      obtain ⟨t, ht, rfl⟩ := Option.map_eq_some_iff.mp hy
      obtain ⟨z, hz, tt, et, ett⟩ := LiI.paired_get lsG ht
      have s7 := same_upd (H := G) (o := .tup [.int (i : Nat), .ref t]) nTn
      have e7 : (upd G Tn (.tup [.int (i : Nat), .ref t])) Tn = some (.tup [.int (i : Nat), .ref t]) := upd_same
      generalize upd G Tn (.tup [.int (i : Nat), .ref t]) = G7 at s7 e7
      have sm7 := sm.trans s7
      refine ⟨Tn, _, rfl, SqT.of e7, rfl, .int (i : Nat), _, rfl, .ref t, _, rfl, t, _, rfl, SqT.of (s7 _ _ et), rfl, .int z.1, _, rfl, .ref tt, _, rfl, rfl, rfl, ?_⟩
      refine ⟨.ref tt, rfl, .ref g, rfl, g, C5, dx, _, .int n, rfl, sm7 _ _ ea, TRo_.cl, TRo_.nE, rfl, tt, z.2.1, z.2.2.1, z.2.2.2.1, z.2.2.2.2, n, rfl, s7 _ _ ett, fun r2 nr2 => ?_⟩
      have s8 := same_upd (H := G7) (o := tup4 (z.2.1 + n) (z.2.2.1 + n) z.2.2.2.1 z.2.2.2.2) nr2
      have e8 : (upd G7 r2 (tup4 (z.2.1 + n) (z.2.2.1 + n) z.2.2.2.1 z.2.2.2.2)) r2 = some (t4 (mvX n z.2)) := upd_same
      generalize upd G7 r2 (tup4 (z.2.1 + n) (z.2.2.1 + n) z.2.2.2.1 z.2.2.2.2) = G8 at s8 e8
      have sm8 := sm7.trans s8
      refine ⟨.ref D, rfl, .ref g, rfl, g, dx, _, rfl, sm8 _ _ ea, rfl, g, st, n, S, k, c, rfl, fa.same sm8, by omega, wf.low, fun G9 s9 => ?_⟩
      have smG9 : Same G G9 := (s7.trans s8).trans s9
      have lk := sdG.length
      rw [List.length_append, bhS_len, List.length_take] at lk
      have hi2 : i < S2.length := (List.getElem?_eq_some_iff.mp hz).1
      have hno : valV ks (Sum.inl (nxt S + (i : Int))) = none := (sdG.get _).1 (sget_not fun s hs => by
        rcases List.mem_append.mp hs with h | h
        · have := nxt_gt h
          omega
        · have := (bhS_in _ _ _ _ h).2.1
          rw [List.length_take] at this
          omega)
      have eD9 := smG9 _ _ eDG
      have kt : KeepT G9 (upd G9 D (.dK (putK ks (Sum.inl (nxt S + (i : Int))) (.ref r2)))) := fun b xs hb => by
        rw [upd_ne (ne_of hb eD9 (fun z => by cases z))]
        exact hb
      have nrD : r ≠ D := ne_of erG eDG (fun z => by cases z)
      refine ⟨.int (i : Nat), rfl, nxt S, (i : Int), rfl, rfl, D, _, rfl, DPut.k (k := Sum.inl (nxt S + (i : Int))) eD9 (sz_lt (by omega)), _, _, _, _, rfl, fun b o hb => ?_, ?_, lsG.keep fun b xs hb => kt _ _ (smG9 _ _ hb), upd_same, ?_⟩
      · rw [upd_ne (ne_of_none hb nD0)]
        exact smG9 _ _ (sm _ _ hb)
      · rw [upd_ne nrD]
        exact smG9 _ _ erG
      · rw [List.take_add_one, hz, show (some z).toList = [z] from rfl, bhS_snoc, ← List.append_assoc]
        generalize upd G9 D (.dK (putK ks (Sum.inl (nxt S + (i : Int))) (.ref r2))) = GX at kt
        rw [putK_new _ hno]
        refine Std.snoc (s := (nxt S + ((S2.take i).length : Nat), mvX n z.2)) ⟨?_, r2, rfl, kt _ _ (s9 _ _ e8)⟩ ((sdG.keep fun b xs hb => smG9 _ _ hb).keep kt)
        show Sum.inl (nxt S + (i : Int)) = Sum.inl (nxt S + ((S2.take i).length : Int))
        rw [List.length_take, Nat.min_eq_left (by omega)]
    · rintro σ G ⟨y4, y5, y6, ks, rfl, sm, erG, lsG, eDG, sdG⟩
      rw [List.length_map, lu, List.take_length] at sdG
      refine ⟨.ref g, rfl, g, dx, _, rfl, sm _ _ ea, rfl, .int (n + n2), rfl, .ref D, rfl, ?_⟩
      refine ⟨g, st, D, dx, n, n + n2, S, bhd n S S2, k, c, kvs, ks, rfl, sm _ _ ea, sm _ _ es, sd.keep fun b xs hb => sm _ _ hb, eDG, sdG, wf.up, bhd_up wf.up, fun H5 e5 k5 => ?_⟩
      exact z0 H5 D ⟨⟨dx, e5⟩, ks, k5 _ _ nDg eDG, sdG.keep fun b xs hb => k5 _ _ (ne_of hb (sm _ _ ea) (fun z => by cases z)) hb⟩ (fun b o nb hb => k5 _ _ nb (sm _ _ hb)) nD0
end

/-! ### _law_paved: a road made of its matings -/
theorem same_make {C : Addr} {H : Hp} {x dx : Addr} (nx : H x = none) (nd : H dx = none) : Same H (upd (upd H dx (.own x)) x (.ins C dx [])) := fun b o hb => by
  rw [upd_ne (ne_of_none hb nx), upd_ne (ne_of_none hb nd)]
  exact hb
abbrev s_paved : Stmt := top 74
abbrev N_paved : List Str := ["_law_length", "_law_matings", "_law_road_here", "_law_one", "_law_other", "_law_many", "_law_flips"]
abbrev P_paved : List Str := ["_law_length", "_law_matings"]
theorem sc_paved : FnScope N_paved P_paved (defScope s_paved) := ⟨rfl, rfl, rfl, by decide +kernel, rfl, by decide +kernel, by decide +kernel⟩
def pvS : Int → List M4 → StL
  | _, [] => []
  | N, x :: r => (N, x) :: pvS (N + 1) r
theorem pvS_len : ∀ (N : Int) (l : List M4), (pvS N l).length = l.length
  | _, [] => rfl
  | N, _ :: r => congrArg (· + 1) (pvS_len (N + 1) r)
theorem pvS_snoc (x : M4) : ∀ (N : Int) (l : List M4), pvS N (l ++ [x]) = pvS N l ++ [(N + (l.length : Nat), x)]
  | N, [] => by
    show [(N, x)] = [(N + ((0 : Nat) : Int), x)]
    rw [show N + ((0 : Nat) : Int) = N by omega]
  | N, y :: r => by
    show (N, y) :: pvS (N + 1) (r ++ [x]) = (N, y) :: (pvS (N + 1) r ++ [(N + ((r.length + 1 : Nat) : Int), x)])
    rw [pvS_snoc x (N + 1) r, show N + 1 + (r.length : Int) = N + ((r.length + 1 : Nat) : Int) by omega]
theorem pvS_in : ∀ (N : Int) (l : List M4) (s : Int × M4), s ∈ pvS N l → N ≤ s.1 ∧ s.1 < N + (l.length : Nat) ∧ s.2 ∈ l
  | N, y :: r, s, h => by
    simp only [List.length_cons]
    rcases List.mem_cons.mp h with rfl | h
    · exact ⟨Int.le_refl _, by show N < _; omega, List.mem_cons_self⟩
    · obtain ⟨h1, h2, h3⟩ := pvS_in (N + 1) r s h
      exact ⟨by omega, by omega, List.mem_cons_of_mem _ h3⟩
theorem pvS_up : ∀ (N : Int) (l : List M4), ((pvS N l).map (·.1)).Pairwise (· < ·)
  | _, [] => List.Pairwise.nil
  | N, y :: r => by
    refine List.pairwise_cons.mpr ⟨fun z hz => ?_, pvS_up (N + 1) r⟩
    obtain ⟨s, hs, rfl⟩ := List.mem_map.mp hz
    have := pvS_in (N + 1) r s hs
    show N < s.1
    omega
theorem foldl_max_snoc (l : List Int) (a x : Int) : (l ++ [x]).foldl max a = max (l.foldl max a) x := by rw [List.foldl_append]; rfl
theorem pvS_nxt : ∀ (l : List M4), nxt (pvS 1 l) = (l.length : Nat) + 1 := fun l => by
  have h := nxt_1 (pvS 1 l)
  unfold nxt at h ⊢
  rcases List.eq_nil_or_concat l with rfl | ⟨r, x, rfl⟩
  · rfl
  · rw [List.concat_eq_append, pvS_snoc, List.map_append, List.length_append]
    rw [show List.map (fun x => x.1) [((1 : Int) + (r.length : Nat), x)] = [1 + (r.length : Int)] from rfl, foldl_max_snoc]
    have le : ((pvS 1 r).map (·.1)).foldl max 0 ≤ r.length := by
      have key : ∀ (l : List Int) (a b : Int), a ≤ b → (∀ y ∈ l, y ≤ b) → l.foldl max a ≤ b := by
        intro l
        induction l with
        | nil => intro a b h _; exact h
        | cons y t ih => intro a b h hy; exact ih _ _ (Int.max_le.mpr ⟨h, hy y List.mem_cons_self⟩) fun z hz => hy z (List.mem_cons_of_mem _ hz)
      refine key _ _ _ (by omega) fun y hy => ?_
      obtain ⟨s, hs, rfl⟩ := List.mem_map.mp hy
      have := pvS_in 1 r s hs
      omega
    rw [Int.max_eq_right (by omega)]
    show 1 + (r.length : Int) + 1 = ((r.length + 1 : Nat) : Int) + 1
    omega
theorem RoW.pv {n : Int} {ms : List M4} (n0 : 0 ≤ n) (n1 : n ≤ 1000000000000000000) (hm : ∀ x ∈ ms, Mok n x) (hl : ms.length ≤ 24) : RoW n (pvS 1 ms) :=
  ⟨n0, n1, pvS_up _ _, fun s hs => (pvS_in _ _ _ hs).1, by rw [pvS_len]; exact hl, fun s hs => hm _ (pvS_in _ _ _ hs).2.2⟩
def spPaved (C5 : Addr) : Sp := fun vs H Q _ => ∃ (n : Int) (L : Addr) (ts : List Addr) (ms : List M4), vs = [.int n, .ref L] ∧ 0 ≤ n ∧ n ≤ 1000000000000000000 ∧ H L = some (.lst (ts.map V.ref)) ∧ Mts H ts ms ∧ (∀ x ∈ ms, Mok n x) ∧ ms.length ≤ 24 ∧
  ∀ (H' : Hp) (g st : Addr), RoAt C5 H' g st n (pvS 1 ms) .non 0 → Same H H' → H g = none → H st = none → Q (.ref g) H'
section
variable {P : Program} {w : World} {K : PySem.W.Frag} {mg : Str → Option Value} {base : Heap} {C5 : Addr}
theorem ok_paved {f fI fM : Addr} {fd fdI fdM : FuncData} {g : List Value → List Value → List Value} (D : DefAt K mg "_law_paved" s_paved P_paved f fd) (TRo_ : RoT K mg C5) (mkRo_ : Mk K C5 fI) (G_Ro_init : FnOk P w K mg base CX0 4 fI fdI P_Ro_init (spRoInit C5)) (b_Ro_init : Binds K fdI P_Ro_init [])
    (M_Ro_mate : Meth K C5 "mate" fM) (G_Ro_mate : FnOk P w K mg base CX0 4 fM fdM P_Ro_mate (spMate C5)) (kb_Ro_mate : KBn K fdM P_Ro_mate 4 ["turned"] g (fun vs zs => vs ++ zs)) : FnOk P w K mg base CX0 6 f fd P_paved (spPaved C5) := by
  refine D.F.ok sc_paved (fun vs H Q E h => ?_) (fun cdv A outer s H vs Q E hr h => ?_)
  · obtain ⟨n, L, ts, ms, rfl, _⟩ := h
    rfl
  · obtain ⟨n, L, ts, ms, rfl, n0, n1, hL, hM, hok, hl, q⟩ := h
    refine ⟨_, (pss_cons (ps_set (i := 2) sc_paved.nd rfl (.inl rfl) (pe_make mkRo_ G_Ro_init (hr.mono (by omega)) (by rfl) TRo_.gC b_Ro_init .nil pass0 (pa_cons (pv 0) pa_nil)))
      (pss_cons (ps_for PassesOwn.never rfl (pi_list (pv 1)) (pg_tup (by rfl) (pgs_cons (pg_name (i := 3) sc_paved.nd rfl (.inl rfl)) (pgs_cons (pg_name (i := 4) sc_paved.nd rfl (.inl rfl)) (pgs_cons (pg_name (i := 5) sc_paved.nd rfl (.inl rfl)) (pgs_cons (pg_name (i := 6) sc_paved.nd rfl (.inl rfl)) pgs_nil))))) (pss_one (ps_expr (pe_methK (pv 2) TRo_.cl M_Ro_mate G_Ro_mate (hr.mono (by omega)) kb_Ro_mate pass0 (pa_cons (pv 3) (pa_cons (pv 4) (pa_cons (pv 5) pa_nil))) (pk_cons (pv 6) pk_nil)))))
      (pss_one (ps_ret (pv 2))))), ?_⟩
    refine ⟨.int n, rfl, fun g0 dx ng ndx nex => ?_⟩
    have s1 := same_make (C := C5) ng ndx
    have e1 : (upd (upd H dx (.own g0)) g0 (.ins C5 dx [])) g0 = some (.ins C5 dx []) := upd_same
    generalize upd (upd H dx (.own g0)) g0 (.ins C5 dx []) = H1 at s1 e1
    refine ⟨g0, dx, n, rfl, e1, n0, n1, fun H2 st0 eg2 est2 nst0 k2 => ⟨rfl, ?_⟩⟩
    have s2 : Same H H2 := fun b o hb => k2 _ _ (ne_of_none hb ng) (s1 _ _ hb)
    have R0 : RoAt C5 H2 g0 st0 n (pvS 1 []) .non 0 := ⟨⟨dx, eg2⟩, [], est2, .nil⟩
    have sL := s2 _ _ hL
    refine ⟨.ref L, rfl, L, rfl, ⟨_, SqL.of sL⟩, for_list (K := K) (a := L) (xs := ts.map V.ref) (fun i σ G => ∃ (y3 y4 y5 y6 : Option V) (st : Addr), σ = [some (.int n), some (.ref L), some (.ref g0), y3, y4, y5, y6] ∧ RoAt C5 G g0 st n (pvS 1 (ms.take i)) .non 0 ∧ Same H G ∧ H st = none)
      ⟨none, none, none, none, st0, rfl, R0, s2, s1.free nst0⟩ (fun i σ G _ ⟨_, _, _, _, _, _, _, sm, _⟩ => SqL.of (sm _ _ hL)) ?_ ?_⟩
    · rintro i x σ G hx ⟨y3, y4, y5, y6, st, rfl, R, sm, nst⟩
      rw [List.getElem?_map] at hx
      obtain ⟨t, ht, rfl⟩ := Option.map_eq_some_iff.mp hx
      obtain ⟨m, hm, em⟩ := hM.at i t ht
      obtain ⟨dx', eg⟩ := R.at_g
      have hi : i < ms.length := (List.getElem?_eq_some_iff.mp hm).1
      have lt : (ms.take i).length = i := by rw [List.length_take]; omega
      refine ⟨t, _, rfl, SqT.of (sm _ _ em), rfl, .int m.1, _, rfl, .int m.2.1, _, rfl, .int m.2.2.1, _, rfl, .int m.2.2.2, _, rfl, rfl, ?_⟩
      refine ⟨.ref g0, rfl, g0, dx', _, rfl, eg, rfl, .int m.1, rfl, .int m.2.1, rfl, .int m.2.2.1, rfl, .int m.2.2.2, rfl, rfl, rfl, ?_⟩
      refine ⟨g0, st, n, pvS 1 (ms.take i), .non, 0, m, rfl, R, RoW.pv n0 n1 (fun x hx => hok x (List.mem_of_mem_take hx)) (by omega), by rw [pvS_len]; omega, hok m (List.mem_of_getElem? hm), fun G2 st2 R2 k2' n2' => ?_⟩
      refine ⟨_, _, _, _, st2, rfl, ?_, fun b o hb => k2' _ _ (ne_of_none hb ng) (sm _ _ hb), sm.free n2'⟩
      rw [pvS_nxt, lt] at R2
      rw [List.take_add_one, hm, show (some m).toList = [m] from rfl, pvS_snoc, lt, show (1 : Int) + (i : Int) = (i : Int) + 1 by omega]
      exact R2
    · rintro σ G ⟨y3, y4, y5, y6, st, rfl, R, sm, nst⟩
      rw [List.length_map, hM.length, List.take_length] at R
      exact ⟨.ref g0, rfl, q G g0 st R sm ng nst⟩
end

/-! ### _law_late -/
-- LAMHEAD: (T := T) (TT := TWhyM (I08 CB CG CU)) (k := 7) (by rfl) D_why.g D_why.F.kp lkW hcW D_why.b sc_why rfl (.inl rfl) (why_givesM (k := 3) (hr.mono (by omega)) Tb.gF D_fields (whyI08 D_fields B Tb Ob m1 Tg Og m2 Tu Ou m3)) TB rfl mT huT (hr.mono (by omega)) (show LamX.LamS (defScope s_late) _ from LamX.lamS_by (by decide +kernel)) rfl (fun _ _ _ _ _ => rfl)
abbrev s_late : Stmt := top 75
abbrev N_late : List Str := ["_law_far"]
abbrev P_late : List Str := ["_law_far"]
theorem sc_late : FnScope N_late P_late (defScope s_late) := ⟨rfl, rfl, rfl, by decide +kernel, rfl, by decide +kernel, by decide +kernel⟩
abbrev lateQ : Str := (("_law_late" : Str) ++ ".<locals>.") ++ "<lambda>"
theorem tabs_ins {T : List (Addr × Str)} {H H' : Hp} {g C dx : Addr} {fs : List (Str × V)} (t : LamX.Tabs T H) (eg : H g = some (.ins C dx fs)) (k : Keep g H H') : LamX.Tabs T H' := fun p hp => by
  obtain ⟨ps, h1, h2, h3⟩ := t p hp
  refine ⟨ps, k.of h1 (ne_of h1 eg (fun e => by cases e)), h2, fun pos cv hc => ?_⟩
  obtain ⟨c, e1, e2⟩ := h3 pos cv hc
  exact ⟨c, e1, k.of e2 (ne_of e2 eg (fun e => by unfold LamX.CodeO at e; cases e))⟩
theorem RoAt.extN {C5 : Addr} {H H' : Hp} {g st : Addr} {n : Int} {S : StL} {k : V} {c : Int} (h : RoAt C5 H g st n S k c) (s : LamX.ExtN H H') : RoAt C5 H' g st n S k c := by
  obtain ⟨⟨dx, e⟩, kvs, e1, e2⟩ := h
  exact ⟨⟨dx, s _ _ e (fun _ z => by cases z)⟩, kvs, s _ _ e1 (fun _ z => by cases z), e2.keep fun b xs hb => s _ _ hb (fun _ z => by cases z)⟩
def spLate (C5 : Addr) (T : List (Addr × Str)) : Sp := fun vs H Q _ => ∃ (g st : Addr) (S : StL) (k : V) (c : Int), vs = [.ref g] ∧ RoAt C5 H g st 1000000000000000000 S k c ∧ RoW 1000000000000000000 S ∧ (trS 999999999999999999 S).length = 24 ∧ LamX.Tabs T H ∧
  ∀ (H' : Hp) (t : Addr), H' t = some (.tup [.str "Full", .int 24]) → (∀ b o, H b = some o → b ≠ g → (∀ ps, o ≠ .tbl ps) → H' b = some o) → Q (.ref t) H'
section
variable {P : Program} {w : World} {K : PySem.W.Frag} {mg : Str → Option Value} {base : Heap}
theorem ok_late {f fW fF fPv fTr fBh gB gG gU CF CB CG CU C5 c Pk a1 a2 a3 b0 b1 b2 b3 b4 b5 b6 e0 e1 e2 e3 e4 e5 e6 e7 e8 e9 e10 e11 e12 e13 e14 e15 e16 : Addr} {fdW fdF fdPv fdTr fdBh gdB gdG gdU : FuncData} {T : List (Addr × Str)} {kV doc pm ct oc : Value} {an od : Option Addr} {osl : Array (Option Value)}
    (g0 : mg "_law_late" = some (.ref f)) (lk : K.lookup f = some ⟨oc, od, .func (PySem.W.fnOf "_law_late" "_law_late" (defArgs s_late) (defBody s_late) (defScope s_late) .none kV doc pm an (.ref c) ct), osl⟩) (hcd : PySem.W.codeIn K (.ref c) "_law_late" = true) (TB : LamX.TabB base mg c Pk) (mT : (Pk, lateQ) ∈ T) (huT : ∀ p ∈ T, p.1 = Pk → p.2 = lateQ)
    (D_why : DefAt K mg "_law_why" s_why P_why fW fdW) (D_fields : DefAt K mg "_law_fields" s_fields P_fields fF fdF)
    (Tb : ErT K mg CF CB gB gdB "BadNumber" N_bninit) (Ob : OthBnE K mg CB a1 a2 a3) (m1 : PySem.W.findIn K (.ref CB) "number" = some none) (Tg : ErT K mg CF CG gG gdG "BadMating" N_bginit) (Og : OthBgE K mg CG b0 b1 b2 b3 b4 b5 b6) (m2 : PySem.W.findIn K (.ref CG) "mating" = some none)
    (Tu : ErT K mg CF CU gU gdU "Full" N_fuinit) (Ou : OthFuE K mg CU e0 e1 e2 e3 e4 e5 e6 e7 e8 e9 e10 e11 e12 e13 e14 e15 e16) (m3 : PySem.W.findIn K (.ref CU) "most" = some none)
    (TRo_ : RoT K mg C5) (M_Ro_trim : Meth K C5 "trim" fTr) (G_Ro_trim : FnOk P w K mg base CX0 4 fTr fdTr P_Ro_trim (spTrim C5)) (b_Ro_trim : Binds K fdTr P_Ro_trim []) (M_Ro_behind : Meth K C5 "behind" fBh) (GX_Ro_behind : FnOk P w K mg base (L2.CX P w) 4 fBh fdBh P_Ro_behind (spBehind C5 CB CG CU)) (b_Ro_behind : Binds K fdBh P_Ro_behind [])
    (D_paved : DefAt K mg "_law_paved" s_paved P_paved fPv fdPv) (G_paved : FnOk P w K mg base CX0 6 fPv fdPv P_paved (spPaved C5)) (B : Bn mg) :
    FnOk P w K mg base CX0 10 f (PySem.W.fnOf "_law_late" "_law_late" (defArgs s_late) (defBody s_late) (defScope s_late) .none kV doc pm an (.ref c) ct) P_late (spLate C5 T) := by
  obtain ⟨ocW, odW, kVW, docW, pmW, anW, cdvW, ctW, oslW, rfl, lkW, hcW⟩ := D_why.F.ex
  refine fn_of lk hcd sc_late (fun vs H Q E h => ?_) (fun A outer s H vs Q E hr h => ?_)
  · obtain ⟨g, st, S, k, c, rfl, _⟩ := h
    rfl
  · obtain ⟨g, st, S, k, cc, rfl, fa, wf, h24, hT, q⟩ := h
    suffices hh : ∃ t, PSs (cxOf CX0 P w K mg base N_late "_law_late" (defScope s_late) f (.ref c) A outer s H E).nox (defBody s_late) t ∧ t { nx := fun _ H' => Q .non H', rt := Q } (L2.start N_late [.ref g]) H by
      obtain ⟨t, h1, h2⟩ := hh
      exact ⟨t, h1.nox, h2⟩
    refine ⟨_, (pss_cons (ps_expr (pe_meth (pv 0) TRo_.cl M_Ro_trim G_Ro_trim (hr.mono (by omega)) b_Ro_trim .nil pass0 (pa_cons (pe_op op_sub (pe_op op_pow pe_int pe_int) pe_int) pa_nil)))
      (pss_one (ps_ret (LamX.pe_lamcall (T := T) (TT := TWhyM (I08 CB CG CU)) (k := 7) (by rfl) D_why.g D_why.F.kp lkW hcW D_why.b sc_why rfl (.inl rfl) (why_givesM (k := 3) (hr.mono (by omega)) Tb.gF D_fields (whyI08 D_fields B Tb Ob m1 Tg Og m2 Tu Ou m3)) TB rfl mT huT (hr.mono (by omega)) (show LamX.LamS (defScope s_late) _ from LamX.lamS_by (by decide +kernel)) rfl (fun _ _ _ _ _ => rfl) (fun A1 outer1 s1 H1 E1 f1 c1 hr1 => (pe_meth (pv 0) TRo_.cl M_Ro_behind GX_Ro_behind (hr1.mono (by omega)) b_Ro_behind .nil (passes_call (takes_of rfl rfl rfl rfl) fun _ _ _ _ h => h) (pa_cons (pe_call G_paved (hr1.mono (by omega)) (by rfl) D_paved.g D_paved.F.kp D_paved.b .nil pass0 (pa_cons pe_int (pa_cons (pe_lst (pa_cons (pe_tup (pa_cons pe_int (pa_cons pe_int (pa_cons pe_int (pa_cons pe_int pa_nil))))) pa_nil)) pa_nil))) pa_nil))))))), ?_⟩
    obtain ⟨dx, eg⟩ := fa.at_g
    refine ⟨.ref g, rfl, g, dx, _, rfl, eg, rfl, ?_⟩
    refine ⟨10, 18, rfl, rfl, ⟨by decide, by decide, by decide⟩, 1000000000000000000, 1, rfl, rfl, ?_⟩
    refine ⟨g, st, 1000000000000000000, 999999999999999999, S, k, cc, rfl, fa, wf, by decide, by decide, fun H1 st1 fa1 k1 n1 => ?_⟩
    have wf1 : RoW 999999999999999999 (trS 999999999999999999 S) := wf.trim (by decide) (by decide)
    generalize (if (999999999999999999 : Int) = 1000000000000000000 ∧ trS 999999999999999999 S = S then k else .non) = k' at fa1
    generalize trS 999999999999999999 S = S1 at fa1 wf1 h24
    refine ⟨tabs_ins hT eg k1, fun HE eN TE t0 nt0 Z hZ => ?_⟩
    have s0 := same_upd (H := HE) (o := .tup [.str "", .non]) nt0
    have fa2 := (fa1.extN eN).same s0
    have kE : ∀ b o, H b = some o → b ≠ g → (∀ ps, o ≠ .tbl ps) → (upd HE t0 (.tup [.str "", .non])) b = some o := fun b o hb nb ht => s0 _ _ (eN _ _ (k1 _ _ nb hb) ht)
    generalize upd HE t0 (.tup [.str "", .non]) = H2 at s0 fa2 kE
    obtain ⟨dx2, eg2⟩ := fa2.at_g
    refine ⟨.ref g, rfl, g, dx2, _, rfl, eg2, rfl, by show 4 ≤ sizeLine; decide, fun q1 nq1 => ?_⟩
    have s3 := same_upd (H := H2) (o := .tup [.int 0, .int 0, .int 1, .int 0]) nq1
    have e3 : (upd H2 q1 (.tup [.int 0, .int 0, .int 1, .int 0])) q1 = some (t4 (0, 0, 1, 0)) := upd_same
    generalize upd H2 q1 (.tup [.int 0, .int 0, .int 1, .int 0]) = H3 at s3 e3
    refine ⟨by show 1 ≤ sizeLine; decide, fun L nL => ?_⟩
    have s4 := same_upd (H := H3) (o := .lst [.ref q1]) nL
    have e4 : (upd H3 L (.lst [.ref q1])) L = some (.lst ([q1].map V.ref)) := upd_same
    generalize upd H3 L (.lst [.ref q1]) = H4 at s4 e4
    have ok1 : ∀ x ∈ [((0, 0, 1, 0) : M4)], Mok 1 x := fun x hx => by
      rw [List.mem_singleton.mp hx]
      exact ⟨.inl rfl, by decide, by decide, by decide, by decide, by decide⟩
    refine ⟨1, L, [q1], [(0, 0, 1, 0)], rfl, by decide, by decide, e4, .cons (s4 _ _ e3) .nil, ok1, by decide, fun H5 g2 st2 R2 s5 ng2 nst2 => ?_⟩
    have s25 := (s3.trans s4).trans s5
    refine ⟨g, st1, g2, st2, 999999999999999999, 1, S1, pvS 1 [(0, 0, 1, 0)], k', .non, cc, 0, rfl, fa2.same s25, R2, wf1, RoW.pv (by decide) (by decide) ok1 (by decide), fun h => absurd h (by decide), fun _ _ => ?_, fun _ h => ?_⟩
    · intro Ce fs H' d' ei s' nd' ed
      refine ⟨Ce, d', fs, "Full", _, rfl, rfl, ed, ei.i08, fun HG t1 u sG hu e1 => ?_⟩
      rw [hu] at e1
      exact q HG t1 e1 fun b o hb nb ht => sG _ _ (s' _ _ (s25 _ _ (kE b o hb nb ht)))
    · rw [h24] at h
      exact absurd h (by decide)
end

/-! ### the law's table of code objects -/
theorem tabs_keep {T : List (Addr × Str)} {H H' : Hp} {d l : Addr} (t : LamX.Tabs T H) (D : Draw H d l) (k : Keep d H H') : LamX.Tabs T H' := fun p hp => by
  obtain ⟨ps, h1, h2, h3⟩ := t p hp
  obtain ⟨ns, i, z, s, W⟩ := D
  refine ⟨ps, k.of h1 (ne_of h1 W.at_d (fun e => by cases e)), h2, fun pos cv hc => ?_⟩
  obtain ⟨c, e1, e2⟩ := h3 pos cv hc
  exact ⟨c, e1, k.of e2 (ne_of e2 W.at_d (fun e => by unfold LamX.CodeO at e; cases e))⟩
theorem draw_extN {H H' : Hp} {d l : Addr} (D : Draw H d l) (e : LamX.ExtN H H') : Draw H' d l := by
  obtain ⟨ns, i, z, s, W⟩ := D
  exact ⟨ns, i, z, s, { W with at_d := e _ _ W.at_d (fun _ q => by cases q), at_l := e _ _ W.at_l (fun _ q => by cases q) }⟩
def spLawT (K : PySem.W.Frag) (Pt : Addr) : Sp := fun vs H Q _ => ∃ (a : Addr) (ns : List Int), vs = [.ref a] ∧ SqL K H a (ns.map V.int) ∧ ns.length ≤ 63 ∧ H Pt = some (.tbl #[]) ∧ ∀ H', Q (.bl true) H'
abbrev lamQ : Str := (("law" : Str) ++ ".<locals>.") ++ "<lambda>"
abbrev lamT (Pt : Addr) : List (Addr × Str) := [(Pt, lamQ)]
/-- xs.append(e) inside a lambda: the reading must not speak of the lambda's own frame -/
theorem pe_appK {X : Cx} {K : PySem.W.Frag} {o e : Expr} {to : TE} {t : TA} {apos cpos : Pos} (hK : X.K = K) (ho : PE X o to) (ha : PA X [e] t)
    (hbase : attributeBase o "append" X.env (eval o X.env) = eval o X.env := by rfl)
    (hfew : ((backTo cpos (starEach [e] X.env)).all (fun x => !x.1) && (backToKw cpos (keywordEach [] X.env)).all (fun x => x.1.isSome)
      && decide ([e].length + ([] : List Keyword).length + (if ([] : List Keyword).isEmpty then 0 else 1) < 30)) = true := by rfl)
    (hline : (apos.endLine == cpos.line) = true := by rfl) (hs : starEach [e] X.env = (false, eval e X.env) :: starEach [] X.env := by rfl) (hplain : (backTo cpos (starEach [] X.env)).any (·.1) = false := by rfl) :
    PE X (.Call (.Attribute o "append" apos) [e] [] cpos) (tBM K "list" rAppend to t) := by
  subst hK
  exact pe_bm PySem.F.plainAttrs_list PySem.F.slot_list_append PySem.F.type_list_append mt_append ho ha hbase hfew hline hs hplain

/-! ### what stays beside what changes -/
def rNotInT (K : PySem.W.Frag) : R2 := fun x y H Q => ∃ d ds, Dp K H x d ∧ Dp K H y (.tuple ds) ∧ SeqAt.shaped d = true ∧ SeqAt.shaped (.list ds) = true ∧ d.depth ≤ 60 ∧ Q (.bl (!ds.any fun z => PyData.eqv z d)) H
section
open PySem.Spec PyProof.Rows
theorem op_notInT {X : Cx} (hu : X.A.units + 64 < cLine) : OpR X (compareOp .NotIn) (rNotInT X.K) := by
  intro pins s σ H x y v u Q I rx ry h
  obtain ⟨d, ds, hd, he, sd, se, dp, q⟩ := h
  obtain ⟨as, r1⟩ := Dp.reads I d x v hd rx
  obtain ⟨bs, r2⟩ := Dp.reads I (.tuple ds) y u he ry
  exact SeqAt.notIn_tuple_reads r2 r1 (SeqAt.canLay_of_shaped se) (SeqAt.canLay_of_shaped sd) (by have := Nat.min_le_right (PyData.depthAll ds) d.depth; omega) ⟨.bl _, H, I, rfl, q⟩
end

/-! ### three roads and what is known of them -/
/-- all but lists and tables stays -/
def KeepO (H H' : Hp) : Prop := ∀ b o, H b = some o → (∀ xs, o ≠ .lst xs) → (∀ ps, o ≠ .tbl ps) → H' b = some o
theorem KeepO.trans {H H1 H2 : Hp} (a : KeepO H H1) (b : KeepO H1 H2) : KeepO H H2 := fun c o h n m => b c o (a c o h n m) n m
theorem KeepO.same {H H' : Hp} (s : Same H H') : KeepO H H' := fun b o h _ _ => s b o h
theorem KeepO.extN {H H' : Hp} (s : LamX.ExtN H H') : KeepO H H' := fun b o h _ n => s b o h n
theorem KeepO.lst {H H' : Hp} {d : Addr} {xs : List V} (e : H d = some (.lst xs)) (k : Keep d H H') : KeepO H H' := fun b o h n _ => k _ _ (fun z => by rw [z, e] at h; cases h; exact n _ rfl) h
theorem KeepO.draw {H H' : Hp} {d l : Addr} (D : Draw H d l) (k : Keep d H H') : KeepO H H' := by
  obtain ⟨ns, i, z, s, W⟩ := D
  exact KeepO.lst W.at_d k
theorem RoAt.keepO {C5 : Addr} {H H' : Hp} {g st : Addr} {n : Int} {S : StL} {k : V} {c : Int} (h : RoAt C5 H g st n S k c) (s : KeepO H H') : RoAt C5 H' g st n S k c := by
  obtain ⟨⟨dx, e⟩, kvs, e1, e2⟩ := h
  exact ⟨⟨dx, s _ _ e (fun _ z => by cases z) (fun _ z => by cases z)⟩, kvs, s _ _ e1 (fun _ z => by cases z) (fun _ z => by cases z), e2.keep fun b xs hb => s _ _ hb (fun _ z => by cases z) (fun _ z => by cases z)⟩
/-- another road's fields anew -/
theorem RoAt.other {C5 : Addr} {H H' : Hp} {g st g2 dx : Addr} {fs : List (Str × V)} {n : Int} {S : StL} {k : V} {c : Int} (h : RoAt C5 H g st n S k c) (e2 : H g2 = some (.ins C5 dx fs)) (ne : g ≠ g2) (s : Keep g2 H H') : RoAt C5 H' g st n S k c := by
  obtain ⟨⟨dx, e⟩, kvs, e1, e3⟩ := h
  exact ⟨⟨dx, s _ _ ne e⟩, kvs, s _ _ (ne_of e1 e2 (fun z => by cases z)) e1, e3.keep fun b xs hb => s _ _ (ne_of hb e2 (fun z => by cases z)) hb⟩
/-- a dict of matings, told with a length -/
def MoAt (H : Hp) (t : Addr) (r : Int × StL) : Prop := ∃ (hd : Addr) (kvs : List (Key × V)), H t = some (.tup [.int r.1, .ref hd]) ∧ H hd = some (.dK kvs) ∧ Std H kvs r.2
theorem MoAt.keepO {H H' : Hp} {t : Addr} {r : Int × StL} (h : MoAt H t r) (s : KeepO H H') : MoAt H' t r := by
  obtain ⟨hd, kvs, e1, e2, e3⟩ := h
  exact ⟨hd, kvs, s _ _ e1 (fun _ z => by cases z) (fun _ z => by cases z), s _ _ e2 (fun _ z => by cases z) (fun _ z => by cases z), e3.keep fun b xs hb => s _ _ hb (fun _ z => by cases z) (fun _ z => by cases z)⟩
theorem MoAt.other {C5 : Addr} {H H' : Hp} {t g dx : Addr} {fs : List (Str × V)} {r : Int × StL} (h : MoAt H t r) (eg : H g = some (.ins C5 dx fs)) (s : Keep g H H') : MoAt H' t r := by
  obtain ⟨hd, kvs, e1, e2, e3⟩ := h
  exact ⟨hd, kvs, s _ _ (ne_of e1 eg (fun z => by cases z)) e1, s _ _ (ne_of e2 eg (fun z => by cases z)) e2, e3.keep fun b xs hb => s _ _ (ne_of hb eg (fun z => by cases z)) hb⟩
structure B30 (C5 : Addr) (H : Hp) (pr md : Addr) (gs ts : List Addr) (Rs : List (Int × StL)) : Prop where
  at_pr : H pr = some (.lst (gs.map V.ref))
  at_md : H md = some (.lst (ts.map V.ref))
  l1 : gs.length = Rs.length
  l2 : ts.length = Rs.length
  nd : gs.Nodup
  rd : ∀ (i : Nat) (g : Addr) (r : Int × StL), gs[i]? = some g → Rs[i]? = some r → ∃ st k c, RoAt C5 H g st r.1 r.2 k c
  mo : ∀ (i : Nat) (t : Addr) (r : Int × StL), ts[i]? = some t → Rs[i]? = some r → MoAt H t r
  wf : ∀ r ∈ Rs, RoW r.1 r.2
theorem B30.keepO {C5 : Addr} {H H' : Hp} {pr md : Addr} {gs ts : List Addr} {Rs : List (Int × StL)} (h : B30 C5 H pr md gs ts Rs) (k : KeepO H H') (e1 : H' pr = some (.lst (gs.map V.ref))) (e2 : H' md = some (.lst (ts.map V.ref))) : B30 C5 H' pr md gs ts Rs :=
  ⟨e1, e2, h.l1, h.l2, h.nd, fun i g r h1 h2 => let ⟨st, k', c, q⟩ := h.rd i g r h1 h2; ⟨st, k', c, q.keepO k⟩, fun i t r h1 h2 => (h.mo i t r h1 h2).keepO k, h.wf⟩
theorem B30.same {C5 : Addr} {H H' : Hp} {pr md : Addr} {gs ts : List Addr} {Rs : List (Int × StL)} (h : B30 C5 H pr md gs ts Rs) (s : Same H H') : B30 C5 H' pr md gs ts Rs := h.keepO (.same s) (s _ _ h.at_pr) (s _ _ h.at_md)
theorem B30.extN {C5 : Addr} {H H' : Hp} {pr md : Addr} {gs ts : List Addr} {Rs : List (Int × StL)} (h : B30 C5 H pr md gs ts Rs) (s : LamX.ExtN H H') : B30 C5 H' pr md gs ts Rs := h.keepO (.extN s) (s _ _ h.at_pr (fun _ z => by cases z)) (s _ _ h.at_md (fun _ z => by cases z))
theorem B30.draw {C5 : Addr} {H H' : Hp} {d l pr md : Addr} {gs ts : List Addr} {Rs : List (Int × StL)} (h : B30 C5 H pr md gs ts Rs) (D : Draw H d l) (n1 : pr ≠ d) (n2 : md ≠ d) (k : Keep d H H') : B30 C5 H' pr md gs ts Rs := h.keepO (.draw D k) (k _ _ n1 h.at_pr) (k _ _ n2 h.at_md)
theorem get_snoc {α : Type} {l : List α} {x y : α} {i : Nat} (h : (l ++ [x])[i]? = some y) : (i < l.length ∧ l[i]? = some y) ∨ (i = l.length ∧ y = x) := by
  rcases Nat.lt_or_ge i l.length with z | z
  · rw [List.getElem?_append_left z] at h
    exact .inl ⟨z, h⟩
  · rw [List.getElem?_append_right z] at h
    have hi := (List.getElem?_eq_some_iff.mp h).1
    have hi' : i - l.length < 1 := hi
    have e : i = l.length := by omega
    rw [e, Nat.sub_self] at h
    cases h
    exact .inr ⟨e, rfl⟩
/-- one more -/
theorem B30.push {C5 : Addr} {H H' : Hp} {pr md g t st : Addr} {gs ts : List Addr} {Rs : List (Int × StL)} {n : Int} {S : StL} {k : V} {c : Int} (h : B30 C5 H pr md gs ts Rs) (R : RoAt C5 H g st n S k c) (M : MoAt H' t (n, S)) (wf : RoW n S) (ng : g ∉ gs) (kk : KeepO H H')
    (e1 : H' pr = some (.lst ((gs ++ [g]).map V.ref))) (e2 : H' md = some (.lst ((ts ++ [t]).map V.ref))) : B30 C5 H' pr md (gs ++ [g]) (ts ++ [t]) (Rs ++ [(n, S)]) := by
  refine ⟨e1, e2, by rw [List.length_append, List.length_append, h.l1]; rfl, by rw [List.length_append, List.length_append, h.l2]; rfl, ?_, fun i g' r h1 h2 => ?_, fun i t' r h1 h2 => ?_, fun r hr => ?_⟩
  · rw [List.nodup_append]
    refine ⟨h.nd, by simp, fun a ha b hb e => ?_⟩
    rw [List.mem_singleton.mp hb] at e
    exact ng (e ▸ ha)
  · rcases get_snoc h1 with ⟨z, h1⟩ | ⟨z, rfl⟩
    · rcases get_snoc h2 with ⟨_, h2⟩ | ⟨z2, _⟩
      · obtain ⟨st, k', c, q⟩ := h.rd i g' r h1 h2
        exact ⟨st, k', c, q.keepO kk⟩
      · have := h.l1
        omega
    · rcases get_snoc h2 with ⟨z2, _⟩ | ⟨_, rfl⟩
      · have := h.l1
        omega
      · exact ⟨st, k, c, R.keepO kk⟩
  · rcases get_snoc h1 with ⟨z, h1⟩ | ⟨z, rfl⟩
    · rcases get_snoc h2 with ⟨_, h2⟩ | ⟨z2, _⟩
      · exact (h.mo i t' r h1 h2).keepO kk
      · have := h.l2
        omega
    · rcases get_snoc h2 with ⟨z2, _⟩ | ⟨_, rfl⟩
      · have := h.l2
        omega
      · exact M
  · rcases List.mem_append.mp hr with z | z
    · exact h.wf r z
    · rw [List.mem_singleton.mp z]
      exact wf
theorem B30.g_in {C5 : Addr} {H : Hp} {pr md : Addr} {gs ts : List Addr} {Rs : List (Int × StL)} (h : B30 C5 H pr md gs ts Rs) {g : Addr} (hg : g ∈ gs) : ∃ o, H g = some o := by
  obtain ⟨i, hi, e⟩ := List.mem_iff_getElem.mp hg
  have h2 : i < Rs.length := by rw [← h.l1]; exact hi
  obtain ⟨st, k, c, ⟨dx, e1⟩, _⟩ := h.rd i g Rs[i] (by rw [List.getElem?_eq_getElem hi, e]) (List.getElem?_eq_getElem h2)
  exact ⟨_, e1⟩
/-- the i-th road has become another one; its dict is told anew -/
theorem B30.put {C5 : Addr} {H H1 H' : Hp} {pr md g t st' dx : Addr} {fs : List (Str × V)} {gs ts : List Addr} {Rs : List (Int × StL)} {i : Nat} {n : Int} {S : StL} {k : V} {c : Int} (h : B30 C5 H pr md gs ts Rs) (hg : gs[i]? = some g) (eg : H g = some (.ins C5 dx fs)) (k1 : Keep g H H1) (R : RoAt C5 H1 g st' n S k c) (kk : KeepO H1 H') (M : MoAt H' t (n, S)) (wf : RoW n S)
    (e1 : H' pr = some (.lst (gs.map V.ref))) (e2 : H' md = some (.lst ((ts.set i t).map V.ref))) : B30 C5 H' pr md gs (ts.set i t) (Rs.set i (n, S)) := by
  refine ⟨e1, e2, by rw [List.length_set]; exact h.l1, by rw [List.length_set, List.length_set]; exact h.l2, h.nd, fun j g' r h1 h2 => ?_, fun j t' r h1 h2 => ?_, fun r hr => ?_⟩
  · by_cases e : i = j
    · subst e
      rw [hg] at h1
      cases h1
      have hi : i < Rs.length := by rw [← h.l1]; exact (List.getElem?_eq_some_iff.mp hg).1
      rw [List.getElem?_set_self hi] at h2
      cases h2
      exact ⟨st', k, c, R.keepO kk⟩
    · rw [List.getElem?_set_ne e] at h2
      obtain ⟨st, k', c, q⟩ := h.rd j g' r h1 h2
      have ne : g' ≠ g := fun z => by
        obtain ⟨hi, ei⟩ := List.getElem?_eq_some_iff.mp hg
        obtain ⟨hj, ej⟩ := List.getElem?_eq_some_iff.mp h1
        rcases Nat.lt_or_gt_of_ne e with w | w
        · exact (List.pairwise_iff_getElem.mp h.nd i j hi hj w) (by rw [ei, ej, z])
        · exact (List.pairwise_iff_getElem.mp h.nd j i hj hi w) (by rw [ei, ej, z])
      exact ⟨st, k', c, (q.other eg ne k1).keepO kk⟩
  · by_cases e : i = j
    · subst e
      have hi : i < Rs.length := by rw [← h.l1]; exact (List.getElem?_eq_some_iff.mp hg).1
      rw [List.getElem?_set_self hi] at h2
      rw [List.getElem?_set_self (by rw [h.l2]; exact hi)] at h1
      cases h1
      cases h2
      exact M
    · rw [List.getElem?_set_ne e] at h1 h2
      exact ((h.mo j t' r h1 h2).other eg k1).keepO kk
  · rcases List.mem_or_eq_of_mem_set hr with z | z
    · exact h.wf r z
    · rw [z]
      exact wf
/-- a road that was refused stays -/
theorem B30.get {C5 : Addr} {H : Hp} {pr md : Addr} {gs ts : List Addr} {Rs : List (Int × StL)} (h : B30 C5 H pr md gs ts Rs) {i : Nat} (hi : i < Rs.length) : ∃ g t st k c, gs[i]? = some g ∧ ts[i]? = some t ∧ RoAt C5 H g st Rs[i].1 Rs[i].2 k c ∧ MoAt H t Rs[i] ∧ RoW Rs[i].1 Rs[i].2 := by
  have h1 : i < gs.length := by rw [h.l1]; exact hi
  have h2 : i < ts.length := by rw [h.l2]; exact hi
  have e1 := List.getElem?_eq_getElem h1
  have e2 := List.getElem?_eq_getElem h2
  have e3 := List.getElem?_eq_getElem hi
  obtain ⟨st, k, c, q⟩ := h.rd i _ _ e1 e3
  exact ⟨_, _, st, k, c, e1, e2, q, h.mo i _ _ e2 e3, h.wf _ (List.getElem_mem hi)⟩

/-! ### law -/
-- LAMHEAD: (T := T) (TT := TWhyM (I08 CB CG CU)) (k := 7) (by rfl) D_why.g D_why.F.kp lkW hcW D_why.b sc_why rfl (.inl rfl) (why_givesM (k := 3) (hr.mono (by omega)) Tb.gF D_fields (whyI08 D_fields B Tb Ob m1 Tg Og m2 Tu Ou m3)) TB rfl mT huT (hr.mono (by omega)) (show LamX.LamS (defScope s_law) _ from LamX.lamS_by (by decide +kernel)) rfl (fun _ _ _ _ _ => rfl)
abbrev s_law : Stmt := top 76
abbrev N_law : List Str := ["_law_script", "_law_draw", "_law_models", "_law_k", "_law_length", "_law_matings", "_law_road_here", "_law_held", "_law_number", "_law_turn", "_law_more", "_law_theirs", "_law_due", "_law_found", "_law_last", "_law_one", "_law_other", "_law_many", "_law_flips", "_law_full", "_law_far", "_law_i", "_law_j", "_law_pair", "_law_told", "_law_at"]
abbrev P_law : List Str := ["_law_script"]
theorem sc_law : FnScope N_law P_law (defScope s_law) := ⟨rfl, rfl, rfl, by decide +kernel, rfl, by decide +kernel, by decide +kernel⟩
structure W30 (C5 : Addr) (T : List (Addr × Str)) (H : Hp) (d l pr md : Addr) (gs ts : List Addr) (Rs : List (Int × StL)) : Prop where
  b : B30 C5 H pr md gs ts Rs
  dr : Draw H d l
  tb : LamX.Tabs T H
  n1 : pr ≠ d
  n2 : pr ≠ l
  n3 : md ≠ d
  n4 : md ≠ l
  n5 : pr ≠ md
theorem W30.same {C5 : Addr} {T : List (Addr × Str)} {H H' : Hp} {d l pr md : Addr} {gs ts : List Addr} {Rs : List (Int × StL)} (w : W30 C5 T H d l pr md gs ts Rs) (s : Same H H') : W30 C5 T H' d l pr md gs ts Rs :=
  ⟨w.b.same s, w.dr.same s, w.tb.ext s, w.n1, w.n2, w.n3, w.n4, w.n5⟩
theorem tabs_lst {T : List (Addr × Str)} {H H' : Hp} {g : Addr} {xs : List V} (t : LamX.Tabs T H) (eg : H g = some (.lst xs)) (k : Keep g H H') : LamX.Tabs T H' := fun p hp => by
  obtain ⟨ps, h1, h2, h3⟩ := t p hp
  refine ⟨ps, k.of h1 (ne_of h1 eg (fun e => by cases e)), h2, fun pos cv hc => ?_⟩
  obtain ⟨c, e1, e2⟩ := h3 pos cv hc
  exact ⟨c, e1, k.of e2 (ne_of e2 eg (fun e => by unfold LamX.CodeO at e; cases e))⟩
theorem W30.draw {C5 : Addr} {T : List (Addr × Str)} {H H' : Hp} {d l pr md : Addr} {gs ts : List Addr} {Rs : List (Int × StL)} (w : W30 C5 T H d l pr md gs ts Rs) (D : Draw H' d l) (k : Keep d H H') : W30 C5 T H' d l pr md gs ts Rs := by
  obtain ⟨ns, i, z, s, W⟩ := id w.dr
  exact ⟨w.b.draw w.dr w.n1 w.n3 k, D, tabs_lst w.tb W.at_d k, w.n1, w.n2, w.n3, w.n4, w.n5⟩
theorem W30.extN {C5 : Addr} {T : List (Addr × Str)} {H H' : Hp} {d l pr md : Addr} {gs ts : List Addr} {Rs : List (Int × StL)} (w : W30 C5 T H d l pr md gs ts Rs) (s : LamX.ExtN H H') (t : LamX.Tabs T H') : W30 C5 T H' d l pr md gs ts Rs := by
  obtain ⟨ns, i, z, sd, W⟩ := id w.dr
  exact ⟨w.b.extN s, ⟨ns, i, z, sd, { W with at_d := s _ _ W.at_d (fun _ q => by cases q), at_l := s _ _ W.at_l (fun _ q => by cases q) }⟩, t, w.n1, w.n2, w.n3, w.n4, w.n5⟩
theorem Paired.snocP {α β : Type} {F : α → β → Prop} {a : α} {b : β} : ∀ {as : List α} {bs : List β}, Paired F as bs → F a b → Paired F (as ++ [a]) (bs ++ [b])
  | _, _, .nil, h => .cons h .nil
  | _, _, .cons h r, h' => .cons h (Paired.snocP r h')
theorem W30.ins {C5 : Addr} {T : List (Addr × Str)} {H H' : Hp} {d l pr md g dx : Addr} {fs : List (Str × V)} {gs ts : List Addr} {Rs : List (Int × StL)} (w : W30 C5 T H d l pr md gs ts Rs) (eg : H g = some (.ins C5 dx fs)) (k : Keep g H H') (ng : g ∉ gs) : W30 C5 T H' d l pr md gs ts Rs := by
  have b := w.b
  obtain ⟨ns, i, z, sd, W⟩ := id w.dr
  have nd : d ≠ g := ne_of W.at_d eg (fun z => by cases z)
  have nl : l ≠ g := ne_of W.at_l eg (fun z => by cases z)
  refine ⟨⟨k _ _ (ne_of b.at_pr eg (fun z => by cases z)) b.at_pr, k _ _ (ne_of b.at_md eg (fun z => by cases z)) b.at_md, b.l1, b.l2, b.nd, fun i g' r h1 h2 => ?_, fun i t r h1 h2 => (b.mo i t r h1 h2).other eg k, b.wf⟩, draw_keepR w.dr nd nl k, tabs_ins w.tb eg k, w.n1, w.n2, w.n3, w.n4, w.n5⟩
  obtain ⟨st, k', c, q⟩ := b.rd i g' r h1 h2
  exact ⟨st, k', c, q.other eg (fun z => ng (z ▸ List.mem_of_getElem? h1)) k⟩
theorem W30.off {C5 : Addr} {T : List (Addr × Str)} {H H' : Hp} {d l pr md g dx : Addr} {fs : List (Str × V)} {gs ts : List Addr} {Rs : List (Int × StL)} (w : W30 C5 T H d l pr md gs ts Rs) (D : Draw H' d l) (eg : H g = some (.ins C5 dx fs)) (ng : g ∉ gs) (k : ∀ b o, b ≠ d → b ≠ g → H b = some o → H' b = some o) : W30 C5 T H' d l pr md gs ts Rs := by
  obtain ⟨ns, i, z, sd, W⟩ := id w.dr
  have nd : d ≠ g := ne_of W.at_d eg (fun z => by cases z)
  have nl : l ≠ g := ne_of W.at_l eg (fun z => by cases z)
  let Hm : Hp := fun b => if b = g then H g else H' b
  have m1 : ∀ b, b ≠ g → Hm b = H' b := fun b h => if_neg h
  have mg' : Hm g = H g := if_pos rfl
  have k1 : Keep d H Hm := fun b o nb hb => by
    by_cases e : b = g
    · rw [e, mg', ← e]
      exact hb
    · rw [m1 b e]
      exact k b o nb e hb
  have k2 : Keep g Hm H' := fun b o nb hb => by
    rw [m1 b nb] at hb
    exact hb
  have Dm : Draw Hm d l := by
    obtain ⟨ns, i, z, s, W⟩ := D
    exact ⟨ns, i, z, s, { W with at_d := by rw [m1 d nd]; exact W.at_d, at_l := by rw [m1 l nl]; exact W.at_l }⟩
  exact (w.draw Dm k1).ins (by rw [mg']; exact eg) k2 ng
theorem pvS_get : ∀ (l : List M4) (N : Int) (j : Nat), sget (pvS N l) (N + (j : Int)) = l[j]?
  | [], N, j => rfl
  | x :: r, N, 0 => if_pos (by show N = N + ((0 : Nat) : Int); omega)
  | x :: r, N, j + 1 => by
    show (if N = N + ((j + 1 : Nat) : Int) then some x else sget (pvS (N + 1) r) (N + ((j + 1 : Nat) : Int))) = _
    rw [if_neg (by omega), show N + ((j + 1 : Nat) : Int) = N + 1 + (j : Int) by omega, pvS_get r (N + 1) j]
    rfl
theorem RoW.drop {n : Int} {S : StL} (h : RoW n S) (i : Int) : RoW n (sdrop S i) :=
  ⟨h.n0, h.n1, sdrop_keys h.up, fun s hs => h.low s (List.mem_filter.mp hs).1, Nat.le_trans (sdrop_length S i) h.len, fun s hs => h.ok s (List.mem_filter.mp hs).1⟩
theorem Std.ents30 {H : Hp} : ∀ {kvs : List (Key × V)} {S : StL}, Std H kvs S → ∃ ks : List (Int × Addr), kvs = ks.map entK ∧ Paired (fun (e : Int × Addr) (s : Int × M4) => e.1 = s.1 ∧ H e.2 = some (t4 s.2)) ks S
  | _, _, .nil => ⟨[], rfl, .nil⟩
  | _, _, .cons (a := kv) (b := s) ⟨h1, t, h2, h3⟩ r => by
    obtain ⟨ks, e, p⟩ := Std.ents30 r
    refine ⟨(s.1, t) :: ks, ?_, .cons ⟨rfl, h3⟩ p⟩
    rw [e, List.map_cons]
    congr 1
    exact Prod.ext h1 h2
theorem ents_keys30 {H : Hp} : ∀ {ks : List (Int × Addr)} {S : StL}, Paired (fun (e : Int × Addr) (s : Int × M4) => e.1 = s.1 ∧ H e.2 = some (t4 s.2)) ks S → ks.map (·.1) = S.map (·.1)
  | _, _, .nil => rfl
  | _, _, .cons h r => by rw [List.map_cons, List.map_cons, ents_keys30 r, h.1]
theorem ls_of {H H1 H5 : Hp} (k : Same H1 H5) : ∀ {as : List Addr} {ks : List (Int × Addr)}, Paired (fun (t : Addr) (e : Int × Addr) => H1 t = some (.tup [.int e.1, .ref e.2])) as ks → Same H1 H5 → ∀ {S : StL}, Paired (fun (e : Int × Addr) (s : Int × M4) => e.1 = s.1 ∧ H e.2 = some (t4 s.2)) ks S → Same H H5 → Ls H5 as S := by
  intro as ks pa
  induction pa with
  | nil =>
    intro _ S pk _
    cases pk
    exact .nil
  | cons h r ih =>
    intro _ S pk k2
    cases pk with
    | cons h2 r2 =>
      refine .cons ⟨_, ?_, k2 _ _ h2.2⟩ (ih k r2 k2)
      rw [← h2.1]
      exact k _ _ h
def sD (s : Int × M4) : PyData := .tuple [.int s.1, t4P s.2]
theorem Ls.rp30 {H : Hp} : ∀ {us : List Addr} {S : StL}, Ls H us S → RpAll H 2 (us.map V.ref) (S.map sD)
  | _, _, .nil => .nil _
  | _, _, .cons ⟨t, e1, e2⟩ r => .cons (.tup e1 (by show 2 ≤ 100000; decide) (.cons (.int _ _) (.cons (.tup e2 (by show 4 ≤ 100000; decide) (.cons (.int _ _) (.cons (.int _ _) (.cons (.int _ _) (.cons (.int _ _) (.nil _)))))) (.nil _)))) (Ls.rp30 r)
def hK : Int → List Addr → List (Key × V)
  | _, [] => []
  | N, t :: r => (Sum.inl N, V.ref t) :: hK (N + 1) r
theorem hK_std {H : Hp} : ∀ (N : Int) {ts : List Addr} {ms : List M4}, Mts H ts ms → Std H (hK N ts) (pvS N ms)
  | _, _, _, .nil => .nil
  | N, _, _, .cons h r => .cons ⟨rfl, _, rfl, h⟩ (hK_std (N + 1) r)
theorem hK_snoc (t : Addr) : ∀ (N : Int) (l : List Addr), hK N (l ++ [t]) = hK N l ++ [(Sum.inl (N + (l.length : Nat)), V.ref t)]
  | N, [] => by
    show [(Sum.inl N, V.ref t)] = [(Sum.inl (N + ((0 : Nat) : Int)), V.ref t)]
    rw [show N + ((0 : Nat) : Int) = N by omega]
  | N, y :: r => by
    show (Sum.inl N, V.ref y) :: hK (N + 1) (r ++ [t]) = (Sum.inl N, V.ref y) :: (hK (N + 1) r ++ [(Sum.inl (N + ((r.length + 1 : Nat) : Int)), V.ref t)])
    rw [hK_snoc t (N + 1) r, show N + 1 + (r.length : Int) = N + ((r.length + 1 : Nat) : Int) by omega]
theorem mergeK_new : ∀ (b a : List (Key × V)), ((a ++ b).map (·.1)).Nodup → mergeK a b = a ++ b
  | [], a, _ => (List.append_nil a).symm
  | x :: r, a, h => by
    have hx : valV a x.1 = none := by
      cases hv : valV a x.1 with
      | none => rfl
      | some v =>
        exfalso
        have q : (a.any fun kv => decide (kv.1 = x.1)) = true := by rw [valV_any, hv]; rfl
        obtain ⟨p, hp, e⟩ := List.any_eq_true.mp q
        rw [List.map_append, List.nodup_append] at h
        exact h.2.2 p.1 (List.mem_map.mpr ⟨p, hp, rfl⟩) x.1 (List.mem_map.mpr ⟨x, List.mem_cons_self, rfl⟩) (of_decide_eq_true e)
    have e : mergeK a (x :: r) = mergeK (putK a x.1 x.2) r := rfl
    rw [e, putK_new x.2 hx, mergeK_new r (a ++ [(x.1, x.2)]) (by rw [List.append_assoc]; exact h), List.append_assoc]
    rfl
theorem hK_nodup {N : Int} {ts : List Addr} {H : Hp} {ms : List M4} (h : Mts H ts ms) : ((hK N ts).map (·.1)).Nodup := by
  rw [(hK_std N h).keys]
  have u := pvS_up N ms
  generalize (pvS N ms).map (·.1) = l at u
  rw [List.Nodup, List.pairwise_map]
  exact u.imp fun h e => by have := Sum.inl.inj e; omega
def spLaw30 (K : PySem.W.Frag) (T : List (Addr × Str)) : Sp := fun vs H Q _ => ∃ (a : Addr) (ns : List Int), vs = [.ref a] ∧ SqL K H a (ns.map V.int) ∧ ns.length ≤ 63 ∧ LamX.Tabs T H ∧ ∀ H', Q (.bl true) H'
theorem Mrd.ok {n : Int} {x : M4} (h : Mrd n x) : Mok n x := ⟨h.f01, h.m1, h.o0, h.p0, h.o1, h.p1⟩
abbrev SL (a d md pr : Addr) (y3 y4 y5 y6 y7 y8 y9 y10 y11 y12 y13 y14 y15 y16 y17 y18 y21 y22 y24 : Option V) : L2.St :=
  [some (.ref a), some (.ref d), some (.ref md), y3, y4, y5, y6, y7, y8, y9, y10, y11, y12, y13, y14, y15, y16, y17, y18, none, none, y21, y22, some (.ref pr), y24, none]
abbrev SF (a d md pr gf : Addr) (y3 y4 y5 y6 y7 y8 y9 y10 y11 y12 y13 y14 y15 y16 y17 y18 y21 y22 y24 : Option V) : L2.St :=
  [some (.ref a), some (.ref d), some (.ref md), y3, y4, y5, y6, y7, y8, y9, y10, y11, y12, y13, y14, y15, y16, y17, y18, none, some (.ref gf), y21, y22, some (.ref pr), y24, none]
/-- the far road's matings -/
def f30 (j : Nat) : List M4 := (List.range j).map fun (q : Nat) => (0 + (q : Int), 0 + (q : Int) + 5, 3, 0)
theorem f30_len (j : Nat) : (f30 j).length = j := by unfold f30; rw [List.length_map, List.length_range]
theorem f30_snoc (j : Nat) : f30 (j + 1) = f30 j ++ [(0 + (j : Int), 0 + (j : Int) + 5, 3, 0)] := by unfold f30; rw [List.range_succ, List.map_append]; rfl
theorem f30_m {q : Nat} (h : q ≤ 24) : Mok 1000000000000000000 (0 + (q : Int), 0 + (q : Int) + 5, 3, 0) :=
  ⟨.inl rfl, by show (1 : Int) ≤ 3; decide, by show 0 ≤ 0 + (q : Int); omega, by show 0 ≤ 0 + (q : Int) + 5; omega, by show 0 + (q : Int) + 3 ≤ _; omega, by show 0 + (q : Int) + 5 + 3 ≤ _; omega⟩
theorem f30_ok (j : Nat) (h : j ≤ 24) : ∀ x ∈ f30 j, Mok 1000000000000000000 x := fun x hx => by
  obtain ⟨q, hq, rfl⟩ := List.mem_map.mp hx
  exact f30_m (by have := List.mem_range.mp hq; omega)
theorem f30_trim : (trS 999999999999999999 (pvS 1 (f30 24))).length = 24 := by decide +kernel
section
variable {P : Program} {w : World} {K : PySem.W.Frag} {mg : Str → Option Value} {base : Heap}
theorem ok_law {f fO fP fRd fL fW fF fPv fLt fRi fBh fSk fMt fLn fMs gB gG gU CF CB CG CU C5 c Pt a1 a2 a3 b0 b1 b2 b3 b4 b5 b6 e0 e1 e2 e3 e4 e5 e6 e7 e8 e9 e10 e11 e12 e13 e14 e15 e16 : Addr} {fdO fdP fdRd fdL fdW fdF fdPv fdLt fdRi fdBh fdSk fdMt fdLn fdMs gdB gdG gdU : FuncData} {T : List (Addr × Str)} {dsM : List Value} {kV doc pm ct oc : Value} {an od : Option Addr} {osl : Array (Option Value)}
    (lk : K.lookup f = some ⟨oc, od, .func (PySem.W.fnOf "law" "law" (defArgs s_law) (defBody s_law) (defScope s_law) .none kV doc pm an (.ref c) ct), osl⟩) (hcd : PySem.W.codeIn K (.ref c) "law" = true) (TB : LamX.TabB base mg c Pt) (mT : (Pt, lamQ) ∈ T) (huT : ∀ p ∈ T, p.1 = Pt → p.2 = lamQ)
    (D_open : DefAt K mg "_law_open" s_open P_open fO fdO) (D_pull : DefAt K mg "_law_pull" s_pull P_pull fP fdP) (D_like : DefAt K mg "_law_like" s_like P_like fL fdL) (D_road : DefAt K mg "_law_road" s_road P_road fRd fdRd) (G_road : FnOk P w K mg base CX0 3 fRd fdRd P_road spRoad)
    (D_why : DefAt K mg "_law_why" s_why P_why fW fdW) (D_fields : DefAt K mg "_law_fields" s_fields P_fields fF fdF)
    (Tb : ErT K mg CF CB gB gdB "BadNumber" N_bninit) (Ob : OthBnE K mg CB a1 a2 a3) (m1 : PySem.W.findIn K (.ref CB) "number" = some none) (Tg : ErT K mg CF CG gG gdG "BadMating" N_bginit) (Og : OthBgE K mg CG b0 b1 b2 b3 b4 b5 b6) (m2 : PySem.W.findIn K (.ref CG) "mating" = some none)
    (Tu : ErT K mg CF CU gU gdU "Full" N_fuinit) (Ou : OthFuE K mg CU e0 e1 e2 e3 e4 e5 e6 e7 e8 e9 e10 e11 e12 e13 e14 e15 e16) (m3 : PySem.W.findIn K (.ref CU) "most" = some none)
    (TRo_ : RoT K mg C5) (mkRo_ : Mk K C5 fRi) (G_Ro_init : FnOk P w K mg base CX0 4 fRi fdRi P_Ro_init (spRoInit C5)) (b_Ro_init : Binds K fdRi P_Ro_init [])
    (M_Ro_mate : Meth K C5 "mate" fMt) (G_Ro_mate : FnOk P w K mg base CX0 4 fMt fdMt P_Ro_mate (spMate C5)) (b_Ro_mate : Binds K fdMt P_Ro_mate dsM) (dv_mate : Vals [.int 0] dsM)
    (M_Ro_strike : Meth K C5 "strike" fSk) (G_Ro_strike : FnOk P w K mg base CX0 2 fSk fdSk P_Ro_strike (spStrike C5)) (b_Ro_strike : Binds K fdSk P_Ro_strike [])
    (M_Ro_behind : Meth K C5 "behind" fBh) (GX_Ro_behind : FnOk P w K mg base (L2.CX P w) 4 fBh fdBh P_Ro_behind (spBehind C5 CB CG CU)) (b_Ro_behind : Binds K fdBh P_Ro_behind [])
    (M_Ro_length : Meth K C5 "length" fLn) (G_Ro_length : FnOk P w K mg base CX0 1 fLn fdLn P_Ro_length (spRoLen C5)) (b_Ro_length : Binds K fdLn P_Ro_length []) (M_Ro_matings : Meth K C5 "matings" fMs) (G_Ro_matings : FnOk P w K mg base CX0 1 fMs fdMs P_Ro_matings (spMatings C5)) (b_Ro_matings : Binds K fdMs P_Ro_matings [])
    (D_paved : DefAt K mg "_law_paved" s_paved P_paved fPv fdPv) (G_paved : FnOk P w K mg base CX0 6 fPv fdPv P_paved (spPaved C5)) (D_late : DefAt K mg "_law_late" s_late P_late fLt fdLt) (G_late : FnOk P w K mg base CX0 10 fLt fdLt P_late (spLate C5 T)) (B : Bn mg) :
    FnOk P w K mg base CX0 14 f (PySem.W.fnOf "law" "law" (defArgs s_law) (defBody s_law) (defScope s_law) .none kV doc pm an (.ref c) ct) P_law (spLaw30 K T) := by
  have G_open : FnOk P w K mg base CX0 1 fO fdO P_open (spOpen K) := ok_open D_open B
  have G_pull : FnOk P w K mg base CX0 1 fP fdP P_pull spPull := ok_pull D_pull B
  have G_like : FnOk P w K mg base CX0 5 fL fdL P_like (spLike 4) := ok_like D_like B 4
  obtain ⟨ocW, odW, kVW, docW, pmW, anW, cdvW, ctW, oslW, rfl, lkW, hcW⟩ := D_why.F.ex
  refine fn_of lk hcd sc_law (fun vs H Q E h => ?_) (fun A outer s H vs Q E hr h => ?_)
  · obtain ⟨a, ns, rfl, _⟩ := h
    rfl
  · obtain ⟨a, ns, rfl, hS, hlen, hPt, q⟩ := h
    suffices hh : ∃ t, PSs (cxOf CX0 P w K mg base N_law "law" (defScope s_law) f (.ref c) A outer s H E).nox (defBody s_law) t ∧ t { nx := fun _ H' => Q .non H', rt := Q } (L2.start N_law [.ref a]) H by
      obtain ⟨t, h1, h2⟩ := hh
      exact ⟨t, h1.nox, h2⟩
    have hu := hu_of hr
    refine ⟨_, (pss_cons (ps_set (i := 1) sc_law.nd rfl (.inl rfl) (pe_call G_open (hr.mono (by omega)) (by rfl) D_open.g D_open.F.kp D_open.b .nil pass0 (pa_cons (pv 0) pa_nil)))
      (pss_cons (ps_asg (pe_tup (pa_cons (pe_lst pa_nil) (pa_cons (pe_lst pa_nil) pa_nil))) (pg_tup (by rfl) (pgs_cons (pg_name (i := 23) sc_law.nd rfl (.inr rfl)) (pgs_cons (pg_name (i := 2) sc_law.nd rfl (.inl rfl)) pgs_nil))))
      (pss_cons (ps_for PassesOwn.never rfl (pi_range1 (by rfl) B.range (pa_cons pe_int pa_nil)) (pg_name (i := 3) sc_law.nd rfl (.inl rfl)) (C8.pss_cut (ps_asg (pe_call G_road (hr.mono (by omega)) (by rfl) D_road.g D_road.F.kp D_road.b .nil pass0 (pa_cons (pv 1) (pa_cons pe_int (pa_cons pe_int pa_nil)))) (pg_tup (by rfl) (pgs_cons (pg_name (i := 4) sc_law.nd rfl (.inl rfl)) (pgs_cons (pg_name (i := 5) sc_law.nd rfl (.inr rfl)) pgs_nil))))
      (pss_cons (ps_set (i := 6) sc_law.nd rfl (.inl rfl) (pe_call G_paved (hr.mono (by omega)) (by rfl) D_paved.g D_paved.F.kp D_paved.b .nil pass0 (pa_cons (pv 4) (pa_cons (pv 5) pa_nil))))
      (C8.pss_cut (ps_set (i := 7) sc_law.nd rfl (.inl rfl) (pe_callTy (call_dictP rfl) (by rfl) B.dict (by decide +kernel) (pa_cons (pe_lc (own := [("_law_at", 25)]) (g := gName 25) (by rfl) sc_law.nd (pi_range1 (by rfl) B.range (pa_cons (pe_callB call_len_seq (by rfl) B.len (by decide +kernel) (pa_cons (pv 5) pa_nil)) pa_nil)) (blkOk_by (own := [("_law_at", 25)]) (N := N_law) (sc := defScope s_law) (by decide +kernel)) (fun _ _ _ _ _ => (pg_name (i := 25) sc_law.nd rfl (.inl rfl))) (fun _ _ _ _ _ => pts_nil) (fun _ _ _ _ _ => (pe_tup (pa_cons (pe_op op_add (pv 25) pe_int) (pa_cons (pe_ix (show IxR _ (rIxL K) from ix_list) (pv 5) (pv 25) (fun _ _ => rfl)) pa_nil))))) pa_nil)))
      (C8.pss_cut (ps_if (pt_cmpR op_gt (pe_callB call_lenDk (by rfl) B.len (by decide +kernel) (pa_cons (pv 7) pa_nil)) pe_int (nomark _)) (pss_cons (ps_set (i := 8) sc_law.nd rfl (.inl rfl) (pe_op op_add pe_int (pe_call G_pull (hr.mono (by omega)) (by rfl) D_pull.g D_pull.F.kp D_pull.b .nil pass0 (pa_cons (pv 1) (pa_cons (pe_callB call_lenDk (by rfl) B.len (by decide +kernel) (pa_cons (pv 7) pa_nil)) pa_nil)))))
      (pss_cons (ps_expr (pe_meth (pv 6) TRo_.cl M_Ro_strike G_Ro_strike (hr.mono (by omega)) b_Ro_strike .nil pass0 (pa_cons (pv 8) pa_nil)))
      (pss_one (ps_expr (pe_dpop1 (pv 7) (pv 8) ⟨rfl, rfl, rfl, rfl⟩))))) pss_nil)
      (pss_cons (ps_expr (pe_bm PySem.F.plainAttrs_list PySem.F.slot_list_append PySem.F.type_list_append mt_append (pv 23) (pa_cons (pv 6) pa_nil)))
      (pss_one (ps_expr (pe_bm PySem.F.plainAttrs_list PySem.F.slot_list_append PySem.F.type_list_append mt_append (pv 2) (pa_cons (pe_tup (pa_cons (pv 4) (pa_cons (pv 7) pa_nil))) pa_nil))))))))))
      (pss_cons (ps_for PassesOwn.never rfl (pi_range1 (by rfl) B.range (pa_cons pe_int pa_nil)) (pg_name (i := 9) sc_law.nd rfl (.inl rfl)) (pss_cons (ps_asg (pe_tup (pa_cons (pe_call G_pull (hr.mono (by omega)) (by rfl) D_pull.g D_pull.F.kp D_pull.b .nil pass0 (pa_cons (pv 1) (pa_cons pe_int pa_nil))) (pa_cons (pe_call G_pull (hr.mono (by omega)) (by rfl) D_pull.g D_pull.F.kp D_pull.b .nil pass0 (pa_cons (pv 1) (pa_cons pe_int pa_nil))) pa_nil))) (pg_tup (by rfl) (pgs_cons (pg_name (i := 21) sc_law.nd rfl (.inr rfl)) (pgs_cons (pg_name (i := 22) sc_law.nd rfl (.inr rfl)) pgs_nil))))
      (pss_cons (ps_asg (pe_ix ix_list (pv 2) (pv 21) (fun _ _ => rfl)) (pg_tup (by rfl) (pgs_cons (pg_name (i := 4) sc_law.nd rfl (.inl rfl)) (pgs_cons (pg_name (i := 7) sc_law.nd rfl (.inl rfl)) pgs_nil))))
      (pss_cons (ps_asg (pe_ix ix_list (pv 2) (pv 22) (fun _ _ => rfl)) (pg_tup (by rfl) (pgs_cons (pg_name (i := 10) sc_law.nd rfl (.inl rfl)) (pgs_cons (pg_name (i := 11) sc_law.nd rfl (.inl rfl)) pgs_nil))))
      (C8.pss_cut (ps_set (i := 12) sc_law.nd rfl (.inl rfl) (pe_ifExp (pt_cmpR op_le (pe_op op_add (pe_callB call_lenDk (by rfl) B.len (by decide +kernel) (pa_cons (pv 7) pa_nil)) (pe_callB call_lenDk (by rfl) B.len (by decide +kernel) (pa_cons (pv 11) pa_nil))) pe_int (nomark _)) (pe_tup (pa_cons pe_str (pa_cons pe_non pa_nil))) (pe_tup (pa_cons pe_str (pa_cons pe_int pa_nil)))))
      (pss_cons (ps_set (i := 24) sc_law.nd rfl (.inr rfl) (pe_lst pa_nil))
      (C8.pss_cut (ps_if (PW.pt (pw_or (pt_not (pt_val (pe_call G_like (hr.mono (by omega)) (by rfl) D_like.g D_like.F.kp D_like.b .nil pass0 (pa_cons (LamX.pe_lamcall (T := T) (TT := TWhyM (I08 CB CG CU)) (k := 7) (by rfl) D_why.g D_why.F.kp lkW hcW D_why.b sc_why rfl (.inl rfl) (why_givesM (k := 3) (hr.mono (by omega)) Tb.gF D_fields (whyI08 D_fields B Tb Ob m1 Tg Og m2 Tu Ou m3)) TB rfl mT huT (hr.mono (by omega)) (show LamX.LamS (defScope s_law) _ from LamX.lamS_by (by decide +kernel)) rfl (fun _ _ _ _ _ => rfl) (fun A1 outer1 s1 H1 E1 f1 c1 hr1 => (pe_appK (K := K) rfl (pv 24) (pa_cons (pe_meth (pe_ix (show IxR _ (rIxL K) from ix_list) (pv 23) (pv 21) (fun _ _ => rfl)) TRo_.cl M_Ro_behind GX_Ro_behind (hr1.mono (by omega)) b_Ro_behind .nil (passes_call (takes_of rfl rfl rfl rfl) fun _ _ _ _ h => h) (pa_cons (pe_ix (show IxR _ (rIxL K) from ix_list) (pv 23) (pv 22) (fun _ _ => rfl)) pa_nil)) pa_nil)))) (pa_cons (pv 12) pa_nil))))) (pw_or1 (pt_cmpR (op_notInT hr.units) (pv 24) (pe_tup (pa_cons (pe_lst pa_nil) (pa_cons (pe_lst (pa_cons pe_non pa_nil)) pa_nil))) (by rfl))))) (pss_one (ps_ret pe_bl)) pss_nil)
      (C8.pss_cut (ps_if (pt_cmpR op_eq (pe_ix ix_tup (pv 12) pe_int (fun _ _ => rfl)) pe_str (nomark _)) (pss_cons (ps_par (i := 13) (j := 14) (by rfl) sc_law.nd rfl rfl (by decide) rfl rfl (pa_cons (pe_callTy call_dictD (by rfl) B.dict (by decide +kernel) (pa_cons (pv 7) pa_nil)) (pa_cons (pe_callB (cr_max rfl) (by rfl) B.max (by decide +kernel) (pa_cons (pe_op op_cat (pe_lst (pa_cons pe_int pa_nil)) (pe_callB (call_sortedDI rfl) (by rfl) B.sorted (by decide +kernel) (pa_cons (pv 7) pa_nil))) pa_nil)) pa_nil)) (by rfl))
      (pss_cons (ps_for PassesOwn.never rfl (pi_list (pe_callB (call_sortedDI rfl) (by rfl) B.sorted (by decide +kernel) (pa_cons (pv 11) pa_nil))) (pg_name (i := 8) sc_law.nd rfl (.inl rfl)) (pss_cons (ps_asg (pe_dget hu (pv 11) (pv 8) (fun _ _ => rfl)) (pg_tup (by rfl) (pgs_cons (pg_name (i := 15) sc_law.nd rfl (.inl rfl)) (pgs_cons (pg_name (i := 16) sc_law.nd rfl (.inl rfl)) (pgs_cons (pg_name (i := 17) sc_law.nd rfl (.inl rfl)) (pgs_cons (pg_name (i := 18) sc_law.nd rfl (.inl rfl)) pgs_nil))))))
      (pss_cons (ps_set (i := 14) sc_law.nd rfl (.inl rfl) (pe_op op_add (pv 14) pe_int))
      (pss_one (ps_dput hu (pv 13) (pv 14) (pe_tup (pa_cons (pe_op op_add (pv 15) (pv 4)) (pa_cons (pe_op op_add (pv 16) (pv 4)) (pa_cons (pv 17) (pa_cons (pv 18) pa_nil))))) rfl)))))
      (pss_one (ps_asg (pe_tup (pa_cons (pe_op op_add (pv 4) (pv 10)) (pa_cons (pv 13) pa_nil))) (pg_sub (pv 2) (pv 21) set_list))))) pss_nil)
      (pss_one (ps_for PassesOwn.never rfl (pi_range1 (by rfl) B.range (pa_cons pe_int pa_nil)) (pg_name (i := 3) sc_law.nd rfl (.inl rfl)) (pss_one (ps_if (pt_not (pt_val (pe_call G_like (hr.mono (by omega)) (by rfl) D_like.g D_like.F.kp D_like.b .nil pass0 (pa_cons (pe_lst (pa_cons (pe_meth0 (pe_ix ix_list (pv 23) (pv 3) (fun _ _ => rfl)) TRo_.cl M_Ro_length G_Ro_length (hr.mono (by omega)) b_Ro_length .nil pass0) (pa_cons (pe_meth0 (pe_ix ix_list (pv 23) (pv 3) (fun _ _ => rfl)) TRo_.cl M_Ro_matings G_Ro_matings (hr.mono (by omega)) b_Ro_matings .nil pass0) pa_nil))) (pa_cons (pe_lst (pa_cons (pe_ix ix_tup (pe_ix ix_list (pv 2) (pv 3) (fun _ _ => rfl)) pe_int (fun _ _ => rfl)) (pa_cons (pe_callB (cr_sortedK rfl) (by rfl) B.sorted (by decide +kernel) (pa_cons (pe_bm0 PySem.F.plainAttrs_dict PySem.F.slot_dict_items PySem.F.type_dict_items mt_itemsK (pe_ix ix_tup (pe_ix ix_list (pv 2) (pv 3) (fun _ _ => rfl)) pe_int (fun _ _ => rfl))) pa_nil)) pa_nil))) pa_nil))))) (pss_one (ps_ret pe_bl)) pss_nil))))))))))))
      (pss_cons (ps_set (i := 20) sc_law.nd rfl (.inr rfl) (pe_make mkRo_ G_Ro_init (hr.mono (by omega)) (by rfl) TRo_.gC b_Ro_init .nil pass0 (pa_cons (pe_op op_pow pe_int pe_int) pa_nil)))
      (pss_cons (ps_for PassesOwn.never rfl (pi_range1 (by rfl) B.range (pa_cons pe_int pa_nil)) (pg_name (i := 3) sc_law.nd rfl (.inl rfl)) (pss_one (ps_expr (pe_meth (pv 20) TRo_.cl M_Ro_mate G_Ro_mate (hr.mono (by omega)) b_Ro_mate dv_mate pass0 (pa_cons (pv 3) (pa_cons (pe_op op_add (pv 3) pe_int) (pa_cons pe_int pa_nil)))))))
      (pss_cons (ps_set (i := 19) sc_law.nd rfl (.inl rfl) (pe_lst (pa_cons (pe_tup (pa_cons pe_str (pa_cons (pe_op op_add (pe_op op_pow pe_int pe_int) pe_int) pa_nil))) (pa_cons (pe_tup (pa_cons pe_str (pa_cons pe_int pa_nil))) pa_nil))))
      (pss_one (ps_ret (pe_call G_like (hr.mono (by omega)) (by rfl) D_like.g D_like.F.kp D_like.b .nil pass0 (pa_cons (pe_lst (pa_cons (LamX.pe_lamcall (T := T) (TT := TWhyM (I08 CB CG CU)) (k := 7) (by rfl) D_why.g D_why.F.kp lkW hcW D_why.b sc_why rfl (.inl rfl) (why_givesM (k := 3) (hr.mono (by omega)) Tb.gF D_fields (whyI08 D_fields B Tb Ob m1 Tg Og m2 Tu Ou m3)) TB rfl mT huT (hr.mono (by omega)) (show LamX.LamS (defScope s_law) _ from LamX.lamS_by (by decide +kernel)) rfl (fun _ _ _ _ _ => rfl) (fun A1 outer1 s1 H1 E1 f1 c1 hr1 => (pe_meth (pv 20) TRo_.cl M_Ro_behind GX_Ro_behind (hr1.mono (by omega)) b_Ro_behind .nil (passes_call (takes_of rfl rfl rfl rfl) fun _ _ _ _ h => h) (pa_cons (pe_call G_paved (hr1.mono (by omega)) (by rfl) D_paved.g D_paved.F.kp D_paved.b .nil pass0 (pa_cons pe_int (pa_cons (pe_lst (pa_cons (pe_tup (pa_cons pe_int (pa_cons pe_int (pa_cons pe_int (pa_cons pe_int pa_nil))))) pa_nil)) pa_nil))) pa_nil)))) (pa_cons (pe_call G_late (hr.mono (by omega)) (by rfl) D_late.g D_late.F.kp D_late.b .nil pass0 (pa_cons (pv 20) pa_nil)) pa_nil))) (pa_cons (pv 19) pa_nil)))))))))))), ?_⟩
    refine ⟨.ref a, rfl, a, ns, rfl, hS, hlen, fun H1 d l sm nd nl hD => ?_⟩
    have T1 : LamX.Tabs T H1 := hPt.ext sm
    refine ⟨Nat.zero_le _, fun pr npr => ⟨Nat.zero_le _, fun md nmd => ⟨by show 2 ≤ sizeLine; decide, fun t0 nt0 => ⟨t0, _, rfl, SqT.of upd_same, rfl, .ref pr, _, rfl, .ref md, _, rfl, rfl, ?_⟩⟩⟩⟩
    have z1 := same_upd (H := H1) (o := .lst []) npr
    have e1 : (upd H1 pr (.lst [])) pr = some (.lst []) := upd_same
    have D1 := hD.same z1
    have a1' := draw_apart hD npr
    generalize upd H1 pr (.lst []) = H2 at z1 e1 D1 nmd nt0
    have z2 := same_upd (H := H2) (o := .lst []) nmd
    have e2' : (upd H2 md (.lst [])) md = some (.lst []) := upd_same
    have a2' := draw_apart D1 nmd
    have npm : pr ≠ md := ne_of_none e1 nmd
    generalize upd H2 md (.lst []) = H3 at z2 e2' nt0
    have z3 := same_upd (H := H3) (o := .tup [.ref pr, .ref md]) nt0
    have W0 : W30 C5 T (upd H3 t0 (.tup [.ref pr, .ref md])) d l pr md [] [] [] :=
      ⟨⟨z3 _ _ (z2 _ _ e1), z3 _ _ e2', rfl, rfl, .nil, fun i g r h => by simp at h, fun i t r h => by simp at h, fun r h => nomatch h⟩, D1.same (z2.trans z3), T1.ext (z1.trans (z2.trans z3)), a1'.1.symm, a1'.2.symm, a2'.1.symm, a2'.2.symm, npm⟩
    generalize upd H3 t0 (.tup [.ref pr, .ref md]) = H4 at W0
    clear z1 z2 z3 e1 e2' D1 T1 hD sm
    refine ⟨3, rfl, by decide, by decide, for_range (lo := 0) (n := 3) (fun i σ G => ∃ (gs ts : List Addr) (Rs : List (Int × StL)) (y3 y4 y5 y6 y7 y8 : Option V), σ = SL a d md pr y3 y4 y5 y6 y7 y8 none none none none none none none none none none none none none ∧ W30 C5 T G d l pr md gs ts Rs ∧ Rs.length = i ∧ ∀ r ∈ Rs, r.1 ≤ 9)
      ⟨[], [], [], none, none, none, none, none, none, rfl, W0, rfl, fun r h => nomatch h⟩ ?_ ?_⟩
    · rintro i σ G hi ⟨gs, ts, Rs, y3, y4, y5, y6, y7, y8, rfl, W, lR, b9⟩
      refine ⟨fun σ G => ∃ (n : Int) (L : Addr) (tms : List Addr) (ms : List M4), σ = SL a d md pr (some (.int (0 + (i : Int)))) (some (.int n)) (some (.ref L)) y6 y7 y8 none none none none none none none none none none none none none ∧ W30 C5 T G d l pr md gs ts Rs ∧ G L = some (.lst (tms.map V.ref)) ∧ Mts G tms ms ∧ (∀ x ∈ ms, Mok n x) ∧ ms.length ≤ 5 ∧ 1 ≤ n ∧ n ≤ 9, ?_, ?_⟩
      · refine ⟨.ref d, rfl, d, l, 9, 5, rfl, W.dr, by decide, by decide, by decide, by decide, fun G2 t L n tms ms D2 k2 et nL eL hM hR hl n1 n2 => ⟨t, _, rfl, SqT.of et, rfl, .int n, _, rfl, .ref L, _, rfl, rfl, ?_⟩⟩
        exact ⟨n, L, tms, ms, rfl, W.draw D2 k2, eL, hM, fun x hx => (hR x hx).ok, by omega, n1, n2⟩
      clear W
      rintro σ G ⟨n, L, tms, ms, rfl, W, eL, hM, mok, lm, n1, n9⟩
      refine ⟨.int n, rfl, .ref L, rfl, n, L, tms, ms, rfl, by omega, by omega, eL, hM, mok, by omega, fun G3 g st R3 s3 ng nst => ?_⟩
      have W3 := W.same s3
      have eL3 := s3 _ _ eL
      have hM3 := hM.same s3
      have lt := hM.length
      have wf := RoW.pv (n := n) (by omega) (by omega) mok (by omega : ms.length ≤ 24)
      have ngs : g ∉ gs := fun hg => by
        obtain ⟨o, e⟩ := W.b.g_in hg
        rw [ng] at e
        cases e
      refine ⟨fun σ G4 => ∃ (hd : Addr), σ = SL a d md pr (some (.int (0 + (i : Int)))) (some (.int n)) (some (.ref L)) (some (.ref g)) (some (.ref hd)) y8 none none none none none none none none none none none none none ∧ Same G3 G4 ∧ G3 hd = none ∧ G4 hd = some (.dK (hK 1 tms)), ?_, ?_⟩
      · refine ⟨.ref L, rfl, L, _, rfl, .inl (SqL.of eL3), _, rfl, (by omega), (by rw [List.length_map]; omega), fun D nD => lc_range (lo := 0) (n := (((tms.map V.ref).length : Nat) : Int).toNat) (fun j G4 => ∃ us : List Addr, Same G3 G4 ∧ G4 D = some (.lst (us.map V.ref)) ∧ us.length = j ∧ Paired (fun u (kv : Key × V) => G4 u = some (.tup [L2.kV kv.1, kv.2])) us (hK 1 (tms.take j)))
          ⟨[], same_upd nD, upd_same, rfl, .nil⟩ ?_ ?_⟩
        · rintro j G4 hj ⟨us, sm, eD, lu, pp⟩
          have hj' : j < tms.length := by rw [List.length_map] at hj; omega
          have et := List.getElem?_eq_getElem hj'
          generalize tms[j] = t at et
          refine ⟨rfl, .int (0 + (j : Int)), rfl, 0 + (j : Int), 1, rfl, rfl, .ref L, rfl, .int (0 + (j : Int)), rfl, L, _, 0 + (j : Int), .ref t, rfl, rfl, SqL.of (sm _ _ eL3), (by rw [Int.zero_add]; exact atI_nat (j := j) (by rw [List.getElem?_map, et]; rfl)), by show 2 ≤ sizeLine; decide, fun u nu => ?_⟩
          have s5 := same_upd (H := G4) (o := .tup [.int (0 + (j : Int) + 1), .ref t]) nu
          have e5 : (upd G4 u (.tup [.int (0 + (j : Int) + 1), .ref t])) u = some (.tup [.int (0 + (j : Int) + 1), .ref t]) := upd_same
          generalize upd G4 u (.tup [.int (0 + (j : Int) + 1), .ref t]) = G5 at s5 e5
          have eD5 := s5 _ _ eD
          have kt : ∀ b xs, G5 b = some (.tup xs) → (upd G5 D (.lst (us.map V.ref ++ [.ref u]))) b = some (.tup xs) := fun b xs hb => by
            rw [upd_ne (ne_of hb eD5 (fun z => by cases z))]
            exact hb
          refine ⟨us.map V.ref, eD5, sz_lt (by rw [List.length_map]; omega), us ++ [u], fun b o hb => ?_, by rw [upd_same, List.map_append]; rfl, by rw [List.length_append, lu]; rfl, ?_⟩
          · rw [upd_ne (ne_of_none hb nD)]
            exact s5 _ _ (sm _ _ hb)
          · rw [List.take_add_one, et, show (some t).toList = [t] from rfl, hK_snoc]
            have ej : (1 : Int) + ((tms.take j).length : Nat) = 0 + (j : Int) + 1 := by rw [List.length_take]; omega
            rw [ej]
            refine Paired.snocP (Paired.mapP pp fun a b h => kt _ _ (s5 _ _ h)) ?_
            exact kt _ _ e5
        · rintro G4 ⟨us, sm, eD, lu, pp⟩
          rw [List.length_map, Int.toNat_natCast, List.take_length] at pp
          refine ⟨D, us, hK 1 tms, rfl, SqL.of eD, Paired.mapP pp fun a b h => SqT.of h, fun hd nhd => ⟨hd, rfl, fun b o hb => ?_, sm.free nhd, ?_⟩⟩
          · rw [upd_ne (ne_of_none (sm _ _ hb) nhd)]
            exact sm _ _ hb
          · rw [mergeK_new _ _ (hK_nodup hM3)]
            exact upd_same
      rintro σ G4 ⟨hd, rfl, s4, nhd, ehd⟩
      obtain ⟨dx, eg⟩ := R3.at_g
      have sdh := (hK_std 1 hM3).keep (H' := G4) (fun b xs hb => s4 _ _ hb)
      have lk4 := sdh.length
      rw [pvS_len] at lk4
      refine ⟨fun σ G5 => ∃ (y8 : Option V) (S : StL) (st : Addr) (k : V) (cc : Int) (kvs : List (Key × V)), σ = SL a d md pr (some (.int (0 + (i : Int)))) (some (.int n)) (some (.ref L)) (some (.ref g)) (some (.ref hd)) y8 none none none none none none none none none none none none none ∧ W30 C5 T G5 d l pr md gs ts Rs ∧ RoAt C5 G5 g st n S k cc ∧ RoW n S ∧ G5 hd = some (.dK kvs) ∧ Std G5 kvs S, ?_, ?_⟩
      · refine ⟨.ref hd, rfl, hd, hK 1 tms, rfl, ehd, ((hK 1 tms).length : Int), 1, rfl, rfl, _, rfl, ite2 (fun h => ?_) (fun h => ?_)⟩
        · have h' := of_decide_eq_true h
          refine ⟨.ref d, rfl, .ref hd, rfl, hd, hK 1 tms, rfl, ehd, d, l, ((hK 1 tms).length : Int), rfl, (W3.dr.same s4), by omega, by omega, fun v G5 v0 v1 D5 k5 => ⟨1, v, rfl, rfl, ?_⟩⟩
          obtain ⟨j, rfl⟩ := Int.eq_ofNat_of_zero_le v0
          have hj : j < ms.length := by omega
          have ex := pvS_get ms 1 j
          rw [List.getElem?_eq_getElem hj] at ex
          have k5o : KeepO G4 G5 := KeepO.draw (W3.dr.same s4) k5
          have R5 : RoAt C5 G5 g st n (pvS 1 ms) .non 0 := (R3.same s4).keepO k5o
          have eg5 : G5 g = some (.ins C5 dx (roF n st .non 0)) := k5o _ _ (s4 _ _ eg) (fun _ z => by cases z) (fun _ z => by cases z)
          have ehd5 : G5 hd = some (.dK (hK 1 tms)) := k5o _ _ ehd (fun _ z => by cases z) (fun _ z => by cases z)
          have sd5 : Std G5 (hK 1 tms) (pvS 1 ms) := sdh.keep fun b xs hb => k5o _ _ hb (fun _ z => by cases z) (fun _ z => by cases z)
          refine ⟨.ref g, rfl, g, dx, _, rfl, eg5, rfl, .int (1 + (j : Int)), rfl, ?_⟩
          refine ⟨g, st, n, 1 + (j : Int), pvS 1 ms, .non, 0, ms[j], rfl, R5, pvS_up _ _, by rw [pvS_len]; omega, ex, fun G6 st6 R6 k6 n6 => ?_⟩
          have nhg : hd ≠ g := ne_of ehd5 eg5 (fun z => by cases z)
          have ehd6 := k6 _ _ nhg ehd5
          have sd6 : Std G6 (hK 1 tms) (pvS 1 ms) := sd5.keep fun b xs hb => k6 _ _ (ne_of hb eg5 (fun z => by cases z)) hb
          obtain ⟨u, hu1, hu2⟩ := (sd6.get (1 + (j : Int))).2 _ ex
          refine ⟨.ref hd, rfl, hd, rfl, (.inl ⟨_, .inl ehd6⟩), .int (1 + (j : Int)), rfl, hK 1 tms, Sum.inl (1 + (j : Int)), _, ehd6, rfl, hu1, ?_⟩
          obtain ⟨⟨dx6, eg6⟩, kv6, es6, sd6'⟩ := R6
          have nsh : st6 ≠ hd := (ne_of_none ehd5 n6).symm
          have kh : Keep hd G6 (upd G6 hd (.dK (dropK (hK 1 tms) (Sum.inl (1 + (j : Int)))))) := Keep.upd
          have eh7 : (upd G6 hd (.dK (dropK (hK 1 tms) (Sum.inl (1 + (j : Int)))))) hd = some (.dK (dropK (hK 1 tms) (Sum.inl (1 + (j : Int))))) := upd_same
          have kt7 : ∀ b xs, G6 b = some (.tup xs) → (upd G6 hd (.dK (dropK (hK 1 tms) (Sum.inl (1 + (j : Int)))))) b = some (.tup xs) := fun b xs hb => kh _ _ (ne_of hb ehd6 (fun z => by cases z)) hb
          generalize upd G6 hd (.dK (dropK (hK 1 tms) (Sum.inl (1 + (j : Int))))) = G7 at kh eh7 kt7
          have D7 : Draw G7 d l := by
            obtain ⟨ns', i', z', sd', W'⟩ := id D5
            have D6 : Draw G6 d l := draw_keepR D5 (ne_of W'.at_d eg5 (fun z => by cases z)) (ne_of W'.at_l eg5 (fun z => by cases z)) k6
            obtain ⟨ns2, i2, z2, sd2, W2⟩ := id D6
            exact draw_keepR D6 (ne_of W2.at_d ehd6 (fun z => by cases z)) (ne_of W2.at_l ehd6 (fun z => by cases z)) kh
          refine ⟨_, sdrop (pvS 1 ms) (1 + (j : Int)), st6, .non, 0, _, rfl, W3.off D7 eg ngs (fun b o nb ng' hb => kh _ _ (fun z => ?_) (k6 _ _ ng' (k5 _ _ nb (s4 _ _ hb)))), ⟨⟨dx6, kh _ _ nhg.symm eg6⟩, kv6, kh _ _ nsh es6, sd6'.keep kt7⟩, wf.drop _, eh7, Std.drop (sd6.keep kt7)⟩
          rw [z, nhd] at hb
          cases hb
        · exact ⟨_, pvS 1 ms, st, .non, 0, hK 1 tms, rfl, W3.same s4, R3.same s4, wf, ehd, sdh⟩
      clear W W3 R3 eg ehd sdh lk4 s4 hM3 eL3 s3 hM eL
      rintro σ G5 ⟨y8', S, st5, k5, cc, kvs5, rfl, W5, R5, wf5, ehd5, sd5⟩
      have lg := W5.b.l1
      have lts := W5.b.l2
      refine ⟨.ref pr, rfl, .inl ⟨rfl, _, SqL.of W5.b.at_pr⟩, .ref g, rfl, pr, _, .ref g, rfl, rfl, W5.b.at_pr, sz_lt (by rw [List.length_map]; omega), ?_⟩
      have q1 : Keep pr G5 (upd G5 pr (.lst (gs.map V.ref ++ [.ref g]))) := Keep.upd
      have p1 : (upd G5 pr (.lst (gs.map V.ref ++ [.ref g]))) pr = some (.lst ((gs ++ [g]).map V.ref)) := by rw [upd_same, List.map_append]; rfl
      generalize upd G5 pr (.lst (gs.map V.ref ++ [.ref g])) = G6 at q1 p1
      have o1 : KeepO G5 G6 := KeepO.lst W5.b.at_pr q1
      have md6 := q1 _ _ W5.n5.symm W5.b.at_md
      refine ⟨.ref md, rfl, .inl ⟨rfl, _, SqL.of md6⟩, .int n, rfl, .ref hd, rfl, by show 2 ≤ sizeLine; decide, fun t nt => ?_⟩
      have s7 := same_upd (H := G6) (o := .tup [.int n, .ref hd]) nt
      have e7 : (upd G6 t (.tup [.int n, .ref hd])) t = some (.tup [.int n, .ref hd]) := upd_same
      generalize upd G6 t (.tup [.int n, .ref hd]) = G7 at s7 e7
      have md7 := s7 _ _ md6
      refine ⟨md, _, .ref t, rfl, rfl, md7, sz_lt (by rw [List.length_map]; omega), ?_⟩
      have q8 : Keep md G7 (upd G7 md (.lst (ts.map V.ref ++ [.ref t]))) := Keep.upd
      have p8 : (upd G7 md (.lst (ts.map V.ref ++ [.ref t]))) md = some (.lst ((ts ++ [t]).map V.ref)) := by rw [upd_same, List.map_append]; rfl
      generalize upd G7 md (.lst (ts.map V.ref ++ [.ref t])) = G8 at q8 p8
      have o8 : KeepO G7 G8 := KeepO.lst md7 q8
      have o58 : KeepO G5 G8 := (o1.trans (.same s7)).trans o8
      have t8 : G8 t = some (.tup [.int n, .ref hd]) := o8 _ _ e7 (fun _ z => by cases z) (fun _ z => by cases z)
      have d6 := draw_keepR W5.dr W5.n1.symm W5.n2.symm q1
      have d8 := draw_keepR (d6.same s7) W5.n3.symm W5.n4.symm q8
      refine ⟨gs ++ [g], ts ++ [t], Rs ++ [(n, S)], _, _, _, _, _, _, rfl, ⟨W5.b.push R5 ⟨hd, kvs5, t8, o58 _ _ ehd5 (fun _ z => by cases z) (fun _ z => by cases z), sd5.keep fun b xs hb => o58 _ _ hb (fun _ z => by cases z) (fun _ z => by cases z)⟩ wf5 ngs o58 (q8 _ _ W5.n5 (s7 _ _ p1)) p8, d8, tabs_lst ((tabs_lst W5.tb W5.b.at_pr q1).ext s7) md7 q8, W5.n1, W5.n2, W5.n3, W5.n4, W5.n5⟩, by rw [List.length_append, lR]; rfl, fun r hr' => ?_⟩
      rcases List.mem_append.mp hr' with z | z
      · exact b9 r z
      · rw [List.mem_singleton.mp z]
        exact n9
    · rintro σ G ⟨gs, ts, Rs, y3, y4, y5, y6, y7, y8, rfl, W, l3, b9⟩
      refine ⟨6, rfl, by decide, by decide, for_range (lo := 0) (n := 6) (fun i σ G => ∃ (gs ts : List Addr) (Rs : List (Int × StL)) (y3 y4 y5 y6 y7 y8 y9 y10 y11 y12 y13 y14 y15 y16 y17 y18 y21 y22 y24 : Option V), σ = SL a d md pr y3 y4 y5 y6 y7 y8 y9 y10 y11 y12 y13 y14 y15 y16 y17 y18 y21 y22 y24 ∧ W30 C5 T G d l pr md gs ts Rs ∧ Rs.length = 3 ∧ ∀ r ∈ Rs, r.1 ≤ 9 * 2 ^ i)
        ⟨gs, ts, Rs, y3, y4, y5, y6, y7, y8, none, none, none, none, none, none, none, none, none, none, none, none, none, rfl, W, l3, fun r hr' => by have := b9 r hr'; omega⟩ ?_ ?_⟩
      · clear W b9 l3 W0
        rintro i σ G hi ⟨gs, ts, Rs, y3, y4, y5, y6, y7, y8, y9, y10, y11, y12, y13, y14, y15, y16, y17, y18, y21, y22, y24, rfl, W, l3, b9⟩
        refine ⟨.ref d, rfl, d, l, 3, rfl, W.dr, by decide, by decide, fun u G1 u0 u1 D1 k1 => ⟨.ref d, rfl, d, l, 3, rfl, D1, by decide, by decide, fun v G2 v0 v1 D2 k2 => ⟨by show 2 ≤ sizeLine; decide, fun t1 nt1 => ⟨t1, _, rfl, SqT.of upd_same, rfl, .int u, _, rfl, .int v, _, rfl, rfl, ?_⟩⟩⟩⟩
        have W3 := ((W.draw D1 k1).draw D2 k2).same (same_upd (o := .tup [.int u, .int v]) nt1)
        generalize upd G2 t1 (.tup [.int u, .int v]) = G3 at W3
        clear W
        obtain ⟨iu, rfl⟩ := Int.eq_ofNat_of_zero_le u0
        obtain ⟨jv, rfl⟩ := Int.eq_ofNat_of_zero_le v0
        have hiu : iu < Rs.length := by omega
        have hjv : jv < Rs.length := by omega
        obtain ⟨g, t, st, k, cc, hg, ht, R, M, wf⟩ := W3.b.get hiu
        obtain ⟨g2, t2, st2, k2', cc2, hg2, ht2, R2, M2, wf2⟩ := W3.b.get hjv
        have bn := b9 _ (List.getElem_mem hiu)
        have bn2 := b9 _ (List.getElem_mem hjv)
        generalize er : Rs[iu] = r at R M wf bn
        generalize er2 : Rs[jv] = r2 at R2 M2 wf2 bn2
        obtain ⟨n, S⟩ := r
        obtain ⟨n2, S2⟩ := r2
        obtain ⟨hd, kvs, et, eh, sd⟩ := id M
        obtain ⟨hd2, kvs2, et2, eh2, sd2⟩ := id M2
        have p64 : (9 : Int) * 2 ^ i ≤ 288 := by
          have : i < 6 := by simpa using hi
          rcases i with _ | _ | _ | _ | _ | _ | i <;> first | decide | omega
        refine ⟨.ref md, rfl, .int (iu : Int), rfl, md, _, (iu : Int), .ref t, rfl, rfl, SqL.of W3.b.at_md, atI_nat (j := iu) (by rw [List.getElem?_map, ht]; rfl), t, _, rfl, SqT.of et, rfl, .int n, _, rfl, .ref hd, _, rfl, rfl, ?_⟩
        refine ⟨.ref md, rfl, .int (jv : Int), rfl, md, _, (jv : Int), .ref t2, rfl, rfl, SqL.of W3.b.at_md, atI_nat (j := jv) (by rw [List.getElem?_map, ht2]; rfl), t2, _, rfl, SqT.of et2, rfl, .int n2, _, rfl, .ref hd2, _, rfl, rfl, ?_⟩
        have lk : kvs.length = S.length := sd.length
        have lk2 : kvs2.length = S2.length := sd2.length
        refine ⟨fun σ G4 => ∃ (td : Addr) (ww : Str) (x : V), σ = SL a d md pr y3 (some (.int n)) y5 y6 (some (.ref hd)) y8 (some (.int (0 + (i : Int)))) (some (.int n2)) (some (.ref hd2)) (some (.ref td)) y13 y14 y15 y16 y17 y18 (some (.int (iu : Int))) (some (.int (jv : Int))) y24 ∧ Same G3 G4 ∧ G4 td = some (.tup [.str ww, x]) ∧
          ((ww = "" ∧ x = .non ∧ S.length + S2.length ≤ 24) ∨ (ww = "Full" ∧ x = .int 24 ∧ 24 < S.length + S2.length)), ?_, ?_⟩
        · refine ⟨.ref hd, rfl, hd, kvs, rfl, eh, .ref hd2, rfl, hd2, kvs2, rfl, eh2, (kvs.length : Int), (kvs2.length : Int), rfl, rfl, (kvs.length : Int) + (kvs2.length : Int), 24, rfl, rfl, _, rfl, ite2 (fun h => ?_) (fun h => ?_)⟩
          · have h' := of_decide_eq_true h
            exact ⟨by show 2 ≤ sizeLine; decide, fun td ntd => ⟨td, "", .non, rfl, same_upd ntd, upd_same, .inl ⟨rfl, rfl, by omega⟩⟩⟩
          · have h' : ¬ (kvs.length : Int) + (kvs2.length : Int) ≤ 24 := fun z => h (decide_eq_true z)
            exact ⟨by show 2 ≤ sizeLine; decide, fun td ntd => ⟨td, "Full", .int 24, rfl, same_upd ntd, upd_same, .inr ⟨rfl, rfl, by omega⟩⟩⟩
        rintro σ G4 ⟨td, ww, x, rfl, s4, etd, due⟩
        refine ⟨Nat.zero_le _, fun A nA => ?_⟩
        have sA := same_upd (H := G4) (o := .lst []) nA
        have eA : (upd G4 A (.lst [])) A = some (.lst []) := upd_same
        have nA3 : G3 A = none := s4.free nA
        generalize upd G4 A (.lst []) = G5 at sA eA
        have s35 := s4.trans sA
        refine ⟨fun σ G6 => σ = SL a d md pr y3 (some (.int n)) y5 y6 (some (.ref hd)) y8 (some (.int (0 + (i : Int)))) (some (.int n2)) (some (.ref hd2)) (some (.ref td)) y13 y14 y15 y16 y17 y18 (some (.int (iu : Int))) (some (.int (jv : Int))) (some (.ref A)) ∧ LamX.Tabs T G6 ∧
          ((ww = "" ∧ (∃ st' k', RoAt C5 G6 g st' (n + n2) (bhd n S S2) k' cc) ∧ ∀ b o, G3 b = some o → b ≠ g → (∀ ps, o ≠ .tbl ps) → G6 b = some o) ∨ (ww = "Full" ∧ ∀ b o, G3 b = some o → (∀ ps, o ≠ .tbl ps) → G6 b = some o)) ∧ G6 td = some (.tup [.str ww, x]), ?_, ?_⟩
        · refine ⟨(W3.same s35).tb, fun HE eN TE t0 nt0 Z hZ => ?_⟩
          have s0 := same_upd (H := HE) (o := .tup [.str "", .non]) nt0
          have e0 : (upd HE t0 (.tup [.str "", .non])) t0 = some (.tup [.str "", .non]) := upd_same
          have T0 := TE.ext s0
          generalize upd HE t0 (.tup [.str "", .non]) = G6 at s0 e0 T0
          have x36 : ∀ b o, G3 b = some o → (∀ ps, o ≠ .tbl ps) → G6 b = some o := fun b o hb ht => s0 _ _ (eN _ _ (s35 _ _ hb) ht)
          have W6 := ((W3.same s35).extN eN TE).same s0
          have eA6 : G6 A = some (.lst []) := s0 _ _ (eN _ _ eA (fun _ z => by cases z))
          have etd6 : G6 td = some (.tup [.str ww, x]) := s0 _ _ (eN _ _ (sA _ _ etd) (fun _ z => by cases z))
          have k36 : KeepO G3 G6 := fun b o hb _ ht => x36 b o hb ht
          have R6 := R.keepO k36
          have R62 := R2.keepO k36
          obtain ⟨dx, eg⟩ := R6.at_g
          have nAg : A ≠ g := ne_of eA6 eg (fun z => by cases z)
          have dueD : ∀ (G : Hp) (t9 : Addr) (w9 : Str) (x9 : V) (D9 : PyData), G t9 = some (.tup [.str w9, x9]) → Rp G 3 x9 D9 → Rp G 4 (.ref t9) (.tuple [.str w9, D9]) := fun G t9 w9 x9 D9 e r => .tup e (by show 2 ≤ 100000; decide) (.cons (.str _ _) (.cons r (.nil _)))
          refine ⟨.ref A, rfl, .inl ⟨rfl, _, SqL.of eA6⟩, .ref pr, rfl, .int (iu : Int), rfl, pr, _, (iu : Int), .ref g, rfl, rfl, SqL.of W6.b.at_pr, atI_nat (j := iu) (by rw [List.getElem?_map, hg]; rfl), g, dx, _, rfl, eg, rfl, .ref pr, rfl, .int (jv : Int), rfl, pr, _, (jv : Int), .ref g2, rfl, rfl, SqL.of W6.b.at_pr, atI_nat (j := jv) (by rw [List.getElem?_map, hg2]; rfl), ?_⟩
          refine ⟨g, st, g2, st2, n, n2, S, S2, k, k2', cc, cc2, rfl, R6, R62, wf, wf2, fun h => absurd h (by omega), fun _ h => ?_, fun _ h => ?_⟩
          · -- refused
            rcases due with ⟨_, _, z⟩ | ⟨rfl, rfl, _⟩
            · exact absurd h (by omega)
            intro Ce fs H' d' ei s' nd' ed
            refine ⟨Ce, d', fs, "Full", _, rfl, rfl, ed, ei.i08, fun HG t9 u9 sG hu9 e9 => ?_⟩
            rw [hu9] at e9
            have s69 := s'.trans sG
            refine ⟨.ref td, rfl, .ref t9, .ref td, .tuple [.str "Full", .int 24], rfl, dueD _ _ _ _ _ e9 (.int _ _), dueD _ _ _ _ _ (s69 _ _ etd6) (.int _ _), fun H10 s10 => ?_⟩
            have s610 := s69.trans s10
            have eA10 : H10 A = some (.lst []) := s610 _ _ eA6
            refine ⟨true, rfl, iteF ⟨.ref A, rfl, Nat.zero_le _, fun q1 nq1 => ⟨by show 1 ≤ sizeLine; decide, fun q2 nq2 => ⟨by show 2 ≤ sizeLine; decide, fun q3 nq3 => ?_⟩⟩⟩⟩
            have r1 := same_upd (H := H10) (o := .lst []) nq1
            have f1 : (upd H10 q1 (.lst [])) q1 = some (.lst []) := upd_same
            generalize upd H10 q1 (.lst []) = J1 at r1 f1 nq2 nq3
            have r2 := same_upd (H := J1) (o := .lst [.non]) nq2
            have f2 : (upd J1 q2 (.lst [.non])) q2 = some (.lst [.non]) := upd_same
            generalize upd J1 q2 (.lst [.non]) = J2 at r2 f2 nq3
            have r3 := same_upd (H := J2) (o := .tup [.ref q1, .ref q2]) nq3
            have f3 : (upd J2 q3 (.tup [.ref q1, .ref q2])) q3 = some (.tup [.ref q1, .ref q2]) := upd_same
            generalize upd J2 q3 (.tup [.ref q1, .ref q2]) = J3 at r3 f3
            have rr := r1.trans (r2.trans r3)
            refine ⟨.list [], [.list [], .list [.none]], .lst (SqL.of (rr _ _ eA10)) .nil, .tup (SqT.of f3) (.cons (.lst (SqL.of (r3 _ _ (r2 _ _ f1))) .nil) (.cons (.lst (SqL.of (r3 _ _ f2)) (.cons .non .nil)) .nil)), rfl, rfl, by decide, _, rfl, iteF ?_⟩
            exact ⟨rfl, T0.ext (s610.trans rr), .inr ⟨rfl, fun b o hb ht => rr _ _ (s610 _ _ (x36 b o hb ht))⟩, rr _ _ (s610 _ _ etd6)⟩
          · -- done
            rcases due with ⟨rfl, rfl, _⟩ | ⟨_, _, z⟩
            · intro H' st' R' k' n'
              have eA' := k' _ _ nAg eA6
              refine ⟨A, [], .non, rfl, rfl, eA', by decide, hZ _ _ ?_⟩
              have kA : Keep A H' (upd H' A (.lst ([] ++ [.non]))) := Keep.upd
              have eA9 : (upd H' A (.lst ([] ++ [.non]))) A = some (.lst [.non]) := upd_same
              generalize upd H' A (.lst ([] ++ [.non])) = H9 at kA eA9
              have T9 : LamX.Tabs T H9 := tabs_lst (tabs_ins T0 eg k') eA' kA
              have tup9 : ∀ b xs, G6 b = some (.tup xs) → H9 b = some (.tup xs) := fun b xs hb => by
                have h1 := k' _ _ (ne_of hb eg (fun z => by cases z)) hb
                exact kA _ _ (ne_of h1 eA' (fun z => by cases z)) h1
              have R9 := R'.keepO (KeepO.lst eA' kA)
              have x39 : ∀ b o, G3 b = some o → b ≠ g → (∀ ps, o ≠ .tbl ps) → H9 b = some o := fun b o hb nb ht => kA _ _ (ne_of_none hb nA3) (k' _ _ nb (x36 b o hb ht))
              refine ⟨.ref td, rfl, .ref t0, .ref td, .tuple [.str "", .none], rfl, dueD _ _ _ _ _ (tup9 _ _ e0) (.non _), dueD _ _ _ _ _ (tup9 _ _ etd6) (.non _), fun H10 s10 => ?_⟩
              have eA10 : H10 A = some (.lst [.non]) := s10 _ _ eA9
              refine ⟨true, rfl, iteF ⟨.ref A, rfl, Nat.zero_le _, fun q1 nq1 => ⟨by show 1 ≤ sizeLine; decide, fun q2 nq2 => ⟨by show 2 ≤ sizeLine; decide, fun q3 nq3 => ?_⟩⟩⟩⟩
              have r1 := same_upd (H := H10) (o := .lst []) nq1
              have f1 : (upd H10 q1 (.lst [])) q1 = some (.lst []) := upd_same
              generalize upd H10 q1 (.lst []) = J1 at r1 f1 nq2 nq3
              have r2 := same_upd (H := J1) (o := .lst [.non]) nq2
              have f2 : (upd J1 q2 (.lst [.non])) q2 = some (.lst [.non]) := upd_same
              generalize upd J1 q2 (.lst [.non]) = J2 at r2 f2 nq3
              have r3 := same_upd (H := J2) (o := .tup [.ref q1, .ref q2]) nq3
              have f3 : (upd J2 q3 (.tup [.ref q1, .ref q2])) q3 = some (.tup [.ref q1, .ref q2]) := upd_same
              generalize upd J2 q3 (.tup [.ref q1, .ref q2]) = J3 at r3 f3
              have rr := s10.trans (r1.trans (r2.trans r3))
              refine ⟨.list [.none], [.list [], .list [.none]], .lst (SqL.of (rr _ _ eA9)) (.cons .non .nil), .tup (SqT.of f3) (.cons (.lst (SqL.of (r3 _ _ (r2 _ _ f1))) .nil) (.cons (.lst (SqL.of (r3 _ _ f2)) (.cons .non .nil)) .nil)), rfl, rfl, by decide, _, rfl, iteF ?_⟩
              exact ⟨rfl, T9.ext rr, .inl ⟨rfl, ⟨st', _, R9.same rr⟩, fun b o hb nb ht => rr _ _ (x39 b o hb nb ht)⟩, rr _ _ (tup9 _ _ etd6)⟩
            · exact absurd h (by omega)
        rintro σ G6 ⟨rfl, T6, why, etd6⟩
        obtain ⟨dx, eg3⟩ := R.at_g
        have ngm : ∀ b xs, G3 b = some (.lst xs) → b ≠ g := fun b xs hb => ne_of hb eg3 (fun z => by cases z)
        refine ⟨fun σ G7 => ∃ (ts' : List Addr) (Rs' : List (Int × StL)) (y3 y4 y5 y6 y7 y8 y9 y10 y11 y12 y13 y14 y15 y16 y17 y18 y21 y22 y24 : Option V), σ = SL a d md pr y3 y4 y5 y6 y7 y8 y9 y10 y11 y12 y13 y14 y15 y16 y17 y18 y21 y22 y24 ∧ W30 C5 T G7 d l pr md gs ts' Rs' ∧ Rs'.length = 3 ∧ ∀ r ∈ Rs', r.1 ≤ 9 * 2 ^ (i + 1), ?_, ?_⟩
        · refine ⟨.ref td, rfl, td, _, 0, .str ww, rfl, rfl, SqT.of etd6, atI_nat (j := 0) rfl, rfl, _, rfl, ?_⟩
          rcases why with ⟨rfl, ⟨st', k', R6⟩, x36⟩ | ⟨rfl, x36⟩
          · refine ite2 (fun _ => ?_) (fun h => absurd (decide_eq_true (rfl : V.str "" = V.str "")) h)
            have tup6 : ∀ b xs, G3 b = some (.tup xs) → G6 b = some (.tup xs) := fun b xs hb => x36 _ _ hb (ne_of hb eg3 (fun z => by cases z)) (fun _ z => by cases z)
            have eh6 := x36 _ _ eh (ne_of eh eg3 (fun z => by cases z)) (fun _ z => by cases z)
            have eh26 := x36 _ _ eh2 (ne_of eh2 eg3 (fun z => by cases z)) (fun _ z => by cases z)
            have sd6 : Std G6 kvs S := Std.keep (fun b xs hb => tup6 b xs hb) sd
            have sd26 : Std G6 kvs2 S2 := Std.keep (fun b xs hb => tup6 b xs hb) sd2
            have lS := wf.len
            have lS2 := wf2.len
            have lS' : S.length ≤ 24 := lS
            have lS2' : S2.length ≤ 24 := lS2
            refine ⟨.ref hd, rfl, hd, kvs, rfl, .inl eh6, fun fd nfd => ⟨by show 1 ≤ sizeLine; decide, fun z1 nz1 => ?_⟩⟩
            have a1 := same_upd (H := G6) (o := .dK kvs) nfd
            have f1 : (upd G6 fd (.dK kvs)) fd = some (.dK kvs) := upd_same
            generalize upd G6 fd (.dK kvs) = J1 at a1 f1 nz1
            have a2 := same_upd (H := J1) (o := .lst [.int 0]) nz1
            have f2 : (upd J1 z1 (.lst [.int 0])) z1 = some (.lst [.int 0]) := upd_same
            generalize upd J1 z1 (.lst [.int 0]) = J2 at a2 f2
            refine ⟨.ref hd, rfl, hd, kvs, S.map (·.1), rfl, .inl (a2 _ _ (a1 _ _ eh6)), sd.keys, by rw [List.length_map]; omega, fun ys p py so np => ?_⟩
            have a3 := same_upd (H := J2) (o := .lst (ys.map V.int)) np
            have f3 : (upd J2 p (.lst (ys.map V.int))) p = some (.lst (ys.map V.int)) := upd_same
            generalize upd J2 p (.lst (ys.map V.int)) = J3 at a3 f3
            have ly : ys.length = S.length := by rw [py.length_eq, List.length_map]
            refine ⟨z1, p, _, _, rfl, rfl, a3 _ _ f2, f3, Nat.le_of_lt (sz_lt (by rw [List.length_map]; show 1 + _ < _; omega)), fun c1 nc1 => ?_⟩
            have a4 := same_upd (H := J3) (o := .lst ([.int 0] ++ ys.map V.int)) nc1
            have f4 : (upd J3 c1 (.lst ([.int 0] ++ ys.map V.int))) c1 = some (.lst ((0 :: ys).map V.int)) := upd_same
            generalize upd J3 c1 (.lst ([.int 0] ++ ys.map V.int)) = J4 at a4 f4
            refine ⟨c1, 0 :: ys, rfl, SqL.of f4, by show 0 < _ + 1; omega, fun m hm hle => ?_⟩
            have em : nxt S = m + 1 := by
              unfold nxt
              rw [max_is (hle 0 List.mem_cons_self) ?_ (fun y hy => hle y (List.mem_cons_of_mem _ (py.symm.subset hy)))]
              rcases List.mem_cons.mp hm with z | z
              · exact .inl z
              · exact .inr (py.subset z)
            have a14 := a1.trans (a2.trans (a3.trans a4))
            have f14 := a4 _ _ (a3 _ _ (a2 _ _ f1))
            refine ⟨_, _, rfl, ?_⟩
            refine ⟨.ref hd2, rfl, hd2, kvs2, S2.map (·.1), rfl, .inl (a14 _ _ eh26), sd2.keys, by rw [List.length_map]; omega, fun ys2 p2 py2 so2 np2 => ?_⟩
            have ey2 := perm_sorted py2 so2 wf2.up
            subst ey2
            have a5 := same_upd (H := J4) (o := .lst ((S2.map (·.1)).map V.int)) np2
            have f5 : (upd J4 p2 (.lst ((S2.map (·.1)).map V.int))) p2 = some (.lst ((S2.map (·.1)).map V.int)) := upd_same
            have f15 := a5 _ _ f14
            have a15 := a14.trans a5
            generalize upd J4 p2 (.lst ((S2.map (·.1)).map V.int)) = J5 at a5 f5 f15 a15
            refine ⟨p2, rfl, ⟨_, SqL.of f5⟩, for_list (K := K) (a := p2) (xs := (S2.map (·.1)).map V.int) (fun j σ G7 => ∃ (y8 y15 y16 y17 y18 : Option V) (la : Int) (ks : List (Key × V)), σ = SL a d md pr y3 (some (.int n)) y5 y6 (some (.ref hd)) y8 (some (.int (0 + (i : Int)))) (some (.int n2)) (some (.ref hd2)) (some (.ref td)) (some (.ref fd)) (some (.int la)) y15 y16 y17 y18 (some (.int (iu : Int))) (some (.int (jv : Int))) (some (.ref A)) ∧ la = m + (j : Int) ∧ Same G6 G7 ∧ G7 p2 = some (.lst ((S2.map (·.1)).map V.int)) ∧ G7 fd = some (.dK ks) ∧ Std G7 ks (S ++ bhS (nxt S) n (S2.take j)))
              ⟨_, _, _, _, _, m, kvs, rfl, by omega, a15, f5, f15, by rw [List.take_zero]; show Std _ _ (S ++ []); rw [List.append_nil]; exact sd6.keep fun b xs hb => a15 _ _ hb⟩ (fun j σ G7 _ ⟨_, _, _, _, _, _, _, _, _, _, e, _⟩ => SqL.of e) ?_ ?_⟩
            · rintro j y σ G7 hy ⟨y8', y15', y16', y17', y18', la, ks, rfl, ela, sm, ep2, ef, sdf⟩
              rw [List.map_map, List.getElem?_map] at hy
              obtain ⟨z, hz, rfl⟩ := Option.map_eq_some_iff.mp hy
              have sd27 : Std G7 kvs2 S2 := sd26.keep fun b xs hb => sm _ _ hb
              obtain ⟨tt, gt, _, ett⟩ := sd27.dget (sm _ _ eh26) (sget_mem wf2.up (List.mem_of_getElem? hz))
              have hj2 : j < S2.length := (List.getElem?_eq_some_iff.mp hz).1
              have lks := sdf.length
              rw [List.length_append, bhS_len, List.length_take] at lks
              refine ⟨.ref hd2, rfl, .int z.1, rfl, hd2, .ref tt, rfl, gt, tt, _, rfl, SqT.of ett, rfl, .int z.2.1, _, rfl, .int z.2.2.1, _, rfl, .int z.2.2.2.1, _, rfl, .int z.2.2.2.2, _, rfl, rfl, ?_⟩
              refine ⟨.int la, rfl, la, 1, rfl, rfl, ?_⟩
              refine ⟨.int z.2.1, rfl, .int n, rfl, z.2.1, n, rfl, rfl, .int z.2.2.1, rfl, .int n, rfl, z.2.2.1, n, rfl, rfl, .int z.2.2.2.1, rfl, .int z.2.2.2.2, rfl, by show 4 ≤ sizeLine; decide, fun r2 nr2 => ?_⟩
              have s8 := same_upd (H := G7) (o := .tup [.int (z.2.1 + n), .int (z.2.2.1 + n), .int z.2.2.2.1, .int z.2.2.2.2]) nr2
              have e8 : (upd G7 r2 (.tup [.int (z.2.1 + n), .int (z.2.2.1 + n), .int z.2.2.2.1, .int z.2.2.2.2])) r2 = some (t4 (mvX n z.2)) := upd_same
              generalize upd G7 r2 (.tup [.int (z.2.1 + n), .int (z.2.2.1 + n), .int z.2.2.2.1, .int z.2.2.2.2]) = G8 at s8 e8
              have ef8 := s8 _ _ ef
              have hno : valV ks (Sum.inl (la + 1)) = none := (sdf.get _).1 (sget_not fun s hs => by
                rcases List.mem_append.mp hs with h | h
                · have := nxt_gt h
                  omega
                · have := (bhS_in _ _ _ _ h).2.1
                  rw [List.length_take] at this
                  omega)
              have kt : KeepT G8 (upd G8 fd (.dK (putK ks (Sum.inl (la + 1)) (.ref r2)))) := fun b xs hb => by
                rw [upd_ne (ne_of hb ef8 (fun z => by cases z))]
                exact hb
              refine ⟨.ref fd, rfl, .int (la + 1), rfl, fd, _, rfl, DPut.k (k := Sum.inl (la + 1)) ef8 (sz_lt (by omega)), _, _, _, _, _, la + 1, _, rfl, by omega, fun b o hb => ?_, ?_, upd_same, ?_⟩
              · rw [upd_ne (ne_of_none hb nfd)]
                exact s8 _ _ (sm _ _ hb)
              · rw [upd_ne (ne_of ep2 ef (fun z => by cases z))]
                exact s8 _ _ ep2
              · rw [List.take_add_one, hz, show (some z).toList = [z] from rfl, bhS_snoc, ← List.append_assoc]
                generalize upd G8 fd (.dK (putK ks (Sum.inl (la + 1)) (.ref r2))) = GX at kt
                rw [putK_new _ hno]
                refine Std.snoc (s := (nxt S + ((S2.take j).length : Nat), mvX n z.2)) ⟨?_, r2, rfl, kt _ _ e8⟩ ((sdf.keep fun b xs hb => s8 _ _ hb).keep kt)
                show Sum.inl (la + 1) = Sum.inl (nxt S + ((S2.take j).length : Int))
                rw [List.length_take, Nat.min_eq_left (by omega), em, ela]
                congr 1
                omega
            · rintro σ G7 ⟨y8', y15', y16', y17', y18', la, ks, rfl, ela, sm, ep2, ef, sdf⟩
              rw [List.length_map, List.length_map, List.take_length] at sdf
              refine ⟨.int n, rfl, .int n2, rfl, n, n2, rfl, rfl, .ref fd, rfl, by show 2 ≤ sizeLine; decide, fun tn ntn => ?_⟩
              have s8 := same_upd (H := G7) (o := .tup [.int (n + n2), .ref fd]) ntn
              have e8 : (upd G7 tn (.tup [.int (n + n2), .ref fd])) tn = some (.tup [.int (n + n2), .ref fd]) := upd_same
              generalize upd G7 tn (.tup [.int (n + n2), .ref fd]) = G8 at s8 e8
              have sm8 := sm.trans s8
              have md6 := x36 _ _ W3.b.at_md (ngm _ _ W3.b.at_md) (fun _ z => by cases z)
              have pr6 := x36 _ _ W3.b.at_pr (ngm _ _ W3.b.at_pr) (fun _ z => by cases z)
              have md8 := sm8 _ _ md6
              have hit : iu < ts.length := by rw [W3.b.l2]; exact hiu
              refine ⟨.ref md, rfl, .int (iu : Int), rfl, md, _, (iu : Int), iu, rfl, rfl, md8, (by unfold ixN; rw [List.length_map, if_pos (by omega), if_pos (by omega)]; simp), ?_⟩
              have q9 : Keep md G8 (upd G8 md (.lst ((ts.map V.ref).set iu (.ref tn)))) := Keep.upd
              have p9 : (upd G8 md (.lst ((ts.map V.ref).set iu (.ref tn)))) md = some (.lst ((ts.set iu tn).map V.ref)) := by rw [upd_same, List.map_set]
              generalize upd G8 md (.lst ((ts.map V.ref).set iu (.ref tn))) = G9 at q9 p9
              have o9 : KeepO G8 G9 := KeepO.lst md8 q9
              have o69 : KeepO G6 G9 := (KeepO.same sm8).trans o9
              obtain ⟨ns', i', z', sd', WD⟩ := id W3.dr
              have D6 : Draw G6 d l := ⟨ns', i', z', sd', { WD with at_d := x36 _ _ WD.at_d (ngm _ _ WD.at_d) (fun _ z => by cases z), at_l := x36 _ _ WD.at_l (ngm _ _ WD.at_l) (fun _ z => by cases z) }⟩
              have D9 : Draw G9 d l := draw_keepR (D6.same sm8) W3.n3.symm W3.n4.symm q9
              let Hm : Hp := fun b => if b = g then G3 g else G6 b
              have m1' : ∀ b, b ≠ g → Hm b = G6 b := fun b h => if_neg h
              have mg' : Hm g = G3 g := if_pos rfl
              have xm : LamX.ExtN G3 Hm := fun b o hb ht => by
                by_cases e : b = g
                · rw [e, mg', ← e]
                  exact hb
                · rw [m1' b e]
                  exact x36 b o hb e ht
              have km : Keep g Hm G6 := fun b o nb hb => by
                rw [m1' b nb] at hb
                exact hb
              have MM : MoAt G9 tn (n + n2, bhd n S S2) := ⟨fd, ks, o9 _ _ e8 (fun _ z => by cases z) (fun _ z => by cases z), o9 _ _ (s8 _ _ ef) (fun _ z => by cases z) (fun _ z => by cases z), sdf.keep fun b xs hb => o9 _ _ (s8 _ _ hb) (fun _ z => by cases z) (fun _ z => by cases z)⟩
              have B9 := (W3.b.extN xm).put (H1 := G6) (H' := G9) hg (by rw [mg']; exact eg3) km R6 o69 MM (wf.behind wf2 (by omega) (by rcases due with ⟨_, _, h⟩ | ⟨h, _⟩; exact h; exact absurd h (by decide +kernel))) (q9 _ _ W3.n5 (sm8 _ _ pr6)) p9
              refine ⟨_, _, _, _, _, _, _, _, _, _, _, _, _, _, _, _, _, _, _, _, _, rfl, ⟨B9, D9, tabs_lst (T6.ext sm8) md8 q9, W3.n1, W3.n2, W3.n3, W3.n4, W3.n5⟩, by rw [List.length_set]; exact l3, fun r hr' => ?_⟩
              have pw : (0 : Int) < 2 ^ i := Int.pow_pos (by decide)
              rw [Int.pow_succ]
              rcases List.mem_or_eq_of_mem_set hr' with z | z
              · have := b9 r z
                omega
              · rw [z]
                show n + n2 ≤ _
                have h1 : n ≤ 9 * 2 ^ i := bn
                have h2 : n2 ≤ 9 * 2 ^ i := bn2
                omega
          · refine ite2 (fun h => absurd (V.str.inj (of_decide_eq_true h)) (by decide +kernel)) (fun _ => ?_)
            have x36' : LamX.ExtN G3 G6 := fun b o hb ht => x36 b o hb ht
            exact ⟨ts, Rs, _, _, _, _, _, _, _, _, _, _, _, _, _, _, _, _, _, _, _, rfl, W3.extN x36' T6, l3, fun r hr' => by
              have := b9 r hr'
              rw [Int.pow_succ]
              have : (0 : Int) < 2 ^ i := Int.pow_pos (by decide)
              omega⟩
        · rintro σ G7 ⟨ts', Rs', y3, y4, y5, y6, y7, y8, y9, y10, y11, y12, y13, y14, y15, y16, y17, y18, y21, y22, y24, rfl, W7, l3', b9'⟩
          refine ⟨3, rfl, by decide, by decide, for_range (lo := 0) (n := 3) (fun q σ G => ∃ (y3 : Option V), σ = SL a d md pr y3 y4 y5 y6 y7 y8 y9 y10 y11 y12 y13 y14 y15 y16 y17 y18 y21 y22 y24 ∧ W30 C5 T G d l pr md gs ts' Rs') ⟨_, rfl, W7⟩ ?_ ?_⟩
          · rintro q σ G hq ⟨y3', rfl, W8⟩
            have hq' : q < Rs'.length := by rw [l3']; simpa using hq
            obtain ⟨g', t', st', k', c', hg', ht', R8, M8, wf8⟩ := W8.b.get hq'
            generalize Rs'[q] = r8 at R8 M8 wf8
            obtain ⟨n8, S8⟩ := r8
            obtain ⟨dx8, eg8⟩ := R8.at_g
            have ap : atI (gs.map V.ref) (0 + (q : Int)) = some (V.ref g') := by rw [Int.zero_add]; exact atI_nat (j := q) (by rw [List.getElem?_map, hg']; rfl)
            have am : atI (ts'.map V.ref) (0 + (q : Int)) = some (V.ref t') := by rw [Int.zero_add]; exact atI_nat (j := q) (by rw [List.getElem?_map, ht']; rfl)
            have l8 : S8.length ≤ 24 := wf8.len
            refine ⟨.ref pr, rfl, .int (0 + (q : Int)), rfl, pr, _, 0 + (q : Int), .ref g', rfl, rfl, SqL.of W8.b.at_pr, ap, g', dx8, _, rfl, eg8, rfl, g', dx8, st', n8, k', c', rfl, eg8, ?_⟩
            refine ⟨.ref pr, rfl, .int (0 + (q : Int)), rfl, pr, _, 0 + (q : Int), .ref g', rfl, rfl, SqL.of W8.b.at_pr, ap, g', dx8, _, rfl, eg8, rfl, g', st', n8, S8, k', c', rfl, R8, wf8.up, by omega, fun H1 r us s1 nr er ls => ⟨by show 2 ≤ sizeLine; decide, fun L1 nL1 => ?_⟩⟩
            have lu := ls.length
            have s2 := same_upd (H := H1) (o := .lst [.int n8, .ref r]) nL1
            have e2L : (upd H1 L1 (.lst [.int n8, .ref r])) L1 = some (.lst [.int n8, .ref r]) := upd_same
            have W9 := (W8.same s1).same s2
            have M9 := (M8.keepO (.same s1)).keepO (.same s2)
            generalize upd H1 L1 (.lst [.int n8, .ref r]) = H2 at s2 e2L W9 M9
            obtain ⟨hd8, kvs8, et8, eh8, sd8⟩ := M9
            obtain ⟨ks, rfl, pk⟩ := Std.ents30 sd8
            have lpk : ks.length = S8.length := Paired.length pk
            refine ⟨.ref md, rfl, .int (0 + (q : Int)), rfl, md, _, 0 + (q : Int), .ref t', rfl, rfl, SqL.of W9.b.at_md, am, t', _, 0, .int n8, rfl, rfl, SqT.of et8, atI_nat (j := 0) rfl, ?_⟩
            refine ⟨.ref md, rfl, .int (0 + (q : Int)), rfl, md, _, 0 + (q : Int), .ref t', rfl, rfl, SqL.of W9.b.at_md, am, t', _, 1, .ref hd8, rfl, rfl, SqT.of et8, atI_nat (j := 1) rfl, .inr (.inr (.inl ⟨rfl, .inl ⟨_, eh8⟩⟩)), hd8, _, rfl, rfl, eh8, fun p np => ?_⟩
            have s3 := same_upd (H := H2) (o := L2.DX.itemsO p hd8) np
            refine ⟨p, hd8, ks, rfl, upd_same, s3 _ _ eh8, by omega, by rw [ents_keys30 pk]; exact wf8.up, fun H4 L3 as s4 nL3 eL3 pa => ⟨by show 2 ≤ sizeLine; decide, fun L2' nL2 => ?_⟩⟩
            have s5 := same_upd (H := H4) (o := .lst [.int n8, .ref L3]) nL2
            have e5 : (upd H4 L2' (.lst [.int n8, .ref L3])) L2' = some (.lst [.int n8, .ref L3]) := upd_same
            generalize upd H4 L2' (.lst [.int n8, .ref L3]) = H5 at s5 e5
            have s25 := s3.trans (s4.trans s5)
            have lsa : Ls H5 as S8 := ls_of s5 pa s5 pk s25
            have lal := lsa.length
            refine ⟨.ref L1, .ref L2', .list [.int n8, .list (S8.map sD)], rfl, .lst (s25 _ _ e2L) (by show 2 ≤ 100000; decide) (.cons (.int _ _) (.cons (.lst (s25 _ _ (s2 _ _ er)) (by rw [List.length_map]; omega) (Ls.rp30 (ls.keep fun b xs hb => s25 _ _ (s2 _ _ hb)))) (.nil _))),
              .lst e5 (by show 2 ≤ 100000; decide) (.cons (.int _ _) (.cons (.lst (s5 _ _ eL3) (by rw [List.length_map]; omega) (Ls.rp30 lsa)) (.nil _))), fun H9 s9 => ⟨true, rfl, iteF ⟨_, rfl, W9.same (s25.trans s9)⟩⟩⟩
          · rintro σ G ⟨y3', rfl, W8⟩
            exact ⟨gs, ts', Rs', _, _, _, _, _, _, _, _, _, _, _, _, _, _, _, _, _, _, _, rfl, W8, l3', b9'⟩
      · rintro σ G ⟨gs', ts', Rs', y3, y4, y5, y6, y7, y8, y9, y10, y11, y12, y13, y14, y15, y16, y17, y18, y21, y22, y24, rfl, W', l3', b9'⟩
        have TG := W'.tb
        clear W W' W0 b9 b9' l3 l3'
        refine ⟨10, 18, rfl, rfl, ⟨by decide, by decide, by decide⟩, fun gf dxf nf ndf nex => ?_⟩
        have s1 := same_make (C := C5) nf ndf
        have e1 : (upd (upd G dxf (.own gf)) gf (.ins C5 dxf [])) gf = some (.ins C5 dxf []) := upd_same
        generalize upd (upd G dxf (.own gf)) gf (.ins C5 dxf []) = G1 at s1 e1
        refine ⟨gf, dxf, 1000000000000000000, rfl, e1, by decide, by decide, fun G2 st0 eg2 est2 nst2 k2 => ⟨rfl, ?_⟩⟩
        have T2 : LamX.Tabs T G2 := tabs_ins (TG.ext s1) e1 k2
        have R0 : RoAt C5 G2 gf st0 1000000000000000000 (pvS 1 []) .non 0 := ⟨⟨dxf, eg2⟩, [], est2, .nil⟩
        refine ⟨24, rfl, by decide, by decide, for_range (lo := 0) (n := 24) (fun j σ G => ∃ (y3 : Option V) (st : Addr) (k : V), σ = SF a d md pr gf y3 y4 y5 y6 y7 y8 y9 y10 y11 y12 y13 y14 y15 y16 y17 y18 y21 y22 y24 ∧ RoAt C5 G gf st 1000000000000000000 (pvS 1 (f30 j)) k 0 ∧ LamX.Tabs T G) ⟨_, st0, .non, rfl, R0, T2⟩ ?_ ?_⟩
        · rintro j σ G3 hj ⟨y3', st, k, rfl, R, TR⟩
          have hj' : j < 24 := by simpa using hj
          obtain ⟨dx, eg⟩ := R.at_g
          refine ⟨.ref gf, rfl, gf, dx, _, rfl, eg, rfl, .int (0 + (j : Int)), rfl, .int (0 + (j : Int)), rfl, 0 + (j : Int), 5, rfl, rfl, ?_⟩
          refine ⟨gf, st, 1000000000000000000, pvS 1 (f30 j), k, 0, (0 + (j : Int), 0 + (j : Int) + 5, 3, 0), rfl, R, RoW.pv (by decide) (by decide) (f30_ok j (by omega)) (by rw [f30_len]; omega), by rw [pvS_len, f30_len]; exact hj', f30_m (by omega), fun G4 st4 R4 k4 n4 => ?_⟩
          refine ⟨_, st4, .non, rfl, ?_, tabs_ins TR eg k4⟩
          rw [pvS_nxt, f30_len] at R4
          rw [f30_snoc, pvS_snoc, f30_len, show (1 : Int) + (j : Int) = (j : Int) + 1 by omega]
          exact R4
        · rintro σ G3 ⟨y3', st, k, rfl, R, TR⟩
          have wfF : RoW 1000000000000000000 (pvS 1 (f30 24)) := RoW.pv (by decide) (by decide) (f30_ok 24 (by decide)) (by rw [f30_len]; decide)
          have f24 := f30_trim
          generalize pvS 1 (f30 24) = SF' at R wfF f24
          refine ⟨10, 18, rfl, rfl, ⟨by decide, by decide, by decide⟩, 1000000000000000000, 1, rfl, rfl, by show 2 ≤ sizeLine; decide, fun q1 nq1 => ⟨by show 2 ≤ sizeLine; decide, fun q2 nq2 => ⟨by show 2 ≤ sizeLine; decide, fun fu nfu => ?_⟩⟩⟩
          have z1 := same_upd (H := G3) (o := .tup [.str "BadNumber", .int (1000000000000000000 + 1)]) nq1
          have w1 : (upd G3 q1 (.tup [.str "BadNumber", .int (1000000000000000000 + 1)])) q1 = some (.tup [.str "BadNumber", .int (1000000000000000000 + 1)]) := upd_same
          generalize upd G3 q1 (.tup [.str "BadNumber", .int (1000000000000000000 + 1)]) = J1 at z1 w1 nq2 nfu
          have w1' : J1 q1 = some (.tup [.str "BadNumber", .int 1000000000000000001]) := w1
          have z2 := same_upd (H := J1) (o := .tup [.str "Full", .int 24]) nq2
          have w2 : (upd J1 q2 (.tup [.str "Full", .int 24])) q2 = some (.tup [.str "Full", .int 24]) := upd_same
          generalize upd J1 q2 (.tup [.str "Full", .int 24]) = J2 at z2 w2 nfu
          have z3 := same_upd (H := J2) (o := .lst [.ref q1, .ref q2]) nfu
          have w3 : (upd J2 fu (.lst [.ref q1, .ref q2])) fu = some (.lst [.ref q1, .ref q2]) := upd_same
          generalize upd J2 fu (.lst [.ref q1, .ref q2]) = J3 at z3 w3
          have zz := z1.trans (z2.trans z3)
          refine ⟨TR.ext zz, fun HE eN TE t0 nt0 Z hZ => ?_⟩
          have s0 := same_upd (H := HE) (o := .tup [.str "", .non]) nt0
          have x0 : LamX.ExtN J3 (upd HE t0 (.tup [.str "", .non])) := fun b o hb ht => s0 _ _ (eN _ _ hb ht)
          have TH := TE.ext s0
          generalize upd HE t0 (.tup [.str "", .non]) = H2 at s0 x0 TH
          have R2 := (R.same zz).extN x0
          obtain ⟨dx2, eg2⟩ := R2.at_g
          refine ⟨.ref gf, rfl, gf, dx2, _, rfl, eg2, rfl, by show 4 ≤ sizeLine; decide, fun p1 np1 => ?_⟩
          have s3 := same_upd (H := H2) (o := .tup [.int 0, .int 0, .int 1, .int 0]) np1
          have e3 : (upd H2 p1 (.tup [.int 0, .int 0, .int 1, .int 0])) p1 = some (t4 (0, 0, 1, 0)) := upd_same
          generalize upd H2 p1 (.tup [.int 0, .int 0, .int 1, .int 0]) = H3 at s3 e3
          refine ⟨by show 1 ≤ sizeLine; decide, fun L nL => ?_⟩
          have s4 := same_upd (H := H3) (o := .lst [.ref p1]) nL
          have e4 : (upd H3 L (.lst [.ref p1])) L = some (.lst ([p1].map V.ref)) := upd_same
          generalize upd H3 L (.lst [.ref p1]) = H4 at s4 e4
          have ok1 : ∀ x ∈ [((0, 0, 1, 0) : M4)], Mok 1 x := fun x hx => by
            rw [List.mem_singleton.mp hx]
            exact ⟨.inl rfl, by decide, by decide, by decide, by decide, by decide⟩
          refine ⟨1, L, [p1], [(0, 0, 1, 0)], rfl, by decide, by decide, e4, .cons (s4 _ _ e3) .nil, ok1, by decide, fun H5 g2 st2 R5 s5 ng2 nst2 => ?_⟩
          have s25 := (s3.trans s4).trans s5
          refine ⟨gf, st, g2, st2, 1000000000000000000, 1, SF', pvS 1 [(0, 0, 1, 0)], k, .non, 0, 0, rfl, R2.same s25, R5, wfF, RoW.pv (by decide) (by decide) ok1 (by decide), fun _ => ?_, fun h => absurd h (by decide), fun h => absurd h (by decide)⟩
          intro Ce fs H' d' ei s' nd' ed
          refine ⟨Ce, d', fs, "BadNumber", _, rfl, rfl, ed, ei.i08, fun HG t1 u sG hu e1 => ?_⟩
          rw [hu] at e1
          have s2G := s25.trans (s'.trans sG)
          refine ⟨.ref gf, rfl, gf, st, SF', k, 0, rfl, R2.same s2G, wfF, f24, TH.ext s2G, fun H7 t2 e7 x7 => ⟨by show 2 ≤ sizeLine; decide, fun Lr nLr => ?_⟩⟩
          have s8 := same_upd (H := H7) (o := .lst [.ref t1, .ref t2]) nLr
          have e8 : (upd H7 Lr (.lst [.ref t1, .ref t2])) Lr = some (.lst [.ref t1, .ref t2]) := upd_same
          generalize upd H7 Lr (.lst [.ref t1, .ref t2]) = H8 at s8 e8
          have egG := s2G _ _ eg2
          have keep : ∀ b o, HG b = some o → (∀ C dx fs, o ≠ .ins C dx fs) → (∀ ps, o ≠ .tbl ps) → H8 b = some o := fun b o hb hi ht => s8 _ _ (x7 b o hb (fun z => by rw [z, egG] at hb; cases hb; exact hi _ _ _ rfl) ht)
          have fromJ : ∀ b o, J3 b = some o → (∀ C dx fs, o ≠ .ins C dx fs) → (∀ ps, o ≠ .tbl ps) → H8 b = some o := fun b o hb hi ht => keep b o (s2G _ _ (x0 _ _ hb ht)) hi ht
          have r1 : H8 t1 = some (.tup [.str "BadNumber", .int 1000000000000000001]) := keep _ _ e1 (fun _ _ _ z => by cases z) (fun _ z => by cases z)
          have r2 := s8 _ _ e7
          have r3 : H8 q1 = some (.tup [.str "BadNumber", .int 1000000000000000001]) := fromJ _ _ (z3 _ _ (z2 _ _ w1')) (fun _ _ _ z => by cases z) (fun _ z => by cases z)
          have r4 : H8 q2 = some (.tup [.str "Full", .int 24]) := fromJ _ _ (z3 _ _ w2) (fun _ _ _ z => by cases z) (fun _ z => by cases z)
          have r5 : H8 fu = some (.lst [.ref q1, .ref q2]) := fromJ _ _ w3 (fun _ _ _ z => by cases z) (fun _ z => by cases z)
          have two : ∀ {t : Addr} {w9 : Str} {i9 : Int}, H8 t = some (.tup [.str w9, .int i9]) → Rp H8 3 (.ref t) (.tuple [.str w9, .int i9]) := fun e => .tup e (by show 2 ≤ 100000; decide) (.cons (.str _ _) (.cons (.int _ _) (.nil _)))
          exact ⟨.ref fu, rfl, .ref Lr, .ref fu, .list [.tuple [.str "BadNumber", .int 1000000000000000001], .tuple [.str "Full", .int 24]], rfl, .lst e8 (by show 2 ≤ 100000; decide) (.cons (two r1) (.cons (two r2) (.nil _))), .lst r5 (by show 2 ≤ 100000; decide) (.cons (two r3) (.cons (two r4) (.nil _))), fun H9 _ => q H9⟩
end

/-! ### how the class Road binds; the law with its two tables -/
abbrev TT30 (Pl Pk : Addr) : List (Addr × Str) := [(Pl, lamQ), (Pk, lateQ)]
def spLawT2 (K : PySem.W.Frag) (Pl Pk : Addr) : Sp := fun vs H Q _ => ∃ (a : Addr) (ns : List Int), vs = [.ref a] ∧ SqL K H a (ns.map V.int) ∧ ns.length ≤ 63 ∧ H Pl = some (.tbl #[]) ∧ H Pk = some (.tbl #[]) ∧ ∀ H', Q (.bl true) H'
theorem sp30 {K : PySem.W.Frag} {Pl Pk : Addr} : ∀ vs H Q E, spLawT2 K Pl Pk vs H Q E → spLaw30 K (TT30 Pl Pk) vs H Q E := fun vs H Q E ⟨a, ns, h1, h2, h3, h4, h5, h6⟩ => ⟨a, ns, h1, h2, h3, fun p hp => by
  rcases List.mem_cons.mp hp with z | z
  · rw [z]
    exact LamX.TabS.nil h4
  · rw [List.mem_singleton.mp z]
    exact LamX.TabS.nil h5, h6⟩
theorem hu30l {Pl Pk : Addr} (ne : Pl ≠ Pk) : ∀ p ∈ TT30 Pl Pk, p.1 = Pl → p.2 = lamQ := fun p hp e => by
  rcases List.mem_cons.mp hp with z | z
  · rw [z]
  · rw [List.mem_singleton.mp z] at e
    exact absurd e.symm ne
theorem hu30k {Pl Pk : Addr} (ne : Pl ≠ Pk) : ∀ p ∈ TT30 Pl Pk, p.1 = Pk → p.2 = lateQ := fun p hp e => by
  rcases List.mem_cons.mp hp with z | z
  · rw [z] at e
    exact absurd e ne
  · rw [List.mem_singleton.mp z]
theorem ro_init_binds {K : PySem.W.Frag} {f : Addr} {fd : FuncData} (F : FunD K "__init__" "Road.__init__" (defArgs s_Ro_init) (defBody s_Ro_init) (defScope s_Ro_init) [.int 0] [] f fd) : Binds K fd P_Ro_init [] := by
  obtain ⟨ds, v, b⟩ := F.binds1 (ps := P_Ro_init) 2 1 (by simp) rfl fun T kV doc pm an cdv ct us its hu hi => match us, hu, its, hi with | [_, _], _, [_], _ => ⟨_, rfl, rfl⟩
  cases v
  exact b
theorem mate_binds {K : PySem.W.Frag} {f : Addr} {fd : FuncData} (F : FunD K "mate" "Road.mate" (defArgs s_Ro_mate) (defBody s_Ro_mate) (defScope s_Ro_mate) [] [("turned", .int 0)] f fd) : ∃ ds, Vals [.int 0] ds ∧ Binds K fd P_Ro_mate ds :=
  F.binds0 (ps := P_Ro_mate) 4 (by simp) rfl fun D doc pm an cdv ct us ks hu hk => match us, hu, ks, hk with | [_, _, _, _], _, [_], _ => ⟨_, _, _, _, _, _, rfl, rfl, rfl⟩
theorem mate_kbinds {K : PySem.W.Frag} {f : Addr} {fd : FuncData} (F : FunD K "mate" "Road.mate" (defArgs s_Ro_mate) (defBody s_Ro_mate) (defScope s_Ro_mate) [] [("turned", .int 0)] f fd) : KBn K fd P_Ro_mate 4 ["turned"] (fun us ws => us ++ ws) (fun vs zs => vs ++ zs) := by
  obtain ⟨mv, b⟩ := F.kbinds0 (ps := P_Ro_mate) 4 ["turned"] [] (fun vs _ zs => vs ++ zs) (by simp) (fun q hq => (by cases hq)) (fun r1 _ r3 => r1.append r3) fun D doc pm an cdv ct us mv ws hu hm hw => match us, hu, mv, hm, ws, hw with | [_, _, _, _], _, [], _, [_], _ => rfl
  exact b

/-! ### the head by a run: what the top leaves, told by names -/
theorem len1 {α : Type} {M : List α → Prop} (h : ∀ a, M [a]) : ∀ us : List α, us.length = 1 → M us
  | [a], _ => h a
theorem len2 {α : Type} {M : List α → Prop} (h : ∀ a b, M [a, b]) : ∀ us : List α, us.length = 2 → M us
  | [a, b], _ => h a b
theorem len3 {α : Type} {M : List α → Prop} (h : ∀ a b c, M [a, b, c]) : ∀ us : List α, us.length = 3 → M us
  | [a, b, c], _ => h a b c
theorem len4 {α : Type} {M : List α → Prop} (h : ∀ a b c d, M [a, b, c, d]) : ∀ us : List α, us.length = 4 → M us
  | [a, b, c, d], _ => h a b c d
def dD (x : Str) (st : Stmt) : He.DefD := { at_ := (x, none), name := x, qual := x, params := defArgs st, body := defBody st, scope := defScope st }
def dM (C m q : Str) (st : Stmt) : He.DefD := { at_ := (C, some m), name := m, qual := q, params := defArgs st, body := defBody st, scope := defScope st }
def dMs (C m q : Str) (st : Stmt) : He.DefD := { at_ := (C, some m), name := m, qual := q, params := defArgs st, body := defBody st, scope := defScope st, dfl := [.str ""] }
section
variable {K : PySem.W.Frag} {fas : List He.Fa} {fns : List He.DefD}
theorem raw_of {x q : Str} {ar : Arguments} {bd : List Stmt} {sc : Scope} {f : Addr} {fd : FuncData} (F : FunD K x q ar bd sc [] [] f fd) :
    ∃ oc od osl kV doc pm an cd ct, K.lookup f = some ⟨oc, od, .func (PySem.W.fnOf x q ar bd sc .none kV doc pm an cd ct), osl⟩ ∧ PySem.W.codeIn K cd q = true ∧ PySem.W.keepIn K (.ref f) = true := by
  obtain ⟨⟨oc, od, dV, kV, doc, pm, an, cd, ct, osl, rfl, hlk, hco, hdf, _⟩, hkp⟩ := F
  rcases hdf with ⟨_, hz⟩ | ⟨hne, _⟩
  · subst hz
    exact ⟨oc, od, osl, kV, doc, pm, an, cd, ct, hlk, hco, hkp⟩
  · exact absurd rfl hne
theorem say_def (c : He.SaysD fas fns K) (i : Nat) {x : Str} {st : Stmt} (e : fns[i]? = some (dD x st)) :
    ∃ oc od osl kV doc pm an cd ct, K.lookup (He.ga K x) = some ⟨oc, od, .func (PySem.W.fnOf x x (defArgs st) (defBody st) (defScope st) .none kV doc pm an cd ct), osl⟩ ∧ PySem.W.codeIn K cd x = true ∧ PySem.W.keepIn K (.ref (He.ga K x)) = true := by
  obtain ⟨fd, F⟩ := c.def_ i e
  exact raw_of F
theorem say_meth (c : He.SaysD fas fns K) (i : Nat) {C m q : Str} {st : Stmt} (e : fns[i]? = some (dM C m q st)) :
    ∃ oc od osl kV doc pm an cd ct, K.lookup (He.ma K (He.ga K C) m) = some ⟨oc, od, .func (PySem.W.fnOf m q (defArgs st) (defBody st) (defScope st) .none kV doc pm an cd ct), osl⟩ ∧ PySem.W.codeIn K cd q = true ∧ PySem.W.keepIn K (.ref (He.ma K (He.ga K C) m)) = true := by
  obtain ⟨fd, F⟩ := c.def_ i e
  exact raw_of F
theorem say_far (c : He.SaysD fas fns K) (i : Nat) {C m q : Str} {st : Stmt} (e : fns[i]? = some (dMs C m q st)) :
    ∃ fd, FunD K m q (defArgs st) (defBody st) (defScope st) [.str ""] [] (He.ma K (He.ga K C) m) fd := by
  obtain ⟨fd, F⟩ := c.def_ i e
  exact ⟨fd, F⟩
theorem say_law (c : He.SaysD fas fns K) (i : Nat) {x : Str} {st : Stmt} (e : fns[i]? = some (dD x st)) :
    ∃ oc od osl kV doc pm an ct, K.lookup (He.ga K x) = some ⟨oc, od, .func (PySem.W.fnOf x x (defArgs st) (defBody st) (defScope st) .none kV doc pm an (.ref (He.cT K (x, none)).1) ct), osl⟩ ∧ PySem.W.codeIn K (.ref (He.cT K (x, none)).1) x = true ∧ PySem.W.keepIn K (.ref (He.ga K x)) = true := by
  obtain ⟨oc, od, osl, kV, doc, pm, an, cd, ct, h1, h2, h3⟩ := say_def c i e
  obtain ⟨z, rfl⟩ := He.codeIn_ref h2
  have hz : He.codeOf K (x, none) = z := He.codeOf_eq (p := (x, none)) h1 rfl
  have hz2 : (He.cT K (x, none)).1 = z := hz
  rw [hz2]
  exact ⟨oc, od, osl, kV, doc, pm, an, ct, h1, h2, h3⟩
theorem say_methT (c : He.SaysD fas fns K) (i : Nat) {C m q : Str} {st : Stmt} (e : fns[i]? = some (dM C m q st)) :
    ∃ oc od osl kV doc pm an ct, K.lookup (He.ma K (He.ga K C) m) = some ⟨oc, od, .func (PySem.W.fnOf m q (defArgs st) (defBody st) (defScope st) .none kV doc pm an (.ref (He.cT K (C, some m)).1) ct), osl⟩ ∧ PySem.W.codeIn K (.ref (He.cT K (C, some m)).1) q = true ∧ PySem.W.keepIn K (.ref (He.ma K (He.ga K C) m)) = true := by
  obtain ⟨oc, od, osl, kV, doc, pm, an, cd, ct, h1, h2, h3⟩ := say_meth c i e
  obtain ⟨z, rfl⟩ := He.codeIn_ref h2
  have hz : He.codeOf K (C, some m) = z := He.codeOf_eq (p := (C, some m)) h1 rfl
  have hz2 : (He.cT K (C, some m)).1 = z := hz
  rw [hz2]
  exact ⟨oc, od, osl, kV, doc, pm, an, ct, h1, h2, h3⟩
theorem say_int (c : He.SaysD fas fns K) (j : Nat) {x : Str} {i : Int} (e : fas[j]? = some (.int x i)) : ∃ t, PySem.W.nsIn K mainGlobals x = some (some (.int i t)) := by
  have q : (match PySem.W.nsIn K mainGlobals x with | some (some (.int u _)) => decide (u = i) | _ => false) = true := c.fact j e
  split at q
  · rename_i k t hk
    have hki := of_decide_eq_true q
    subst hki
    exact ⟨t, hk⟩
  · cases q
theorem say_str (c : He.SaysD fas fns K) (j : Nat) {x z : Str} (e : fas[j]? = some (.str x z)) : ∃ t, PySem.W.nsIn K mainGlobals x = some (some (.str z t)) := by
  have q : (match PySem.W.nsIn K mainGlobals x with | some (some (.str u _)) => decide (u = z) | _ => false) = true := c.fact j e
  split at q
  · rename_i k t hk
    have hki := of_decide_eq_true q
    subst hki
    exact ⟨t, hk⟩
  · cases q
theorem all_at {l : List Bool} (h : l.all (fun b => b) = true) (i : Nat) {b : Bool} (e : l[i]? = some b) : b = true := List.all_eq_true.mp h b (List.mem_of_getElem? e)
/-- what is looked at of an own error's class -/
def errB (K : PySem.W.Frag) (C : Addr) : Bool := (match K.lookup C with
    | some ⟨.type t, _, .cls cd, sl⟩ => decide (t = "type") && (cd.hasDict && (!cd.hasDel && (match cd.mro, sl.toList with
      | .ref D :: bm, [_, _, _, _, some (.builtin n), _] => decide (D = C) && (decide (n = "ValueError.__new__") && PySem.HandSPX.refsVE bm)
      | _, _ => false)))
    | _ => false) && (He.eqO (PySem.W.findIn K (.ref C) "__setattr__") (some (some (.builtin "object.__setattr__"))) && (decide (PySem.W.subIn K (.ref C) (.type "BaseException") = some true) &&
  (decide (PySem.W.typeIn K (.ref C) = some (.type "type")) && (PySem.W.keepIn K (.ref C) && He.eqO (PySem.W.findIn K (.ref C) "word") (some none)))))
theorem errB_ok {C : Addr} (h : errB K C = true) : ErrT K C := by
  obtain ⟨h0, h⟩ := He.ba h
  obtain ⟨h1, h⟩ := He.ba h
  obtain ⟨h2, h⟩ := He.ba h
  obtain ⟨h3, h⟩ := He.ba h
  obtain ⟨h4, h5⟩ := He.ba h
  refine ⟨⟨?_, He.eqO_ok h1, of_decide_eq_true h2, of_decide_eq_true h3, h4⟩, He.eqO_ok h5⟩
  split at h0
  · rename_i t dd cd sl hC
    obtain ⟨g1, g⟩ := He.ba h0
    obtain ⟨g2, g⟩ := He.ba g
    obtain ⟨g3, g⟩ := He.ba g
    have e1 : t = "type" := of_decide_eq_true g1
    subst e1
    split at g
    · rename_i D bm y0 y1 y2 y3 n y5 hm hs
      obtain ⟨e2, g⟩ := He.ba g
      obtain ⟨e3, e4⟩ := He.ba g
      have e2' := of_decide_eq_true e2
      have e3' := of_decide_eq_true e3
      subst e2' e3'
      obtain ⟨nm, bs, mro, ns, qn, hd, sn, sub, ab, col, del⟩ := cd
      obtain ⟨sll⟩ := sl
      have e5 : mro = .ref D :: bm := hm
      have e6 : hd = true := g2
      have e7 : del = false := by
        cases del with
        | false => rfl
        | true => cases g3
      have e8 : sll = [y0, y1, y2, y3, some (.builtin "ValueError.__new__"), y5] := hs
      subst e5 e6 e7 e8
      exact ⟨nm, qn, ns, bs, bm, sn, sub, ab, col, dd, y0, y1, y2, y3, y5, hC, e4⟩
    · cases g
  · cases h0
def excB (K : PySem.W.Frag) (C : Addr) : Bool := xfB K C && (He.eqO (PySem.W.findIn K (.ref C) "__class__") (some (some (.builtin "object.__class__"))) && (He.eqO (PySem.W.specialIn K (.builtin "object.__class__") "__get__") (some (some (.builtin "getset_descriptor.__get__"))) &&
  (decide (PySem.W.takesIn K (.builtin "object.__class__") = some true) && decide (PySem.W.mroIn K C (.type "object") = some true))))
theorem excB_ok {C : Addr} (h : excB K C = true) : ExcC K C := by
  obtain ⟨h0, h⟩ := He.ba h
  obtain ⟨h1, h⟩ := He.ba h
  obtain ⟨h2, h⟩ := He.ba h
  obtain ⟨h3, h4⟩ := He.ba h
  have x := xfB_ok h0
  exact ⟨x.ga, x.gg, x.exC, x.hdC, He.eqO_ok h1, He.eqO_ok h2, of_decide_eq_true h3, of_decide_eq_true h4⟩
def cfnB (K : PySem.W.Frag) (C : Addr) (m : Str) (f : Addr) : Bool := He.eqO (PySem.W.specialIn K (.ref C) "__getattribute__") (some (some (.builtin "type.__getattribute__"))) && (PySem.W.readsIn K C (.type "type") && ((match PySem.W.findCls K (.ref C) (.type "type") m with
    | some (.val (.ref g)) => decide (g = f)
    | _ => false) && PySem.W.keepIn K (.ref f)))
theorem cfnB_ok {C f : Addr} {m : Str} (h : cfnB K C m f = true) : ClsFn K C m f := by
  obtain ⟨h0, h⟩ := He.ba h
  obtain ⟨h1, h⟩ := He.ba h
  obtain ⟨h2, h3⟩ := He.ba h
  refine ⟨He.eqO_ok h0, h1, ?_, h3⟩
  split at h2
  · rename_i g hg
    have e := of_decide_eq_true h2
    subst e
    exact hg
  · cases h2
def bltB (K : PySem.W.Frag) (T m b : String) : Bool := match PySem.W.findCls K (.type T) (.type "type") m with
  | some (.val (.builtin g)) => decide (g = b)
  | _ => false
theorem bltB_ok {T m b : String} (h : bltB K T m b = true) : PySem.W.findCls K (.type T) (.type "type") m = some (.val (.builtin b)) := by
  unfold bltB at h
  split at h
  · rename_i g hg
    have e := of_decide_eq_true h
    subst e
    exact hg
  · cases h
theorem far_binds {f : Addr} {fd : FuncData} (F : FunD K "__init__" "FarError.__init__" (defArgs s_farinit) (defBody s_farinit) (defScope s_farinit) [.str ""] [] f fd) : Binds K fd N_farinit [] := by
  obtain ⟨ds, v, b⟩ := F.binds1 (ps := N_farinit) 2 1 (by simp) rfl fun T kV doc pm an cdv ct us its hu hi => match us, hu, its, hi with | [_, _], _, [_], _ => ⟨_, rfl, rfl⟩
  cases v
  exact b
end
/-! ### the hook: what the names reach, and the statics -/
def lawAt : He.Defn := ("_law_late", none)
/-- the second table: the law's own -/
def lawAt2 : He.Defn := ("law", none)
/-- what an object names, as far as the facts ask: a dict's values, a function's code and defaults, a class's names -/
def kidsY (o : Obj) : List Addr := match o.data with
  | .dict es _ => es.toList.flatMap fun e => He.refV e.val
  | .func fd => He.refV fd.code ++ (He.refV fd.defaults ++ He.refV fd.kwdefaults)
  | .cls cd => [cd.ns]
  | _ => []
def downY (g : Addr → Option Obj) (as : List Addr) : List Addr := as.flatMap fun a => match g a with
  | some o => kidsY o
  | none => []
/-- the module's names, their codes and the classes' names, the methods, their codes -/
def reachY (g : Addr → Option Obj) (a1 : List Addr) : List Addr := a1 ++ (downY g a1 ++ (downY g (downY g a1) ++ downY g (downY g (downY g a1))))
def seenY (g : Addr → Option Obj) : PySem.W.Frag := He.frT g (cStatics :: mainGlobals :: reachY g (downY g [mainGlobals]))
def tabY1 (g : Addr → Option Obj) (K : PySem.W.Frag) : Bool := PySem.W.codeHdIn K (He.cT K lawAt).1 (He.cT K lawAt).2 && (g (He.cT K lawAt).2).any He.emptyTab
def tabY2 (g : Addr → Option Obj) (K : PySem.W.Frag) : Bool := PySem.W.codeHdIn K (He.cT K lawAt2).1 (He.cT K lawAt2).2 && (g (He.cT K lawAt2).2).any He.emptyTab
def tabY (g : Addr → Option Obj) (K : PySem.W.Frag) : Bool := tabY1 g K && (tabY2 g K && !(Nat.beq (He.cT K lawAt2).2 (He.cT K lawAt).2))
structure SaysY (fas : List He.Fa) (fns : List He.DefD) (ex : PySem.W.Frag → List Bool) (h : Heap) (K : PySem.W.Frag) : Prop where
  d : He.SaysD fas fns K
  more : (ex K).all (fun b => b) = true
  hd : PySem.W.codeHdIn K (He.cT K lawAt).1 (He.cT K lawAt).2 = true
  out : K.lookup (He.cT K lawAt).2 = none
  mt : h.get? (He.cT K lawAt).2 = some (PySem.W.tabObj #[])
  hd2 : PySem.W.codeHdIn K (He.cT K lawAt2).1 (He.cT K lawAt2).2 = true
  out2 : K.lookup (He.cT K lawAt2).2 = none
  mt2 : h.get? (He.cT K lawAt2).2 = some (PySem.W.tabObj #[])
  ne : (He.cT K lawAt2).2 ≠ (He.cT K lawAt).2
abbrev AlY : Type := He.AlD × Bool
def obsY (fas : List He.Fa) (fns : List He.DefD) (ex : PySem.W.Frag → List Bool) (g : Addr → Option Obj) : AlY := (He.obsD fas fns (seenY g), (ex (seenY g)).all (fun b => b) && tabY g (seenY g))
theorem saysY_of {fas : List He.Fa} {fns : List He.DefD} {ex : PySem.W.Frag → List Bool} {h : Heap} (e : obsY fas fns ex h.get? = (He.valD fns, true)) : SaysY fas fns ex h (seenY h.get?) := by
  have e1 : He.obsD fas fns (seenY h.get?) = He.valD fns := congrArg (fun z : AlY => z.1) e
  have e2 : ((ex (seenY h.get?)).all (fun b => b) && tabY h.get? (seenY h.get?)) = true := congrArg (fun z : AlY => z.2) e
  obtain ⟨m1, m2⟩ := He.ba e2
  obtain ⟨p1, p2⟩ := He.ba m2
  obtain ⟨p3, p4⟩ := He.ba p2
  obtain ⟨m3, m4⟩ := He.ba p1
  obtain ⟨m6, m7⟩ := He.ba p3
  have some_tab : ∀ {a : Addr}, (h.get? a).any He.emptyTab = true → ∃ u, h.get? a = some u ∧ He.emptyTab u = true := fun {a} m => by
    cases q : h.get? a with
    | none =>
      rw [q] at m
      cases m
    | some u =>
      rw [q] at m
      exact ⟨u, rfl, m⟩
  obtain ⟨u, hu, hv⟩ := some_tab m4
  obtain ⟨u2, hu2, hv2⟩ := some_tab m7
  refine ⟨e1, m1, m3, He.frT_none hu hv, hu.trans (congrArg some (He.emptyTab_eq hv)), m6, He.frT_none hu2 hv2, hu2.trans (congrArg some (He.emptyTab_eq hv2)), fun z => ?_⟩
  rw [z, Nat.beq_refl] at p4
  cases p4
def hookY (fas : List He.Fa) (fns : List He.DefD) (ex : PySem.W.Frag → List Bool) : PySem.W.Hook where
  α := AlY
  obs := fun s => obsY fas fns ex s.heap.get?
  val := fun _ => (He.valD fns, true)
  says := fun _ h => ∃ K : PySem.W.Frag, K.In h ∧ SaysY fas fns ex h K
  of := fun _ _ e => ⟨_, He.frT_in, saysY_of e⟩
  keeps := fun _ _ _ ⟨K, a, b⟩ k => ⟨K, PySem.W.Frag.In.keeps a k, b.d, b.more, b.hd, b.out, k _ _ b.mt, b.hd2, b.out2, k _ _ b.mt2, b.ne⟩
theorem obsY_eq {fas : List He.Fa} {fns : List He.DefD} {ex : PySem.W.Frag → List Bool} (s : PySem.W.SharedT) : obsY fas fns ex (HandSHeadRun.getT s) = (hookY fas fns ex).obs s.abs := by
  have e : HandSHeadRun.getT s = s.abs.heap.get? := funext (HandSHeadRun.getT_eq s)
  rw [e]
  rfl
/-! ### the run by parts: each looks at one thing -/
section
open HandSHeadRun PyProof.Rows PySem.Calls PySem.W
def PartEq {β : Type} (p : Program) (M : Nat) (f : PySem.W.SharedT → β) (v : World → β) : Prop := ∀ (w : World) (os : OsState), (endF (stepQ (denQ tabQ) p w) M p w os).map f = some (v w)
/-- what is looked at of the world's own -/
def SeenEq (r : PySem.W.OpenRow) (q : Program) (M : Nat) (loose : List Str) : Prop := ∀ (w : World) (os : OsState),
  (endF (stepQ (denQ tabQ) r.prog w) M r.prog w os).map (fun s => (looksF r.prog (boot_heap w.params) s.abs, seenQ q loose (importedModules r.prog.main.body) (fun s => PySem.W.xlAt q [] s && PySem.W.recOk r.toRowW.records s) s.abs)) = some (true, PySem.W.openGood q loose)
/-- all that is a truth -/
def okY (fas : List He.Fa) (fns : List He.DefD) (ex : PySem.W.Frag → List Bool) (g : Addr → Option Obj) (K : PySem.W.Frag) : Bool := ((fas.all fun f => f.ok K) && fns.all fun d => d.ok K) && ((ex K).all (fun b => b) && tabY g K)
theorem run_parts {r : PySem.W.OpenRow} {q : Program} {M : Nat} {loose : List Str} {fas : List He.Fa} {fns : List He.DefD} {ex : PySem.W.Frag → List Bool} (e1 : SeenEq r q M loose) (e2 : PartEq r.prog M (fun s => okY fas fns ex (getT s) (seenY (getT s))) fun _ => true)
    (e4 : PartEq r.prog M (fun s => fns.map fun d => He.fnW (seenY (getT s)) d.at_) fun _ => fns.map He.DefD.val) (w : World) : RunEq r q (hookY fas fns ex) (fun s => obsY fas fns ex (getT s)) M loose w := fun os => by
  obtain ⟨s, hs, h1⟩ := Option.map_eq_some_iff.mp (e1 w os)
  have at_s : ∀ {β : Type} {f : PySem.W.SharedT → β} {v : World → β}, PartEq r.prog M f v → f s = v w := fun h => by
    have z := h w os
    rw [hs] at z
    exact Option.some.inj z
  obtain ⟨a1, a2⟩ := Prod.mk.inj h1
  obtain ⟨b1, b2⟩ := He.ba (show (((fas.all fun f => f.ok (seenY (getT s))) && fns.all fun d => d.ok (seenY (getT s))) && ((ex (seenY (getT s))).all (fun b => b) && tabY (getT s) (seenY (getT s)))) = true from at_s e2)
  rw [hs]
  exact congrArg some (Prod.ext a1 (Prod.ext a2 (Prod.ext (Prod.ext b1 (at_s e4)) b2)))
end
theorem all_mk {l : PySem.W.OpenLaw} {w : World} {K : PySem.W.Frag} {h : Heap} {mg : Str → Option Value} {fa : Addr}
    {f0 : Addr} {od0 an0 : Option Addr} {sl0 : Array (Option Value)} {oc0 kV0 dc0 pm0 ct0 cd0 : Value}
    {f1 : Addr} {od1 an1 : Option Addr} {sl1 : Array (Option Value)} {oc1 kV1 dc1 pm1 ct1 cd1 : Value}
    {f2 : Addr} {od2 an2 : Option Addr} {sl2 : Array (Option Value)} {oc2 kV2 dc2 pm2 ct2 cd2 : Value}
    {f3 : Addr} {od3 an3 : Option Addr} {sl3 : Array (Option Value)} {oc3 kV3 dc3 pm3 ct3 cd3 : Value}
    {f4 : Addr} {od4 an4 : Option Addr} {sl4 : Array (Option Value)} {oc4 kV4 dc4 pm4 ct4 cd4 : Value}
    {f5 : Addr} {od5 an5 : Option Addr} {sl5 : Array (Option Value)} {oc5 kV5 dc5 pm5 ct5 cd5 : Value}
    {f6 : Addr} {od6 an6 : Option Addr} {sl6 : Array (Option Value)} {oc6 kV6 dc6 pm6 ct6 cd6 : Value}
    {f7 : Addr} {od7 an7 : Option Addr} {sl7 : Array (Option Value)} {oc7 kV7 dc7 pm7 ct7 cd7 : Value}
    {f8 : Addr} {od8 an8 : Option Addr} {sl8 : Array (Option Value)} {oc8 kV8 dc8 pm8 ct8 : Value}
    {f9 : Addr} {od9 an9 : Option Addr} {sl9 : Array (Option Value)} {oc9 kV9 dc9 pm9 ct9 cd9 : Value}
    {f10 : Addr} {od10 an10 : Option Addr} {sl10 : Array (Option Value)} {oc10 kV10 dc10 pm10 ct10 cd10 : Value}
    {f11 : Addr} {od11 an11 : Option Addr} {sl11 : Array (Option Value)} {oc11 kV11 dc11 pm11 ct11 cd11 : Value}
    {f12 : Addr} {od12 an12 : Option Addr} {sl12 : Array (Option Value)} {oc12 kV12 dc12 pm12 ct12 cd12 : Value}
    {f13 : Addr} {od13 an13 : Option Addr} {sl13 : Array (Option Value)} {oc13 kV13 dc13 pm13 ct13 cd13 : Value}
    {f14 : Addr} {od14 an14 : Option Addr} {sl14 : Array (Option Value)} {oc14 kV14 dc14 pm14 ct14 cd14 : Value}
    {f15 : Addr} {od15 an15 : Option Addr} {sl15 : Array (Option Value)} {oc15 kV15 dc15 pm15 ct15 cd15 : Value}
    {f16 : Addr} {od16 an16 : Option Addr} {sl16 : Array (Option Value)} {oc16 kV16 dc16 pm16 ct16 cd16 : Value}
    {f17 : Addr} {od17 an17 : Option Addr} {sl17 : Array (Option Value)} {oc17 kV17 dc17 pm17 ct17 cd17 : Value}
    {f18 c Pt cLw PtL : Addr} {od18 an18 : Option Addr} {sl18 : Array (Option Value)} {oc18 kV18 dc18 pm18 ct18 : Value}
    {C_FarError f_FarError : Addr} {fdF : FuncData}
    {C_BadNumber f_BadNumber : Addr} {od_BadNumber an_BadNumber : Option Addr} {sl_BadNumber : Array (Option Value)} {oc_BadNumber kV_BadNumber dc_BadNumber pm_BadNumber cd_BadNumber ct_BadNumber : Value}
    {C_BadMating f_BadMating : Addr} {od_BadMating an_BadMating : Option Addr} {sl_BadMating : Array (Option Value)} {oc_BadMating kV_BadMating dc_BadMating pm_BadMating cd_BadMating ct_BadMating : Value}
    {C_Full f_Full : Addr} {od_Full an_Full : Option Addr} {sl_Full : Array (Option Value)} {oc_Full kV_Full dc_Full pm_Full cd_Full ct_Full : Value}
    {C_NoMating C_NoFamily C_TooMuch C_BadName C_Taken C_NoRoad C_BadPlace C_BadStretch C_BadMove C_BadMoves C_BadText C_BadBoard C_BadCounts C_BadSide C_NoSide : Addr}
    {C_Road : Addr}
    {fm_Ro_become : Addr} {odm_Ro_become anm_Ro_become : Option Addr} {slm_Ro_become : Array (Option Value)} {ocm_Ro_become kVm_Ro_become dcm_Ro_become pmm_Ro_become ctm_Ro_become cdm_Ro_become : Value}
    {fm_Ro_next_number : Addr} {odm_Ro_next_number anm_Ro_next_number : Option Addr} {slm_Ro_next_number : Array (Option Value)} {ocm_Ro_next_number kVm_Ro_next_number dcm_Ro_next_number pmm_Ro_next_number ctm_Ro_next_number cdm_Ro_next_number : Value}
    {fm_Ro_matings : Addr} {odm_Ro_matings anm_Ro_matings : Option Addr} {slm_Ro_matings : Array (Option Value)} {ocm_Ro_matings kVm_Ro_matings dcm_Ro_matings pmm_Ro_matings ctm_Ro_matings cdm_Ro_matings : Value}
    {fm_Ro_length : Addr} {odm_Ro_length anm_Ro_length : Option Addr} {slm_Ro_length : Array (Option Value)} {ocm_Ro_length kVm_Ro_length dcm_Ro_length pmm_Ro_length ctm_Ro_length cdm_Ro_length : Value}
    {fm_Ro_mate_as : Addr} {odm_Ro_mate_as anm_Ro_mate_as : Option Addr} {slm_Ro_mate_as : Array (Option Value)} {ocm_Ro_mate_as kVm_Ro_mate_as dcm_Ro_mate_as pmm_Ro_mate_as ctm_Ro_mate_as cdm_Ro_mate_as : Value}
    {fm_Ro_strike : Addr} {odm_Ro_strike anm_Ro_strike : Option Addr} {slm_Ro_strike : Array (Option Value)} {ocm_Ro_strike kVm_Ro_strike dcm_Ro_strike pmm_Ro_strike ctm_Ro_strike cdm_Ro_strike : Value}
    {fm_Ro_trim : Addr} {odm_Ro_trim anm_Ro_trim : Option Addr} {slm_Ro_trim : Array (Option Value)} {ocm_Ro_trim kVm_Ro_trim dcm_Ro_trim pmm_Ro_trim ctm_Ro_trim cdm_Ro_trim : Value}
    {fm_Ro_behind : Addr} {odm_Ro_behind anm_Ro_behind : Option Addr} {slm_Ro_behind : Array (Option Value)} {ocm_Ro_behind kVm_Ro_behind dcm_Ro_behind pmm_Ro_behind ctm_Ro_behind cdm_Ro_behind : Value}
    {fm_Ro___init__ : Addr} {fdm_Ro___init__ : FuncData}
    {fm_Ro_mate : Addr} {fdm_Ro_mate : FuncData}
    {tk_FAR : Tok}
    {tk_MOST : Tok}
    (X : K.In h) (G : h.Ns mainGlobals mg) (hfa : mg "law" = some (.ref fa)) (hT : h.get? Pt = some (PySem.W.tabObj #[]))
    (a0 : PySem.W.nsIn K mainGlobals "_law_open" = some (some (.ref f0))) (l0 : K.lookup f0 = some ⟨oc0, od0, .func (PySem.W.fnOf "_law_open" "_law_open" (defArgs s_open) (defBody s_open) (defScope s_open) .none kV0 dc0 pm0 an0 cd0 ct0), sl0⟩) (c0 : PySem.W.codeIn K cd0 "_law_open" = true) (k0 : PySem.W.keepIn K (.ref f0) = true)
    (a1 : PySem.W.nsIn K mainGlobals "_law_pull" = some (some (.ref f1))) (l1 : K.lookup f1 = some ⟨oc1, od1, .func (PySem.W.fnOf "_law_pull" "_law_pull" (defArgs s_pull) (defBody s_pull) (defScope s_pull) .none kV1 dc1 pm1 an1 cd1 ct1), sl1⟩) (c1 : PySem.W.codeIn K cd1 "_law_pull" = true) (k1 : PySem.W.keepIn K (.ref f1) = true)
    (a2 : PySem.W.nsIn K mainGlobals "_law_like" = some (some (.ref f2))) (l2 : K.lookup f2 = some ⟨oc2, od2, .func (PySem.W.fnOf "_law_like" "_law_like" (defArgs s_like) (defBody s_like) (defScope s_like) .none kV2 dc2 pm2 an2 cd2 ct2), sl2⟩) (c2 : PySem.W.codeIn K cd2 "_law_like" = true) (k2 : PySem.W.keepIn K (.ref f2) = true)
    (a3 : PySem.W.nsIn K mainGlobals "_law_fields" = some (some (.ref f3))) (l3 : K.lookup f3 = some ⟨oc3, od3, .func (PySem.W.fnOf "_law_fields" "_law_fields" (defArgs s_fields) (defBody s_fields) (defScope s_fields) .none kV3 dc3 pm3 an3 cd3 ct3), sl3⟩) (c3 : PySem.W.codeIn K cd3 "_law_fields" = true) (k3 : PySem.W.keepIn K (.ref f3) = true)
    (a4 : PySem.W.nsIn K mainGlobals "_law_why" = some (some (.ref f4))) (l4 : K.lookup f4 = some ⟨oc4, od4, .func (PySem.W.fnOf "_law_why" "_law_why" (defArgs s_why) (defBody s_why) (defScope s_why) .none kV4 dc4 pm4 an4 cd4 ct4), sl4⟩) (c4 : PySem.W.codeIn K cd4 "_law_why" = true) (k4 : PySem.W.keepIn K (.ref f4) = true)
    (a5 : PySem.W.nsIn K mainGlobals "_law_mating" = some (some (.ref f5))) (l5 : K.lookup f5 = some ⟨oc5, od5, .func (PySem.W.fnOf "_law_mating" "_law_mating" (defArgs s_mating) (defBody s_mating) (defScope s_mating) .none kV5 dc5 pm5 an5 cd5 ct5), sl5⟩) (c5 : PySem.W.codeIn K cd5 "_law_mating" = true) (k5 : PySem.W.keepIn K (.ref f5) = true)
    (a6 : PySem.W.nsIn K mainGlobals "_law_road" = some (some (.ref f6))) (l6 : K.lookup f6 = some ⟨oc6, od6, .func (PySem.W.fnOf "_law_road" "_law_road" (defArgs s_road) (defBody s_road) (defScope s_road) .none kV6 dc6 pm6 an6 cd6 ct6), sl6⟩) (c6 : PySem.W.codeIn K cd6 "_law_road" = true) (k6 : PySem.W.keepIn K (.ref f6) = true)
    (a7 : PySem.W.nsIn K mainGlobals "_law_paved" = some (some (.ref f7))) (l7 : K.lookup f7 = some ⟨oc7, od7, .func (PySem.W.fnOf "_law_paved" "_law_paved" (defArgs s_paved) (defBody s_paved) (defScope s_paved) .none kV7 dc7 pm7 an7 cd7 ct7), sl7⟩) (c7 : PySem.W.codeIn K cd7 "_law_paved" = true) (k7 : PySem.W.keepIn K (.ref f7) = true)
    (a8 : PySem.W.nsIn K mainGlobals "_law_late" = some (some (.ref f8))) (l8 : K.lookup f8 = some ⟨oc8, od8, .func (PySem.W.fnOf "_law_late" "_law_late" (defArgs s_late) (defBody s_late) (defScope s_late) .none kV8 dc8 pm8 an8 (.ref c) ct8), sl8⟩) (c8 : PySem.W.codeIn K (.ref c) "_law_late" = true) (k8 : PySem.W.keepIn K (.ref f8) = true)
    (a9 : PySem.W.nsIn K mainGlobals "need_from" = some (some (.ref f9))) (l9 : K.lookup f9 = some ⟨oc9, od9, .func (PySem.W.fnOf "need_from" "need_from" (defArgs s_need_from) (defBody s_need_from) (defScope s_need_from) .none kV9 dc9 pm9 an9 cd9 ct9), sl9⟩) (c9 : PySem.W.codeIn K cd9 "need_from" = true) (k9 : PySem.W.keepIn K (.ref f9) = true)
    (a10 : PySem.W.nsIn K mainGlobals "need_within" = some (some (.ref f10))) (l10 : K.lookup f10 = some ⟨oc10, od10, .func (PySem.W.fnOf "need_within" "need_within" (defArgs s_need_within) (defBody s_need_within) (defScope s_need_within) .none kV10 dc10 pm10 an10 cd10 ct10), sl10⟩) (c10 : PySem.W.codeIn K cd10 "need_within" = true) (k10 : PySem.W.keepIn K (.ref f10) = true)
    (a11 : PySem.W.nsIn K mainGlobals "need_length" = some (some (.ref f11))) (l11 : K.lookup f11 = some ⟨oc11, od11, .func (PySem.W.fnOf "need_length" "need_length" (defArgs s_need_length) (defBody s_need_length) (defScope s_need_length) .none kV11 dc11 pm11 an11 cd11 ct11), sl11⟩) (c11 : PySem.W.codeIn K cd11 "need_length" = true) (k11 : PySem.W.keepIn K (.ref f11) = true)
    (a12 : PySem.W.nsIn K mainGlobals "need_mating" = some (some (.ref f12))) (l12 : K.lookup f12 = some ⟨oc12, od12, .func (PySem.W.fnOf "need_mating" "need_mating" (defArgs s_need_mating) (defBody s_need_mating) (defScope s_need_mating) .none kV12 dc12 pm12 an12 cd12 ct12), sl12⟩) (c12 : PySem.W.codeIn K cd12 "need_mating" = true) (k12 : PySem.W.keepIn K (.ref f12) = true)
    (a13 : PySem.W.nsIn K mainGlobals "is_mating" = some (some (.ref f13))) (l13 : K.lookup f13 = some ⟨oc13, od13, .func (PySem.W.fnOf "is_mating" "is_mating" (defArgs s_is_mating) (defBody s_is_mating) (defScope s_is_mating) .none kV13 dc13 pm13 an13 cd13 ct13), sl13⟩) (c13 : PySem.W.codeIn K cd13 "is_mating" = true) (k13 : PySem.W.keepIn K (.ref f13) = true)
    (a14 : PySem.W.nsIn K mainGlobals "moved" = some (some (.ref f14))) (l14 : K.lookup f14 = some ⟨oc14, od14, .func (PySem.W.fnOf "moved" "moved" (defArgs s_moved) (defBody s_moved) (defScope s_moved) .none kV14 dc14 pm14 an14 cd14 ct14), sl14⟩) (c14 : PySem.W.codeIn K cd14 "moved" = true) (k14 : PySem.W.keepIn K (.ref f14) = true)
    (a15 : PySem.W.nsIn K mainGlobals "clipped" = some (some (.ref f15))) (l15 : K.lookup f15 = some ⟨oc15, od15, .func (PySem.W.fnOf "clipped" "clipped" (defArgs s_clipped) (defBody s_clipped) (defScope s_clipped) .none kV15 dc15 pm15 an15 cd15 ct15), sl15⟩) (c15 : PySem.W.codeIn K cd15 "clipped" = true) (k15 : PySem.W.keepIn K (.ref f15) = true)
    (a16 : PySem.W.nsIn K mainGlobals "part" = some (some (.ref f16))) (l16 : K.lookup f16 = some ⟨oc16, od16, .func (PySem.W.fnOf "part" "part" (defArgs s_part) (defBody s_part) (defScope s_part) .none kV16 dc16 pm16 an16 cd16 ct16), sl16⟩) (c16 : PySem.W.codeIn K cd16 "part" = true) (k16 : PySem.W.keepIn K (.ref f16) = true)
    (a17 : PySem.W.nsIn K mainGlobals "holds" = some (some (.ref f17))) (l17 : K.lookup f17 = some ⟨oc17, od17, .func (PySem.W.fnOf "holds" "holds" (defArgs s_holds) (defBody s_holds) (defScope s_holds) .none kV17 dc17 pm17 an17 cd17 ct17), sl17⟩) (c17 : PySem.W.codeIn K cd17 "holds" = true) (k17 : PySem.W.keepIn K (.ref f17) = true)
    (a18 : PySem.W.nsIn K mainGlobals "law" = some (some (.ref f18))) (l18 : K.lookup f18 = some ⟨oc18, od18, .func (PySem.W.fnOf "law" "law" (defArgs s_law) (defBody s_law) (defScope s_law) .none kV18 dc18 pm18 an18 (.ref cLw) ct18), sl18⟩) (c18 : PySem.W.codeIn K (.ref cLw) "law" = true) (k18 : PySem.W.keepIn K (.ref f18) = true)
    (z0 : PySem.W.nsIn K mainGlobals "len" = some none) (z1 : PySem.W.nsIn K mainGlobals "list" = some none) (z2 : PySem.W.nsIn K mainGlobals "tuple" = some none) (z3 : PySem.W.nsIn K mainGlobals "bool" = some none)
    (z4 : PySem.W.nsIn K mainGlobals "int" = some none) (z5 : PySem.W.nsIn K mainGlobals "str" = some none) (z6 : PySem.W.nsIn K mainGlobals "isinstance" = some none) (z7 : PySem.W.nsIn K mainGlobals "all" = some none)
    (z8 : PySem.W.nsIn K mainGlobals "any" = some none) (z9 : PySem.W.nsIn K mainGlobals "range" = some none) (z10 : PySem.W.nsIn K mainGlobals "max" = some none) (z11 : PySem.W.nsIn K mainGlobals "min" = some none)
    (z12 : PySem.W.nsIn K mainGlobals "dict" = some none) (z13 : PySem.W.nsIn K mainGlobals "sorted" = some none) (zV : PySem.W.nsIn K mainGlobals "ValueError" = some none) (hP : PySem.W.codeHdIn K c Pt = true)
    (nP : K.lookup Pt = none) (hP2 : PySem.W.codeHdIn K cLw PtL = true) (nP2 : K.lookup PtL = none) (hT2 : h.get? PtL = some (PySem.W.tabObj #[]))
    (neP : PtL ≠ Pt) (gF : PySem.W.nsIn K mainGlobals "FarError" = some (some (.ref C_FarError))) (TF : ClsFn K C_FarError "__init__" f_FarError) (FF : FunD K "__init__" "FarError.__init__" (defArgs s_farinit) (defBody s_farinit) (defScope s_farinit) [.str ""] [] f_FarError fdF)
    (fF8 : PySem.W.findCls K (.type "ValueError") (.type "type") "__init__" = some (.val (.builtin "ValueError.__init__"))) (g_BadNumber : PySem.W.nsIn K mainGlobals "BadNumber" = some (some (.ref C_BadNumber))) (E_BadNumber : ErrT K C_BadNumber) (XF_BadNumber : XfC K C_BadNumber)
    (EC_BadNumber : ExcC K C_BadNumber) (M_BadNumber : PySem.W.exmOne K (.ref C_BadNumber) (.ref C_FarError) = some true) (n_BadNumber_number : PySem.W.findIn K (.ref C_BadNumber) "number" = some none) (i_BadNumber : PySem.W.findIn K (.ref C_BadNumber) "__init__" = some (some (.ref f_BadNumber)))
    (t_BadNumber : PySem.W.typeIn K (.ref f_BadNumber) = some (.type "function")) (l_BadNumber : K.lookup f_BadNumber = some ⟨oc_BadNumber, od_BadNumber, .func (PySem.W.fnOf "__init__" "BadNumber.__init__" (defArgs s_bninit) (defBody s_bninit) (defScope s_bninit) .none kV_BadNumber dc_BadNumber pm_BadNumber an_BadNumber cd_BadNumber ct_BadNumber), sl_BadNumber⟩) (c_BadNumber : PySem.W.codeIn K cd_BadNumber "BadNumber.__init__" = true) (k_BadNumber : PySem.W.keepIn K (.ref f_BadNumber) = true)
    (g_BadMating : PySem.W.nsIn K mainGlobals "BadMating" = some (some (.ref C_BadMating))) (E_BadMating : ErrT K C_BadMating) (XF_BadMating : XfC K C_BadMating) (EC_BadMating : ExcC K C_BadMating)
    (M_BadMating : PySem.W.exmOne K (.ref C_BadMating) (.ref C_FarError) = some true) (n_BadMating_mating : PySem.W.findIn K (.ref C_BadMating) "mating" = some none) (i_BadMating : PySem.W.findIn K (.ref C_BadMating) "__init__" = some (some (.ref f_BadMating))) (t_BadMating : PySem.W.typeIn K (.ref f_BadMating) = some (.type "function"))
    (l_BadMating : K.lookup f_BadMating = some ⟨oc_BadMating, od_BadMating, .func (PySem.W.fnOf "__init__" "BadMating.__init__" (defArgs s_bginit) (defBody s_bginit) (defScope s_bginit) .none kV_BadMating dc_BadMating pm_BadMating an_BadMating cd_BadMating ct_BadMating), sl_BadMating⟩) (c_BadMating : PySem.W.codeIn K cd_BadMating "BadMating.__init__" = true) (k_BadMating : PySem.W.keepIn K (.ref f_BadMating) = true) (g_Full : PySem.W.nsIn K mainGlobals "Full" = some (some (.ref C_Full)))
    (E_Full : ErrT K C_Full) (XF_Full : XfC K C_Full) (EC_Full : ExcC K C_Full) (M_Full : PySem.W.exmOne K (.ref C_Full) (.ref C_FarError) = some true)
    (n_Full_most : PySem.W.findIn K (.ref C_Full) "most" = some none) (i_Full : PySem.W.findIn K (.ref C_Full) "__init__" = some (some (.ref f_Full))) (t_Full : PySem.W.typeIn K (.ref f_Full) = some (.type "function")) (l_Full : K.lookup f_Full = some ⟨oc_Full, od_Full, .func (PySem.W.fnOf "__init__" "Full.__init__" (defArgs s_fuinit) (defBody s_fuinit) (defScope s_fuinit) .none kV_Full dc_Full pm_Full an_Full cd_Full ct_Full), sl_Full⟩)
    (c_Full : PySem.W.codeIn K cd_Full "Full.__init__" = true) (k_Full : PySem.W.keepIn K (.ref f_Full) = true) (g_NoMating : PySem.W.nsIn K mainGlobals "NoMating" = some (some (.ref C_NoMating))) (g_NoFamily : PySem.W.nsIn K mainGlobals "NoFamily" = some (some (.ref C_NoFamily)))
    (g_TooMuch : PySem.W.nsIn K mainGlobals "TooMuch" = some (some (.ref C_TooMuch))) (g_BadName : PySem.W.nsIn K mainGlobals "BadName" = some (some (.ref C_BadName))) (g_Taken : PySem.W.nsIn K mainGlobals "Taken" = some (some (.ref C_Taken))) (g_NoRoad : PySem.W.nsIn K mainGlobals "NoRoad" = some (some (.ref C_NoRoad)))
    (g_BadPlace : PySem.W.nsIn K mainGlobals "BadPlace" = some (some (.ref C_BadPlace))) (g_BadStretch : PySem.W.nsIn K mainGlobals "BadStretch" = some (some (.ref C_BadStretch))) (g_BadMove : PySem.W.nsIn K mainGlobals "BadMove" = some (some (.ref C_BadMove))) (g_BadMoves : PySem.W.nsIn K mainGlobals "BadMoves" = some (some (.ref C_BadMoves)))
    (g_BadText : PySem.W.nsIn K mainGlobals "BadText" = some (some (.ref C_BadText))) (g_BadBoard : PySem.W.nsIn K mainGlobals "BadBoard" = some (some (.ref C_BadBoard))) (g_BadCounts : PySem.W.nsIn K mainGlobals "BadCounts" = some (some (.ref C_BadCounts))) (g_BadSide : PySem.W.nsIn K mainGlobals "BadSide" = some (some (.ref C_BadSide)))
    (g_NoSide : PySem.W.nsIn K mainGlobals "NoSide" = some (some (.ref C_NoSide))) (zf_enumerate : PySem.W.nsIn K mainGlobals "enumerate" = some none) (g_Road : PySem.W.nsIn K mainGlobals "Road" = some (some (.ref C_Road))) (cl_Road : Cls K C_Road)
    (mk_Road : PySem.W.makesIn K C_Road = true) (kc_Road : PySem.W.keepIn K (.ref C_Road) = true) (na_Ro_extent : PySem.W.findIn K (.ref C_Road) "extent" = some none) (na_Ro_standing : PySem.W.findIn K (.ref C_Road) "standing" = some none)
    (na_Ro_kept : PySem.W.findIn K (.ref C_Road) "kept" = some none) (na_Ro_foldings : PySem.W.findIn K (.ref C_Road) "foldings" = some none) (ma_Ro_become : PySem.W.findIn K (.ref C_Road) "become" = some (some (.ref fm_Ro_become))) (mi_Ro_become : PySem.W.isFn K (.ref fm_Ro_become) = true)
    (ml_Ro_become : K.lookup fm_Ro_become = some ⟨ocm_Ro_become, odm_Ro_become, .func (PySem.W.fnOf "become" "Road.become" (defArgs s_Ro_become) (defBody s_Ro_become) (defScope s_Ro_become) .none kVm_Ro_become dcm_Ro_become pmm_Ro_become anm_Ro_become cdm_Ro_become ctm_Ro_become), slm_Ro_become⟩) (mc_Ro_become : PySem.W.codeIn K cdm_Ro_become "Road.become" = true) (mp_Ro_become : PySem.W.keepIn K (.ref fm_Ro_become) = true) (ma_Ro_next_number : PySem.W.findIn K (.ref C_Road) "next_number" = some (some (.ref fm_Ro_next_number)))
    (mi_Ro_next_number : PySem.W.isFn K (.ref fm_Ro_next_number) = true) (ml_Ro_next_number : K.lookup fm_Ro_next_number = some ⟨ocm_Ro_next_number, odm_Ro_next_number, .func (PySem.W.fnOf "next_number" "Road.next_number" (defArgs s_Ro_next_number) (defBody s_Ro_next_number) (defScope s_Ro_next_number) .none kVm_Ro_next_number dcm_Ro_next_number pmm_Ro_next_number anm_Ro_next_number cdm_Ro_next_number ctm_Ro_next_number), slm_Ro_next_number⟩) (mc_Ro_next_number : PySem.W.codeIn K cdm_Ro_next_number "Road.next_number" = true) (mp_Ro_next_number : PySem.W.keepIn K (.ref fm_Ro_next_number) = true)
    (ma_Ro_matings : PySem.W.findIn K (.ref C_Road) "matings" = some (some (.ref fm_Ro_matings))) (mi_Ro_matings : PySem.W.isFn K (.ref fm_Ro_matings) = true) (ml_Ro_matings : K.lookup fm_Ro_matings = some ⟨ocm_Ro_matings, odm_Ro_matings, .func (PySem.W.fnOf "matings" "Road.matings" (defArgs s_Ro_matings) (defBody s_Ro_matings) (defScope s_Ro_matings) .none kVm_Ro_matings dcm_Ro_matings pmm_Ro_matings anm_Ro_matings cdm_Ro_matings ctm_Ro_matings), slm_Ro_matings⟩) (mc_Ro_matings : PySem.W.codeIn K cdm_Ro_matings "Road.matings" = true)
    (mp_Ro_matings : PySem.W.keepIn K (.ref fm_Ro_matings) = true) (ma_Ro_length : PySem.W.findIn K (.ref C_Road) "length" = some (some (.ref fm_Ro_length))) (mi_Ro_length : PySem.W.isFn K (.ref fm_Ro_length) = true) (ml_Ro_length : K.lookup fm_Ro_length = some ⟨ocm_Ro_length, odm_Ro_length, .func (PySem.W.fnOf "length" "Road.length" (defArgs s_Ro_length) (defBody s_Ro_length) (defScope s_Ro_length) .none kVm_Ro_length dcm_Ro_length pmm_Ro_length anm_Ro_length cdm_Ro_length ctm_Ro_length), slm_Ro_length⟩)
    (mc_Ro_length : PySem.W.codeIn K cdm_Ro_length "Road.length" = true) (mp_Ro_length : PySem.W.keepIn K (.ref fm_Ro_length) = true) (ma_Ro_mate_as : PySem.W.findIn K (.ref C_Road) "mate_as" = some (some (.ref fm_Ro_mate_as))) (mi_Ro_mate_as : PySem.W.isFn K (.ref fm_Ro_mate_as) = true)
    (ml_Ro_mate_as : K.lookup fm_Ro_mate_as = some ⟨ocm_Ro_mate_as, odm_Ro_mate_as, .func (PySem.W.fnOf "mate_as" "Road.mate_as" (defArgs s_Ro_mate_as) (defBody s_Ro_mate_as) (defScope s_Ro_mate_as) .none kVm_Ro_mate_as dcm_Ro_mate_as pmm_Ro_mate_as anm_Ro_mate_as cdm_Ro_mate_as ctm_Ro_mate_as), slm_Ro_mate_as⟩) (mc_Ro_mate_as : PySem.W.codeIn K cdm_Ro_mate_as "Road.mate_as" = true) (mp_Ro_mate_as : PySem.W.keepIn K (.ref fm_Ro_mate_as) = true) (ma_Ro_strike : PySem.W.findIn K (.ref C_Road) "strike" = some (some (.ref fm_Ro_strike)))
    (mi_Ro_strike : PySem.W.isFn K (.ref fm_Ro_strike) = true) (ml_Ro_strike : K.lookup fm_Ro_strike = some ⟨ocm_Ro_strike, odm_Ro_strike, .func (PySem.W.fnOf "strike" "Road.strike" (defArgs s_Ro_strike) (defBody s_Ro_strike) (defScope s_Ro_strike) .none kVm_Ro_strike dcm_Ro_strike pmm_Ro_strike anm_Ro_strike cdm_Ro_strike ctm_Ro_strike), slm_Ro_strike⟩) (mc_Ro_strike : PySem.W.codeIn K cdm_Ro_strike "Road.strike" = true) (mp_Ro_strike : PySem.W.keepIn K (.ref fm_Ro_strike) = true)
    (ma_Ro_trim : PySem.W.findIn K (.ref C_Road) "trim" = some (some (.ref fm_Ro_trim))) (mi_Ro_trim : PySem.W.isFn K (.ref fm_Ro_trim) = true) (ml_Ro_trim : K.lookup fm_Ro_trim = some ⟨ocm_Ro_trim, odm_Ro_trim, .func (PySem.W.fnOf "trim" "Road.trim" (defArgs s_Ro_trim) (defBody s_Ro_trim) (defScope s_Ro_trim) .none kVm_Ro_trim dcm_Ro_trim pmm_Ro_trim anm_Ro_trim cdm_Ro_trim ctm_Ro_trim), slm_Ro_trim⟩) (mc_Ro_trim : PySem.W.codeIn K cdm_Ro_trim "Road.trim" = true)
    (mp_Ro_trim : PySem.W.keepIn K (.ref fm_Ro_trim) = true) (ma_Ro_behind : PySem.W.findIn K (.ref C_Road) "behind" = some (some (.ref fm_Ro_behind))) (mi_Ro_behind : PySem.W.isFn K (.ref fm_Ro_behind) = true) (ml_Ro_behind : K.lookup fm_Ro_behind = some ⟨ocm_Ro_behind, odm_Ro_behind, .func (PySem.W.fnOf "behind" "Road.behind" (defArgs s_Ro_behind) (defBody s_Ro_behind) (defScope s_Ro_behind) .none kVm_Ro_behind dcm_Ro_behind pmm_Ro_behind anm_Ro_behind cdm_Ro_behind ctm_Ro_behind), slm_Ro_behind⟩)
    (mc_Ro_behind : PySem.W.codeIn K cdm_Ro_behind "Road.behind" = true) (mp_Ro_behind : PySem.W.keepIn K (.ref fm_Ro_behind) = true) (ma_Ro___init__ : PySem.W.findIn K (.ref C_Road) "__init__" = some (some (.ref fm_Ro___init__))) (mi_Ro___init__ : PySem.W.isFn K (.ref fm_Ro___init__) = true)
    (FD_Ro___init__ : FunD K "__init__" "Road.__init__" (defArgs s_Ro_init) (defBody s_Ro_init) (defScope s_Ro_init) [.int 0] [] fm_Ro___init__ fdm_Ro___init__) (ma_Ro_mate : PySem.W.findIn K (.ref C_Road) "mate" = some (some (.ref fm_Ro_mate))) (mi_Ro_mate : PySem.W.isFn K (.ref fm_Ro_mate) = true) (FD_Ro_mate : FunD K "mate" "Road.mate" (defArgs s_Ro_mate) (defBody s_Ro_mate) (defScope s_Ro_mate) [] [("turned", .int 0)] fm_Ro_mate fdm_Ro_mate)
    (self_BadMating : PySem.W.subIn K (.ref C_BadMating) (.ref C_BadMating) = some true) (ns_BadMating_BadNumber : PySem.W.subIn K (.ref C_BadMating) (.ref C_BadNumber) = some false) (nc_BadNumber : PySem.W.isClsIn K C_BadNumber = true) (nt_BadNumber : PySem.W.typeIn K (.ref C_BadNumber) = some (.type "type"))
    (ns_BadMating_NoMating : PySem.W.subIn K (.ref C_BadMating) (.ref C_NoMating) = some false) (nc_NoMating : PySem.W.isClsIn K C_NoMating = true) (nt_NoMating : PySem.W.typeIn K (.ref C_NoMating) = some (.type "type")) (ns_BadMating_NoFamily : PySem.W.subIn K (.ref C_BadMating) (.ref C_NoFamily) = some false)
    (nc_NoFamily : PySem.W.isClsIn K C_NoFamily = true) (nt_NoFamily : PySem.W.typeIn K (.ref C_NoFamily) = some (.type "type")) (ns_BadMating_TooMuch : PySem.W.subIn K (.ref C_BadMating) (.ref C_TooMuch) = some false) (nc_TooMuch : PySem.W.isClsIn K C_TooMuch = true)
    (nt_TooMuch : PySem.W.typeIn K (.ref C_TooMuch) = some (.type "type")) (ns_BadMating_BadName : PySem.W.subIn K (.ref C_BadMating) (.ref C_BadName) = some false) (nc_BadName : PySem.W.isClsIn K C_BadName = true) (nt_BadName : PySem.W.typeIn K (.ref C_BadName) = some (.type "type"))
    (ns_BadMating_Taken : PySem.W.subIn K (.ref C_BadMating) (.ref C_Taken) = some false) (nc_Taken : PySem.W.isClsIn K C_Taken = true) (nt_Taken : PySem.W.typeIn K (.ref C_Taken) = some (.type "type")) (ns_BadMating_NoRoad : PySem.W.subIn K (.ref C_BadMating) (.ref C_NoRoad) = some false)
    (nc_NoRoad : PySem.W.isClsIn K C_NoRoad = true) (nt_NoRoad : PySem.W.typeIn K (.ref C_NoRoad) = some (.type "type")) (self_Full : PySem.W.subIn K (.ref C_Full) (.ref C_Full) = some true) (ns_Full_BadNumber : PySem.W.subIn K (.ref C_Full) (.ref C_BadNumber) = some false)
    (ns_Full_NoMating : PySem.W.subIn K (.ref C_Full) (.ref C_NoMating) = some false) (ns_Full_NoFamily : PySem.W.subIn K (.ref C_Full) (.ref C_NoFamily) = some false) (ns_Full_TooMuch : PySem.W.subIn K (.ref C_Full) (.ref C_TooMuch) = some false) (ns_Full_BadName : PySem.W.subIn K (.ref C_Full) (.ref C_BadName) = some false)
    (ns_Full_Taken : PySem.W.subIn K (.ref C_Full) (.ref C_Taken) = some false) (ns_Full_NoRoad : PySem.W.subIn K (.ref C_Full) (.ref C_NoRoad) = some false) (ns_Full_BadMating : PySem.W.subIn K (.ref C_Full) (.ref C_BadMating) = some false) (nc_BadMating : PySem.W.isClsIn K C_BadMating = true)
    (nt_BadMating : PySem.W.typeIn K (.ref C_BadMating) = some (.type "type")) (ns_Full_BadPlace : PySem.W.subIn K (.ref C_Full) (.ref C_BadPlace) = some false) (nc_BadPlace : PySem.W.isClsIn K C_BadPlace = true) (nt_BadPlace : PySem.W.typeIn K (.ref C_BadPlace) = some (.type "type"))
    (ns_Full_BadStretch : PySem.W.subIn K (.ref C_Full) (.ref C_BadStretch) = some false) (nc_BadStretch : PySem.W.isClsIn K C_BadStretch = true) (nt_BadStretch : PySem.W.typeIn K (.ref C_BadStretch) = some (.type "type")) (ns_Full_BadMove : PySem.W.subIn K (.ref C_Full) (.ref C_BadMove) = some false)
    (nc_BadMove : PySem.W.isClsIn K C_BadMove = true) (nt_BadMove : PySem.W.typeIn K (.ref C_BadMove) = some (.type "type")) (ns_Full_BadMoves : PySem.W.subIn K (.ref C_Full) (.ref C_BadMoves) = some false) (nc_BadMoves : PySem.W.isClsIn K C_BadMoves = true)
    (nt_BadMoves : PySem.W.typeIn K (.ref C_BadMoves) = some (.type "type")) (ns_Full_BadText : PySem.W.subIn K (.ref C_Full) (.ref C_BadText) = some false) (nc_BadText : PySem.W.isClsIn K C_BadText = true) (nt_BadText : PySem.W.typeIn K (.ref C_BadText) = some (.type "type"))
    (ns_Full_BadBoard : PySem.W.subIn K (.ref C_Full) (.ref C_BadBoard) = some false) (nc_BadBoard : PySem.W.isClsIn K C_BadBoard = true) (nt_BadBoard : PySem.W.typeIn K (.ref C_BadBoard) = some (.type "type")) (ns_Full_BadCounts : PySem.W.subIn K (.ref C_Full) (.ref C_BadCounts) = some false)
    (nc_BadCounts : PySem.W.isClsIn K C_BadCounts = true) (nt_BadCounts : PySem.W.typeIn K (.ref C_BadCounts) = some (.type "type")) (ns_Full_BadSide : PySem.W.subIn K (.ref C_Full) (.ref C_BadSide) = some false) (nc_BadSide : PySem.W.isClsIn K C_BadSide = true)
    (nt_BadSide : PySem.W.typeIn K (.ref C_BadSide) = some (.type "type")) (ns_Full_NoSide : PySem.W.subIn K (.ref C_Full) (.ref C_NoSide) = some false) (nc_NoSide : PySem.W.isClsIn K C_NoSide = true) (nt_NoSide : PySem.W.typeIn K (.ref C_NoSide) = some (.type "type"))
    (g_FAR : PySem.W.nsIn K mainGlobals "FAR" = some (some (.int 1000000000000000000 tk_FAR))) (g_MOST : PySem.W.nsIn K mainGlobals "MOST" = some (some (.int 24 tk_MOST))) :
    LamX.LawAtS l w K CX0 14 63 "_law_script" mg fa h := by
  have e := hfa.symm.trans (PySem.W.mg_of X G a18)
  cases e
  have B : Bn mg := ⟨PySem.W.mg_none_of X G z0, PySem.W.mg_none_of X G z1, PySem.W.mg_none_of X G z2, PySem.W.mg_none_of X G z3, PySem.W.mg_none_of X G z4, PySem.W.mg_none_of X G z5, PySem.W.mg_none_of X G z6, PySem.W.mg_none_of X G z7, PySem.W.mg_none_of X G z8, PySem.W.mg_none_of X G z9, PySem.W.mg_none_of X G z10, PySem.W.mg_none_of X G z11, PySem.W.mg_none_of X G z12, PySem.W.mg_none_of X G z13⟩
  have F0 := fun_mk (st := s_open) l0 c0 k0
  have D_open : DefAt K mg "_law_open" s_open P_open _ _ := ⟨F0, F0.binds (ps := P_open) fun _ _ _ _ _ _ => by exact len1 (fun _ => rfl), PySem.W.mg_of X G a0⟩
  have F1 := fun_mk (st := s_pull) l1 c1 k1
  have D_pull : DefAt K mg "_law_pull" s_pull P_pull _ _ := ⟨F1, F1.binds (ps := P_pull) fun _ _ _ _ _ _ => by exact len2 (fun _ _ => rfl), PySem.W.mg_of X G a1⟩
  have F2 := fun_mk (st := s_like) l2 c2 k2
  have D_like : DefAt K mg "_law_like" s_like P_like _ _ := ⟨F2, F2.binds (ps := P_like) fun _ _ _ _ _ _ => by exact len2 (fun _ _ => rfl), PySem.W.mg_of X G a2⟩
  have F3 := fun_mk (st := s_fields) l3 c3 k3
  have D_fields : DefAt K mg "_law_fields" s_fields P_fields _ _ := ⟨F3, F3.binds (ps := P_fields) fun _ _ _ _ _ _ => by exact len1 (fun _ => rfl), PySem.W.mg_of X G a3⟩
  have F4 := fun_mk (st := s_why) l4 c4 k4
  have D_why : DefAt K mg "_law_why" s_why P_why _ _ := ⟨F4, F4.binds (ps := P_why) fun _ _ _ _ _ _ => by exact len1 (fun _ => rfl), PySem.W.mg_of X G a4⟩
  have F5 := fun_mk (st := s_mating) l5 c5 k5
  have D_mating : DefAt K mg "_law_mating" s_mating P_mating _ _ := ⟨F5, F5.binds (ps := P_mating) fun _ _ _ _ _ _ => by exact len2 (fun _ _ => rfl), PySem.W.mg_of X G a5⟩
  have F6 := fun_mk (st := s_road) l6 c6 k6
  have D_road : DefAt K mg "_law_road" s_road P_road _ _ := ⟨F6, F6.binds (ps := P_road) fun _ _ _ _ _ _ => by exact len3 (fun _ _ _ => rfl), PySem.W.mg_of X G a6⟩
  have F7 := fun_mk (st := s_paved) l7 c7 k7
  have D_paved : DefAt K mg "_law_paved" s_paved P_paved _ _ := ⟨F7, F7.binds (ps := P_paved) fun _ _ _ _ _ _ => by exact len2 (fun _ _ => rfl), PySem.W.mg_of X G a7⟩
  have F8 := fun_mk (st := s_late) l8 c8 k8
  have D_late : DefAt K mg "_law_late" s_late P_late _ _ := ⟨F8, F8.binds (ps := P_late) fun _ _ _ _ _ _ => by exact len1 (fun _ => rfl), PySem.W.mg_of X G a8⟩
  have F9 := fun_mk (st := s_need_from) l9 c9 k9
  have D_need_from : DefAt K mg "need_from" s_need_from P_need_from _ _ := ⟨F9, F9.binds (ps := P_need_from) fun _ _ _ _ _ _ => by exact len2 (fun _ _ => rfl), PySem.W.mg_of X G a9⟩
  have F10 := fun_mk (st := s_need_within) l10 c10 k10
  have D_need_within : DefAt K mg "need_within" s_need_within P_need_within _ _ := ⟨F10, F10.binds (ps := P_need_within) fun _ _ _ _ _ _ => by exact len3 (fun _ _ _ => rfl), PySem.W.mg_of X G a10⟩
  have F11 := fun_mk (st := s_need_length) l11 c11 k11
  have D_need_length : DefAt K mg "need_length" s_need_length P_need_length _ _ := ⟨F11, F11.binds (ps := P_need_length) fun _ _ _ _ _ _ => by exact len1 (fun _ => rfl), PySem.W.mg_of X G a11⟩
  have F12 := fun_mk (st := s_need_mating) l12 c12 k12
  have D_need_mating : DefAt K mg "need_mating" s_need_mating P_need_mating _ _ := ⟨F12, F12.binds (ps := P_need_mating) fun _ _ _ _ _ _ => by exact len2 (fun _ _ => rfl), PySem.W.mg_of X G a12⟩
  have F13 := fun_mk (st := s_is_mating) l13 c13 k13
  have D_is_mating : DefAt K mg "is_mating" s_is_mating P_is_mating _ _ := ⟨F13, F13.binds (ps := P_is_mating) fun _ _ _ _ _ _ => by exact len2 (fun _ _ => rfl), PySem.W.mg_of X G a13⟩
  have F14 := fun_mk (st := s_moved) l14 c14 k14
  have D_moved : DefAt K mg "moved" s_moved P_moved _ _ := ⟨F14, F14.binds (ps := P_moved) fun _ _ _ _ _ _ => by exact len2 (fun _ _ => rfl), PySem.W.mg_of X G a14⟩
  have F15 := fun_mk (st := s_clipped) l15 c15 k15
  have D_clipped : DefAt K mg "clipped" s_clipped P_clipped _ _ := ⟨F15, F15.binds (ps := P_clipped) fun _ _ _ _ _ _ => by exact len2 (fun _ _ => rfl), PySem.W.mg_of X G a15⟩
  have F16 := fun_mk (st := s_part) l16 c16 k16
  have D_part : DefAt K mg "part" s_part P_part _ _ := ⟨F16, F16.binds (ps := P_part) fun _ _ _ _ _ _ => by exact len3 (fun _ _ _ => rfl), PySem.W.mg_of X G a16⟩
  have F17 := fun_mk (st := s_holds) l17 c17 k17
  have D_holds : DefAt K mg "holds" s_holds P_holds _ _ := ⟨F17, F17.binds (ps := P_holds) fun _ _ _ _ _ _ => by exact len3 (fun _ _ _ => rfl), PySem.W.mg_of X G a17⟩
  have GF : ∀ base : Heap, FnOk l.prog w K mg base CX0 1 f_FarError _ N_farinit (spFarInit K) := fun base => ok_farinit FF (PySem.W.mg_none_of X G zV) fF8
  have FI_BadNumber := fun_mk (x := "__init__") (qual := "BadNumber.__init__") (st := s_bninit) l_BadNumber c_BadNumber k_BadNumber
  have bI_BadNumber := FI_BadNumber.binds (ps := N_bninit) fun _ _ _ _ _ _ => by exact len2 (fun _ _ => rfl)
  have FI_BadMating := fun_mk (x := "__init__") (qual := "BadMating.__init__") (st := s_bginit) l_BadMating c_BadMating k_BadMating
  have bI_BadMating := FI_BadMating.binds (ps := N_bginit) fun _ _ _ _ _ _ => by exact len2 (fun _ _ => rfl)
  have FI_Full := fun_mk (x := "__init__") (qual := "Full.__init__") (st := s_fuinit) l_Full c_Full k_Full
  have bI_Full := FI_Full.binds (ps := N_fuinit) fun _ _ _ _ _ _ => by exact len2 (fun _ _ => rfl)
  have F_Ro_become := fun_mk (x := "become") (qual := "Road.become") (st := s_Ro_become) ml_Ro_become mc_Ro_become mp_Ro_become
  have b_Ro_become := F_Ro_become.binds (ps := P_Ro_become) fun _ _ _ _ _ _ => by exact len3 (fun _ _ _ => rfl)
  have M_Ro_become : Meth K C_Road "become" fm_Ro_become := ⟨ma_Ro_become, mi_Ro_become, mp_Ro_become⟩
  have F_Ro_next_number := fun_mk (x := "next_number") (qual := "Road.next_number") (st := s_Ro_next_number) ml_Ro_next_number mc_Ro_next_number mp_Ro_next_number
  have b_Ro_next_number := F_Ro_next_number.binds (ps := P_Ro_next_number) fun _ _ _ _ _ _ => by exact len1 (fun _ => rfl)
  have M_Ro_next_number : Meth K C_Road "next_number" fm_Ro_next_number := ⟨ma_Ro_next_number, mi_Ro_next_number, mp_Ro_next_number⟩
  have F_Ro_matings := fun_mk (x := "matings") (qual := "Road.matings") (st := s_Ro_matings) ml_Ro_matings mc_Ro_matings mp_Ro_matings
  have b_Ro_matings := F_Ro_matings.binds (ps := P_Ro_matings) fun _ _ _ _ _ _ => by exact len1 (fun _ => rfl)
  have M_Ro_matings : Meth K C_Road "matings" fm_Ro_matings := ⟨ma_Ro_matings, mi_Ro_matings, mp_Ro_matings⟩
  have F_Ro_length := fun_mk (x := "length") (qual := "Road.length") (st := s_Ro_length) ml_Ro_length mc_Ro_length mp_Ro_length
  have b_Ro_length := F_Ro_length.binds (ps := P_Ro_length) fun _ _ _ _ _ _ => by exact len1 (fun _ => rfl)
  have M_Ro_length : Meth K C_Road "length" fm_Ro_length := ⟨ma_Ro_length, mi_Ro_length, mp_Ro_length⟩
  have F_Ro_mate_as := fun_mk (x := "mate_as") (qual := "Road.mate_as") (st := s_Ro_mate_as) ml_Ro_mate_as mc_Ro_mate_as mp_Ro_mate_as
  have b_Ro_mate_as := F_Ro_mate_as.binds (ps := P_Ro_mate_as) fun _ _ _ _ _ _ => by exact len3 (fun _ _ _ => rfl)
  have M_Ro_mate_as : Meth K C_Road "mate_as" fm_Ro_mate_as := ⟨ma_Ro_mate_as, mi_Ro_mate_as, mp_Ro_mate_as⟩
  have F_Ro_strike := fun_mk (x := "strike") (qual := "Road.strike") (st := s_Ro_strike) ml_Ro_strike mc_Ro_strike mp_Ro_strike
  have b_Ro_strike := F_Ro_strike.binds (ps := P_Ro_strike) fun _ _ _ _ _ _ => by exact len2 (fun _ _ => rfl)
  have M_Ro_strike : Meth K C_Road "strike" fm_Ro_strike := ⟨ma_Ro_strike, mi_Ro_strike, mp_Ro_strike⟩
  have F_Ro_trim := fun_mk (x := "trim") (qual := "Road.trim") (st := s_Ro_trim) ml_Ro_trim mc_Ro_trim mp_Ro_trim
  have b_Ro_trim := F_Ro_trim.binds (ps := P_Ro_trim) fun _ _ _ _ _ _ => by exact len2 (fun _ _ => rfl)
  have M_Ro_trim : Meth K C_Road "trim" fm_Ro_trim := ⟨ma_Ro_trim, mi_Ro_trim, mp_Ro_trim⟩
  have F_Ro_behind := fun_mk (x := "behind") (qual := "Road.behind") (st := s_Ro_behind) ml_Ro_behind mc_Ro_behind mp_Ro_behind
  have b_Ro_behind := F_Ro_behind.binds (ps := P_Ro_behind) fun _ _ _ _ _ _ => by exact len2 (fun _ _ => rfl)
  have M_Ro_behind : Meth K C_Road "behind" fm_Ro_behind := ⟨ma_Ro_behind, mi_Ro_behind, mp_Ro_behind⟩
  have mkRo_ : Mk K C_Road fm_Ro___init__ := ⟨mk_Road, ma_Ro___init__, mi_Ro___init__, kc_Road⟩
  have Tb : ErT K mg C_FarError C_BadNumber f_BadNumber _ "BadNumber" N_bninit := ⟨PySem.W.mg_of X G gF, PySem.W.mg_of X G g_BadNumber, E_BadNumber, XF_BadNumber, EC_BadNumber, i_BadNumber, t_BadNumber, bI_BadNumber, M_BadNumber⟩
  have Tg : ErT K mg C_FarError C_BadMating f_BadMating _ "BadMating" N_bginit := ⟨PySem.W.mg_of X G gF, PySem.W.mg_of X G g_BadMating, E_BadMating, XF_BadMating, EC_BadMating, i_BadMating, t_BadMating, bI_BadMating, M_BadMating⟩
  have Tu : ErT K mg C_FarError C_Full f_Full _ "Full" N_fuinit := ⟨PySem.W.mg_of X G gF, PySem.W.mg_of X G g_Full, E_Full, XF_Full, EC_Full, i_Full, t_Full, bI_Full, M_Full⟩
  have Ob : OthBnE K mg C_BadNumber C_NoMating C_NoFamily C_TooMuch := ⟨PySem.W.mg_of X G g_NoMating, PySem.W.mg_of X G g_NoFamily, PySem.W.mg_of X G g_TooMuch⟩
  have Og : OthBgE K mg C_BadMating C_BadNumber C_NoMating C_NoFamily C_TooMuch C_BadName C_Taken C_NoRoad := ⟨PySem.W.mg_of X G g_BadNumber, PySem.W.mg_of X G g_NoMating, PySem.W.mg_of X G g_NoFamily, PySem.W.mg_of X G g_TooMuch, PySem.W.mg_of X G g_BadName, PySem.W.mg_of X G g_Taken, PySem.W.mg_of X G g_NoRoad, List.forall_mem_cons.mpr ⟨kit_no self_BadMating ns_BadMating_BadNumber nc_BadNumber nt_BadNumber, List.forall_mem_cons.mpr ⟨kit_no self_BadMating ns_BadMating_NoMating nc_NoMating nt_NoMating, List.forall_mem_cons.mpr ⟨kit_no self_BadMating ns_BadMating_NoFamily nc_NoFamily nt_NoFamily, List.forall_mem_cons.mpr ⟨kit_no self_BadMating ns_BadMating_TooMuch nc_TooMuch nt_TooMuch, List.forall_mem_cons.mpr ⟨kit_no self_BadMating ns_BadMating_BadName nc_BadName nt_BadName, List.forall_mem_cons.mpr ⟨kit_no self_BadMating ns_BadMating_Taken nc_Taken nt_Taken, List.forall_mem_cons.mpr ⟨kit_no self_BadMating ns_BadMating_NoRoad nc_NoRoad nt_NoRoad, fun _ h => (by cases h)⟩⟩⟩⟩⟩⟩⟩⟩
  have Ou : OthFuE K mg C_Full C_BadNumber C_NoMating C_NoFamily C_TooMuch C_BadName C_Taken C_NoRoad C_BadMating C_BadPlace C_BadStretch C_BadMove C_BadMoves C_BadText C_BadBoard C_BadCounts C_BadSide C_NoSide := ⟨PySem.W.mg_of X G g_BadNumber, PySem.W.mg_of X G g_NoMating, PySem.W.mg_of X G g_NoFamily, PySem.W.mg_of X G g_TooMuch, PySem.W.mg_of X G g_BadName, PySem.W.mg_of X G g_Taken, PySem.W.mg_of X G g_NoRoad, PySem.W.mg_of X G g_BadMating, PySem.W.mg_of X G g_BadPlace, PySem.W.mg_of X G g_BadStretch, PySem.W.mg_of X G g_BadMove, PySem.W.mg_of X G g_BadMoves, PySem.W.mg_of X G g_BadText, PySem.W.mg_of X G g_BadBoard, PySem.W.mg_of X G g_BadCounts, PySem.W.mg_of X G g_BadSide, PySem.W.mg_of X G g_NoSide, List.forall_mem_cons.mpr ⟨kit_no self_Full ns_Full_BadNumber nc_BadNumber nt_BadNumber, List.forall_mem_cons.mpr ⟨kit_no self_Full ns_Full_NoMating nc_NoMating nt_NoMating, List.forall_mem_cons.mpr ⟨kit_no self_Full ns_Full_NoFamily nc_NoFamily nt_NoFamily, List.forall_mem_cons.mpr ⟨kit_no self_Full ns_Full_TooMuch nc_TooMuch nt_TooMuch, List.forall_mem_cons.mpr ⟨kit_no self_Full ns_Full_BadName nc_BadName nt_BadName, List.forall_mem_cons.mpr ⟨kit_no self_Full ns_Full_Taken nc_Taken nt_Taken, List.forall_mem_cons.mpr ⟨kit_no self_Full ns_Full_NoRoad nc_NoRoad nt_NoRoad, List.forall_mem_cons.mpr ⟨kit_no self_Full ns_Full_BadMating nc_BadMating nt_BadMating, List.forall_mem_cons.mpr ⟨kit_no self_Full ns_Full_BadPlace nc_BadPlace nt_BadPlace, List.forall_mem_cons.mpr ⟨kit_no self_Full ns_Full_BadStretch nc_BadStretch nt_BadStretch, List.forall_mem_cons.mpr ⟨kit_no self_Full ns_Full_BadMove nc_BadMove nt_BadMove, List.forall_mem_cons.mpr ⟨kit_no self_Full ns_Full_BadMoves nc_BadMoves nt_BadMoves, List.forall_mem_cons.mpr ⟨kit_no self_Full ns_Full_BadText nc_BadText nt_BadText, List.forall_mem_cons.mpr ⟨kit_no self_Full ns_Full_BadBoard nc_BadBoard nt_BadBoard, List.forall_mem_cons.mpr ⟨kit_no self_Full ns_Full_BadCounts nc_BadCounts nt_BadCounts, List.forall_mem_cons.mpr ⟨kit_no self_Full ns_Full_BadSide nc_BadSide nt_BadSide, List.forall_mem_cons.mpr ⟨kit_no self_Full ns_Full_NoSide nc_NoSide nt_NoSide, fun _ h => (by cases h)⟩⟩⟩⟩⟩⟩⟩⟩⟩⟩⟩⟩⟩⟩⟩⟩⟩⟩
  have TRo_ : RoT K mg C_Road := ⟨PySem.W.mg_of X G g_Road, cl_Road, na_Ro_extent, na_Ro_standing, na_Ro_kept, na_Ro_foldings⟩
  have M_Ro_mate : Meth K C_Road "mate" fm_Ro_mate := ⟨ma_Ro_mate, mi_Ro_mate, FD_Ro_mate.kp⟩
  refine ⟨PySem.W.fnOf "law" "law" (defArgs s_law) (defBody s_law) (defScope s_law) .none kV18 dc18 pm18 an18 (.ref cLw) ct18, [(cLw, PtL), (c, Pt)], spLawT2 K PtL Pt, fun p hp => ?_, fun p hp => ?_, fun p hp => ?_, fun s u => ?b, fun H a ns hl _ hH hS => ⟨a, ns, rfl, hS, hl, hH _ List.mem_cons_self, hH _ (List.mem_cons_of_mem _ List.mem_cons_self), fun _ => rfl⟩, fun base KB GB TB => ?ok⟩
  case ok =>
    have TBl := TB _ List.mem_cons_self
    have TBw := TB _ (List.mem_cons_of_mem _ List.mem_cons_self)
    have zE := PySem.W.mg_none_of X G zf_enumerate
    have gFAR := PySem.W.mg_of X G g_FAR
    have gMOST := PySem.W.mg_of X G g_MOST
    have GB : FnOk l.prog w K mg base CX0 _ _ _ _ _ := ok_bninit FI_BadNumber (PySem.W.mg_of X G gF) TF (far_binds FF) (GF base)
    have GU : FnOk l.prog w K mg base CX0 _ _ _ _ _ := ok_fuinit FI_Full (PySem.W.mg_of X G gF) TF (far_binds FF) (GF base)
    have G_init : FnOk l.prog w K mg base CX0 _ _ _ _ _ := ok_RoInit FD_Ro___init__ TRo_ D_need_length D_need_from D_need_within gFAR B
    have b_init := ro_init_binds FD_Ro___init__
    obtain ⟨dsM, dv, b_mate⟩ := mate_binds FD_Ro_mate
    have kb := mate_kbinds FD_Ro_mate
    have G_bec : FnOk l.prog w K mg base CX0 _ _ _ _ _ := ok_Become F_Ro_become TRo_
    have G_nx : FnOk l.prog w K mg base CX0 _ _ _ _ _ := ok_Next F_Ro_next_number TRo_ B
    have G_len : FnOk l.prog w K mg base CX0 _ _ _ _ _ := ok_RoLen F_Ro_length TRo_
    have G_mats : FnOk l.prog w K mg base CX0 _ _ _ _ _ := ok_RoMatings F_Ro_matings TRo_ B
    have G_ma : FnOk l.prog w K mg base CX0 _ _ _ _ _ := ok_MateAs F_Ro_mate_as TRo_ M_Ro_become G_bec b_Ro_become D_need_mating D_is_mating gMOST B
    have G_mate : FnOk l.prog w K mg base CX0 _ _ _ _ _ := ok_Mate FD_Ro_mate TRo_ M_Ro_next_number G_nx b_Ro_next_number M_Ro_mate_as G_ma b_Ro_mate_as
    have G_str : FnOk l.prog w K mg base CX0 _ _ _ _ _ := ok_Strike F_Ro_strike TRo_ M_Ro_become G_bec b_Ro_become B
    have G_trim : FnOk l.prog w K mg base CX0 _ _ _ _ _ := ok_Trim F_Ro_trim TRo_ M_Ro_become G_bec b_Ro_become D_need_within D_need_from D_clipped D_part D_holds B
    have GX_beh : FnOk l.prog w K mg base (L2.CX l.prog w) _ _ _ _ _ := ok_Behind (CG := C_BadMating) F_Ro_behind TRo_ M_Ro_become G_bec b_Ro_become M_Ro_next_number G_nx b_Ro_next_number M_Ro_length G_len b_Ro_length M_Ro_matings G_mats b_Ro_matings D_moved gFAR gMOST zE B Tb n_BadNumber_number GB Tu n_Full_most GU
    have G_road : FnOk l.prog w K mg base CX0 _ _ _ _ _ := ok_road D_road D_pull D_mating B
    have G_paved : FnOk l.prog w K mg base CX0 _ _ _ _ _ := ok_paved D_paved TRo_ mkRo_ G_init b_init M_Ro_mate G_mate kb
    have G_late : FnOk l.prog w K mg base CX0 _ _ _ _ _ := ok_late (T := TT30 PtL Pt) D_late.g l8 c8 TBw (List.mem_cons_of_mem _ List.mem_cons_self) (hu30k neP) D_why D_fields Tb Ob n_BadNumber_number Tg Og n_BadMating_mating Tu Ou n_Full_most TRo_ M_Ro_trim G_trim b_Ro_trim M_Ro_behind GX_beh b_Ro_behind D_paved G_paved B
    exact FnOk.imp (ok_law (T := TT30 PtL Pt) l18 c18 TBl List.mem_cons_self (hu30l neP) D_open D_pull D_like D_road G_road D_why D_fields Tb Ob n_BadNumber_number Tg Og n_BadMating_mating Tu Ou n_Full_most TRo_ mkRo_ G_init b_init M_Ro_mate G_mate b_mate dv M_Ro_strike G_str b_Ro_strike M_Ro_behind GX_beh b_Ro_behind M_Ro_length G_len b_Ro_length M_Ro_matings G_mats b_Ro_matings D_paved G_paved D_late G_late B) sp30
  case b => exact .of_eq rfl
  · rcases List.mem_cons.mp hp with z | z
    · rw [z]; exact hT2
    · rw [List.mem_singleton.mp z]; exact hT
  · rcases List.mem_cons.mp hp with z | z
    · rw [z]; exact nP2
    · rw [List.mem_singleton.mp z]; exact nP
  · rcases List.mem_cons.mp hp with z | z
    · rw [z]; exact PySem.W.codeHd_of_K X hP2
    · rw [List.mem_singleton.mp z]; exact PySem.W.codeHd_of_K X hP
def fnL0 : List He.DefD := [dD "_law_open" s_open, dD "_law_pull" s_pull, dD "_law_like" s_like, dD "_law_fields" s_fields, dD "_law_why" s_why, dD "_law_mating" s_mating, dD "_law_road" s_road, dD "_law_paved" s_paved, dD "_law_late" s_late, dD "need_from" s_need_from, dD "need_within" s_need_within, dD "need_length" s_need_length, dD "need_mating" s_need_mating, dD "is_mating" s_is_mating, dD "moved" s_moved, dD "clipped" s_clipped, dD "part" s_part, dD "holds" s_holds, dD "law" s_law, dMs "FarError" "__init__" "FarError.__init__" s_farinit, dM "BadNumber" "__init__" "BadNumber.__init__" s_bninit, dM "BadMating" "__init__" "BadMating.__init__" s_bginit, dM "Full" "__init__" "Full.__init__" s_fuinit, dM "Road" "become" "Road.become" s_Ro_become, dM "Road" "next_number" "Road.next_number" s_Ro_next_number, dM "Road" "matings" "Road.matings" s_Ro_matings, dM "Road" "length" "Road.length" s_Ro_length, dM "Road" "mate_as" "Road.mate_as" s_Ro_mate_as, dM "Road" "strike" "Road.strike" s_Ro_strike, dM "Road" "trim" "Road.trim" s_Ro_trim]
def fnL1 : List He.DefD := [dM "Road" "behind" "Road.behind" s_Ro_behind, { at_ := ("Road", some "__init__"), name := "__init__", qual := "Road.__init__", params := defArgs s_Ro_init, body := defBody s_Ro_init, scope := defScope s_Ro_init, dfl := [.int 0], kwd := [] }, { at_ := ("Road", some "mate"), name := "mate", qual := "Road.mate", params := defArgs s_Ro_mate, body := defBody s_Ro_mate, scope := defScope s_Ro_mate, dfl := [], kwd := [("turned", .int 0)] }]
def fnL : List He.DefD := fnL0 ++ fnL1
def faL0 : List He.Fa := [.glo "_law_open", .glo "_law_pull", .glo "_law_like", .glo "_law_fields", .glo "_law_why", .glo "_law_mating", .glo "_law_road", .glo "_law_paved", .glo "_law_late", .glo "need_from", .glo "need_within", .glo "need_length", .glo "need_mating", .glo "is_mating", .glo "moved", .glo "clipped", .glo "part", .glo "holds", .glo "law", .free "len", .free "list", .free "tuple", .free "bool", .free "int", .free "str", .free "isinstance", .free "all", .free "any", .free "range", .free "max"]
def faL1 : List He.Fa := [.free "min", .free "dict", .free "sorted", .free "ValueError", .glo "FarError", .glo "BadNumber", .noat "BadNumber" "number", .glo "BadMating", .noat "BadMating" "mating", .glo "Full", .noat "Full" "most", .glo "NoMating", .glo "NoFamily", .glo "TooMuch", .glo "BadName", .glo "Taken", .glo "NoRoad", .glo "BadPlace", .glo "BadStretch", .glo "BadMove", .glo "BadMoves", .glo "BadText", .glo "BadBoard", .glo "BadCounts", .glo "BadSide", .glo "NoSide", .free "enumerate", .glo "Road", .cls "Road", .noat "Road" "extent"]
def faL2 : List He.Fa := [.noat "Road" "standing", .noat "Road" "kept", .noat "Road" "foldings", .int "FAR" 1000000000000000000, .int "MOST" 24]
def faL : List He.Fa := faL0 ++ faL1 ++ faL2
def exL0 (K : PySem.W.Frag) : List Bool := [cfnB K (He.ga K "FarError") "__init__" (He.ma K (He.ga K "FarError") "__init__"), bltB K "ValueError" "__init__" "ValueError.__init__", errB K (He.ga K "BadNumber"), xfB K (He.ga K "BadNumber"), excB K (He.ga K "BadNumber"), decide (PySem.W.exmOne K (.ref (He.ga K "BadNumber")) (.ref (He.ga K "FarError")) = some true), He.eqO (PySem.W.findIn K (.ref (He.ga K "BadNumber")) "__init__") (some (some (.ref (He.ma K (He.ga K "BadNumber") "__init__")))), decide (PySem.W.typeIn K (.ref (He.ma K (He.ga K "BadNumber") "__init__")) = some (.type "function")), errB K (He.ga K "BadMating"), xfB K (He.ga K "BadMating"), excB K (He.ga K "BadMating"), decide (PySem.W.exmOne K (.ref (He.ga K "BadMating")) (.ref (He.ga K "FarError")) = some true), He.eqO (PySem.W.findIn K (.ref (He.ga K "BadMating")) "__init__") (some (some (.ref (He.ma K (He.ga K "BadMating") "__init__")))), decide (PySem.W.typeIn K (.ref (He.ma K (He.ga K "BadMating") "__init__")) = some (.type "function")), errB K (He.ga K "Full"), xfB K (He.ga K "Full"), excB K (He.ga K "Full"), decide (PySem.W.exmOne K (.ref (He.ga K "Full")) (.ref (He.ga K "FarError")) = some true), He.eqO (PySem.W.findIn K (.ref (He.ga K "Full")) "__init__") (some (some (.ref (He.ma K (He.ga K "Full") "__init__")))), decide (PySem.W.typeIn K (.ref (He.ma K (He.ga K "Full") "__init__")) = some (.type "function")), PySem.W.makesIn K (He.ga K "Road"), PySem.W.keepIn K (.ref (He.ga K "Road")), He.eqO (PySem.W.findIn K (.ref (He.ga K "Road")) "become") (some (some (.ref (He.ma K (He.ga K "Road") "become")))), PySem.W.isFn K (.ref (He.ma K (He.ga K "Road") "become")), He.eqO (PySem.W.findIn K (.ref (He.ga K "Road")) "next_number") (some (some (.ref (He.ma K (He.ga K "Road") "next_number")))), PySem.W.isFn K (.ref (He.ma K (He.ga K "Road") "next_number")), He.eqO (PySem.W.findIn K (.ref (He.ga K "Road")) "matings") (some (some (.ref (He.ma K (He.ga K "Road") "matings")))), PySem.W.isFn K (.ref (He.ma K (He.ga K "Road") "matings")), He.eqO (PySem.W.findIn K (.ref (He.ga K "Road")) "length") (some (some (.ref (He.ma K (He.ga K "Road") "length")))), PySem.W.isFn K (.ref (He.ma K (He.ga K "Road") "length"))]
def exL1 (K : PySem.W.Frag) : List Bool := [He.eqO (PySem.W.findIn K (.ref (He.ga K "Road")) "mate_as") (some (some (.ref (He.ma K (He.ga K "Road") "mate_as")))), PySem.W.isFn K (.ref (He.ma K (He.ga K "Road") "mate_as")), He.eqO (PySem.W.findIn K (.ref (He.ga K "Road")) "strike") (some (some (.ref (He.ma K (He.ga K "Road") "strike")))), PySem.W.isFn K (.ref (He.ma K (He.ga K "Road") "strike")), He.eqO (PySem.W.findIn K (.ref (He.ga K "Road")) "trim") (some (some (.ref (He.ma K (He.ga K "Road") "trim")))), PySem.W.isFn K (.ref (He.ma K (He.ga K "Road") "trim")), He.eqO (PySem.W.findIn K (.ref (He.ga K "Road")) "behind") (some (some (.ref (He.ma K (He.ga K "Road") "behind")))), PySem.W.isFn K (.ref (He.ma K (He.ga K "Road") "behind")), He.eqO (PySem.W.findIn K (.ref (He.ga K "Road")) "__init__") (some (some (.ref (He.ma K (He.ga K "Road") "__init__")))), PySem.W.isFn K (.ref (He.ma K (He.ga K "Road") "__init__")), He.eqO (PySem.W.findIn K (.ref (He.ga K "Road")) "mate") (some (some (.ref (He.ma K (He.ga K "Road") "mate")))), PySem.W.isFn K (.ref (He.ma K (He.ga K "Road") "mate")), decide (PySem.W.subIn K (.ref (He.ga K "BadMating")) (.ref (He.ga K "BadMating")) = some true), decide (PySem.W.subIn K (.ref (He.ga K "BadMating")) (.ref (He.ga K "BadNumber")) = some false), PySem.W.isClsIn K (He.ga K "BadNumber"), decide (PySem.W.typeIn K (.ref (He.ga K "BadNumber")) = some (.type "type")), decide (PySem.W.subIn K (.ref (He.ga K "BadMating")) (.ref (He.ga K "NoMating")) = some false), PySem.W.isClsIn K (He.ga K "NoMating"), decide (PySem.W.typeIn K (.ref (He.ga K "NoMating")) = some (.type "type")), decide (PySem.W.subIn K (.ref (He.ga K "BadMating")) (.ref (He.ga K "NoFamily")) = some false), PySem.W.isClsIn K (He.ga K "NoFamily"), decide (PySem.W.typeIn K (.ref (He.ga K "NoFamily")) = some (.type "type")), decide (PySem.W.subIn K (.ref (He.ga K "BadMating")) (.ref (He.ga K "TooMuch")) = some false), PySem.W.isClsIn K (He.ga K "TooMuch"), decide (PySem.W.typeIn K (.ref (He.ga K "TooMuch")) = some (.type "type")), decide (PySem.W.subIn K (.ref (He.ga K "BadMating")) (.ref (He.ga K "BadName")) = some false), PySem.W.isClsIn K (He.ga K "BadName"), decide (PySem.W.typeIn K (.ref (He.ga K "BadName")) = some (.type "type")), decide (PySem.W.subIn K (.ref (He.ga K "BadMating")) (.ref (He.ga K "Taken")) = some false), PySem.W.isClsIn K (He.ga K "Taken")]
def exL2 (K : PySem.W.Frag) : List Bool := [decide (PySem.W.typeIn K (.ref (He.ga K "Taken")) = some (.type "type")), decide (PySem.W.subIn K (.ref (He.ga K "BadMating")) (.ref (He.ga K "NoRoad")) = some false), PySem.W.isClsIn K (He.ga K "NoRoad"), decide (PySem.W.typeIn K (.ref (He.ga K "NoRoad")) = some (.type "type")), decide (PySem.W.subIn K (.ref (He.ga K "Full")) (.ref (He.ga K "Full")) = some true), decide (PySem.W.subIn K (.ref (He.ga K "Full")) (.ref (He.ga K "BadNumber")) = some false), decide (PySem.W.subIn K (.ref (He.ga K "Full")) (.ref (He.ga K "NoMating")) = some false), decide (PySem.W.subIn K (.ref (He.ga K "Full")) (.ref (He.ga K "NoFamily")) = some false), decide (PySem.W.subIn K (.ref (He.ga K "Full")) (.ref (He.ga K "TooMuch")) = some false), decide (PySem.W.subIn K (.ref (He.ga K "Full")) (.ref (He.ga K "BadName")) = some false), decide (PySem.W.subIn K (.ref (He.ga K "Full")) (.ref (He.ga K "Taken")) = some false), decide (PySem.W.subIn K (.ref (He.ga K "Full")) (.ref (He.ga K "NoRoad")) = some false), decide (PySem.W.subIn K (.ref (He.ga K "Full")) (.ref (He.ga K "BadMating")) = some false), PySem.W.isClsIn K (He.ga K "BadMating"), decide (PySem.W.typeIn K (.ref (He.ga K "BadMating")) = some (.type "type")), decide (PySem.W.subIn K (.ref (He.ga K "Full")) (.ref (He.ga K "BadPlace")) = some false), PySem.W.isClsIn K (He.ga K "BadPlace"), decide (PySem.W.typeIn K (.ref (He.ga K "BadPlace")) = some (.type "type")), decide (PySem.W.subIn K (.ref (He.ga K "Full")) (.ref (He.ga K "BadStretch")) = some false), PySem.W.isClsIn K (He.ga K "BadStretch"), decide (PySem.W.typeIn K (.ref (He.ga K "BadStretch")) = some (.type "type")), decide (PySem.W.subIn K (.ref (He.ga K "Full")) (.ref (He.ga K "BadMove")) = some false), PySem.W.isClsIn K (He.ga K "BadMove"), decide (PySem.W.typeIn K (.ref (He.ga K "BadMove")) = some (.type "type")), decide (PySem.W.subIn K (.ref (He.ga K "Full")) (.ref (He.ga K "BadMoves")) = some false), PySem.W.isClsIn K (He.ga K "BadMoves"), decide (PySem.W.typeIn K (.ref (He.ga K "BadMoves")) = some (.type "type")), decide (PySem.W.subIn K (.ref (He.ga K "Full")) (.ref (He.ga K "BadText")) = some false), PySem.W.isClsIn K (He.ga K "BadText"), decide (PySem.W.typeIn K (.ref (He.ga K "BadText")) = some (.type "type"))]
def exL3 (K : PySem.W.Frag) : List Bool := [decide (PySem.W.subIn K (.ref (He.ga K "Full")) (.ref (He.ga K "BadBoard")) = some false), PySem.W.isClsIn K (He.ga K "BadBoard"), decide (PySem.W.typeIn K (.ref (He.ga K "BadBoard")) = some (.type "type")), decide (PySem.W.subIn K (.ref (He.ga K "Full")) (.ref (He.ga K "BadCounts")) = some false), PySem.W.isClsIn K (He.ga K "BadCounts"), decide (PySem.W.typeIn K (.ref (He.ga K "BadCounts")) = some (.type "type")), decide (PySem.W.subIn K (.ref (He.ga K "Full")) (.ref (He.ga K "BadSide")) = some false), PySem.W.isClsIn K (He.ga K "BadSide"), decide (PySem.W.typeIn K (.ref (He.ga K "BadSide")) = some (.type "type")), decide (PySem.W.subIn K (.ref (He.ga K "Full")) (.ref (He.ga K "NoSide")) = some false), PySem.W.isClsIn K (He.ga K "NoSide"), decide (PySem.W.typeIn K (.ref (He.ga K "NoSide")) = some (.type "type"))]
def exL (K : PySem.W.Frag) : List Bool := exL0 K ++ exL1 K ++ exL2 K ++ exL3 K
def looseL0 : List Str := ["_wall", "FarError", "BadNumber", "BadName", "BadMating", "BadPlace", "BadStretch", "BadMove", "BadMoves", "BadBoard", "BadCounts", "BadSide", "TooMuch", "BadText", "Taken", "Full", "Missing", "NoMating", "NoRoad", "NoSide", "NoFamily", "NothingLeft", "FAR", "MOST", "need_from", "need_within", "need_length", "is_mating", "need_mating", "need_place"]
def looseL1 : List Str := ["common", "normal", "back", "part", "holds", "moved", "clipped", "need_road", "step_of", "end_of", "is_leader", "is_repeat", "halved", "merged", "led_back", "Front", "fault_of", "fold_down", "Folder", "Shares", "led_by", "wound", "led_pieces", "settled", "last_up_to", "joined", "first_ranks", "Folding", "Road", "_law_open"]
def looseL2 : List Str := ["_law_pull", "_law_like", "_law_fields", "_law_why", "_law_mating", "_law_road", "_law_paved", "_law_late"]
def looseL : List Str := looseL0 ++ looseL1 ++ looseL2
abbrev RowL : PySem.W.OpenRow := PySem.W.OpenLaw.row PySem.Challenge.rw_farmates_k30_roads_taken_behind
abbrev hkL : PySem.W.Hook := hookY faL fnL exL
def obL (s : PySem.W.SharedT) : AlY := obsY faL fnL exL (HandSHeadRun.getT s)
theorem obL_eq (s : PySem.W.SharedT) : obL s = hkL.obs s.abs := obsY_eq s
theorem all_of {w : World} {K : PySem.W.Frag} {h : Heap} {mg : Str → Option Value} {fa : Addr} (X : K.In h) (G : h.Ns mainGlobals mg) (hfa : mg "law" = some (.ref fa)) (c : SaysY faL fnL exL h K) :
    LamX.LawAtS PySem.Challenge.rw_farmates_k30_roads_taken_behind w K CX0 14 63 "_law_script" mg fa h := by
  obtain ⟨oc0, od0, sl0, kV0, dc0, pm0, an0, cd0, ct0, l0, c0, k0⟩ := say_def c.d 0 (x := "_law_open") (st := s_open) rfl
  obtain ⟨oc1, od1, sl1, kV1, dc1, pm1, an1, cd1, ct1, l1, c1, k1⟩ := say_def c.d 1 (x := "_law_pull") (st := s_pull) rfl
  obtain ⟨oc2, od2, sl2, kV2, dc2, pm2, an2, cd2, ct2, l2, c2, k2⟩ := say_def c.d 2 (x := "_law_like") (st := s_like) rfl
  obtain ⟨oc3, od3, sl3, kV3, dc3, pm3, an3, cd3, ct3, l3, c3, k3⟩ := say_def c.d 3 (x := "_law_fields") (st := s_fields) rfl
  obtain ⟨oc4, od4, sl4, kV4, dc4, pm4, an4, cd4, ct4, l4, c4, k4⟩ := say_def c.d 4 (x := "_law_why") (st := s_why) rfl
  obtain ⟨oc5, od5, sl5, kV5, dc5, pm5, an5, cd5, ct5, l5, c5, k5⟩ := say_def c.d 5 (x := "_law_mating") (st := s_mating) rfl
  obtain ⟨oc6, od6, sl6, kV6, dc6, pm6, an6, cd6, ct6, l6, c6, k6⟩ := say_def c.d 6 (x := "_law_road") (st := s_road) rfl
  obtain ⟨oc7, od7, sl7, kV7, dc7, pm7, an7, cd7, ct7, l7, c7, k7⟩ := say_def c.d 7 (x := "_law_paved") (st := s_paved) rfl
  obtain ⟨oc8, od8, sl8, kV8, dc8, pm8, an8, ct8, l8, c8, k8⟩ := say_law c.d 8 (x := "_law_late") (st := s_late) rfl
  obtain ⟨oc9, od9, sl9, kV9, dc9, pm9, an9, cd9, ct9, l9, c9, k9⟩ := say_def c.d 9 (x := "need_from") (st := s_need_from) rfl
  obtain ⟨oc10, od10, sl10, kV10, dc10, pm10, an10, cd10, ct10, l10, c10, k10⟩ := say_def c.d 10 (x := "need_within") (st := s_need_within) rfl
  obtain ⟨oc11, od11, sl11, kV11, dc11, pm11, an11, cd11, ct11, l11, c11, k11⟩ := say_def c.d 11 (x := "need_length") (st := s_need_length) rfl
  obtain ⟨oc12, od12, sl12, kV12, dc12, pm12, an12, cd12, ct12, l12, c12, k12⟩ := say_def c.d 12 (x := "need_mating") (st := s_need_mating) rfl
  obtain ⟨oc13, od13, sl13, kV13, dc13, pm13, an13, cd13, ct13, l13, c13, k13⟩ := say_def c.d 13 (x := "is_mating") (st := s_is_mating) rfl
  obtain ⟨oc14, od14, sl14, kV14, dc14, pm14, an14, cd14, ct14, l14, c14, k14⟩ := say_def c.d 14 (x := "moved") (st := s_moved) rfl
  obtain ⟨oc15, od15, sl15, kV15, dc15, pm15, an15, cd15, ct15, l15, c15, k15⟩ := say_def c.d 15 (x := "clipped") (st := s_clipped) rfl
  obtain ⟨oc16, od16, sl16, kV16, dc16, pm16, an16, cd16, ct16, l16, c16, k16⟩ := say_def c.d 16 (x := "part") (st := s_part) rfl
  obtain ⟨oc17, od17, sl17, kV17, dc17, pm17, an17, cd17, ct17, l17, c17, k17⟩ := say_def c.d 17 (x := "holds") (st := s_holds) rfl
  obtain ⟨oc18, od18, sl18, kV18, dc18, pm18, an18, ct18, l18, c18, k18⟩ := say_law c.d 18 (x := "law") (st := s_law) rfl
  obtain ⟨fdF, FF⟩ := say_far c.d 19 (C := "FarError") (m := "__init__") (q := "FarError.__init__") (st := s_farinit) rfl
  obtain ⟨oc_BadNumber, od_BadNumber, sl_BadNumber, kV_BadNumber, dc_BadNumber, pm_BadNumber, an_BadNumber, cd_BadNumber, ct_BadNumber, l_BadNumber, c_BadNumber, k_BadNumber⟩ := say_meth c.d 20 (C := "BadNumber") (m := "__init__") (q := "BadNumber.__init__") (st := s_bninit) rfl
  obtain ⟨oc_BadMating, od_BadMating, sl_BadMating, kV_BadMating, dc_BadMating, pm_BadMating, an_BadMating, cd_BadMating, ct_BadMating, l_BadMating, c_BadMating, k_BadMating⟩ := say_meth c.d 21 (C := "BadMating") (m := "__init__") (q := "BadMating.__init__") (st := s_bginit) rfl
  obtain ⟨oc_Full, od_Full, sl_Full, kV_Full, dc_Full, pm_Full, an_Full, cd_Full, ct_Full, l_Full, c_Full, k_Full⟩ := say_meth c.d 22 (C := "Full") (m := "__init__") (q := "Full.__init__") (st := s_fuinit) rfl
  obtain ⟨ocm_Ro_become, odm_Ro_become, slm_Ro_become, kVm_Ro_become, dcm_Ro_become, pmm_Ro_become, anm_Ro_become, cdm_Ro_become, ctm_Ro_become, ml_Ro_become, mc_Ro_become, mp_Ro_become⟩ := say_meth c.d 23 (C := "Road") (m := "become") (q := "Road.become") (st := s_Ro_become) rfl
  obtain ⟨ocm_Ro_next_number, odm_Ro_next_number, slm_Ro_next_number, kVm_Ro_next_number, dcm_Ro_next_number, pmm_Ro_next_number, anm_Ro_next_number, cdm_Ro_next_number, ctm_Ro_next_number, ml_Ro_next_number, mc_Ro_next_number, mp_Ro_next_number⟩ := say_meth c.d 24 (C := "Road") (m := "next_number") (q := "Road.next_number") (st := s_Ro_next_number) rfl
  obtain ⟨ocm_Ro_matings, odm_Ro_matings, slm_Ro_matings, kVm_Ro_matings, dcm_Ro_matings, pmm_Ro_matings, anm_Ro_matings, cdm_Ro_matings, ctm_Ro_matings, ml_Ro_matings, mc_Ro_matings, mp_Ro_matings⟩ := say_meth c.d 25 (C := "Road") (m := "matings") (q := "Road.matings") (st := s_Ro_matings) rfl
  obtain ⟨ocm_Ro_length, odm_Ro_length, slm_Ro_length, kVm_Ro_length, dcm_Ro_length, pmm_Ro_length, anm_Ro_length, cdm_Ro_length, ctm_Ro_length, ml_Ro_length, mc_Ro_length, mp_Ro_length⟩ := say_meth c.d 26 (C := "Road") (m := "length") (q := "Road.length") (st := s_Ro_length) rfl
  obtain ⟨ocm_Ro_mate_as, odm_Ro_mate_as, slm_Ro_mate_as, kVm_Ro_mate_as, dcm_Ro_mate_as, pmm_Ro_mate_as, anm_Ro_mate_as, cdm_Ro_mate_as, ctm_Ro_mate_as, ml_Ro_mate_as, mc_Ro_mate_as, mp_Ro_mate_as⟩ := say_meth c.d 27 (C := "Road") (m := "mate_as") (q := "Road.mate_as") (st := s_Ro_mate_as) rfl
  obtain ⟨ocm_Ro_strike, odm_Ro_strike, slm_Ro_strike, kVm_Ro_strike, dcm_Ro_strike, pmm_Ro_strike, anm_Ro_strike, cdm_Ro_strike, ctm_Ro_strike, ml_Ro_strike, mc_Ro_strike, mp_Ro_strike⟩ := say_meth c.d 28 (C := "Road") (m := "strike") (q := "Road.strike") (st := s_Ro_strike) rfl
  obtain ⟨ocm_Ro_trim, odm_Ro_trim, slm_Ro_trim, kVm_Ro_trim, dcm_Ro_trim, pmm_Ro_trim, anm_Ro_trim, cdm_Ro_trim, ctm_Ro_trim, ml_Ro_trim, mc_Ro_trim, mp_Ro_trim⟩ := say_meth c.d 29 (C := "Road") (m := "trim") (q := "Road.trim") (st := s_Ro_trim) rfl
  obtain ⟨ocm_Ro_behind, odm_Ro_behind, slm_Ro_behind, kVm_Ro_behind, dcm_Ro_behind, pmm_Ro_behind, anm_Ro_behind, cdm_Ro_behind, ctm_Ro_behind, ml_Ro_behind, mc_Ro_behind, mp_Ro_behind⟩ := say_meth c.d 30 (C := "Road") (m := "behind") (q := "Road.behind") (st := s_Ro_behind) rfl
  obtain ⟨fdm_Ro___init__, FD_Ro___init__⟩ := c.d.def_ 31 rfl
  obtain ⟨fdm_Ro_mate, FD_Ro_mate⟩ := c.d.def_ 32 rfl
  obtain ⟨tk_FAR, g_FAR⟩ := say_int c.d 63 (x := "FAR") (i := 1000000000000000000) rfl
  obtain ⟨tk_MOST, g_MOST⟩ := say_int c.d 64 (x := "MOST") (i := 24) rfl
  exact all_mk X G hfa c.mt
    (He.eqO_ok (c.d.fact 0 rfl)) l0 c0 k0 (He.eqO_ok (c.d.fact 1 rfl)) l1 c1 k1
    (He.eqO_ok (c.d.fact 2 rfl)) l2 c2 k2 (He.eqO_ok (c.d.fact 3 rfl)) l3 c3 k3
    (He.eqO_ok (c.d.fact 4 rfl)) l4 c4 k4 (He.eqO_ok (c.d.fact 5 rfl)) l5 c5 k5
    (He.eqO_ok (c.d.fact 6 rfl)) l6 c6 k6 (He.eqO_ok (c.d.fact 7 rfl)) l7 c7 k7
    (He.eqO_ok (c.d.fact 8 rfl)) l8 c8 k8 (He.eqO_ok (c.d.fact 9 rfl)) l9 c9 k9
    (He.eqO_ok (c.d.fact 10 rfl)) l10 c10 k10 (He.eqO_ok (c.d.fact 11 rfl)) l11 c11 k11
    (He.eqO_ok (c.d.fact 12 rfl)) l12 c12 k12 (He.eqO_ok (c.d.fact 13 rfl)) l13 c13 k13
    (He.eqO_ok (c.d.fact 14 rfl)) l14 c14 k14 (He.eqO_ok (c.d.fact 15 rfl)) l15 c15 k15
    (He.eqO_ok (c.d.fact 16 rfl)) l16 c16 k16 (He.eqO_ok (c.d.fact 17 rfl)) l17 c17 k17
    (He.eqO_ok (c.d.fact 18 rfl)) l18 c18 k18 (He.eqO_ok (c.d.fact 19 rfl)) (He.eqO_ok (c.d.fact 20 rfl)) (He.eqO_ok (c.d.fact 21 rfl)) (He.eqO_ok (c.d.fact 22 rfl))
    (He.eqO_ok (c.d.fact 23 rfl)) (He.eqO_ok (c.d.fact 24 rfl)) (He.eqO_ok (c.d.fact 25 rfl)) (He.eqO_ok (c.d.fact 26 rfl)) (He.eqO_ok (c.d.fact 27 rfl)) (He.eqO_ok (c.d.fact 28 rfl)) (He.eqO_ok (c.d.fact 29 rfl)) (He.eqO_ok (c.d.fact 30 rfl))
    (He.eqO_ok (c.d.fact 31 rfl)) (He.eqO_ok (c.d.fact 32 rfl)) (He.eqO_ok (c.d.fact 33 rfl)) c.hd c.out c.hd2 c.out2 c.mt2
    c.ne (He.eqO_ok (c.d.fact 34 rfl)) (cfnB_ok (all_at c.more 0 rfl)) FF (bltB_ok (all_at c.more 1 rfl)) (He.eqO_ok (c.d.fact 35 rfl)) (errB_ok (all_at c.more 2 rfl)) (xfB_ok (all_at c.more 3 rfl))
    (excB_ok (all_at c.more 4 rfl)) (of_decide_eq_true (all_at c.more 5 rfl)) (He.eqO_ok (c.d.fact 36 rfl)) (He.eqO_ok (all_at c.more 6 rfl)) (of_decide_eq_true (all_at c.more 7 rfl)) l_BadNumber c_BadNumber k_BadNumber
    (He.eqO_ok (c.d.fact 37 rfl)) (errB_ok (all_at c.more 8 rfl)) (xfB_ok (all_at c.more 9 rfl)) (excB_ok (all_at c.more 10 rfl)) (of_decide_eq_true (all_at c.more 11 rfl)) (He.eqO_ok (c.d.fact 38 rfl)) (He.eqO_ok (all_at c.more 12 rfl)) (of_decide_eq_true (all_at c.more 13 rfl))
    l_BadMating c_BadMating k_BadMating (He.eqO_ok (c.d.fact 39 rfl)) (errB_ok (all_at c.more 14 rfl)) (xfB_ok (all_at c.more 15 rfl)) (excB_ok (all_at c.more 16 rfl)) (of_decide_eq_true (all_at c.more 17 rfl))
    (He.eqO_ok (c.d.fact 40 rfl)) (He.eqO_ok (all_at c.more 18 rfl)) (of_decide_eq_true (all_at c.more 19 rfl)) l_Full c_Full k_Full (He.eqO_ok (c.d.fact 41 rfl)) (He.eqO_ok (c.d.fact 42 rfl))
    (He.eqO_ok (c.d.fact 43 rfl)) (He.eqO_ok (c.d.fact 44 rfl)) (He.eqO_ok (c.d.fact 45 rfl)) (He.eqO_ok (c.d.fact 46 rfl)) (He.eqO_ok (c.d.fact 47 rfl)) (He.eqO_ok (c.d.fact 48 rfl)) (He.eqO_ok (c.d.fact 49 rfl)) (He.eqO_ok (c.d.fact 50 rfl))
    (He.eqO_ok (c.d.fact 51 rfl)) (He.eqO_ok (c.d.fact 52 rfl)) (He.eqO_ok (c.d.fact 53 rfl)) (He.eqO_ok (c.d.fact 54 rfl)) (He.eqO_ok (c.d.fact 55 rfl)) (He.eqO_ok (c.d.fact 56 rfl)) (He.eqO_ok (c.d.fact 57 rfl)) (He.cls_ok (c.d.fact 58 rfl))
    (all_at c.more 20 rfl) (all_at c.more 21 rfl) (He.eqO_ok (c.d.fact 59 rfl)) (He.eqO_ok (c.d.fact 60 rfl)) (He.eqO_ok (c.d.fact 61 rfl)) (He.eqO_ok (c.d.fact 62 rfl)) (He.eqO_ok (all_at c.more 22 rfl)) (all_at c.more 23 rfl)
    ml_Ro_become mc_Ro_become mp_Ro_become (He.eqO_ok (all_at c.more 24 rfl)) (all_at c.more 25 rfl) ml_Ro_next_number mc_Ro_next_number mp_Ro_next_number
    (He.eqO_ok (all_at c.more 26 rfl)) (all_at c.more 27 rfl) ml_Ro_matings mc_Ro_matings mp_Ro_matings (He.eqO_ok (all_at c.more 28 rfl)) (all_at c.more 29 rfl) ml_Ro_length
    mc_Ro_length mp_Ro_length (He.eqO_ok (all_at c.more 30 rfl)) (all_at c.more 31 rfl) ml_Ro_mate_as mc_Ro_mate_as mp_Ro_mate_as (He.eqO_ok (all_at c.more 32 rfl))
    (all_at c.more 33 rfl) ml_Ro_strike mc_Ro_strike mp_Ro_strike (He.eqO_ok (all_at c.more 34 rfl)) (all_at c.more 35 rfl) ml_Ro_trim mc_Ro_trim
    mp_Ro_trim (He.eqO_ok (all_at c.more 36 rfl)) (all_at c.more 37 rfl) ml_Ro_behind mc_Ro_behind mp_Ro_behind (He.eqO_ok (all_at c.more 38 rfl)) (all_at c.more 39 rfl)
    FD_Ro___init__ (He.eqO_ok (all_at c.more 40 rfl)) (all_at c.more 41 rfl) FD_Ro_mate (of_decide_eq_true (all_at c.more 42 rfl)) (of_decide_eq_true (all_at c.more 43 rfl)) (all_at c.more 44 rfl) (of_decide_eq_true (all_at c.more 45 rfl))
    (of_decide_eq_true (all_at c.more 46 rfl)) (all_at c.more 47 rfl) (of_decide_eq_true (all_at c.more 48 rfl)) (of_decide_eq_true (all_at c.more 49 rfl)) (all_at c.more 50 rfl) (of_decide_eq_true (all_at c.more 51 rfl)) (of_decide_eq_true (all_at c.more 52 rfl)) (all_at c.more 53 rfl)
    (of_decide_eq_true (all_at c.more 54 rfl)) (of_decide_eq_true (all_at c.more 55 rfl)) (all_at c.more 56 rfl) (of_decide_eq_true (all_at c.more 57 rfl)) (of_decide_eq_true (all_at c.more 58 rfl)) (all_at c.more 59 rfl) (of_decide_eq_true (all_at c.more 60 rfl)) (of_decide_eq_true (all_at c.more 61 rfl))
    (all_at c.more 62 rfl) (of_decide_eq_true (all_at c.more 63 rfl)) (of_decide_eq_true (all_at c.more 64 rfl)) (of_decide_eq_true (all_at c.more 65 rfl)) (of_decide_eq_true (all_at c.more 66 rfl)) (of_decide_eq_true (all_at c.more 67 rfl)) (of_decide_eq_true (all_at c.more 68 rfl)) (of_decide_eq_true (all_at c.more 69 rfl))
    (of_decide_eq_true (all_at c.more 70 rfl)) (of_decide_eq_true (all_at c.more 71 rfl)) (of_decide_eq_true (all_at c.more 72 rfl)) (all_at c.more 73 rfl) (of_decide_eq_true (all_at c.more 74 rfl)) (of_decide_eq_true (all_at c.more 75 rfl)) (all_at c.more 76 rfl) (of_decide_eq_true (all_at c.more 77 rfl))
    (of_decide_eq_true (all_at c.more 78 rfl)) (all_at c.more 79 rfl) (of_decide_eq_true (all_at c.more 80 rfl)) (of_decide_eq_true (all_at c.more 81 rfl)) (all_at c.more 82 rfl) (of_decide_eq_true (all_at c.more 83 rfl)) (of_decide_eq_true (all_at c.more 84 rfl)) (all_at c.more 85 rfl)
    (of_decide_eq_true (all_at c.more 86 rfl)) (of_decide_eq_true (all_at c.more 87 rfl)) (all_at c.more 88 rfl) (of_decide_eq_true (all_at c.more 89 rfl)) (of_decide_eq_true (all_at c.more 90 rfl)) (all_at c.more 91 rfl) (of_decide_eq_true (all_at c.more 92 rfl)) (of_decide_eq_true (all_at c.more 93 rfl))
    (all_at c.more 94 rfl) (of_decide_eq_true (all_at c.more 95 rfl)) (of_decide_eq_true (all_at c.more 96 rfl)) (all_at c.more 97 rfl) (of_decide_eq_true (all_at c.more 98 rfl)) (of_decide_eq_true (all_at c.more 99 rfl)) (all_at c.more 100 rfl) (of_decide_eq_true (all_at c.more 101 rfl))
    g_FAR g_MOST
-- SPLIT
theorem run1 : SeenEq RowL (PySem.W.view RowL.prog [76]) 40000 looseL := by
  intro w os
  kernel_rfl
theorem run2 : PartEq RowL.prog 40000 (fun s => okY faL fnL exL (HandSHeadRun.getT s) (seenY (HandSHeadRun.getT s))) fun _ => true := by
  intro w os
  kernel_rfl
theorem run4 : PartEq RowL.prog 40000 (fun s => fnL.map fun d => He.fnW (seenY (HandSHeadRun.getT s)) d.at_) fun _ => fnL.map He.DefD.val := by
  intro w os
  kernel_rfl
theorem runL (w : World) : HandSHeadRun.RunEq RowL (PySem.W.view RowL.prog [76]) hkL obL 40000 looseL w := run_parts run1 run2 run4 w
end Fm
open PySem PySem.W PySem.Calls PyProof.Rows
set_option maxRecDepth 100000 in
set_option maxHeartbeats 0 in
theorem PySem.Challenge.cw_farmates_k30_roads_taken_behind_holds : PySem.Challenge.rw_farmates_k30_roads_taken_behind.Holds := by
  w_on; o_law
  refine HandSHeadRun.head_any (r := OpenLaw.row PySem.Challenge.rw_farmates_k30_roads_taken_behind) (q := view (OpenLaw.row PySem.Challenge.rw_farmates_k30_roads_taken_behind).prog [76]) (H := Fm.hkL) (ob := Fm.obL) (M := 40000) (loose := Fm.looseL) (d := HandSHeadRun.topDef (OpenLaw.row PySem.Challenge.rw_farmates_k30_roads_taken_behind).prog 76) (kwd := []) Fm.obL_eq
    (by kernel_rfl) (fun s => by kernel_rfl) Fm.runL (by kernel_rfl) (by kernel_rfl) (by kernel_rfl) (by rfl) (by first | assumption | decide +kernel) (by decide +kernel) ⟨rfl, rfl, rfl, rfl, rfl, by decide +kernel⟩ ?hw ?hc
  case hw => w_witness2
  case hc =>
    refine LamX.walk_ofTsE (l := PySem.Challenge.rw_farmates_k30_roads_taken_behind) (n := 63) (k := 14) (x := "_law_script") (CX := fun _ => L2.CX0) rfl (by decide) (by kernel_rfl) ⟨rfl, by decide, by decide⟩ ?F (fun _ _ _ _ _ z => z)
    intro w mg fa h Y G hm0
    obtain ⟨K, KX, c⟩ := Y
    have hm : mg ("law" : PySem.Str) = some (.ref fa) := by
      have en : (HandSHeadRun.topDef (OpenLaw.row PySem.Challenge.rw_farmates_k30_roads_taken_behind).prog 76).name = ("law" : PySem.Str) := by kernel_rfl
      rw [← en]
      exact hm0
    exact ⟨K, KX, Fm.all_of KX G hm c⟩
