import PyProof.Rows.All
import Wide.All
import OpenK.AllK
import Wide.FinOn
import HandS.ForMost
import HandS.Codes
import HandS.IsInst
import HandS.Wide
import HandS.Style
import HandS.ForExc
import HandS.ExcInit
import HandS.ExcIs
import HandS.ExcField
import HandS.FStr
import HandS.Defaults
import HandS.Lambda
import HandS.EndTab
import HandS.HotCalls
import HandS.FStrTup
import HandS.DictComp
import HandS.Iter
import HandS.Zip
import HandS.More
import HandS.DictTup
import HandS.ListItems
import HandS.Keys
import HandS.SortKw
import HandS.Walk
import HandS.Deep
import KE.DataMinMax
import KE.GoesEnum
import HandS.TryOnly
import HandS.Conv
import KE.KStateDown
import HandS.Head0
import HandS.Head1
import HandS.Head2
import HandS.HeadHook1
import HandS.HeadHook2
import HandS.HeadHook3
import HandS.HeadHook4
import HandS.HeadWalk
import PySem.Challenge.RW_farmates_k11_whole_moves_keep_families
set_option Elab.async false
set_option linter.all false
set_option maxRecDepth 100000
set_option maxHeartbeats 4000000
namespace Fm
open PySem L2
def top (i : Nat) : Stmt := PySem.Challenge.pw_farmates_k11_whole_moves_keep_families.main.body.getD i (.Pass ⟨0, 0, 0, 0⟩)

/-! ### what stands behind the top -/
structure DefAt (K : PySem.W.Frag) (mg : Str → Option Value) (x : Str) (st : Stmt) (ps : List Str) (f : Addr) (fd : FuncData) : Prop where
  F : Fun K x x st f fd
  b : Binds K fd ps []
  g : mg x = some (.ref f)
structure Bn (mg : Str → Option Value) : Prop where
  len : mg "len" = none
  list : mg "list" = none
  tuple : mg "tuple" = none
  bool : mg "bool" = none
  int : mg "int" = none
  str : mg "str" = none
  isinstance : mg "isinstance" = none
  all : mg "all" = none
  any : mg "any" = none
  range : mg "range" = none
  max : mg "max" = none
  min : mg "min" = none
  dict : mg "dict" = none
  sorted : mg "sorted" = none
/-! ### heaps -/
theorem same_upd {H : Hp} {p : Addr} {o : HO} (h : H p = none) : Same H (upd H p o) := fun b x e => by
  rw [upd_ne (ne_of_none e h)]
  exact e
theorem sameU {H H' : Hp} {p : Addr} {o : HO} (e : Same H H') (h : H p = none) : Same H (upd H' p o) := fun b x q => by
  rw [upd_ne (ne_of_none q h)]
  exact e b x q
/-- all but d stands as it stood -/
def Keep (d : Addr) (H H' : Hp) : Prop := ∀ b o, b ≠ d → H b = some o → H' b = some o
theorem Keep.refl (d : Addr) (H : Hp) : Keep d H H := fun _ _ _ h => h
theorem Keep.trans {d : Addr} {H H1 H2 : Hp} (a : Keep d H H1) (b : Keep d H1 H2) : Keep d H H2 := fun c o n h => b c o n (a c o n h)
theorem Keep.upd {d : Addr} {H : Hp} {o : HO} : Keep d H (upd H d o) := fun b x n h => by
  rw [upd_ne n]
  exact h
theorem keepS {d : Addr} {H H' : Hp} (a : Same H H') : Keep d H H' := fun b o _ h => a b o h
/-! ### the drawing -/
structure Drawn (H : Hp) (d l : Addr) (ns : List Int) (i z s : Int) : Prop where
  at_d : H d = some (.lst [.ref l, .int i, .int z, .int s])
  at_l : H l = some (.lst (ns.map V.int))
  len : ns.length ≤ 63
  i0 : 0 ≤ i
  z0 : 0 ≤ z
  s0 : 0 ≤ s
  s1 : s < 2147483629
def Draw (H : Hp) (d l : Addr) : Prop := ∃ ns i z s, Drawn H d l ns i z s
theorem Drawn.ne {H : Hp} {d l : Addr} {ns : List Int} {i z s : Int} (h : Drawn H d l ns i z s) : l ≠ d := by
  refine ne_of h.at_l h.at_d fun e => ?_
  cases ns with
  | nil => cases e
  | cons x r => cases e
theorem Drawn.same {H H' : Hp} {d l : Addr} {ns : List Int} {i z s : Int} (h : Drawn H d l ns i z s) (e : Same H H') : Drawn H' d l ns i z s := { h with at_d := e _ _ h.at_d, at_l := e _ _ h.at_l }
theorem Draw.same {H H' : Hp} {d l : Addr} (h : Draw H d l) (e : Same H H') : Draw H' d l := by
  obtain ⟨ns, i, z, s, h⟩ := h
  exact ⟨ns, i, z, s, h.same e⟩
/-- the drawing list stored anew -/
theorem Drawn.put {H : Hp} {d l : Addr} {ns : List Int} {i z s i' z' s' : Int} (h : Drawn H d l ns i z s) (hi : 0 ≤ i') (hz : 0 ≤ z') (h0 : 0 ≤ s') (h1 : s' < 2147483629) :
    Drawn (upd H d (.lst [.ref l, .int i', .int z', .int s'])) d l ns i' z' s' :=
  ⟨upd_same, (by rw [upd_ne h.ne]; exact h.at_l), h.len, hi, hz, h0, h1⟩
def spOpen (K : PySem.W.Frag) : Sp := fun vs H Q _ => ∃ (a : Addr) (ns : List Int), vs = [.ref a] ∧ SqL K H a (ns.map V.int) ∧ ns.length ≤ 63 ∧
  ∀ H' d l, Same H H' → H d = none → H l = none → Draw H' d l → Q (.ref d) H'
def spPull : Sp := fun vs H Q _ => ∃ (d l : Addr) (c : Int), vs = [.ref d, .int c] ∧ Draw H d l ∧ 1 ≤ c ∧ c < 2 ^ 100 ∧
  ∀ (v : Int) (H' : Hp), 0 ≤ v → v < c → Draw H' d l → Keep d H H' → Q (.int v) H'
def spLaw (K : PySem.W.Frag) : Sp := fun vs H Q _ => ∃ (a : Addr) (ns : List Int), vs = [.ref a] ∧ SqL K H a (ns.map V.int) ∧ ns.length ≤ 63 ∧ ∀ H', Q (.bl true) H'
/-! ### data that is compared, at most n deep -/
mutual
inductive Rp (H : Hp) : Nat → V → PyData → Prop
  | non (n : Nat) : Rp H n .non .none
  | bl (n : Nat) (b : Bool) : Rp H n (.bl b) (.bool b)
  | int (n : Nat) (i : Int) : Rp H n (.int i) (.int i)
  | str (n : Nat) (x : Str) : Rp H n (.str x) (.str x)
  | lst {n : Nat} {a : Addr} {xs : List V} {ds : List PyData} : H a = some (.lst xs) → xs.length ≤ 100000 → RpAll H n xs ds → Rp H (n + 1) (.ref a) (.list ds)
  | tup {n : Nat} {a : Addr} {xs : List V} {ds : List PyData} : H a = some (.tup xs) → xs.length ≤ 100000 → RpAll H n xs ds → Rp H (n + 1) (.ref a) (.tuple ds)
inductive RpAll (H : Hp) : Nat → List V → List PyData → Prop
  | nil (n : Nat) : RpAll H n [] []
  | cons {n : Nat} {v : V} {vs : List V} {d : PyData} {ds : List PyData} : Rp H n v d → RpAll H n vs ds → RpAll H n (v :: vs) (d :: ds)
end
mutual
theorem Rp.same {H H' : Hp} (e : Same H H') : ∀ {n : Nat} {v : V} {d : PyData}, Rp H n v d → Rp H' n v d
  | _, _, _, .non n => .non n
  | _, _, _, .bl n b => .bl n b
  | _, _, _, .int n i => .int n i
  | _, _, _, .str n x => .str n x
  | _, _, _, .lst h l r => .lst (e _ _ h) l (RpAll.same e r)
  | _, _, _, .tup h l r => .tup (e _ _ h) l (RpAll.same e r)
theorem RpAll.same {H H' : Hp} (e : Same H H') : ∀ {n : Nat} {vs : List V} {ds : List PyData}, RpAll H n vs ds → RpAll H' n vs ds
  | _, _, _, .nil n => .nil n
  | _, _, _, .cons h r => .cons (Rp.same e h) (RpAll.same e r)
end
theorem RpAll.length {H : Hp} : ∀ {n : Nat} {vs : List V} {ds : List PyData}, RpAll H n vs ds → vs.length = ds.length
  | _, _, _, .nil _ => rfl
  | _, _, _, .cons _ r => congrArg (· + 1) (RpAll.length r)
theorem RpAll.get {H : Hp} : ∀ {n : Nat} {vs : List V} {ds : List PyData}, RpAll H n vs ds → ∀ (i : Nat), i < ds.length → ∃ v d, vs[i]? = some v ∧ ds[i]? = some d ∧ Rp H n v d
  | _, _, _, .nil _, i, h => absurd h (Nat.not_lt_zero i)
  | _, _, _, .cons (v := v) (d := d) h r, 0, _ => ⟨v, d, rfl, rfl, h⟩
  | _, _, _, .cons h r, i + 1, hi => by
    obtain ⟨v, d, a, b, c⟩ := RpAll.get r i (Nat.lt_of_succ_lt_succ hi)
    exact ⟨v, d, a, b, c⟩
def spLike (n : Nat) : Sp := fun vs H Q _ => ∃ (a b : V) (d : PyData), vs = [a, b] ∧ Rp H n a d ∧ Rp H n b d ∧ ∀ H', Same H H' → Q (.bl true) H'
def spBot : Sp := fun _ _ _ _ => False
section
variable {P : Program} {w : World} {K : PySem.W.Frag} {mg : Str → Option Value} {base : Heap}
theorem ok_bot {f : Addr} {fd : FuncData} {ps : List Str} : FnOk P w K mg base CX0 0 f fd ps spBot := ⟨fun _ _ _ _ h => h.elim, fun _ _ _ _ _ _ _ _ _ _ _ _ _ h => h.elim⟩
end
theorem Draw.ne_new {H : Hp} {d l p : Addr} (h : Draw H d l) (n : H p = none) : p ≠ d := by
  obtain ⟨ns, i, z, s, h⟩ := h
  exact (ne_of_none h.at_d n).symm
theorem Keep.of {d : Addr} {H H' : Hp} (k : Keep d H H') {b : Addr} {o : HO} (h : H b = some o) (n : b ≠ d) : H' b = some o := k b o n h
theorem sz_lt {n : Nat} (h : n < 100000) : n < sizeLine := Nat.lt_of_lt_of_le h (by decide)

/-! ### _law_open -/
abbrev s_open : Stmt := top 33
abbrev N_open : List Str := ["_law_script", "_law_seed", "_law_cell"]
abbrev P_open : List Str := ["_law_script"]
theorem sc_open : FnScope N_open P_open (defScope s_open) := ⟨rfl, rfl, rfl, by decide +kernel, rfl, by decide +kernel, by decide +kernel⟩
theorem cut63 (xs : List V) (h : xs.length ≤ 63) : cutV xs none (some 63) = xs := by
  unfold cutV
  rw [show HT.sIx xs.length xs.length (some 63) = min 63 xs.length from HT.sIx_nat xs.length xs.length 63, HT.sIx_none, Nat.min_eq_right h]
  show (xs.drop 0).take (xs.length - 0) = xs
  rw [List.drop_zero, Nat.sub_zero, List.take_length]
section
variable {P : Program} {w : World} {K : PySem.W.Frag} {mg : Str → Option Value} {base : Heap}
theorem ok_open {f : Addr} {fd : FuncData} (D : DefAt K mg "_law_open" s_open P_open f fd) (B : Bn mg) : FnOk P w K mg base CX0 1 f fd P_open (spOpen K) := by
  refine D.F.ok sc_open (fun vs H Q E h => ?_) (fun cdv A outer s H vs Q E hr h => ?_)
  · obtain ⟨a, ns, rfl, _⟩ := h
    rfl
  · obtain ⟨a, ns, rfl, hS, hlen, q⟩ := h
    refine ⟨_, (pss_cons (ps_set (i := 1) sc_open.nd rfl (.inl rfl) pe_int)
      (pss_cons (ps_for PassesOwn.never rfl (pi_list (pe_slice sl_list (pv 0) po_none (po_some pe_int))) (pg_name (i := 2) sc_open.nd rfl (.inl rfl)) (pss_one (ps_set (i := 1) sc_open.nd rfl (.inl rfl) (pe_op op_mod (pe_op op_add (pe_op op_add (pe_op op_mul (pv 1) pe_int) (pe_op op_mod (pv 2) pe_int)) pe_int) pe_int))))
      (pss_one (ps_ret (pe_lst (pa_cons (pe_callTy call_list_of (by rfl) B.list (by decide +kernel) (pa_cons (pe_slice sl_list (pv 0) po_none (po_some pe_int)) pa_nil)) (pa_cons pe_int (pa_cons pe_int (pa_cons (pv 1) pa_nil))))))))), ?_⟩
    refine ⟨.ref a, rfl, 63, rfl, a, ns.map V.int, rfl, hS, fun c nc => ?_⟩
    rw [cut63 _ (by rw [List.length_map]; exact hlen)]
    have s1 : Same H (upd H c (.lst (ns.map V.int))) := same_upd nc
    refine ⟨c, rfl, ⟨_, SqL.of upd_same⟩, for_list (K := K) (a := c) (xs := ns.map V.int) (fun i σ H2 => ∃ (sd : Int) (v : Option V), σ = [some (.ref a), some (.int sd), v] ∧ H2 = upd H c (.lst (ns.map V.int)) ∧ 0 ≤ sd ∧ sd < 2147483629)
      ⟨9134, none, rfl, rfl, by decide, by decide⟩ (fun i σ H2 _ ⟨_, _, _, e2, _⟩ => e2 ▸ SqL.of upd_same) ?_ ?_⟩
    · rintro i y σ H2 hi ⟨sd, v, rfl, rfl, h0, h1⟩
      obtain ⟨z, rfl⟩ : ∃ z, y = V.int z := by
        rw [List.getElem?_map] at hi
        cases e : ns[i]? with
        | none =>
          rw [e] at hi
          cases hi
        | some z =>
          rw [e] at hi
          exact ⟨z, (Option.some.inj hi).symm⟩
      refine ⟨_, rfl, _, _, rfl, rfl, .inl ⟨by omega, by omega⟩, _, rfl, _, _, rfl, rfl, (by show (0 : Int) < 2147483587; decide), _, _, rfl, rfl, _, _, rfl, rfl, _, _, rfl, rfl, (by show (0 : Int) < 2147483629; decide), ?_⟩
      exact ⟨_, _, rfl, rfl, Int.emod_nonneg _ (by decide), Int.emod_lt_of_pos _ (by decide)⟩
    · rintro σ H2 ⟨sd, v, rfl, rfl, h0, h1⟩
      refine ⟨.ref a, rfl, 63, rfl, a, ns.map V.int, rfl, s1.seq hS, fun p np => ?_⟩
      rw [cut63 _ (by rw [List.length_map]; exact hlen)]
      have s2 : Same H (upd (upd H c (.lst (ns.map V.int))) p (.lst (ns.map V.int))) := s1.trans (same_upd np)
      refine ⟨p, _, rfl, .inl (SqL.of upd_same), fun l nl => ?_⟩
      refine ⟨_, rfl, by show 4 ≤ sizeLine; decide, fun d nd => ?_⟩
      have s3 : Same H (upd (upd (upd H c (.lst (ns.map V.int))) p (.lst (ns.map V.int))) l (.lst (ns.map V.int))) := s2.trans (same_upd nl)
      refine q _ d l (s3.trans (same_upd nd)) (s3.free nd) (s2.free nl) ⟨ns, 0, 0, sd, upd_same, ?_, hlen, by decide, by decide, h0, h1⟩
      have nld : l ≠ d := fun e => by
        rw [← e, upd_same] at nd
        cases nd
      rw [upd_ne nld, upd_same]
end

/-! ### _law_pull -/
abbrev s_pull : Stmt := top 34
abbrev N_pull : List Str := ["_law_draw", "_law_cap", "_law_cell", "_law_got", "_law_seed"]
abbrev P_pull : List Str := ["_law_draw", "_law_cap"]
theorem sc_pull : FnScope N_pull P_pull (defScope s_pull) := ⟨rfl, rfl, rfl, by decide +kernel, rfl, by decide +kernel, by decide +kernel⟩
section
variable {P : Program} {w : World} {K : PySem.W.Frag} {mg : Str → Option Value} {base : Heap}
theorem ok_pull {f : Addr} {fd : FuncData} (D : DefAt K mg "_law_pull" s_pull P_pull f fd) (B : Bn mg) : FnOk P w K mg base CX0 1 f fd P_pull spPull := by
  refine D.F.ok sc_pull (fun vs H Q E h => ?_) (fun cdv A outer s H vs Q E hr h => ?_)
  · obtain ⟨d, l, c, rfl, _⟩ := h
    rfl
  · obtain ⟨d, l, c, rfl, hD, hc1, hc2, q⟩ := h
    refine ⟨_, (C8.pss_cut (ps_if (PW.pt (pw_and (pt_cmpR op_lt (pe_ix ix_list (pv 0) pe_int (fun _ _ => rfl)) (pv 1) (nomark _)) (pw_and1 (pt_cmpR op_lt (pe_ix ix_list (pv 0) pe_int (fun _ _ => rfl)) (pe_callB call_len_seq (by rfl) B.len (by decide +kernel) (pa_cons (pe_ix ix_list (pv 0) pe_int (fun _ _ => rfl)) pa_nil)) (nomark _))))) (pss_cons (ps_set (i := 2) sc_pull.nd rfl (.inl rfl) (pe_ix ix_list (pe_ix ix_list (pv 0) pe_int (fun _ _ => rfl)) (pe_ix ix_list (pv 0) pe_int (fun _ _ => rfl)) (fun _ _ => rfl)))
      (pss_cons (ps_asg (pe_op op_add (pe_ix ix_list (pv 0) pe_int (fun _ _ => rfl)) pe_int) (pg_sub (pv 0) pe_int set_list))
      (pss_cons (ps_asg pe_int (pg_sub (pv 0) pe_int set_list))
      (pss_one (ps_if (pt_cmpR op_ge (pv 2) (pe_op op_pow pe_int pe_int) (nomark _)) (pss_one (ps_asg (pv 2) (pg_sub (pv 0) pe_int set_list))) (pss_one (ps_asg (pe_op op_mod (pe_op op_add (pe_op op_add (pe_op op_mul (pe_ix ix_list (pv 0) pe_int (fun _ _ => rfl)) pe_int) (pe_op op_mul (pe_op op_mod (pv 2) pe_int) pe_int)) pe_int) pe_int) (pg_sub (pv 0) pe_int set_list)))))))) pss_nil)
      (C8.pss_cut (ps_if (pt_cmpR op_ge (pe_ix ix_list (pv 0) pe_int (fun _ _ => rfl)) (pv 1) (nomark _)) (pss_cons (ps_set (i := 3) sc_pull.nd rfl (.inl rfl) (pe_op op_mod (pe_ix ix_list (pv 0) pe_int (fun _ _ => rfl)) (pv 1)))
      (pss_cons (ps_asg (pe_op op_fdivW (pe_ix ix_list (pv 0) pe_int (fun _ _ => rfl)) (pv 1)) (pg_sub (pv 0) pe_int set_list))
      (pss_one (ps_ret (pv 3))))) pss_nil)
      (pss_cons (ps_set (i := 4) sc_pull.nd rfl (.inl rfl) (pe_ix ix_list (pv 0) pe_int (fun _ _ => rfl)))
      (pss_cons (ps_asg (pe_op op_mod (pe_op op_add (pe_op op_add (pe_op op_mul (pe_op op_mod (pe_op op_mul (pv 4) (pv 4)) pe_int) pe_int) (pe_op op_mul (pv 4) pe_int)) pe_int) pe_int) (pg_sub (pv 0) pe_int set_list))
      (pss_cons (ps_if (pt_cmpR op_lt (pv 1) (pe_op op_pow pe_int pe_int) (nomark _)) (pss_one (ps_ret (pe_op op_mod (pe_op op_add (pe_op op_fdivW (pe_ix ix_list (pv 0) pe_int (fun _ _ => rfl)) pe_int) (pe_op op_mul (pe_op op_mod (pe_ix ix_list (pv 0) pe_int (fun _ _ => rfl)) pe_int) pe_int)) (pv 1)))) pss_nil)
      (pss_one (ps_ret (pe_op op_mod (pe_op op_add (pe_op op_fdivW (pe_op op_pow (pe_ix ix_list (pv 0) pe_int (fun _ _ => rfl)) pe_int) pe_int) (pe_ix ix_list (pv 0) pe_int (fun _ _ => rfl))) (pv 1))))))))), ?_⟩
    have hpow : CPow 10 18 := ⟨by decide, by decide, by decide⟩
    have hpow8 : CPow 10 8 := ⟨by decide, by decide, by decide⟩
    have ix0 : ∀ {a b e g : V}, atI [a, b, e, g] 0 = some a := fun {_ _ _ _} => atI_nat (j := 0) rfl
    have ix1 : ∀ {a b e g : V}, atI [a, b, e, g] 1 = some b := fun {_ _ _ _} => atI_nat (j := 1) rfl
    have ix2 : ∀ {a b e g : V}, atI [a, b, e, g] 2 = some e := fun {_ _ _ _} => atI_nat (j := 2) rfl
    have ix3 : ∀ {a b e g : V}, atI [a, b, e, g] 3 = some g := fun {_ _ _ _} => atI_nat (j := 3) rfl
    -- the first if
    refine ⟨fun σ H1 => ∃ y : Option V, σ = [some (.ref d), some (.int c), y, none, none] ∧ Draw H1 d l ∧ Keep d H H1, ?_, ?_⟩
    · obtain ⟨ns, i, z, sd, hW⟩ := hD
      refine ⟨.ref d, rfl, d, _, 2, .int z, rfl, rfl, SqL.of hW.at_d, ix2, .int c, rfl, z, c, rfl, rfl, _, rfl, ?_⟩
      refine ite2 (fun _ => ?_) (fun _ => iteF ⟨none, rfl, ⟨ns, i, z, sd, hW⟩, Keep.refl _ _⟩)
      refine ⟨.ref d, rfl, d, _, 1, .int i, rfl, rfl, SqL.of hW.at_d, ix1, .ref d, rfl, d, _, 0, .ref l, rfl, rfl, SqL.of hW.at_d, ix0, l, _, rfl, .inl (SqL.of hW.at_l), i, _, rfl, rfl, _, rfl, ?_⟩
      refine ite2 (fun hb => ?_) (fun _ => ⟨none, rfl, ⟨ns, i, z, sd, hW⟩, Keep.refl _ _⟩)
      have hil : i < ((ns.map V.int).length : Int) := of_decide_eq_true hb
      rw [List.length_map] at hil
      have hi0 := hW.i0
      obtain ⟨j, rfl⟩ : ∃ j : Nat, i = (j : Int) := ⟨i.toNat, by omega⟩
      have hj : j < ns.length := by omega
      have gj : (ns.map V.int)[j]? = some (.int ns[j]) := by
        rw [List.getElem?_map, List.getElem?_eq_getElem hj]
        rfl
      -- cell = draw[0][draw[1]]
      refine ⟨.ref d, rfl, d, _, 0, .ref l, rfl, rfl, SqL.of hW.at_d, ix0, .ref d, rfl, d, _, 1, .int (j : Int), rfl, rfl, SqL.of hW.at_d, ix1, l, _, (j : Int), .int ns[j], rfl, rfl, SqL.of hW.at_l, atI_nat gj, ?_⟩
      -- draw[1] = draw[1] + 1
      refine ⟨.ref d, rfl, d, _, 1, .int (j : Int), rfl, rfl, SqL.of hW.at_d, ix1, _, _, rfl, rfl, .ref d, rfl, d, _, 1, 1, rfl, rfl, hW.at_d, rfl, ?_⟩
      have W1 := hW.put (i' := (j : Int) + 1) (z' := z) (s' := sd) (by omega) hW.z0 hW.s0 hW.s1
      -- draw[2] = 0
      refine ⟨.ref d, rfl, d, _, 2, 2, rfl, rfl, upd_same, rfl, ?_⟩
      have W2 := W1.put (i' := (j : Int) + 1) (z' := 0) (s' := sd) (by omega) (by decide) hW.s0 hW.s1
      -- if cell >= 10 ** 18
      refine ⟨_, rfl, _, _, rfl, rfl, hpow, _, _, rfl, rfl, _, rfl, ?_⟩
      refine ite2 (fun hg => ?_) (fun _ => ?_)
      · have hg' : (10 : Int) ^ 18 ≤ ns[j] := of_decide_eq_true hg
        refine ⟨_, rfl, .ref d, rfl, d, _, 2, 2, rfl, rfl, upd_same, rfl, ?_⟩
        exact ⟨_, rfl, ⟨_, _, _, _, W2.put (i' := (j : Int) + 1) (z' := ns[j]) (s' := sd) (by omega) (by omega) hW.s0 hW.s1⟩, (Keep.upd.trans Keep.upd).trans Keep.upd⟩
      · refine ⟨.ref d, rfl, d, _, 3, .int sd, rfl, rfl, SqL.of upd_same, ix3, _, _, rfl, rfl, .inr ⟨by decide, by decide⟩, _, rfl, _, _, rfl, rfl, (by show (0 : Int) < 2147483647; decide), _, _, rfl, rfl, .inr ⟨by decide, by decide⟩, _, _, rfl, rfl, _, _, rfl, rfl, _, _, rfl, rfl, (by show (0 : Int) < 2147483629; decide), ?_⟩
        refine ⟨.ref d, rfl, d, _, 3, 3, rfl, rfl, upd_same, rfl, ?_⟩
        exact ⟨_, rfl, ⟨_, _, _, _, W2.put (i' := (j : Int) + 1) (z' := 0) (s' := _) (by omega) (by decide) (Int.emod_nonneg _ (by decide)) (Int.emod_lt_of_pos _ (by decide))⟩, (Keep.upd.trans Keep.upd).trans Keep.upd⟩
    · rintro σ H1 ⟨y, rfl, ⟨ns, i, z, sd, hW⟩, kp⟩
      -- the second if
      refine ⟨fun σ H2 => H2 = H1 ∧ ∃ y' : Option V, σ = [some (.ref d), some (.int c), y, y', none], ?_, ?_⟩
      · refine ⟨.ref d, rfl, d, _, 2, .int z, rfl, rfl, SqL.of hW.at_d, ix2, .int c, rfl, z, c, rfl, rfl, _, rfl, ?_⟩
        refine ite2 (fun hg => ?_) (fun _ => ⟨rfl, none, rfl⟩)
        refine ⟨.ref d, rfl, d, _, 2, .int z, rfl, rfl, SqL.of hW.at_d, ix2, .int c, rfl, _, _, rfl, rfl, (by omega), ?_⟩
        have hwd : CDivW z c := wide_div (b := 100) (by omega) (by omega) (by decide) (by decide)
        refine ⟨.ref d, rfl, d, _, 2, .int z, rfl, rfl, SqL.of hW.at_d, ix2, .int c, rfl, _, _, rfl, rfl, hwd, .ref d, rfl, d, _, 2, 2, rfl, rfl, hW.at_d, rfl, _, rfl, ?_⟩
        exact q _ _ (Int.emod_nonneg _ (by omega)) (Int.emod_lt_of_pos _ (by omega)) ⟨_, _, _, _, hW.put (i' := i) (z' := z / c) (s' := sd) hW.i0 (Int.ediv_nonneg hW.z0 (by omega)) hW.s0 hW.s1⟩ (kp.trans Keep.upd)
      · rintro σ H2 ⟨rfl, y', rfl⟩
        have hs0 := hW.s0
        have hs1 := hW.s1
        have hm : CMul sd sd := .inl ⟨by omega, by omega⟩
        -- seed = draw[3]; draw[3] = ..
        refine ⟨.ref d, rfl, d, _, 3, .int sd, rfl, rfl, SqL.of hW.at_d, ix3, ?_⟩
        refine ⟨_, rfl, _, rfl, _, _, rfl, rfl, hm, _, _, rfl, rfl, (by show (0 : Int) < 2147483647; decide), _, _, rfl, rfl, .inr ⟨by decide, by decide⟩, _, rfl, _, _, rfl, rfl, .inr ⟨by decide, by decide⟩, _, _, rfl, rfl, _, _, rfl, rfl, _, _, rfl, rfl, (by show (0 : Int) < 2147483629; decide), ?_⟩
        refine ⟨.ref d, rfl, d, _, 3, 3, rfl, rfl, hW.at_d, rfl, ?_⟩
        have n0 : 0 ≤ (sd * sd % 2147483647 * 3 + sd * 45991 + 746773) % 2147483629 := Int.emod_nonneg _ (by decide)
        have n1 : (sd * sd % 2147483647 * 3 + sd * 45991 + 746773) % 2147483629 < 2147483629 := Int.emod_lt_of_pos _ (by decide)
        have W1 := hW.put (i' := i) (z' := z) (s' := (sd * sd % 2147483647 * 3 + sd * 45991 + 746773) % 2147483629) hW.i0 hW.z0 n0 n1
        have na : ((sd * sd % 2147483647 * 3 + sd * 45991 + 746773) % 2147483629).natAbs < 2 ^ 64 := by omega
        -- if cap < 10 ** 8
        refine ⟨_, rfl, _, _, rfl, rfl, hpow8, _, _, rfl, rfl, _, rfl, ?_⟩
        refine ite2 (fun _ => ?_) (fun _ => ?_)
        · refine ⟨.ref d, rfl, d, _, 3, .int _, rfl, rfl, SqL.of W1.at_d, ix3, _, _, rfl, rfl, wide_div (b := 10) (by decide) (by decide) (by decide) (by decide), .ref d, rfl, d, _, 3, .int _, rfl, rfl, SqL.of W1.at_d, ix3, _, _, rfl, rfl, (by show (0 : Int) < 6151; decide), _, _, rfl, rfl, .inr ⟨by decide, by decide⟩, _, _, rfl, rfl, .int c, rfl, _, _, rfl, rfl, (by omega), ?_⟩
          exact q _ _ (Int.emod_nonneg _ (by omega)) (Int.emod_lt_of_pos _ (by omega)) ⟨_, _, _, _, W1⟩ (kp.trans Keep.upd)
        · refine ⟨.ref d, rfl, d, _, 3, .int _, rfl, rfl, SqL.of W1.at_d, ix3, _, _, rfl, rfl, ⟨by decide, by decide, na⟩, _, _, rfl, rfl, wide_div (b := 10) (by decide) (by decide) (by decide) (by decide), .ref d, rfl, d, _, 3, .int _, rfl, rfl, SqL.of W1.at_d, ix3, _, _, rfl, rfl, .int c, rfl, _, _, rfl, rfl, (by omega), ?_⟩
          exact q _ _ (Int.emod_nonneg _ (by omega)) (Int.emod_lt_of_pos _ (by omega)) ⟨_, _, _, _, W1⟩ (kp.trans Keep.upd)
end

/-! ### holds, part -/
def tup4 (o p m f : Int) : HO := .tup [.int o, .int p, .int m, .int f]
abbrev s_holds : Stmt := top 20
abbrev N_holds : List Str := ["mating", "at", "many"]
abbrev P_holds : List Str := ["mating", "at", "many"]
theorem sc_holds : FnScope N_holds P_holds (defScope s_holds) := ⟨rfl, rfl, rfl, by decide +kernel, rfl, by decide +kernel, by decide +kernel⟩
def spHolds : Sp := fun vs H Q _ => ∃ (t : Addr) (o p m f : Int) (x y : V), vs = [.ref t, x, y] ∧ H t = some (tup4 o p m f) ∧
  ((∃ b, x = .bl b ∧ Q (.bl false) H) ∨ (∃ i b, x = .int i ∧ y = .bl b ∧ Q (.bl false) H) ∨ ∃ i k, x = .int i ∧ y = .int k ∧ Q (.bl (decide (1 ≤ k ∧ o ≤ i ∧ i + k ≤ o + m))) H)
theorem at4_0 {a b c d : V} : atI [a, b, c, d] 0 = some a := atI_nat (j := 0) rfl
theorem at4_1 {a b c d : V} : atI [a, b, c, d] 1 = some b := atI_nat (j := 1) rfl
theorem at4_2 {a b c d : V} : atI [a, b, c, d] 2 = some c := atI_nat (j := 2) rfl
theorem at4_3 {a b c d : V} : atI [a, b, c, d] 3 = some d := atI_nat (j := 3) rfl
section
variable {P : Program} {w : World} {K : PySem.W.Frag} {mg : Str → Option Value} {base : Heap}
theorem ok_holds {f : Addr} {fd : FuncData} (D : DefAt K mg "holds" s_holds P_holds f fd) (B : Bn mg) : FnOk P w K mg base CX0 1 f fd P_holds spHolds := by
  refine D.F.ok sc_holds (fun vs H Q E h => ?_) (fun cdv A outer s H vs Q E hr h => ?_)
  · obtain ⟨t, o, p, m, f, x, y, rfl, _⟩ := h
    rfl
  · obtain ⟨t, o, p, m, f, x, y, rfl, ht, h⟩ := h
    refine ⟨_, (pss_cons (ps_if (PW.pt (pw_or (pt_val (pe_callB call_isi (by rfl) B.isinstance (by decide +kernel) (pa_cons (pv 1) (pa_cons (pe_bltn (v := .ty "bool") (by rfl) B.bool (by decide +kernel) rfl) pa_nil)))) (pw_or (pt_val (pe_callB call_isi (by rfl) B.isinstance (by decide +kernel) (pa_cons (pv 2) (pa_cons (pe_bltn (v := .ty "bool") (by rfl) B.bool (by decide +kernel) rfl) pa_nil)))) (pw_or1 (pt_cmpR op_lt (pv 2) pe_int (nomark _)))))) (pss_one (ps_ret pe_bl)) pss_nil)
      (pss_one (ps_ret (pe_and (pe_cmpR op_le (pe_ix ix_tup (pv 0) pe_int (fun _ _ => rfl)) (pv 1) (nomark _)) (pe_one (pe_cmpR op_le (pe_op op_add (pv 1) (pv 2)) (pe_op op_add (pe_ix ix_tup (pv 0) pe_int (fun _ _ => rfl)) (pe_ix ix_tup (pv 0) pe_int (fun _ _ => rfl))) (nomark _))))))), ?_⟩
    rcases h with ⟨b, rfl, q⟩ | ⟨i, b, rfl, rfl, q⟩ | ⟨i, k, rfl, rfl, q⟩
    · exact ⟨.bl b, rfl, _, _, _, _, true, rfl, ClsV.ty _, TyX.base (TyOf.bl _), kit_ty (by decide +kernel), _, rfl, q⟩
    · refine ⟨.int i, rfl, _, _, _, _, false, rfl, ClsV.ty _, TyX.base (TyOf.int _), kit_ty (by decide +kernel), _, rfl, ?_⟩
      exact ⟨.bl b, rfl, _, _, _, _, true, rfl, ClsV.ty _, TyX.base (TyOf.bl _), kit_ty (by decide +kernel), _, rfl, q⟩
    · refine ⟨.int i, rfl, _, _, _, _, false, rfl, ClsV.ty _, TyX.base (TyOf.int _), kit_ty (by decide +kernel), _, rfl, ?_⟩
      refine ⟨.int k, rfl, _, _, _, _, false, rfl, ClsV.ty _, TyX.base (TyOf.int _), kit_ty (by decide +kernel), _, rfl, ?_⟩
      refine ⟨.int k, rfl, k, 1, rfl, rfl, _, rfl, ?_⟩
      refine ite2 (fun hk => ?_) (fun hk => ?_)
      · have hk' : k < 1 := of_decide_eq_true hk
        have e : decide (1 ≤ k ∧ o ≤ i ∧ i + k ≤ o + m) = false := decide_eq_false (by omega)
        rw [e] at q
        exact q
      · have hk' : ¬ k < 1 := fun z => hk (decide_eq_true z)
        refine ⟨.ref t, rfl, t, _, 0, .int o, rfl, rfl, SqT.of ht, at4_0, .int i, rfl, o, i, rfl, rfl, _, rfl, ?_⟩
        refine ite2 (fun h1 => ?_) (fun h1 => ?_)
        · have h1' : o ≤ i := of_decide_eq_true h1
          refine ⟨.int i, rfl, .int k, rfl, i, k, rfl, rfl, .ref t, rfl, t, _, 0, .int o, rfl, rfl, SqT.of ht, at4_0, .ref t, rfl, t, _, 2, .int m, rfl, rfl, SqT.of ht, at4_2, o, m, rfl, rfl, _, _, rfl, rfl, ?_⟩
          have e : decide (1 ≤ k ∧ o ≤ i ∧ i + k ≤ o + m) = decide (i + k ≤ o + m) := decide_eq_decide.mpr ⟨fun z => z.2.2, fun z => ⟨by omega, h1', z⟩⟩
          rw [e] at q
          exact q
        · have h1' : ¬ o ≤ i := fun z => h1 (decide_eq_true z)
          have e : decide (1 ≤ k ∧ o ≤ i ∧ i + k ≤ o + m) = false := decide_eq_false (by omega)
          rw [e] at q
          exact q
end
abbrev s_part : Stmt := top 19
abbrev N_part : List Str := ["mating", "at", "many", "one", "other", "reach", "turned", "ahead"]
abbrev P_part : List Str := ["mating", "at", "many"]
theorem sc_part : FnScope N_part P_part (defScope s_part) := ⟨rfl, rfl, rfl, by decide +kernel, rfl, by decide +kernel, by decide +kernel⟩
def partP (o p m f i k : Int) : Int := if f = 1 then p + m - (i - o) - k else p + (i - o)
def spPart : Sp := fun vs H Q _ => ∃ (t : Addr) (o p m f i k : Int), vs = [.ref t, .int i, .int k] ∧ H t = some (tup4 o p m f) ∧ (f = 0 ∨ f = 1) ∧ 1 ≤ k ∧ o ≤ i ∧ i + k ≤ o + m ∧
  ∀ r, H r = none → Q (.ref r) (upd H r (tup4 i (partP o p m f i k) k f))
section
variable {P : Program} {w : World} {K : PySem.W.Frag} {mg : Str → Option Value} {base : Heap}
theorem ok_part {f fH : Addr} {fd fdH : FuncData} (D : DefAt K mg "part" s_part P_part f fd) (D_holds : DefAt K mg "holds" s_holds P_holds fH fdH) (B : Bn mg) : FnOk P w K mg base CX0 2 f fd P_part spPart := by
  have G_holds : FnOk P w K mg base CX0 1 fH fdH P_holds spHolds := ok_holds D_holds B
  refine D.F.ok sc_part (fun vs H Q E h => ?_) (fun cdv A outer s H vs Q E hr h => ?_)
  · obtain ⟨t, o, p, m, f, i, k, rfl, _⟩ := h
    rfl
  · obtain ⟨t, o, p, m, f, i, k, rfl, ht, hf, h1, h2, h3, q⟩ := h
    refine ⟨_, (pss_cons (ps_if (pt_not (pt_val (pe_call G_holds (hr.mono (by omega)) (by rfl) D_holds.g D_holds.F.kp D_holds.b .nil pass0 (pa_cons (pv 0) (pa_cons (pv 1) (pa_cons (pv 2) pa_nil)))))) (pss_one ps_never) pss_nil)
      (pss_cons (ps_asg (pv 0) (pg_tup (by rfl) (pgs_cons (pg_name (i := 3) sc_part.nd rfl (.inl rfl)) (pgs_cons (pg_name (i := 4) sc_part.nd rfl (.inl rfl)) (pgs_cons (pg_name (i := 5) sc_part.nd rfl (.inl rfl)) (pgs_cons (pg_name (i := 6) sc_part.nd rfl (.inl rfl)) pgs_nil))))))
      (pss_cons (ps_set (i := 7) sc_part.nd rfl (.inl rfl) (pe_op op_sub (pv 1) (pv 3)))
      (pss_cons (ps_if (pt_cmpR op_eq (pv 6) pe_int (nomark _)) (pss_one (ps_ret (pe_tup (pa_cons (pv 1) (pa_cons (pe_op op_sub (pe_op op_sub (pe_op op_add (pv 4) (pv 5)) (pv 7)) (pv 2)) (pa_cons (pv 2) (pa_cons pe_int pa_nil))))))) pss_nil)
      (pss_one (ps_ret (pe_tup (pa_cons (pv 1) (pa_cons (pe_op op_add (pv 4) (pv 7)) (pa_cons (pv 2) (pa_cons pe_int pa_nil))))))))))), ?_⟩
    refine ⟨.ref t, rfl, .int i, rfl, .int k, rfl, t, o, p, m, f, .int i, .int k, rfl, ht, .inr (.inr ⟨i, k, rfl, rfl, ?_⟩)⟩
    rw [decide_eq_true (show 1 ≤ k ∧ o ≤ i ∧ i + k ≤ o + m from ⟨h1, h2, h3⟩)]
    refine ⟨true, rfl, iteF ?_⟩
    refine ⟨.ref t, rfl, t, _, rfl, SqT.of ht, rfl, .int o, _, rfl, .int p, _, rfl, .int m, _, rfl, .int f, _, rfl, rfl, ?_⟩
    refine ⟨.int i, rfl, .int o, rfl, i, o, rfl, rfl, ?_⟩
    refine ⟨.int f, rfl, rfl, _, rfl, ?_⟩
    rcases hf with rfl | rfl
    · rw [decide_eq_false (show ¬ (V.int 0 = V.int 1) from fun z => by cases z)]
      refine iteF ?_
      refine ⟨.int i, rfl, .int p, rfl, .int (i - o), rfl, p, i - o, rfl, rfl, .int k, rfl, by show 4 ≤ sizeLine; decide, fun r hr' => ?_⟩
      exact q r hr'
    · rw [decide_eq_true (show (V.int 1 = V.int 1) from rfl)]
      refine iteT ?_
      refine ⟨.int i, rfl, .int p, rfl, .int m, rfl, p, m, rfl, rfl, .int (i - o), rfl, _, _, rfl, rfl, .int k, rfl, _, _, rfl, rfl, .int k, rfl, by show 4 ≤ sizeLine; decide, fun r hr' => ?_⟩
      exact q r hr'
end

/-! ### back -/
abbrev s_back : Stmt := top 18
abbrev N_back : List Str := ["mating", "one", "other", "many", "turned"]
abbrev P_back : List Str := ["mating"]
theorem sc_back : FnScope N_back P_back (defScope s_back) := ⟨rfl, rfl, rfl, by decide +kernel, rfl, by decide +kernel, by decide +kernel⟩
def spBack : Sp := fun vs H Q _ => ∃ (t : Addr) (o p m f : Int), vs = [.ref t] ∧ H t = some (tup4 o p m f) ∧ ∀ r, H r = none → Q (.ref r) (upd H r (tup4 p o m f))
section
variable {P : Program} {w : World} {K : PySem.W.Frag} {mg : Str → Option Value} {base : Heap}
theorem ok_back {f : Addr} {fd : FuncData} (D : DefAt K mg "back" s_back P_back f fd) : FnOk P w K mg base CX0 1 f fd P_back spBack := by
  refine D.F.ok sc_back (fun vs H Q E h => ?_) (fun cdv A outer s H vs Q E hr h => ?_)
  · obtain ⟨t, o, p, m, f, rfl, _⟩ := h
    rfl
  · obtain ⟨t, o, p, m, f, rfl, ht, q⟩ := h
    refine ⟨_, (pss_cons (ps_asg (pv 0) (pg_tup (by rfl) (pgs_cons (pg_name (i := 1) sc_back.nd rfl (.inl rfl)) (pgs_cons (pg_name (i := 2) sc_back.nd rfl (.inl rfl)) (pgs_cons (pg_name (i := 3) sc_back.nd rfl (.inl rfl)) (pgs_cons (pg_name (i := 4) sc_back.nd rfl (.inl rfl)) pgs_nil))))))
      (pss_one (ps_ret (pe_tup (pa_cons (pv 2) (pa_cons (pv 1) (pa_cons (pv 3) (pa_cons (pv 4) pa_nil)))))))), ?_⟩
    refine ⟨.ref t, rfl, t, _, rfl, SqT.of ht, rfl, .int o, _, rfl, .int p, _, rfl, .int m, _, rfl, .int f, _, rfl, rfl, ?_⟩
    exact ⟨.int p, rfl, .int o, rfl, .int m, rfl, .int f, rfl, by show 4 ≤ sizeLine; decide, fun r hr' => q r hr'⟩
end

/-! ### normal -/
abbrev s_normal : Stmt := top 17
abbrev N_normal : List Str := ["mating"]
abbrev P_normal : List Str := ["mating"]
theorem sc_normal : FnScope N_normal P_normal (defScope s_normal) := ⟨rfl, rfl, rfl, by decide +kernel, rfl, by decide +kernel, by decide +kernel⟩
def spNormal : Sp := fun vs H Q _ => ∃ (t : Addr) (o p m f : Int), vs = [.ref t] ∧ H t = some (tup4 o p m f) ∧ ∀ r H', Same H H' → H' r = some (tup4 (if p < o then p else o) (if p < o then o else p) m f) → Q (.ref r) H'
section
variable {P : Program} {w : World} {K : PySem.W.Frag} {mg : Str → Option Value} {base : Heap}
theorem ok_normal {f fB : Addr} {fd fdB : FuncData} (D : DefAt K mg "normal" s_normal P_normal f fd) (D_back : DefAt K mg "back" s_back P_back fB fdB) : FnOk P w K mg base CX0 2 f fd P_normal spNormal := by
  have G_back : FnOk P w K mg base CX0 1 fB fdB P_back spBack := ok_back D_back
  refine D.F.ok sc_normal (fun vs H Q E h => ?_) (fun cdv A outer s H vs Q E hr h => ?_)
  · obtain ⟨t, o, p, m, f, rfl, _⟩ := h
    rfl
  · obtain ⟨t, o, p, m, f, rfl, ht, q⟩ := h
    refine ⟨_, (pss_cons (ps_if (pt_cmpR op_gt (pe_ix ix_tup (pv 0) pe_int (fun _ _ => rfl)) (pe_ix ix_tup (pv 0) pe_int (fun _ _ => rfl)) (nomark _)) (pss_one (ps_ret (pe_call G_back (hr.mono (by omega)) (by rfl) D_back.g D_back.F.kp D_back.b .nil pass0 (pa_cons (pv 0) pa_nil)))) pss_nil)
      (pss_one (ps_ret (pv 0)))), ?_⟩
    refine ⟨.ref t, rfl, t, _, 0, .int o, rfl, rfl, SqT.of ht, at4_0, .ref t, rfl, t, _, 1, .int p, rfl, rfl, SqT.of ht, at4_1, o, p, rfl, rfl, _, rfl, ?_⟩
    refine ite2 (fun hg => ?_) (fun hg => ?_)
    · have hg' : p < o := of_decide_eq_true hg
      rw [if_pos hg', if_pos hg'] at q
      exact ⟨.ref t, rfl, t, o, p, m, f, rfl, ht, fun r hr' => q r _ (same_upd hr') upd_same⟩
    · have hg' : ¬ p < o := fun z => hg (decide_eq_true z)
      rw [if_neg hg', if_neg hg'] at q
      exact ⟨.ref t, rfl, q t H (Same.refl H) ht⟩
end

/-! ### common -/
abbrev s_common : Stmt := top 16
abbrev N_common : List Str := ["one", "other"]
abbrev P_common : List Str := ["one", "other"]
theorem sc_common : FnScope N_common P_common (defScope s_common) := ⟨rfl, rfl, rfl, by decide +kernel, rfl, by decide +kernel, by decide +kernel⟩
def spCommon : Sp := fun vs H Q _ => ∃ a b : Nat, vs = [.int a, .int b] ∧ Q (.int (Nat.gcd a b)) H
theorem gcd_turn (x y : Nat) : Nat.gcd y (x % y) = Nat.gcd x y := by
  rw [Nat.gcd_comm y, ← Nat.gcd_rec, Nat.gcd_comm]
section
variable {P : Program} {w : World} {K : PySem.W.Frag} {mg : Str → Option Value} {base : Heap}
theorem ok_common {f : Addr} {fd : FuncData} (D : DefAt K mg "common" s_common P_common f fd) (B : Bn mg) : FnOk P w K mg base CX0 1 f fd P_common spCommon := by
  refine D.F.ok sc_common (fun vs H Q E h => ?_) (fun cdv A outer s H vs Q E hr h => ?_)
  · obtain ⟨a, b, rfl, _⟩ := h
    rfl
  · obtain ⟨a, b, rfl, q⟩ := h
    refine ⟨_, (pss_cons (ps_while PassesOwn.never (pt_cmpR op_ne (pv 1) pe_int (nomark _)) (pss_one (ps_par (i := 0) (j := 1) (by rfl) sc_common.nd rfl rfl (by decide) rfl rfl (pa_cons (pv 1) (pa_cons (pe_op op_mod (pv 0) (pv 1)) pa_nil)) (by rfl))))
      (pss_one (ps_ret (pv 0)))), ?_⟩
    refine ⟨fun m σ H' => ∃ x : Nat, σ = [some (.int x), some (.int (m : Int))] ∧ H' = H ∧ Nat.gcd x m = Nat.gcd a b, ⟨b, a, rfl, rfl, rfl⟩, ?_⟩
    rintro m σ H' ⟨x, rfl, rfl, hg⟩
    refine ⟨_, rfl, rfl, _, rfl, ?_⟩
    by_cases hm : m = 0
    · subst hm
      refine iteNS rfl ?_
      refine ⟨_, rfl, ?_⟩
      rw [Nat.gcd_zero_right] at hg
      rw [hg]
      exact q
    · rw [decide_eq_false (fun z => hm (by have := V.int.inj z; omega))]
      refine ⟨fun σ' H'' => ∃ x' : Nat, σ' = [some (.int x'), some (.int ((x % m : Nat) : Int))] ∧ H'' = H' ∧ Nat.gcd x' (x % m) = Nat.gcd a b, fun σ' H'' h => ⟨x % m, Nat.mod_lt _ (by omega), h⟩, ?_⟩
      refine ⟨_, rfl, _, rfl, _, rfl, _, _, rfl, rfl, (by omega), _, _, rfl, ?_⟩
      exact ⟨m, rfl, rfl, (gcd_turn x m).trans hg⟩
end

/-! ### rules of my own: a value in an f-string, a def read off its class -/
section
open PySem.Spec PyProof.Rows
variable {X : Cx}
def tFmtV (te : TE) : TE := fun σ H Q => te σ H fun x H1 => (∃ i : Int, x = .int i ∧ i.natAbs.log2 < 1920 ∧ Q (.str (toString i)) H1) ∨ (∃ b : Bool, x = .bl b ∧ Q (.str (if b then "True" else "False")) H1)
theorem pe_fmtV {e : Expr} {te : TE} {pos : Pos} (he : PE X e te) : PE X (.FormattedValue e (-1) none pos) (tFmtV te) := by
  refine ⟨fun pins s σ H Q I h => ?_⟩
  refine wpAny_FormattedValue_plain (thn (he.run pins s σ H _ I h) fun v s1 hv => ?_)
  obtain ⟨x, H1, I1, r1, q⟩ := hv
  rcases q with ⟨i, rfl, hz, q⟩ | ⟨b, rfl, q⟩
  · obtain ⟨t, rfl⟩ := r1
    exact wpAny_formatField_int hz ⟨.str (toString i), H1, I1.tok _, ⟨_, rfl⟩, q⟩
  · cases (show v = Value.bool b from r1)
    exact wpAny_formatField_bool ⟨.str (if b then "True" else "False"), H1, I1.tok _, ⟨_, rfl⟩, q⟩
/-- what the written part says of a class's own def, read off the class -/
structure ClsFn (K : PySem.W.Frag) (C : Addr) (m : Str) (f : Addr) : Prop where
  sp : PySem.W.specialIn K (.ref C) "__getattribute__" = some (some (.builtin "type.__getattribute__"))
  rd : PySem.W.readsIn K C (.type "type") = true
  fc : PySem.W.findCls K (.ref C) (.type "type") m = some (.val (.ref f))
  kp : PySem.W.keepIn K (.ref f) = true
theorem pe_clsfn {CX : CXT} {k : Nat} {f C : Addr} {fd : FuncData} {ps : List Str} {sp : Sp} {E : XK} {x m : Str} {p1 p2 pos : Pos} {e : Expr} {es : List Expr} {t : TA} {pl : Sem Bool} (hg : Gl X x) (hm : X.mg x = some (.ref C)) (T : ClsFn X.K C m f)
    (F : FnOk X.prog X.w X.K X.mg X.base CX k f fd ps sp) (hr : Room k X.A) (hb : Binds X.K fd ps []) (hx : Passes CX X E) (ha : PA X (e :: es) t)
    (hc : eval (.Call (.Attribute (.Name x p1) m p2) (e :: es) [] pos) X.env = (do
      let ov ← eval (.Name x p1) X.env
      standAt p2.atName
      let (f, first) ← holding [ov] (getMethod ov m pl)
      callWith pos f first (backTo pos (starEach (e :: es) X.env)) (backToKw pos (keywordEach [] X.env))) := by rfl)
    (hdb : (x == ("__debug__" : Str)) = false := by decide) (he : starEach (e :: es) X.env = (false, eval e X.env) :: starEach es X.env := by rfl) (hpl : (backTo pos (starEach es X.env)).any (·.1) = false := by rfl) :
    PE X (.Call (.Attribute (.Name x p1) m p2) (e :: es) [] pos) (tCall sp [] E t) := by
  refine ⟨fun pins s σ H Q I h => ?_⟩
  refine PySem.W.methodCall_KW (ld_glob I hg hm ?_ hdb) hc
  refine PySem.W.method_cls I.kIn T.sp (PySem.W.cls_value I.kIn T.rd T.fc rfl ?_)
  show wpAny _ _ (callWith pos (Value.ref f) [] (backTo pos (starEach (e :: es) X.env)) []) _ _ _
  refine PySem.W.callWith_K (h₀ := X.base) I.ok.mod.kin T.kp (thn (ha.run pos pins _ σ H _ (I.tok _) h) fun us s1 ⟨vs, H1, I1, r, q⟩ => ⟨I1.kIn, ?_⟩) he hpl
  exact run_fn F hr hb (.nil) hx I1 r q
end

/-! ### FarError.__init__ -/
def FV (x : V) : Prop := (∃ i : Int, x = .int i ∧ i.natAbs.log2 < 1920) ∨ ∃ b : Bool, x = .bl b
theorem FV.go {x : V} {H : Hp} {Q : V → Hp → Prop} (h : FV x) (q : ∀ y : Str, y.length ≤ 1921 → Q (.str y) H) : (∃ i : Int, x = .int i ∧ i.natAbs.log2 < 1920 ∧ Q (.str (toString i)) H) ∨ (∃ b : Bool, x = .bl b ∧ Q (.str (if b then "True" else "False")) H) := by
  rcases h with ⟨i, e, hi⟩ | ⟨b, e⟩
  · exact .inl ⟨i, e, hi, q _ (PyProof.Rows.int_text_len_1921 hi)⟩
  · exact .inr ⟨b, e, q _ (by cases b <;> decide +kernel)⟩
theorem fmtV_at {i : Nat} {x : V} {σ : L2.St} {H : Hp} {Q : VK} (hs : σ[i]? = some (some x)) (h : FV x) (q : ∀ y : Str, y.length ≤ 1921 → Q (.str y) H) : tFmtV (tVar i) σ H Q := ⟨x, hs, FV.go (Q := Q) h q⟩
theorem app_fits {a b : Str} {n m : Nat} (ha : a.length ≤ n) (hb : b.length ≤ m) : (a ++ b).length ≤ n + m := by
  rw [Str.length_append]
  omega
theorem fits_of {a : Str} {n : Nat} (ha : a.length ≤ n) (h : n ≤ 100000) : a.length ≤ sizeLine := Nat.le_trans ha (Nat.le_trans h (by decide))
abbrev s_farinit : Stmt := inClass (top 2) 0
abbrev N_farinit : List Str := ["self", "why"]
theorem sc_farinit : FnScope N_farinit N_farinit (defScope s_farinit) := ⟨rfl, rfl, rfl, by decide +kernel, rfl, by decide +kernel, by decide +kernel⟩
def spFarInit (K : PySem.W.Frag) : Sp := fun vs H Q _ => ∃ (a C : Addr) (y : Str), vs = [.ref a, .str y] ∧ OexC K C ∧ PySem.W.findIn K (.ref C) "word" = some none ∧ H a = some (exo a C none) ∧
  ∀ dx, H dx = none → dx ≠ a → Q .non (upd (upd H dx (exd dx [("word", .str "FarError")])) a (exo a C (some dx)))
section
variable {P : Program} {w : World} {K : PySem.W.Frag} {mg : Str → Option Value} {base : Heap}
theorem ok_farinit {f : Addr} {fd : FuncData} (F : FunD K "__init__" "FarError.__init__" (defArgs s_farinit) (defBody s_farinit) (defScope s_farinit) [.str ""] [] f fd) (mV : mg "ValueError" = none)
    (vV : PySem.W.findCls K (.type "ValueError") (.type "type") "__init__" = some (.val (.builtin "ValueError.__init__"))) : FnOk P w K mg base CX0 1 f fd N_farinit (spFarInit K) := by
  refine F.ok sc_farinit (fun vs H Q E h => ?_) (fun cdv A outer s H vs Q E hr h => ?_)
  · obtain ⟨a, C, y, rfl, _⟩ := h
    rfl
  · obtain ⟨a, C, y, rfl, T, hw, ha, q⟩ := h
    refine ⟨_, pss_cons (ps_expr (pe_veinit (by rfl) mV vV (pa_cons (pv 0) (pa_cons (pv 1) pa_nil)))) (pss_one (ps_ost (pv 0) pe_str)), ?_⟩
    refine ⟨.ref a, rfl, .str y, rfl, a, C, [.str y], rfl, by show 1 ≤ 1000; decide, T, ha, ?_⟩
    exact ⟨.ref a, rfl, a, C, rfl, T, hw, .inl ⟨ha, fun dx n ne => q dx n ne⟩⟩
end
/-! ### an own error's __init__ of one field -/
/-- what the written part says of an error's class -/
structure ErrT (K : PySem.W.Frag) (C : Addr) : Prop where
  o : OexC K C
  w : PySem.W.findIn K (.ref C) "word" = some none

/-! ### ints and bools -/
def IB (x : V) : Prop := (∃ i : Int, x = .int i ∧ i.natAbs < 2 ^ 200) ∨ ∃ b : Bool, x = .bl b
theorem IB.fv {x : V} (h : IB x) : FV x := by
  rcases h with ⟨i, e, hi⟩ | ⟨b, e⟩
  · exact .inl ⟨i, e, Nat.lt_of_lt_of_le (PySem.Flt.log2_lt_of (by decide) hi) (by decide)⟩
  · exact .inr ⟨b, e⟩
def isB : V → Bool
  | .bl _ => true
  | _ => false
theorem IB.ty {K : PySem.W.Frag} {H : Hp} {x : V} (h : IB x) : ∃ t, TyX K H x t ∧ PySem.W.kitOne K t (.type "bool") = some (isB x) := by
  rcases h with ⟨i, rfl, hi⟩ | ⟨b, rfl⟩
  · exact ⟨_, TyX.base (TyOf.int _), kit_ty (r := false) (by decide +kernel)⟩
  · exact ⟨_, TyX.base (TyOf.bl _), kit_ty (r := true) (by decide +kernel)⟩
theorem IB.int {i : Int} (h : i.natAbs < 2 ^ 200) : IB (.int i) := .inl ⟨i, rfl, h⟩
section
open PySem.Spec PyProof.Rows
def rSubV : R2 := fun x y H Q => ∃ i : Int, x = .int i ∧ ((∃ j : Int, y = .int j ∧ Q (.int (i - j)) H) ∨ ∃ b : Bool, y = .bl b ∧ Q (.int (i - b2i b)) H)
theorem op_subV {X : Cx} : OpR X (binaryOp .Sub) rSubV := by
  intro pins s σ H x y v u Q I rx ry h
  obtain ⟨i, rfl, ⟨j, rfl, q⟩ | ⟨b, rfl, q⟩⟩ := h
  · exact op_sub pins s σ H _ _ v u Q I rx ry ⟨i, j, rfl, rfl, q⟩
  · obtain ⟨t, rfl⟩ := rx
    cases (show u = Value.bool b from ry)
    exact IntBool.sub_int_bool ⟨.int (i - b2i b), H, I.tok _, ⟨_, rfl⟩, q⟩
end

abbrev s_bninit : Stmt := inClass (top 3) 0
abbrev N_bninit : List Str := ["self", "number"]
theorem sc_bninit : FnScope N_bninit N_bninit (defScope s_bninit) := ⟨rfl, rfl, rfl, by decide +kernel, rfl, by decide +kernel, by decide +kernel⟩
def bnF (n : V) : List (Str × V) := [("word", .str "BadNumber"), ("number", n), ("word", .str "FarError")]
def spBnInit (K : PySem.W.Frag) : Sp := fun vs H Q _ => ∃ (a C : Addr) (n : V), vs = [.ref a, n] ∧ FV n ∧ ErrT K C ∧ PySem.W.findIn K (.ref C) "number" = some none ∧ H a = some (exo a C none) ∧
  ∀ (H' : Hp) (dx : Addr), H dx = none → H' a = some (exo a C (some dx)) → H' dx = some (exd dx (bnF n)) → (∀ b o, b ≠ a → H b = some o → H' b = some o) → Q .non H'
section
variable {P : Program} {w : World} {K : PySem.W.Frag} {mg : Str → Option Value} {base : Heap}
theorem ok_bninit {f fF CF : Addr} {fd fdF : FuncData} (F : Fun K "__init__" "BadNumber.__init__" s_bninit f fd) (gF : mg "FarError" = some (.ref CF)) (TF : ClsFn K CF "__init__" fF) (bF : Binds K fdF N_farinit [])
    (GF : FnOk P w K mg base CX0 1 fF fdF N_farinit (spFarInit K)) : FnOk P w K mg base CX0 2 f fd N_bninit (spBnInit K) := by
  refine F.ok sc_bninit (fun vs H Q E h => ?_) (fun cdv A outer s H vs Q E hr h => ?_)
  · obtain ⟨a, C, n, rfl, _⟩ := h
    rfl
  · obtain ⟨a, C, n, rfl, hn, T, hno, ha, q⟩ := h
    refine ⟨_, pss_cons (ps_expr (pe_clsfn (by rfl) gF TF GF hr bF pass0 (pa_cons (pv 0) (pa_cons (pe_joined (.cons pe_str (.cons (pe_fmtV (pv 1)) .nil))) pa_nil))))
      (pss_cons (ps_ost (pv 0) (pv 1)) (pss_one (ps_ost (pv 0) pe_str))), ?_⟩
    refine ⟨.ref a, rfl, _, rfl, fits_of (n := 100) (by decide +kernel) (by decide), ?_⟩
    refine fmtV_at (i := 1) rfl hn fun y hy => ?_
    refine ⟨y, rfl, fits_of (app_fits (n := 100) (by decide +kernel) hy) (by decide), ?_⟩
    refine ⟨a, C, _, rfl, T.o, T.w, ha, fun dx ndx ne => ?_⟩
    have e1 : (upd (upd H dx (exd dx [("word", .str "FarError")])) a (exo a C (some dx))) a = some (exo a C (some dx)) := upd_same
    have e2 : (upd (upd H dx (exd dx [("word", .str "FarError")])) a (exo a C (some dx))) dx = some (exd dx [("word", .str "FarError")]) := by rw [upd_ne ne, upd_same]
    refine ⟨n, rfl, .ref a, rfl, a, C, rfl, T.o, hno, .inr ⟨dx, _, e1, e2, by show 1 ≤ 900; decide, ?_⟩⟩
    refine ⟨.ref a, rfl, a, C, rfl, T.o, T.w, .inr ⟨dx, _, by rw [upd_ne ne.symm]; exact e1, upd_same, by show 2 ≤ 900; decide, ?_⟩⟩
    refine q _ dx ndx (by rw [upd_ne ne.symm, upd_ne ne.symm]; exact e1) upd_same fun b o nb hb => ?_
    have nbd : b ≠ dx := ne_of_none hb ndx
    rw [upd_ne nbd, upd_ne nbd, upd_ne nb, upd_ne nbd]
    exact hb
end

/-! ### own errors in general, and without a law that asks why -/
structure ErT (K : PySem.W.Frag) (mg : Str → Option Value) (CF C fI : Addr) (fdI : FuncData) (word : Str) (N : List Str) : Prop where
  gF : mg "FarError" = some (.ref CF)
  gC : mg word = some (.ref C)
  e : ErrT K C
  x : XfC K C
  c : ExcC K C
  iC : PySem.W.findIn K (.ref C) "__init__" = some (some (.ref fI))
  tI : PySem.W.typeIn K (.ref fI) = some (.type "function")
  bI : Binds K fdI N []
  m : PySem.W.exmOne K (.ref C) (.ref CF) = some true
abbrev Fds := List (Str × V)
section
open PySem.Spec PyProof.Rows
theorem takes_len {X : Cx} {W : WX} (tk : L2.Takes X W) : L2.Takes X (fun cls d σ H => σ.length = X.N.length → W cls d σ H) := fun u s' ⟨a, B, sI, pins, σ, H, cls, d, e, I, nb, up, sky, na, os, ag, w⟩ =>
  tk u s' ⟨a, B, sI, pins, σ, H, cls, d, e, I, nb, up, sky, na, os, ag, w I.len⟩
theorem pss_of {X : Cx} {sts : List Stmt} {t' : TS} (h : ∀ D σ H, t' D σ H → ∃ t, PSs X sts t ∧ t D σ H) : PSs X sts t' := ⟨fun pins s σ H D I ht => by
  obtain ⟨t, h1, h2⟩ := h D σ H ht
  exact h1.run pins s σ H D I h2⟩
end

/-! ### step_of, end_of, is_leader, is_repeat -/
abbrev s_step_of : Stmt := top 24
abbrev N_step_of : List Str := ["mating"]
abbrev P_step_of : List Str := ["mating"]
theorem sc_step_of : FnScope N_step_of P_step_of (defScope s_step_of) := ⟨rfl, rfl, rfl, by decide +kernel, rfl, by decide +kernel, by decide +kernel⟩
abbrev s_end_of : Stmt := top 25
abbrev N_end_of : List Str := ["mating"]
abbrev P_end_of : List Str := ["mating"]
theorem sc_end_of : FnScope N_end_of P_end_of (defScope s_end_of) := ⟨rfl, rfl, rfl, by decide +kernel, rfl, by decide +kernel, by decide +kernel⟩
abbrev s_is_leader : Stmt := top 26
abbrev N_is_leader : List Str := ["mating"]
abbrev P_is_leader : List Str := ["mating"]
theorem sc_is_leader : FnScope N_is_leader P_is_leader (defScope s_is_leader) := ⟨rfl, rfl, rfl, by decide +kernel, rfl, by decide +kernel, by decide +kernel⟩
abbrev s_is_repeat : Stmt := top 27
abbrev N_is_repeat : List Str := ["mating"]
abbrev P_is_repeat : List Str := ["mating"]
theorem sc_is_repeat : FnScope N_is_repeat P_is_repeat (defScope s_is_repeat) := ⟨rfl, rfl, rfl, by decide +kernel, rfl, by decide +kernel, by decide +kernel⟩
def isLead (o p m f : Int) : Bool := if f = 1 then decide (m ≤ p - o) else decide (1 ≤ p - o)
def isRep (o p m f : Int) : Bool := decide (f = 0 ∧ 1 ≤ p - o ∧ p - o ≤ m)
def spStep : Sp := fun vs H Q _ => ∃ (t : Addr) (o p m f : Int), vs = [.ref t] ∧ H t = some (tup4 o p m f) ∧ Q (.int (p - o)) H
def spEnd : Sp := fun vs H Q _ => ∃ (t : Addr) (o p m f : Int), vs = [.ref t] ∧ H t = some (tup4 o p m f) ∧ Q (.int (p + m)) H
def spLead : Sp := fun vs H Q _ => ∃ (t : Addr) (o p m f : Int), vs = [.ref t] ∧ H t = some (tup4 o p m f) ∧ Q (.bl (isLead o p m f)) H
def spRep : Sp := fun vs H Q _ => ∃ (t : Addr) (o p m f : Int), vs = [.ref t] ∧ H t = some (tup4 o p m f) ∧ Q (.bl (isRep o p m f)) H
section
variable {P : Program} {w : World} {K : PySem.W.Frag} {mg : Str → Option Value} {base : Heap}
theorem ok_step {f : Addr} {fd : FuncData} (D : DefAt K mg "step_of" s_step_of P_step_of f fd) : FnOk P w K mg base CX0 1 f fd P_step_of spStep := by
  refine D.F.ok sc_step_of (fun vs H Q E h => ?_) (fun cdv A outer s H vs Q E hr h => ?_)
  · obtain ⟨t, o, p, m, f, rfl, _⟩ := h
    rfl
  · obtain ⟨t, o, p, m, f, rfl, ht, q⟩ := h
    refine ⟨_, (pss_one (ps_ret (pe_op op_sub (pe_ix ix_tup (pv 0) pe_int (fun _ _ => rfl)) (pe_ix ix_tup (pv 0) pe_int (fun _ _ => rfl))))), ?_⟩
    exact ⟨.ref t, rfl, t, _, 1, .int p, rfl, rfl, SqT.of ht, at4_1, .ref t, rfl, t, _, 0, .int o, rfl, rfl, SqT.of ht, at4_0, p, o, rfl, rfl, q⟩
theorem ok_end {f : Addr} {fd : FuncData} (D : DefAt K mg "end_of" s_end_of P_end_of f fd) : FnOk P w K mg base CX0 1 f fd P_end_of spEnd := by
  refine D.F.ok sc_end_of (fun vs H Q E h => ?_) (fun cdv A outer s H vs Q E hr h => ?_)
  · obtain ⟨t, o, p, m, f, rfl, _⟩ := h
    rfl
  · obtain ⟨t, o, p, m, f, rfl, ht, q⟩ := h
    refine ⟨_, (pss_one (ps_ret (pe_op op_add (pe_ix ix_tup (pv 0) pe_int (fun _ _ => rfl)) (pe_ix ix_tup (pv 0) pe_int (fun _ _ => rfl))))), ?_⟩
    exact ⟨.ref t, rfl, t, _, 1, .int p, rfl, rfl, SqT.of ht, at4_1, .ref t, rfl, t, _, 2, .int m, rfl, rfl, SqT.of ht, at4_2, p, m, rfl, rfl, q⟩
theorem ok_lead {f fS : Addr} {fd fdS : FuncData} (D : DefAt K mg "is_leader" s_is_leader P_is_leader f fd) (D_step_of : DefAt K mg "step_of" s_step_of P_step_of fS fdS) : FnOk P w K mg base CX0 2 f fd P_is_leader spLead := by
  have G_step_of : FnOk P w K mg base CX0 1 fS fdS P_step_of spStep := ok_step D_step_of
  refine D.F.ok sc_is_leader (fun vs H Q E h => ?_) (fun cdv A outer s H vs Q E hr h => ?_)
  · obtain ⟨t, o, p, m, f, rfl, _⟩ := h
    rfl
  · obtain ⟨t, o, p, m, f, rfl, ht, q⟩ := h
    refine ⟨_, (pss_cons (ps_if (pt_cmpR op_eq (pe_ix ix_tup (pv 0) pe_int (fun _ _ => rfl)) pe_int (nomark _)) (pss_one (ps_ret (pe_cmpR op_ge (pe_call G_step_of (hr.mono (by omega)) (by rfl) D_step_of.g D_step_of.F.kp D_step_of.b .nil pass0 (pa_cons (pv 0) pa_nil)) (pe_ix ix_tup (pv 0) pe_int (fun _ _ => rfl)) (nomark _)))) pss_nil)
      (pss_one (ps_ret (pe_cmpR op_ge (pe_call G_step_of (hr.mono (by omega)) (by rfl) D_step_of.g D_step_of.F.kp D_step_of.b .nil pass0 (pa_cons (pv 0) pa_nil)) pe_int (nomark _))))), ?_⟩
    refine ⟨.ref t, rfl, t, _, 3, .int f, rfl, rfl, SqT.of ht, at4_3, rfl, _, rfl, ?_⟩
    refine ite2 (fun h => ?_) (fun h => ?_)
    · have hf : f = 1 := V.int.inj (of_decide_eq_true h)
      unfold isLead at q
      rw [if_pos hf] at q
      exact ⟨.ref t, rfl, t, o, p, m, f, rfl, ht, .ref t, rfl, t, _, 2, .int m, rfl, rfl, SqT.of ht, at4_2, _, _, rfl, rfl, q⟩
    · have hf : ¬ f = 1 := fun z => h (decide_eq_true (congrArg V.int z))
      unfold isLead at q
      rw [if_neg hf] at q
      exact ⟨.ref t, rfl, t, o, p, m, f, rfl, ht, _, _, rfl, rfl, q⟩
theorem ok_rep {f fS : Addr} {fd fdS : FuncData} (D : DefAt K mg "is_repeat" s_is_repeat P_is_repeat f fd) (D_step_of : DefAt K mg "step_of" s_step_of P_step_of fS fdS) : FnOk P w K mg base CX0 2 f fd P_is_repeat spRep := by
  have G_step_of : FnOk P w K mg base CX0 1 fS fdS P_step_of spStep := ok_step D_step_of
  refine D.F.ok sc_is_repeat (fun vs H Q E h => ?_) (fun cdv A outer s H vs Q E hr h => ?_)
  · obtain ⟨t, o, p, m, f, rfl, _⟩ := h
    rfl
  · obtain ⟨t, o, p, m, f, rfl, ht, q⟩ := h
    refine ⟨_, (pss_one (ps_ret (pe_and (pe_cmpR op_eq (pe_ix ix_tup (pv 0) pe_int (fun _ _ => rfl)) pe_int (nomark _)) (pe_one (pe_chain op_le op_le pe_int (pe_call G_step_of (hr.mono (by omega)) (by rfl) D_step_of.g D_step_of.F.kp D_step_of.b .nil pass0 (pa_cons (pv 0) pa_nil)) (pe_ix ix_tup (pv 0) pe_int (fun _ _ => rfl))))))), ?_⟩
    refine ⟨.ref t, rfl, t, _, 3, .int f, rfl, rfl, SqT.of ht, at4_3, rfl, _, rfl, ?_⟩
    unfold isRep at q
    refine ite2 (fun h => ?_) (fun h => ?_)
    · have hf : f = 0 := V.int.inj (of_decide_eq_true h)
      refine ⟨.ref t, rfl, t, o, p, m, f, rfl, ht, _, _, rfl, rfl, _, rfl, ?_⟩
      refine ite2 (fun h2 => ?_) (fun h2 => ?_)
      · have h2' : 1 ≤ p - o := of_decide_eq_true h2
        refine ⟨.ref t, rfl, t, _, 2, .int m, rfl, rfl, SqT.of ht, at4_2, _, _, rfl, rfl, ?_⟩
        rw [decide_eq_decide.mpr (show (f = 0 ∧ 1 ≤ p - o ∧ p - o ≤ m) ↔ p - o ≤ m from ⟨fun z => z.2.2, fun z => ⟨hf, h2', z⟩⟩)] at q
        exact q
      · rw [decide_eq_false (fun z => h2 (decide_eq_true z.2.1))] at q
        exact q
    · rw [decide_eq_false (fun z => h (decide_eq_true (congrArg V.int z.1)))] at q
      exact q
end
/-! ### halved, merged -/
abbrev s_halved : Stmt := top 28
abbrev N_halved : List Str := ["mating", "one", "other", "many", "turned", "half"]
abbrev P_halved : List Str := ["mating"]
theorem sc_halved : FnScope N_halved P_halved (defScope s_halved) := ⟨rfl, rfl, rfl, by decide +kernel, rfl, by decide +kernel, by decide +kernel⟩
abbrev s_merged : Stmt := top 29
abbrev N_merged : List Str := ["first", "second", "shared", "begin", "end", "step"]
abbrev P_merged : List Str := ["first", "second"]
theorem sc_merged : FnScope N_merged P_merged (defScope s_merged) := ⟨rfl, rfl, rfl, by decide +kernel, rfl, by decide +kernel, by decide +kernel⟩
def hlf (o p m : Int) : Int := (p + m - o) / 2
def spHalved : Sp := fun vs H Q _ => ∃ (t : Addr) (o p m f : Int), vs = [.ref t] ∧ H t = some (tup4 o p m f) ∧ (hlf o p m = 0 → Q .non H) ∧ (hlf o p m ≠ 0 → ∀ r, H r = none → Q (.ref r) (upd H r (tup4 o (p + m - hlf o p m) (hlf o p m) f)))
def imin (a b : Int) : Int := if b < a then b else a
def imax (a b : Int) : Int := if b > a then b else a
def shr (o p m o' p' m' : Int) : Int := imin (p + m) (p' + m') - imax o o'
def spMerged : Sp := fun vs H Q _ => ∃ (t t' : Addr) (o p m f o' p' m' f' : Int), vs = [.ref t, .ref t'] ∧ H t = some (tup4 o p m f) ∧ H t' = some (tup4 o' p' m' f') ∧
  (¬ (isRep o p m f = true ∧ isRep o' p' m' f' = true ∧ p - o + (p' - o') ≤ shr o p m o' p' m') → Q .non H) ∧
  (isRep o p m f = true → isRep o' p' m' f' = true → p - o + (p' - o') ≤ shr o p m o' p' m' → ∀ r, H r = none →
    Q (.ref r) (upd H r (tup4 (imin o o') (imin o o' + (Nat.gcd (p - o).toNat (p' - o').toNat : Nat)) (imax (p + m) (p' + m') - imin o o' - (Nat.gcd (p - o).toNat (p' - o').toNat : Nat)) 0)))
section
variable {P : Program} {w : World} {K : PySem.W.Frag} {mg : Str → Option Value} {base : Heap}
theorem ok_halved {f : Addr} {fd : FuncData} (D : DefAt K mg "halved" s_halved P_halved f fd) : FnOk P w K mg base CX0 1 f fd P_halved spHalved := by
  refine D.F.ok sc_halved (fun vs H Q E h => ?_) (fun cdv A outer s H vs Q E hr h => ?_)
  · obtain ⟨t, o, p, m, f, rfl, _⟩ := h
    rfl
  · obtain ⟨t, o, p, m, f, rfl, ht, q1, q2⟩ := h
    refine ⟨_, (pss_cons (ps_asg (pv 0) (pg_tup (by rfl) (pgs_cons (pg_name (i := 1) sc_halved.nd rfl (.inl rfl)) (pgs_cons (pg_name (i := 2) sc_halved.nd rfl (.inl rfl)) (pgs_cons (pg_name (i := 3) sc_halved.nd rfl (.inl rfl)) (pgs_cons (pg_name (i := 4) sc_halved.nd rfl (.inl rfl)) pgs_nil))))))
      (pss_cons (ps_set (i := 5) sc_halved.nd rfl (.inl rfl) (pe_op op_fdivW (pe_op op_sub (pe_op op_add (pv 2) (pv 3)) (pv 1)) pe_int))
      (pss_cons (ps_if (pt_cmpR op_eq (pv 5) pe_int (nomark _)) (pss_one (ps_ret pe_non)) pss_nil)
      (pss_one (ps_ret (pe_tup (pa_cons (pv 1) (pa_cons (pe_op op_sub (pe_op op_add (pv 2) (pv 3)) (pv 5)) (pa_cons (pv 5) (pa_cons (pv 4) pa_nil)))))))))), ?_⟩
    refine ⟨.ref t, rfl, t, _, rfl, SqT.of ht, rfl, .int o, _, rfl, .int p, _, rfl, .int m, _, rfl, .int f, _, rfl, rfl, ?_⟩
    refine ⟨.int p, rfl, .int m, rfl, p, m, rfl, rfl, .int o, rfl, _, _, rfl, rfl, _, 2, rfl, rfl, wide_div (b := 10) (by decide) (by decide) (by decide) (by decide), ?_⟩
    refine ⟨.int _, rfl, rfl, _, rfl, ?_⟩
    refine ite2 (fun h => ?_) (fun h => ?_)
    · exact q1 (V.int.inj (of_decide_eq_true h))
    · refine ⟨.int o, rfl, .int p, rfl, .int m, rfl, p, m, rfl, rfl, .int _, rfl, _, _, rfl, rfl, .int _, rfl, .int f, rfl, by show 4 ≤ sizeLine; decide, fun r nr => ?_⟩
      exact q2 (fun z => h (decide_eq_true (congrArg V.int z))) r nr
theorem ok_merged {f fS fE fR fC : Addr} {fd fdS fdE fdR fdC : FuncData} (D : DefAt K mg "merged" s_merged P_merged f fd) (D_step_of : DefAt K mg "step_of" s_step_of P_step_of fS fdS) (D_end_of : DefAt K mg "end_of" s_end_of P_end_of fE fdE) (D_is_repeat : DefAt K mg "is_repeat" s_is_repeat P_is_repeat fR fdR)
    (D_common : DefAt K mg "common" s_common P_common fC fdC) (B : Bn mg) : FnOk P w K mg base CX0 3 f fd P_merged spMerged := by
  have G_step_of : FnOk P w K mg base CX0 1 fS fdS P_step_of spStep := ok_step D_step_of
  have G_end_of : FnOk P w K mg base CX0 1 fE fdE P_end_of spEnd := ok_end D_end_of
  have G_is_repeat : FnOk P w K mg base CX0 2 fR fdR P_is_repeat spRep := ok_rep D_is_repeat D_step_of
  have G_common : FnOk P w K mg base CX0 1 fC fdC P_common spCommon := ok_common D_common B
  refine D.F.ok sc_merged (fun vs H Q E h => ?_) (fun cdv A outer s H vs Q E hr h => ?_)
  · obtain ⟨t, t', o, p, m, f, o', p', m', f', rfl, _⟩ := h
    rfl
  · obtain ⟨t, t', o, p, m, f, o', p', m', f', rfl, ht, ht', q1, q2⟩ := h
    refine ⟨_, (pss_cons (ps_if (PW.pt (pw_or (pt_not (pt_val (pe_call G_is_repeat (hr.mono (by omega)) (by rfl) D_is_repeat.g D_is_repeat.F.kp D_is_repeat.b .nil pass0 (pa_cons (pv 0) pa_nil)))) (pw_or1 (pt_not (pt_val (pe_call G_is_repeat (hr.mono (by omega)) (by rfl) D_is_repeat.g D_is_repeat.F.kp D_is_repeat.b .nil pass0 (pa_cons (pv 1) pa_nil))))))) (pss_one (ps_ret pe_non)) pss_nil)
      (pss_cons (ps_set (i := 2) sc_merged.nd rfl (.inl rfl) (pe_op op_sub (pe_callB (call_min2 rfl) (by rfl) B.min (by decide +kernel) (pa_cons (pe_call G_end_of (hr.mono (by omega)) (by rfl) D_end_of.g D_end_of.F.kp D_end_of.b .nil pass0 (pa_cons (pv 0) pa_nil)) (pa_cons (pe_call G_end_of (hr.mono (by omega)) (by rfl) D_end_of.g D_end_of.F.kp D_end_of.b .nil pass0 (pa_cons (pv 1) pa_nil)) pa_nil))) (pe_callB (call_max2 rfl) (by rfl) B.max (by decide +kernel) (pa_cons (pe_ix ix_tup (pv 0) pe_int (fun _ _ => rfl)) (pa_cons (pe_ix ix_tup (pv 1) pe_int (fun _ _ => rfl)) pa_nil)))))
      (pss_cons (ps_if (pt_cmpR op_lt (pv 2) (pe_op op_add (pe_call G_step_of (hr.mono (by omega)) (by rfl) D_step_of.g D_step_of.F.kp D_step_of.b .nil pass0 (pa_cons (pv 0) pa_nil)) (pe_call G_step_of (hr.mono (by omega)) (by rfl) D_step_of.g D_step_of.F.kp D_step_of.b .nil pass0 (pa_cons (pv 1) pa_nil))) (nomark _)) (pss_one (ps_ret pe_non)) pss_nil)
      (pss_cons (ps_set (i := 3) sc_merged.nd rfl (.inl rfl) (pe_callB (call_min2 rfl) (by rfl) B.min (by decide +kernel) (pa_cons (pe_ix ix_tup (pv 0) pe_int (fun _ _ => rfl)) (pa_cons (pe_ix ix_tup (pv 1) pe_int (fun _ _ => rfl)) pa_nil))))
      (pss_cons (ps_set (i := 4) sc_merged.nd rfl (.inl rfl) (pe_callB (call_max2 rfl) (by rfl) B.max (by decide +kernel) (pa_cons (pe_call G_end_of (hr.mono (by omega)) (by rfl) D_end_of.g D_end_of.F.kp D_end_of.b .nil pass0 (pa_cons (pv 0) pa_nil)) (pa_cons (pe_call G_end_of (hr.mono (by omega)) (by rfl) D_end_of.g D_end_of.F.kp D_end_of.b .nil pass0 (pa_cons (pv 1) pa_nil)) pa_nil))))
      (pss_cons (ps_set (i := 5) sc_merged.nd rfl (.inl rfl) (pe_call G_common (hr.mono (by omega)) (by rfl) D_common.g D_common.F.kp D_common.b .nil pass0 (pa_cons (pe_call G_step_of (hr.mono (by omega)) (by rfl) D_step_of.g D_step_of.F.kp D_step_of.b .nil pass0 (pa_cons (pv 0) pa_nil)) (pa_cons (pe_call G_step_of (hr.mono (by omega)) (by rfl) D_step_of.g D_step_of.F.kp D_step_of.b .nil pass0 (pa_cons (pv 1) pa_nil)) pa_nil))))
      (pss_one (ps_ret (pe_tup (pa_cons (pv 3) (pa_cons (pe_op op_add (pv 3) (pv 5)) (pa_cons (pe_op op_sub (pe_op op_sub (pv 4) (pv 3)) (pv 5)) (pa_cons pe_int pa_nil))))))))))))), ?_⟩
    refine ⟨.ref t, rfl, t, o, p, m, f, rfl, ht, _, rfl, ?_⟩
    by_cases h1 : isRep o p m f = true
    · rw [h1]
      refine iteF ?_
      refine ⟨.ref t', rfl, t', o', p', m', f', rfl, ht', _, rfl, ?_⟩
      by_cases h2 : isRep o' p' m' f' = true
      · rw [h2]
        refine iteF ?_
        -- shared
        refine ⟨.ref t, rfl, t, o, p, m, f, rfl, ht, .ref t', rfl, t', o', p', m', f', rfl, ht', _, _, rfl, ?_⟩
        refine ⟨.ref t, rfl, t, _, 0, .int o, rfl, rfl, SqT.of ht, at4_0, .ref t', rfl, t', _, 0, .int o', rfl, rfl, SqT.of ht', at4_0, _, _, rfl, _, _, rfl, rfl, ?_⟩
        refine ⟨.int (shr o p m o' p' m'), rfl, .ref t, rfl, t, o, p, m, f, rfl, ht, .ref t', rfl, t', o', p', m', f', rfl, ht', _, _, rfl, rfl, _, _, rfl, rfl, _, rfl, ?_⟩
        refine ite2 (fun h => ?_) (fun h => ?_)
        · have h' : shr o p m o' p' m' < p - o + (p' - o') := of_decide_eq_true h
          exact q1 fun z => by omega
        · have h' : ¬ shr o p m o' p' m' < p - o + (p' - o') := fun z => h (decide_eq_true z)
          refine ⟨.ref t, rfl, t, _, 0, .int o, rfl, rfl, SqT.of ht, at4_0, .ref t', rfl, t', _, 0, .int o', rfl, rfl, SqT.of ht', at4_0, _, _, rfl, ?_⟩
          refine ⟨.ref t, rfl, t, o, p, m, f, rfl, ht, .ref t', rfl, t', o', p', m', f', rfl, ht', _, _, rfl, ?_⟩
          have r1 := of_decide_eq_true h1
          have r2 := of_decide_eq_true h2
          refine ⟨.ref t, rfl, t, o, p, m, f, rfl, ht, .ref t', rfl, t', o', p', m', f', rfl, ht', (p - o).toNat, (p' - o').toNat, ?_, ?_⟩
          · rw [Int.toNat_of_nonneg (by omega), Int.toNat_of_nonneg (by omega)]
            rfl
          · refine ⟨.int (imin o o'), rfl, .int (imin o o'), rfl, .int _, rfl, _, _, rfl, rfl, .int (imax (p + m) (p' + m')), rfl, .int (imin o o'), rfl, _, _, rfl, rfl, .int _, rfl, _, _, rfl, rfl, by show 4 ≤ sizeLine; decide, fun r nr => ?_⟩
            exact q2 h1 h2 (by omega) r nr
      · rw [Bool.eq_false_iff.mpr h2]
        exact iteT (q1 fun z => h2 z.2.1)
    · rw [Bool.eq_false_iff.mpr h1]
      exact iteT (q1 fun z => h1 z.1)
end

/-! ### a tuple of ints, truths and texts in an f-string -/
def MV (x : V) : Prop := FV x ∨ ∃ y : Str, x = .str y ∧ y.length ≤ 100 ∧ (∀ c ∈ y.cps.toList, c < 16 ^ 8) ∧ PyData.strOk y = true
section
open PySem.Spec PyProof.Rows
theorem repr_one {prog : Program} {w : World} {x : V} {u : Value} (h : MV x) (r : RelV x u) : ∃ t : Str, ReprIs prog w u t ∧ t.length ≤ 2000 := by
  rcases h with (⟨i, rfl, hi⟩ | ⟨b, rfl⟩) | ⟨y, rfl, hy, hc, _⟩
  · obtain ⟨t, rfl⟩ := r
    exact ⟨_, ReprIs.int t hi, Nat.le_trans (int_text_len_1921 hi) (by decide)⟩
  · cases (show u = Value.bool b from r)
    exact ⟨_, ReprIs.bool b, by cases b <;> decide +kernel⟩
  · obtain ⟨t, rfl⟩ := r
    have h1 := StrLaws.reprText_len y hc
    have h2 : (reprText y).length ≤ 2000 := by omega
    exact ⟨_, ReprIs.str y t (Nat.le_trans h2 (by decide)), h2⟩
theorem repr_allM {prog : Program} {w : World} : ∀ {xs : List V} {its : List Value}, Vals xs its → (∀ x ∈ xs, MV x) → ∃ ts : List Str, ReprAll prog w its ts ∧ piled ts ≤ xs.length * 2010
  | [], _, r, _ => by
    cases r
    exact ⟨[], .nil, Nat.zero_le _⟩
  | x :: l, _, r, h => by
    cases r with
    | cons r1 r2 =>
      obtain ⟨t, h1, h2⟩ := repr_one (prog := prog) (w := w) (h x List.mem_cons_self) r1
      obtain ⟨ts, h3, h4⟩ := repr_allM (prog := prog) (w := w) r2 fun y hy => h y (List.mem_cons_of_mem _ hy)
      refine ⟨t :: ts, .cons h1 h3, ?_⟩
      rw [piled_cons, List.length_cons]
      omega
def tFmtM (K : PySem.W.Frag) (te : TE) : TE := fun σ H Q => te σ H fun x H1 => ∃ (a : Addr) (xs : List V), x = .ref a ∧ SqT K H1 a xs ∧ (∀ y ∈ xs, MV y) ∧ xs.length ≤ 20 ∧ ∀ m : Str, m.length ≤ 50000 → Q (.str m) H1
theorem pe_fmtM {X : Cx} {e : Expr} {te : TE} {pos : Pos} {k : Nat} (hr : Room k X.A) (he : PE X e te) : PE X (.FormattedValue e (-1) none pos) (tFmtM X.K te) := by
  refine ⟨fun pins s σ H Q I h => ?_⟩
  refine wpAny_FormattedValue_plain (thn (he.run pins s σ H _ I h) fun v s1 hv => ?_)
  obtain ⟨x, H1, I1, r1, a, xs, rfl, ht, hc, hl, q⟩ := hv
  cases r1
  obtain ⟨its, rv, ⟨o, ho, hcl, n, hd⟩, _⟩ := I1.tuple ht
  obtain ⟨ts, h1, h2⟩ := repr_allM (prog := X.prog) (w := X.w) rv hc
  have htx := fmt_text ts
  have hz : (tupleText ts).length ≤ 45000 := by
    have : xs.length * 2010 ≤ 20 * 2010 := Nat.mul_le_mul_right _ hl
    omega
  have hu := hr.units
  exact fmt_tuple (ts := ts) (by omega) ho hcl hd h1 (Nat.le_trans hz (by decide)) fun m u tk hm => ⟨.str m, H1, I1.tok _, ⟨u, rfl⟩, q m (by omega)⟩
end
/-! ### BadMove -/
abbrev s_bminit : Stmt := inClass (top 6) 0
abbrev N_bminit : List Str := ["self", "move"]
theorem sc_bminit : FnScope N_bminit N_bminit (defScope s_bminit) := ⟨rfl, rfl, rfl, by decide +kernel, rfl, by decide +kernel, by decide +kernel⟩
def bmF (x : V) : Fds := [("word", .str "BadMove"), ("move", x), ("word", .str "FarError")]
def spBmInit (K : PySem.W.Frag) : Sp := fun vs H Q _ => ∃ (a C t : Addr) (xs : List V), vs = [.ref a, .ref t] ∧ H t = some (.tup xs) ∧ (∀ y ∈ xs, MV y) ∧ xs.length ≤ 20 ∧ ErrT K C ∧ PySem.W.findIn K (.ref C) "move" = some none ∧ H a = some (exo a C none) ∧
  ∀ (H' : Hp) (dx : Addr), H dx = none → H' a = some (exo a C (some dx)) → H' dx = some (exd dx (bmF (.ref t))) → (∀ b o, b ≠ a → H b = some o → H' b = some o) → Q .non H'
section
variable {P : Program} {w : World} {K : PySem.W.Frag} {mg : Str → Option Value} {base : Heap}
theorem ok_bminit {f fF CF : Addr} {fd fdF : FuncData} (F : Fun K "__init__" "BadMove.__init__" s_bminit f fd) (gF : mg "FarError" = some (.ref CF)) (TF : ClsFn K CF "__init__" fF) (bF : Binds K fdF N_farinit [])
    (GF : FnOk P w K mg base CX0 1 fF fdF N_farinit (spFarInit K)) : FnOk P w K mg base CX0 2 f fd N_bminit (spBmInit K) := by
  refine F.ok sc_bminit (fun vs H Q E h => ?_) (fun cdv A outer s H vs Q E hr h => ?_)
  · obtain ⟨a, C, t, xs, rfl, _⟩ := h
    rfl
  · obtain ⟨a, C, t, xs, rfl, ht, hx, hl, T, n1, ha, q⟩ := h
    refine ⟨_, pss_cons (ps_expr (pe_clsfn (by rfl) gF TF GF hr bF pass0 (pa_cons (pv 0) (pa_cons (pe_joined (.cons pe_str (.cons (pe_fmtM hr (pv 1)) .nil))) pa_nil))))
      (pss_cons (ps_ost (pv 0) (pv 1)) (pss_one (ps_ost (pv 0) pe_str))), ?_⟩
    refine ⟨.ref a, rfl, _, rfl, fits_of (n := 100) (by decide +kernel) (by decide), ?_⟩
    refine ⟨.ref t, rfl, t, xs, rfl, SqT.of ht, hx, hl, fun y hy => ?_⟩
    refine ⟨y, rfl, fits_of (app_fits (n := 100) (by decide +kernel) hy) (by decide), ?_⟩
    refine ⟨a, C, _, rfl, T.o, T.w, ha, fun dx ndx ne => ?_⟩
    have e1 : (upd (upd H dx (exd dx [("word", .str "FarError")])) a (exo a C (some dx))) a = some (exo a C (some dx)) := upd_same
    have e2 : (upd (upd H dx (exd dx [("word", .str "FarError")])) a (exo a C (some dx))) dx = some (exd dx [("word", .str "FarError")]) := by rw [upd_ne ne, upd_same]
    refine ⟨.ref t, rfl, .ref a, rfl, a, C, rfl, T.o, n1, .inr ⟨dx, _, e1, e2, by show 1 ≤ 900; decide, ?_⟩⟩
    refine ⟨.ref a, rfl, a, C, rfl, T.o, T.w, .inr ⟨dx, _, by rw [upd_ne ne.symm]; exact e1, upd_same, by show 2 ≤ 900; decide, ?_⟩⟩
    refine q _ dx ndx (by rw [upd_ne ne.symm, upd_ne ne.symm]; exact e1) upd_same fun b o nb hb => ?_
    have nbd : b ≠ dx := ne_of_none hb ndx
    rw [upd_ne nbd, upd_ne nbd, upd_ne nb, upd_ne nbd]
    exact hb
end

/-! ### is_mating -/
abbrev s_is_mating : Stmt := top 14
abbrev N_is_mating : List Str := ["length", "mating", "one", "other", "many", "turned", "number"]
abbrev P_is_mating : List Str := ["length", "mating"]
theorem sc_is_mating : FnScope N_is_mating P_is_mating (defScope s_is_mating) := ⟨rfl, rfl, rfl, by decide +kernel, rfl, by decide +kernel, by decide +kernel⟩
def isMat (n : Int) : V → V → V → V → Bool
  | .int o, .int p, .int m, .int f => decide ((f = 0 ∨ f = 1) ∧ 1 ≤ m ∧ 0 ≤ o ∧ 0 ≤ p ∧ o + m ≤ n ∧ p + m ≤ n)
  | _, _, _, _ => false
theorem isMat_b {n : Int} {o p m f : V} (h : ([o, p, m, f].map isB).any id = true) : isMat n o p m f = false := by
  cases o with
  | int _ => cases p with
    | int _ => cases m with
      | int _ => cases f with
        | int _ => exact absurd (show false = true from h) (by decide)
        | _ => rfl
      | _ => rfl
    | _ => rfl
  | _ => rfl
theorem allInt {x : V} (h : IB x) (hb : isB x = false) : ∃ i : Int, x = .int i ∧ i.natAbs < 2 ^ 200 := by
  rcases h with h | ⟨b, rfl⟩
  · exact h
  · cases hb
theorem inV01 (f : Int) : inV (.int f) [.int 0, .int 1] = decide (f = 0 ∨ f = 1) := by
  by_cases h0 : f = 0
  · subst h0
    decide
  · by_cases h1 : f = 1
    · subst h1
      decide
    · have e0 : ¬ (0 = f) := fun z => h0 z.symm
      have e1 : ¬ (1 = f) := fun z => h1 z.symm
      simp [inV, eqV, h0, h1, e0, e1]
def spIsMat : Sp := fun vs H Q _ => ∃ (n : Int) (t : Addr) (o p m f : V), vs = [.int n, .ref t] ∧ n.natAbs < 2 ^ 200 ∧ H t = some (.tup [o, p, m, f]) ∧ IB o ∧ IB p ∧ IB m ∧ IB f ∧ ∀ H', Same H H' → Q (.bl (isMat n o p m f)) H'
section
variable {P : Program} {w : World} {K : PySem.W.Frag} {mg : Str → Option Value} {base : Heap}
theorem ok_is_mating {f : Addr} {fd : FuncData} (D : DefAt K mg "is_mating" s_is_mating P_is_mating f fd) (B : Bn mg) : FnOk P w K mg base CX0 1 f fd P_is_mating spIsMat := by
  refine D.F.ok sc_is_mating (fun vs H Q E h => ?_) (fun cdv A outer s H vs Q E hr h => ?_)
  · obtain ⟨n, t, o, p, m, f, rfl, _⟩ := h
    rfl
  · obtain ⟨n, t, o, p, m, f, rfl, hn, ht, ho, hp, hm, hf, q⟩ := h
    refine ⟨_, (pss_cons (ps_asg (pv 1) (pg_tup (by rfl) (pgs_cons (pg_name (i := 2) sc_is_mating.nd rfl (.inl rfl)) (pgs_cons (pg_name (i := 3) sc_is_mating.nd rfl (.inl rfl)) (pgs_cons (pg_name (i := 4) sc_is_mating.nd rfl (.inl rfl)) (pgs_cons (pg_name (i := 5) sc_is_mating.nd rfl (.inl rfl)) pgs_nil))))))
      (pss_cons (ps_if (pt_val (pe_callB (cr_any rfl) (by rfl) B.any (by decide +kernel) (pa_cons (pe_lc (own := [("number", 6)]) (g := gName 6) (by rfl) sc_is_mating.nd (pi_tup (pe_tup (pa_cons (pv 0) (pa_cons (pv 2) (pa_cons (pv 3) (pa_cons (pv 4) (pa_cons (pv 5) pa_nil))))))) (blkOk_by (own := [("number", 6)]) (N := N_is_mating) (sc := defScope s_is_mating) (by decide +kernel)) (fun _ _ _ _ _ => (pg_name (i := 6) sc_is_mating.nd rfl (.inl rfl))) (fun _ _ _ _ _ => pts_nil) (fun _ _ _ _ _ => (pe_callB (show CallR _ _ (rIsi K) from call_isi) (by rfl) B.isinstance (by decide +kernel) (pa_cons (pv 6) (pa_cons (pe_bltn (v := .ty "bool") (by rfl) B.bool (by decide +kernel) rfl) pa_nil))))) pa_nil))) (pss_one (ps_ret pe_bl)) pss_nil)
      (pss_cons (ps_if (PW.pt (pw_or (pt_cmpR op_notIn_seq (pv 5) (pe_tup (pa_cons pe_int (pa_cons pe_int pa_nil))) (by rfl)) (pw_or1 (pt_cmpR op_lt (pv 4) pe_int (nomark _))))) (pss_one (ps_ret pe_bl)) pss_nil)
      (pss_one (ps_ret (pe_and (pe_cmpR op_ge (pe_callB (call_min2 rfl) (by rfl) B.min (by decide +kernel) (pa_cons (pv 2) (pa_cons (pv 3) pa_nil))) pe_int (nomark _)) (pe_one (pe_cmpR op_le (pe_op op_add (pe_callB (call_max2 rfl) (by rfl) B.max (by decide +kernel) (pa_cons (pv 2) (pa_cons (pv 3) pa_nil))) (pv 4)) (pv 0) (nomark _))))))))), ?_⟩
    refine ⟨.ref t, rfl, t, _, rfl, SqT.of ht, rfl, o, _, rfl, p, _, rfl, m, _, rfl, f, _, rfl, rfl, ?_⟩
    refine ⟨.int n, rfl, o, rfl, p, rfl, m, rfl, f, rfl, by show 5 ≤ sizeLine; decide, fun tp ntp => ?_⟩
    refine ⟨tp, rfl, ⟨_, SqT.of upd_same⟩, fun L nL => lc_tup (K := K) (a := tp) (xs := [.int n, o, p, m, f]) (fun i H2 => Same (upd H tp (.tup [.int n, o, p, m, f])) H2 ∧ H2 L = some (.lst ((([.int n, o, p, m, f].map isB).take i).map V.bl)))
      ⟨same_upd nL, upd_same⟩ (fun i H2 _ ⟨sm, _⟩ => SqT.of (sm _ _ upd_same)) ?_ ?_⟩
    · rintro i x H2 hx ⟨sm, e2⟩
      have hi : i < 5 := (List.getElem?_eq_some_iff.mp hx).1
      have hib : IB x := by
        have : x ∈ [.int n, o, p, m, f] := List.mem_of_getElem? hx
        rcases List.mem_cons.mp this with rfl | this
        · exact .inl ⟨n, rfl, hn⟩
        rcases List.mem_cons.mp this with rfl | this
        · exact ho
        rcases List.mem_cons.mp this with rfl | this
        · exact hp
        rcases List.mem_cons.mp this with rfl | this
        · exact hm
        rcases List.mem_cons.mp this with rfl | this
        · exact hf
        · cases this
      obtain ⟨ty, h1, h2⟩ := hib.ty (K := K) (H := H2)
      refine ⟨rfl, ?_⟩
      refine ⟨x, rfl, _, _, _, _, isB x, rfl, ClsV.ty _, h1, h2, ?_⟩
      refine ⟨_, e2, sz_lt (by rw [List.length_map, List.length_take]; omega), fun b o' hb => ?_, ?_⟩
      · rw [upd_ne (ne_of_none hb nL)]
        exact sm _ _ hb
      · rw [upd_same, List.take_add_one, List.getElem?_map, hx, List.map_append]
        rfl
    · rintro H2 ⟨sm, e2⟩
      have e2' : H2 L = some (.lst (([.int n, o, p, m, f].map isB).map V.bl)) := e2
      have sH : Same H H2 := (same_upd ntp).trans sm
      refine ⟨L, _, rfl, SqL.of e2', _, rfl, ?_⟩
      by_cases hb : ([o, p, m, f].map isB).any id = true
      · have e3 : ([.int n, o, p, m, f].map isB).any id = true := hb
        rw [e3]
        refine iteT ?_
        rw [isMat_b hb] at q
        exact q H2 sH
      · have e3 : ([.int n, o, p, m, f].map isB).any id = false := by
          cases e : ([o, p, m, f].map isB).any id with
          | true => exact absurd e hb
          | false => exact e
        rw [e3]
        refine iteF ?_
        have hb' : ([o, p, m, f].map isB).any id = false := e3
        simp only [List.map_cons, List.map_nil, List.any_cons, List.any_nil, id, Bool.or_false, Bool.or_eq_false_iff] at hb'
        obtain ⟨b1, b2, b3, b4⟩ := hb'
        obtain ⟨o, rfl, _⟩ := allInt ho b1
        obtain ⟨p, rfl, _⟩ := allInt hp b2
        obtain ⟨m, rfl, _⟩ := allInt hm b3
        obtain ⟨f, rfl, _⟩ := allInt hf b4
        refine ⟨.int f, rfl, by show 2 ≤ sizeLine; decide, fun t2 n2 => ?_⟩
        have s2 : Same H (upd H2 t2 (.tup [.int 0, .int 1])) := sH.trans (same_upd n2)
        refine ⟨t2, _, rfl, .inr (SqT.of upd_same), rfl, rfl, _, rfl, ?_⟩
        have no : ¬ ((f = 0 ∨ f = 1) ∧ 1 ≤ m ∧ 0 ≤ o ∧ 0 ≤ p ∧ o + m ≤ n ∧ p + m ≤ n) → Q (.bl false) (upd H2 t2 (.tup [.int 0, .int 1])) := fun h => by
          have := q _ s2
          rw [show isMat n (.int o) (.int p) (.int m) (.int f) = false from decide_eq_false h] at this
          exact this
        rw [if_pos rfl, inV01]
        by_cases hf01 : f = 0 ∨ f = 1
        · rw [decide_eq_true hf01]
          refine iteF ?_
          refine ⟨.int m, rfl, m, 1, rfl, rfl, _, rfl, ?_⟩
          refine ite2 (fun h => ?_) (fun h => ?_)
          · have h' : m < 1 := of_decide_eq_true h
            exact no fun z => by omega
          · have h' : ¬ m < 1 := fun z => h (decide_eq_true z)
            refine ⟨.int o, rfl, .int p, rfl, o, p, rfl, _, 0, rfl, rfl, _, rfl, ?_⟩
            refine ite2 (fun g => ?_) (fun g => ?_)
            · have g' : 0 ≤ (if p < o then p else o) := of_decide_eq_true g
              refine ⟨.int o, rfl, .int p, rfl, o, p, rfl, .int m, rfl, _, _, rfl, rfl, .int n, rfl, _, _, rfl, rfl, ?_⟩
              have := q _ s2
              rw [show isMat n (.int o) (.int p) (.int m) (.int f) = decide ((if p > o then p else o) + m ≤ n) from decide_eq_decide.mpr ⟨fun z => by split <;> omega, fun z => ⟨hf01, by omega, by split at g' <;> omega, by split at g' <;> omega, by split at z <;> omega, by split at z <;> omega⟩⟩] at this
              exact this
            · have g' : ¬ 0 ≤ (if p < o then p else o) := fun z => g (decide_eq_true z)
              exact no fun z => g' (by split <;> omega)
        · rw [decide_eq_false hf01]
          refine iteT ?_
          exact no fun z => hf01 z.1
end

/-! ### the standing matings as a list of numbers and matings -/
abbrev M4 := Int × Int × Int × Int
abbrev t4 (x : M4) : HO := tup4 x.1 x.2.1 x.2.2.1 x.2.2.2
abbrev StL := List (Int × M4)
def sget : StL → Int → Option M4
  | [], _ => none
  | s :: r, i => if s.1 = i then some s.2 else sget r i
def sput (S : StL) (i : Int) (x : M4) : StL := S.map fun s => if s.1 = i then (s.1, x) else s
def sdrop (S : StL) (i : Int) : StL := S.filter fun s => decide (s.1 ≠ i)
def StdR (H : Hp) (kv : Key × V) (s : Int × M4) : Prop := kv.1 = Sum.inl s.1 ∧ ∃ t, kv.2 = .ref t ∧ H t = some (t4 s.2)
def Std (H : Hp) (kvs : List (Key × V)) (S : StL) : Prop := Paired (StdR H) kvs S
/-- tuples stay -/
def KeepT (H H' : Hp) : Prop := ∀ b xs, H b = some (.tup xs) → H' b = some (.tup xs)
theorem Std.keep {H H' : Hp} (k : KeepT H H') : ∀ {kvs : List (Key × V)} {S : StL}, Std H kvs S → Std H' kvs S
  | _, _, .nil => .nil
  | _, _, .cons h r => .cons ⟨h.1, h.2.elim fun t e => ⟨t, e.1, k _ _ e.2⟩⟩ (Std.keep k r)
theorem Std.get {H : Hp} (i : Int) : ∀ {kvs : List (Key × V)} {S : StL}, Std H kvs S → (sget S i = none → valV kvs (Sum.inl i) = none) ∧ ∀ x, sget S i = some x → ∃ t, valV kvs (Sum.inl i) = some (.ref t) ∧ H t = some (t4 x)
  | _, _, .nil => ⟨fun _ => rfl, fun x h => nomatch h⟩
  | _, _, .cons (a := kv) (b := s) h r => by
    obtain ⟨e1, t, e2, e3⟩ := h
    obtain ⟨g1, g2⟩ := Std.get i r
    by_cases e : s.1 = i
    · have ek : kv.1 = Sum.inl i := by rw [e1, e]
      unfold sget
      rw [if_pos e]
      refine ⟨fun z => (by cases z), fun x hx => ?_⟩
      cases hx
      exact ⟨t, by rw [valV_pos ek, e2], e3⟩
    · have ek : ¬ kv.1 = Sum.inl i := by
        rw [e1]
        exact fun z => e (Sum.inl.inj z)
      unfold sget
      rw [if_neg e, valV_neg ek]
      exact ⟨g1, g2⟩
theorem Std.keys {H : Hp} : ∀ {kvs : List (Key × V)} {S : StL}, Std H kvs S → kvs.map (·.1) = (S.map (·.1)).map Sum.inl
  | _, _, .nil => rfl
  | _, _, .cons h r => by
    rw [List.map_cons, List.map_cons, List.map_cons, Std.keys r, h.1]
theorem Std.length {H : Hp} : ∀ {kvs : List (Key × V)} {S : StL}, Std H kvs S → kvs.length = S.length
  | _, _, .nil => rfl
  | _, _, .cons h r => congrArg (· + 1) (Std.length r)
theorem Std.putMap {H : Hp} {i : Int} {t : Addr} {x : M4} (ht : H t = some (t4 x)) : ∀ {kvs : List (Key × V)} {S : StL}, Std H kvs S → Std H (kvs.map fun kv => if kv.1 = Sum.inl i then (kv.1, V.ref t) else kv) (sput S i x)
  | _, _, .nil => .nil
  | _, _, .cons (a := kv) (b := s) h r => by
    refine .cons ?_ (Std.putMap ht r)
    show StdR H (if kv.1 = Sum.inl i then (kv.1, V.ref t) else kv) (if s.1 = i then (s.1, x) else s)
    by_cases e : s.1 = i
    · have ek : kv.1 = Sum.inl i := by rw [h.1, e]
      rw [if_pos ek, if_pos e]
      exact ⟨h.1, t, rfl, ht⟩
    · have ek : ¬ kv.1 = Sum.inl i := by
        rw [h.1]
        exact fun z => e (Sum.inl.inj z)
      rw [if_neg ek, if_neg e]
      exact h
theorem Std.put {H : Hp} {i : Int} {t : Addr} {x y : M4} {kvs : List (Key × V)} {S : StL} (h : Std H kvs S) (hi : sget S i = some y) (ht : H t = some (t4 x)) : Std H (putK kvs (Sum.inl i) (.ref t)) (sput S i x) := by
  obtain ⟨u, hu, _⟩ := (h.get i).2 y hi
  unfold putK
  rw [if_pos (by rw [valV_any, hu]; rfl)]
  exact h.putMap ht
theorem Std.drop {H : Hp} {i : Int} : ∀ {kvs : List (Key × V)} {S : StL}, Std H kvs S → Std H (dropK kvs (Sum.inl i)) (sdrop S i)
  | _, _, .nil => .nil
  | _, _, .cons (a := kv) (b := s) (l₁ := ks) (l₂ := rs) h r => by
    by_cases e : s.1 = i
    · have ek : kv.1 = Sum.inl i := by rw [h.1, e]
      rw [dropK_pos ek, show sdrop (s :: rs) i = sdrop rs i from List.filter_cons_of_neg (by simp [e])]
      exact Std.drop r
    · have ek : ¬ kv.1 = Sum.inl i := by
        rw [h.1]
        exact fun z => e (Sum.inl.inj z)
      rw [dropK_neg ek, show sdrop (s :: rs) i = s :: sdrop rs i from List.filter_cons_of_pos (by simp [e])]
      exact .cons h (Std.drop r)
theorem Std.snoc {H : Hp} {kv : Key × V} {s : Int × M4} (hs : StdR H kv s) : ∀ {kvs : List (Key × V)} {S : StL}, Std H kvs S → Std H (kvs ++ [kv]) (S ++ [s])
  | _, _, .nil => .cons hs .nil
  | _, _, .cons h r => .cons h (Std.snoc hs r)
theorem sput_keys (S : StL) (i : Int) (x : M4) : (sput S i x).map (·.1) = S.map (·.1) := by
  unfold sput
  rw [List.map_map]
  refine List.map_congr_left fun s _ => ?_
  show (if s.1 = i then (s.1, x) else s).1 = s.1
  split <;> rfl
theorem sput_length (S : StL) (i : Int) (x : M4) : (sput S i x).length = S.length := List.length_map _
theorem sdrop_keys {S : StL} {i : Int} (h : (S.map (·.1)).Pairwise (· < ·)) : ((sdrop S i).map (·.1)).Pairwise (· < ·) := h.sublist ((List.filter_sublist).map _)
theorem sdrop_length (S : StL) (i : Int) : (sdrop S i).length ≤ S.length := List.length_filter_le _ _
theorem sget_put_ne {i j : Int} {x : M4} (h : i ≠ j) : ∀ S : StL, sget (sput S i x) j = sget S j
  | [] => rfl
  | s :: r => by
    show sget ((if s.1 = i then (s.1, x) else s) :: sput r i x) j = sget (s :: r) j
    have ih := sget_put_ne h r (x := x)
    by_cases e : s.1 = i
    · rw [if_pos e]
      have nj : ¬ s.1 = j := fun z => h (e.symm.trans z)
      unfold sget
      rw [if_neg nj, if_neg nj, ih]
    · rw [if_neg e]
      unfold sget
      rw [ih]
/-! ### a front -/
def fr (e : Int) (s q : Addr) : List (Str × V) := [("edge", .int e), ("standing", .ref s), ("past", .ref q)]
theorem fr_make (e : Int) (s q : Addr) : putF "past" (.ref q) (putF "standing" (.ref s) (putF "edge" (.int e) [])) = fr e s q := by
  unfold fr
  show putF "past" (.ref q) (putF "standing" (.ref s) [("edge", .int e)]) = _
  have e1 : putF "standing" (.ref s) [(("edge" : Str), V.int e)] = [(("edge" : Str), V.int e), (("standing" : Str), V.ref s)] := by
    unfold putF
    rw [if_neg (by decide +kernel)]
    rfl
  rw [e1]
  unfold putF
  rw [if_neg (by decide +kernel)]
  unfold putF
  rw [if_neg (by decide +kernel)]
  rfl
theorem fr_edge (e : Int) (s q : Addr) : (fr e s q).lookup ("edge" : Str) = some (.int e) := by
  unfold fr
  rw [lookup_put, if_pos rfl]
theorem fr_standing (e : Int) (s q : Addr) : (fr e s q).lookup ("standing" : Str) = some (.ref s) := by
  unfold fr
  rw [lookup_put, if_neg (by decide +kernel), lookup_put, if_pos rfl]
theorem fr_past (e : Int) (s q : Addr) : (fr e s q).lookup ("past" : Str) = some (.ref q) := by
  unfold fr
  rw [lookup_put, if_neg (by decide +kernel), lookup_put, if_neg (by decide +kernel), lookup_put, if_pos rfl]
theorem fr_no {e : Int} {s q : Addr} {m : Str} (h1 : ¬ m = "edge") (h2 : ¬ m = "standing") (h3 : ¬ m = "past") : (fr e s q).lookup m = none := by
  unfold fr
  rw [lookup_put, if_neg h1, lookup_put, if_neg h2, lookup_put, if_neg h3]
  rfl
structure FrT (K : PySem.W.Frag) (mg : Str → Option Value) (C : Addr) : Prop where
  gC : mg "Front" = some (.ref C)
  cl : Cls K C
  nE : NoAttr K C "edge"
  nS : NoAttr K C "standing"
  nP : NoAttr K C "past"
structure FrAt (C : Addr) (H : Hp) (a s q : Addr) (e : Int) (S : StL) (ps : List V) : Prop where
  at_a : ∃ dx, H a = some (.ins C dx (fr e s q))
  at_s : ∃ kvs, H s = some (.dK kvs) ∧ Std H kvs S
  at_q : H q = some (.lst ps)
  up : (S.map (·.1)).Pairwise (· < ·)
  len : S.length ≤ 100
/-- all but the front stands -/
def Off (a s q : Addr) (H H' : Hp) : Prop := ∀ b o, H b = some o → b ≠ a → b ≠ s → b ≠ q → H' b = some o
theorem Off.of_same {a s q : Addr} {H H' : Hp} (e : Same H H') : Off a s q H H' := fun b o h _ _ _ => e b o h
theorem Off.trans {a s q : Addr} {H H1 H2 : Hp} (x : Off a s q H H1) (y : Off a s q H1 H2) : Off a s q H H2 := fun b o h h1 h2 h3 => y b o (x b o h h1 h2 h3) h1 h2 h3
theorem FrAt.ne_tup {C : Addr} {H : Hp} {a s q b : Addr} {e : Int} {S : StL} {ps xs : List V} (h : FrAt C H a s q e S ps) (hb : H b = some (.tup xs)) : b ≠ a ∧ b ≠ s ∧ b ≠ q := by
  obtain ⟨dx, ea⟩ := h.at_a
  obtain ⟨kvs, es, _⟩ := h.at_s
  exact ⟨ne_of hb ea (fun z => by cases z), ne_of hb es (fun z => by cases z), ne_of hb h.at_q (fun z => by cases z)⟩
theorem FrAt.same {C : Addr} {H H' : Hp} {a s q : Addr} {e : Int} {S : StL} {ps : List V} (h : FrAt C H a s q e S ps) (k : Same H H') : FrAt C H' a s q e S ps := by
  obtain ⟨⟨dx, ea⟩, ⟨kvs, es, st⟩, eq, up, len⟩ := h
  exact ⟨⟨dx, k _ _ ea⟩, ⟨kvs, k _ _ es, st.keep fun b xs hb => k _ _ hb⟩, k _ _ eq, up, len⟩
/-- the dict anew -/
theorem FrAt.dict {C : Addr} {H : Hp} {a s q : Addr} {e : Int} {S S' : StL} {ps : List V} {kvs : List (Key × V)} (h : FrAt C H a s q e S ps) (st : Std H kvs S') (up : (S'.map (·.1)).Pairwise (· < ·)) (len : S'.length ≤ 100) :
    FrAt C (upd H s (.dK kvs)) a s q e S' ps ∧ Off a s q H (upd H s (.dK kvs)) := by
  obtain ⟨⟨dx, ea⟩, ⟨kvs0, es, st0⟩, eq, _, _⟩ := h
  have n1 : a ≠ s := ne_of ea es (fun z => by cases z)
  have n2 : q ≠ s := ne_of eq es (fun z => by cases z)
  refine ⟨⟨⟨dx, by rw [upd_ne n1]; exact ea⟩, ⟨kvs, upd_same, st.keep fun b xs hb => ?_⟩, by rw [upd_ne n2]; exact eq, up, len⟩, fun b o hb _ h2 _ => ?_⟩
  · rw [upd_ne (ne_of hb es (fun z => by cases z))]
    exact hb
  · rw [upd_ne h2]
    exact hb
theorem perm_sorted : ∀ {ys ks : List Int}, ys.Perm ks → ys.Pairwise (· ≤ ·) → ks.Pairwise (· < ·) → ys = ks
  | [], ks, p, _, _ => (List.Perm.nil_eq p)
  | y :: ys, [], p, _, _ => nomatch (List.Perm.eq_nil p)
  | y :: ys, k :: ks, p, h1, h2 => by
    have m1 : y ∈ k :: ks := p.subset List.mem_cons_self
    have m2 : k ∈ y :: ys := p.symm.subset List.mem_cons_self
    have e : y = k := by
      rcases List.mem_cons.mp m1 with z | z
      · exact z
      · rcases List.mem_cons.mp m2 with z' | z'
        · exact z'.symm
        · have a1 := (List.pairwise_cons.mp h1).1 _ z'
          have a2 := (List.pairwise_cons.mp h2).1 _ z
          omega
    subst e
    rw [perm_sorted (List.Perm.cons_inv p) (List.pairwise_cons.mp h1).2 (List.pairwise_cons.mp h2).2]
section
variable {X : Cx} {K : PySem.W.Frag}
/-- o.f inside a comprehension -/
theorem pe_fldK {e : Expr} {f : Str} {pos : Pos} {ta : TE} (hK : X.K = K) (he : PE X e ta) (hb : attributeBase e f X.env (eval e X.env) = eval e X.env) : PE X (.Attribute e f pos) (tFld K ta f) := by
  subst hK
  exact pe_fld he hb
end

/-! ### need_length, need_mating, need_road of a road that is right -/
abbrev s_need_from : Stmt := top 11
abbrev N_need_from : List Str := ["low", "number"]
abbrev P_need_from : List Str := ["low", "number"]
theorem sc_need_from : FnScope N_need_from P_need_from (defScope s_need_from) := ⟨rfl, rfl, rfl, by decide +kernel, rfl, by decide +kernel, by decide +kernel⟩
abbrev s_need_within : Stmt := top 12
abbrev N_need_within : List Str := ["low", "high", "number"]
abbrev P_need_within : List Str := ["low", "high", "number"]
theorem sc_need_within : FnScope N_need_within P_need_within (defScope s_need_within) := ⟨rfl, rfl, rfl, by decide +kernel, rfl, by decide +kernel, by decide +kernel⟩
abbrev s_need_length : Stmt := top 13
abbrev N_need_length : List Str := ["number"]
abbrev P_need_length : List Str := ["number"]
theorem sc_need_length : FnScope N_need_length P_need_length (defScope s_need_length) := ⟨rfl, rfl, rfl, by decide +kernel, rfl, by decide +kernel, by decide +kernel⟩
abbrev s_need_mating : Stmt := top 15
abbrev N_need_mating : List Str := ["length", "mating"]
abbrev P_need_mating : List Str := ["length", "mating"]
theorem sc_need_mating : FnScope N_need_mating P_need_mating (defScope s_need_mating) := ⟨rfl, rfl, rfl, by decide +kernel, rfl, by decide +kernel, by decide +kernel⟩
abbrev s_need_road : Stmt := top 23
abbrev N_need_road : List Str := ["length", "matings", "mating"]
abbrev P_need_road : List Str := ["length", "matings"]
theorem sc_need_road : FnScope N_need_road P_need_road (defScope s_need_road) := ⟨rfl, rfl, rfl, by decide +kernel, rfl, by decide +kernel, by decide +kernel⟩
def spNeed1 (n : Int) : Sp := fun vs H Q _ => ∃ (t : Addr) (m : Int × Int × Int × Int), vs = [.int n, .ref t] ∧ H t = some (t4 m) ∧ ((m.2.2.2 = 0 ∨ m.2.2.2 = 1) ∧ 1 ≤ m.2.2.1 ∧ 0 ≤ m.1 ∧ 0 ≤ m.2.1 ∧ m.1 + m.2.2.1 ≤ n ∧ m.2.1 + m.2.2.1 ≤ n) ∧ ∀ H', Same H H' → Q .non H'
def spFrom0 : Sp := fun vs H Q _ => ∃ lo n : Int, vs = [.int lo, .int n] ∧ lo ≤ n ∧ Q .non H
def spWithin0 : Sp := fun vs H Q _ => ∃ lo hi n : Int, vs = [.int lo, .int hi, .int n] ∧ lo ≤ n ∧ n ≤ hi ∧ Q .non H
def spNeed0 : Sp := fun vs H Q _ => ∃ n : Int, vs = [.int n] ∧ 0 ≤ n ∧ n ≤ 1000000000000000000 ∧ Q .non H
def Mok (n : Int) (x : M4) : Prop := (x.2.2.2 = 0 ∨ x.2.2.2 = 1) ∧ 1 ≤ x.2.2.1 ∧ 0 ≤ x.1 ∧ 0 ≤ x.2.1 ∧ x.1 + x.2.2.1 ≤ n ∧ x.2.1 + x.2.2.1 ≤ n
def Mts (H : Hp) (ts : List Addr) (ms : List M4) : Prop := Paired (fun t x => H t = some (t4 x)) ts ms
theorem Mts.same {H H' : Hp} (k : Same H H') : ∀ {ts : List Addr} {ms : List M4}, Mts H ts ms → Mts H' ts ms
  | _, _, .nil => .nil
  | _, _, .cons h r => .cons (k _ _ h) (Mts.same k r)
theorem Mts.length {H : Hp} : ∀ {ts : List Addr} {ms : List M4}, Mts H ts ms → ts.length = ms.length
  | _, _, .nil => rfl
  | _, _, .cons _ r => congrArg (· + 1) (Mts.length r)
theorem Mts.at {H : Hp} : ∀ {ts : List Addr} {ms : List M4}, Mts H ts ms → ∀ (i : Nat) (t : Addr), ts[i]? = some t → ∃ x, ms[i]? = some x ∧ H t = some (t4 x)
  | _, _, .nil, i, t, h => by simp at h
  | _, _, .cons (b := x) h r, 0, t, e => by
    cases e
    exact ⟨x, rfl, h⟩
  | _, _, .cons h r, i + 1, t, e => Mts.at r i t e
def spNeedM : Sp := fun vs H Q _ => ∃ (n : Int) (L : Addr) (ts : List Addr) (ms : List M4), vs = [.int n, .ref L] ∧ 0 ≤ n ∧ n ≤ 1000000000000000000 ∧ H L = some (.lst (ts.map V.ref)) ∧ Mts H ts ms ∧ (∀ x ∈ ms, Mok n x) ∧ ms.length ≤ 24 ∧ ∀ H', Same H H' → Q .non H'
section
variable {P : Program} {w : World} {K : PySem.W.Frag} {mg : Str → Option Value} {base : Heap}
theorem ok_from0 {f : Addr} {fd : FuncData} (D : DefAt K mg "need_from" s_need_from P_need_from f fd) (B : Bn mg) : FnOk P w K mg base CX0 1 f fd P_need_from spFrom0 := by
  refine D.F.ok sc_need_from (fun vs H Q E h => ?_) (fun cdv A outer s H vs Q E hr h => ?_)
  · obtain ⟨lo, n, rfl, _⟩ := h
    rfl
  · obtain ⟨lo, n, rfl, n0, q⟩ := h
    refine ⟨_, (pss_one (ps_if (PW.pt (pw_or (pt_val (pe_callB call_isi (by rfl) B.isinstance (by decide +kernel) (pa_cons (pv 1) (pa_cons (pe_bltn (v := .ty "bool") (by rfl) B.bool (by decide +kernel) rfl) pa_nil)))) (pw_or1 (pt_cmpR op_lt (pv 1) (pv 0) (nomark _))))) (pss_one ps_never) pss_nil)), ?_⟩
    refine ⟨.int n, rfl, _, _, _, _, false, rfl, ClsV.ty _, TyX.base (TyOf.int _), kit_ty (by decide +kernel), _, rfl, iteF ?_⟩
    exact ⟨.int n, rfl, .int lo, rfl, n, lo, rfl, rfl, _, rfl, ite2 (fun h => absurd (of_decide_eq_true h) (by omega)) (fun _ => q)⟩
theorem ok_within0 {f fA : Addr} {fd fdA : FuncData} (D : DefAt K mg "need_within" s_need_within P_need_within f fd) (D_need_from : DefAt K mg "need_from" s_need_from P_need_from fA fdA) (B : Bn mg) : FnOk P w K mg base CX0 2 f fd P_need_within spWithin0 := by
  have G_need_from : FnOk P w K mg base CX0 1 fA fdA P_need_from spFrom0 := ok_from0 D_need_from B
  refine D.F.ok sc_need_within (fun vs H Q E h => ?_) (fun cdv A outer s H vs Q E hr h => ?_)
  · obtain ⟨lo, hi, n, rfl, _⟩ := h
    rfl
  · obtain ⟨lo, hi, n, rfl, n0, n1, q⟩ := h
    refine ⟨_, (pss_cons (ps_expr (pe_call G_need_from (hr.mono (by omega)) (by rfl) D_need_from.g D_need_from.F.kp D_need_from.b .nil pass0 (pa_cons (pv 0) (pa_cons (pv 2) pa_nil))))
      (pss_one (ps_if (pt_cmpR op_gt (pv 2) (pv 1) (nomark _)) (pss_one ps_never) pss_nil))), ?_⟩
    refine ⟨.int lo, rfl, .int n, rfl, lo, n, rfl, n0, ?_⟩
    exact ⟨.int n, rfl, .int hi, rfl, n, hi, rfl, rfl, _, rfl, ite2 (fun h => absurd (of_decide_eq_true h) (by omega)) (fun _ => q)⟩
theorem ok_need0 {f fA fV : Addr} {fd fdA fdV : FuncData} {tok : Tok} (D : DefAt K mg "need_length" s_need_length P_need_length f fd) (D_need_from : DefAt K mg "need_from" s_need_from P_need_from fA fdA) (D_need_within : DefAt K mg "need_within" s_need_within P_need_within fV fdV) (g_FAR : mg "FAR" = some (.int 1000000000000000000 tok)) (B : Bn mg) : FnOk P w K mg base CX0 3 f fd P_need_length spNeed0 := by
  have G_need_within : FnOk P w K mg base CX0 2 fV fdV P_need_within spWithin0 := ok_within0 D_need_within D_need_from B
  refine D.F.ok sc_need_length (fun vs H Q E h => ?_) (fun cdv A outer s H vs Q E hr h => ?_)
  · obtain ⟨n, rfl, _⟩ := h
    rfl
  · obtain ⟨n, rfl, n0, n1, q⟩ := h
    refine ⟨_, (pss_one (ps_expr (pe_call G_need_within (hr.mono (by omega)) (by rfl) D_need_within.g D_need_within.F.kp D_need_within.b .nil pass0 (pa_cons pe_int (pa_cons (pe_glob (v := .int _) (by rfl) g_FAR ⟨_, rfl⟩) (pa_cons (pv 0) pa_nil)))))), ?_⟩
    exact ⟨.int n, rfl, 0, 1000000000000000000, n, rfl, n0, n1, q⟩
theorem ok_need1 {f fM : Addr} {fd fdM : FuncData} {n : Int} (D : DefAt K mg "need_mating" s_need_mating P_need_mating f fd) (D_is_mating : DefAt K mg "is_mating" s_is_mating P_is_mating fM fdM) (n0 : 0 ≤ n) (n1 : n ≤ 1000000000000000000) (B : Bn mg) : FnOk P w K mg base CX0 2 f fd P_need_mating (spNeed1 n) := by
  have G_is_mating : FnOk P w K mg base CX0 1 fM fdM P_is_mating spIsMat := ok_is_mating D_is_mating B
  refine D.F.ok sc_need_mating (fun vs H Q E h => ?_) (fun cdv A outer s H vs Q E hr h => ?_)
  · obtain ⟨t, m, rfl, _⟩ := h
    rfl
  · obtain ⟨t, m, rfl, em, ⟨h1, h2, h3, h4, h5, h6⟩, q⟩ := h
    refine ⟨_, (pss_one (ps_if (pt_not (pt_val (pe_call G_is_mating (hr.mono (by omega)) (by rfl) D_is_mating.g D_is_mating.F.kp D_is_mating.b .nil pass0 (pa_cons (pv 0) (pa_cons (pv 1) pa_nil))))) (pss_one ps_never) pss_nil)), ?_⟩
    refine ⟨.int n, rfl, .ref t, rfl, n, t, .int m.1, .int m.2.1, .int m.2.2.1, .int m.2.2.2, rfl, by omega, em, .int (by omega), .int (by omega), .int (by omega), .int (by omega), fun H3 s3 => ?_⟩
    rw [show isMat n (.int m.1) (.int m.2.1) (.int m.2.2.1) (.int m.2.2.2) = true from decide_eq_true ⟨h1, h2, h3, h4, h5, h6⟩]
    exact ⟨true, rfl, iteF (q _ s3)⟩
theorem ok_needR {f fA fV fN fM fI : Addr} {fd fdA fdV fdN fdM fdI : FuncData} {tok1 tok2 : Tok} (D : DefAt K mg "need_road" s_need_road P_need_road f fd) (D_need_from : DefAt K mg "need_from" s_need_from P_need_from fA fdA) (D_need_within : DefAt K mg "need_within" s_need_within P_need_within fV fdV) (D_need_length : DefAt K mg "need_length" s_need_length P_need_length fN fdN) (D_need_mating : DefAt K mg "need_mating" s_need_mating P_need_mating fM fdM) (D_is_mating : DefAt K mg "is_mating" s_is_mating P_is_mating fI fdI)
    (g_FAR : mg "FAR" = some (.int 1000000000000000000 tok1)) (g_MOST : mg "MOST" = some (.int 24 tok2)) (B : Bn mg) : FnOk P w K mg base CX0 4 f fd P_need_road spNeedM := by
  have G_need_length : FnOk P w K mg base CX0 3 fN fdN P_need_length spNeed0 := ok_need0 D_need_length D_need_from D_need_within g_FAR B
  refine D.F.ok sc_need_road (fun vs H Q E h => ?_) (fun cdv A outer s H vs Q E hr h => ?_)
  · obtain ⟨n, L, ts, ms, rfl, _⟩ := h
    rfl
  · obtain ⟨n, L, ts, ms, rfl, n0, n1, hL, hM, hok, hl, q⟩ := h
    have G_need_mating : FnOk P w K mg base CX0 2 fM fdM P_need_mating (spNeed1 n) := ok_need1 D_need_mating D_is_mating n0 n1 B
    refine ⟨_, (pss_cons (ps_expr (pe_call G_need_length (hr.mono (by omega)) (by rfl) D_need_length.g D_need_length.F.kp D_need_length.b .nil pass0 (pa_cons (pv 0) pa_nil)))
      (pss_cons (ps_for PassesOwn.never rfl (pi_list (pv 1)) (pg_name (i := 2) sc_need_road.nd rfl (.inl rfl)) (pss_one (ps_expr (pe_call G_need_mating (hr.mono (by omega)) (by rfl) D_need_mating.g D_need_mating.F.kp D_need_mating.b .nil pass0 (pa_cons (pv 0) (pa_cons (pv 2) pa_nil))))))
      (pss_one (ps_if (pt_cmpR op_gt (pe_callB call_len_seq (by rfl) B.len (by decide +kernel) (pa_cons (pv 1) pa_nil)) (pe_glob (v := .int _) (by rfl) g_MOST ⟨_, rfl⟩) (nomark _)) (pss_one ps_never) pss_nil)))), ?_⟩
    refine ⟨.int n, rfl, n, rfl, n0, n1, ?_⟩
    refine ⟨.ref L, rfl, L, rfl, ⟨_, SqL.of hL⟩, for_list (K := K) (a := L) (xs := ts.map V.ref) (fun i σ H2 => ∃ y, σ = [some (.int n), some (.ref L), y] ∧ Same H H2) ⟨_, rfl, Same.refl H⟩ (fun i σ H2 _ ⟨_, _, sm⟩ => SqL.of (sm _ _ hL)) ?_ ?_⟩
    · rintro i x σ H2 hx ⟨y, rfl, sm⟩
      obtain ⟨t, ht, rfl⟩ : ∃ t, ts[i]? = some t ∧ V.ref t = x := by
        rw [List.getElem?_map] at hx
        exact Option.map_eq_some_iff.mp hx
      obtain ⟨m, hm, em⟩ := hM.at i t ht
      exact ⟨.int n, rfl, .ref t, rfl, t, m, rfl, sm _ _ em, hok m (List.mem_of_getElem? hm), fun H3 s3 => ⟨_, rfl, sm.trans s3⟩⟩
    · rintro σ H2 ⟨y, rfl, sm⟩
      have e1 := hM.length
      refine ⟨.ref L, rfl, L, _, rfl, .inl (SqL.of (sm _ _ hL)), _, _, rfl, rfl, _, rfl, ite2 (fun h => ?_) (fun _ => q H2 sm)⟩
      have h' := of_decide_eq_true h
      rw [List.length_map] at h'
      omega
end
/-! ### {k: v for i, x in enumerate(us)} -/
theorem dc_enum {K : PySem.W.Frag} {a : Addr} {us : List V} {g : TG} {tt : TT} {tk tv : TE} {vs : List Nat} {σ : L2.St} {G1 : Hp} {D : Addr} {Qd : Hp → Prop} (Iv : Nat → Hp → Prop) (h0 : Iv 0 (upd G1 D (.dK []))) (hl : ∀ j G, j ≤ us.length → Iv j G → SqL K G a us)
    (hs : ∀ j u G T, us[j]? = some u → Iv j G → G T = none → g (.ref T) (wipe σ vs) (upd G T (.tup [.int (j : Nat), u])) fun σ2 G2 => wipe σ2 vs = wipe σ vs ∧ tt σ2 G2 fun b G3 =>
      if b = true then tk σ2 G3 fun y G4 => tv σ2 G4 fun z G5 => ∃ kvs k, y = kV k ∧ G5 D = some (.dK kvs) ∧ kvs.length < sizeLine ∧ Iv (j + 1) (upd G5 D (.dK (putK kvs k z))) else Iv (j + 1) G3) (hd : ∀ G, Iv us.length G → Qd G) :
    ∃ W : Nat → Nat → Hp → Prop, (∃ c, W 0 c (upd G1 D (.dK []))) ∧ ∀ j c G, W j c G →
      ((Ite K a).stop j G ∧ Qd G) ∨ ((Ite K a).go j G ∧ ∃ Nx : Hp → Prop, (∀ G', Nx G' → ∃ c', c' < c ∧ W (j + 1) c' G') ∧ ∀ u G', (Ite K a).yld j G u G' → g u (wipe σ vs) G' fun σ2 G2 => wipe σ2 vs = wipe σ vs ∧ tt σ2 G2 fun b G3 =>
        if b = true then tk σ2 G3 fun y G4 => tv σ2 G4 fun z G5 => ∃ kvs k, y = kV k ∧ G5 D = some (.dK kvs) ∧ kvs.length < sizeLine ∧ Nx (upd G5 D (.dK (putK kvs k z))) else Nx G3) := by
  refine ⟨fun j c G => (c = us.length - j ∧ j ≤ us.length) ∧ Iv j G, ⟨us.length, ⟨by simp, Nat.zero_le _⟩, h0⟩, ?_⟩
  rintro j c G ⟨⟨rfl, hj⟩, p⟩
  have q := hl j G hj p
  rcases Nat.lt_or_ge j us.length with lt | ge
  · refine .inr ⟨⟨us, us[j], q, by simp [lt]⟩, Iv (j + 1), fun G' p' => ⟨us.length - (j + 1), by omega, ⟨rfl, lt⟩, p'⟩, ?_⟩
    rintro u G' ⟨T, z, rfl, nT, rfl, hz⟩
    exact hs j z G T (hz us q) p nT
  · obtain rfl : j = us.length := by omega
    exact .inl ⟨⟨us, q, Nat.le_refl _⟩, hd G p⟩

/-! ### put -/
def nrm (x : M4) : M4 := ((if x.2.1 < x.1 then x.2.1 else x.1), (if x.2.1 < x.1 then x.1 else x.2.1), x.2.2.1, x.2.2.2)
abbrev s_Fput : Stmt := inClass (top 31) 15
abbrev N_Fput : List Str := ["self", "i", "mating"]
abbrev P_Fput : List Str := ["self", "i", "mating"]
theorem sc_Fput : FnScope N_Fput P_Fput (defScope s_Fput) := ⟨rfl, rfl, rfl, by decide +kernel, rfl, by decide +kernel, by decide +kernel⟩
def spPut (C : Addr) : Sp := fun vs H Q _ => ∃ (a s q : Addr) (e i : Int) (S : StL) (ps : List V) (v : V) (y : M4), vs = [.ref a, .int i, v] ∧ FrAt C H a s q e S ps ∧ sget S i = some y ∧
  ((v = .non ∧ ∀ H', FrAt C H' a s q e (sdrop S i) ps → Off a s q H H' → Q .non H') ∨ ∃ t x, v = .ref t ∧ H t = some (t4 x) ∧ ∀ H', FrAt C H' a s q e (sput S i (nrm x)) ps → Off a s q H H' → Q .non H')
section
variable {P : Program} {w : World} {K : PySem.W.Frag} {mg : Str → Option Value} {base : Heap} {C : Addr}
theorem ok_put {f fN fB : Addr} {fd fdN fdB : FuncData} (F : Fun K "put" "Front.put" s_Fput f fd) (T : FrT K mg C) (D_normal : DefAt K mg "normal" s_normal P_normal fN fdN) (D_back : DefAt K mg "back" s_back P_back fB fdB) : FnOk P w K mg base CX0 3 f fd P_Fput (spPut C) := by
  have G_normal : FnOk P w K mg base CX0 2 fN fdN P_normal spNormal := ok_normal D_normal D_back
  refine F.ok sc_Fput (fun vs H Q E h => ?_) (fun cdv A outer s H vs Q E hr h => ?_)
  · obtain ⟨a, s, q, e, i, S, ps, v, y, rfl, _⟩ := h
    rfl
  · obtain ⟨a, s, q, e, i, S, ps, v, y, rfl, fa, hy, h⟩ := h
    have hu := hu_of hr
    refine ⟨_, (pss_one (ps_if (pt_cmpR op_isN (pv 2) pe_non (nomark _)) (pss_one (ps_ddel (pe_fld (pv 0) rfl) (pv 1))) (pss_one (ps_dput hu (pe_fld (pv 0) rfl) (pv 1) (pe_call G_normal (hr.mono (by omega)) (by rfl) D_normal.g D_normal.F.kp D_normal.b .nil pass0 (pa_cons (pv 2) pa_nil)) rfl)))), ?_⟩
    obtain ⟨dx, ea⟩ := fa.at_a
    obtain ⟨kvs, es, st⟩ := fa.at_s
    obtain ⟨u, hu2, _⟩ := (st.get i).2 y hy
    have hlen := st.length
    have hl := fa.len
    rcases h with ⟨rfl, qq⟩ | ⟨t, x, rfl, ht, qq⟩
    · refine ⟨.non, rfl, rfl, _, rfl, iteT ?_⟩
      refine ⟨.ref a, rfl, a, C, dx, _, _, rfl, ea, T.cl, T.nS, fr_standing e s q, .int i, rfl, s, kvs, Sum.inl i, rfl, es, rfl, by rw [hu2]; rfl, ?_⟩
      obtain ⟨f1, f2⟩ := fa.dict (st.drop (i := i)) (sdrop_keys fa.up) (Nat.le_trans (sdrop_length S i) hl)
      exact qq _ f1 f2
    · refine ⟨.ref t, rfl, rfl, _, rfl, iteF ?_⟩
      refine ⟨.ref t, rfl, t, x.1, x.2.1, x.2.2.1, x.2.2.2, rfl, ht, fun r H' sm hr' => ?_⟩
      have fa' := fa.same sm
      obtain ⟨kvs', es', st'⟩ := fa'.at_s
      have ek : kvs' = kvs := by
        rw [sm _ _ es] at es'
        cases es'
        rfl
      subst ek
      refine ⟨.ref a, rfl, a, C, dx, _, _, rfl, sm _ _ ea, T.cl, T.nS, fr_standing e s q, .int i, rfl, s, _, rfl, DPut.k (k := Sum.inl i) es' (sz_lt (by omega)), ?_⟩
      obtain ⟨f1, f2⟩ := fa'.dict (st'.put (x := nrm x) hy hr') (by rw [sput_keys]; exact fa'.up) (by rw [sput_length]; exact hl)
      exact qq _ f1 ((Off.of_same sm).trans f2)
end
/-! ### merge, halve -/
abbrev s_Fmerge : Stmt := inClass (top 31) 9
abbrev N_Fmerge : List Str := ["self", "i", "j", "first", "second", "mating"]
abbrev P_Fmerge : List Str := ["self", "i", "j"]
theorem sc_Fmerge : FnScope N_Fmerge P_Fmerge (defScope s_Fmerge) := ⟨rfl, rfl, rfl, by decide +kernel, rfl, by decide +kernel, by decide +kernel⟩
abbrev s_Fhalve : Stmt := inClass (top 31) 8
abbrev N_Fhalve : List Str := ["self", "i", "mating"]
abbrev P_Fhalve : List Str := ["self", "i"]
theorem sc_Fhalve : FnScope N_Fhalve P_Fhalve (defScope s_Fhalve) := ⟨rfl, rfl, rfl, by decide +kernel, rfl, by decide +kernel, by decide +kernel⟩
def mrg (x y : M4) : Option M4 := if isRep x.1 x.2.1 x.2.2.1 x.2.2.2 = true ∧ isRep y.1 y.2.1 y.2.2.1 y.2.2.2 = true ∧ x.2.1 - x.1 + (y.2.1 - y.1) ≤ shr x.1 x.2.1 x.2.2.1 y.1 y.2.1 y.2.2.1 then
  some (imin x.1 y.1, imin x.1 y.1 + (Nat.gcd (x.2.1 - x.1).toNat (y.2.1 - y.1).toNat : Nat), imax (x.2.1 + x.2.2.1) (y.2.1 + y.2.2.1) - imin x.1 y.1 - (Nat.gcd (x.2.1 - x.1).toNat (y.2.1 - y.1).toNat : Nat), 0) else none
def mergeS (S : StL) (i j : Int) : Option StL := if i = j then none else match sget S i, sget S j with
  | some x, some y => (mrg x y).map fun z => sdrop (sput S i (nrm z)) j
  | _, _ => none
def halveS (S : StL) (i : Int) : Option StL := match sget S i with
  | some x => if x.2.2.2 = 0 ∨ isLead x.1 x.2.1 x.2.2.1 x.2.2.2 = true then none else if hlf x.1 x.2.1 x.2.2.1 = 0 then some (sdrop S i) else some (sput S i (nrm (x.1, x.2.1 + x.2.2.1 - hlf x.1 x.2.1 x.2.2.1, hlf x.1 x.2.1 x.2.2.1, x.2.2.2)))
  | none => none
/-- what stands behind a move: r the new standing ones, or none where it is refused -/
def After (C : Addr) (H : Hp) (a s q : Addr) (e : Int) (S : StL) (ps : List V) (r : Option StL) (Q : VK) : Prop :=
  (r = none → ∀ H', FrAt C H' a s q e S ps → Off a s q H H' → Q (.bl false) H') ∧ ∀ S', r = some S' → ∀ H', FrAt C H' a s q e S' ps → Off a s q H H' → Q (.bl true) H'
def spMerge (C : Addr) : Sp := fun vs H Q _ => ∃ (a s q : Addr) (e i j : Int) (S : StL) (ps : List V), vs = [.ref a, .int i, .int j] ∧ FrAt C H a s q e S ps ∧ After C H a s q e S ps (mergeS S i j) Q
def spHalve (C : Addr) : Sp := fun vs H Q _ => ∃ (a s q : Addr) (e i : Int) (S : StL) (ps : List V), vs = [.ref a, .int i] ∧ FrAt C H a s q e S ps ∧ After C H a s q e S ps (halveS S i) Q
section
variable {P : Program} {w : World} {K : PySem.W.Frag} {mg : Str → Option Value} {base : Heap} {C : Addr}
theorem put_no {m : Str} {e : Int} {s q : Addr} (h1 : (m == "edge") = false := by decide +kernel) (h2 : (m == "standing") = false := by decide +kernel) (h3 : (m == "past") = false := by decide +kernel) : (fr e s q).lookup m = none :=
  fr_no (fun z => by rw [z] at h1; simp at h1) (fun z => by rw [z] at h2; simp at h2) (fun z => by rw [z] at h3; simp at h3)
/-- self.standing.get(i) -/
theorem get_at {H : Hp} {a s q : Addr} {e i : Int} {S : StL} {ps : List V} (fa : FrAt C H a s q e S ps) : ∃ o, DGet H s (.int i) o ∧ (sget S i = none → o = none) ∧ ∀ x, sget S i = some x → ∃ t, o = some (.ref t) ∧ H t = some (t4 x) := by
  obtain ⟨kvs, es, st⟩ := fa.at_s
  exact ⟨_, DGet.k (k := Sum.inl i) es, (st.get i).1, (st.get i).2⟩
theorem isD_of {H : Hp} {a s q : Addr} {e : Int} {S : StL} {ps : List V} (fa : FrAt C H a s q e S ps) : IsD H s := by
  obtain ⟨kvs, es, st⟩ := fa.at_s
  exact .inl ⟨kvs, .inl es⟩
theorem ok_halve {f fP fH fL fS : Addr} {fd fdP fdH fdL fdS : FuncData} (F : Fun K "halve" "Front.halve" s_Fhalve f fd) (T : FrT K mg C) (M_put : Meth K C "put" fP) (G_put : FnOk P w K mg base CX0 3 fP fdP P_Fput (spPut C)) (b_put : Binds K fdP P_Fput [])
    (D_halved : DefAt K mg "halved" s_halved P_halved fH fdH) (D_is_leader : DefAt K mg "is_leader" s_is_leader P_is_leader fL fdL) (D_step_of : DefAt K mg "step_of" s_step_of P_step_of fS fdS) : FnOk P w K mg base CX0 4 f fd P_Fhalve (spHalve C) := by
  have G_halved : FnOk P w K mg base CX0 1 fH fdH P_halved spHalved := ok_halved D_halved
  have G_is_leader : FnOk P w K mg base CX0 2 fL fdL P_is_leader spLead := ok_lead D_is_leader D_step_of
  refine F.ok sc_Fhalve (fun vs H Q E h => ?_) (fun cdv A outer s H vs Q E hr h => ?_)
  · obtain ⟨a, s, q, e, i, S, ps, rfl, _⟩ := h
    rfl
  · obtain ⟨a, s, q, e, i, S, ps, rfl, fa, h1, h2⟩ := h
    have hu := hu_of hr
    refine ⟨_, (pss_cons (ps_set (i := 2) sc_Fhalve.nd rfl (.inl rfl) (pe_dget1 hu (pe_fld (pv 0) rfl) (pv 1) ⟨rfl, rfl, rfl, rfl⟩))
      (pss_cons (ps_if (PW.pt (pw_or (pt_cmpR op_isN (pv 2) pe_non (nomark _)) (pw_or (pt_cmpR op_eq (pe_ix ix_tup (pv 2) pe_int (fun _ _ => rfl)) pe_int (nomark _)) (pw_or1 (pt_val (pe_call G_is_leader (hr.mono (by omega)) (by rfl) D_is_leader.g D_is_leader.F.kp D_is_leader.b .nil pass0 (pa_cons (pv 2) pa_nil))))))) (pss_one (ps_ret pe_bl)) pss_nil)
      (pss_cons (ps_expr (pe_meth (pv 0) T.cl M_put G_put (hr.mono (by omega)) b_put .nil pass0 (pa_cons (pv 1) (pa_cons (pe_call G_halved (hr.mono (by omega)) (by rfl) D_halved.g D_halved.F.kp D_halved.b .nil pass0 (pa_cons (pv 2) pa_nil)) pa_nil))))
      (pss_one (ps_ret pe_bl))))), ?_⟩
    obtain ⟨dx, ea⟩ := fa.at_a
    obtain ⟨o, g, g1, g2⟩ := get_at (i := i) fa
    refine ⟨.ref a, rfl, a, C, dx, _, _, rfl, ea, T.cl, T.nS, fr_standing e s q, s, rfl, isD_of fa, .int i, rfl, o, g, ?_⟩
    unfold halveS at h1 h2
    cases hx : sget S i with
    | none =>
      rw [hx] at h1
      rw [g1 hx]
      exact ⟨.non, rfl, rfl, _, rfl, iteT (h1 rfl H fa (Off.of_same (Same.refl H)))⟩
    | some x =>
      rw [hx] at h1 h2
      obtain ⟨t, rfl, ht⟩ := g2 x hx
      refine ⟨.ref t, rfl, rfl, _, rfl, iteF ?_⟩
      refine ⟨.ref t, rfl, t, _, 3, .int x.2.2.2, rfl, rfl, SqT.of ht, at4_3, rfl, _, rfl, ?_⟩
      refine ite2 (fun h0 => ?_) (fun h0 => ?_)
      · have h0' : x.2.2.2 = 0 := V.int.inj (of_decide_eq_true h0)
        exact h1 (if_pos (.inl h0')) H fa (Off.of_same (Same.refl H))
      · have h0' : ¬ x.2.2.2 = 0 := fun z => h0 (decide_eq_true (congrArg V.int z))
        refine ⟨.ref t, rfl, t, x.1, x.2.1, x.2.2.1, x.2.2.2, rfl, ht, _, rfl, ?_⟩
        refine ite2 (fun h3 => ?_) (fun h3 => ?_)
        · exact h1 (if_pos (.inr h3)) H fa (Off.of_same (Same.refl H))
        · have hn : ¬ (x.2.2.2 = 0 ∨ isLead x.1 x.2.1 x.2.2.1 x.2.2.2 = true) := fun z => z.elim h0' h3
          simp only [if_neg hn] at h2
          refine ⟨.ref a, rfl, a, dx, _, rfl, ea, put_no, .int i, rfl, .ref t, rfl, t, x.1, x.2.1, x.2.2.1, x.2.2.2, rfl, ht, fun hz => ?_, fun hz r nr => ?_⟩
          · rw [if_pos hz] at h2
            exact ⟨a, s, q, e, i, S, ps, .non, x, rfl, fa, hx, .inl ⟨rfl, fun H' f1 f2 => h2 _ rfl H' f1 f2⟩⟩
          · rw [if_neg hz] at h2
            exact ⟨a, s, q, e, i, S, ps, .ref r, x, rfl, fa.same (same_upd nr), hx, .inr ⟨r, (x.1, x.2.1 + x.2.2.1 - hlf x.1 x.2.1 x.2.2.1, hlf x.1 x.2.1 x.2.2.1, x.2.2.2), rfl, upd_same, fun H' f1 f2 => h2 _ rfl H' f1 ((Off.of_same (same_upd nr)).trans f2)⟩⟩
theorem ok_merge {f fP fM fS fE fR fC : Addr} {fd fdP fdM fdS fdE fdR fdC : FuncData} (F : Fun K "merge" "Front.merge" s_Fmerge f fd) (T : FrT K mg C) (M_put : Meth K C "put" fP) (G_put : FnOk P w K mg base CX0 3 fP fdP P_Fput (spPut C)) (b_put : Binds K fdP P_Fput [])
    (D_merged : DefAt K mg "merged" s_merged P_merged fM fdM) (D_step_of : DefAt K mg "step_of" s_step_of P_step_of fS fdS) (D_end_of : DefAt K mg "end_of" s_end_of P_end_of fE fdE) (D_is_repeat : DefAt K mg "is_repeat" s_is_repeat P_is_repeat fR fdR)
    (D_common : DefAt K mg "common" s_common P_common fC fdC) (B : Bn mg) : FnOk P w K mg base CX0 4 f fd P_Fmerge (spMerge C) := by
  have G_merged : FnOk P w K mg base CX0 3 fM fdM P_merged spMerged := ok_merged D_merged D_step_of D_end_of D_is_repeat D_common B
  refine F.ok sc_Fmerge (fun vs H Q E h => ?_) (fun cdv A outer s H vs Q E hr h => ?_)
  · obtain ⟨a, s, q, e, i, j, S, ps, rfl, _⟩ := h
    rfl
  · obtain ⟨a, s, q, e, i, j, S, ps, rfl, fa, h1, h2⟩ := h
    have hu := hu_of hr
    refine ⟨_, (pss_cons (ps_set (i := 3) sc_Fmerge.nd rfl (.inl rfl) (pe_dget1 hu (pe_fld (pv 0) rfl) (pv 1) ⟨rfl, rfl, rfl, rfl⟩))
      (pss_cons (ps_set (i := 4) sc_Fmerge.nd rfl (.inl rfl) (pe_dget1 hu (pe_fld (pv 0) rfl) (pv 2) ⟨rfl, rfl, rfl, rfl⟩))
      (pss_cons (ps_if (PW.pt (pw_or (pt_cmpR op_eq (pv 1) (pv 2) (nomark _)) (pw_or (pt_cmpR op_isN (pv 3) pe_non (nomark _)) (pw_or1 (pt_cmpR op_isN (pv 4) pe_non (nomark _)))))) (pss_one (ps_ret pe_bl)) pss_nil)
      (pss_cons (ps_set (i := 5) sc_Fmerge.nd rfl (.inl rfl) (pe_call G_merged (hr.mono (by omega)) (by rfl) D_merged.g D_merged.F.kp D_merged.b .nil pass0 (pa_cons (pv 3) (pa_cons (pv 4) pa_nil))))
      (pss_cons (ps_if (pt_cmpR op_isN (pv 5) pe_non (nomark _)) (pss_one (ps_ret pe_bl)) pss_nil)
      (pss_cons (ps_expr (pe_meth (pv 0) T.cl M_put G_put (hr.mono (by omega)) b_put .nil pass0 (pa_cons (pv 1) (pa_cons (pv 5) pa_nil))))
      (pss_cons (ps_expr (pe_meth (pv 0) T.cl M_put G_put (hr.mono (by omega)) b_put .nil pass0 (pa_cons (pv 2) (pa_cons pe_non pa_nil))))
      (pss_one (ps_ret pe_bl))))))))), ?_⟩
    obtain ⟨dx, ea⟩ := fa.at_a
    obtain ⟨o, g, g1, g2⟩ := get_at (i := i) fa
    obtain ⟨o', g', g1', g2'⟩ := get_at (i := j) fa
    have no : ∀ r, r = false → mergeS S i j = none → Q (.bl r) H := fun r e1 e2 => by
      rw [e1]
      exact h1 e2 H fa (Off.of_same (Same.refl H))
    refine ⟨.ref a, rfl, a, C, dx, _, _, rfl, ea, T.cl, T.nS, fr_standing e s q, s, rfl, isD_of fa, .int i, rfl, o, g, ?_⟩
    refine ⟨.ref a, rfl, a, C, dx, _, _, rfl, ea, T.cl, T.nS, fr_standing e s q, s, rfl, isD_of fa, .int j, rfl, o', g', ?_⟩
    refine ⟨.int i, rfl, .int j, rfl, rfl, _, rfl, ?_⟩
    refine ite2 (fun h => ?_) (fun h => ?_)
    · have h' : i = j := V.int.inj (of_decide_eq_true h)
      exact no _ rfl (by unfold mergeS; rw [if_pos h'])
    · have h' : ¬ i = j := fun z => h (decide_eq_true (congrArg V.int z))
      have em : mergeS S i j = match sget S i, sget S j with | some x, some y => (mrg x y).map fun z => sdrop (sput S i (nrm z)) j | _, _ => none := by
        unfold mergeS
        rw [if_neg h']
      cases hx : sget S i with
      | none =>
        rw [hx] at em
        rw [g1 hx]
        exact ⟨.non, rfl, rfl, _, rfl, iteT (no _ rfl em)⟩
      | some x =>
        obtain ⟨t, rfl, ht⟩ := g2 x hx
        refine ⟨.ref t, rfl, rfl, _, rfl, iteF ?_⟩
        cases hy : sget S j with
        | none =>
          rw [hx, hy] at em
          rw [g1' hy]
          exact ⟨.non, rfl, rfl, _, rfl, iteT (no _ rfl em)⟩
        | some y =>
          rw [hx, hy] at em
          obtain ⟨t', rfl, ht'⟩ := g2' y hy
          refine ⟨.ref t', rfl, rfl, _, rfl, iteF ?_⟩
          refine ⟨.ref t, rfl, .ref t', rfl, t, t', x.1, x.2.1, x.2.2.1, x.2.2.2, y.1, y.2.1, y.2.2.1, y.2.2.2, rfl, ht, ht', fun hn => ?_, fun r1 r2 r3 r nr => ?_⟩
          · refine ⟨.non, rfl, rfl, _, rfl, iteT (no _ rfl ?_)⟩
            rw [em]
            show (mrg x y).map _ = none
            unfold mrg
            rw [if_neg hn]
            rfl
          · refine ⟨.ref r, rfl, rfl, _, rfl, iteF ?_⟩
            have emr : mrg x y = some _ := if_pos ⟨r1, r2, r3⟩
            have em2 : mergeS S i j = (mrg x y).map (fun z => sdrop (sput S i (nrm z)) j) := em
            rw [emr] at em2
            have sm := same_upd (H := H) (o := t4 (imin x.1 y.1, imin x.1 y.1 + (Nat.gcd (x.2.1 - x.1).toNat (y.2.1 - y.1).toNat : Nat), imax (x.2.1 + x.2.2.1) (y.2.1 + y.2.2.1) - imin x.1 y.1 - (Nat.gcd (x.2.1 - x.1).toNat (y.2.1 - y.1).toNat : Nat), 0)) nr
            refine ⟨.ref a, rfl, a, dx, _, rfl, sm _ _ ea, put_no, .int i, rfl, .ref r, rfl, a, s, q, e, i, S, ps, .ref r, x, rfl, fa.same sm, hx, .inr ⟨r, (imin x.1 y.1, imin x.1 y.1 + (Nat.gcd (x.2.1 - x.1).toNat (y.2.1 - y.1).toNat : Nat), imax (x.2.1 + x.2.2.1) (y.2.1 + y.2.2.1) - imin x.1 y.1 - (Nat.gcd (x.2.1 - x.1).toNat (y.2.1 - y.1).toNat : Nat), 0), rfl, upd_same, fun H2 f1 o1 => ?_⟩⟩
            obtain ⟨dx2, ea2⟩ := f1.at_a
            refine ⟨.ref a, rfl, a, dx2, _, rfl, ea2, put_no, .int j, rfl, a, s, q, e, j, _, ps, .non, y, rfl, f1, by rw [sget_put_ne h']; exact hy, .inl ⟨rfl, fun H3 f2 o2 => ?_⟩⟩
            exact h2 _ em2 H3 f2 (((Off.of_same sm).trans o1).trans o2)
end

/-! ### left -/
abbrev s_Fleft : Stmt := inClass (top 31) 2
abbrev N_Fleft : List Str := ["self", "i"]
abbrev P_Fleft : List Str := ["self"]
theorem sc_Fleft : FnScope N_Fleft P_Fleft (defScope s_Fleft) := ⟨rfl, rfl, rfl, by decide +kernel, rfl, by decide +kernel, by decide +kernel⟩
/-- pairs of a number and a mating -/
def LsR (H : Hp) (u : Addr) (s : Int × M4) : Prop := ∃ t, H u = some (.tup [.int s.1, .ref t]) ∧ H t = some (t4 s.2)
def Ls (H : Hp) (us : List Addr) (S : StL) : Prop := Paired (LsR H) us S
theorem Ls.snoc {H : Hp} {u : Addr} {s : Int × M4} (hs : LsR H u s) : ∀ {us : List Addr} {S : StL}, Ls H us S → Ls H (us ++ [u]) (S ++ [s])
  | _, _, .nil => .cons hs .nil
  | _, _, .cons h r => .cons h (Ls.snoc hs r)
theorem Ls.keep {H H' : Hp} (k : KeepT H H') : ∀ {us : List Addr} {S : StL}, Ls H us S → Ls H' us S
  | _, _, .nil => .nil
  | _, _, .cons h r => .cons (h.elim fun t e => ⟨t, k _ _ e.1, k _ _ e.2⟩) (Ls.keep k r)
theorem Ls.length {H : Hp} : ∀ {us : List Addr} {S : StL}, Ls H us S → us.length = S.length
  | _, _, .nil => rfl
  | _, _, .cons h r => congrArg (· + 1) (Ls.length r)
def spLeft (C : Addr) : Sp := fun vs H Q _ => ∃ (a s q : Addr) (e : Int) (S : StL) (ps : List V), vs = [.ref a] ∧ FrAt C H a s q e S ps ∧ S.length < 60 ∧ ∀ (H' : Hp) (r : Addr) (us : List Addr), Same H H' → H r = none → H' r = some (.lst (us.map V.ref)) → Ls H' us S → Q (.ref r) H'
theorem sget_mem : ∀ {S : StL} {s : Int × M4}, (S.map (·.1)).Pairwise (· < ·) → s ∈ S → sget S s.1 = some s.2
  | x :: r, s, h, hm => by
    rcases List.mem_cons.mp hm with rfl | hm
    · exact if_pos rfl
    · have h' := List.pairwise_cons.mp h
      have lt : x.1 < s.1 := h'.1 s.1 (List.mem_map.mpr ⟨s, hm, rfl⟩)
      show (if x.1 = s.1 then some x.2 else sget r s.1) = some s.2
      rw [if_neg (by omega)]
      exact sget_mem h'.2 hm
section
variable {P : Program} {w : World} {K : PySem.W.Frag} {mg : Str → Option Value} {base : Heap} {C : Addr}
theorem ok_left {f : Addr} {fd : FuncData} (F : Fun K "left" "Front.left" s_Fleft f fd) (T : FrT K mg C) (B : Bn mg) : FnOk P w K mg base CX0 1 f fd P_Fleft (spLeft C) := by
  refine F.ok sc_Fleft (fun vs H Q E h => ?_) (fun cdv A outer s H vs Q E hr h => ?_)
  · obtain ⟨a, s, q, e, S, ps, rfl, _⟩ := h
    rfl
  · obtain ⟨a, s, q, e, S, ps, rfl, fa, hlen, qq⟩ := h
    have hu := hu_of hr
    refine ⟨_, (pss_one (ps_ret (pe_lc (own := [("i", 1)]) (g := gName 1) (by rfl) sc_Fleft.nd (pi_list (pe_callB (call_sortedDI rfl) (by rfl) B.sorted (by decide +kernel) (pa_cons (pe_fld (pv 0) rfl) pa_nil))) (blkOk_by (own := [("i", 1)]) (N := N_Fleft) (sc := defScope s_Fleft) (by decide +kernel)) (fun _ _ _ _ _ => (pg_name (i := 1) sc_Fleft.nd rfl (.inl rfl))) (fun _ _ _ _ _ => pts_nil) (fun _ _ _ _ _ => (pe_tup (pa_cons (pv 1) (pa_cons (pe_dget hu (pe_fldK (K := K) rfl (pv 0) rfl) (pv 1) (fun _ _ => rfl)) pa_nil))))))), ?_⟩
    obtain ⟨dx, ea⟩ := fa.at_a
    obtain ⟨kvs, es, st⟩ := fa.at_s
    refine ⟨.ref a, rfl, a, C, dx, _, _, rfl, ea, T.cl, T.nS, fr_standing e s q, s, kvs, S.map (·.1), rfl, .inl es, st.keys, by rw [List.length_map]; omega, fun ys p py so np => ?_⟩
    have ey := perm_sorted py so fa.up
    subst ey
    refine ⟨p, rfl, ⟨_, SqL.of upd_same⟩, fun L nL => lc_list (K := K) (a := p) (xs := (S.map (·.1)).map V.int) (fun i H2 => ∃ us, Same (upd H p (.lst ((S.map (·.1)).map V.int))) H2 ∧ H2 L = some (.lst (us.map V.ref)) ∧ Ls H2 us (S.take i))
      ⟨[], same_upd nL, upd_same, .nil⟩ (fun i H2 _ ⟨_, sm, _⟩ => SqL.of (sm _ _ upd_same)) ?_ ?_⟩
    · rintro i x H2 hx ⟨us, sm, e2, ls⟩
      rw [List.map_map, List.getElem?_map] at hx
      obtain ⟨z, hz, rfl⟩ := Option.map_eq_some_iff.mp hx
      have sm2 : Same H H2 := (same_upd np).trans sm
      have fa2 := fa.same sm2
      obtain ⟨o, g, _, g2⟩ := get_at (i := z.1) fa2
      obtain ⟨t, rfl, ht⟩ := g2 z.2 (sget_mem fa.up (List.mem_of_getElem? hz))
      have hl := ls.length
      have hi : i < S.length := (List.getElem?_eq_some_iff.mp hz).1
      rw [List.length_take] at hl
      refine ⟨rfl, .int z.1, rfl, .ref a, rfl, a, C, dx, _, _, rfl, sm2 _ _ ea, T.cl, T.nS, fr_standing e s q, .int z.1, rfl, s, .ref t, rfl, g, by show 2 ≤ sizeLine; decide, fun u nu => ?_⟩
      refine ⟨us.map V.ref, same_upd nu _ _ e2, sz_lt (by rw [List.length_map]; omega), us ++ [u], fun b o' hb => ?_, by rw [upd_same, List.map_append]; rfl, ?_⟩
      · rw [upd_ne (ne_of_none hb nL)]
        exact same_upd nu _ _ (sm _ _ hb)
      · have kt : ∀ {b : Addr} {xs : List V}, H2 b = some (.tup xs) → (upd (upd H2 u (.tup [.int z.1, .ref t])) L (.lst (us.map V.ref ++ [.ref u]))) b = some (.tup xs) := fun hb => by
          rw [upd_ne (ne_of hb e2 (fun z => by cases z))]
          exact same_upd nu _ _ hb
        rw [List.take_add_one, hz]
        refine Ls.snoc ⟨t, ?_, kt ht⟩ (ls.keep fun b xs hb => kt hb)
        rw [upd_ne (ne_of_none e2 nu).symm]
        exact upd_same
    · rintro H2 ⟨us, sm, e2, ls⟩
      rw [List.length_map, List.length_map, List.take_length] at ls
      exact qq H2 L us ((same_upd np).trans sm) ((same_upd np).free nL) e2 ls
end
/-! ### __init__ -/
abbrev s_Finit : Stmt := inClass (top 31) 0
abbrev N_Finit : List Str := ["self", "length", "matings", "i", "mating"]
abbrev P_Finit : List Str := ["self", "length", "matings"]
theorem sc_Finit : FnScope N_Finit P_Finit (defScope s_Finit) := ⟨rfl, rfl, rfl, by decide +kernel, rfl, by decide +kernel, by decide +kernel⟩
def en : Nat → List M4 → StL
  | _, [] => []
  | i, x :: r => (((i : Nat) : Int), nrm x) :: en (i + 1) r
theorem en_snoc (x : M4) : ∀ (k : Nat) (l : List M4), en k (l ++ [x]) = en k l ++ [(((k + l.length : Nat) : Int), nrm x)]
  | _, [] => rfl
  | k, y :: r => by
    show (((k : Nat) : Int), nrm y) :: en (k + 1) (r ++ [x]) = (((k : Nat) : Int), nrm y) :: (en (k + 1) r ++ [(((k + (r.length + 1) : Nat) : Int), nrm x)])
    rw [en_snoc x (k + 1) r, show k + 1 + r.length = k + (r.length + 1) by omega]
theorem en_length : ∀ (k : Nat) (l : List M4), (en k l).length = l.length
  | _, [] => rfl
  | k, y :: r => congrArg (· + 1) (en_length (k + 1) r)
theorem en_ge : ∀ (k : Nat) (l : List M4) (s : Int × M4), s ∈ en k l → (k : Int) ≤ s.1 ∧ s.1 < ((k + l.length : Nat) : Int)
  | k, y :: r, s, h => by
    rcases List.mem_cons.mp h with rfl | h
    · simp only [List.length_cons]
      omega
    · have := en_ge (k + 1) r s h
      simp only [List.length_cons]
      omega
theorem en_up : ∀ (k : Nat) (l : List M4), ((en k l).map (·.1)).Pairwise (· < ·)
  | _, [] => List.Pairwise.nil
  | k, y :: r => by
    refine List.pairwise_cons.mpr ⟨fun z hz => ?_, en_up (k + 1) r⟩
    obtain ⟨s, hs, rfl⟩ := List.mem_map.mp hz
    have := en_ge (k + 1) r s hs
    show (k : Int) < s.1
    omega
theorem en_none {k : Nat} {l : List M4} {i : Int} (h : i < (k : Int) ∨ ((k + l.length : Nat) : Int) ≤ i) : sget (en k l) i = none := by
  have key : ∀ {S : StL}, (∀ s ∈ S, s.1 ≠ i) → sget S i = none := by
    intro S
    induction S with
    | nil => exact fun _ => rfl
    | cons s r ih =>
      intro hh
      show (if s.1 = i then some s.2 else sget r i) = none
      rw [if_neg (hh s List.mem_cons_self)]
      exact ih fun z hz => hh z (List.mem_cons_of_mem _ hz)
  refine key fun s hs => ?_
  have := en_ge k l s hs
  omega
def spFinit (K : PySem.W.Frag) (C : Addr) : Sp := fun vs H Q _ => ∃ (x dx L : Addr) (n : Int) (ts : List Addr) (ms : List M4), vs = [.ref x, .int n, .ref L] ∧ H x = some (.ins C dx []) ∧ 0 ≤ n ∧ n ≤ 1000000000000000000 ∧ H L = some (.lst (ts.map V.ref)) ∧ Mts H ts ms ∧ (∀ y ∈ ms, Mok n y) ∧ ms.length ≤ 24 ∧
  ∀ (H' : Hp) (s q : Addr), FrAt C H' x s q n (en 0 ms) [] → H s = none → H q = none → (∀ b o, H b = some o → b ≠ x → H' b = some o) → Q .non H'
section
variable {P : Program} {w : World} {K : PySem.W.Frag} {mg : Str → Option Value} {base : Heap} {C : Addr}
theorem ok_Finit {f fA fV fR fN fM fI fO fB : Addr} {fd fdA fdV fdR fdN fdM fdI fdO fdB : FuncData} {tok1 tok2 : Tok} (F : Fun K "__init__" "Front.__init__" s_Finit f fd) (T : FrT K mg C) (D_need_road : DefAt K mg "need_road" s_need_road P_need_road fR fdR) (D_need_from : DefAt K mg "need_from" s_need_from P_need_from fA fdA) (D_need_within : DefAt K mg "need_within" s_need_within P_need_within fV fdV) (D_need_length : DefAt K mg "need_length" s_need_length P_need_length fN fdN) (D_need_mating : DefAt K mg "need_mating" s_need_mating P_need_mating fM fdM)
    (D_is_mating : DefAt K mg "is_mating" s_is_mating P_is_mating fI fdI) (D_normal : DefAt K mg "normal" s_normal P_normal fO fdO) (D_back : DefAt K mg "back" s_back P_back fB fdB) (g_FAR : mg "FAR" = some (.int 1000000000000000000 tok1)) (g_MOST : mg "MOST" = some (.int 24 tok2)) (zE : mg "enumerate" = none) (B : Bn mg) :
    FnOk P w K mg base CX0 5 f fd P_Finit (spFinit K C) := by
  have G_need_road : FnOk P w K mg base CX0 4 fR fdR P_need_road spNeedM := ok_needR D_need_road D_need_from D_need_within D_need_length D_need_mating D_is_mating g_FAR g_MOST B
  have G_normal : FnOk P w K mg base CX0 2 fO fdO P_normal spNormal := ok_normal D_normal D_back
  refine F.ok sc_Finit (fun vs H Q E h => ?_) (fun cdv A outer s H vs Q E hr h => ?_)
  · obtain ⟨x, dx, L, n, ts, ms, rfl, _⟩ := h
    rfl
  · obtain ⟨x, dx, L, n, ts, ms, rfl, hx, n0, n1, hL, hM, hok, hl, qq⟩ := h
    refine ⟨_, (pss_cons (ps_expr (pe_call G_need_road (hr.mono (by omega)) (by rfl) D_need_road.g D_need_road.F.kp D_need_road.b .nil pass0 (pa_cons (pv 1) (pa_cons (pv 2) pa_nil))))
      (pss_cons (ps_fld (pv 0) (pv 1) rfl)
      (pss_cons (ps_fld (pv 0) (pe_dc (own := [("i", 3), ("mating", 4)]) (g := gTup K 2 (gCons (gName 3) (gCons (gName 4) gNil))) (by rfl) sc_Finit.nd (pi_enum (by rfl) zE (pa_cons (pv 2) pa_nil)) (blkOk_by (own := [("i", 3), ("mating", 4)]) (N := N_Finit) (sc := defScope s_Finit) (by decide +kernel)) (fun _ _ _ _ _ => (pg_tup (by rfl) (pgs_cons (pg_name (i := 3) sc_Finit.nd rfl (.inl rfl)) (pgs_cons (pg_name (i := 4) sc_Finit.nd rfl (.inl rfl)) pgs_nil)))) (fun _ _ _ _ _ => pts_nil) (fun _ _ _ _ _ => (pv 3)) (fun _ _ _ _ _ => (pe_call G_normal (hr.mono (by omega)) (by rfl) D_normal.g D_normal.F.kp D_normal.b .nil pass0 (pa_cons (pv 4) pa_nil)))) rfl)
      (pss_one (ps_fld (pv 0) (pe_lst pa_nil) rfl))))), ?_⟩
    refine ⟨.int n, rfl, .ref L, rfl, n, L, ts, ms, rfl, n0, n1, hL, hM, hok, hl, fun H1 s1 => ?_⟩
    -- edge
    refine ⟨.int n, rfl, .ref x, rfl, x, C, dx, [], rfl, s1 _ _ hx, T.cl, T.nE, by show 0 < 1000; decide, ?_⟩
    have off2 : ∀ b o, H b = some o → b ≠ x → (upd H1 x (.ins C dx (putF "edge" (.int n) []))) b = some o := fun b o hb nb => by
      rw [upd_ne nb]
      exact s1 _ _ hb
    have free2 : ∀ b, (upd H1 x (.ins C dx (putF "edge" (.int n) []))) b = none → H b = none := fun b hb => by
      have nb : b ≠ x := fun z => by
        rw [z, upd_same] at hb
        cases hb
      rw [upd_ne nb] at hb
      exact s1.free hb
    have x2 : (upd H1 x (.ins C dx (putF "edge" (.int n) []))) x = some (.ins C dx (putF "edge" (.int n) [])) := upd_same
    generalize upd H1 x (.ins C dx (putF "edge" (.int n) [])) = H2 at off2 free2 x2
    have nLx : L ≠ x := ne_of hL hx (fun z => by cases z)
    have L2 := off2 _ _ hL nLx
    -- standing
    refine ⟨.ref L, rfl, L, ts.map V.ref, rfl, SqL.of L2, fun D nD => dc_enum (K := K) (a := L) (us := ts.map V.ref) (fun i H3 => ∃ kvs, Same H2 H3 ∧ H3 D = some (.dK kvs) ∧ Std H3 kvs (en 0 (ms.take i)))
      ⟨[], same_upd nD, upd_same, .nil⟩ (fun i H3 _ ⟨_, sm, _⟩ => SqL.of (sm _ _ L2)) ?_ ?_⟩
    · rintro i v H3 Tn hv ⟨kvs, sm, eD, st⟩ nT
      rw [List.getElem?_map] at hv
      obtain ⟨t, ht, rfl⟩ := Option.map_eq_some_iff.mp hv
      obtain ⟨m, hm, em⟩ := hM.at i t ht
      have ntx : t ≠ x := ne_of em hx (fun z => by cases z)
      have sT := same_upd (H := H3) (o := .tup [.int (i : Nat), .ref t]) nT
      have e3 : H3 t = some (t4 m) := sm _ _ (off2 _ _ em ntx)
      have hi : i < ms.length := (List.getElem?_eq_some_iff.mp hm).1
      have sl := st.length
      rw [en_length, List.length_take] at sl
      refine ⟨Tn, _, rfl, SqT.of upd_same, rfl, .int (i : Nat), _, rfl, .ref t, _, rfl, rfl, rfl, .int (i : Nat), rfl, ?_⟩
      refine ⟨.ref t, rfl, t, m.1, m.2.1, m.2.2.1, m.2.2.2, rfl, sT _ _ e3, fun r H4 s4 e4 => ?_⟩
      have sm4 : Same H3 H4 := sT.trans s4
      refine ⟨kvs, Sum.inl ((i : Nat) : Int), rfl, sm4 _ _ eD, sz_lt (by omega), putK kvs (Sum.inl ((i : Nat) : Int)) (.ref r), fun b o hb => ?_, upd_same, ?_⟩
      · rw [upd_ne (ne_of_none hb nD)]
        exact sm4 _ _ (sm _ _ hb)
      · have hno : valV kvs (Sum.inl ((i : Nat) : Int)) = none := (st.get _).1 (en_none (.inr (by rw [List.length_take]; omega)))
        rw [putK_new _ hno, List.take_add_one, hm, show (some m).toList = [m] from rfl, en_snoc]
        have kt : KeepT H4 (upd H4 D (.dK (kvs ++ [(Sum.inl ((i : Nat) : Int), .ref r)]))) := fun b xs hb => by
          rw [upd_ne (ne_of hb (sm4 _ _ eD) (fun z => by cases z))]
          exact hb
        refine Std.snoc (s := (((0 + (ms.take i).length : Nat) : Int), nrm m)) ⟨?_, r, rfl, kt _ _ e4⟩ (st.keep fun b xs hb => kt _ _ (sm4 _ _ hb))
        show Sum.inl ((i : Nat) : Int) = Sum.inl (((0 + (ms.take i).length : Nat) : Int))
        rw [List.length_take, Nat.min_eq_left (by omega), Nat.zero_add]
    · rintro H3 ⟨kvs, sm, eD, st⟩
      have e1 := hM.length
      rw [List.length_map, e1, List.take_length] at st
      refine ⟨.ref x, rfl, x, C, dx, _, rfl, sm _ _ x2, T.cl, T.nS, by show 1 < 1000; decide, ?_⟩
      have nDx : D ≠ x := (ne_of_none x2 nD).symm
      -- past
      refine ⟨Nat.zero_le _, fun q nq => ?_⟩
      have nqx : q ≠ x := fun z => by
        rw [z, upd_same] at nq
        cases nq
      have nqD : q ≠ D := fun z => by
        rw [z, upd_ne nDx, eD] at nq
        cases nq
      have nq3 : H3 q = none := by
        rw [upd_ne nqx] at nq
        exact nq
      refine ⟨.ref x, rfl, x, C, dx, _, rfl, by rw [upd_ne nqx.symm]; exact upd_same, T.cl, T.nP, ?_, ?_⟩
      · show 2 < 1000
        decide
      rw [show putF ("past" : Str) (V.ref q) (putF ("standing" : Str) (V.ref D) (putF ("edge" : Str) (V.int n) [])) = fr n D q from fr_make n D q]
      refine qq _ D q ⟨⟨dx, upd_same⟩, ⟨kvs, ?_, st.keep fun b xs hb => ?_⟩, ?_, en_up 0 ms, by rw [en_length]; omega⟩ (free2 _ nD) (free2 _ (sm.free nq3)) fun b o hb nb => ?_
      · rw [upd_ne nDx, upd_ne nqD.symm, upd_ne nDx]
        exact eD
      · have nbx : b ≠ x := ne_of hb (sm _ _ x2) (fun z => by cases z)
        rw [upd_ne nbx, upd_ne (ne_of_none hb nq3), upd_ne nbx]
        exact hb
      · rw [upd_ne nqx]
        exact upd_same
      · have hb3 := sm _ _ (off2 _ _ hb nb)
        rw [upd_ne nb, upd_ne (ne_of_none hb3 nq3), upd_ne nb]
        exact hb3
end

/-! ### sorted(d.items()) of a dict with rising int keys whose values are objects -/
namespace SIt
open PySem PySem.W PySem.Calls PyProof.Rows PyProof.V PySem.Spec
section
variable {prog : Program} {w : World} {A : Around} {E : Value → Shared → Prop} {s : Shared}
theorem eqBool_self {t : Addr} {Q : Bool → Shared → Prop} (h : Q true s) : wpAny (model prog w) A (eqBool (.ref t) (.ref t)) Q E s := by
  unfold eqBool
  refine wpAny_holding ?_
  rw [if_pos (show (Value.ref t == Value.ref t) = true from beq_self_eq_true _)]
  exact wpAny_bind (wpAny_rule (wpAny_pure h))
/-- the tuple (k, the object at u) -/
def PairK (h : Heap) (v : Value) (k : Int) (u : Addr) : Prop := ∃ (a : Addr) (t : Tok), v = .ref a ∧ IsTup h a #[.int k t, .ref u]
def intOf : Option Value → Int
  | some (.int x _) => x
  | _ => 0
def keyI (h : Heap) (v : Value) : Int := intOf (DT.seqAt0 h (DT.refOf (some v)))
theorem PairK.key {h : Heap} {v : Value} {k : Int} {u : Addr} (x : PairK h v k u) : keyI h v = k := by
  obtain ⟨a, t, rfl, h1⟩ := x
  show intOf (DT.seqAt0 h a) = k
  rw [DT.seqAt0_of h1]
  rfl
theorem firstsK {h : Heap} : ∀ vs : List Value, (∀ v ∈ vs, ∃ k u, PairK h v k u) → ∃ fs : List Value, KatTups h vs fs ∧ fs.length = vs.length ∧ ∀ f ∈ fs, ∃ (k : Int) (t : Tok), f = Value.int k t
  | [], _ => ⟨[], KatTups.nil, rfl, fun f hf => by simp at hf⟩
  | v :: vs, x => by
    obtain ⟨fs, k, hl, hi⟩ := firstsK vs fun u hu => x u (List.mem_cons_of_mem _ hu)
    obtain ⟨y, u, a, t, rfl, ⟨o, ho, hc, n, hd⟩⟩ := x v (List.mem_cons_self ..)
    refine ⟨.int y t :: fs, KatTups.cons ho hc hd rfl k, by rw [List.length_cons, List.length_cons, hl], fun f hf => ?_⟩
    rcases List.mem_cons.mp hf with rfl | hf
    · exact ⟨y, t, rfl⟩
    · exact hi f hf
theorem kind_k {vs : List Value} (h2 : 2 ≤ vs.length) (x : ∀ v ∈ vs, ∃ k u, PairK s.heap v k u) (inj : ∀ v ∈ vs, ∀ v' ∈ vs, keyI s.heap v = keyI s.heap v' → v = v') (Q : SortKind → Shared → Prop)
    (h : ∀ κ, TS.Cmp prog w A s κ (pairsOf vs) (fun v => keyI s.heap v) → Q κ s) : wpAny (model prog w) A (keyKind' vs.toArray) Q E s := by
  obtain ⟨fs, k, hl, hi⟩ := firstsK vs x
  refine kat_kind (T := Value.type "int") k (by omega) (fun f hf => ?_) rfl (h _ ?_)
  · obtain ⟨q, t, rfl⟩ := hi f hf
    exact PySem.W.Looks.now
  · have hb : (Value.type "int" != Value.type "tuple") = true := by first | rfl | decide | simp
    rw [hb]
    intro p q hp hq Q' E' hQ
    rw [pairsOf_toList] at hp hq
    have mp := (mem_zip_self hp).2
    have mq := (mem_zip_self hq).2
    obtain ⟨y, u, py⟩ := x _ mp
    obtain ⟨z, u', pz⟩ := x _ mq
    have hQ' : Q' (decide (y < z)) s := by
      have hQ2 : Q' (decide (keyI s.heap p.1 < keyI s.heap q.1)) s := hQ
      rw [py.key, pz.key] at hQ2
      exact hQ2
    by_cases e : y = z
    · have same : p.1 = q.1 := inj _ mp _ mq (by rw [py.key, pz.key]; exact e)
      have irr : decide (y < z) = false := decide_eq_false (by omega)
      rw [irr] at hQ'
      obtain ⟨a, t, e1, ⟨o, ho, hc, n, hd⟩⟩ := py
      rw [← same, e1]
      refine kat_lt ho hd ho hd ?_
      show KatLex prog w A true (decide ((#[Value.int y t, Value.ref u] : Array Value).size < (#[Value.int y t, Value.ref u] : Array Value).size)) Q' [(Value.int y t, Value.int y t), (Value.ref u, Value.ref u)] 0 s
      rw [show decide ((#[Value.int y t, Value.ref u] : Array Value).size < (#[Value.int y t, Value.ref u] : Array Value).size) = false from decide_eq_false (Nat.lt_irrefl _)]
      refine kat_cons (wpAny_eqBool_int ?_)
      rw [beq_self_eq_true]
      exact kat_yes (kat_cons (eqBool_self (kat_yes (kat_nil hQ'))))
    · obtain ⟨a, t, e1, ⟨o, ho, hc, n, hd⟩⟩ := py
      obtain ⟨a', t', e2, ⟨o', ho', hc', n', hd'⟩⟩ := pz
      rw [e1, e2]
      refine kat_lt ho hd ho' hd' ?_
      show KatLex prog w A true _ Q' [(Value.int y t, Value.int z t'), (Value.ref u, Value.ref u')] 0 s
      refine kat_cons (wpAny_eqBool_int ?_)
      rw [show (y == z) = false from beq_eq_false_iff_ne.mpr e]
      exact kat_no (TS.oneLt_ints _ hQ')
end
theorem pairs_get {prog : Program} {w : World} {κ : Type} [DecidableEq κ] {knd : KeyKind prog w κ} : ∀ {es : List DictEntry} {kvs : List (κ × Value)}, Pairs knd es kvs → ∀ (j : Nat) (e : DictEntry), es[j]? = some e → ∃ kv, kvs[j]? = some kv ∧ knd.is kv.1 e.key = true ∧ e.val = kv.2
  | _, _, .nil, j, e, h => by simp at h
  | _, _, .cons h1 h2 _, 0, e, h => by
    cases h
    exact ⟨_, rfl, h1, h2⟩
  | _, _, .cons _ _ r, j + 1, e, h => pairs_get r j e h
theorem pairs_len {prog : Program} {w : World} {κ : Type} [DecidableEq κ] {knd : KeyKind prog w κ} : ∀ {es : List DictEntry} {kvs : List (κ × Value)}, Pairs knd es kvs → es.length = kvs.length
  | _, _, .nil => rfl
  | _, _, .cons _ _ r => congrArg (· + 1) (pairs_len r)
/-- a permutation that rises is the one that rises strictly -/
theorem perm_rise {α : Type} {f : α → Int} : ∀ {xs ys : List α}, xs.Perm ys → xs.Pairwise (fun a b => f a ≤ f b) → ys.Pairwise (fun a b => f a < f b) → xs = ys
  | [], ys, p, _, _ => (List.Perm.nil_eq p)
  | x :: xs, [], p, _, _ => nomatch (List.Perm.eq_nil p)
  | x :: xs, y :: ys, p, h1, h2 => by
    have m1 : x ∈ y :: ys := p.subset List.mem_cons_self
    have m2 : y ∈ x :: xs := p.symm.subset List.mem_cons_self
    have e : x = y := by
      rcases List.mem_cons.mp m1 with z | z
      · exact z
      · rcases List.mem_cons.mp m2 with z' | z'
        · exact z'.symm
        · have a1 := (List.pairwise_cons.mp h1).1 _ z'
          have a2 := (List.pairwise_cons.mp h2).1 _ z
          omega
    subst e
    rw [perm_rise (List.Perm.cons_inv p) (List.pairwise_cons.mp h1).2 (List.pairwise_cons.mp h2).2]
end SIt
section
open PySem PySem.Spec PyProof.Rows
variable {X : Cx}
abbrev entK (e : Int × Addr) : Key × V := (Sum.inl e.1, V.ref e.2)
def rItemsK : V → List V → Hp → VK → Prop := fun x xs H Q => ∃ (a : Addr) (kvs : List (Key × V)), x = .ref a ∧ xs = [] ∧ H a = some (.dK kvs) ∧ ∀ p, H p = none → Q (.ref p) (upd H p (L2.DX.itemsO p a))
theorem mt_itemsK : MtR X "dict.items" rItemsK := by
  intro pins s σ H x xs v us Q I rx rxs h
  obtain ⟨a, kvs, rfl, rfl, ha, q⟩ := h
  cases rx
  cases rxs
  obtain ⟨z, hd, vs, rel, o, es, ep, ho, hx, hdat, _⟩ := dk_of I.hok ha
  refine DT.callItems (es := es) (ep := ep) hd ⟨o, ho, hx, hdat⟩ ?_
  have hf : H s.heap.objs.size = none := I.hok.fresh (Nat.le_refl _)
  exact ⟨.ref s.heap.objs.size, upd H s.heap.objs.size (L2.DX.itemsO s.heap.objs.size a), I.laid (t' := s.toks) (fun b u e => Heap.get?_push_of_some _ e) (Nat.le_refl _) (L2.DX.itemsO_ok (Heap.get?_push_size _ rfl)), rfl, q _ hf⟩
def rSortK : List V → Hp → VK → Prop := fun vs H Q => ∃ (p a : Addr) (ks : List (Int × Addr)), vs = [.ref p] ∧ H p = some (L2.DX.itemsO p a) ∧ H a = some (.dK (ks.map entK)) ∧ ks.length < 64 ∧ (ks.map (·.1)).Pairwise (· < ·) ∧
  ∀ (H' : Hp) (l : Addr) (as : List Addr), Same H H' → H l = none → H' l = some (.lst (as.map V.ref)) → Paired (fun (t : Addr) (e : Int × Addr) => H' t = some (.tup [.int e.1, .ref e.2])) as ks → Q (.ref l) H'
theorem paired_of {α β : Type} {F : α → β → Prop} : ∀ {as : List α} {bs : List β}, as.length = bs.length → (∀ (j : Nat) (a : α) (b : β), as[j]? = some a → bs[j]? = some b → F a b) → Paired F as bs
  | [], [], _, _ => .nil
  | [], _ :: _, h, _ => by cases h
  | _ :: _, [], h, _ => by cases h
  | a :: as, b :: bs, h, f => .cons (f 0 a b rfl rfl) (paired_of (Nat.succ.inj h) fun j x y hx hy => f (j + 1) x y hx hy)
theorem cr_sortedK (hc : X.calm = true) : CallR X (.builtin "sorted") rSortK := by
  intro pins s σ H xs us Q I r h
  obtain ⟨p, a, ks, rfl, hp, ha, h64, up, q⟩ := h
  obtain rfl := Vals.ref1 r
  have view : s.heap.IsItemsView p a := (show ObjOk X.prog X.w H s.heap p (L2.DX.itemsO p a) from I.hok p _ hp).1
  obtain ⟨z, hd, xs', rel, o, es, ep, ho, hx, hdat, _, hes, hn⟩ := dk_of I.hok ha
  have l1 : (ks.map entK).length = xs'.length := Paired.length rel
  rw [List.length_map] at l1
  have l2 : es.size = xs'.length := by rw [← Array.length_toList]; exact SIt.pairs_len hes
  have hh : X.A.handled = none := I.ok.hd hc
  refine DT.sortedI (es := es) (ep := ep) hh view ⟨o, ho, hx, hdat⟩ (by rw [sizeLine_eq]; omega) fun h' tk as hk hlt hl hG => ?_
  have lak : as.length = ks.length := by omega
  have nd : as.Nodup := List.Pairwise.imp (fun h => Nat.ne_of_lt h) hG.rise
  -- the pairs that were made
  have pr : ∀ (j : Nat) (b : Addr), as[j]? = some b → ∃ (e : Int × Addr) (t : Tok), ks[j]? = some e ∧ h'.get? b = some { cls := .type "tuple", data := .seq #[Value.int e.1 t, Value.ref e.2] } := by
    intro j b hj
    obtain ⟨en, he, hg⟩ := hG.pairs j b hj
    rw [← Array.getElem?_toList] at he
    obtain ⟨kv, hkv, k1, k2⟩ := SIt.pairs_get hes j en he
    obtain ⟨e0, he0, r1, r2⟩ := L2.DX.pget rel hkv
    rw [List.getElem?_map] at he0
    obtain ⟨e, hej, rfl⟩ := Option.map_eq_some_iff.mp he0
    have k1' : keyIs kv.1 en.key = true := k1
    rw [← r1] at k1'
    obtain ⟨t, et⟩ : ∃ t, en.key = Value.int e.1 t := by
      rcases keyIs_shape k1' with ⟨i, t, e1, e2⟩ | ⟨x, t, e1, e2⟩
      · cases e1
        exact ⟨t, e2⟩
      · cases e1
    have ev : en.val = Value.ref e.2 := k2.trans (show kv.2 = Value.ref e.2 from r2)
    exact ⟨e, t, hej, by rw [hg, et, ev]⟩
  -- the heap of the sort
  have hob : (h'.push { cls := .type "list", data := .seq (as.map Value.ref).toArray }).get? h'.objs.size = some (seqObj "list" (as.map Value.ref).toArray 0) := Heap.get?_push_size _ rfl
  have kb : ∀ b o, s.heap.get? b = some o → (h'.push { cls := .type "list", data := .seq (as.map Value.ref).toArray }).get? b = some o := fun b o e => Heap.get?_push_of_some _ (hk b o e)
  have ne0 : ∀ b o, h'.get? b = some o → b ≠ h'.objs.size := fun b o e => Nat.ne_of_lt (Heap.lt_size e)
  generalize hh2 : h'.push { cls := .type "list", data := .seq (as.map Value.ref).toArray } = h2 at hob kb ⊢
  have ka : ∀ b o, h'.get? b = some o → h2.get? b = some o := fun b o e => by rw [← hh2]; exact Heap.get?_push_of_some _ e
  have pin : ∀ (j : Nat) (b : Addr), as[j]? = some b → ∃ e : Int × Addr, ks[j]? = some e ∧ SIt.PairK (TS.midHeap h2 h'.objs.size (as.map Value.ref)) (.ref b) e.1 e.2 := by
    intro j b hj
    obtain ⟨e, t, he, hg⟩ := pr j b hj
    exact ⟨e, he, b, t, rfl, ⟨_, TS.midHeap_old (ne0 _ _ hg) (ka _ _ hg), rfl, 0, rfl⟩⟩
  have tx : ∀ (j : Nat) (b : Addr) (e : Int × Addr), as[j]? = some b → ks[j]? = some e → SIt.keyI (TS.midHeap h2 h'.objs.size (as.map Value.ref)) (.ref b) = e.1 := by
    intro j b e hj he
    obtain ⟨e', he', hp'⟩ := pin j b hj
    have ee : e' = e := Option.some.inj (he'.symm.trans he)
    rw [← ee]
    exact hp'.key
  have at_ : ∀ v ∈ as.map Value.ref, ∃ (j : Nat) (b : Addr) (e : Int × Addr), v = .ref b ∧ as[j]? = some b ∧ ks[j]? = some e := by
    intro v hv'
    obtain ⟨b, hb, rfl⟩ := List.mem_map.mp hv'
    obtain ⟨j, hj⟩ := List.mem_iff_getElem?.mp hb
    obtain ⟨e, _, he, _⟩ := pr j b hj
    exact ⟨j, b, e, rfl, hj, he⟩
  have inj : ∀ (i j : Nat) (e f : Int × Addr), ks[i]? = some e → ks[j]? = some f → e.1 = f.1 → i = j := by
    intro i j e f hi hj ef
    have ndk : (ks.map (·.1)).Nodup := List.Pairwise.imp (fun h => by omega) up
    have hi' : i < (ks.map (·.1)).length := by rw [List.length_map]; exact (List.getElem?_eq_some_iff.mp hi).1
    refine (List.getElem?_inj hi' ndk).mp ?_
    rw [List.getElem?_map, List.getElem?_map, hi, hj]
    exact congrArg some ef
  refine wpAny_call_entry PyProof.Rows.slot_list_sort ⟨_, hob, rfl⟩ PyProof.Rows.entry_list_sort
    (SK.plain_sort (s := { s with heap := h2, toks := tk }) (r := fun v => SIt.keyI (TS.midHeap h2 h'.objs.size (as.map Value.ref)) v) hob (by rw [List.length_map]; omega) (fun h2' Qk hQk => ?_) fun ps out o1 o2 o3 => ⟨.none, rfl, ?_⟩) (PyProof.Rows.args_list_sort _)
  · refine SIt.kind_k (s := { s with heap := TS.midHeap h2 h'.objs.size (as.map Value.ref), toks := tk }) h2' (fun v hv' => ?_) (fun v hv' u hu' ek => ?_) Qk hQk
    · obtain ⟨j, b, e, rfl, hj, he⟩ := at_ v hv'
      obtain ⟨e', _, hp'⟩ := pin j b hj
      exact ⟨e'.1, e'.2, hp'⟩
    · obtain ⟨j, b, e, rfl, hj, he⟩ := at_ v hv'
      obtain ⟨j2, b2, e2, rfl, hj2, he2⟩ := at_ u hu'
      have ek' : SIt.keyI (TS.midHeap h2 h'.objs.size (as.map Value.ref)) (.ref b) = SIt.keyI (TS.midHeap h2 h'.objs.size (as.map Value.ref)) (.ref b2) := ek
      rw [tx j b e hj he, tx j2 b2 e2 hj2 he2] at ek'
      have ij := inj j j2 e e2 he he2 ek'
      subst ij
      rw [hj] at hj2
      rw [Option.some.inj hj2]
  · show EP X pins σ Q (.ref h'.objs.size) { s with heap := sortedHeap h2 h'.objs.size (as.map Value.ref) out, toks := tk }
    obtain ⟨zs, pz, ez⟩ := perm_lift (fun z : Addr × Int × Addr => (Value.ref z.1, Value.ref z.1)) o2 (as.zip ks) (L2.DX.zip_self Value.ref as ks lak)
    have idx : ∀ z ∈ as.zip ks, ∃ j : Nat, as[j]? = some z.1 ∧ ks[j]? = some z.2 := by
      intro z' hz'
      obtain ⟨j, hj⟩ := List.mem_iff_getElem?.mp hz'
      exact ⟨j, List.getElem?_zip_eq_some.mp hj⟩
    have m2 : (as.zip ks).map (·.2) = ks := List.map_snd_zip (by rw [lak]; exact Nat.le_refl _)
    have m1 : (as.zip ks).map (·.1) = as := List.map_fst_zip (by rw [lak]; exact Nat.le_refl _)
    have hsort : zs.Pairwise (fun e f => e.2.1 ≤ f.2.1) := by
      rw [← ez, List.pairwise_map] at o3
      refine List.Pairwise.imp_of_mem (fun {x y} hx hy h => ?_) o3
      obtain ⟨j, j1, j2⟩ := idx x (pz.mem_iff.mp hx)
      obtain ⟨i, i1, i2⟩ := idx y (pz.mem_iff.mp hy)
      have h' : SIt.keyI (TS.midHeap h2 h'.objs.size (as.map Value.ref)) (.ref x.1) ≤ SIt.keyI (TS.midHeap h2 h'.objs.size (as.map Value.ref)) (.ref y.1) := h
      rw [tx j _ _ j1 j2, tx i _ _ i1 i2] at h'
      exact h'
    have hrise : (as.zip ks).Pairwise (fun e f => e.2.1 < f.2.1) := by
      have e : ((as.zip ks).map (fun z => z.2.1)).Pairwise (· < ·) := by
        rw [show (as.zip ks).map (fun z => z.2.1) = ((as.zip ks).map (·.2)).map (·.1) by rw [List.map_map]; rfl, m2]
        exact up
      exact List.pairwise_map.mp e
    have ezs : zs = as.zip ks := SIt.perm_rise (f := fun z : Addr × Int × Addr => z.2.1) pz hsort hrise
    subst ezs
    have hout : out.toList = as.map Value.ref := by
      rw [o1, ← ez, List.map_map]
      show (as.zip ks).map (fun z => Value.ref z.1) = as.map Value.ref
      rw [show (as.zip ks).map (fun z => Value.ref z.1) = ((as.zip ks).map (·.1)).map Value.ref by rw [List.map_map]; rfl, m1]
    -- behind the sort
    have kF : ∀ b o, b ≠ h'.objs.size → h2.get? b = some o → (sortedHeap h2 h'.objs.size (as.map Value.ref) out).get? b = some o := fun b o hb e => (PyProof.Rows.sortedHeap_old hb (Heap.lt_size e)).trans e
    have kS : ∀ b o, s.heap.get? b = some o → (sortedHeap h2 h'.objs.size (as.map Value.ref) out).get? b = some o := fun b o e => kF b o (ne0 _ _ (hk b o e)) (kb b o e)
    obtain ⟨eF, heF⟩ := PyProof.Rows.sortedHeap_at (vs := as.map Value.ref) (out := out) hob
    have I1 : Inv X pins σ H { s with heap := sortedHeap h2 h'.objs.size (as.map Value.ref) out, toks := tk } := I.kept (t' := tk) kS
    have hn0 : H h'.objs.size = none := I.hok.fresh (Nat.le_of_lt hlt)
    have hlen : (as.map V.ref).length ≤ sizeLine := by
      rw [List.length_map, sizeLine_eq]
      omega
    have rv : Vals (as.map V.ref) out.toList := by
      rw [hout]
      exact LiI.vals_refs as
    have I2 : Inv X pins σ (upd H h'.objs.size (.lst (as.map V.ref))) { s with heap := sortedHeap h2 h'.objs.size (as.map Value.ref) out, toks := tk } :=
      I1.take (h' := sortedHeap h2 h'.objs.size (as.map Value.ref) out) (t' := tk) (fun b ob _ e => e) (I.fpOk (Nat.le_of_lt hlt) hn0) ⟨hlen, out.toList, eF, rv, heF⟩
    obtain ⟨H2, I3, g, qt⟩ := L2.DX.takeT (P := fun b vs => ∃ (j : Nat) (e : Int × Addr), as[j]? = some b ∧ ks[j]? = some e ∧ vs = [.int e.1, .ref e.2]) I as _ I2 nd fun b hb => by
      obtain ⟨j, hj⟩ := List.mem_iff_getElem?.mp hb
      obtain ⟨e, t, he, hg⟩ := pr j b hj
      have hbl : s.heap.objs.size ≤ b := Nat.le_of_lt (hG.above b hb)
      refine ⟨hbl, ?_, [.int e.1, .ref e.2], ⟨j, e, hj, he, rfl⟩, fun H3 => ⟨(by rw [sizeLine_eq]; show 2 ≤ 16777216; omega), [Value.int e.1 t, Value.ref e.2], .cons ⟨t, rfl⟩ (.cons rfl .nil), ⟨_, kF _ _ (ne0 _ _ hg) (ka _ _ hg), rfl, 0, rfl⟩⟩⟩
      rw [upd_ne (ne0 _ _ hg)]
      exact I.hok.fresh hbl
    have gr : ∀ b o, H b = some o → H2 b = some o := fun b o e => g b o (by rw [upd_ne (ne_of_none e hn0)]; exact e)
    refine ⟨.ref h'.objs.size, H2, I3, rfl, q H2 h'.objs.size as gr hn0 (g _ _ upd_same) (paired_of lak fun j b e hj he => ?_)⟩
    obtain ⟨vs, ⟨i, e', i1, i2, ev⟩, hH⟩ := qt b (List.mem_of_getElem? hj)
    have eij : i = j := (List.getElem?_inj (List.getElem?_eq_some_iff.mp i1).1 nd).mp (i1.trans hj.symm)
    subst eij
    have ee : e' = e := Option.some.inj (i2.symm.trans he)
    rw [hH, ev, ee]
end

/-! ### max(xs, default=d), xs a list of ints -/
section
open PySem.Spec PyProof.Rows
variable {prog : Program} {w : World} {A : Around} {E : Value → Shared → Prop} {s : Shared} {l : Addr}
theorem old_of_push {ob : Obj} {g : Heap} (hk : ∀ b o, b ∉ [s.heap.objs.size] → (s.heap.push ob).get? b = some o → g.get? b = some o) {b : Addr} {o : Obj} (e : s.heap.get? b = some o) : g.get? b = some o :=
  hk b o (fun z => Nat.lt_irrefl _ ((List.mem_singleton.mp z) ▸ Heap.lt_size e)) (Heap.get?_push_of_some _ e)
theorem max_dflt {its : List Value} {ns : List Int} {d : Value} {Q : Value → Shared → Prop} (hh : A.handled = none) (hl : s.heap.IsList l its.toArray) (hi : IntsAre its ns)
    (h0 : ns = [] → ∀ g tk, (∀ b o, s.heap.get? b = some o → g.get? b = some o) → Q d { s with heap := g, toks := tk })
    (h1 : ∀ g tk M t, (∀ b o, s.heap.get? b = some o → g.get? b = some o) → M ∈ ns → (∀ a, a ∈ ns → a ≤ M) → Q (.int M t) { s with heap := g, toks := tk }) :
    wpAny (model prog w) A (call (.builtin "max") [.ref l] [(Str.ofString "default", d)]) Q E s := by
  obtain ⟨xs, e⟩ := hi.allInts.items
  have hn : numsOf (intItems xs).toList = ns := by
    rw [← e]
    exact hi.numsOf
  rw [nums_intItems] at hn
  subst hn
  rw [e] at hl
  refine PySem.call_max_walkD (iter_any hl fun s2 e2 st hne => ?_)
  subst e2
  have hlt : l < s.heap.objs.size := by
    obtain ⟨_, q, _⟩ := hl
    exact Heap.lt_size q
  have hz : (intItems xs).size = xs.size := by simp [intItems]
  refine ⟨_, _, _, _, _, _, _, ⟨#[], {}⟩, fun i j => decide (numAt xs i > numAt xs j), rfl, (Walks.list (A := A.in1) hh _ l hne (intItems xs)).toS, st, fun b hb => ?_, fun b o q => by simp [Heap.get?] at q, fun b o q => by simp [Heap.get?] at q, fun hn s' mv => ?_, fun hn => ⟨fun i j vi vj s0 Q' E' _ pi pj q => ?_, fun v s' pv mv => ?_⟩⟩
  · rw [Heap.size_push]
    rcases List.mem_cons.mp hb with rfl | hb
    · exact Nat.lt_succ_self _
    · rcases List.mem_cons.mp hb with rfl | hb
      · exact Nat.lt_succ_of_lt hlt
      · cases hb
  · have hx : xs.toList.map (·.1) = [] := by
      rw [hz] at hn
      rw [List.map_eq_nil_iff, ← List.length_eq_zero_iff, Array.length_toList]
      exact hn
    obtain ⟨hp, hg, hd, ht, ho⟩ := s'
    obtain ⟨m1, m2, m3, m4, m5⟩ := mv
    simp only at m2 m3 m4
    subst m2 m3 m4
    exact h0 hx hp ht fun b o q => old_of_push m1 q
  · exact CmpOf.ints_gt (numAt xs) (fun _ _ => intItems_at) i j vi vj s0 Q' E' pi pj q
  · obtain ⟨t, rfl⟩ := intItems_at pv
    rw [hz] at hn
    obtain ⟨a1, a2⟩ := argBest_gt (numAt xs) (xs.size - 1)
    obtain ⟨hp, hg, hd, ht, ho⟩ := s'
    obtain ⟨m1, m2, m3, m4, m5⟩ := mv
    simp only at m2 m3 m4
    subst m2 m3 m4
    rw [hz]
    refine h1 hp ht _ t (fun b o q => old_of_push m1 q) ?_ fun a ha => ?_
    · rw [numAt_eq]
      exact PySem.getD_mem (by rw [List.length_map, Array.length_toList]; omega)
    · obtain ⟨j, hj, rfl⟩ := mem_getD ha
      rw [List.length_map, Array.length_toList] at hj
      rw [← numAt_eq]
      exact a2 j (by omega)
end
def rMaxDf (K : PySem.W.Frag) : List V → List V → Hp → VK → Prop := fun vs zs H Q => ∃ (a : Addr) (ns : List Int) (d : V), vs = [.ref a] ∧ zs = [d] ∧ SqL K H a (ns.map V.int) ∧ (ns = [] → Q d H) ∧ ∀ m, m ∈ ns → (∀ y, y ∈ ns → y ≤ m) → Q (.int m) H
theorem cr_maxDf {X : Cx} (hc : X.calm = true) : CallRK X (.builtin "max") ["default"] (rMaxDf X.K) := by
  intro pins s σ H vs zs us ws Q I r1 r2 h
  obtain ⟨a, ns, d, rfl, rfl, hs, q0, q1⟩ := h
  obtain ⟨its, rv, hl, _⟩ := I.list hs
  rw [Vals.ref1 r1]
  cases r2 with
  | cons rd rn =>
    cases rn
    exact max_dflt (I.ok.hd hc) hl.isList rv.ints (fun e g tk hk => ⟨d, H, I.kept hk, rd, q0 e⟩) fun g tk m t hk h1 h2 => ⟨.int _, H, I.kept hk, ⟨_, rfl⟩, q1 m h1 h2⟩

def xorP (f g : Int) : Int := if f = g then 0 else 1
theorem xor_is {f g : Int} (hf : f = 0 ∨ f = 1) (hg : g = 0 ∨ g = 1) : Builtin.bitXor f g = xorP f g := by
  rcases hf with rfl | rfl <;> rcases hg with rfl | rfl <;> decide
theorem mod2_is {f g : Int} (hf : f = 0 ∨ f = 1) (hg : g = 0 ∨ g = 1) : (f + g) % 2 = xorP f g := by
  rcases hf with rfl | rfl <;> rcases hg with rfl | rfl <;> decide

/-! ### a road that is being folded, as data -/
inductive Ev where
  | bare (m e : Int)
  | fold (m e lo st f : Int)
structure FS where
  e : Int
  S : StL
  L : List Ev
def evV : Ev → List V
  | .bare m e => [.str "bare", .int m, .int e]
  | .fold m e lo st f => [.str "fold", .int m, .int e, .int lo, .int st, .int f]
inductive Mo where
  | idle (i : Int)
  | halve (i : Int)
  | merge (i j : Int)
  | lead (j d i : Int)
  | fold (i m : Int)
  | bare (m : Int)
def moV : Mo → List V
  | .idle i => [.str "idle", .int i]
  | .halve i => [.str "halve", .int i]
  | .merge i j => [.str "merge", .int i, .int j]
  | .lead j d i => [.str "lead", .int j, .int d, .int i]
  | .fold i m => [.str "fold", .int i, .int m]
  | .bare m => [.str "bare", .int m]
abbrev xLead (x : M4) : Bool := isLead x.1 x.2.1 x.2.2.1 x.2.2.2
/-- the ends of all but one -/
def endsL (S : StL) (b : Option Int) : List Int := (S.filter fun s => decide (b ≠ some s.1)).map fun s => s.2.2.1 + s.2.2.2.1
def rch (S : StL) (b : Option Int) : Int := (endsL S b).foldl max 0
def ledB (w : M4) (at_ m : Int) : Int := if w.2.2.2 = 1 then w.1 + w.2.2.1 - (at_ - w.2.1) - m else w.1 + (at_ - w.1) % (w.2.1 - w.1)
def leadX (x w : M4) (d : Int) : Option M4 :=
  if (d = 0 ∨ d = 1) ∧ xLead w = true ∧ w.2.1 ≤ (if d = 1 then x.2.1 else x.1) ∧ (if d = 1 then x.2.1 else x.1) + x.2.2.1 ≤ w.2.1 + w.2.2.1 then
    some (nrm (if d = 1 then x.1 else ledB w x.1 x.2.2.1, if d = 1 then ledB w x.2.1 x.2.2.1 else x.2.1, x.2.2.1, xorP x.2.2.2 w.2.2.2)) else none
def leadS (S : StL) (j d i : Int) : Option StL := if i = j then none else match sget S j, sget S i with
  | some x, some w => (leadX x w d).map fun y => sput S j y
  | _, _ => none
def idleS (S : StL) (i : Int) : Option StL := match sget S i with
  | some x => if x.2.2.2 = 0 ∧ x.1 = x.2.1 then some (sdrop S i) else none
  | none => none
/-- what a fold leaves of the mating x, cut at m -/
def cutX (x : M4) (m : Int) : M4 := (if x.2.2.2 = 1 then x.1 + x.2.2.1 - (m - x.2.1) else x.1, x.2.1, m - x.2.1, x.2.2.2)
def foldS (X : FS) (i m : Int) : Option FS := match sget X.S i with
  | some x => if xLead x = true ∧ x.2.1 + x.2.2.1 = X.e ∧ x.2.1 ≤ m ∧ m < X.e ∧ rch X.S (some i) ≤ m then
      some ⟨m, if m - x.2.1 = 0 then sdrop X.S i else sput X.S i (cutX x m), X.L ++ [.fold m X.e x.1 (if x.2.2.2 = 1 then 0 else x.2.1 - x.1) x.2.2.2]⟩ else none
  | none => none
def bareS (X : FS) (m : Int) : Option FS := if rch X.S none ≤ m ∧ m < X.e then some ⟨m, X.S, X.L ++ [.bare m X.e]⟩ else none
def mkS (X : FS) : Mo → Option FS
  | .idle i => (idleS X.S i).map fun S => ⟨X.e, S, X.L⟩
  | .halve i => (halveS X.S i).map fun S => ⟨X.e, S, X.L⟩
  | .merge i j => (mergeS X.S i j).map fun S => ⟨X.e, S, X.L⟩
  | .lead j d i => (leadS X.S j d i).map fun S => ⟨X.e, S, X.L⟩
  | .fold i m => foldS X i m
  | .bare m => bareS X m
/-- a mating below e, told with its lesser stretch first -/
structure Rok (e : Int) (x : M4) : Prop where
  o0 : 0 ≤ x.1
  op : x.1 ≤ x.2.1
  m1 : 1 ≤ x.2.2.1
  pe : x.2.1 + x.2.2.1 ≤ e
  f01 : x.2.2.2 = 0 ∨ x.2.2.2 = 1
structure WF (X : FS) : Prop where
  e0 : 0 ≤ X.e
  e1 : X.e ≤ 1000000000000000000
  r : ∀ s ∈ X.S, Rok X.e s.2
  up : (X.S.map (·.1)).Pairwise (· < ·)
  len : X.S.length ≤ 24
theorem sget_in : ∀ {S : StL} {i : Int} {x : M4}, sget S i = some x → (i, x) ∈ S
  | s :: r, i, x, h => by
    have h' : (if s.1 = i then some s.2 else sget r i) = some x := h
    by_cases e : s.1 = i
    · rw [if_pos e] at h'
      cases h'
      rw [← e]
      exact List.mem_cons_self
    · rw [if_neg e] at h'
      exact List.mem_cons_of_mem _ (sget_in h')
theorem WF.at {X : FS} (h : WF X) {i : Int} {x : M4} (e : sget X.S i = some x) : Rok X.e x := h.r _ (sget_in e)
theorem sput_mem {S : StL} {i : Int} {x : M4} {s : Int × M4} (h : s ∈ sput S i x) : (s.1 = i ∧ s.2 = x) ∨ s ∈ S ∧ s.1 ≠ i := by
  obtain ⟨t, ht, e⟩ := List.mem_map.mp h
  by_cases z : t.1 = i
  · rw [if_pos z] at e
    rw [← e]
    exact .inl ⟨z, rfl⟩
  · rw [if_neg z] at e
    rw [← e]
    exact .inr ⟨ht, z⟩
theorem sdrop_mem {S : StL} {i : Int} {s : Int × M4} (h : s ∈ sdrop S i) : s ∈ S ∧ s.1 ≠ i := by
  obtain ⟨h1, h2⟩ := List.mem_filter.mp h
  exact ⟨h1, of_decide_eq_true h2⟩
theorem fold_max_ge (l : List Int) : ∀ a : Int, a ≤ l.foldl max a ∧ ∀ y ∈ l, y ≤ l.foldl max a := by
  induction l with
  | nil => exact fun a => ⟨Int.le_refl _, fun y h => by cases h⟩
  | cons z r ih =>
    intro a
    obtain ⟨h1, h2⟩ := ih (max a z)
    refine ⟨by show a ≤ r.foldl max (max a z); omega, fun y hy => ?_⟩
    show y ≤ r.foldl max (max a z)
    rcases List.mem_cons.mp hy with rfl | hy
    · omega
    · exact h2 y hy
theorem fold_max_in (l : List Int) : ∀ a : Int, l.foldl max a = a ∨ l.foldl max a ∈ l := by
  induction l with
  | nil => exact fun a => .inl rfl
  | cons z r ih =>
    intro a
    show r.foldl max (max a z) = a ∨ r.foldl max (max a z) ∈ z :: r
    rcases ih (max a z) with h | h
    · rw [h]
      by_cases q : a < z
      · exact .inr (by rw [show max a z = z by omega]; exact List.mem_cons_self)
      · exact .inl (by omega)
    · exact .inr (List.mem_cons_of_mem _ h)
/-- the greatest of the numbers, and 0 -/
theorem max_is {l : List Int} {M : Int} (h0 : 0 ≤ M) (h1 : M = 0 ∨ M ∈ l) (h2 : ∀ y ∈ l, y ≤ M) : M = l.foldl max 0 := by
  obtain ⟨g1, g2⟩ := fold_max_ge l 0
  have a : M ≤ l.foldl max 0 := by
    rcases h1 with h | h
    · omega
    · exact g2 M h
  have b : l.foldl max 0 ≤ M := by
    rcases fold_max_in l 0 with h | h
    · omega
    · exact h2 _ h
  omega
theorem endsL_mem {S : StL} {b : Option Int} {s : Int × M4} (hs : s ∈ S) (hb : b ≠ some s.1) : s.2.2.1 + s.2.2.2.1 ∈ endsL S b :=
  List.mem_map.mpr ⟨s, List.mem_filter.mpr ⟨hs, decide_eq_true hb⟩, rfl⟩
theorem rch_ge {S : StL} {b : Option Int} {s : Int × M4} (hs : s ∈ S) (hb : b ≠ some s.1) : s.2.2.1 + s.2.2.2.1 ≤ rch S b := (fold_max_ge _ 0).2 _ (endsL_mem hs hb)
theorem rch_0 (S : StL) (b : Option Int) : 0 ≤ rch S b := (fold_max_ge _ 0).1
theorem rch_le {X : FS} (h : WF X) (b : Option Int) : rch X.S b ≤ X.e := by
  rcases fold_max_in (endsL X.S b) 0 with z | z
  · have := h.e0
    unfold rch
    omega
  · obtain ⟨s, hs, e⟩ := List.mem_map.mp z
    have := (h.r s (List.mem_filter.mp hs).1).pe
    unfold rch
    omega
theorem nrm_id {x : M4} (h : x.1 ≤ x.2.1) : nrm x = x := by
  unfold nrm
  rw [if_neg (by omega), if_neg (by omega)]
theorem nrm_ok {e : Int} {x : M4} (h0 : 0 ≤ x.1) (h1 : 0 ≤ x.2.1) (hm : 1 ≤ x.2.2.1) (h2 : x.1 + x.2.2.1 ≤ e) (h3 : x.2.1 + x.2.2.1 ≤ e) (hf : x.2.2.2 = 0 ∨ x.2.2.2 = 1) : Rok e (nrm x) := by
  unfold nrm
  refine ⟨?_, ?_, hm, ?_, hf⟩
  · show 0 ≤ (if x.2.1 < x.1 then x.2.1 else x.1)
    split <;> omega
  · show (if x.2.1 < x.1 then x.2.1 else x.1) ≤ (if x.2.1 < x.1 then x.1 else x.2.1)
    split <;> omega
  · show (if x.2.1 < x.1 then x.1 else x.2.1) + x.2.2.1 ≤ e
    split <;> omega
theorem xor01 (f g : Int) : xorP f g = 0 ∨ xorP f g = 1 := by
  unfold xorP
  split
  · exact .inl rfl
  · exact .inr rfl
theorem ledB_ok {w : M4} {e at_ m : Int} (h : Rok e w) (hl : xLead w = true) (hm : 1 ≤ m) (h1 : w.2.1 ≤ at_) (h2 : at_ + m ≤ w.2.1 + w.2.2.1) : 0 ≤ ledB w at_ m ∧ ledB w at_ m + m ≤ e := by
  have g1 := h.o0
  have g2 := h.op
  have g3 := h.pe
  unfold ledB
  by_cases hf : w.2.2.2 = 1
  · rw [if_pos hf]
    have hl' : w.2.2.1 ≤ w.2.1 - w.1 := by
      have z : (if w.2.2.2 = 1 then decide (w.2.2.1 ≤ w.2.1 - w.1) else decide (1 ≤ w.2.1 - w.1)) = true := hl
      rw [if_pos hf] at z
      exact of_decide_eq_true z
    omega
  · rw [if_neg hf]
    have hl' : 1 ≤ w.2.1 - w.1 := by
      have z : (if w.2.2.2 = 1 then decide (w.2.2.1 ≤ w.2.1 - w.1) else decide (1 ≤ w.2.1 - w.1)) = true := hl
      rw [if_neg hf] at z
      exact of_decide_eq_true z
    have a1 := Int.emod_nonneg (at_ - w.1) (show w.2.1 - w.1 ≠ 0 by omega)
    have a2 := Int.emod_lt_of_pos (at_ - w.1) (show 0 < w.2.1 - w.1 by omega)
    omega
theorem lead_ok {x w y : M4} {e d : Int} (hx : Rok e x) (hw : Rok e w) (h : leadX x w d = some y) : Rok e y := by
  unfold leadX at h
  by_cases hc : (d = 0 ∨ d = 1) ∧ xLead w = true ∧ w.2.1 ≤ (if d = 1 then x.2.1 else x.1) ∧ (if d = 1 then x.2.1 else x.1) + x.2.2.1 ≤ w.2.1 + w.2.2.1
  · rw [if_pos hc] at h
    obtain ⟨hd, hl, h1, h2⟩ := hc
    cases h
    have b := ledB_ok hw hl hx.m1 h1 h2
    have g1 := hx.o0
    have g2 := hx.op
    have g3 := hx.pe
    by_cases z : d = 1
    · rw [if_pos z] at b
      simp only [if_pos z]
      exact nrm_ok (x := (x.1, ledB w x.2.1 x.2.2.1, x.2.2.1, xorP x.2.2.2 w.2.2.2)) g1 b.1 hx.m1 (by show x.1 + x.2.2.1 ≤ e; omega) b.2 (xor01 _ _)
    · rw [if_neg z] at b
      simp only [if_neg z]
      exact nrm_ok (x := (ledB w x.1 x.2.2.1, x.2.1, x.2.2.1, xorP x.2.2.2 w.2.2.2)) b.1 (by show 0 ≤ x.2.1; omega) hx.m1 b.2 (by show x.2.1 + x.2.2.1 ≤ e; omega) (xor01 _ _)
  · rw [if_neg hc] at h
    cases h
theorem WF.drop {X : FS} (h : WF X) (i : Int) : WF ⟨X.e, sdrop X.S i, X.L⟩ := ⟨h.e0, h.e1, fun s hs => h.r s (sdrop_mem hs).1, sdrop_keys h.up, Nat.le_trans (sdrop_length _ _) h.len⟩
theorem WF.put {X : FS} (h : WF X) {i : Int} {y : M4} (hy : Rok X.e y) : WF ⟨X.e, sput X.S i y, X.L⟩ := by
  refine ⟨h.e0, h.e1, fun s hs => ?_, by rw [sput_keys]; exact h.up, by rw [sput_length]; exact h.len⟩
  rcases sput_mem hs with ⟨_, e⟩ | ⟨hs, _⟩
  · rw [e]
    exact hy
  · exact h.r s hs
theorem isRep_of {o p m f : Int} (h : isRep o p m f = true) : f = 0 ∧ 1 ≤ p - o ∧ p - o ≤ m := of_decide_eq_true h
theorem mrg_ok {x y z : M4} {e : Int} (hx : Rok e x) (hy : Rok e y) (h : mrg x y = some z) : Rok e z := by
  unfold mrg at h
  split at h
  · rename_i hc
    obtain ⟨r1, r2, _⟩ := hc
    cases h
    obtain ⟨_, a1, a2⟩ := isRep_of r1
    obtain ⟨_, b1, b2⟩ := isRep_of r2
    have g1 := hx.o0
    have g2 := hx.pe
    have g3 := hy.o0
    have g4 := hy.pe
    have hg1 : 1 ≤ Nat.gcd (x.2.1 - x.1).toNat (y.2.1 - y.1).toNat := Nat.gcd_pos_of_pos_left _ (by omega)
    have hg2 : Nat.gcd (x.2.1 - x.1).toNat (y.2.1 - y.1).toNat ≤ (x.2.1 - x.1).toNat := Nat.gcd_le_left _ (by omega)
    have hg3 : Nat.gcd (x.2.1 - x.1).toNat (y.2.1 - y.1).toNat ≤ (y.2.1 - y.1).toNat := Nat.gcd_le_right _ (by omega)
    generalize Nat.gcd (x.2.1 - x.1).toNat (y.2.1 - y.1).toNat = g at hg1 hg2 hg3 ⊢
    unfold imin imax
    refine ⟨?_, ?_, ?_, ?_, .inl rfl⟩
    · show 0 ≤ (if y.1 < x.1 then y.1 else x.1)
      split <;> omega
    · show (if y.1 < x.1 then y.1 else x.1) ≤ (if y.1 < x.1 then y.1 else x.1) + (g : Int)
      omega
    · show 1 ≤ (if y.2.1 + y.2.2.1 > x.2.1 + x.2.2.1 then y.2.1 + y.2.2.1 else x.2.1 + x.2.2.1) - (if y.1 < x.1 then y.1 else x.1) - (g : Int)
      split <;> split <;> omega
    · show (if y.1 < x.1 then y.1 else x.1) + (g : Int) + ((if y.2.1 + y.2.2.1 > x.2.1 + x.2.2.1 then y.2.1 + y.2.2.1 else x.2.1 + x.2.2.1) - (if y.1 < x.1 then y.1 else x.1) - (g : Int)) ≤ e
      split <;> omega
  · cases h
theorem half_ok {x : M4} {e : Int} (hx : Rok e x) (h : hlf x.1 x.2.1 x.2.2.1 ≠ 0) : Rok e (x.1, x.2.1 + x.2.2.1 - hlf x.1 x.2.1 x.2.2.1, hlf x.1 x.2.1 x.2.2.1, x.2.2.2) := by
  have g1 := hx.o0
  have g2 := hx.op
  have g3 := hx.pe
  have g4 := hx.m1
  have e0 : hlf x.1 x.2.1 x.2.2.1 = (x.2.1 + x.2.2.1 - x.1) / 2 := rfl
  generalize hlf x.1 x.2.1 x.2.2.1 = k at h e0 ⊢
  refine ⟨g1, ?_, ?_, ?_, hx.f01⟩
  · show x.1 ≤ x.2.1 + x.2.2.1 - k
    omega
  · show 1 ≤ k
    omega
  · show x.2.1 + x.2.2.1 - k + k ≤ e
    omega
theorem cut_ok {x : M4} {e m : Int} (hx : Rok e x) (hl : xLead x = true) (h1 : x.2.1 ≤ m) (h2 : m - x.2.1 ≠ 0) (h3 : m < x.2.1 + x.2.2.1) : Rok m (cutX x m) := by
  have g1 := hx.o0
  have g2 := hx.op
  unfold cutX
  by_cases hf : x.2.2.2 = 1
  · have hl' : x.2.2.1 ≤ x.2.1 - x.1 := by
      have z : (if x.2.2.2 = 1 then decide (x.2.2.1 ≤ x.2.1 - x.1) else decide (1 ≤ x.2.1 - x.1)) = true := hl
      rw [if_pos hf] at z
      exact of_decide_eq_true z
    rw [if_pos hf]
    exact ⟨by show 0 ≤ x.1 + x.2.2.1 - (m - x.2.1); omega, by show x.1 + x.2.2.1 - (m - x.2.1) ≤ x.2.1; omega, by show 1 ≤ m - x.2.1; omega, by show x.2.1 + (m - x.2.1) ≤ m; omega, hx.f01⟩
  · rw [if_neg hf]
    exact ⟨g1, g2, by show 1 ≤ m - x.2.1; omega, by show x.2.1 + (m - x.2.1) ≤ m; omega, hx.f01⟩
/-- a right move leaves a road that is well formed -/
theorem mkS_wf {X X' : FS} (h : WF X) : ∀ {mo : Mo}, mkS X mo = some X' → WF X'
  | .idle i, e => by
    obtain ⟨S, hS, rfl⟩ := Option.map_eq_some_iff.mp (show (idleS X.S i).map (fun S => (⟨X.e, S, X.L⟩ : FS)) = some X' from e)
    unfold idleS at hS
    split at hS
    · split at hS
      · cases hS
        exact h.drop i
      · cases hS
    · cases hS
  | .halve i, e => by
    obtain ⟨S, hS, rfl⟩ := Option.map_eq_some_iff.mp (show (halveS X.S i).map (fun S => (⟨X.e, S, X.L⟩ : FS)) = some X' from e)
    unfold halveS at hS
    split at hS
    · rename_i x hx
      split at hS
      · cases hS
      · split at hS
        · cases hS
          exact h.drop i
        · rename_i hz
          cases hS
          have k := half_ok (h.at hx) hz
          rw [nrm_id k.op]
          exact h.put k
    · cases hS
  | .merge i j, e => by
    obtain ⟨S, hS, rfl⟩ := Option.map_eq_some_iff.mp (show (mergeS X.S i j).map (fun S => (⟨X.e, S, X.L⟩ : FS)) = some X' from e)
    unfold mergeS at hS
    split at hS
    · cases hS
    · split at hS
      · rename_i x y hx hy
        obtain ⟨z, hz, rfl⟩ := Option.map_eq_some_iff.mp hS
        have k := mrg_ok (h.at hx) (h.at hy) hz
        rw [nrm_id k.op]
        exact WF.drop (X := ⟨X.e, sput X.S i z, X.L⟩) (h.put k) j
      · cases hS
  | .lead j d i, e => by
    obtain ⟨S, hS, rfl⟩ := Option.map_eq_some_iff.mp (show (leadS X.S j d i).map (fun S => (⟨X.e, S, X.L⟩ : FS)) = some X' from e)
    unfold leadS at hS
    split at hS
    · cases hS
    · split at hS
      · rename_i x w hx hw
        obtain ⟨z, hz, rfl⟩ := Option.map_eq_some_iff.mp hS
        exact h.put (lead_ok (h.at hx) (h.at hw) hz)
      · cases hS
  | .fold i m, e => by
    have e' : foldS X i m = some X' := e
    unfold foldS at e'
    split at e'
    · rename_i x hx
      split at e'
      · rename_i hc
        obtain ⟨hl, h1, h2, h3, h4⟩ := hc
        cases e'
        have k0 := h.at hx
        have others : ∀ s ∈ X.S, s.1 ≠ i → Rok m s.2 := fun s hs hn => by
          have r := h.r s hs
          have z := rch_ge hs (b := some i) (fun q => hn (Option.some.inj q).symm)
          exact ⟨r.o0, r.op, r.m1, by omega, r.f01⟩
        have hm0 : 0 ≤ m := Int.le_trans (rch_0 _ _) h4
        have hm1 : m ≤ 1000000000000000000 := by have := h.e1; omega
        by_cases z : m - x.2.1 = 0
        · rw [if_pos z]
          exact ⟨hm0, hm1, fun s hs => others s (sdrop_mem hs).1 (sdrop_mem hs).2, sdrop_keys h.up, Nat.le_trans (sdrop_length _ _) h.len⟩
        · rw [if_neg z]
          refine ⟨hm0, hm1, fun s hs => ?_, by rw [sput_keys]; exact h.up, by rw [sput_length]; exact h.len⟩
          rcases sput_mem hs with ⟨_, q⟩ | ⟨hs, hn⟩
          · rw [q]
            exact cut_ok k0 hl h2 z (by rw [h1]; exact h3)
          · exact others s hs hn
      · cases e'
    · cases e'
  | .bare m, e => by
    have e' : bareS X m = some X' := e
    unfold bareS at e'
    split at e'
    · rename_i hc
      cases e'
      refine ⟨Int.le_trans (rch_0 _ _) hc.1, by show m ≤ _; have := h.e1; omega, fun s hs => ?_, h.up, h.len⟩
      have r := h.r s hs
      have z : s.2.2.1 + s.2.2.2.1 ≤ rch X.S none := rch_ge hs (b := none) (fun q => by cases q)
      have z2 := hc.1
      exact ⟨r.o0, r.op, r.m1, by show s.2.2.1 + s.2.2.2.1 ≤ m; omega, r.f01⟩
    · cases e'

/-! ### a front, as the data tell it -/
def Past (H : Hp) (ps : List V) (L : List Ev) : Prop := Paired (fun v ev => ∃ t, v = V.ref t ∧ H t = some (.tup (evV ev))) ps L
theorem Past.keep {H H' : Hp} (k : KeepT H H') {ps : List V} {L : List Ev} (h : Past H ps L) : Past H' ps L := Paired.mapP h fun v ev ⟨t, e1, e2⟩ => ⟨t, e1, k _ _ e2⟩
theorem Past.length {H : Hp} : ∀ {ps : List V} {L : List Ev}, Past H ps L → ps.length = L.length
  | _, _, .nil => rfl
  | _, _, .cons _ r => congrArg (· + 1) (Past.length r)
theorem Past.snoc {H : Hp} {v : V} {ev : Ev} (hs : ∃ t, v = V.ref t ∧ H t = some (.tup (evV ev))) : ∀ {ps : List V} {L : List Ev}, Past H ps L → Past H (ps ++ [v]) (L ++ [ev])
  | _, _, .nil => .cons hs .nil
  | _, _, .cons h r => .cons h (Past.snoc hs r)
def FrS (C : Addr) (H : Hp) (a s q : Addr) (X : FS) : Prop := ∃ ps, FrAt C H a s q X.e X.S ps ∧ Past H ps X.L
theorem FrAt.offT {C : Addr} {H H' : Hp} {a s q : Addr} {e : Int} {S : StL} {ps : List V} (h : FrAt C H a s q e S ps) (o : Off a s q H H') : KeepT H H' := fun b xs hb => by
  obtain ⟨h1, h2, h3⟩ := h.ne_tup hb
  exact o _ _ hb h1 h2 h3
theorem FrS.same {C : Addr} {H H' : Hp} {a s q : Addr} {X : FS} (h : FrS C H a s q X) (k : Same H H') : FrS C H' a s q X := by
  obtain ⟨ps, h1, h2⟩ := h
  exact ⟨ps, h1.same k, h2.keep fun b xs hb => k _ _ hb⟩
/-- what stands behind a move: r the road then, or none where it is refused -/
def AfterS (C : Addr) (H : Hp) (a s q : Addr) (X : FS) (r : Option FS) (Q : VK) : Prop :=
  (r = none → ∀ H', FrS C H' a s q X → Off a s q H H' → Q (.bl false) H') ∧ ∀ X', r = some X' → ∀ H', FrS C H' a s q X' → Off a s q H H' → Q (.bl true) H'
theorem After.ofS {C : Addr} {H : Hp} {a s q : Addr} {X : FS} {ps : List V} {r : Option StL} {Q : VK} (fa : FrAt C H a s q X.e X.S ps) (hp : Past H ps X.L) (h : AfterS C H a s q X (r.map fun S => ⟨X.e, S, X.L⟩) Q) : After C H a s q X.e X.S ps r Q :=
  ⟨fun e H' f o => h.1 (by rw [e]; rfl) H' ⟨ps, f, hp.keep (fa.offT o)⟩ o, fun S' e H' f o => h.2 ⟨X.e, S', X.L⟩ (by rw [e]; rfl) H' ⟨ps, f, hp.keep (fa.offT o)⟩ o⟩
theorem putF_edge (e m : Int) (s q : Addr) : putF ("edge" : Str) (V.int m) (fr e s q) = fr m s q := by
  unfold fr putF
  rw [if_pos rfl]
theorem FrAt.edge {C dx : Addr} {H : Hp} {a s q : Addr} {e m : Int} {S : StL} {ps : List V} (h : FrAt C H a s q e S ps) : FrAt C (upd H a (.ins C dx (fr m s q))) a s q m S ps ∧ Off a s q H (upd H a (.ins C dx (fr m s q))) := by
  obtain ⟨⟨dx0, ea⟩, ⟨kvs0, es, st0⟩, eq, up, len⟩ := h
  have n1 : s ≠ a := ne_of es ea (fun z => by cases z)
  have n2 : q ≠ a := ne_of eq ea (fun z => by cases z)
  refine ⟨⟨⟨dx, upd_same⟩, ⟨kvs0, by rw [upd_ne n1]; exact es, st0.keep fun b xs hb => ?_⟩, by rw [upd_ne n2]; exact eq, up, len⟩, fun b o hb h1 _ _ => ?_⟩
  · rw [upd_ne (ne_of hb ea (fun z => by cases z))]
    exact hb
  · rw [upd_ne h1]
    exact hb
theorem FrAt.past {C : Addr} {H : Hp} {a s q : Addr} {e : Int} {S : StL} {ps ps' : List V} (h : FrAt C H a s q e S ps) : FrAt C (upd H q (.lst ps')) a s q e S ps' ∧ Off a s q H (upd H q (.lst ps')) := by
  obtain ⟨⟨dx0, ea⟩, ⟨kvs0, es, st0⟩, eq, up, len⟩ := h
  have n1 : s ≠ q := ne_of es eq (fun z => by cases z)
  have n2 : a ≠ q := ne_of ea eq (fun z => by cases z)
  refine ⟨⟨⟨dx0, by rw [upd_ne n2]; exact ea⟩, ⟨kvs0, by rw [upd_ne n1]; exact es, st0.keep fun b xs hb => ?_⟩, upd_same, up, len⟩, fun b o hb _ _ h3 => ?_⟩
  · rw [upd_ne (ne_of hb eq (fun z => by cases z))]
    exact hb
  · rw [upd_ne h3]
    exact hb
/-! ### leader, idle, bare, reach -/
abbrev s_Fleader : Stmt := inClass (top 31) 13
abbrev N_Fleader : List Str := ["self", "i", "mating"]
abbrev P_Fleader : List Str := ["self", "i"]
theorem sc_Fleader : FnScope N_Fleader P_Fleader (defScope s_Fleader) := ⟨rfl, rfl, rfl, by decide +kernel, rfl, by decide +kernel, by decide +kernel⟩
abbrev s_Fidle : Stmt := inClass (top 31) 7
abbrev N_Fidle : List Str := ["self", "i", "mating"]
abbrev P_Fidle : List Str := ["self", "i"]
theorem sc_Fidle : FnScope N_Fidle P_Fidle (defScope s_Fidle) := ⟨rfl, rfl, rfl, by decide +kernel, rfl, by decide +kernel, by decide +kernel⟩
abbrev s_Freach : Stmt := inClass (top 31) 14
abbrev N_Freach : List Str := ["self", "but", "i"]
abbrev P_Freach : List Str := ["self", "but"]
theorem sc_Freach : FnScope N_Freach P_Freach (defScope s_Freach) := ⟨rfl, rfl, rfl, by decide +kernel, rfl, by decide +kernel, by decide +kernel⟩
abbrev s_Fbare : Stmt := inClass (top 31) 12
abbrev N_Fbare : List Str := ["self", "m"]
abbrev P_Fbare : List Str := ["self", "m"]
theorem sc_Fbare : FnScope N_Fbare P_Fbare (defScope s_Fbare) := ⟨rfl, rfl, rfl, by decide +kernel, rfl, by decide +kernel, by decide +kernel⟩
def spLeader (C : Addr) : Sp := fun vs H Q _ => ∃ (a s q : Addr) (e i : Int) (S : StL) (ps : List V), vs = [.ref a, .int i] ∧ FrAt C H a s q e S ps ∧ (∀ x t, sget S i = some x → xLead x = true → H t = some (t4 x) → Q (.ref t) H) ∧ ((∀ x, sget S i = some x → xLead x = false) → Q .non H)
def spIdle (C : Addr) : Sp := fun vs H Q _ => ∃ (a s q : Addr) (i : Int) (X : FS), vs = [.ref a, .int i] ∧ FrS C H a s q X ∧ WF X ∧ AfterS C H a s q X (mkS X (.idle i)) Q
def spReach (C : Addr) : Sp := fun vs H Q _ => ∃ (a s q : Addr) (v : V) (b : Option Int) (X : FS), vs = [.ref a, v] ∧ ((v = .non ∧ b = none) ∨ ∃ i : Int, v = .int i ∧ b = some i) ∧ FrS C H a s q X ∧ WF X ∧ ∀ H', Same H H' → Q (.int (rch X.S b)) H'
def spBare (C : Addr) : Sp := fun vs H Q _ => ∃ (a s q : Addr) (m : Int) (X : FS), vs = [.ref a, .int m] ∧ FrS C H a s q X ∧ WF X ∧ X.L.length ≤ 1000 ∧ AfterS C H a s q X (mkS X (.bare m)) Q
section
variable {P : Program} {w : World} {K : PySem.W.Frag} {mg : Str → Option Value} {base : Heap} {C : Addr}
theorem ok_leader {f fL fS : Addr} {fd fdL fdS : FuncData} (F : Fun K "leader" "Front.leader" s_Fleader f fd) (T : FrT K mg C) (D_is_leader : DefAt K mg "is_leader" s_is_leader P_is_leader fL fdL) (D_step_of : DefAt K mg "step_of" s_step_of P_step_of fS fdS) : FnOk P w K mg base CX0 3 f fd P_Fleader (spLeader C) := by
  have G_is_leader : FnOk P w K mg base CX0 2 fL fdL P_is_leader spLead := ok_lead D_is_leader D_step_of
  refine F.ok sc_Fleader (fun vs H Q E h => ?_) (fun cdv A outer s H vs Q E hr h => ?_)
  · obtain ⟨a, s, q, e, i, S, ps, rfl, _⟩ := h
    rfl
  · obtain ⟨a, s, q, e, i, S, ps, rfl, fa, h1, h2⟩ := h
    have hu := hu_of hr
    refine ⟨_, (pss_cons (ps_set (i := 2) sc_Fleader.nd rfl (.inl rfl) (pe_dget1 hu (pe_fld (pv 0) rfl) (pv 1) ⟨rfl, rfl, rfl, rfl⟩))
      (pss_cons (ps_if (PW.pt (pw_or (pt_cmpR op_isN (pv 2) pe_non (nomark _)) (pw_or1 (pt_not (pt_val (pe_call G_is_leader (hr.mono (by omega)) (by rfl) D_is_leader.g D_is_leader.F.kp D_is_leader.b .nil pass0 (pa_cons (pv 2) pa_nil))))))) (pss_one (ps_ret pe_non)) pss_nil)
      (pss_one (ps_ret (pv 2))))), ?_⟩
    obtain ⟨dx, ea⟩ := fa.at_a
    obtain ⟨o, g, g1, g2⟩ := get_at (i := i) fa
    refine ⟨.ref a, rfl, a, C, dx, _, _, rfl, ea, T.cl, T.nS, fr_standing e s q, s, rfl, isD_of fa, .int i, rfl, o, g, ?_⟩
    cases hx : sget S i with
    | none =>
      rw [g1 hx]
      exact ⟨.non, rfl, rfl, _, rfl, iteT (h2 fun x z => by rw [hx] at z; cases z)⟩
    | some x =>
      obtain ⟨t, rfl, ht⟩ := g2 x hx
      refine ⟨.ref t, rfl, rfl, _, rfl, iteF ?_⟩
      refine ⟨.ref t, rfl, t, x.1, x.2.1, x.2.2.1, x.2.2.2, rfl, ht, _, rfl, ?_⟩
      by_cases hl : xLead x = true
      · rw [show isLead x.1 x.2.1 x.2.2.1 x.2.2.2 = true from hl]
        exact iteF ⟨.ref t, rfl, h1 x t hx hl ht⟩
      · rw [show isLead x.1 x.2.1 x.2.2.1 x.2.2.2 = false from Bool.eq_false_iff.mpr hl]
        exact iteT (h2 fun y z => by rw [hx] at z; cases z; exact Bool.eq_false_iff.mpr hl)
theorem ok_idle {f fP fS : Addr} {fd fdP fdS : FuncData} (F : Fun K "idle" "Front.idle" s_Fidle f fd) (T : FrT K mg C) (M_put : Meth K C "put" fP) (G_put : FnOk P w K mg base CX0 3 fP fdP P_Fput (spPut C)) (b_put : Binds K fdP P_Fput []) (D_step_of : DefAt K mg "step_of" s_step_of P_step_of fS fdS) :
    FnOk P w K mg base CX0 4 f fd P_Fidle (spIdle C) := by
  have G_step_of : FnOk P w K mg base CX0 1 fS fdS P_step_of spStep := ok_step D_step_of
  refine F.ok sc_Fidle (fun vs H Q E h => ?_) (fun cdv A outer s H vs Q E hr h => ?_)
  · obtain ⟨a, s, q, i, X, rfl, _⟩ := h
    rfl
  · obtain ⟨a, s, q, i, X, rfl, ⟨ps, fa, hp⟩, wf, af⟩ := h
    have hu := hu_of hr
    refine ⟨_, (pss_cons (ps_set (i := 2) sc_Fidle.nd rfl (.inl rfl) (pe_dget1 hu (pe_fld (pv 0) rfl) (pv 1) ⟨rfl, rfl, rfl, rfl⟩))
      (pss_cons (ps_if (PW.pt (pw_or (pt_cmpR op_isN (pv 2) pe_non (nomark _)) (pw_or (pt_cmpR op_eq (pe_ix ix_tup (pv 2) pe_int (fun _ _ => rfl)) pe_int (nomark _)) (pw_or1 (pt_cmpR op_ne (pe_call G_step_of (hr.mono (by omega)) (by rfl) D_step_of.g D_step_of.F.kp D_step_of.b .nil pass0 (pa_cons (pv 2) pa_nil)) pe_int (nomark _)))))) (pss_one (ps_ret pe_bl)) pss_nil)
      (pss_cons (ps_expr (pe_meth (pv 0) T.cl M_put G_put (hr.mono (by omega)) b_put .nil pass0 (pa_cons (pv 1) (pa_cons pe_non pa_nil))))
      (pss_one (ps_ret pe_bl))))), ?_⟩
    obtain ⟨dx, ea⟩ := fa.at_a
    obtain ⟨o, g, g1, g2⟩ := get_at (i := i) fa
    obtain ⟨h1, h2⟩ := After.ofS (r := idleS X.S i) fa hp af
    refine ⟨.ref a, rfl, a, C, dx, _, _, rfl, ea, T.cl, T.nS, fr_standing X.e s q, s, rfl, isD_of fa, .int i, rfl, o, g, ?_⟩
    unfold idleS at h1 h2
    cases hx : sget X.S i with
    | none =>
      rw [hx] at h1
      rw [g1 hx]
      exact ⟨.non, rfl, rfl, _, rfl, iteT (h1 rfl H fa (Off.of_same (Same.refl H)))⟩
    | some x =>
      rw [hx] at h1 h2
      obtain ⟨t, rfl, ht⟩ := g2 x hx
      have rk := wf.at hx
      refine ⟨.ref t, rfl, rfl, _, rfl, iteF ?_⟩
      refine ⟨.ref t, rfl, t, _, 3, .int x.2.2.2, rfl, rfl, SqT.of ht, at4_3, rfl, _, rfl, ?_⟩
      refine ite2 (fun h0 => ?_) (fun h0 => ?_)
      · have h0' : x.2.2.2 = 1 := V.int.inj (of_decide_eq_true h0)
        exact h1 (if_neg (by omega)) H fa (Off.of_same (Same.refl H))
      · have h0' : ¬ x.2.2.2 = 1 := fun z => h0 (decide_eq_true (congrArg V.int z))
        have hf : x.2.2.2 = 0 := rk.f01.resolve_right h0'
        refine ⟨.ref t, rfl, t, x.1, x.2.1, x.2.2.1, x.2.2.2, rfl, ht, rfl, _, rfl, ?_⟩
        by_cases hz : x.2.1 - x.1 = 0
        · refine iteNS (congrArg V.int hz) ?_
          have e2 := h2 (sdrop X.S i) (if_pos ⟨hf, by omega⟩)
          exact ⟨.ref a, rfl, a, dx, _, rfl, ea, put_no, .int i, rfl, a, s, q, X.e, i, X.S, ps, .non, x, rfl, fa, hx, .inl ⟨rfl, fun H' f1 f2 => e2 H' f1 f2⟩⟩
        · rw [decide_eq_false (show ¬ V.int (x.2.1 - x.1) = V.int 0 from fun z => hz (V.int.inj z))]
          exact h1 (if_neg (by omega)) H fa (Off.of_same (Same.refl H))
theorem ok_reach {f fE : Addr} {fd fdE : FuncData} (F : Fun K "reach" "Front.reach" s_Freach f fd) (T : FrT K mg C) (D_end_of : DefAt K mg "end_of" s_end_of P_end_of fE fdE) (B : Bn mg) : FnOk P w K mg base CX0 2 f fd P_Freach (spReach C) := by
  have G_end_of : FnOk P w K mg base CX0 1 fE fdE P_end_of spEnd := ok_end D_end_of
  refine F.ok sc_Freach (fun vs H Q E h => ?_) (fun cdv A outer s H vs Q E hr h => ?_)
  · obtain ⟨a, s, q, v, b, X, rfl, _⟩ := h
    rfl
  · obtain ⟨a, s, q, v, b, X, rfl, hb, ⟨ps, fa, hp⟩, wf, qq⟩ := h
    have hu := hu_of hr
    refine ⟨_, (pss_one (ps_ret (pe_callBK (cr_maxDf rfl) (by rfl) B.max (by decide +kernel) (pa_cons (pe_lock (pe_lc (own := [("i", 2)]) (g := gName 2) (by rfl) sc_Freach.nd (pi_keys (pe_fld (pv 0) rfl)) (blkOk_by (own := [("i", 2)]) (N := N_Freach) (sc := defScope s_Freach) (by decide +kernel)) (fun _ _ _ _ _ => (pg_name (i := 2) sc_Freach.nd rfl (.inl rfl))) (fun _ _ _ _ _ => (pts_one (pt_cmpR op_ne (pv 2) (pv 1) (nomark _)))) (fun _ _ _ _ _ => (pe_call G_end_of (hr.mono (by omega)) (by rfl) D_end_of.g D_end_of.F.kp D_end_of.b .nil pass0 (pa_cons (pe_dget hu (pe_fldK (K := K) rfl (pv 0) rfl) (pv 2) (fun _ _ => rfl)) pa_nil))))) pa_nil) (pk_cons pe_int pk_nil)))), ?_⟩
    obtain ⟨dx, ea⟩ := fa.at_a
    obtain ⟨kvs, es, st⟩ := fa.at_s
    have nas : a ≠ s := ne_of ea es (fun z => by cases z)
    have hl := fa.len
    have hkl := st.length
    have ntest : ∀ z : Int, scal (.int z) v = true ∧ (!decide (V.int z = v)) = decide (b ≠ some z) := fun z => by
      rcases hb with ⟨rfl, rfl⟩ | ⟨i, rfl, rfl⟩
      · refine ⟨rfl, ?_⟩
        rw [decide_eq_false (show ¬ V.int z = V.non from fun q => by cases q), decide_eq_true (show (none : Option Int) ≠ some z from fun q => by cases q)]
        rfl
      · refine ⟨rfl, ?_⟩
        by_cases e : z = i
        · rw [e, decide_eq_true rfl, decide_eq_false (fun q => q rfl)]
          rfl
        · rw [decide_eq_false (show ¬ V.int z = V.int i from fun q => e (V.int.inj q)), decide_eq_true (show some i ≠ some z from fun q => e (Option.some.inj q).symm)]
          rfl
    refine ⟨s, .dK kvs, es, trivial, fun od => ?_⟩
    have sl : ∀ {c : Addr} {o : HO}, H c = some o → c ≠ s → (upd H s (.frz od (.dK kvs))) c = some o := fun h n => by rw [upd_ne n]; exact h
    refine ⟨.ref a, rfl, a, C, dx, _, _, rfl, sl ea nas, T.cl, T.nS, fr_standing X.e s q, s, od, rfl, .inl ⟨kvs, upd_same, fun D nD => lc_it walk_keys (fun i H2 => ∃ ns : List Int, Same (upd H s (.frz od (.dK kvs))) H2 ∧ H2 D = some (.lst (ns.map V.int)) ∧ ns = endsL (X.S.take i) b)
      ⟨[], same_upd nD, upd_same, rfl⟩ (fun i H2 _ ⟨_, sm, _⟩ => sm _ _ upd_same) ?_ ?_⟩⟩
    · rintro i x H2 H3 hi ⟨ns, sm, eD, en⟩ ⟨rfl, k, v2, hk, rfl⟩
      obtain ⟨z, hz, e1, t, e2, e3⟩ := LiI.paired_get st hk
      have e1' : k = Sum.inl z.1 := e1
      subst e1'
      have e2' : v2 = V.ref t := e2
      subst e2'
      obtain ⟨tt, ht1, ht2⟩ := (st.get z.1).2 z.2 (sget_mem wf.up (List.mem_of_getElem? hz))
      have ntt : tt ≠ s := ne_of ht2 es (fun z => by cases z)
      obtain ⟨sc, nt⟩ := ntest z.1
      have hi' : i < X.S.length := (List.getElem?_eq_some_iff.mp hz).1
      have hle : ns.length ≤ i := by
        rw [en]
        unfold endsL
        rw [List.length_map]
        have := List.length_filter_le (fun s => decide (b ≠ some s.1)) (X.S.take i)
        rw [List.length_take] at this
        omega
      refine ⟨rfl, .int z.1, rfl, v, rfl, sc, _, rfl, ?_⟩
      rw [nt]
      have stepE : endsL (X.S.take (i + 1)) b = endsL (X.S.take i) b ++ (if decide (b ≠ some z.1) = true then [z.2.2.1 + z.2.2.2.1] else []) := by
        unfold endsL
        rw [List.take_add_one, hz, List.filter_append, List.map_append]
        congr 1
        show (List.filter (fun s => decide (b ≠ some s.1)) [z]).map _ = _
        simp only [List.filter_cons, List.filter_nil]
        by_cases q : decide (b ≠ some z.1) = true
        · rw [if_pos q, if_pos q]
          rfl
        · rw [if_neg q, if_neg q]
          rfl
      refine ite2 (fun h => ?_) (fun h => ?_)
      · rw [if_pos h] at stepE
        refine ⟨.ref a, rfl, a, C, dx, _, _, rfl, sm _ _ (sl ea nas), T.cl, T.nS, fr_standing X.e s q, .int z.1, rfl, s, .ref tt, rfl, .inl ⟨kvs, Sum.inl z.1, .inr ⟨od, sm _ _ upd_same⟩, rfl, ht1.symm⟩, ?_⟩
        refine ⟨tt, z.2.1, z.2.2.1, z.2.2.2.1, z.2.2.2.2, rfl, sm _ _ (sl ht2 ntt), ?_⟩
        refine ⟨_, eD, sz_lt (by rw [List.length_map]; omega), ns ++ [z.2.2.1 + z.2.2.2.1], fun c o hc => ?_, by rw [upd_same, List.map_append]; rfl, by rw [stepE, en]⟩
        rw [upd_ne (ne_of_none hc nD)]
        exact sm _ _ hc
      · rw [if_neg h, List.append_nil] at stepE
        exact ⟨ns, sm, eD, by rw [stepE, en]⟩
    · rintro H2 ⟨ns, sm, eD, en⟩
      rw [hkl, List.take_length] at en
      have nDs : D ≠ s := fun z => by
        rw [z, upd_same] at nD
        cases nD
      have fin : Same H (upd H2 s (.dK kvs)) := fun c o hc => by
        by_cases z : c = s
        · rw [z] at hc ⊢
          rw [es] at hc
          rw [upd_same]
          exact hc
        · rw [upd_ne z]
          exact sm _ _ (sl hc z)
      have pos : ∀ y ∈ ns, 0 ≤ y := fun y hy => by
        rw [en] at hy
        obtain ⟨z, hz, rfl⟩ := List.mem_map.mp hy
        have r := wf.r z (List.mem_filter.mp hz).1
        have := r.o0
        have := r.op
        have := r.m1
        omega
      refine ⟨sm _ _ upd_same, D, ns, .int 0, rfl, rfl, SqL.of (by rw [upd_ne nDs]; exact eD), fun e => ?_, fun m hm hle => ?_⟩
      · have z : rch X.S b = 0 := by
          unfold rch
          rw [← en, e]
          rfl
        rw [← z]
        exact qq _ fin
      · have z : m = rch X.S b := by
          unfold rch
          rw [← en]
          exact max_is (pos m hm) (.inr hm) hle
        rw [z]
        exact qq _ fin
theorem ok_bare {f fR : Addr} {fd fdR : FuncData} (F : Fun K "bare" "Front.bare" s_Fbare f fd) (T : FrT K mg C) (M_reach : Meth K C "reach" fR) (G_reach : FnOk P w K mg base CX0 2 fR fdR P_Freach (spReach C)) (b_reach : Binds K fdR P_Freach []) : FnOk P w K mg base CX0 3 f fd P_Fbare (spBare C) := by
  refine F.ok sc_Fbare (fun vs H Q E h => ?_) (fun cdv A outer s H vs Q E hr h => ?_)
  · obtain ⟨a, s, q, m, X, rfl, _⟩ := h
    rfl
  · obtain ⟨a, s, q, m, X, rfl, fS, wf, hL, h1, h2⟩ := h
    refine ⟨_, (pss_cons (ps_if (PW.pt (pw_or (pt_cmpR op_lt (pv 1) (pe_meth (pv 0) T.cl M_reach G_reach (hr.mono (by omega)) b_reach .nil pass0 (pa_cons pe_non pa_nil)) (nomark _)) (pw_or1 (pt_cmpR op_ge (pv 1) (pe_fld (pv 0) rfl) (nomark _))))) (pss_one (ps_ret pe_bl)) pss_nil)
      (pss_cons (ps_expr (pe_bm PySem.F.plainAttrs_list PySem.F.slot_list_append PySem.F.type_list_append mt_append (pe_fld (pv 0) rfl) (pa_cons (pe_tup (pa_cons pe_str (pa_cons (pv 1) (pa_cons (pe_fld (pv 0) rfl) pa_nil)))) pa_nil)))
      (pss_cons (ps_fld (pv 0) (pv 1) rfl)
      (pss_one (ps_ret pe_bl))))), ?_⟩
    have ea0 : ∃ dx, H a = some (.ins C dx (fr X.e s q)) := let ⟨_, fa, _⟩ := fS; fa.at_a
    obtain ⟨dx, ea⟩ := ea0
    refine ⟨.int m, rfl, .ref a, rfl, a, dx, _, rfl, ea, put_no, a, s, q, .non, none, X, rfl, .inl ⟨rfl, rfl⟩, fS, wf, fun H1 s1 => ?_⟩
    have f1 := fS.same s1
    obtain ⟨ps, fa, hp⟩ := id f1
    refine ⟨m, _, rfl, rfl, _, rfl, ?_⟩
    have no : ¬ (rch X.S none ≤ m ∧ m < X.e) → Q (.bl false) H1 := fun z => h1 (show bareS X m = none by unfold bareS; exact if_neg z) H1 f1 (Off.of_same s1)
    refine ite2 (fun h => ?_) (fun h => ?_)
    · exact no fun z => by have := of_decide_eq_true h; omega
    · have h' : ¬ m < rch X.S none := fun z => h (decide_eq_true z)
      refine ⟨.int m, rfl, .ref a, rfl, a, C, dx, _, _, rfl, s1 _ _ ea, T.cl, T.nE, fr_edge X.e s q, m, X.e, rfl, rfl, _, rfl, ?_⟩
      refine ite2 (fun h3 => ?_) (fun h3 => ?_)
      · exact no fun z => by have := of_decide_eq_true h3; omega
      · have h3' : ¬ X.e ≤ m := fun z => h3 (decide_eq_true z)
        have hq := fa.at_q
        have hpl := hp.length
        refine ⟨.ref a, rfl, a, C, dx, _, _, rfl, s1 _ _ ea, T.cl, T.nP, fr_past X.e s q, .inl ⟨rfl, _, SqL.of hq⟩, .int m, rfl, .ref a, rfl, a, C, dx, _, _, rfl, s1 _ _ ea, T.cl, T.nE, fr_edge X.e s q, by show 3 ≤ sizeLine; decide, fun t nt => ?_⟩
        have st := same_upd (H := H1) (o := .tup [.str "bare", .int m, .int X.e]) nt
        refine ⟨q, ps, _, rfl, rfl, st _ _ hq, sz_lt (by omega), ?_⟩
        have fa2 := fa.same st
        obtain ⟨fa3, o3⟩ := fa2.past (ps' := ps ++ [.ref t])
        obtain ⟨dx3, ea3⟩ := fa3.at_a
        refine ⟨.int m, rfl, .ref a, rfl, a, C, dx3, _, rfl, ea3, T.cl, T.nE, by show 3 < 1000; decide, ?_⟩
        rw [putF_edge]
        obtain ⟨fa4, o4⟩ := fa3.edge (dx := dx3) (m := m)
        have ks : KeepT (upd H1 t (.tup [.str "bare", .int m, .int X.e])) (upd (upd (upd H1 t (.tup [.str "bare", .int m, .int X.e])) q (.lst (ps ++ [.ref t]))) a (.ins C dx3 (fr m s q))) := fa2.offT (o3.trans o4)
        have eb : mkS X (.bare m) = some ⟨m, X.S, X.L ++ [.bare m X.e]⟩ := by
          show bareS X m = _
          unfold bareS
          exact if_pos ⟨by omega, by omega⟩
        refine h2 _ eb _ ⟨_, fa4, Past.snoc ⟨t, rfl, ks _ _ upd_same⟩ ((hp.keep fun b xs hb => st _ _ hb).keep ks)⟩ (((Off.of_same s1).trans (Off.of_same st)).trans (o3.trans o4))
end

/-! ### led_back, lead -/
abbrev s_led_back : Stmt := top 30
abbrev N_led_back : List Str := ["leader", "at", "many"]
abbrev P_led_back : List Str := ["leader", "at", "many"]
theorem sc_led_back : FnScope N_led_back P_led_back (defScope s_led_back) := ⟨rfl, rfl, rfl, by decide +kernel, rfl, by decide +kernel, by decide +kernel⟩
abbrev s_Flead : Stmt := inClass (top 31) 10
abbrev N_Flead : List Str := ["self", "j", "side", "i", "mating", "leader", "one", "other", "many", "turned", "at", "begin"]
abbrev P_Flead : List Str := ["self", "j", "side", "i"]
theorem sc_Flead : FnScope N_Flead P_Flead (defScope s_Flead) := ⟨rfl, rfl, rfl, by decide +kernel, rfl, by decide +kernel, by decide +kernel⟩
def spLedBack : Sp := fun vs H Q _ => ∃ (t : Addr) (w : M4) (at_ m : Int), vs = [.ref t, .int at_, .int m] ∧ H t = some (t4 w) ∧ (w.2.2.2 = 0 ∨ w.2.2.2 = 1) ∧ xLead w = true ∧ 1 ≤ m ∧ w.2.1 ≤ at_ ∧ at_ + m ≤ w.2.1 + w.2.2.1 ∧ ∀ H', Same H H' → Q (.int (ledB w at_ m)) H'
def spFlead (C : Addr) : Sp := fun vs H Q _ => ∃ (a s q : Addr) (j d i : Int) (X : FS), vs = [.ref a, .int j, .int d, .int i] ∧ FrS C H a s q X ∧ WF X ∧ AfterS C H a s q X (mkS X (.lead j d i)) Q
theorem lead_st {w : M4} (h : xLead w = true) (hf : ¬ w.2.2.2 = 1) : 1 ≤ w.2.1 - w.1 := by
  have z : (if w.2.2.2 = 1 then decide (w.2.2.1 ≤ w.2.1 - w.1) else decide (1 ≤ w.2.1 - w.1)) = true := h
  rw [if_neg hf] at z
  exact of_decide_eq_true z
theorem lead_tu {w : M4} (h : xLead w = true) (hf : w.2.2.2 = 1) : w.2.2.1 ≤ w.2.1 - w.1 := by
  have z : (if w.2.2.2 = 1 then decide (w.2.2.1 ≤ w.2.1 - w.1) else decide (1 ≤ w.2.1 - w.1)) = true := h
  rw [if_pos hf] at z
  exact of_decide_eq_true z
theorem leadS_eq {S : StL} {j d i : Int} {x w : M4} (hij : ¬ i = j) (hx : sget S j = some x) (hw : sget S i = some w) : leadS S j d i = (leadX x w d).map fun y => sput S j y := by
  unfold leadS
  rw [if_neg hij, hx, hw]
theorem leadS_no {S : StL} {j d i : Int} (h : i = j ∨ sget S j = none ∨ (∀ w, sget S i = some w → xLead w = false) ∨ ¬ (d = 0 ∨ d = 1)) : leadS S j d i = none := by
  by_cases hij : i = j
  · unfold leadS
    rw [if_pos hij]
  cases hx : sget S j with
  | none =>
    unfold leadS
    rw [if_neg hij, hx]
  | some x =>
    cases hw : sget S i with
    | none =>
      unfold leadS
      rw [if_neg hij, hx, hw]
    | some w =>
      rw [leadS_eq hij hx hw]
      have e : leadX x w d = none := by
        unfold leadX
        refine if_neg fun z => ?_
        rcases h with h | h | h | h
        · exact hij h
        · rw [hx] at h
          cases h
        · have := h w hw
          rw [z.2.1] at this
          cases this
        · exact h z.1
      rw [e]
      rfl
theorem in01 (d : Int) : (([V.int 0, V.int 1] : List V).any fun y => decide (V.int d = y)) = decide (d = 0 ∨ d = 1) := by
  simp only [List.any_cons, List.any_nil, Bool.or_false, V.int.injEq]
  rw [← Bool.decide_or]
section
variable {P : Program} {w : World} {K : PySem.W.Frag} {mg : Str → Option Value} {base : Heap} {C : Addr}
theorem ok_led_back {f fP fH fB fS : Addr} {fd fdP fdH fdB fdS : FuncData} (D : DefAt K mg "led_back" s_led_back P_led_back f fd) (D_part : DefAt K mg "part" s_part P_part fP fdP) (D_holds : DefAt K mg "holds" s_holds P_holds fH fdH) (D_back : DefAt K mg "back" s_back P_back fB fdB) (D_step_of : DefAt K mg "step_of" s_step_of P_step_of fS fdS) (B : Bn mg) :
    FnOk P w K mg base CX0 3 f fd P_led_back spLedBack := by
  have G_part : FnOk P w K mg base CX0 2 fP fdP P_part spPart := ok_part D_part D_holds B
  have G_back : FnOk P w K mg base CX0 1 fB fdB P_back spBack := ok_back D_back
  have G_step_of : FnOk P w K mg base CX0 1 fS fdS P_step_of spStep := ok_step D_step_of
  refine D.F.ok sc_led_back (fun vs H Q E h => ?_) (fun cdv A outer s H vs Q E hr h => ?_)
  · obtain ⟨t, w, at_, m, rfl, _⟩ := h
    rfl
  · obtain ⟨t, w, at_, m, rfl, ht, hf01, hl, m1, h1, h2, q⟩ := h
    refine ⟨_, (pss_cons (ps_if (pt_cmpR op_eq (pe_ix ix_tup (pv 0) pe_int (fun _ _ => rfl)) pe_int (nomark _)) (pss_one (ps_ret (pe_ix ix_tup (pe_call G_part (hr.mono (by omega)) (by rfl) D_part.g D_part.F.kp D_part.b .nil pass0 (pa_cons (pe_call G_back (hr.mono (by omega)) (by rfl) D_back.g D_back.F.kp D_back.b .nil pass0 (pa_cons (pv 0) pa_nil)) (pa_cons (pv 1) (pa_cons (pv 2) pa_nil)))) pe_int (fun _ _ => rfl)))) pss_nil)
      (pss_one (ps_ret (pe_op op_add (pe_ix ix_tup (pv 0) pe_int (fun _ _ => rfl)) (pe_op op_mod (pe_op op_sub (pv 1) (pe_ix ix_tup (pv 0) pe_int (fun _ _ => rfl))) (pe_call G_step_of (hr.mono (by omega)) (by rfl) D_step_of.g D_step_of.F.kp D_step_of.b .nil pass0 (pa_cons (pv 0) pa_nil))))))), ?_⟩
    refine ⟨.ref t, rfl, t, _, 3, .int w.2.2.2, rfl, rfl, SqT.of ht, at4_3, rfl, _, rfl, ?_⟩
    unfold ledB at q
    refine ite2 (fun h => ?_) (fun h => ?_)
    · have hf : w.2.2.2 = 1 := V.int.inj (of_decide_eq_true h)
      rw [if_pos hf] at q
      refine ⟨.ref t, rfl, t, w.1, w.2.1, w.2.2.1, w.2.2.2, rfl, ht, fun r nr => ?_⟩
      refine ⟨.int at_, rfl, .int m, rfl, r, w.2.1, w.1, w.2.2.1, w.2.2.2, at_, m, rfl, upd_same, hf01, m1, h1, h2, fun u nu => ?_⟩
      have sm : Same H (upd (upd H r (tup4 w.2.1 w.1 w.2.2.1 w.2.2.2)) u (tup4 at_ (partP w.2.1 w.1 w.2.2.1 w.2.2.2 at_ m) m w.2.2.2)) := (same_upd nr).trans (same_upd nu)
      refine ⟨u, _, 1, _, rfl, rfl, SqT.of upd_same, at4_1, ?_⟩
      unfold partP
      rw [if_pos hf]
      exact q _ (by unfold partP at sm; rw [if_pos hf] at sm; exact sm)
    · have hf : ¬ w.2.2.2 = 1 := fun z => h (decide_eq_true (congrArg V.int z))
      rw [if_neg hf] at q
      have hs := lead_st hl hf
      exact ⟨.ref t, rfl, t, _, 0, .int w.1, rfl, rfl, SqT.of ht, at4_0, .int at_, rfl, .ref t, rfl, t, _, 0, .int w.1, rfl, rfl, SqT.of ht, at4_0, at_, w.1, rfl, rfl, .ref t, rfl, t, w.1, w.2.1, w.2.2.1, w.2.2.2, rfl, ht, _, _, rfl, rfl, by omega, w.1, _, rfl, rfl, q H (Same.refl H)⟩
theorem ok_Flead {f fP fL fB fH fD : Addr} {fd fdP fdL fdB fdH fdD : FuncData} (F : Fun K "lead" "Front.lead" s_Flead f fd) (T : FrT K mg C) (M_put : Meth K C "put" fP) (G_put : FnOk P w K mg base CX0 3 fP fdP P_Fput (spPut C)) (b_put : Binds K fdP P_Fput [])
    (M_leader : Meth K C "leader" fL) (G_leader : FnOk P w K mg base CX0 3 fL fdL P_Fleader (spLeader C)) (b_leader : Binds K fdL P_Fleader []) (D_back : DefAt K mg "back" s_back P_back fB fdB) (D_holds : DefAt K mg "holds" s_holds P_holds fH fdH)
    (D_led_back : DefAt K mg "led_back" s_led_back P_led_back fD fdD) (G_led_back : FnOk P w K mg base CX0 3 fD fdD P_led_back spLedBack) (B : Bn mg) : FnOk P w K mg base CX0 4 f fd P_Flead (spFlead C) := by
  have G_back : FnOk P w K mg base CX0 1 fB fdB P_back spBack := ok_back D_back
  have G_holds : FnOk P w K mg base CX0 1 fH fdH P_holds spHolds := ok_holds D_holds B
  refine F.ok sc_Flead (fun vs H Q E h => ?_) (fun cdv A outer s H vs Q E hr h => ?_)
  · obtain ⟨a, s, q, j, d, i, X, rfl, _⟩ := h
    rfl
  · obtain ⟨a, s, q, j, d, i, X, rfl, ⟨ps, fa, hp⟩, wf, af⟩ := h
    have hu := hu_of hr
    refine ⟨_, (pss_cons (ps_set (i := 4) sc_Flead.nd rfl (.inl rfl) (pe_dget1 hu (pe_fld (pv 0) rfl) (pv 1) ⟨rfl, rfl, rfl, rfl⟩))
      (pss_cons (ps_set (i := 5) sc_Flead.nd rfl (.inl rfl) (pe_meth (pv 0) T.cl M_leader G_leader (hr.mono (by omega)) b_leader .nil pass0 (pa_cons (pv 3) pa_nil)))
      (pss_cons (ps_if (PW.pt (pw_or (pt_cmpR op_eq (pv 3) (pv 1) (nomark _)) (pw_or (pt_cmpR op_notIn_seq (pv 2) (pe_tup (pa_cons pe_int (pa_cons pe_int pa_nil))) (by rfl)) (pw_or (pt_cmpR op_isN (pv 4) pe_non (nomark _)) (pw_or1 (pt_cmpR op_isN (pv 5) pe_non (nomark _))))))) (pss_one (ps_ret pe_bl)) pss_nil)
      (pss_cons (ps_asg (pv 4) (pg_tup (by rfl) (pgs_cons (pg_name (i := 6) sc_Flead.nd rfl (.inl rfl)) (pgs_cons (pg_name (i := 7) sc_Flead.nd rfl (.inl rfl)) (pgs_cons (pg_name (i := 8) sc_Flead.nd rfl (.inl rfl)) (pgs_cons (pg_name (i := 9) sc_Flead.nd rfl (.inl rfl)) pgs_nil))))))
      (pss_cons (ps_set (i := 10) sc_Flead.nd rfl (.inl rfl) (pe_ifExp (pt_cmpR op_eq (pv 2) pe_int (nomark _)) (pv 7) (pv 6)))
      (pss_cons (ps_if (pt_not (pt_val (pe_call G_holds (hr.mono (by omega)) (by rfl) D_holds.g D_holds.F.kp D_holds.b .nil pass0 (pa_cons (pe_call G_back (hr.mono (by omega)) (by rfl) D_back.g D_back.F.kp D_back.b .nil pass0 (pa_cons (pv 5) pa_nil)) (pa_cons (pv 10) (pa_cons (pv 8) pa_nil)))))) (pss_one (ps_ret pe_bl)) pss_nil)
      (pss_cons (ps_set (i := 11) sc_Flead.nd rfl (.inl rfl) (pe_call G_led_back (hr.mono (by omega)) (by rfl) D_led_back.g D_led_back.F.kp D_led_back.b .nil pass0 (pa_cons (pv 5) (pa_cons (pv 10) (pa_cons (pv 8) pa_nil)))))
      (pss_cons (ps_if (pt_cmpR op_eq (pv 2) pe_int (nomark _)) (pss_one (ps_set (i := 7) sc_Flead.nd rfl (.inl rfl) (pv 11))) (pss_one (ps_set (i := 6) sc_Flead.nd rfl (.inl rfl) (pv 11))))
      (pss_cons (ps_expr (pe_meth (pv 0) T.cl M_put G_put (hr.mono (by omega)) b_put .nil pass0 (pa_cons (pv 1) (pa_cons (pe_tup (pa_cons (pv 6) (pa_cons (pv 7) (pa_cons (pv 8) (pa_cons (pe_op op_xor (pv 9) (pe_ix ix_tup (pv 5) pe_int (fun _ _ => rfl))) pa_nil))))) pa_nil))))
      (pss_one (ps_ret pe_bl))))))))))), ?_⟩
    obtain ⟨dx, ea⟩ := fa.at_a
    obtain ⟨o, g, g1, g2⟩ := get_at (i := j) fa
    obtain ⟨o', g', g1', g2'⟩ := get_at (i := i) fa
    obtain ⟨h1, h2⟩ := After.ofS (r := leadS X.S j d i) fa hp af
    have no : ∀ H', Same H H' → leadS X.S j d i = none → Q (.bl false) H' := fun H' sm e => h1 e H' (fa.same sm) (Off.of_same sm)
    refine ⟨.ref a, rfl, a, C, dx, _, _, rfl, ea, T.cl, T.nS, fr_standing X.e s q, s, rfl, isD_of fa, .int j, rfl, o, g, ?_⟩
    -- the leader
    refine ⟨.ref a, rfl, a, dx, _, rfl, ea, put_no, .int i, rfl, a, s, q, X.e, i, X.S, ps, rfl, fa, fun w t hw hlw htw => ?_, fun hno => ?_⟩
    · refine ⟨.int i, rfl, .int j, rfl, rfl, _, rfl, ?_⟩
      refine ite2 (fun h => ?_) (fun h => ?_)
      · have h' : i = j := V.int.inj (of_decide_eq_true h)
        exact no H (Same.refl H) (leadS_no (.inl h'))
      · have hij : ¬ i = j := fun z => h (decide_eq_true (congrArg V.int z))
        refine ⟨.int d, rfl, by show 2 ≤ sizeLine; decide, fun tp ntp => ?_⟩
        have s1 := same_upd (H := H) (o := .tup [.int 0, .int 1]) ntp
        refine ⟨tp, _, rfl, .inr (SqT.of upd_same), rfl, rfl, _, rfl, ?_⟩
        rw [if_pos rfl, inV01]
        by_cases hd : d = 0 ∨ d = 1
        · rw [decide_eq_true hd]
          refine iteF ?_
          cases hx : sget X.S j with
          | none =>
            rw [g1 hx]
            exact ⟨.non, rfl, rfl, _, rfl, iteT (no _ s1 (leadS_no (.inr (.inl hx))))⟩
          | some x =>
            obtain ⟨tx, rfl, htx⟩ := g2 x hx
            have rx := wf.at hx
            have rw_ := wf.at hw
            have htx1 := s1 _ _ htx
            have htw1 := s1 _ _ htw
            refine ⟨.ref tx, rfl, rfl, _, rfl, iteF ?_⟩
            refine ⟨.ref t, rfl, rfl, _, rfl, iteF ?_⟩
            refine ⟨.ref tx, rfl, tx, _, rfl, SqT.of htx1, rfl, .int x.1, _, rfl, .int x.2.1, _, rfl, .int x.2.2.1, _, rfl, .int x.2.2.2, _, rfl, rfl, ?_⟩
            rcases id hd with rfl | rfl
            · skip
              refine ⟨.int 0, rfl, rfl, _, rfl, ite2 (fun h => absurd (of_decide_eq_true h) (by decide)) (fun _ => ⟨.int x.1, rfl, ?_⟩)⟩
              refine ⟨.ref t, rfl, t, w.1, w.2.1, w.2.2.1, w.2.2.2, rfl, htw1, fun r nr => ?_⟩
              have s2 := s1.trans (same_upd (o := tup4 w.2.1 w.1 w.2.2.1 w.2.2.2) nr)
              have htw2 := s2 _ _ htw
              refine ⟨.int x.1, rfl, .int x.2.2.1, rfl, r, w.2.1, w.1, w.2.2.1, w.2.2.2, .int x.1, .int x.2.2.1, rfl, upd_same, .inr (.inr ⟨x.1, x.2.2.1, rfl, rfl, ?_⟩)⟩
              refine ⟨_, rfl, ?_⟩
              by_cases hc : 1 ≤ x.2.2.1 ∧ w.2.1 ≤ x.1 ∧ x.1 + x.2.2.1 ≤ w.2.1 + w.2.2.1
              · rw [decide_eq_true hc]
                refine iteF ?_
                have el : leadX x w 0 = some (nrm (ledB w x.1 x.2.2.1, x.2.1, x.2.2.1, Builtin.bitXor x.2.2.2 w.2.2.2)) := by
                  rw [xor_is rx.f01 rw_.f01]
                  exact if_pos ⟨hd, hlw, hc.2.1, hc.2.2⟩
                refine ⟨.ref t, rfl, .int x.1, rfl, .int x.2.2.1, rfl, t, w, x.1, x.2.2.1, rfl, htw2, rw_.f01, hlw, hc.1, hc.2.1, hc.2.2, fun H3 s3 => ?_⟩
                have s4 := s2.trans s3
                refine ⟨.int 0, rfl, rfl, _, rfl, ite2 (fun h => absurd (of_decide_eq_true h) (by decide)) (fun _ => ⟨.int (ledB w x.1 x.2.2.1), rfl, ?_⟩)⟩
                refine ⟨.ref a, rfl, a, dx, _, rfl, s4 _ _ ea, put_no, .int j, rfl, .int (ledB w x.1 x.2.2.1), rfl, .int (x.2.1), rfl, .int x.2.2.1, rfl, .int x.2.2.2, rfl, .ref t, rfl, t, _, 3, .int w.2.2.2, rfl, rfl, SqT.of (s4 _ _ htw), at4_3, x.2.2.2, w.2.2.2, rfl, rfl, by show 4 ≤ sizeLine; decide, fun u nu => ?_⟩
                have s5 := s4.trans (same_upd (o := t4 (ledB w x.1 x.2.2.1, x.2.1, x.2.2.1, Builtin.bitXor x.2.2.2 w.2.2.2)) nu)
                refine ⟨a, s, q, X.e, j, X.S, ps, .ref u, x, rfl, fa.same s5, hx, .inr ⟨u, (ledB w x.1 x.2.2.1, x.2.1, x.2.2.1, Builtin.bitXor x.2.2.2 w.2.2.2), rfl, upd_same, fun H' f1 o1 => ?_⟩⟩
                exact h2 _ (by rw [leadS_eq hij hx hw, el]; rfl) H' f1 ((Off.of_same s5).trans o1)
              · rw [decide_eq_false hc]
                refine iteT ?_
                refine no _ s2 ?_
                have el : leadX x w 0 = none := if_neg fun z => hc ⟨rx.m1, z.2.2.1, z.2.2.2⟩
                rw [leadS_eq hij hx hw, el]
                rfl
            · skip
              refine ⟨.int 1, rfl, rfl, _, rfl, ite2 (fun _ => ⟨.int x.2.1, rfl, ?_⟩) (fun h => absurd (decide_eq_true rfl) h)⟩
              refine ⟨.ref t, rfl, t, w.1, w.2.1, w.2.2.1, w.2.2.2, rfl, htw1, fun r nr => ?_⟩
              have s2 := s1.trans (same_upd (o := tup4 w.2.1 w.1 w.2.2.1 w.2.2.2) nr)
              have htw2 := s2 _ _ htw
              refine ⟨.int x.2.1, rfl, .int x.2.2.1, rfl, r, w.2.1, w.1, w.2.2.1, w.2.2.2, .int x.2.1, .int x.2.2.1, rfl, upd_same, .inr (.inr ⟨x.2.1, x.2.2.1, rfl, rfl, ?_⟩)⟩
              refine ⟨_, rfl, ?_⟩
              by_cases hc : 1 ≤ x.2.2.1 ∧ w.2.1 ≤ x.2.1 ∧ x.2.1 + x.2.2.1 ≤ w.2.1 + w.2.2.1
              · rw [decide_eq_true hc]
                refine iteF ?_
                have el : leadX x w 1 = some (nrm (x.1, ledB w x.2.1 x.2.2.1, x.2.2.1, Builtin.bitXor x.2.2.2 w.2.2.2)) := by
                  rw [xor_is rx.f01 rw_.f01]
                  exact if_pos ⟨hd, hlw, hc.2.1, hc.2.2⟩
                refine ⟨.ref t, rfl, .int x.2.1, rfl, .int x.2.2.1, rfl, t, w, x.2.1, x.2.2.1, rfl, htw2, rw_.f01, hlw, hc.1, hc.2.1, hc.2.2, fun H3 s3 => ?_⟩
                have s4 := s2.trans s3
                refine ⟨.int 1, rfl, rfl, _, rfl, ite2 (fun _ => ⟨.int (ledB w x.2.1 x.2.2.1), rfl, ?_⟩) (fun h => absurd (decide_eq_true rfl) h)⟩
                refine ⟨.ref a, rfl, a, dx, _, rfl, s4 _ _ ea, put_no, .int j, rfl, .int (x.1), rfl, .int (ledB w x.2.1 x.2.2.1), rfl, .int x.2.2.1, rfl, .int x.2.2.2, rfl, .ref t, rfl, t, _, 3, .int w.2.2.2, rfl, rfl, SqT.of (s4 _ _ htw), at4_3, x.2.2.2, w.2.2.2, rfl, rfl, by show 4 ≤ sizeLine; decide, fun u nu => ?_⟩
                have s5 := s4.trans (same_upd (o := t4 (x.1, ledB w x.2.1 x.2.2.1, x.2.2.1, Builtin.bitXor x.2.2.2 w.2.2.2)) nu)
                refine ⟨a, s, q, X.e, j, X.S, ps, .ref u, x, rfl, fa.same s5, hx, .inr ⟨u, (x.1, ledB w x.2.1 x.2.2.1, x.2.2.1, Builtin.bitXor x.2.2.2 w.2.2.2), rfl, upd_same, fun H' f1 o1 => ?_⟩⟩
                exact h2 _ (by rw [leadS_eq hij hx hw, el]; rfl) H' f1 ((Off.of_same s5).trans o1)
              · rw [decide_eq_false hc]
                refine iteT ?_
                refine no _ s2 ?_
                have el : leadX x w 1 = none := if_neg fun z => hc ⟨rx.m1, z.2.2.1, z.2.2.2⟩
                rw [leadS_eq hij hx hw, el]
                rfl
        · rw [decide_eq_false hd]
          refine iteT ?_
          exact no _ s1 (leadS_no (.inr (.inr (.inr hd))))
    · -- no leader
      refine ⟨.int i, rfl, .int j, rfl, rfl, _, rfl, ?_⟩
      refine ite2 (fun h => ?_) (fun h => ?_)
      · exact no H (Same.refl H) (leadS_no (.inr (.inr (.inl hno))))
      · refine ⟨.int d, rfl, by show 2 ≤ sizeLine; decide, fun tp ntp => ?_⟩
        have s1 := same_upd (H := H) (o := .tup [.int 0, .int 1]) ntp
        refine ⟨tp, _, rfl, .inr (SqT.of upd_same), rfl, rfl, _, rfl, ?_⟩
        rw [if_pos rfl, inV01]
        by_cases hd : d = 0 ∨ d = 1
        · rw [decide_eq_true hd]
          refine iteF ?_
          cases hx : sget X.S j with
          | none =>
            rw [g1 hx]
            exact ⟨.non, rfl, rfl, _, rfl, iteT (no _ s1 (leadS_no (.inr (.inl hx))))⟩
          | some x =>
            obtain ⟨tx, rfl, htx⟩ := g2 x hx
            refine ⟨.ref tx, rfl, rfl, _, rfl, iteF ?_⟩
            exact ⟨.non, rfl, rfl, _, rfl, iteT (no _ s1 (leadS_no (.inr (.inr (.inl hno)))))⟩
        · rw [decide_eq_false hd]
          refine iteT ?_
          exact no _ s1 (leadS_no (.inr (.inr (.inl hno))))
end

/-! ### clipped -/
abbrev s_clipped : Stmt := top 21
abbrev N_clipped : List Str := ["mating", "length", "one", "other", "many", "turned", "low", "end"]
abbrev P_clipped : List Str := ["mating", "length"]
theorem sc_clipped : FnScope N_clipped P_clipped (defScope s_clipped) := ⟨rfl, rfl, rfl, by decide +kernel, rfl, by decide +kernel, by decide +kernel⟩
def clipLo (o p m f n : Int) : Int := if f = 1 then o + (if p + m - n > 0 then p + m - n else 0) else o
def clipHi (o p m f n : Int) : Int := if f = 1 then (if n < o + m then n else o + m) else (if o + n - p < (if n < o + m then n else o + m) then o + n - p else (if n < o + m then n else o + m))
def spClipped : Sp := fun vs H Q _ => ∃ (t : Addr) (o p m f n : Int), vs = [.ref t, .int n] ∧ H t = some (tup4 o p m f) ∧ (f = 0 ∨ f = 1) ∧
  (clipHi o p m f n ≤ clipLo o p m f n → Q .non H) ∧ (clipLo o p m f n < clipHi o p m f n → ∀ r, H r = none → Q (.ref r) (upd H r (tup4 (clipLo o p m f n) (partP o p m f (clipLo o p m f n) (clipHi o p m f n - clipLo o p m f n)) (clipHi o p m f n - clipLo o p m f n) f)))
theorem clip_lo (o p m f n : Int) : o ≤ clipLo o p m f n := by
  unfold clipLo
  split
  · split <;> omega
  · omega
theorem clip_hi (o p m f n : Int) : clipHi o p m f n ≤ o + m := by
  unfold clipHi
  split
  · split <;> omega
  · split
    · split at * <;> omega
    · split <;> omega
section
variable {P : Program} {w : World} {K : PySem.W.Frag} {mg : Str → Option Value} {base : Heap}
theorem ok_clipped {f fH fP : Addr} {fd fdH fdP : FuncData} (D : DefAt K mg "clipped" s_clipped P_clipped f fd) (D_part : DefAt K mg "part" s_part P_part fP fdP) (D_holds : DefAt K mg "holds" s_holds P_holds fH fdH) (B : Bn mg) : FnOk P w K mg base CX0 3 f fd P_clipped spClipped := by
  have G_part : FnOk P w K mg base CX0 2 fP fdP P_part spPart := ok_part D_part D_holds B
  refine D.F.ok sc_clipped (fun vs H Q E h => ?_) (fun cdv A outer s H vs Q E hr h => ?_)
  · obtain ⟨t, o, p, m, f, n, rfl, _⟩ := h
    rfl
  · obtain ⟨t, o, p, m, f, n, rfl, ht, hf, q1, q2⟩ := h
    refine ⟨_, (pss_cons (ps_asg (pv 0) (pg_tup (by rfl) (pgs_cons (pg_name (i := 2) sc_clipped.nd rfl (.inl rfl)) (pgs_cons (pg_name (i := 3) sc_clipped.nd rfl (.inl rfl)) (pgs_cons (pg_name (i := 4) sc_clipped.nd rfl (.inl rfl)) (pgs_cons (pg_name (i := 5) sc_clipped.nd rfl (.inl rfl)) pgs_nil))))))
      (pss_cons (ps_set (i := 6) sc_clipped.nd rfl (.inl rfl) (pv 2))
      (pss_cons (ps_set (i := 7) sc_clipped.nd rfl (.inl rfl) (pe_callB (call_min2 rfl) (by rfl) B.min (by decide +kernel) (pa_cons (pe_op op_add (pv 2) (pv 4)) (pa_cons (pv 1) pa_nil))))
      (C8.pss_cut (ps_if (pt_cmpR op_eq (pv 5) pe_int (nomark _)) (pss_one (ps_set (i := 6) sc_clipped.nd rfl (.inl rfl) (pe_op op_add (pv 2) (pe_callB (call_max2 rfl) (by rfl) B.max (by decide +kernel) (pa_cons pe_int (pa_cons (pe_op op_sub (pe_op op_add (pv 3) (pv 4)) (pv 1)) pa_nil)))))) (pss_one (ps_set (i := 7) sc_clipped.nd rfl (.inl rfl) (pe_callB (call_min2 rfl) (by rfl) B.min (by decide +kernel) (pa_cons (pv 7) (pa_cons (pe_op op_sub (pe_op op_add (pv 2) (pv 1)) (pv 3)) pa_nil))))))
      (pss_cons (ps_if (pt_cmpR op_le (pv 7) (pv 6) (nomark _)) (pss_one (ps_ret pe_non)) pss_nil)
      (pss_one (ps_ret (pe_call G_part (hr.mono (by omega)) (by rfl) D_part.g D_part.F.kp D_part.b .nil pass0 (pa_cons (pv 0) (pa_cons (pv 6) (pa_cons (pe_op op_sub (pv 7) (pv 6)) pa_nil))))))))))), ?_⟩
    refine ⟨.ref t, rfl, t, _, rfl, SqT.of ht, rfl, .int o, _, rfl, .int p, _, rfl, .int m, _, rfl, .int f, _, rfl, rfl, ?_⟩
    refine ⟨.int o, rfl, ?_⟩
    refine ⟨.int o, rfl, .int m, rfl, o, m, rfl, rfl, .int n, rfl, _, n, rfl, ?_⟩
    refine ⟨fun σ H' => σ = [some (.ref t), some (.int n), some (.int o), some (.int p), some (.int m), some (.int f), some (.int (clipLo o p m f n)), some (.int (clipHi o p m f n))] ∧ H' = H, ?_, ?_⟩
    · refine ⟨.int f, rfl, rfl, _, rfl, ?_⟩
      refine ite2 (fun h => ?_) (fun h => ?_)
      · have hf1 : f = 1 := V.int.inj (of_decide_eq_true h)
        refine ⟨.int o, rfl, .int p, rfl, .int m, rfl, p, m, rfl, rfl, .int n, rfl, _, n, rfl, rfl, 0, _, rfl, o, _, rfl, rfl, ?_, rfl⟩
        unfold clipLo clipHi
        rw [if_pos hf1, if_pos hf1]
        rfl
      · have hf1 : ¬ f = 1 := fun z => h (decide_eq_true (congrArg V.int z))
        refine ⟨_, rfl, .int o, rfl, .int n, rfl, o, n, rfl, rfl, .int p, rfl, _, p, rfl, rfl, _, _, rfl, ?_, rfl⟩
        unfold clipLo clipHi
        rw [if_neg hf1, if_neg hf1]
        rfl
    · rintro σ H' ⟨rfl, rfl⟩
      refine ⟨.int (clipHi o p m f n), rfl, .int (clipLo o p m f n), rfl, _, _, rfl, rfl, _, rfl, ?_⟩
      refine ite2 (fun h => ?_) (fun h => ?_)
      · exact q1 (of_decide_eq_true h)
      · have hlt : clipLo o p m f n < clipHi o p m f n := by
          have : ¬ clipHi o p m f n ≤ clipLo o p m f n := fun z => h (decide_eq_true z)
          omega
        have h1 := clip_lo o p m f n
        have h2 := clip_hi o p m f n
        refine ⟨.ref t, rfl, .int (clipLo o p m f n), rfl, .int (clipHi o p m f n), rfl, .int (clipLo o p m f n), rfl, _, _, rfl, rfl, t, o, p, m, f, _, _, rfl, ht, hf, by omega, h1, by omega, fun r hr' => ?_⟩
        exact q2 hlt r hr'
end

/-! ### fold -/
abbrev s_Ffold : Stmt := inClass (top 31) 11
abbrev N_Ffold : List Str := ["self", "i", "m", "leader", "step"]
abbrev P_Ffold : List Str := ["self", "i", "m"]
theorem sc_Ffold : FnScope N_Ffold P_Ffold (defScope s_Ffold) := ⟨rfl, rfl, rfl, by decide +kernel, rfl, by decide +kernel, by decide +kernel⟩
abbrev s_Ftop : Stmt := inClass (top 31) 1
abbrev N_Ftop : List Str := ["self"]
abbrev P_Ftop : List Str := ["self"]
theorem sc_Ftop : FnScope N_Ftop P_Ftop (defScope s_Ftop) := ⟨rfl, rfl, rfl, by decide +kernel, rfl, by decide +kernel, by decide +kernel⟩
abbrev s_Fled_on : Stmt := inClass (top 31) 3
abbrev N_Fled_on : List Str := ["self"]
abbrev P_Fled_on : List Str := ["self"]
theorem sc_Fled_on : FnScope N_Fled_on P_Fled_on (defScope s_Fled_on) := ⟨rfl, rfl, rfl, by decide +kernel, rfl, by decide +kernel, by decide +kernel⟩
def spFfold (C : Addr) : Sp := fun vs H Q _ => ∃ (a s q : Addr) (i m : Int) (X : FS), vs = [.ref a, .int i, .int m] ∧ FrS C H a s q X ∧ WF X ∧ X.L.length ≤ 1000 ∧ AfterS C H a s q X (mkS X (.fold i m)) Q
def spTop (C : Addr) : Sp := fun vs H Q _ => ∃ (a s q : Addr) (e : Int) (S : StL) (ps : List V), vs = [.ref a] ∧ FrAt C H a s q e S ps ∧ Q (.int e) H
def spLedOn (C : Addr) : Sp := fun vs H Q _ => ∃ (a s q : Addr) (e : Int) (S : StL) (ps : List V), vs = [.ref a] ∧ FrAt C H a s q e S ps ∧ ∀ r, H r = none → Q (.ref r) (upd H r (.lst ps))
/-- what is left of a leader by a fold -/
theorem clip_cut {x : M4} {e m : Int} (hx : Rok e x) (hl : xLead x = true) (h1 : x.2.1 ≤ m) (h2 : m < x.2.1 + x.2.2.1) :
    clipLo x.1 x.2.1 x.2.2.1 x.2.2.2 m = (cutX x m).1 ∧ clipHi x.1 x.2.1 x.2.2.1 x.2.2.2 m - clipLo x.1 x.2.1 x.2.2.1 x.2.2.2 m = m - x.2.1 ∧ partP x.1 x.2.1 x.2.2.1 x.2.2.2 (clipLo x.1 x.2.1 x.2.2.1 x.2.2.2 m) (clipHi x.1 x.2.1 x.2.2.1 x.2.2.2 m - clipLo x.1 x.2.1 x.2.2.1 x.2.2.2 m) = x.2.1 := by
  have g1 := hx.op
  have g2 := hx.o0
  unfold clipLo clipHi partP cutX
  by_cases hf : x.2.2.2 = 1
  · have z := lead_tu hl hf
    simp only [if_pos hf]
    rw [if_pos (by omega), if_neg (by omega)]
    omega
  · have z := lead_st hl hf
    simp only [if_neg hf]
    rw [if_pos (by split <;> omega)]
    refine ⟨trivial, ?_, ?_⟩ <;> omega
section
variable {P : Program} {w : World} {K : PySem.W.Frag} {mg : Str → Option Value} {base : Heap} {C : Addr}
theorem ok_top {f : Addr} {fd : FuncData} (F : Fun K "top" "Front.top" s_Ftop f fd) (T : FrT K mg C) : FnOk P w K mg base CX0 1 f fd P_Ftop (spTop C) := by
  refine F.ok sc_Ftop (fun vs H Q E h => ?_) (fun cdv A outer s H vs Q E hr h => ?_)
  · obtain ⟨a, s, q, e, S, ps, rfl, _⟩ := h
    rfl
  · obtain ⟨a, s, q, e, S, ps, rfl, fa, qq⟩ := h
    refine ⟨_, (pss_one (ps_ret (pe_fld (pv 0) rfl))), ?_⟩
    obtain ⟨dx, ea⟩ := fa.at_a
    exact ⟨.ref a, rfl, a, C, dx, _, _, rfl, ea, T.cl, T.nE, fr_edge e s q, qq⟩
theorem ok_led_on {f : Addr} {fd : FuncData} (F : Fun K "led_on" "Front.led_on" s_Fled_on f fd) (T : FrT K mg C) (B : Bn mg) : FnOk P w K mg base CX0 1 f fd P_Fled_on (spLedOn C) := by
  refine F.ok sc_Fled_on (fun vs H Q E h => ?_) (fun cdv A outer s H vs Q E hr h => ?_)
  · obtain ⟨a, s, q, e, S, ps, rfl, _⟩ := h
    rfl
  · obtain ⟨a, s, q, e, S, ps, rfl, fa, qq⟩ := h
    refine ⟨_, (pss_one (ps_ret (pe_callTy call_list_of (by rfl) B.list (by decide +kernel) (pa_cons (pe_fld (pv 0) rfl) pa_nil)))), ?_⟩
    obtain ⟨dx, ea⟩ := fa.at_a
    exact ⟨.ref a, rfl, a, C, dx, _, _, rfl, ea, T.cl, T.nP, fr_past e s q, q, _, rfl, .inl (SqL.of fa.at_q), fun r nr => qq r nr⟩
theorem ok_Ffold {f fP fL fR fE fS fC : Addr} {fd fdP fdL fdR fdE fdS fdC : FuncData} (F : Fun K "fold" "Front.fold" s_Ffold f fd) (T : FrT K mg C) (M_put : Meth K C "put" fP) (G_put : FnOk P w K mg base CX0 3 fP fdP P_Fput (spPut C)) (b_put : Binds K fdP P_Fput [])
    (M_leader : Meth K C "leader" fL) (G_leader : FnOk P w K mg base CX0 3 fL fdL P_Fleader (spLeader C)) (b_leader : Binds K fdL P_Fleader []) (M_reach : Meth K C "reach" fR) (G_reach : FnOk P w K mg base CX0 2 fR fdR P_Freach (spReach C)) (b_reach : Binds K fdR P_Freach [])
    (D_end_of : DefAt K mg "end_of" s_end_of P_end_of fE fdE) (D_step_of : DefAt K mg "step_of" s_step_of P_step_of fS fdS) (D_clipped : DefAt K mg "clipped" s_clipped P_clipped fC fdC) (G_clipped : FnOk P w K mg base CX0 3 fC fdC P_clipped spClipped) : FnOk P w K mg base CX0 4 f fd P_Ffold (spFfold C) := by
  have G_end_of : FnOk P w K mg base CX0 1 fE fdE P_end_of spEnd := ok_end D_end_of
  have G_step_of : FnOk P w K mg base CX0 1 fS fdS P_step_of spStep := ok_step D_step_of
  refine F.ok sc_Ffold (fun vs H Q E h => ?_) (fun cdv A outer s H vs Q E hr h => ?_)
  · obtain ⟨a, s, q, i, m, X, rfl, _⟩ := h
    rfl
  · obtain ⟨a, s, q, i, m, X, rfl, fS, wf, hL, h1, h2⟩ := h
    have ea0 : ∃ ps, FrAt C H a s q X.e X.S ps ∧ Past H ps X.L := fS
    obtain ⟨ps, fa, hp⟩ := ea0
    refine ⟨_, (pss_cons (ps_set (i := 3) sc_Ffold.nd rfl (.inl rfl) (pe_meth (pv 0) T.cl M_leader G_leader (hr.mono (by omega)) b_leader .nil pass0 (pa_cons (pv 1) pa_nil)))
      (pss_cons (ps_if (PW.pt (pw_or (pt_cmpR op_isN (pv 3) pe_non (nomark _)) (pw_or1 (pt_cmpR op_ne (pe_call G_end_of (hr.mono (by omega)) (by rfl) D_end_of.g D_end_of.F.kp D_end_of.b .nil pass0 (pa_cons (pv 3) pa_nil)) (pe_fld (pv 0) rfl) (nomark _))))) (pss_one (ps_ret pe_bl)) pss_nil)
      (pss_cons (ps_if (PW.pt (pw_or (pt_cmpR op_lt (pv 2) (pe_ix ix_tup (pv 3) pe_int (fun _ _ => rfl)) (nomark _)) (pw_or (pt_cmpR op_ge (pv 2) (pe_fld (pv 0) rfl) (nomark _)) (pw_or1 (pt_cmpR op_lt (pv 2) (pe_meth (pv 0) T.cl M_reach G_reach (hr.mono (by omega)) b_reach .nil pass0 (pa_cons (pv 1) pa_nil)) (nomark _)))))) (pss_one (ps_ret pe_bl)) pss_nil)
      (C8.pss_cut (ps_set (i := 4) sc_Ffold.nd rfl (.inl rfl) (pe_ifExp (pt_cmpR op_eq (pe_ix ix_tup (pv 3) pe_int (fun _ _ => rfl)) pe_int (nomark _)) pe_int (pe_call G_step_of (hr.mono (by omega)) (by rfl) D_step_of.g D_step_of.F.kp D_step_of.b .nil pass0 (pa_cons (pv 3) pa_nil))))
      (pss_cons (ps_expr (pe_bm PySem.F.plainAttrs_list PySem.F.slot_list_append PySem.F.type_list_append mt_append (pe_fld (pv 0) rfl) (pa_cons (pe_tup (pa_cons pe_str (pa_cons (pv 2) (pa_cons (pe_fld (pv 0) rfl) (pa_cons (pe_ix ix_tup (pv 3) pe_int (fun _ _ => rfl)) (pa_cons (pv 4) (pa_cons (pe_ix ix_tup (pv 3) pe_int (fun _ _ => rfl)) pa_nil))))))) pa_nil)))
      (pss_cons (ps_expr (pe_meth (pv 0) T.cl M_put G_put (hr.mono (by omega)) b_put .nil pass0 (pa_cons (pv 1) (pa_cons (pe_call G_clipped (hr.mono (by omega)) (by rfl) D_clipped.g D_clipped.F.kp D_clipped.b .nil pass0 (pa_cons (pv 3) (pa_cons (pv 2) pa_nil))) pa_nil))))
      (pss_cons (ps_fld (pv 0) (pv 2) rfl)
      (pss_one (ps_ret pe_bl))))))))), ?_⟩
    obtain ⟨dx, ea⟩ := fa.at_a
    have no : ∀ H', Same H H' → foldS X i m = none → Q (.bl false) H' := fun H' sm e => h1 e H' (fS.same sm) (Off.of_same sm)
    refine ⟨.ref a, rfl, a, dx, _, rfl, ea, put_no, .int i, rfl, a, s, q, X.e, i, X.S, ps, rfl, fa, fun x t hx hlx htx => ?_, fun hno => ?_⟩
    · have rx := wf.at hx
      have e0 : foldS X i m = if xLead x = true ∧ x.2.1 + x.2.2.1 = X.e ∧ x.2.1 ≤ m ∧ m < X.e ∧ rch X.S (some i) ≤ m then
          some ⟨m, if m - x.2.1 = 0 then sdrop X.S i else sput X.S i (cutX x m), X.L ++ [.fold m X.e x.1 (if x.2.2.2 = 1 then 0 else x.2.1 - x.1) x.2.2.2]⟩ else none := by
        unfold foldS
        rw [hx]
      refine ⟨.ref t, rfl, rfl, _, rfl, iteF ?_⟩
      refine ⟨.ref t, rfl, t, x.1, x.2.1, x.2.2.1, x.2.2.2, rfl, htx, .ref a, rfl, a, C, dx, _, _, rfl, ea, T.cl, T.nE, fr_edge X.e s q, rfl, _, rfl, ?_⟩
      by_cases hE : x.2.1 + x.2.2.1 = X.e
      · refine iteNS (congrArg V.int hE) ?_
        refine ⟨.int m, rfl, .ref t, rfl, t, _, 1, .int x.2.1, rfl, rfl, SqT.of htx, at4_1, m, x.2.1, rfl, rfl, _, rfl, ?_⟩
        refine ite2 (fun h => ?_) (fun h => ?_)
        · exact no H (Same.refl H) (by rw [e0]; exact if_neg fun z => by have := of_decide_eq_true h; omega)
        · have h' : ¬ m < x.2.1 := fun z => h (decide_eq_true z)
          refine ⟨.int m, rfl, .ref a, rfl, a, C, dx, _, _, rfl, ea, T.cl, T.nE, fr_edge X.e s q, m, X.e, rfl, rfl, _, rfl, ?_⟩
          refine ite2 (fun h3 => ?_) (fun h3 => ?_)
          · exact no H (Same.refl H) (by rw [e0]; exact if_neg fun z => by have := of_decide_eq_true h3; omega)
          · have h3' : ¬ X.e ≤ m := fun z => h3 (decide_eq_true z)
            refine ⟨.int m, rfl, .ref a, rfl, a, dx, _, rfl, ea, put_no, .int i, rfl, a, s, q, .int i, some i, X, rfl, .inr ⟨i, rfl, rfl⟩, fS, wf, fun H1 s1 => ?_⟩
            refine ⟨m, _, rfl, rfl, _, rfl, ?_⟩
            refine ite2 (fun h4 => ?_) (fun h4 => ?_)
            · exact no H1 s1 (by rw [e0]; exact if_neg fun z => by have := of_decide_eq_true h4; omega)
            · have h4' : ¬ m < rch X.S (some i) := fun z => h4 (decide_eq_true z)
              rw [if_pos ⟨hlx, hE, by omega, by omega, by omega⟩] at e0
              obtain ⟨k1, k2, k3⟩ := clip_cut (m := m) rx hlx (by omega) (by omega)
              have htx1 := s1 _ _ htx
              have ea1 := s1 _ _ ea
              have fa1 := fa.same s1
              have hp1 := hp.keep (fun b xs hb => s1 b _ hb)
              have hpl := hp.length
              -- the step
              have fin : ∀ st : Int, st = (if x.2.2.2 = 1 then 0 else x.2.1 - x.1) → ∀ t2, H1 t2 = none → ∃ H5, H5 = upd (upd H1 t2 (.tup [.str "fold", .int m, .int X.e, .int x.1, .int st, .int x.2.2.2])) q (.lst (ps ++ [.ref t2])) ∧ FrAt C H5 a s q X.e X.S (ps ++ [.ref t2]) ∧ Past H5 (ps ++ [.ref t2]) (X.L ++ [.fold m X.e x.1 (if x.2.2.2 = 1 then 0 else x.2.1 - x.1) x.2.2.2]) ∧ Off a s q H H5 ∧ H5 t = some (t4 x) := by
                rintro st rfl t2 n2
                have s2 := same_upd (H := H1) (o := .tup [.str "fold", .int m, .int X.e, .int x.1, .int (if x.2.2.2 = 1 then 0 else x.2.1 - x.1), .int x.2.2.2]) n2
                have fa2 := fa1.same s2
                obtain ⟨fa3, o3⟩ := fa2.past (ps' := ps ++ [.ref t2])
                have ks := fa2.offT o3
                exact ⟨_, rfl, fa3, Past.snoc ⟨t2, rfl, ks _ _ upd_same⟩ ((hp1.keep fun b xs hb => s2 _ _ hb).keep ks), ((Off.of_same s1).trans (Off.of_same s2)).trans o3, ks _ _ (s2 _ _ htx1)⟩
              refine ⟨fun σ H' => σ = [some (.ref a), some (.int i), some (.int m), some (.ref t), some (.int (if x.2.2.2 = 1 then 0 else x.2.1 - x.1))] ∧ H' = H1, ?_, ?_⟩
              · refine ⟨.ref t, rfl, t, _, 3, .int x.2.2.2, rfl, rfl, SqT.of htx1, at4_3, rfl, _, rfl, ?_⟩
                refine ite2 (fun hf => ?_) (fun hf => ?_)
                · rw [if_pos (V.int.inj (of_decide_eq_true hf))]
                  exact ⟨rfl, rfl⟩
                · rw [if_neg (fun z => hf (decide_eq_true (congrArg V.int z)))]
                  exact ⟨.ref t, rfl, t, x.1, x.2.1, x.2.2.1, x.2.2.2, rfl, htx1, rfl, rfl⟩
              · rintro σ H' ⟨rfl, rfl⟩
                generalize hst : (if x.2.2.2 = 1 then 0 else x.2.1 - x.1) = st at *
                refine ⟨.ref a, rfl, a, C, dx, _, _, rfl, ea1, T.cl, T.nP, fr_past X.e s q, .inl ⟨rfl, _, SqL.of fa1.at_q⟩, .int m, rfl, .ref a, rfl, a, C, dx, _, _, rfl, ea1, T.cl, T.nE, fr_edge X.e s q, .ref t, rfl, t, _, 0, .int x.1, rfl, rfl, SqT.of htx1, at4_0, .int st, rfl, .ref t, rfl, t, _, 3, .int x.2.2.2, rfl, rfl, SqT.of htx1, at4_3, by show 6 ≤ sizeLine; decide, fun t2 n2 => ?_⟩
                obtain ⟨H5, e5, fa5, hp5, o5, ht5⟩ := fin st rfl t2 n2
                refine ⟨q, ps, _, rfl, rfl, same_upd n2 _ _ fa1.at_q, sz_lt (by omega), ?_⟩
                rw [← e5]
                obtain ⟨dx5, ea5⟩ := fa5.at_a
                -- put
                have done : ∀ (S' : StL), S' = (if m - x.2.1 = 0 then sdrop X.S i else sput X.S i (cutX x m)) → ∀ (H7 : Hp) (dx7 : Addr), FrAt C H7 a s q X.e S' (ps ++ [.ref t2]) → Off a s q H5 H7 → Q (.bl true) (upd H7 a (.ins C dx7 (fr m s q))) := fun S' eS H7 dx7 f7 o7 => by
                  obtain ⟨f8, o8⟩ := f7.edge (dx := dx7) (m := m)
                  subst eS
                  exact h2 _ e0 _ ⟨_, f8, (hp5.keep (fa5.offT o7)).keep (f7.offT o8)⟩ ((o5.trans o7).trans o8)
                refine ⟨.ref a, rfl, a, dx5, _, rfl, ea5, put_no, .int i, rfl, .ref t, rfl, .int m, rfl, t, x.1, x.2.1, x.2.2.1, x.2.2.2, m, rfl, ht5, rx.f01, fun hz => ?_, fun hz r nr => ?_⟩
                · have z : m - x.2.1 = 0 := by omega
                  refine ⟨a, s, q, X.e, i, X.S, _, .non, x, rfl, fa5, hx, .inl ⟨rfl, fun H7 f7 o7 => ?_⟩⟩
                  obtain ⟨dx7, ea7⟩ := f7.at_a
                  refine ⟨.int m, rfl, .ref a, rfl, a, C, dx7, _, rfl, ea7, T.cl, T.nE, by show 3 < 1000; decide, ?_⟩
                  rw [putF_edge]
                  exact done _ (if_pos z).symm H7 dx7 f7 o7
                · have z : ¬ m - x.2.1 = 0 := by omega
                  have ck := cut_ok (m := m) rx hlx (by omega) z (by omega)
                  have sr := same_upd (H := H5) (o := t4 (cutX x m)) nr
                  rw [k3, k2, k1]
                  refine ⟨a, s, q, X.e, i, X.S, _, .ref r, x, rfl, fa5.same sr, hx, .inr ⟨r, cutX x m, rfl, upd_same, fun H7 f7 o7 => ?_⟩⟩
                  rw [nrm_id ck.op] at f7
                  obtain ⟨dx7, ea7⟩ := f7.at_a
                  refine ⟨.int m, rfl, .ref a, rfl, a, C, dx7, _, rfl, ea7, T.cl, T.nE, by show 3 < 1000; decide, ?_⟩
                  rw [putF_edge]
                  exact done _ (if_neg z).symm H7 dx7 f7 ((Off.of_same sr).trans o7)
      · rw [decide_eq_false (show ¬ V.int (x.2.1 + x.2.2.1) = V.int X.e from fun z => hE (V.int.inj z))]
        exact no H (Same.refl H) (by rw [e0]; exact if_neg fun z => hE z.2.1)
    · refine ⟨.non, rfl, rfl, _, rfl, iteT ?_⟩
      refine no H (Same.refl H) ?_
      unfold foldS
      cases hx : sget X.S i with
      | none => rfl
      | some x =>
        refine if_neg fun z => ?_
        have := hno x hx
        rw [z.1] at this
        cases this
end

/-! ### made, make -/
abbrev s_Fmade : Stmt := inClass (top 31) 6
abbrev N_Fmade : List Str := ["self", "move", "name"]
abbrev P_Fmade : List Str := ["self", "move"]
theorem sc_Fmade : FnScope N_Fmade P_Fmade (defScope s_Fmade) := ⟨rfl, rfl, rfl, by decide +kernel, rfl, by decide +kernel, by decide +kernel⟩
abbrev s_Fmake : Stmt := inClass (top 31) 5
abbrev N_Fmake : List Str := ["self", "move", "number"]
abbrev P_Fmake : List Str := ["self", "move"]
theorem sc_Fmake : FnScope N_Fmake P_Fmake (defScope s_Fmake) := ⟨rfl, rfl, rfl, by decide +kernel, rfl, by decide +kernel, by decide +kernel⟩
theorem isB_ty {K : PySem.W.Frag} {H : Hp} {y : V} (h : MV y) : ∃ t, TyX K H y t ∧ PySem.W.kitOne K t (.type "bool") = some (isB y) := by
  rcases h with (⟨i, rfl, _⟩ | ⟨b, rfl⟩) | ⟨z, rfl, _⟩
  · exact ⟨_, TyX.base (TyOf.int _), kit_ty (r := false) (by decide +kernel)⟩
  · exact ⟨_, TyX.base (TyOf.bl _), kit_ty (r := true) (by decide +kernel)⟩
  · exact ⟨_, TyX.base (TyOf.str _), kit_ty (r := false) (by decide +kernel)⟩
theorem moV_noB (mo : Mo) : (moV mo).any isB = false := by cases mo <;> rfl
/-- what the move xs makes of the road X -/
def MvS (xs : List V) (X : FS) (r : Option FS) : Prop := ((∃ mo, xs = moV mo ∧ r = mkS X mo) ∨ (xs.any isB = true ∧ r = none)) ∧ (∀ y ∈ xs, MV y) ∧ xs.length ≤ 20
def spMadeS (C : Addr) : Sp := fun vs H Q _ => ∃ (a s q t : Addr) (X : FS) (mo : Mo), vs = [.ref a, .ref t] ∧ FrS C H a s q X ∧ WF X ∧ X.L.length ≤ 1000 ∧ H t = some (.tup (moV mo)) ∧ AfterS C H a s q X (mkS X mo) Q
def spMakeS (C CM : Addr) : Sp := fun vs H Q E => ∃ (a s q t : Addr) (X : FS) (xs : List V) (r : Option FS), vs = [.ref a, .ref t] ∧ FrS C H a s q X ∧ WF X ∧ X.L.length ≤ 1000 ∧ H t = some (.tup xs) ∧ MvS xs X r ∧
  (∀ X', r = some X' → ∀ H', FrS C H' a s q X' → Off a s q H H' → Q .non H') ∧
  (r = none → ∀ (H' : Hp) (d : Addr), FrS C H' a s q X → Off a s q H H' → H' d = some (.xd (bmF (.ref t))) → E (.ref CM) (some d) H')
section
variable {P : Program} {w : World} {K : PySem.W.Frag} {mg : Str → Option Value} {base : Heap} {C : Addr}
theorem ok_madeS {f fI fH fM fL fF fB : Addr} {fd fdI fdH fdM fdL fdF fdB : FuncData} (F : Fun K "made" "Front.made" s_Fmade f fd) (T : FrT K mg C) (M_idle : Meth K C "idle" fI) (G_idle : FnOk P w K mg base CX0 4 fI fdI P_Fidle (spIdle C)) (b_idle : Binds K fdI P_Fidle [])
    (M_halve : Meth K C "halve" fH) (G_halve : FnOk P w K mg base CX0 4 fH fdH P_Fhalve (spHalve C)) (b_halve : Binds K fdH P_Fhalve []) (M_merge : Meth K C "merge" fM) (G_merge : FnOk P w K mg base CX0 4 fM fdM P_Fmerge (spMerge C)) (b_merge : Binds K fdM P_Fmerge [])
    (M_lead : Meth K C "lead" fL) (G_lead : FnOk P w K mg base CX0 4 fL fdL P_Flead (spFlead C)) (b_lead : Binds K fdL P_Flead []) (M_fold : Meth K C "fold" fF) (G_fold : FnOk P w K mg base CX0 4 fF fdF P_Ffold (spFfold C)) (b_fold : Binds K fdF P_Ffold [])
    (M_bare : Meth K C "bare" fB) (G_bare : FnOk P w K mg base CX0 3 fB fdB P_Fbare (spBare C)) (b_bare : Binds K fdB P_Fbare []) : FnOk P w K mg base CX0 5 f fd P_Fmade (spMadeS C) := by
  refine F.ok sc_Fmade (fun vs H Q E h => ?_) (fun cdv A outer s H vs Q E hr h => ?_)
  · obtain ⟨a, s, q, t, X, mo, rfl, _⟩ := h
    rfl
  · obtain ⟨a, s, q, t, X, mo, rfl, fS, wf, hL, ht, af⟩ := h
    refine ⟨_, (pss_cons (ps_set (i := 2) sc_Fmade.nd rfl (.inl rfl) (pe_ix ix_tup (pv 1) pe_int (fun _ _ => rfl)))
      (pss_cons (ps_if (pt_cmpR op_eq (pv 2) pe_str (nomark _)) (pss_one (ps_ret (pe_meth (pv 0) T.cl M_idle G_idle (hr.mono (by omega)) b_idle .nil pass0 (pa_cons (pe_ix ix_tup (pv 1) pe_int (fun _ _ => rfl)) pa_nil)))) pss_nil)
      (pss_cons (ps_if (pt_cmpR op_eq (pv 2) pe_str (nomark _)) (pss_one (ps_ret (pe_meth (pv 0) T.cl M_halve G_halve (hr.mono (by omega)) b_halve .nil pass0 (pa_cons (pe_ix ix_tup (pv 1) pe_int (fun _ _ => rfl)) pa_nil)))) pss_nil)
      (pss_cons (ps_if (pt_cmpR op_eq (pv 2) pe_str (nomark _)) (pss_one (ps_ret (pe_meth (pv 0) T.cl M_merge G_merge (hr.mono (by omega)) b_merge .nil pass0 (pa_cons (pe_ix ix_tup (pv 1) pe_int (fun _ _ => rfl)) (pa_cons (pe_ix ix_tup (pv 1) pe_int (fun _ _ => rfl)) pa_nil))))) pss_nil)
      (pss_cons (ps_if (pt_cmpR op_eq (pv 2) pe_str (nomark _)) (pss_one (ps_ret (pe_meth (pv 0) T.cl M_lead G_lead (hr.mono (by omega)) b_lead .nil pass0 (pa_cons (pe_ix ix_tup (pv 1) pe_int (fun _ _ => rfl)) (pa_cons (pe_ix ix_tup (pv 1) pe_int (fun _ _ => rfl)) (pa_cons (pe_ix ix_tup (pv 1) pe_int (fun _ _ => rfl)) pa_nil)))))) pss_nil)
      (pss_cons (ps_if (pt_cmpR op_eq (pv 2) pe_str (nomark _)) (pss_one (ps_ret (pe_meth (pv 0) T.cl M_fold G_fold (hr.mono (by omega)) b_fold .nil pass0 (pa_cons (pe_ix ix_tup (pv 1) pe_int (fun _ _ => rfl)) (pa_cons (pe_ix ix_tup (pv 1) pe_int (fun _ _ => rfl)) pa_nil))))) pss_nil)
      (pss_one (ps_ret (pe_and (pe_cmpR op_eq (pv 2) pe_str (nomark _)) (pe_one (pe_meth (pv 0) T.cl M_bare G_bare (hr.mono (by omega)) b_bare .nil pass0 (pa_cons (pe_ix ix_tup (pv 1) pe_int (fun _ _ => rfl)) pa_nil)))))))))))), ?_⟩
    have fS0 := fS
    obtain ⟨ps, fa, hp⟩ := fS0
    obtain ⟨dx, ea⟩ := fa.at_a
    cases mo with
    | idle i =>
      refine ⟨.ref t, rfl, t, _, 0, .str "idle", rfl, rfl, SqT.of ht, atI_nat (j := 0) rfl, ?_⟩
      refine ⟨.str "idle", rfl, rfl, _, rfl, ite2 (fun _ => ?_) (fun h => absurd (by decide +kernel) h)⟩
      exact ⟨.ref a, rfl, a, dx, _, rfl, ea, put_no, .ref t, rfl, t, _, 1, .int i, rfl, rfl, SqT.of ht, atI_nat (j := 1) rfl, a, s, q, i, X, rfl, fS, wf, af⟩
    | halve i =>
      refine ⟨.ref t, rfl, t, _, 0, .str "halve", rfl, rfl, SqT.of ht, atI_nat (j := 0) rfl, ?_⟩
      refine ⟨.str "halve", rfl, rfl, _, rfl, ite2 (fun h => absurd h (by decide +kernel)) (fun _ => ?_)⟩
      refine ⟨.str "halve", rfl, rfl, _, rfl, ite2 (fun _ => ?_) (fun h => absurd (by decide +kernel) h)⟩
      exact ⟨.ref a, rfl, a, dx, _, rfl, ea, put_no, .ref t, rfl, t, _, 1, .int i, rfl, rfl, SqT.of ht, atI_nat (j := 1) rfl, a, s, q, X.e, i, X.S, ps, rfl, fa, After.ofS fa hp af⟩
    | merge i j =>
      refine ⟨.ref t, rfl, t, _, 0, .str "merge", rfl, rfl, SqT.of ht, atI_nat (j := 0) rfl, ?_⟩
      refine ⟨.str "merge", rfl, rfl, _, rfl, ite2 (fun h => absurd h (by decide +kernel)) (fun _ => ?_)⟩
      refine ⟨.str "merge", rfl, rfl, _, rfl, ite2 (fun h => absurd h (by decide +kernel)) (fun _ => ?_)⟩
      refine ⟨.str "merge", rfl, rfl, _, rfl, ite2 (fun _ => ?_) (fun h => absurd (by decide +kernel) h)⟩
      exact ⟨.ref a, rfl, a, dx, _, rfl, ea, put_no, .ref t, rfl, t, _, 1, .int i, rfl, rfl, SqT.of ht, atI_nat (j := 1) rfl, .ref t, rfl, t, _, 2, .int j, rfl, rfl, SqT.of ht, atI_nat (j := 2) rfl, a, s, q, X.e, i, j, X.S, ps, rfl, fa, After.ofS fa hp af⟩
    | lead j d i =>
      refine ⟨.ref t, rfl, t, _, 0, .str "lead", rfl, rfl, SqT.of ht, atI_nat (j := 0) rfl, ?_⟩
      refine ⟨.str "lead", rfl, rfl, _, rfl, ite2 (fun h => absurd h (by decide +kernel)) (fun _ => ?_)⟩
      refine ⟨.str "lead", rfl, rfl, _, rfl, ite2 (fun h => absurd h (by decide +kernel)) (fun _ => ?_)⟩
      refine ⟨.str "lead", rfl, rfl, _, rfl, ite2 (fun h => absurd h (by decide +kernel)) (fun _ => ?_)⟩
      refine ⟨.str "lead", rfl, rfl, _, rfl, ite2 (fun _ => ?_) (fun h => absurd (by decide +kernel) h)⟩
      exact ⟨.ref a, rfl, a, dx, _, rfl, ea, put_no, .ref t, rfl, t, _, 1, .int j, rfl, rfl, SqT.of ht, atI_nat (j := 1) rfl, .ref t, rfl, t, _, 2, .int d, rfl, rfl, SqT.of ht, atI_nat (j := 2) rfl, .ref t, rfl, t, _, 3, .int i, rfl, rfl, SqT.of ht, atI_nat (j := 3) rfl, a, s, q, j, d, i, X, rfl, fS, wf, af⟩
    | fold i m =>
      refine ⟨.ref t, rfl, t, _, 0, .str "fold", rfl, rfl, SqT.of ht, atI_nat (j := 0) rfl, ?_⟩
      refine ⟨.str "fold", rfl, rfl, _, rfl, ite2 (fun h => absurd h (by decide +kernel)) (fun _ => ?_)⟩
      refine ⟨.str "fold", rfl, rfl, _, rfl, ite2 (fun h => absurd h (by decide +kernel)) (fun _ => ?_)⟩
      refine ⟨.str "fold", rfl, rfl, _, rfl, ite2 (fun h => absurd h (by decide +kernel)) (fun _ => ?_)⟩
      refine ⟨.str "fold", rfl, rfl, _, rfl, ite2 (fun h => absurd h (by decide +kernel)) (fun _ => ?_)⟩
      refine ⟨.str "fold", rfl, rfl, _, rfl, ite2 (fun _ => ?_) (fun h => absurd (by decide +kernel) h)⟩
      exact ⟨.ref a, rfl, a, dx, _, rfl, ea, put_no, .ref t, rfl, t, _, 1, .int i, rfl, rfl, SqT.of ht, atI_nat (j := 1) rfl, .ref t, rfl, t, _, 2, .int m, rfl, rfl, SqT.of ht, atI_nat (j := 2) rfl, a, s, q, i, m, X, rfl, fS, wf, hL, af⟩
    | bare m =>
      refine ⟨.ref t, rfl, t, _, 0, .str "bare", rfl, rfl, SqT.of ht, atI_nat (j := 0) rfl, ?_⟩
      refine ⟨.str "bare", rfl, rfl, _, rfl, ite2 (fun h => absurd h (by decide +kernel)) (fun _ => ?_)⟩
      refine ⟨.str "bare", rfl, rfl, _, rfl, ite2 (fun h => absurd h (by decide +kernel)) (fun _ => ?_)⟩
      refine ⟨.str "bare", rfl, rfl, _, rfl, ite2 (fun h => absurd h (by decide +kernel)) (fun _ => ?_)⟩
      refine ⟨.str "bare", rfl, rfl, _, rfl, ite2 (fun h => absurd h (by decide +kernel)) (fun _ => ?_)⟩
      refine ⟨.str "bare", rfl, rfl, _, rfl, ite2 (fun h => absurd h (by decide +kernel)) (fun _ => ?_)⟩
      refine ⟨.str "bare", rfl, rfl, _, rfl, ite2 (fun _ => ?_) (fun h => absurd (by decide +kernel) h)⟩
      exact ⟨.ref a, rfl, a, dx, _, rfl, ea, put_no, .ref t, rfl, t, _, 1, .int m, rfl, rfl, SqT.of ht, atI_nat (j := 1) rfl, a, s, q, m, X, rfl, fS, wf, hL, af⟩
theorem ok_makeS {f fM CF CM fI : Addr} {fd fdM fdI : FuncData} (F : Fun K "make" "Front.make" s_Fmake f fd) (T : FrT K mg C) (M_made : Meth K C "made" fM) (G_made : FnOk P w K mg base CX0 5 fM fdM P_Fmade (spMadeS C)) (b_made : Binds K fdM P_Fmade []) (B : Bn mg)
    (Te : ErT K mg CF CM fI fdI "BadMove" N_bminit) (n1 : PySem.W.findIn K (.ref CM) "move" = some none) (GI : FnOk P w K mg base CX0 2 fI fdI N_bminit (spBmInit K)) : FnOk P w K mg base (L2.CX P w) 6 f fd P_Fmake (spMakeS C CM) := by
  refine F.okX sc_Fmake (fun vs H Q E h => ?_) (fun cdv A outer s H vs Q E hr h => ?_)
  · obtain ⟨a, s, q, t, X, xs, r, rfl, _⟩ := h
    rfl
  · obtain ⟨a, s, q, t, X, xs, r, rfl, fS, wf, hL, ht, mv, q1, q2⟩ := h
    refine ⟨_, (pss_one (ps_if (PW.pt (pw_or (pt_val (pe_callB (cr_any rfl) (by rfl) B.any (by decide +kernel) (pa_cons (pe_lc (own := [("number", 2)]) (g := gName 2) (by rfl) sc_Fmake.nd (pi_tup (pv 1)) (blkOk_by (own := [("number", 2)]) (N := N_Fmake) (sc := defScope s_Fmake) (by decide +kernel)) (fun _ _ _ _ _ => (pg_name (i := 2) sc_Fmake.nd rfl (.inl rfl))) (fun _ _ _ _ _ => pts_nil) (fun _ _ _ _ _ => (pe_callB (show CallR _ _ (rIsi K) from call_isi) (by rfl) B.isinstance (by decide +kernel) (pa_cons (pv 2) (pa_cons (pe_bltn (v := .ty "bool") (by rfl) B.bool (by decide +kernel) rfl) pa_nil))))) pa_nil))) (pw_or1 (pt_not (pt_val (pe_meth (pv 0) T.cl M_made G_made (hr.mono (by omega)) b_made .nil pass0 (pa_cons (pv 1) pa_nil))))))) (pss_one (ps_raise rfl (takes_of rfl rfl rfl rfl) (pmk_oex Te.e.o Te.iC Te.tI GI (hr.mono (by omega)) Te.bI .nil pass0 (by rfl) Te.gC (pa_cons (pv 1) pa_nil)))) pss_nil)), ?_⟩
    obtain ⟨mv0, m1, m2⟩ := mv
    have bad : ∀ H3, FrS C H3 a s q X → Off a s q H H3 → H3 t = some (.tup xs) → r = none → (tMkO CM (spBmInit K) [] (tCons (tVar 1) tNil)) [some (.ref a), some (.ref t), none] H3 (fun cls d H' => E cls d H') := fun H3 f3 o3 ht3 hr0 => by
      refine ⟨.ref t, rfl, by show 1 ≤ 1000; decide, fun x nx => ?_⟩
      refine ⟨x, CM, t, xs, rfl, same_upd nx _ _ ht3, m1, m2, Te.e, n1, upd_same, fun H' dy ndy ex ed kp => ⟨rfl, dy, bmF (.ref t), ex, ed, (same_upd nx).free ndy, ?_⟩⟩
      have k3 : Same H3 (upd (del H' x) dy (.xd (bmF (.ref t)))) := fun b o hb => by
        have nbx : b ≠ x := ne_of_none hb nx
        have nbd : b ≠ dy := ne_of_none hb ((same_upd nx).free ndy)
        rw [upd_ne nbd, del_ne nbx]
        exact kp b o nbx (by rw [upd_ne nbx]; exact hb)
      exact q2 hr0 _ dy (f3.same k3) (o3.trans (Off.of_same k3)) upd_same
    refine ⟨.ref t, rfl, t, rfl, ⟨_, SqT.of ht⟩, fun L nL => lc_tup (K := K) (a := t) (xs := xs) (fun i H2 => Same H H2 ∧ H2 L = some (.lst (((xs.map isB).take i).map V.bl)) ∧ i ≤ xs.length)
      ⟨same_upd nL, upd_same, Nat.zero_le _⟩ (fun i H2 _ ⟨sm, _⟩ => SqT.of (sm _ _ ht)) ?_ ?_⟩
    · rintro i x H2 hx ⟨sm, e2, hi0⟩
      have hi : i < xs.length := (List.getElem?_eq_some_iff.mp hx).1
      obtain ⟨ty, h1, h2⟩ := isB_ty (K := K) (H := H2) (m1 x (List.mem_of_getElem? hx))
      refine ⟨rfl, ?_⟩
      refine ⟨x, rfl, _, _, _, _, isB x, rfl, ClsV.ty _, h1, h2, ?_⟩
      refine ⟨_, e2, sz_lt (by rw [List.length_map, List.length_take]; omega), fun b o' hb => ?_, ?_, by omega⟩
      · rw [upd_ne (ne_of_none hb nL)]
        exact sm _ _ hb
      · rw [upd_same, List.take_add_one, List.getElem?_map, hx, List.map_append]
        rfl
    · rintro H2 ⟨sm, e2, _⟩
      rw [show (xs.map isB).take xs.length = xs.map isB by rw [← List.length_map (f := isB), List.take_length]] at e2
      have ef : (xs.map isB).any id = xs.any isB := by rw [List.any_map]; rfl
      refine ⟨L, _, rfl, SqL.of e2, _, rfl, ?_⟩
      rw [ef]
      have f2 := fS.same sm
      rcases mv0 with ⟨mo, rfl, rfl⟩ | ⟨hb, rfl⟩
      · rw [moV_noB]
        refine iteF ?_
        have f20 := f2
        obtain ⟨ps, fa2, _⟩ := f20
        obtain ⟨dx, ea⟩ := fa2.at_a
        refine ⟨.ref a, rfl, a, dx, _, rfl, ea, put_no, .ref t, rfl, a, s, q, t, X, mo, rfl, f2, wf, hL, sm _ _ ht, fun hr0 H3 f3 o3 => ?_, fun X' hX H3 f3 o3 => ?_⟩
        · refine ⟨false, rfl, iteT ?_⟩
          exact bad H3 f3 ((Off.of_same sm).trans o3) (fa2.offT o3 _ _ (sm _ _ ht)) hr0
        · exact ⟨true, rfl, iteF (q1 X' hX H3 f3 ((Off.of_same sm).trans o3))⟩
      · rw [hb]
        exact iteT (bad H2 f2 (Off.of_same sm) (sm _ _ ht) rfl)
end

/-! ### the law's own making: first, leads, reach -/
/-- the entries of a dict of matings -/
theorem Std.ents {H : Hp} : ∀ {kvs : List (Key × V)} {S : StL}, Std H kvs S → ∃ ks : List (Int × Addr), kvs = ks.map entK ∧ Paired (fun (e : Int × Addr) (s : Int × M4) => e.1 = s.1 ∧ H e.2 = some (t4 s.2)) ks S
  | _, _, .nil => ⟨[], rfl, .nil⟩
  | _, _, .cons (a := kv) (b := s) ⟨h1, t, h2, h3⟩ r => by
    obtain ⟨ks, e, p⟩ := Std.ents r
    refine ⟨(s.1, t) :: ks, ?_, .cons ⟨rfl, h3⟩ p⟩
    rw [e, List.map_cons]
    congr 1
    exact Prod.ext h1 h2
theorem ents_keys {H : Hp} : ∀ {ks : List (Int × Addr)} {S : StL}, Paired (fun (e : Int × Addr) (s : Int × M4) => e.1 = s.1 ∧ H e.2 = some (t4 s.2)) ks S → ks.map (·.1) = S.map (·.1)
  | _, _, .nil => rfl
  | _, _, .cons h r => by rw [List.map_cons, List.map_cons, ents_keys r, h.1]
/-- a state of the law: the top, the rows, what was laid -/
structure LawAt (H : Hp) (z r l : Addr) (X : FS) : Prop where
  at_z : H z = some (.tup [.int X.e, .ref r, .ref l])
  at_r : ∃ kvs, H r = some (.dK kvs) ∧ Std H kvs X.S
  at_l : ∃ ps, H l = some (.lst ps) ∧ Past H ps X.L
theorem LawAt.same {H H' : Hp} {z r l : Addr} {X : FS} (h : LawAt H z r l X) (k : Same H H') : LawAt H' z r l X := by
  obtain ⟨h1, ⟨kvs, h2, h3⟩, ⟨ps, h4, h5⟩⟩ := h
  exact ⟨k _ _ h1, ⟨kvs, k _ _ h2, h3.keep fun b xs hb => k _ _ hb⟩, ⟨ps, k _ _ h4, h5.keep fun b xs hb => k _ _ hb⟩⟩
abbrev s_first : Stmt := top 42
abbrev N_first : List Str := ["_law_mating_here", "_law_one", "_law_other", "_law_many", "_law_flips"]
abbrev P_first : List Str := ["_law_mating_here"]
theorem sc_first : FnScope N_first P_first (defScope s_first) := ⟨rfl, rfl, rfl, by decide +kernel, rfl, by decide +kernel, by decide +kernel⟩
abbrev s_leads : Stmt := top 43
abbrev N_leads : List Str := ["_law_mating_here", "_law_one", "_law_other", "_law_many", "_law_flips"]
abbrev P_leads : List Str := ["_law_mating_here"]
theorem sc_leads : FnScope N_leads P_leads (defScope s_leads) := ⟨rfl, rfl, rfl, by decide +kernel, rfl, by decide +kernel, by decide +kernel⟩
abbrev s_reach : Stmt := top 44
abbrev N_reach : List Str := ["_law_state", "_law_but", "_law_at", "_law_row"]
abbrev P_reach : List Str := ["_law_state", "_law_but"]
theorem sc_reach : FnScope N_reach P_reach (defScope s_reach) := ⟨rfl, rfl, rfl, by decide +kernel, rfl, by decide +kernel, by decide +kernel⟩
def spFirst : Sp := fun vs H Q _ => ∃ (t : Addr) (x : M4), vs = [.ref t] ∧ H t = some (t4 x) ∧ ∀ r, H r = none → Q (.ref r) (upd H r (t4 (nrm x)))
def spLeads : Sp := fun vs H Q _ => ∃ (t : Addr) (x : M4), vs = [.ref t] ∧ H t = some (t4 x) ∧ Q (.bl (xLead x)) H
def spReachL : Sp := fun vs H Q _ => ∃ (z r l : Addr) (v : V) (b : Option Int) (X : FS), vs = [.ref z, v] ∧ ((v = .non ∧ b = none) ∨ ∃ i : Int, v = .int i ∧ b = some i) ∧ LawAt H z r l X ∧ WF X ∧ ∀ H', Same H H' → Q (.int (rch X.S b)) H'
theorem ne_test {v : V} {b : Option Int} (hb : (v = .non ∧ b = none) ∨ ∃ i : Int, v = .int i ∧ b = some i) (z : Int) : scal (.int z) v = true ∧ (!decide (V.int z = v)) = decide (b ≠ some z) := by
  rcases hb with ⟨rfl, rfl⟩ | ⟨i, rfl, rfl⟩
  · refine ⟨rfl, ?_⟩
    rw [decide_eq_false (show ¬ V.int z = V.non from fun q => by cases q), decide_eq_true (show (none : Option Int) ≠ some z from fun q => by cases q)]
    rfl
  · refine ⟨rfl, ?_⟩
    by_cases e : z = i
    · rw [e, decide_eq_true rfl, decide_eq_false (fun q => q rfl)]
      rfl
    · rw [decide_eq_false (show ¬ V.int z = V.int i from fun q => e (V.int.inj q)), decide_eq_true (show some i ≠ some z from fun q => e (Option.some.inj q).symm)]
      rfl
theorem endsL_step {S : StL} {b : Option Int} {i : Nat} {z : Int × M4} (hz : S[i]? = some z) : endsL (S.take (i + 1)) b = endsL (S.take i) b ++ (if decide (b ≠ some z.1) = true then [z.2.2.1 + z.2.2.2.1] else []) := by
  unfold endsL
  rw [List.take_add_one, hz, List.filter_append, List.map_append]
  congr 1
  show (List.filter (fun s => decide (b ≠ some s.1)) [z]).map _ = _
  simp only [List.filter_cons, List.filter_nil]
  by_cases q : decide (b ≠ some z.1) = true
  · rw [if_pos q, if_pos q]
    rfl
  · rw [if_neg q, if_neg q]
    rfl
theorem endsL_len (S : StL) (b : Option Int) (i : Nat) : (endsL (S.take i) b).length ≤ i := by
  unfold endsL
  rw [List.length_map]
  have := List.length_filter_le (fun s => decide (b ≠ some s.1)) (S.take i)
  rw [List.length_take] at this
  omega
section
variable {P : Program} {w : World} {K : PySem.W.Frag} {mg : Str → Option Value} {base : Heap}
theorem ok_first {f : Addr} {fd : FuncData} (D : DefAt K mg "_law_first" s_first P_first f fd) (B : Bn mg) : FnOk P w K mg base CX0 1 f fd P_first spFirst := by
  refine D.F.ok sc_first (fun vs H Q E h => ?_) (fun cdv A outer s H vs Q E hr h => ?_)
  · obtain ⟨t, x, rfl, _⟩ := h
    rfl
  · obtain ⟨t, x, rfl, ht, q⟩ := h
    refine ⟨_, (pss_cons (ps_asg (pv 0) (pg_tup (by rfl) (pgs_cons (pg_name (i := 1) sc_first.nd rfl (.inl rfl)) (pgs_cons (pg_name (i := 2) sc_first.nd rfl (.inl rfl)) (pgs_cons (pg_name (i := 3) sc_first.nd rfl (.inl rfl)) (pgs_cons (pg_name (i := 4) sc_first.nd rfl (.inl rfl)) pgs_nil))))))
      (pss_one (ps_ret (pe_tup (pa_cons (pe_callB (call_min2 rfl) (by rfl) B.min (by decide +kernel) (pa_cons (pv 1) (pa_cons (pv 2) pa_nil))) (pa_cons (pe_callB (call_max2 rfl) (by rfl) B.max (by decide +kernel) (pa_cons (pv 1) (pa_cons (pv 2) pa_nil))) (pa_cons (pv 3) (pa_cons (pv 4) pa_nil)))))))), ?_⟩
    refine ⟨.ref t, rfl, t, _, rfl, SqT.of ht, rfl, .int x.1, _, rfl, .int x.2.1, _, rfl, .int x.2.2.1, _, rfl, .int x.2.2.2, _, rfl, rfl, ?_⟩
    refine ⟨.int x.1, rfl, .int x.2.1, rfl, x.1, x.2.1, rfl, .int x.1, rfl, .int x.2.1, rfl, x.1, x.2.1, rfl, .int x.2.2.1, rfl, .int x.2.2.2, rfl, by show 4 ≤ sizeLine; decide, fun r nr => ?_⟩
    have e : (if x.2.1 > x.1 then x.2.1 else x.1) = (if x.2.1 < x.1 then x.1 else x.2.1) := by split <;> split <;> omega
    have q' := q r nr
    unfold nrm at q'
    rw [← e] at q'
    exact q'
theorem ok_leads {f : Addr} {fd : FuncData} (D : DefAt K mg "_law_leads" s_leads P_leads f fd) (B : Bn mg) : FnOk P w K mg base CX0 1 f fd P_leads spLeads := by
  refine D.F.ok sc_leads (fun vs H Q E h => ?_) (fun cdv A outer s H vs Q E hr h => ?_)
  · obtain ⟨t, x, rfl, _⟩ := h
    rfl
  · obtain ⟨t, x, rfl, ht, q⟩ := h
    refine ⟨_, (pss_cons (ps_asg (pv 0) (pg_tup (by rfl) (pgs_cons (pg_name (i := 1) sc_leads.nd rfl (.inl rfl)) (pgs_cons (pg_name (i := 2) sc_leads.nd rfl (.inl rfl)) (pgs_cons (pg_name (i := 3) sc_leads.nd rfl (.inl rfl)) (pgs_cons (pg_name (i := 4) sc_leads.nd rfl (.inl rfl)) pgs_nil))))))
      (pss_one (ps_ret (pe_ifExp (pt_cmpR op_eq (pv 4) pe_int (nomark _)) (pe_cmpR op_le (pe_op op_add (pv 1) (pv 3)) (pv 2) (nomark _)) (pe_cmpR op_lt (pv 1) (pv 2) (nomark _)))))), ?_⟩
    refine ⟨.ref t, rfl, t, _, rfl, SqT.of ht, rfl, .int x.1, _, rfl, .int x.2.1, _, rfl, .int x.2.2.1, _, rfl, .int x.2.2.2, _, rfl, rfl, ?_⟩
    refine ⟨.int x.2.2.2, rfl, rfl, _, rfl, ?_⟩
    have q0 : Q (.bl (if x.2.2.2 = 1 then decide (x.2.2.1 ≤ x.2.1 - x.1) else decide (1 ≤ x.2.1 - x.1))) H := q
    refine ite2 (fun h => ?_) (fun h => ?_)
    · rw [if_pos (V.int.inj (of_decide_eq_true h)), show decide (x.2.2.1 ≤ x.2.1 - x.1) = decide (x.1 + x.2.2.1 ≤ x.2.1) from decide_eq_decide.mpr ⟨fun z => by omega, fun z => by omega⟩] at q0
      exact ⟨.int x.1, rfl, .int x.2.2.1, rfl, x.1, x.2.2.1, rfl, rfl, .int x.2.1, rfl, _, _, rfl, rfl, q0⟩
    · rw [if_neg (fun z => h (decide_eq_true (congrArg V.int z))), show decide (1 ≤ x.2.1 - x.1) = decide (x.1 < x.2.1) from decide_eq_decide.mpr ⟨fun z => by omega, fun z => by omega⟩] at q0
      exact ⟨.int x.1, rfl, .int x.2.1, rfl, _, _, rfl, rfl, q0⟩
theorem ok_reachL {f : Addr} {fd : FuncData} (D : DefAt K mg "_law_reach" s_reach P_reach f fd) (B : Bn mg) : FnOk P w K mg base CX0 1 f fd P_reach spReachL := by
  refine D.F.ok sc_reach (fun vs H Q E h => ?_) (fun cdv A outer s H vs Q E hr h => ?_)
  · obtain ⟨z, r, l, v, b, X, rfl, _⟩ := h
    rfl
  · obtain ⟨z, r, l, v, b, X, rfl, hb, la, wf, qq⟩ := h
    refine ⟨_, (pss_one (ps_ret (pe_callB (cr_max rfl) (by rfl) B.max (by decide +kernel) (pa_cons (pe_op op_cat (pe_lst (pa_cons pe_int pa_nil)) (pe_lc (own := [("_law_at", 2), ("_law_row", 3)]) (g := gTup K 2 (gCons (gName 2) (gCons (gName 3) gNil))) (by rfl) sc_reach.nd (pi_list (pe_callB (cr_sortedK rfl) (by rfl) B.sorted (by decide +kernel) (pa_cons (pe_bm0 PySem.F.plainAttrs_dict PySem.F.slot_dict_items PySem.F.type_dict_items mt_itemsK (pe_ix ix_tup (pv 0) pe_int (fun _ _ => rfl))) pa_nil))) (blkOk_by (own := [("_law_at", 2), ("_law_row", 3)]) (N := N_reach) (sc := defScope s_reach) (by decide +kernel)) (fun _ _ _ _ _ => (pg_tup (by rfl) (pgs_cons (pg_name (i := 2) sc_reach.nd rfl (.inl rfl)) (pgs_cons (pg_name (i := 3) sc_reach.nd rfl (.inl rfl)) pgs_nil)))) (fun _ _ _ _ _ => (pts_one (pt_cmpR op_ne (pv 2) (pv 1) (nomark _)))) (fun _ _ _ _ _ => (pe_op op_add (pe_ix (show IxR _ (rIxT K) from ix_tup) (pv 3) pe_int (fun _ _ => rfl)) (pe_ix (show IxR _ (rIxT K) from ix_tup) (pv 3) pe_int (fun _ _ => rfl)))))) pa_nil)))), ?_⟩
    obtain ⟨kvs, er, st⟩ := la.at_r
    obtain ⟨ks, rfl, pk⟩ := st.ents
    have hkl := st.length
    rw [List.length_map] at hkl
    have hl := wf.len
    refine ⟨by show 1 ≤ sizeLine; decide, fun A0 nA0 => ?_⟩
    have s0 := same_upd (H := H) (o := .lst [.int 0]) nA0
    have la0 := la.same s0
    refine ⟨.ref z, rfl, z, _, 1, .ref r, rfl, rfl, SqT.of la0.at_z, atI_nat (j := 1) rfl, .inr (.inr (.inl ⟨rfl, .inl ⟨_, s0 _ _ er⟩⟩)), r, _, rfl, rfl, s0 _ _ er, fun p np => ?_⟩
    have s1 := s0.trans (same_upd (o := L2.DX.itemsO p r) np)
    refine ⟨p, r, ks, rfl, upd_same, s1 _ _ er, by omega, by rw [ents_keys pk]; exact wf.up, fun H1 L as s2 nL eL pa => ?_⟩
    have s3 := s1.trans s2
    have pal : as.length = X.S.length := by
      have := Paired.length pa
      omega
    refine ⟨L, rfl, ⟨_, SqL.of eL⟩, fun D nD => lc_list (K := K) (a := L) (xs := as.map V.ref) (fun i H2 => ∃ ns : List Int, Same H1 H2 ∧ H2 D = some (.lst (ns.map V.int)) ∧ ns = endsL (X.S.take i) b)
      ⟨[], same_upd nD, upd_same, rfl⟩ (fun i H2 _ ⟨_, sm, _⟩ => SqL.of (sm _ _ eL)) ?_ ?_⟩
    · rintro i x H2 hx ⟨ns, sm, eD, en⟩
      rw [List.getElem?_map] at hx
      obtain ⟨t, ht, rfl⟩ := Option.map_eq_some_iff.mp hx
      obtain ⟨e, he, het⟩ := LiI.paired_get pa ht
      obtain ⟨y, hy, ey1, ey2⟩ := LiI.paired_get pk he
      have hle := endsL_len X.S b i
      rw [← en] at hle
      have hi : i < as.length := (List.getElem?_eq_some_iff.mp ht).1
      have ht2 := sm _ _ het
      have hrow : H2 e.2 = some (t4 y.2) := sm _ _ (s3 _ _ ey2)
      obtain ⟨sc, nt⟩ := ne_test hb y.1
      rw [← ey1] at sc nt
      refine ⟨t, _, rfl, SqT.of ht2, rfl, .int e.1, _, rfl, .ref e.2, _, rfl, rfl, rfl, .int e.1, rfl, v, rfl, sc, _, rfl, ?_⟩
      rw [nt, ey1]
      have stepE := endsL_step (b := b) hy
      refine ite2 (fun h => ?_) (fun h => ?_)
      · rw [if_pos h] at stepE
        refine ⟨.ref e.2, rfl, e.2, _, 1, .int y.2.2.1, rfl, rfl, SqT.of hrow, at4_1, .ref e.2, rfl, e.2, _, 2, .int y.2.2.2.1, rfl, rfl, SqT.of hrow, at4_2, _, _, rfl, rfl, ?_⟩
        refine ⟨_, eD, sz_lt (by rw [List.length_map]; omega), ns ++ [y.2.2.1 + y.2.2.2.1], fun c o hc => ?_, by rw [upd_same, List.map_append]; rfl, by rw [stepE, en]⟩
        rw [upd_ne (ne_of_none hc nD)]
        exact sm _ _ hc
      · rw [if_neg h, List.append_nil] at stepE
        exact ⟨ns, sm, eD, by rw [stepE, en]⟩
    · rintro H2 ⟨ns, sm, eD, en⟩
      rw [List.length_map, pal, List.take_length] at en
      have s4 := s3.trans sm
      have eA0 : H2 A0 = some (.lst [.int 0]) := sm _ _ (s2 _ _ (same_upd np _ _ upd_same))
      have hnl : ns.length ≤ X.S.length := by
        have := endsL_len X.S b X.S.length
        rw [List.take_length, ← en] at this
        exact this
      refine ⟨A0, D, [.int 0], ns.map V.int, rfl, rfl, eA0, eD, by rw [List.length_map, show ([V.int 0] : List V).length = 1 from rfl]; exact Nat.le_of_lt (sz_lt (by omega)), fun p2 np2 => ?_⟩
      have s5 := s4.trans (same_upd (o := .lst ([V.int 0] ++ ns.map V.int)) np2)
      have pos : ∀ y ∈ ns, 0 ≤ y := fun y hy => by
        rw [en] at hy
        obtain ⟨c, hc, rfl⟩ := List.mem_map.mp hy
        have g := wf.r c (List.mem_filter.mp hc).1
        have := g.o0
        have := g.op
        have := g.m1
        omega
      refine ⟨p2, 0 :: ns, rfl, SqL.of upd_same, Nat.succ_pos _, fun m hm hle => ?_⟩
      have z : m = rch X.S b := by
        unfold rch
        rw [← en]
        exact max_is (hle 0 List.mem_cons_self) (List.mem_cons.mp hm) fun y hy => hle y (List.mem_cons_of_mem _ hy)
      rw [z]
      exact qq _ s5
end
/-! ### _law_lead -/
abbrev s_lead : Stmt := top 46
abbrev N_lead : List Str := ["_law_row", "_law_side", "_law_way", "_law_begin", "_law_ends_here"]
abbrev P_lead : List Str := ["_law_row", "_law_side", "_law_way"]
theorem sc_lead : FnScope N_lead P_lead (defScope s_lead) := ⟨rfl, rfl, rfl, by decide +kernel, rfl, by decide +kernel, by decide +kernel⟩
def spLeadL : Sp := fun vs H Q _ => ∃ (tx tw : Addr) (x w : M4) (d e : Int), vs = [.ref tx, .int d, .ref tw] ∧ H tx = some (t4 x) ∧ H tw = some (t4 w) ∧ (d = 0 ∨ d = 1) ∧ Rok e x ∧ Rok e w ∧ xLead w = true ∧
  (leadX x w d = none → ∀ H', Same H H' → Q .non H') ∧ ∀ y, leadX x w d = some y → ∀ H' r, Same H H' → H' r = some (t4 y) → Q (.ref r) H'
section
variable {P : Program} {w : World} {K : PySem.W.Frag} {mg : Str → Option Value} {base : Heap}
theorem ok_leadL {f fF : Addr} {fd fdF : FuncData} (D : DefAt K mg "_law_lead" s_lead P_lead f fd) (D_first : DefAt K mg "_law_first" s_first P_first fF fdF) (B : Bn mg) : FnOk P w K mg base CX0 2 f fd P_lead spLeadL := by
  have G_first : FnOk P w K mg base CX0 1 fF fdF P_first spFirst := ok_first D_first B
  refine D.F.ok sc_lead (fun vs H Q E h => ?_) (fun cdv A outer s H vs Q E hr h => ?_)
  · obtain ⟨tx, tw, x, w, d, e, rfl, _⟩ := h
    rfl
  · obtain ⟨tx, tw, x, w, d, e, rfl, hx, hw, hd, rx, rw_, hl, q1, q2⟩ := h
    refine ⟨_, (pss_cons (ps_set (i := 3) sc_lead.nd rfl (.inl rfl) (pe_ix ix_tup (pv 0) (pv 1) (fun _ _ => rfl)))
      (pss_cons (ps_if (PW.pt (pw_or (pt_cmpR op_lt (pv 3) (pe_ix ix_tup (pv 2) pe_int (fun _ _ => rfl)) (nomark _)) (pw_or1 (pt_cmpR op_gt (pe_op op_add (pv 3) (pe_ix ix_tup (pv 0) pe_int (fun _ _ => rfl))) (pe_op op_add (pe_ix ix_tup (pv 2) pe_int (fun _ _ => rfl)) (pe_ix ix_tup (pv 2) pe_int (fun _ _ => rfl))) (nomark _))))) (pss_one (ps_ret pe_non)) pss_nil)
      (C8.pss_cut (ps_if (pt_cmpR op_eq (pe_ix ix_tup (pv 2) pe_int (fun _ _ => rfl)) pe_int (nomark _)) (pss_one (ps_set (i := 3) sc_lead.nd rfl (.inl rfl) (pe_op op_sub (pe_op op_sub (pe_op op_add (pe_op op_add (pe_ix ix_tup (pv 2) pe_int (fun _ _ => rfl)) (pe_ix ix_tup (pv 2) pe_int (fun _ _ => rfl))) (pe_ix ix_tup (pv 2) pe_int (fun _ _ => rfl))) (pv 3)) (pe_ix ix_tup (pv 0) pe_int (fun _ _ => rfl))))) (pss_one (ps_set (i := 3) sc_lead.nd rfl (.inl rfl) (pe_op op_add (pe_ix ix_tup (pv 2) pe_int (fun _ _ => rfl)) (pe_op op_mod (pe_op op_sub (pv 3) (pe_ix ix_tup (pv 2) pe_int (fun _ _ => rfl))) (pe_op op_sub (pe_ix ix_tup (pv 2) pe_int (fun _ _ => rfl)) (pe_ix ix_tup (pv 2) pe_int (fun _ _ => rfl))))))))
      (pss_cons (ps_set (i := 4) sc_lead.nd rfl (.inl rfl) (pe_ifExp (pt_cmpR op_eq (pv 1) pe_int (nomark _)) (pe_lst (pa_cons (pv 3) (pa_cons (pe_ix ix_tup (pv 0) pe_int (fun _ _ => rfl)) pa_nil))) (pe_lst (pa_cons (pe_ix ix_tup (pv 0) pe_int (fun _ _ => rfl)) (pa_cons (pv 3) pa_nil)))))
      (pss_one (ps_ret (pe_call G_first (hr.mono (by omega)) (by rfl) D_first.g D_first.F.kp D_first.b .nil pass0 (pa_cons (pe_tup (pa_cons (pe_ix ix_list (pv 4) pe_int (fun _ _ => rfl)) (pa_cons (pe_ix ix_list (pv 4) pe_int (fun _ _ => rfl)) (pa_cons (pe_ix ix_tup (pv 0) pe_int (fun _ _ => rfl)) (pa_cons (pe_op op_mod (pe_op op_add (pe_ix ix_tup (pv 0) pe_int (fun _ _ => rfl)) (pe_ix ix_tup (pv 2) pe_int (fun _ _ => rfl))) pe_int) pa_nil))))) pa_nil)))))))), ?_⟩
    have body : ∀ at_ : Int, at_ = (if d = 1 then x.2.1 else x.1) → atI [V.int x.1, V.int x.2.1, V.int x.2.2.1, V.int x.2.2.2] d = some (.int at_) := by
      rintro at_ rfl
      rcases hd with rfl | rfl
      · exact at4_0
      · exact at4_1
    obtain ⟨at_, hat⟩ : ∃ at_ : Int, at_ = (if d = 1 then x.2.1 else x.1) := ⟨_, rfl⟩
    have el : leadX x w d = if w.2.1 ≤ at_ ∧ at_ + x.2.2.1 ≤ w.2.1 + w.2.2.1 then some (nrm (if d = 1 then x.1 else ledB w at_ x.2.2.1, if d = 1 then ledB w at_ x.2.2.1 else x.2.1, x.2.2.1, xorP x.2.2.2 w.2.2.2)) else none := by
      unfold leadX
      rw [← hat]
      by_cases hc : w.2.1 ≤ at_ ∧ at_ + x.2.2.1 ≤ w.2.1 + w.2.2.1
      · rw [if_pos hc, if_pos ⟨hd, hl, hc⟩, hat]
        rcases hd with rfl | rfl
        · rfl
        · rfl
      · rw [if_neg hc, if_neg (fun z => hc z.2.2)]
    refine ⟨.ref tx, rfl, .int d, rfl, tx, _, d, .int at_, rfl, rfl, SqT.of hx, body at_ hat, ?_⟩
    refine ⟨.int at_, rfl, .ref tw, rfl, tw, _, 1, .int w.2.1, rfl, rfl, SqT.of hw, at4_1, at_, w.2.1, rfl, rfl, _, rfl, ?_⟩
    refine ite2 (fun h => ?_) (fun h => ?_)
    · exact q1 (by rw [el]; exact if_neg fun z => by have := of_decide_eq_true h; omega) H (Same.refl H)
    · have h' : ¬ at_ < w.2.1 := fun z => h (decide_eq_true z)
      refine ⟨.int at_, rfl, .ref tx, rfl, tx, _, 2, .int x.2.2.1, rfl, rfl, SqT.of hx, at4_2, at_, x.2.2.1, rfl, rfl, .ref tw, rfl, tw, _, 1, .int w.2.1, rfl, rfl, SqT.of hw, at4_1, .ref tw, rfl, tw, _, 2, .int w.2.2.1, rfl, rfl, SqT.of hw, at4_2, w.2.1, w.2.2.1, rfl, rfl, _, _, rfl, rfl, _, rfl, ?_⟩
      refine ite2 (fun h2 => ?_) (fun h2 => ?_)
      · exact q1 (by rw [el]; exact if_neg fun z => by have := of_decide_eq_true h2; omega) H (Same.refl H)
      · have h2' : ¬ at_ + x.2.2.1 > w.2.1 + w.2.2.1 := fun z => h2 (decide_eq_true z)
        rw [if_pos ⟨by omega, by omega⟩] at el
        refine ⟨fun σ H' => σ = [some (.ref tx), some (.int d), some (.ref tw), some (.int (ledB w at_ x.2.2.1)), none] ∧ H' = H, ?_, ?_⟩
        · refine ⟨.ref tw, rfl, tw, _, 3, .int w.2.2.2, rfl, rfl, SqT.of hw, at4_3, rfl, _, rfl, ?_⟩
          unfold ledB
          refine ite2 (fun hf => ?_) (fun hf => ?_)
          · rw [if_pos (V.int.inj (of_decide_eq_true hf)), show w.1 + w.2.2.1 - (at_ - w.2.1) - x.2.2.1 = w.1 + w.2.1 + w.2.2.1 - at_ - x.2.2.1 by omega]
            exact ⟨.ref tw, rfl, tw, _, 0, .int w.1, rfl, rfl, SqT.of hw, at4_0, .ref tw, rfl, tw, _, 1, .int w.2.1, rfl, rfl, SqT.of hw, at4_1, _, _, rfl, rfl, .ref tw, rfl, tw, _, 2, .int w.2.2.1, rfl, rfl, SqT.of hw, at4_2, _, _, rfl, rfl, .int at_, rfl, _, _, rfl, rfl, .ref tx, rfl, tx, _, 2, .int x.2.2.1, rfl, rfl, SqT.of hx, at4_2, _, _, rfl, rfl, rfl, rfl⟩
          · have hf' : ¬ w.2.2.2 = 1 := fun z => hf (decide_eq_true (congrArg V.int z))
            rw [if_neg hf']
            have hs := lead_st hl hf'
            exact ⟨.ref tw, rfl, tw, _, 0, .int w.1, rfl, rfl, SqT.of hw, at4_0, .int at_, rfl, .ref tw, rfl, tw, _, 0, .int w.1, rfl, rfl, SqT.of hw, at4_0, _, _, rfl, rfl, .ref tw, rfl, tw, _, 1, .int w.2.1, rfl, rfl, SqT.of hw, at4_1, .ref tw, rfl, tw, _, 0, .int w.1, rfl, rfl, SqT.of hw, at4_0, _, _, rfl, rfl, _, _, rfl, rfl, by omega, _, _, rfl, rfl, rfl, rfl⟩
        · rintro σ H' ⟨rfl, rfl⟩
          have fin : ∀ (o p : Int), (o, p) = (if d = 1 then x.1 else ledB w at_ x.2.2.1, if d = 1 then ledB w at_ x.2.2.1 else x.2.1) → ∀ (H2 : Hp) (E2 : Addr), Same H' H2 → H2 E2 = some (.lst [.int o, .int p]) → ∀ t2, H2 t2 = none → spFirst [.ref t2] (upd H2 t2 (.tup [.int o, .int p, .int x.2.2.1, .int ((x.2.2.2 + w.2.2.2) % 2)])) Q E := by
            intro o p eop H2 E2 s2 e2 t2 n2
            rw [mod2_is rx.f01 rw_.f01]
            refine ⟨t2, (o, p, x.2.2.1, xorP x.2.2.2 w.2.2.2), rfl, upd_same, fun r nr => ?_⟩
            refine q2 _ el _ r ((s2.trans (same_upd n2)).trans (same_upd nr)) ?_
            rw [upd_same]
            have e1 : (if d = 1 then x.1 else ledB w at_ x.2.2.1) = o := (Prod.mk.inj eop).1.symm
            have e2 : (if d = 1 then ledB w at_ x.2.2.1 else x.2.1) = p := (Prod.mk.inj eop).2.symm
            rw [e1, e2]
          refine ⟨.int d, rfl, rfl, _, rfl, ?_⟩
          refine ite2 (fun h0 => ?_) (fun h0 => ?_)
          · have h0' : d = 0 := V.int.inj (of_decide_eq_true h0)
            refine ⟨.int (ledB w at_ x.2.2.1), rfl, .ref tx, rfl, tx, _, 1, .int x.2.1, rfl, rfl, SqT.of hx, at4_1, by show 2 ≤ sizeLine; decide, fun E2 nE => ?_⟩
            have s2 := same_upd (H := H') (o := .lst [.int (ledB w at_ x.2.2.1), .int x.2.1]) nE
            refine ⟨.ref E2, rfl, E2, _, 0, .int (ledB w at_ x.2.2.1), rfl, rfl, SqL.of upd_same, atI_nat (j := 0) rfl, .ref E2, rfl, E2, _, 1, .int x.2.1, rfl, rfl, SqL.of upd_same, atI_nat (j := 1) rfl, .ref tx, rfl, tx, _, 2, .int x.2.2.1, rfl, rfl, SqT.of (s2 _ _ hx), at4_2, .ref tx, rfl, tx, _, 3, .int x.2.2.2, rfl, rfl, SqT.of (s2 _ _ hx), at4_3, .ref tw, rfl, tw, _, 3, .int w.2.2.2, rfl, rfl, SqT.of (s2 _ _ hw), at4_3, _, _, rfl, rfl, _, _, rfl, rfl, (by show (0 : Int) < 2; decide), by show 4 ≤ sizeLine; decide, fun t2 n2 => ?_⟩
            exact fin _ _ (by rw [h0']; rfl) _ E2 s2 upd_same t2 n2
          · have h0' : d = 1 := hd.resolve_left fun z => h0 (decide_eq_true (congrArg V.int z))
            refine ⟨.ref tx, rfl, tx, _, 0, .int x.1, rfl, rfl, SqT.of hx, at4_0, .int (ledB w at_ x.2.2.1), rfl, by show 2 ≤ sizeLine; decide, fun E2 nE => ?_⟩
            have s2 := same_upd (H := H') (o := .lst [.int x.1, .int (ledB w at_ x.2.2.1)]) nE
            refine ⟨.ref E2, rfl, E2, _, 0, .int x.1, rfl, rfl, SqL.of upd_same, atI_nat (j := 0) rfl, .ref E2, rfl, E2, _, 1, .int (ledB w at_ x.2.2.1), rfl, rfl, SqL.of upd_same, atI_nat (j := 1) rfl, .ref tx, rfl, tx, _, 2, .int x.2.2.1, rfl, rfl, SqT.of (s2 _ _ hx), at4_2, .ref tx, rfl, tx, _, 3, .int x.2.2.2, rfl, rfl, SqT.of (s2 _ _ hx), at4_3, .ref tw, rfl, tw, _, 3, .int w.2.2.2, rfl, rfl, SqT.of (s2 _ _ hw), at4_3, _, _, rfl, rfl, _, _, rfl, rfl, (by show (0 : Int) < 2; decide), by show 4 ≤ sizeLine; decide, fun t2 n2 => ?_⟩
            exact fin _ _ (by rw [h0']; rfl) _ E2 s2 upd_same t2 n2
end

/-! ### _law_join_two -/
abbrev s_join_two : Stmt := top 45
abbrev N_join_two : List Str := ["_law_first_here", "_law_second", "_law_row", "_law_low", "_law_high", "_law_steps", "_law_part_of", "_law_rest"]
abbrev P_join_two : List Str := ["_law_first_here", "_law_second"]
theorem sc_join_two : FnScope N_join_two P_join_two (defScope s_join_two) := ⟨rfl, rfl, rfl, by decide +kernel, rfl, by decide +kernel, by decide +kernel⟩
def Reps (x : M4) : Prop := x.2.2.2 = 0 ∧ 1 ≤ x.2.1 - x.1 ∧ x.2.1 - x.1 ≤ x.2.2.1
theorem Reps.is {x : M4} (h : Reps x) : isRep x.1 x.2.1 x.2.2.1 x.2.2.2 = true := decide_eq_true h
/-- a mating or none -/
def OptAt (H : Hp) (v : V) (z : Option M4) : Prop := (z = none → v = .non) ∧ ∀ y, z = some y → ∃ t, v = .ref t ∧ H t = some (t4 y)
theorem OptAt.same {H H' : Hp} {v : V} {z : Option M4} (h : OptAt H v z) (k : Same H H') : OptAt H' v z := ⟨h.1, fun y e => (h.2 y e).elim fun t q => ⟨t, q.1, k _ _ q.2⟩⟩
def spJoin : Sp := fun vs H Q _ => ∃ (t t' : Addr) (x y : M4), vs = [.ref t, .ref t'] ∧ H t = some (t4 x) ∧ H t' = some (t4 y) ∧ (x.2.2.2 = 0 ∨ x.2.2.2 = 1) ∧ (y.2.2.2 = 0 ∨ y.2.2.2 = 1) ∧ ∀ v H', Same H H' → OptAt H' v (mrg x y) → Q v H'
section
variable {P : Program} {w : World} {K : PySem.W.Frag} {mg : Str → Option Value} {base : Heap}
theorem ok_join_two {f : Addr} {fd : FuncData} (D : DefAt K mg "_law_join_two" s_join_two P_join_two f fd) (B : Bn mg) : FnOk P w K mg base CX0 1 f fd P_join_two spJoin := by
  refine D.F.ok sc_join_two (fun vs H Q E h => ?_) (fun cdv A outer s H vs Q E hr h => ?_)
  · obtain ⟨t, t', x, y, rfl, _⟩ := h
    rfl
  · obtain ⟨t, t', x, y, rfl, ht, ht', fx, fy, q⟩ := h
    refine ⟨_, (pss_cons (ps_for PassesOwn.never rfl (pi_tup (pe_tup (pa_cons (pv 0) (pa_cons (pv 1) pa_nil)))) (pg_name (i := 2) sc_join_two.nd rfl (.inl rfl)) (pss_one (ps_if (PW.pt (pw_or (pt_cmpR op_eq (pe_ix ix_tup (pv 2) pe_int (fun _ _ => rfl)) pe_int (nomark _)) (pw_or1 (pt_not (pt_chain op_le op_le pe_int (pe_op op_sub (pe_ix ix_tup (pv 2) pe_int (fun _ _ => rfl)) (pe_ix ix_tup (pv 2) pe_int (fun _ _ => rfl))) (pe_ix ix_tup (pv 2) pe_int (fun _ _ => rfl))))))) (pss_one (ps_ret pe_non)) pss_nil)))
      (pss_cons (ps_par (i := 3) (j := 4) (by rfl) sc_join_two.nd rfl rfl (by decide) rfl rfl (pa_cons (pe_callB (call_max2 rfl) (by rfl) B.max (by decide +kernel) (pa_cons (pe_ix ix_tup (pv 0) pe_int (fun _ _ => rfl)) (pa_cons (pe_ix ix_tup (pv 1) pe_int (fun _ _ => rfl)) pa_nil))) (pa_cons (pe_callB (call_min2 rfl) (by rfl) B.min (by decide +kernel) (pa_cons (pe_op op_add (pe_ix ix_tup (pv 0) pe_int (fun _ _ => rfl)) (pe_ix ix_tup (pv 0) pe_int (fun _ _ => rfl))) (pa_cons (pe_op op_add (pe_ix ix_tup (pv 1) pe_int (fun _ _ => rfl)) (pe_ix ix_tup (pv 1) pe_int (fun _ _ => rfl))) pa_nil))) pa_nil)) (by rfl))
      (pss_cons (ps_set (i := 5) sc_join_two.nd rfl (.inl rfl) (pe_tup (pa_cons (pe_op op_sub (pe_ix ix_tup (pv 0) pe_int (fun _ _ => rfl)) (pe_ix ix_tup (pv 0) pe_int (fun _ _ => rfl))) (pa_cons (pe_op op_sub (pe_ix ix_tup (pv 1) pe_int (fun _ _ => rfl)) (pe_ix ix_tup (pv 1) pe_int (fun _ _ => rfl))) pa_nil))))
      (pss_cons (ps_if (pt_cmpR op_lt (pe_op op_sub (pv 4) (pv 3)) (pe_op op_add (pe_ix ix_tup (pv 5) pe_int (fun _ _ => rfl)) (pe_ix ix_tup (pv 5) pe_int (fun _ _ => rfl))) (nomark _)) (pss_one (ps_ret pe_non)) pss_nil)
      (pss_cons (ps_asg (pv 5) (pg_tup (by rfl) (pgs_cons (pg_name (i := 6) sc_join_two.nd rfl (.inl rfl)) (pgs_cons (pg_name (i := 7) sc_join_two.nd rfl (.inl rfl)) pgs_nil))))
      (pss_cons (ps_while PassesOwn.never (pt_cmpR op_gt (pv 7) pe_int (nomark _)) (pss_one (ps_par (i := 6) (j := 7) (by rfl) sc_join_two.nd rfl rfl (by decide) rfl rfl (pa_cons (pv 7) (pa_cons (pe_op op_mod (pv 6) (pv 7)) pa_nil)) (by rfl))))
      (pss_cons (ps_par (i := 3) (j := 4) (by rfl) sc_join_two.nd rfl rfl (by decide) rfl rfl (pa_cons (pe_callB (call_min2 rfl) (by rfl) B.min (by decide +kernel) (pa_cons (pe_ix ix_tup (pv 0) pe_int (fun _ _ => rfl)) (pa_cons (pe_ix ix_tup (pv 1) pe_int (fun _ _ => rfl)) pa_nil))) (pa_cons (pe_callB (call_max2 rfl) (by rfl) B.max (by decide +kernel) (pa_cons (pe_op op_add (pe_ix ix_tup (pv 0) pe_int (fun _ _ => rfl)) (pe_ix ix_tup (pv 0) pe_int (fun _ _ => rfl))) (pa_cons (pe_op op_add (pe_ix ix_tup (pv 1) pe_int (fun _ _ => rfl)) (pe_ix ix_tup (pv 1) pe_int (fun _ _ => rfl))) pa_nil))) pa_nil)) (by rfl))
      (pss_one (ps_ret (pe_tup (pa_cons (pv 3) (pa_cons (pe_op op_add (pv 3) (pv 6)) (pa_cons (pe_op op_sub (pe_op op_sub (pv 4) (pv 3)) (pv 6)) (pa_cons pe_int pa_nil)))))))))))))), ?_⟩
    refine ⟨.ref t, rfl, .ref t', rfl, by show 2 ≤ sizeLine; decide, fun tp ntp => ?_⟩
    have s0 := same_upd (H := H) (o := .tup [.ref t, .ref t']) ntp
    have noq : ¬ (Reps x ∧ Reps y) → ∀ H', Same H H' → Q .non H' := fun hn H' sm => by
      refine q _ H' sm ?_
      have e : mrg x y = none := by
        unfold mrg
        refine if_neg fun z => hn ⟨isRep_of z.1, isRep_of z.2.1⟩
      rw [e]
      exact ⟨fun _ => rfl, fun y e => nomatch e⟩
    refine ⟨tp, rfl, ⟨_, SqT.of upd_same⟩, for_tup (K := K) (a := tp) (xs := [.ref t, .ref t']) (fun i σ H2 => ∃ v, σ = [some (.ref t), some (.ref t'), v, none, none, none, none, none] ∧ H2 = upd H tp (.tup [.ref t, .ref t']) ∧ (1 ≤ i → Reps x) ∧ (2 ≤ i → Reps y)) ⟨_, rfl, rfl, fun z => absurd z (by decide), fun z => absurd z (by decide)⟩ (fun i σ H2 _ ⟨_, _, e, _⟩ => by rw [e]; exact SqT.of upd_same) ?_ ?_⟩
    · rintro i v σ H2 hv ⟨w0, rfl, rfl, r1, r2⟩
      obtain ⟨u, z, rfl, hu, hz, hgo⟩ : ∃ (u : Addr) (z : M4), v = .ref u ∧ (upd H tp (.tup [.ref t, .ref t'])) u = some (t4 z) ∧ (z.2.2.2 = 0 ∨ z.2.2.2 = 1) ∧ ((¬ Reps z → ¬ (Reps x ∧ Reps y)) ∧ (Reps z → (1 ≤ i + 1 → Reps x) ∧ (2 ≤ i + 1 → Reps y))) := by
        match i, hv with
        | 0, hv =>
          have e : V.ref t = v := Option.some.inj hv
          subst e
          exact ⟨t, x, rfl, s0 _ _ ht, fx, fun h z => h z.1, fun h => ⟨fun _ => h, fun z => absurd z (by decide)⟩⟩
        | 1, hv =>
          have e : V.ref t' = v := Option.some.inj hv
          subst e
          exact ⟨t', y, rfl, s0 _ _ ht', fy, fun h z => h z.2, fun h => ⟨fun _ => r1 (by decide), fun _ => h⟩⟩
      refine ⟨.ref u, rfl, u, _, 3, .int z.2.2.2, rfl, rfl, SqT.of hu, at4_3, rfl, _, rfl, ?_⟩
      refine ite2 (fun h => ?_) (fun h => ?_)
      · have h' : z.2.2.2 = 1 := V.int.inj (of_decide_eq_true h)
        exact noq (hgo.1 fun r => by have := r.1; omega) _ s0
      · have h0 : z.2.2.2 = 0 := hz.resolve_right fun q => h (decide_eq_true (congrArg V.int q))
        refine ⟨.ref u, rfl, u, _, 1, .int z.2.1, rfl, rfl, SqT.of hu, at4_1, .ref u, rfl, u, _, 0, .int z.1, rfl, rfl, SqT.of hu, at4_0, z.2.1, z.1, rfl, rfl, 1, _, rfl, rfl, _, rfl, ?_⟩
        by_cases h1 : 1 ≤ z.2.1 - z.1
        · rw [decide_eq_true h1]
          refine iteT ?_
          refine ⟨.ref u, rfl, u, _, 2, .int z.2.2.1, rfl, rfl, SqT.of hu, at4_2, _, _, rfl, rfl, _, rfl, ?_⟩
          by_cases h2 : z.2.1 - z.1 ≤ z.2.2.1
          · rw [decide_eq_true h2]
            exact iteF ⟨_, rfl, rfl, hgo.2 ⟨h0, h1, h2⟩⟩
          · rw [decide_eq_false h2]
            exact iteT (noq (hgo.1 fun r => h2 r.2.2) _ s0)
        · rw [decide_eq_false h1]
          refine iteF ⟨false, rfl, ?_⟩
          exact noq (hgo.1 fun r => h1 r.2.1) _ s0
    · rintro σ H2 ⟨w0, rfl, rfl, r1, r2⟩
      have rx : Reps x := r1 (by show 1 ≤ 2; decide)
      have ry : Reps y := r2 (by show 2 ≤ 2; decide)
      generalize upd H tp (.tup [.ref t, .ref t']) = H2 at s0
      have t2 := s0 _ _ ht
      have t2' := s0 _ _ ht'
      -- low, high
      refine ⟨.ref t, rfl, t, _, 0, .int x.1, rfl, rfl, SqT.of t2, at4_0, .ref t', rfl, t', _, 0, .int y.1, rfl, rfl, SqT.of t2', at4_0, _, _, rfl, ?_⟩
      refine ⟨.ref t, rfl, t, _, 1, .int x.2.1, rfl, rfl, SqT.of t2, at4_1, .ref t, rfl, t, _, 2, .int x.2.2.1, rfl, rfl, SqT.of t2, at4_2, _, _, rfl, rfl, .ref t', rfl, t', _, 1, .int y.2.1, rfl, rfl, SqT.of t2', at4_1, .ref t', rfl, t', _, 2, .int y.2.2.1, rfl, rfl, SqT.of t2', at4_2, _, _, rfl, rfl, _, _, rfl, _, _, rfl, ?_⟩
      -- steps
      refine ⟨.ref t, rfl, t, _, 1, .int x.2.1, rfl, rfl, SqT.of t2, at4_1, .ref t, rfl, t, _, 0, .int x.1, rfl, rfl, SqT.of t2, at4_0, _, _, rfl, rfl, .ref t', rfl, t', _, 1, .int y.2.1, rfl, rfl, SqT.of t2', at4_1, .ref t', rfl, t', _, 0, .int y.1, rfl, rfl, SqT.of t2', at4_0, _, _, rfl, rfl, by show 2 ≤ sizeLine; decide, fun ts nts => ?_⟩
      have s3 := same_upd (H := H2) (o := .tup [.int (x.2.1 - x.1), .int (y.2.1 - y.1)]) nts
      have e3 : (upd H2 ts (.tup [.int (x.2.1 - x.1), .int (y.2.1 - y.1)])) ts = some (.tup [.int (x.2.1 - x.1), .int (y.2.1 - y.1)]) := upd_same
      refine ⟨.int (imin (x.2.1 + x.2.2.1) (y.2.1 + y.2.2.1)), rfl, .int (imax x.1 y.1), rfl, _, _, rfl, rfl, .ref ts, rfl, ts, _, 0, .int (x.2.1 - x.1), rfl, rfl, SqT.of upd_same, atI_nat (j := 0) rfl, .ref ts, rfl, ts, _, 1, .int (y.2.1 - y.1), rfl, rfl, SqT.of upd_same, atI_nat (j := 1) rfl, _, _, rfl, rfl, _, _, rfl, rfl, _, rfl, ?_⟩
      refine ite2 (fun h => ?_) (fun h => ?_)
      · have h' : shr x.1 x.2.1 x.2.2.1 y.1 y.2.1 y.2.2.1 < x.2.1 - x.1 + (y.2.1 - y.1) := of_decide_eq_true h
        refine q _ _ (s0.trans s3) ?_
        unfold mrg
        rw [if_neg (fun z => by omega)]
        exact ⟨fun _ => rfl, fun y e => nomatch e⟩
      · have h' : ¬ shr x.1 x.2.1 x.2.2.1 y.1 y.2.1 y.2.2.1 < x.2.1 - x.1 + (y.2.1 - y.1) := fun z => h (decide_eq_true z)
        generalize upd H2 ts (.tup [.int (x.2.1 - x.1), .int (y.2.1 - y.1)]) = H3 at s3 e3
        have t3 := s3 _ _ t2
        have t3' := s3 _ _ t2'
        refine ⟨.ref ts, rfl, ts, _, rfl, SqT.of e3, rfl, .int (x.2.1 - x.1), _, rfl, .int (y.2.1 - y.1), _, rfl, rfl, ?_⟩
        obtain ⟨A0, hA⟩ : ∃ A0 : Nat, x.2.1 - x.1 = (A0 : Int) := ⟨(x.2.1 - x.1).toNat, by have := rx.2.1; omega⟩
        obtain ⟨B0, hB⟩ : ∃ B0 : Nat, y.2.1 - y.1 = (B0 : Int) := ⟨(y.2.1 - y.1).toNat, by have := ry.2.1; omega⟩
        have hmr : mrg x y = some (imin x.1 y.1, imin x.1 y.1 + (Nat.gcd A0 B0 : Nat), imax (x.2.1 + x.2.2.1) (y.2.1 + y.2.2.1) - imin x.1 y.1 - (Nat.gcd A0 B0 : Nat), 0) := by
          unfold mrg
          rw [if_pos ⟨rx.is, ry.is, by omega⟩, hA, hB, Int.toNat_natCast, Int.toNat_natCast]
        refine ⟨fun m σ H' => ∃ c : Nat, σ = [some (.ref t), some (.ref t'), w0, some (.int (imax x.1 y.1)), some (.int (imin (x.2.1 + x.2.2.1) (y.2.1 + y.2.2.1))), some (.ref ts), some (.int c), some (.int (m : Int))] ∧ H' = H3 ∧ Nat.gcd c m = Nat.gcd A0 B0, ⟨B0, A0, ?_, rfl, rfl⟩, ?_⟩
        · rw [hA, hB]
          rfl
        rintro m σ H' ⟨c, rfl, rfl, hg⟩
        refine ⟨_, rfl, _, _, rfl, rfl, _, rfl, ?_⟩
        by_cases hm : m = 0
        · subst hm
          refine ite2 (fun h0 => absurd (of_decide_eq_true h0) (by omega)) (fun _ => ?_)
          rw [Nat.gcd_zero_right] at hg
          subst hg
          refine ⟨.ref t, rfl, t, _, 0, .int x.1, rfl, rfl, SqT.of t3, at4_0, .ref t', rfl, t', _, 0, .int y.1, rfl, rfl, SqT.of t3', at4_0, _, _, rfl, ?_⟩
          refine ⟨.ref t, rfl, t, _, 1, .int x.2.1, rfl, rfl, SqT.of t3, at4_1, .ref t, rfl, t, _, 2, .int x.2.2.1, rfl, rfl, SqT.of t3, at4_2, _, _, rfl, rfl, .ref t', rfl, t', _, 1, .int y.2.1, rfl, rfl, SqT.of t3', at4_1, .ref t', rfl, t', _, 2, .int y.2.2.1, rfl, rfl, SqT.of t3', at4_2, _, _, rfl, rfl, _, _, rfl, _, _, rfl, ?_⟩
          refine ⟨.int (imin x.1 y.1), rfl, .int (imin x.1 y.1), rfl, .int _, rfl, _, _, rfl, rfl, .int (imax (x.2.1 + x.2.2.1) (y.2.1 + y.2.2.1)), rfl, .int (imin x.1 y.1), rfl, _, _, rfl, rfl, .int _, rfl, _, _, rfl, rfl, by show 4 ≤ sizeLine; decide, fun r nr => ?_⟩
          refine q _ _ ((s0.trans s3).trans (same_upd nr)) ?_
          rw [hmr]
          refine ⟨fun e => (by cases e), fun y' e => ?_⟩
          cases e
          exact ⟨r, rfl, upd_same⟩
        · rw [decide_eq_true (show (m : Int) > 0 by omega)]
          refine ⟨fun σ' H'' => ∃ c' : Nat, σ' = [some (.ref t), some (.ref t'), w0, some (.int (imax x.1 y.1)), some (.int (imin (x.2.1 + x.2.2.1) (y.2.1 + y.2.2.1))), some (.ref ts), some (.int c'), some (.int ((c % m : Nat) : Int))] ∧ H'' = H' ∧ Nat.gcd c' (c % m) = Nat.gcd A0 B0, fun σ' H'' h => ⟨c % m, Nat.mod_lt _ (by omega), h⟩, ?_⟩
          refine ⟨_, rfl, _, rfl, _, rfl, _, _, rfl, rfl, (by omega), _, _, rfl, ?_⟩
          exact ⟨m, rfl, rfl, (gcd_turn c m).trans hg⟩
end

/-! ### _law_made_more -/
abbrev s_made_more : Stmt := top 48
abbrev N_made_more : List Str := ["_law_state", "_law_rows", "_law_move", "_law_top", "_law_kept_here", "_law_laid", "_law_one", "_law_other", "_law_many", "_law_flips", "_law_both", "_law_left"]
abbrev P_made_more : List Str := ["_law_state", "_law_rows", "_law_move"]
theorem sc_made_more : FnScope N_made_more P_made_more (defScope s_made_more) := ⟨rfl, rfl, rfl, by decide +kernel, rfl, by decide +kernel, by decide +kernel⟩
/-- the number of the mating that a move is about -/
def moK : Mo → Int
  | .idle i => i
  | .halve i => i
  | .merge i _ => i
  | .lead j _ _ => j
  | .fold i _ => i
  | .bare _ => 0
def moBig : Mo → Prop
  | .merge _ _ => True
  | .lead _ _ _ => True
  | .fold _ _ => True
  | _ => False
def spMore : Sp := fun vs H Q _ => ∃ (z r l R t : Addr) (X : FS) (mo : Mo) (kvs : List (Key × V)) (x : M4), vs = [.ref z, .ref R, .ref t] ∧ LawAt H z r l X ∧ WF X ∧ X.L.length ≤ 1000 ∧ H R = some (.dK kvs) ∧ Std H kvs X.S ∧ R ≠ r ∧ H t = some (.tup (moV mo)) ∧ moBig mo ∧ sget X.S (moK mo) = some x ∧
  (mkS X mo = none → ∀ H', Keep R H H' → Q .non H') ∧ ∀ X', mkS X mo = some X' → ∀ H' z' l', Keep R H H' → LawAt H' z' R l' X' → (l' = l ∨ H l' = none) → Q (.ref z') H'
theorem Std.dget {H : Hp} {R : Addr} {kvs : List (Key × V)} {S : StL} (h : Std H kvs S) (e : H R = some (.dK kvs)) {k : Int} {x : M4} (hx : sget S k = some x) : ∃ tx, DGet H R (.int k) (some (.ref tx)) ∧ valV kvs (Sum.inl k) = some (.ref tx) ∧ H tx = some (t4 x) := by
  obtain ⟨tx, h1, h2⟩ := (h.get k).2 x hx
  refine ⟨tx, ?_, h1, h2⟩
  rw [← h1]
  exact DGet.k (k := Sum.inl k) e
theorem Std.dnone {H : Hp} {R : Addr} {kvs : List (Key × V)} {S : StL} (h : Std H kvs S) (e : H R = some (.dK kvs)) {k : Int} (hx : sget S k = none) : DGet H R (.int k) none := by
  rw [← (h.get k).1 hx]
  exact DGet.k (k := Sum.inl k) e
theorem keepRT {R : Addr} {H H' : Hp} {kvs : List (Key × V)} (e : H R = some (.dK kvs)) (k : Keep R H H') : KeepT H H' := fun b xs hb => k.of hb (ne_of hb e (fun z => by cases z))
/-- the rows written anew at R make a state with z' -/
theorem LawAt.rows {H H' : Hp} {z r l R z' : Addr} {X : FS} {S' : StL} {kvs kvs' : List (Key × V)} (la : LawAt H z r l X) (eR : H R = some (.dK kvs)) (k : Keep R H H') (eR' : H' R = some (.dK kvs')) (st : Std H' kvs' S') (ez : H' z' = some (.tup [.int X.e, .ref R, .ref l])) : LawAt H' z' R l ⟨X.e, S', X.L⟩ := by
  obtain ⟨_, _, ⟨ps, h4, h5⟩⟩ := la
  exact ⟨ez, ⟨kvs', eR', st⟩, ⟨ps, k.of h4 (ne_of h4 eR (fun z => by cases z)), h5.keep (keepRT eR k)⟩⟩
theorem Std.upd {H : Hp} {R : Addr} {kvs kvs2 kvs' : List (Key × V)} {S : StL} (h : Std H kvs S) (e : H R = some (.dK kvs2)) : Std (upd H R (.dK kvs')) kvs S := h.keep (keepRT e Keep.upd)
theorem sget_put_eq {i : Int} {x y : M4} : ∀ {S : StL}, sget S i = some y → sget (sput S i x) i = some x
  | s :: r, h => by
    have h' : (if s.1 = i then some s.2 else sget r i) = some y := h
    show (if (if s.1 = i then (s.1, x) else s).1 = i then some (if s.1 = i then (s.1, x) else s).2 else sget (sput r i x) i) = some x
    by_cases e : s.1 = i
    · rw [if_pos e]
      exact if_pos e
    · rw [if_neg e] at h' ⊢
      rw [if_neg e]
      exact sget_put_eq h'
theorem sdrop_put {i : Int} {x : M4} : ∀ {S : StL}, sdrop (sput S i x) i = sdrop S i
  | [] => rfl
  | s :: r => by
    show List.filter _ ((if s.1 = i then (s.1, x) else s) :: sput r i x) = List.filter _ (s :: r)
    have ih := sdrop_put (i := i) (x := x) (S := r)
    unfold sdrop at ih
    by_cases e : s.1 = i
    · rw [if_pos e, List.filter_cons_of_neg (by simp [e]), List.filter_cons_of_neg (by simp [e])]
      exact ih
    · rw [if_neg e, List.filter_cons_of_pos (by simp [e]), List.filter_cons_of_pos (by simp [e]), ih]
section
variable {P : Program} {w : World} {K : PySem.W.Frag} {mg : Str → Option Value} {base : Heap}
theorem ok_more {f fR fJ fL fD fF : Addr} {fd fdR fdJ fdL fdD fdF : FuncData} (D : DefAt K mg "_law_made_more" s_made_more P_made_more f fd) (D_reach : DefAt K mg "_law_reach" s_reach P_reach fR fdR) (D_join_two : DefAt K mg "_law_join_two" s_join_two P_join_two fJ fdJ) (D_leads : DefAt K mg "_law_leads" s_leads P_leads fL fdL) (D_lead : DefAt K mg "_law_lead" s_lead P_lead fD fdD) (D_first : DefAt K mg "_law_first" s_first P_first fF fdF) (B : Bn mg) : FnOk P w K mg base CX0 3 f fd P_made_more spMore := by
  have G_reach : FnOk P w K mg base CX0 1 fR fdR P_reach spReachL := ok_reachL D_reach B
  have G_join_two : FnOk P w K mg base CX0 1 fJ fdJ P_join_two spJoin := ok_join_two D_join_two B
  have G_leads : FnOk P w K mg base CX0 1 fL fdL P_leads spLeads := ok_leads D_leads B
  have G_lead : FnOk P w K mg base CX0 2 fD fdD P_lead spLeadL := ok_leadL D_lead D_first B
  refine D.F.ok sc_made_more (fun vs H Q E h => ?_) (fun cdv A outer s H vs Q E hr h => ?_)
  · obtain ⟨z, r, l, R, t, X, mo, kvs, x, rfl, _⟩ := h
    rfl
  · obtain ⟨z, r, l, R, t, X, mo, kvs, x, rfl, la, wf, hL, eR, st, nRr, ht, big, hx, q1, q2⟩ := h
    have hu := hu_of hr
    refine ⟨_, (pss_cons (ps_asg (pv 0) (pg_tup (by rfl) (pgs_cons (pg_name (i := 3) sc_made_more.nd rfl (.inl rfl)) (pgs_cons (pg_name (i := 4) sc_made_more.nd rfl (.inl rfl)) (pgs_cons (pg_name (i := 5) sc_made_more.nd rfl (.inl rfl)) pgs_nil)))))
      (pss_cons (ps_asg (pe_dget hu (pv 1) (pe_ix ix_tup (pv 2) pe_int (fun _ _ => rfl)) (fun _ _ => rfl)) (pg_tup (by rfl) (pgs_cons (pg_name (i := 6) sc_made_more.nd rfl (.inl rfl)) (pgs_cons (pg_name (i := 7) sc_made_more.nd rfl (.inl rfl)) (pgs_cons (pg_name (i := 8) sc_made_more.nd rfl (.inl rfl)) (pgs_cons (pg_name (i := 9) sc_made_more.nd rfl (.inl rfl)) pgs_nil))))))
      (pss_cons (ps_if (pt_cmpR op_eq (pe_ix ix_tup (pv 2) pe_int (fun _ _ => rfl)) pe_str (nomark _)) (pss_cons (ps_set (i := 10) sc_made_more.nd rfl (.inl rfl) pe_non)
      (pss_cons (ps_if (PW.pt (pw_and (pt_cmpR op_ne (pe_ix ix_tup (pv 2) pe_int (fun _ _ => rfl)) (pe_ix ix_tup (pv 2) pe_int (fun _ _ => rfl)) (nomark _)) (pw_and1 (pt_cmp (pc_din hu (pe_ix ix_tup (pv 2) pe_int (fun _ _ => rfl)) (pv 1)))))) (pss_one (ps_set (i := 10) sc_made_more.nd rfl (.inl rfl) (pe_call G_join_two (hr.mono (by omega)) (by rfl) D_join_two.g D_join_two.F.kp D_join_two.b .nil pass0 (pa_cons (pe_dget hu (pv 1) (pe_ix ix_tup (pv 2) pe_int (fun _ _ => rfl)) (fun _ _ => rfl)) (pa_cons (pe_dget hu (pv 1) (pe_ix ix_tup (pv 2) pe_int (fun _ _ => rfl)) (fun _ _ => rfl)) pa_nil))))) pss_nil)
      (pss_cons (ps_if (pt_cmpR op_isN (pv 10) pe_non (nomark _)) (pss_one (ps_ret pe_non)) pss_nil)
      (pss_cons (ps_dput hu (pv 1) (pe_ix ix_tup (pv 2) pe_int (fun _ _ => rfl)) (pv 10) rfl)
      (pss_cons (ps_expr (pe_dpop1 (pv 1) (pe_ix ix_tup (pv 2) pe_int (fun _ _ => rfl)) ⟨rfl, rfl, rfl, rfl⟩))
      (pss_one (ps_ret (pe_tup (pa_cons (pv 3) (pa_cons (pv 1) (pa_cons (pv 5) pa_nil))))))))))) pss_nil)
      (pss_cons (ps_if (pt_cmpR op_eq (pe_ix ix_tup (pv 2) pe_int (fun _ _ => rfl)) pe_str (nomark _)) (pss_cons (ps_if (PW.pt (pw_or (pt_cmpR op_notIn_seq (pe_ix ix_tup (pv 2) pe_int (fun _ _ => rfl)) (pe_tup (pa_cons pe_int (pa_cons pe_int pa_nil))) (by rfl)) (pw_or (pt_cmp (pc_dnotin hu (pe_ix ix_tup (pv 2) pe_int (fun _ _ => rfl)) (pv 1))) (pw_or (pt_cmpR op_eq (pe_ix ix_tup (pv 2) pe_int (fun _ _ => rfl)) (pe_ix ix_tup (pv 2) pe_int (fun _ _ => rfl)) (nomark _)) (pw_or1 (pt_not (pt_val (pe_call G_leads (hr.mono (by omega)) (by rfl) D_leads.g D_leads.F.kp D_leads.b .nil pass0 (pa_cons (pe_dget hu (pv 1) (pe_ix ix_tup (pv 2) pe_int (fun _ _ => rfl)) (fun _ _ => rfl)) pa_nil))))))))) (pss_one (ps_ret pe_non)) pss_nil)
      (pss_cons (ps_dput hu (pv 1) (pe_ix ix_tup (pv 2) pe_int (fun _ _ => rfl)) (pe_call G_lead (hr.mono (by omega)) (by rfl) D_lead.g D_lead.F.kp D_lead.b .nil pass0 (pa_cons (pe_dget hu (pv 1) (pe_ix ix_tup (pv 2) pe_int (fun _ _ => rfl)) (fun _ _ => rfl)) (pa_cons (pe_ix ix_tup (pv 2) pe_int (fun _ _ => rfl)) (pa_cons (pe_dget hu (pv 1) (pe_ix ix_tup (pv 2) pe_int (fun _ _ => rfl)) (fun _ _ => rfl)) pa_nil)))) rfl)
      (pss_one (ps_ret (pe_ifExp (pt_cmpR op_isN (pe_dget hu (pv 1) (pe_ix ix_tup (pv 2) pe_int (fun _ _ => rfl)) (fun _ _ => rfl)) pe_non (nomark _)) pe_non (pe_tup (pa_cons (pv 3) (pa_cons (pv 1) (pa_cons (pv 5) pa_nil))))))))) pss_nil)
      (pss_cons (ps_if (PW.pt (pw_or (pt_not (pt_val (pe_call G_leads (hr.mono (by omega)) (by rfl) D_leads.g D_leads.F.kp D_leads.b .nil pass0 (pa_cons (pe_dget hu (pv 1) (pe_ix ix_tup (pv 2) pe_int (fun _ _ => rfl)) (fun _ _ => rfl)) pa_nil)))) (pw_or (pt_cmpR op_ne (pe_op op_add (pv 7) (pv 8)) (pv 3) (nomark _)) (pw_or1 (pt_not (pt_chain op_le op_lt (pv 7) (pe_ix ix_tup (pv 2) pe_int (fun _ _ => rfl)) (pv 3))))))) (pss_one (ps_ret pe_non)) pss_nil)
      (pss_cons (ps_if (pt_cmpR op_gt (pe_call G_reach (hr.mono (by omega)) (by rfl) D_reach.g D_reach.F.kp D_reach.b .nil pass0 (pa_cons (pv 0) (pa_cons (pe_ix ix_tup (pv 2) pe_int (fun _ _ => rfl)) pa_nil))) (pe_ix ix_tup (pv 2) pe_int (fun _ _ => rfl)) (nomark _)) (pss_one (ps_ret pe_non)) pss_nil)
      (pss_cons (ps_set (i := 11) sc_made_more.nd rfl (.inl rfl) (pe_op op_sub (pe_ix ix_tup (pv 2) pe_int (fun _ _ => rfl)) (pv 7)))
      (C8.pss_cut (ps_dput hu (pv 1) (pe_ix ix_tup (pv 2) pe_int (fun _ _ => rfl)) (pe_tup (pa_cons (pe_ifExp (pt_cmpR op_eq (pv 9) pe_int (nomark _)) (pe_op op_sub (pe_op op_add (pv 6) (pv 8)) (pv 11)) (pv 6)) (pa_cons (pv 7) (pa_cons (pv 11) (pa_cons (pv 9) pa_nil))))) rfl)
      (C8.pss_cut (ps_if (pt_cmpR op_eq (pv 11) pe_int (nomark _)) (pss_one (ps_expr (pe_dpop1 (pv 1) (pe_ix ix_tup (pv 2) pe_int (fun _ _ => rfl)) ⟨rfl, rfl, rfl, rfl⟩))) pss_nil)
      (pss_one (ps_ret (pe_tup (pa_cons (pe_ix ix_tup (pv 2) pe_int (fun _ _ => rfl)) (pa_cons (pv 1) (pa_cons (pe_op op_cat (pv 5) (pe_lst (pa_cons (pe_tup (pa_cons pe_str (pa_cons (pe_ix ix_tup (pv 2) pe_int (fun _ _ => rfl)) (pa_cons (pv 3) (pa_cons (pv 6) (pa_cons (pe_ifExp (pt_cmpR op_eq (pv 9) pe_int (nomark _)) pe_int (pe_op op_sub (pv 7) (pv 6))) (pa_cons (pv 9) pa_nil))))))) pa_nil))) pa_nil))))))))))))))), ?_⟩
    obtain ⟨tx, gx, vx, htx⟩ := st.dget eR hx
    have rx := wf.at hx
    refine ⟨.ref z, rfl, z, _, rfl, SqT.of la.at_z, rfl, .int X.e, _, rfl, .ref r, _, rfl, .ref l, _, rfl, rfl, ?_⟩
    have hkl := st.length
    have hlen := wf.len
    have no : ∀ H', Keep R H H' → mkS X mo = none → Q .non H' := fun H' k e => q1 e H' k
    cases mo with
    | idle i => exact big.elim
    | halve i => exact big.elim
    | bare m => exact big.elim
    | merge i j =>
      have hx' : sget X.S i = some x := hx
      have gx' : DGet H R (.int i) (some (.ref tx)) := gx
      refine ⟨.ref R, rfl, .ref t, rfl, t, _, 1, .int i, rfl, rfl, SqT.of ht, atI_nat (j := 1) rfl, R, .ref tx, rfl, gx', tx, _, rfl, SqT.of htx, rfl, .int x.1, _, rfl, .int x.2.1, _, rfl, .int x.2.2.1, _, rfl, .int x.2.2.2, _, rfl, rfl, ?_⟩
      refine ⟨.ref t, rfl, t, _, 0, .str "merge", rfl, rfl, SqT.of ht, atI_nat (j := 0) rfl, rfl, _, rfl, ite2 (fun _ => ?_) (fun h => absurd (by decide +kernel) h)⟩
      refine ⟨.ref t, rfl, t, _, 2, .int j, rfl, rfl, SqT.of ht, atI_nat (j := 2) rfl, .ref t, rfl, t, _, 1, .int i, rfl, rfl, SqT.of ht, atI_nat (j := 1) rfl, rfl, _, rfl, ?_⟩
      by_cases hij : j = i
      · refine iteNS (congrArg V.int hij) ?_
        refine ⟨.non, rfl, rfl, _, rfl, iteT ?_⟩
        refine no H (Keep.refl _ _) ?_
        show (mergeS X.S i j).map _ = none
        unfold mergeS
        rw [if_pos hij.symm]
        rfl
      · rw [decide_eq_false (show ¬ V.int j = V.int i from fun q => hij (V.int.inj q))]
        refine iteT ?_
        cases hy : sget X.S j with
        | none =>
          refine ⟨.ref t, rfl, t, _, 2, .int j, rfl, rfl, SqT.of ht, atI_nat (j := 2) rfl, .ref R, rfl, R, none, rfl, st.dnone eR hy, _, rfl, iteF ?_⟩
          refine ⟨.non, rfl, rfl, _, rfl, iteT ?_⟩
          refine no H (Keep.refl _ _) ?_
          show (mergeS X.S i j).map _ = none
          unfold mergeS
          rw [if_neg (fun q => hij q.symm), hx', hy]
          rfl
        | some y =>
          obtain ⟨ty, gy, vy, hty⟩ := st.dget eR hy
          have ry := wf.at hy
          have em : mergeS X.S i j = (mrg x y).map fun z => sdrop (sput X.S i (nrm z)) j := by
            unfold mergeS
            rw [if_neg (fun q => hij q.symm), hx', hy]
          refine ⟨.ref t, rfl, t, _, 2, .int j, rfl, rfl, SqT.of ht, atI_nat (j := 2) rfl, .ref R, rfl, R, some (.ref ty), rfl, gy, _, rfl, iteT ?_⟩
          refine ⟨.ref R, rfl, .ref t, rfl, t, _, 1, .int i, rfl, rfl, SqT.of ht, atI_nat (j := 1) rfl, R, .ref tx, rfl, gx', .ref R, rfl, .ref t, rfl, t, _, 2, .int j, rfl, rfl, SqT.of ht, atI_nat (j := 2) rfl, R, .ref ty, rfl, gy, tx, ty, x, y, rfl, htx, hty, rx.f01, ry.f01, fun v H1 s1 ov => ?_⟩
          cases hz : mrg x y with
          | none =>
            rw [hz] at ov em
            rw [ov.1 rfl]
            refine ⟨.non, rfl, rfl, _, rfl, iteT ?_⟩
            refine no H1 (keepS s1) ?_
            show (mergeS X.S i j).map _ = none
            rw [em]
            rfl
          | some c =>
            rw [hz] at ov em
            obtain ⟨tz, rfl, htz⟩ := ov.2 c rfl
            have kc := mrg_ok rx ry hz
            have em' : mkS X (.merge i j) = some ⟨X.e, sdrop (sput X.S i c) j, X.L⟩ := by
              show (mergeS X.S i j).map _ = _
              rw [em]
              show some (⟨X.e, sdrop (sput X.S i (nrm c)) j, X.L⟩ : FS) = _
              rw [nrm_id kc.op]
            refine ⟨.ref tz, rfl, rfl, _, rfl, iteF ?_⟩
            have ht1 := s1 _ _ ht
            have eR1 := s1 _ _ eR
            have st1 := st.keep (H' := H1) (fun b xs hb => s1 b _ hb)
            refine ⟨.ref tz, rfl, .ref R, rfl, .ref t, rfl, t, _, 1, .int i, rfl, rfl, SqT.of ht1, atI_nat (j := 1) rfl, R, _, rfl, DPut.k (k := Sum.inl i) eR1 (sz_lt (by omega)), ?_⟩
            have k2 : Keep R H1 (upd H1 R (.dK (putK kvs (Sum.inl i) (.ref tz)))) := Keep.upd
            have st2 : Std (upd H1 R (.dK (putK kvs (Sum.inl i) (.ref tz)))) (putK kvs (Sum.inl i) (.ref tz)) (sput X.S i c) := (st1.put hx' htz).upd eR1
            have eR2 : (upd H1 R (.dK (putK kvs (Sum.inl i) (.ref tz)))) R = some (.dK (putK kvs (Sum.inl i) (.ref tz))) := upd_same
            have ht2 := keepRT eR1 k2 _ _ ht1
            generalize upd H1 R (.dK (putK kvs (Sum.inl i) (.ref tz))) = H2 at k2 st2 eR2 ht2 ⊢
            generalize putK kvs (Sum.inl i) (.ref tz) = kvs2 at st2 eR2 ⊢
            obtain ⟨ty2, _, vy2, _⟩ := st2.dget eR2 (k := j) (x := y) (by rw [sget_put_ne (fun q => hij q.symm)]; exact hy)
            refine ⟨.ref R, rfl, R, rfl, .inl ⟨kvs2, .inl eR2⟩, .ref t, rfl, t, _, 2, .int j, rfl, rfl, SqT.of ht2, atI_nat (j := 2) rfl, kvs2, Sum.inl j, .ref ty2, eR2, rfl, vy2, ?_⟩
            have k3 : Keep R H2 (upd H2 R (.dK (dropK kvs2 (Sum.inl j)))) := Keep.upd
            refine ⟨.int X.e, rfl, .ref R, rfl, .ref l, rfl, by show 3 ≤ sizeLine; decide, fun z' nz' => ?_⟩
            have k4 := ((keepS (d := R) s1).trans k2).trans (k3.trans (keepS (same_upd (o := .tup [.int X.e, .ref R, .ref l]) nz')))
            refine q2 _ em' _ z' l k4 (LawAt.rows la eR k4 (same_upd nz' _ _ upd_same) ((st2.drop.upd eR2).keep fun b xs hb => same_upd nz' _ _ hb) upd_same) (.inl rfl)
    | lead j d i =>
      have hx' : sget X.S j = some x := hx
      have gx' : DGet H R (.int j) (some (.ref tx)) := gx
      refine ⟨.ref R, rfl, .ref t, rfl, t, _, 1, .int j, rfl, rfl, SqT.of ht, atI_nat (j := 1) rfl, R, .ref tx, rfl, gx', tx, _, rfl, SqT.of htx, rfl, .int x.1, _, rfl, .int x.2.1, _, rfl, .int x.2.2.1, _, rfl, .int x.2.2.2, _, rfl, rfl, ?_⟩
      refine ⟨.ref t, rfl, t, _, 0, .str "lead", rfl, rfl, SqT.of ht, atI_nat (j := 0) rfl, rfl, _, rfl, ite2 (fun h => absurd h (by decide +kernel)) (fun _ => ?_)⟩
      refine ⟨.ref t, rfl, t, _, 0, .str "lead", rfl, rfl, SqT.of ht, atI_nat (j := 0) rfl, rfl, _, rfl, ite2 (fun _ => ?_) (fun h => absurd (by decide +kernel) h)⟩
      have nol : ∀ H', Keep R H H' → leadS X.S j d i = none → Q .non H' := fun H' k e => no H' k (by show (leadS X.S j d i).map _ = none; rw [e]; rfl)
      refine ⟨.ref t, rfl, t, _, 2, .int d, rfl, rfl, SqT.of ht, atI_nat (j := 2) rfl, by show 2 ≤ sizeLine; decide, fun tp ntp => ?_⟩
      have s1 := same_upd (H := H) (o := .tup [.int 0, .int 1]) ntp
      have ht1 := s1 _ _ ht
      have eR1 := s1 _ _ eR
      have htx1 := s1 _ _ htx
      have st1 := st.keep (H' := upd H tp (.tup [.int 0, .int 1])) (fun b xs hb => s1 b _ hb)
      refine ⟨tp, _, rfl, .inr (SqT.of upd_same), rfl, rfl, _, rfl, ?_⟩
      rw [if_pos rfl, inV01]
      by_cases hd : d = 0 ∨ d = 1
      · rw [decide_eq_true hd]
        refine iteF ?_
        cases hw : sget X.S i with
        | none =>
          refine ⟨.ref t, rfl, t, _, 3, .int i, rfl, rfl, SqT.of ht1, atI_nat (j := 3) rfl, .ref R, rfl, R, none, rfl, st1.dnone eR1 hw, _, rfl, iteT ?_⟩
          exact nol _ (keepS s1) (leadS_no (.inr (.inr (.inl fun w z => by rw [hw] at z; cases z))))
        | some w =>
          obtain ⟨tw, gw, vw, htw⟩ := st1.dget eR1 hw
          obtain ⟨tx1, gx1, vx1, htx1'⟩ := st1.dget eR1 hx'
          have rw_ := wf.at hw
          refine ⟨.ref t, rfl, t, _, 3, .int i, rfl, rfl, SqT.of ht1, atI_nat (j := 3) rfl, .ref R, rfl, R, some (.ref tw), rfl, gw, _, rfl, iteF ?_⟩
          refine ⟨.ref t, rfl, t, _, 3, .int i, rfl, rfl, SqT.of ht1, atI_nat (j := 3) rfl, .ref t, rfl, t, _, 1, .int j, rfl, rfl, SqT.of ht1, atI_nat (j := 1) rfl, rfl, _, rfl, ?_⟩
          refine ite2 (fun h => ?_) (fun h => ?_)
          · exact nol _ (keepS s1) (leadS_no (.inl (V.int.inj (of_decide_eq_true h))))
          · have hij : ¬ i = j := fun q => h (decide_eq_true (congrArg V.int q))
            refine ⟨.ref R, rfl, .ref t, rfl, t, _, 3, .int i, rfl, rfl, SqT.of ht1, atI_nat (j := 3) rfl, R, .ref tw, rfl, gw, tw, w, rfl, htw, _, rfl, ?_⟩
            by_cases hl : xLead w = true
            · rw [hl]
              refine iteF ?_
              refine ⟨.ref R, rfl, .ref t, rfl, t, _, 1, .int j, rfl, rfl, SqT.of ht1, atI_nat (j := 1) rfl, R, .ref tx1, rfl, gx1, .ref t, rfl, t, _, 2, .int d, rfl, rfl, SqT.of ht1, atI_nat (j := 2) rfl, .ref R, rfl, .ref t, rfl, t, _, 3, .int i, rfl, rfl, SqT.of ht1, atI_nat (j := 3) rfl, R, .ref tw, rfl, gw, tx1, tw, x, w, d, X.e, rfl, htx1', htw, hd, rx, rw_, hl, fun hn H2 s2 => ?_, fun y hy H2 r2 s2 hr2 => ?_⟩
              · have ht2 := s2 _ _ ht1
                have eR2 := s2 _ _ eR1
                refine ⟨.ref R, rfl, .ref t, rfl, t, _, 1, .int j, rfl, rfl, SqT.of ht2, atI_nat (j := 1) rfl, R, _, rfl, DPut.k (k := Sum.inl j) eR2 (sz_lt (by omega)), ?_⟩
                have k3 : Keep R H2 (upd H2 R (.dK (putK kvs (Sum.inl j) .non))) := Keep.upd
                have ht3 := keepRT eR2 k3 _ _ ht2
                have g3 : DGet (upd H2 R (.dK (putK kvs (Sum.inl j) .non))) R (.int j) (some .non) := by
                  have e := DGet.k (H := upd H2 R (.dK (putK kvs (Sum.inl j) .non))) (k := Sum.inl j) (upd_same (H := H2) (a := R) (o := .dK (putK kvs (Sum.inl j) .non)))
                  rw [valV_put, if_pos rfl] at e
                  exact e
                refine ⟨.ref R, rfl, .ref t, rfl, t, _, 1, .int j, rfl, rfl, SqT.of ht3, atI_nat (j := 1) rfl, R, .non, rfl, g3, rfl, _, rfl, iteT ?_⟩
                exact nol _ (((keepS s1).trans (keepS s2)).trans k3) (by rw [leadS_eq hij hx' hw, hn]; rfl)
              · have ht2 := s2 _ _ ht1
                have eR2 := s2 _ _ eR1
                have st2 := st1.keep (H' := H2) (fun b xs hb => s2 b _ hb)
                have el : mkS X (.lead j d i) = some ⟨X.e, sput X.S j y, X.L⟩ := by
                  show (leadS X.S j d i).map _ = _
                  rw [leadS_eq hij hx' hw, hy]
                  rfl
                refine ⟨.ref R, rfl, .ref t, rfl, t, _, 1, .int j, rfl, rfl, SqT.of ht2, atI_nat (j := 1) rfl, R, _, rfl, DPut.k (k := Sum.inl j) eR2 (sz_lt (by omega)), ?_⟩
                have k3 : Keep R H2 (upd H2 R (.dK (putK kvs (Sum.inl j) (.ref r2)))) := Keep.upd
                have ht3 := keepRT eR2 k3 _ _ ht2
                have st3 : Std (upd H2 R (.dK (putK kvs (Sum.inl j) (.ref r2)))) (putK kvs (Sum.inl j) (.ref r2)) (sput X.S j y) := (st2.put hx' hr2).upd eR2
                have g3 : DGet (upd H2 R (.dK (putK kvs (Sum.inl j) (.ref r2)))) R (.int j) (some (.ref r2)) := by
                  have e := DGet.k (H := upd H2 R (.dK (putK kvs (Sum.inl j) (.ref r2)))) (k := Sum.inl j) (upd_same (H := H2) (a := R) (o := .dK (putK kvs (Sum.inl j) (.ref r2))))
                  rw [valV_put, if_pos rfl] at e
                  exact e
                refine ⟨.ref R, rfl, .ref t, rfl, t, _, 1, .int j, rfl, rfl, SqT.of ht3, atI_nat (j := 1) rfl, R, .ref r2, rfl, g3, rfl, _, rfl, iteF ?_⟩
                refine ⟨.int X.e, rfl, .ref R, rfl, .ref l, rfl, by show 3 ≤ sizeLine; decide, fun z' nz' => ?_⟩
                have k4 := ((keepS (d := R) s1).trans (keepS s2)).trans (k3.trans (keepS (same_upd (o := .tup [.int X.e, .ref R, .ref l]) nz')))
                exact q2 _ el _ z' l k4 (LawAt.rows la eR k4 (same_upd nz' _ _ upd_same) (st3.keep fun b xs hb => same_upd nz' _ _ hb) upd_same) (.inl rfl)
            · rw [Bool.eq_false_iff.mpr hl]
              refine iteT ?_
              exact nol _ (keepS s1) (leadS_no (.inr (.inr (.inl fun w' z => by rw [hw] at z; cases z; exact Bool.eq_false_iff.mpr hl))))
      · rw [decide_eq_false hd]
        refine iteT ?_
        exact nol _ (keepS s1) (leadS_no (.inr (.inr (.inr hd))))
    | fold i m =>
      have hx' : sget X.S i = some x := hx
      have gx' : DGet H R (.int i) (some (.ref tx)) := gx
      have e0 : foldS X i m = if xLead x = true ∧ x.2.1 + x.2.2.1 = X.e ∧ x.2.1 ≤ m ∧ m < X.e ∧ rch X.S (some i) ≤ m then
          some ⟨m, if m - x.2.1 = 0 then sdrop X.S i else sput X.S i (cutX x m), X.L ++ [.fold m X.e x.1 (if x.2.2.2 = 1 then 0 else x.2.1 - x.1) x.2.2.2]⟩ else none := by
        unfold foldS
        rw [hx']
      have nof : ∀ H', Keep R H H' → ¬ (xLead x = true ∧ x.2.1 + x.2.2.1 = X.e ∧ x.2.1 ≤ m ∧ m < X.e ∧ rch X.S (some i) ≤ m) → Q .non H' := fun H' k hn => no H' k (by show foldS X i m = none; rw [e0]; exact if_neg hn)
      refine ⟨.ref R, rfl, .ref t, rfl, t, _, 1, .int i, rfl, rfl, SqT.of ht, atI_nat (j := 1) rfl, R, .ref tx, rfl, gx', tx, _, rfl, SqT.of htx, rfl, .int x.1, _, rfl, .int x.2.1, _, rfl, .int x.2.2.1, _, rfl, .int x.2.2.2, _, rfl, rfl, ?_⟩
      refine ⟨.ref t, rfl, t, _, 0, .str "fold", rfl, rfl, SqT.of ht, atI_nat (j := 0) rfl, rfl, _, rfl, ite2 (fun h => absurd h (by decide +kernel)) (fun _ => ?_)⟩
      refine ⟨.ref t, rfl, t, _, 0, .str "fold", rfl, rfl, SqT.of ht, atI_nat (j := 0) rfl, rfl, _, rfl, ite2 (fun h => absurd h (by decide +kernel)) (fun _ => ?_)⟩
      refine ⟨.ref R, rfl, .ref t, rfl, t, _, 1, .int i, rfl, rfl, SqT.of ht, atI_nat (j := 1) rfl, R, .ref tx, rfl, gx', tx, x, rfl, htx, _, rfl, ?_⟩
      by_cases hl : xLead x = true
      · rw [hl]
        refine iteF ?_
        refine ⟨.int x.2.1, rfl, .int x.2.2.1, rfl, _, _, rfl, rfl, .int X.e, rfl, rfl, _, rfl, ?_⟩
        by_cases hE : x.2.1 + x.2.2.1 = X.e
        · refine iteNS (congrArg V.int hE) ?_
          refine ⟨.int x.2.1, rfl, .ref t, rfl, t, _, 2, .int m, rfl, rfl, SqT.of ht, atI_nat (j := 2) rfl, x.2.1, m, rfl, rfl, _, rfl, ?_⟩
          by_cases h1 : x.2.1 ≤ m
          · rw [decide_eq_true h1]
            refine ⟨.int X.e, rfl, m, X.e, rfl, rfl, _, rfl, ?_⟩
            by_cases h2 : m < X.e
            · rw [decide_eq_true h2]
              refine iteF ?_
              refine ⟨.ref z, rfl, .ref t, rfl, t, _, 1, .int i, rfl, rfl, SqT.of ht, atI_nat (j := 1) rfl, z, r, l, .int i, some i, X, rfl, .inr ⟨i, rfl, rfl⟩, la, wf, fun H1 s1 => ?_⟩
              have ht1 := s1 _ _ ht
              have eR1 := s1 _ _ eR
              have st1 := st.keep (H' := H1) (fun b xs hb => s1 b _ hb)
              refine ⟨.ref t, rfl, t, _, 2, .int m, rfl, rfl, SqT.of ht1, atI_nat (j := 2) rfl, _, _, rfl, rfl, _, rfl, ?_⟩
              refine ite2 (fun h3 => ?_) (fun h3 => ?_)
              · exact nof _ (keepS s1) fun q => by have := of_decide_eq_true h3; omega
              · have h3' : ¬ rch X.S (some i) > m := fun q => h3 (decide_eq_true q)
                rw [if_pos ⟨hl, hE, h1, h2, by omega⟩] at e0
                refine ⟨.ref t, rfl, t, _, 2, .int m, rfl, rfl, SqT.of ht1, atI_nat (j := 2) rfl, .int x.2.1, rfl, m, x.2.1, rfl, rfl, ?_⟩
                refine ⟨fun σ H' => σ = [some (.ref z), some (.ref R), some (.ref t), some (.int X.e), some (.ref r), some (.ref l), some (.int x.1), some (.int x.2.1), some (.int x.2.2.1), some (.int x.2.2.2), none, some (.int (m - x.2.1))] ∧ Keep R H H' ∧ ∃ kvs2, H' R = some (.dK kvs2) ∧ Std H' kvs2 (sput X.S i (cutX x m)), ?_, ?_⟩
                · have put : ∀ o : Int, o = (cutX x m).1 → ∀ tn, H1 tn = none → Keep R H (upd (upd H1 tn (.tup [.int o, .int x.2.1, .int (m - x.2.1), .int x.2.2.2])) R (.dK (putK kvs (Sum.inl i) (.ref tn)))) ∧ ∃ kvs2, (upd (upd H1 tn (.tup [.int o, .int x.2.1, .int (m - x.2.1), .int x.2.2.2])) R (.dK (putK kvs (Sum.inl i) (.ref tn)))) R = some (.dK kvs2) ∧ Std (upd (upd H1 tn (.tup [.int o, .int x.2.1, .int (m - x.2.1), .int x.2.2.2])) R (.dK (putK kvs (Sum.inl i) (.ref tn)))) kvs2 (sput X.S i (cutX x m)) := by
                    rintro o rfl tn ntn
                    have s2 := same_upd (H := H1) (o := t4 (cutX x m)) ntn
                    have st2 := st1.keep (H' := upd H1 tn (t4 (cutX x m))) (fun b xs hb => s2 b _ hb)
                    exact ⟨((keepS s1).trans (keepS s2)).trans Keep.upd, _, upd_same, (st2.put hx' upd_same).upd (s2 _ _ eR1)⟩
                  refine ⟨.int x.2.2.2, rfl, rfl, _, rfl, ?_⟩
                  refine ite2 (fun hf => ?_) (fun hf => ?_)
                  · have hf' : x.2.2.2 = 1 := V.int.inj (of_decide_eq_true hf)
                    refine ⟨.int x.1, rfl, .int x.2.2.1, rfl, _, _, rfl, rfl, .int (m - x.2.1), rfl, _, _, rfl, rfl, .int x.2.1, rfl, .int (m - x.2.1), rfl, .int x.2.2.2, rfl, by show 4 ≤ sizeLine; decide, fun tn ntn => ?_⟩
                    refine ⟨.ref R, rfl, .ref t, rfl, t, _, 1, .int i, rfl, rfl, SqT.of (same_upd ntn _ _ ht1), atI_nat (j := 1) rfl, R, _, rfl, DPut.k (k := Sum.inl i) (same_upd ntn _ _ eR1) (sz_lt (by omega)), rfl, ?_⟩
                    exact put _ (by unfold cutX; rw [if_pos hf']) tn ntn
                  · have hf' : ¬ x.2.2.2 = 1 := fun q => hf (decide_eq_true (congrArg V.int q))
                    refine ⟨.int x.1, rfl, .int x.2.1, rfl, .int (m - x.2.1), rfl, .int x.2.2.2, rfl, by show 4 ≤ sizeLine; decide, fun tn ntn => ?_⟩
                    refine ⟨.ref R, rfl, .ref t, rfl, t, _, 1, .int i, rfl, rfl, SqT.of (same_upd ntn _ _ ht1), atI_nat (j := 1) rfl, R, _, rfl, DPut.k (k := Sum.inl i) (same_upd ntn _ _ eR1) (sz_lt (by omega)), rfl, ?_⟩
                    exact put _ (by unfold cutX; rw [if_neg hf']) tn ntn
                · rintro σ H2 ⟨rfl, k2, kvs2, eR2, st2⟩
                  have ht2 := keepRT eR k2 _ _ ht
                  refine ⟨fun σ H' => σ = [some (.ref z), some (.ref R), some (.ref t), some (.int X.e), some (.ref r), some (.ref l), some (.int x.1), some (.int x.2.1), some (.int x.2.2.1), some (.int x.2.2.2), none, some (.int (m - x.2.1))] ∧ Keep R H H' ∧ ∃ kvs3, H' R = some (.dK kvs3) ∧ Std H' kvs3 (if m - x.2.1 = 0 then sdrop X.S i else sput X.S i (cutX x m)), ?_, ?_⟩
                  · refine ⟨.int (m - x.2.1), rfl, rfl, _, rfl, ?_⟩
                    refine ite2 (fun h0 => ?_) (fun h0 => ?_)
                    · have h0' : m - x.2.1 = 0 := V.int.inj (of_decide_eq_true h0)
                      obtain ⟨tv, _, vv, _⟩ := st2.dget eR2 (k := i) (x := cutX x m) (sget_put_eq hx')
                      refine ⟨.ref R, rfl, R, rfl, .inl ⟨kvs2, .inl eR2⟩, .ref t, rfl, t, _, 1, .int i, rfl, rfl, SqT.of ht2, atI_nat (j := 1) rfl, kvs2, Sum.inl i, .ref tv, eR2, rfl, vv, ?_⟩
                      refine ⟨rfl, k2.trans Keep.upd, _, upd_same, ?_⟩
                      rw [if_pos h0', ← sdrop_put (x := cutX x m)]
                      exact st2.drop.upd eR2
                    · have h0' : ¬ m - x.2.1 = 0 := fun q => h0 (decide_eq_true (congrArg V.int q))
                      refine ⟨rfl, k2, kvs2, eR2, ?_⟩
                      rw [if_neg h0']
                      exact st2
                  · rintro σ H3 ⟨rfl, k3, kvs3, eR3, st3⟩
                    have ht3 := keepRT eR k3 _ _ ht
                    obtain ⟨ps, el, pl⟩ := la.at_l
                    have el3 := k3.of el (ne_of el eR (fun q => by cases q))
                    have pl3 := pl.keep (keepRT eR k3)
                    have hpl := pl.length
                    have fin : ∀ sp : Int, sp = (if x.2.2.2 = 1 then 0 else x.2.1 - x.1) → ∀ t2, H3 t2 = none → ∀ L2, (upd H3 t2 (.tup [.str "fold", .int m, .int X.e, .int x.1, .int sp, .int x.2.2.2])) L2 = none → ∀ L3, (upd (upd H3 t2 (.tup [.str "fold", .int m, .int X.e, .int x.1, .int sp, .int x.2.2.2])) L2 (.lst [.ref t2])) L3 = none → ∀ z', (upd (upd (upd H3 t2 (.tup [.str "fold", .int m, .int X.e, .int x.1, .int sp, .int x.2.2.2])) L2 (.lst [.ref t2])) L3 (.lst (ps ++ [.ref t2]))) z' = none → Q (.ref z') (upd (upd (upd (upd H3 t2 (.tup [.str "fold", .int m, .int X.e, .int x.1, .int sp, .int x.2.2.2])) L2 (.lst [.ref t2])) L3 (.lst (ps ++ [.ref t2]))) z' (.tup [.int m, .ref R, .ref L3])) := by
                      rintro sp rfl t2 n2 L2 nL2 L3 nL3 z' nz'
                      have sa := same_upd (H := H3) (o := .tup [.str "fold", .int m, .int X.e, .int x.1, .int (if x.2.2.2 = 1 then 0 else x.2.1 - x.1), .int x.2.2.2]) n2
                      have sb := sa.trans (same_upd (o := .lst [.ref t2]) nL2)
                      have sc := sb.trans (same_upd (o := .lst (ps ++ [.ref t2])) nL3)
                      have sd := sc.trans (same_upd (o := .tup [.int m, .ref R, .ref L3]) nz')
                      have et2 : (upd (upd (upd (upd H3 t2 (.tup [.str "fold", .int m, .int X.e, .int x.1, .int (if x.2.2.2 = 1 then 0 else x.2.1 - x.1), .int x.2.2.2])) L2 (.lst [.ref t2])) L3 (.lst (ps ++ [.ref t2]))) z' (.tup [.int m, .ref R, .ref L3])) t2 = some (.tup (evV (.fold m X.e x.1 (if x.2.2.2 = 1 then 0 else x.2.1 - x.1) x.2.2.2))) := same_upd nz' _ _ (same_upd nL3 _ _ (same_upd nL2 _ _ upd_same))
                      refine q2 _ e0 _ z' L3 (k3.trans (keepS sd)) ⟨upd_same, ⟨kvs3, sd _ _ eR3, st3.keep fun b xs hb => sd _ _ hb⟩, ⟨_, same_upd nz' _ _ upd_same, Past.snoc ⟨t2, rfl, et2⟩ (pl3.keep fun b xs hb => sd _ _ hb)⟩⟩ (.inr ?_)
                      cases e : H L3 with
                      | none => rfl
                      | some o =>
                        by_cases q : L3 = R
                        · rw [q] at nL3
                          have := sb _ _ eR3
                          rw [nL3] at this
                          cases this
                        · have := sb _ _ (k3.of e q)
                          rw [nL3] at this
                          cases this
                    refine ⟨.ref t, rfl, t, _, 2, .int m, rfl, rfl, SqT.of ht3, atI_nat (j := 2) rfl, .ref R, rfl, .ref l, rfl, .ref t, rfl, t, _, 2, .int m, rfl, rfl, SqT.of ht3, atI_nat (j := 2) rfl, .int X.e, rfl, .int x.1, rfl, .int x.2.2.2, rfl, rfl, _, rfl, ?_⟩
                    refine ite2 (fun hf => ?_) (fun hf => ?_)
                    · refine ⟨.int x.2.2.2, rfl, by show 6 ≤ sizeLine; decide, fun t2 n2 => ⟨by show 1 ≤ sizeLine; decide, fun L2 nL2 => ?_⟩⟩
                      refine ⟨l, L2, ps, [.ref t2], rfl, rfl, same_upd nL2 _ _ (same_upd n2 _ _ el3), upd_same, Nat.le_of_lt (sz_lt (by show ps.length + 1 < 100000; omega)), fun L3 nL3 => ⟨by show 3 ≤ sizeLine; decide, fun z' nz' => ?_⟩⟩
                      exact fin 0 (by rw [if_pos (V.int.inj (of_decide_eq_true hf))]) t2 n2 L2 nL2 L3 nL3 z' nz'
                    · refine ⟨.int x.2.1, rfl, .int x.1, rfl, _, _, rfl, rfl, .int x.2.2.2, rfl, by show 6 ≤ sizeLine; decide, fun t2 n2 => ⟨by show 1 ≤ sizeLine; decide, fun L2 nL2 => ?_⟩⟩
                      refine ⟨l, L2, ps, [.ref t2], rfl, rfl, same_upd nL2 _ _ (same_upd n2 _ _ el3), upd_same, Nat.le_of_lt (sz_lt (by show ps.length + 1 < 100000; omega)), fun L3 nL3 => ⟨by show 3 ≤ sizeLine; decide, fun z' nz' => ?_⟩⟩
                      exact fin _ (by rw [if_neg (fun q => hf (decide_eq_true (congrArg V.int q)))]) t2 n2 L2 nL2 L3 nL3 z' nz'
            · rw [decide_eq_false h2]
              exact iteT (nof H (Keep.refl _ _) fun q => h2 q.2.2.2.1)
          · rw [decide_eq_false h1]
            refine iteF ⟨false, rfl, ?_⟩
            exact nof H (Keep.refl _ _) fun q => h1 q.2.2.1
        · rw [decide_eq_false (show ¬ V.int (x.2.1 + x.2.2.1) = V.int X.e from fun q => hE (V.int.inj q))]
          exact nof H (Keep.refl _ _) fun q => hE q.2.1
      · rw [Bool.eq_false_iff.mpr hl]
        exact iteT (nof H (Keep.refl _ _) fun q => hl q.1)
end

/-! ### _law_made -/
abbrev s_made : Stmt := top 47
abbrev N_made : List Str := ["_law_state", "_law_move", "_law_top", "_law_rows", "_law_laid", "_law_one", "_law_other", "_law_many", "_law_flips", "_law_found", "_law_half", "_law_number"]
abbrev P_made : List Str := ["_law_state", "_law_move"]
theorem sc_made : FnScope N_made P_made (defScope s_made) := ⟨rfl, rfl, rfl, by decide +kernel, rfl, by decide +kernel, by decide +kernel⟩
def spMadeL : Sp := fun vs H Q _ => ∃ (z r l t : Addr) (X : FS) (xs : List V) (rr : Option FS) (nm : Str) (ys : List V), vs = [.ref z, .ref t] ∧ LawAt H z r l X ∧ WF X ∧ X.L.length ≤ 1000 ∧ H t = some (.tup xs) ∧ xs = .str nm :: ys ∧ MvS xs X rr ∧
  (rr = none → ∀ H', Same H H' → Q .non H') ∧ ∀ X', rr = some X' → ∀ H' z' r' l', Same H H' → LawAt H' z' r' l' X' → H r' = none → (l' = l ∨ H l' = none) → Q (.ref z') H'
theorem cut1 (y : V) (ys : List V) : cutV (y :: ys) (some 1) none = ys := by
  unfold cutV
  rw [show HT.sIx (y :: ys).length 0 (some 1) = min 1 (y :: ys).length from HT.sIx_nat _ _ 1, HT.sIx_none, List.length_cons, Nat.min_eq_left (by omega)]
  show (ys.take (ys.length + 1 - 1)) = ys
  rw [Nat.add_sub_cancel, List.take_length]
theorem moK_none {X : FS} : ∀ {mo : Mo}, (∀ m, mo ≠ .bare m) → sget X.S (moK mo) = none → mkS X mo = none
  | .idle i, _, h => by
    show (idleS X.S i).map _ = none
    unfold idleS
    rw [show sget X.S i = none from h]
    rfl
  | .halve i, _, h => by
    show (halveS X.S i).map _ = none
    unfold halveS
    rw [show sget X.S i = none from h]
    rfl
  | .merge i j, _, h => by
    show (mergeS X.S i j).map _ = none
    unfold mergeS
    rw [show sget X.S i = none from h]
    split <;> rfl
  | .lead j d i, _, h => by
    show (leadS X.S j d i).map _ = none
    rw [leadS_no (.inr (.inl (show sget X.S j = none from h)))]
    rfl
  | .fold i m, _, h => by
    show foldS X i m = none
    unfold foldS
    rw [show sget X.S i = none from h]
  | .bare m, n, _ => absurd rfl (n m)
section
variable {P : Program} {w : World} {K : PySem.W.Frag} {mg : Str → Option Value} {base : Heap}
theorem ok_madeL {f fR fJ fL fD fF fM : Addr} {fd fdR fdJ fdL fdD fdF fdM : FuncData} (D : DefAt K mg "_law_made" s_made P_made f fd) (D_made_more : DefAt K mg "_law_made_more" s_made_more P_made_more fM fdM) (D_reach : DefAt K mg "_law_reach" s_reach P_reach fR fdR) (D_join_two : DefAt K mg "_law_join_two" s_join_two P_join_two fJ fdJ) (D_leads : DefAt K mg "_law_leads" s_leads P_leads fL fdL) (D_lead : DefAt K mg "_law_lead" s_lead P_lead fD fdD) (D_first : DefAt K mg "_law_first" s_first P_first fF fdF) (B : Bn mg) : FnOk P w K mg base CX0 4 f fd P_made spMadeL := by
  have G_reach : FnOk P w K mg base CX0 1 fR fdR P_reach spReachL := ok_reachL D_reach B
  have G_made_more : FnOk P w K mg base CX0 3 fM fdM P_made_more spMore := ok_more D_made_more D_reach D_join_two D_leads D_lead D_first B
  refine D.F.ok sc_made (fun vs H Q E h => ?_) (fun cdv A outer s H vs Q E hr h => ?_)
  · obtain ⟨z, r, l, t, X, xs, rr, nm, ys, rfl, _⟩ := h
    rfl
  · obtain ⟨z, r, l, t, X, xs, rr, nm, ys, rfl, la, wf, hL, ht, exs, mv, q1, q2⟩ := h
    have hu := hu_of hr
    refine ⟨_, (pss_cons (ps_asg (pv 0) (pg_tup (by rfl) (pgs_cons (pg_name (i := 2) sc_made.nd rfl (.inl rfl)) (pgs_cons (pg_name (i := 3) sc_made.nd rfl (.inl rfl)) (pgs_cons (pg_name (i := 4) sc_made.nd rfl (.inl rfl)) pgs_nil)))))
      (pss_cons (ps_set (i := 3) sc_made.nd rfl (.inl rfl) (pe_callTy call_dictD (by rfl) B.dict (by decide +kernel) (pa_cons (pv 3) pa_nil)))
      (pss_cons (ps_if (pt_val (pe_callB (cr_any rfl) (by rfl) B.any (by decide +kernel) (pa_cons (pe_lc (own := [("_law_number", 11)]) (g := gName 11) (by rfl) sc_made.nd (pi_tup (pe_slice sl_tup (pv 1) (po_some pe_int) po_none)) (blkOk_by (own := [("_law_number", 11)]) (N := N_made) (sc := defScope s_made) (by decide +kernel)) (fun _ _ _ _ _ => (pg_name (i := 11) sc_made.nd rfl (.inl rfl))) (fun _ _ _ _ _ => pts_nil) (fun _ _ _ _ _ => (pe_callB (show CallR _ _ (rIsi K) from call_isi) (by rfl) B.isinstance (by decide +kernel) (pa_cons (pv 11) (pa_cons (pe_bltn (v := .ty "bool") (by rfl) B.bool (by decide +kernel) rfl) pa_nil))))) pa_nil))) (pss_one (ps_ret pe_non)) pss_nil)
      (pss_cons (ps_if (pt_cmpR op_eq (pe_ix ix_tup (pv 1) pe_int (fun _ _ => rfl)) pe_str (nomark _)) (pss_cons (ps_if (pt_not (pt_chain op_le op_lt (pe_call G_reach (hr.mono (by omega)) (by rfl) D_reach.g D_reach.F.kp D_reach.b .nil pass0 (pa_cons (pv 0) (pa_cons pe_non pa_nil))) (pe_ix ix_tup (pv 1) pe_int (fun _ _ => rfl)) (pv 2))) (pss_one (ps_ret pe_non)) pss_nil)
      (pss_one (ps_ret (pe_tup (pa_cons (pe_ix ix_tup (pv 1) pe_int (fun _ _ => rfl)) (pa_cons (pv 3) (pa_cons (pe_op op_cat (pv 4) (pe_lst (pa_cons (pe_tup (pa_cons pe_str (pa_cons (pe_ix ix_tup (pv 1) pe_int (fun _ _ => rfl)) (pa_cons (pv 2) pa_nil)))) pa_nil))) pa_nil))))))) pss_nil)
      (pss_cons (ps_if (pt_cmp (pc_dnotin hu (pe_ix ix_tup (pv 1) pe_int (fun _ _ => rfl)) (pv 3))) (pss_one (ps_ret pe_non)) pss_nil)
      (pss_cons (ps_asg (pe_dget hu (pv 3) (pe_ix ix_tup (pv 1) pe_int (fun _ _ => rfl)) (fun _ _ => rfl)) (pg_tup (by rfl) (pgs_cons (pg_name (i := 5) sc_made.nd rfl (.inl rfl)) (pgs_cons (pg_name (i := 6) sc_made.nd rfl (.inl rfl)) (pgs_cons (pg_name (i := 7) sc_made.nd rfl (.inl rfl)) (pgs_cons (pg_name (i := 8) sc_made.nd rfl (.inl rfl)) pgs_nil))))))
      (pss_cons (ps_set (i := 9) sc_made.nd rfl (.inl rfl) pe_non)
      (pss_cons (ps_if (PW.pt (pw_and (pt_cmpR op_eq (pe_ix ix_tup (pv 1) pe_int (fun _ _ => rfl)) pe_str (nomark _)) (pw_and (pt_cmpR op_eq (pv 8) pe_int (nomark _)) (pw_and1 (pt_cmpR op_eq (pv 5) (pv 6) (nomark _)))))) (pss_cons (ps_expr (pe_dpop1 (pv 3) (pe_ix ix_tup (pv 1) pe_int (fun _ _ => rfl)) ⟨rfl, rfl, rfl, rfl⟩))
      (pss_one (ps_set (i := 9) sc_made.nd rfl (.inl rfl) (pe_tup (pa_cons (pv 2) (pa_cons (pv 3) (pa_cons (pv 4) pa_nil))))))) pss_nil)
      (pss_cons (ps_if (PW.pt (pw_and (pt_cmpR op_eq (pe_ix ix_tup (pv 1) pe_int (fun _ _ => rfl)) pe_str (nomark _)) (pw_and (pt_cmpR op_eq (pv 8) pe_int (nomark _)) (pw_and1 (pt_cmpR op_lt (pv 6) (pe_op op_add (pv 5) (pv 7)) (nomark _)))))) (pss_cons (ps_set (i := 10) sc_made.nd rfl (.inl rfl) (pe_op op_fdivW (pe_op op_sub (pe_op op_add (pv 6) (pv 7)) (pv 5)) pe_int))
      (pss_cons (ps_dput hu (pv 3) (pe_ix ix_tup (pv 1) pe_int (fun _ _ => rfl)) (pe_tup (pa_cons (pv 5) (pa_cons (pe_op op_sub (pe_op op_add (pv 6) (pv 7)) (pv 10)) (pa_cons (pv 10) (pa_cons pe_int pa_nil))))) rfl)
      (pss_cons (ps_if (pt_cmpR op_eq (pv 10) pe_int (nomark _)) (pss_one (ps_expr (pe_dpop1 (pv 3) (pe_ix ix_tup (pv 1) pe_int (fun _ _ => rfl)) ⟨rfl, rfl, rfl, rfl⟩))) pss_nil)
      (pss_one (ps_set (i := 9) sc_made.nd rfl (.inl rfl) (pe_tup (pa_cons (pv 2) (pa_cons (pv 3) (pa_cons (pv 4) pa_nil))))))))) pss_nil)
      (pss_cons (ps_if (pt_cmpR op_in_seq (pe_ix ix_tup (pv 1) pe_int (fun _ _ => rfl)) (pe_tup (pa_cons pe_str (pa_cons pe_str (pa_cons pe_str pa_nil)))) (by rfl)) (pss_one (ps_set (i := 9) sc_made.nd rfl (.inl rfl) (pe_call G_made_more (hr.mono (by omega)) (by rfl) D_made_more.g D_made_more.F.kp D_made_more.b .nil pass0 (pa_cons (pv 0) (pa_cons (pv 3) (pa_cons (pv 1) pa_nil)))))) pss_nil)
      (pss_one (ps_ret (pv 9))))))))))))), ?_⟩
    obtain ⟨mv0, m1, m2⟩ := mv
    refine ⟨.ref z, rfl, z, _, rfl, SqT.of la.at_z, rfl, .int X.e, _, rfl, .ref r, _, rfl, .ref l, _, rfl, rfl, ?_⟩
    obtain ⟨kvs, er, st0⟩ := la.at_r
    refine ⟨.ref r, rfl, r, kvs, rfl, .inl er, fun R nR => ?_⟩
    have s1 := same_upd (H := H) (o := .dK kvs) nR
    have eR : (upd H R (.dK kvs)) R = some (.dK kvs) := upd_same
    have st1 := st0.keep (H' := upd H R (.dK kvs)) (fun b xs hb => s1 b _ hb)
    have la1 := la.same s1
    have ht1 := s1 _ _ ht
    have nRr : R ≠ r := (ne_of_none er nR).symm
    have hkl := st0.length
    have hlen := wf.len
    generalize upd H R (.dK kvs) = H1 at s1 eR st1 la1 ht1 ⊢
    -- the truths
    refine ⟨.ref t, rfl, 1, rfl, t, xs, rfl, SqT.of ht1, ?_, fun tc ntc => ?_⟩
    · rw [exs]
      intro q
      have := q.1
      rw [show HT.sIx (V.str nm :: ys).length 0 (some 1) = min 1 (V.str nm :: ys).length from HT.sIx_nat _ _ 1, List.length_cons] at this
      omega
    have ec : cutV xs (some 1) none = ys := by rw [exs]; exact cut1 _ _
    rw [ec]
    have sc := same_upd (H := H1) (o := .tup ys) ntc
    have mys : ∀ y ∈ ys, MV y := fun y hy => m1 y (by rw [exs]; exact List.mem_cons_of_mem _ hy)
    have lys : ys.length ≤ 20 := by rw [exs, List.length_cons] at m2; omega
    refine ⟨tc, rfl, ⟨_, SqT.of upd_same⟩, fun L nL => lc_tup (K := K) (a := tc) (xs := ys) (fun i H2 => Same (upd H1 tc (.tup ys)) H2 ∧ H2 L = some (.lst (((ys.map isB).take i).map V.bl)) ∧ i ≤ ys.length)
      ⟨same_upd nL, upd_same, Nat.zero_le _⟩ (fun i H2 _ ⟨sm, _⟩ => SqT.of (sm _ _ upd_same)) ?_ ?_⟩
    · rintro i x H2 hx ⟨sm, e2, hi0⟩
      have hi : i < ys.length := (List.getElem?_eq_some_iff.mp hx).1
      obtain ⟨ty, h1, h2⟩ := isB_ty (K := K) (H := H2) (mys x (List.mem_of_getElem? hx))
      refine ⟨rfl, ?_⟩
      refine ⟨x, rfl, _, _, _, _, isB x, rfl, ClsV.ty _, h1, h2, ?_⟩
      refine ⟨_, e2, sz_lt (by rw [List.length_map, List.length_take]; omega), fun b o' hb => ?_, ?_, by omega⟩
      · rw [upd_ne (ne_of_none hb nL)]
        exact sm _ _ hb
      · rw [upd_same, List.take_add_one, List.getElem?_map, hx, List.map_append]
        rfl
    · rintro H2 ⟨sm, e2, _⟩
      rw [show (ys.map isB).take ys.length = ys.map isB by rw [← List.length_map (f := isB), List.take_length]] at e2
      have ef : (ys.map isB).any id = xs.any isB := by
        rw [exs, List.any_map]
        rfl
      have s2 : Same H1 H2 := sc.trans sm
      refine ⟨L, _, rfl, SqL.of e2, _, rfl, ?_⟩
      rw [ef]
      have eR2 := s2 _ _ eR
      have st2 := st1.keep (H' := H2) (fun b xs hb => s2 b _ hb)
      have la2 := la1.same s2
      have ht2 := s2 _ _ ht1
      have s02 := s1.trans s2
      clear sc sm e2 eR st1 la1 ht1 s1 s2 nL ntc
      -- what is written into R alone leaves all that stood
      have kp : ∀ {H'}, Keep R H2 H' → Same H H' := fun k b o hb => k.of (s02 _ _ hb) (ne_of_none hb nR)
      rcases mv0 with ⟨mo, emo, rfl⟩ | ⟨hb, rfl⟩
      · rw [emo, moV_noB]
        refine iteF ?_
        rw [emo] at ht2
        have no : ∀ H', Same H H' → mkS X mo = none → Q .non H' := fun H' k e => q1 e H' k
        cases mo with
        | bare m =>
          refine ⟨.ref t, rfl, t, _, 0, .str "bare", rfl, rfl, SqT.of ht2, atI_nat (j := 0) rfl, rfl, _, rfl, ite2 (fun _ => ?_) (fun h => absurd (by decide +kernel) h)⟩
          refine ⟨.ref z, rfl, z, r, l, .non, none, X, rfl, .inl ⟨rfl, rfl⟩, la2, wf, fun H3 s3 => ?_⟩
          have ht3 := s3 _ _ ht2
          have nob : ¬ (rch X.S none ≤ m ∧ m < X.e) → Q .non H3 := fun hn => no H3 (s02.trans s3) (by show bareS X m = none; unfold bareS; exact if_neg hn)
          refine ⟨.ref t, rfl, t, _, 1, .int m, rfl, rfl, SqT.of ht3, atI_nat (j := 1) rfl, _, _, rfl, rfl, _, rfl, ?_⟩
          by_cases h1 : rch X.S none ≤ m
          · rw [decide_eq_true h1]
            refine ⟨.int X.e, rfl, _, _, rfl, rfl, _, rfl, ?_⟩
            by_cases h2 : m < X.e
            · rw [decide_eq_true h2]
              refine iteF ?_
              obtain ⟨ps, el, pl⟩ := la2.at_l
              have hpl := pl.length
              have eb : mkS X (.bare m) = some ⟨m, X.S, X.L ++ [.bare m X.e]⟩ := by
                show bareS X m = _
                unfold bareS
                exact if_pos ⟨h1, h2⟩
              refine ⟨.ref t, rfl, t, _, 1, .int m, rfl, rfl, SqT.of ht3, atI_nat (j := 1) rfl, .ref R, rfl, .ref l, rfl, .ref t, rfl, t, _, 1, .int m, rfl, rfl, SqT.of ht3, atI_nat (j := 1) rfl, .int X.e, rfl, by show 3 ≤ sizeLine; decide, fun t4' n4 => ⟨by show 1 ≤ sizeLine; decide, fun L4 nL4 => ?_⟩⟩
              have sa := same_upd (H := H3) (o := .tup [.str "bare", .int m, .int X.e]) n4
              have sb := sa.trans (same_upd (o := .lst [.ref t4']) nL4)
              refine ⟨l, L4, ps, [.ref t4'], rfl, rfl, sb _ _ (s3 _ _ el), upd_same, Nat.le_of_lt (sz_lt (by show ps.length + 1 < 100000; omega)), fun L5 nL5 => ⟨by show 3 ≤ sizeLine; decide, fun z' nz' => ?_⟩⟩
              have sd := (s3.trans sb).trans ((same_upd (o := .lst (ps ++ [.ref t4'])) nL5).trans (same_upd (o := .tup [.int m, .ref R, .ref L5]) nz'))
              refine q2 _ eb _ z' R L5 (s02.trans sd) ⟨upd_same, ⟨kvs, sd _ _ eR2, st2.keep fun b xs hb => sd _ _ hb⟩, ⟨_, same_upd nz' _ _ upd_same, Past.snoc ⟨t4', rfl, same_upd nz' _ _ (same_upd nL5 _ _ (same_upd nL4 _ _ upd_same))⟩ (pl.keep fun b xs hb => sd _ _ hb)⟩⟩ nR (.inr (s02.free (s3.free (sb.free nL5))))
            · rw [decide_eq_false h2]
              exact iteT (nob fun q => h2 q.2)
          · rw [decide_eq_false h1]
            exact iteF ⟨false, rfl, nob fun q => h1 q.1⟩
        | idle i =>
          refine ⟨.ref t, rfl, t, _, 0, .str "idle", rfl, rfl, SqT.of ht2, atI_nat (j := 0) rfl, rfl, _, rfl, ite2 (fun h => absurd h (by decide +kernel)) (fun _ => ?_)⟩
          cases hx : sget X.S i with
          | none =>
            refine ⟨.ref t, rfl, t, _, 1, .int i, rfl, rfl, SqT.of ht2, atI_nat (j := 1) rfl, .ref R, rfl, R, none, rfl, st2.dnone eR2 hx, _, rfl, iteT ?_⟩
            exact no H2 s02 (moK_none (fun m e => by cases e) hx)
          | some x =>
            obtain ⟨tx, gx, vx, htx⟩ := st2.dget eR2 hx
            have rx := wf.at hx
            refine ⟨.ref t, rfl, t, _, 1, .int i, rfl, rfl, SqT.of ht2, atI_nat (j := 1) rfl, .ref R, rfl, R, some (.ref tx), rfl, gx, _, rfl, iteF ?_⟩
            refine ⟨.ref R, rfl, .ref t, rfl, t, _, 1, .int i, rfl, rfl, SqT.of ht2, atI_nat (j := 1) rfl, R, .ref tx, rfl, gx, tx, _, rfl, SqT.of htx, rfl, .int x.1, _, rfl, .int x.2.1, _, rfl, .int x.2.2.1, _, rfl, .int x.2.2.2, _, rfl, rfl, ?_⟩
            have ei : ¬ (x.2.2.2 = 0 ∧ x.1 = x.2.1) → mkS X (.idle i) = none := fun hn => by
              show (idleS X.S i).map _ = none
              unfold idleS
              rw [hx]
              show Option.map _ (if x.2.2.2 = 0 ∧ x.1 = x.2.1 then some (sdrop X.S i) else none) = none
              rw [if_neg hn]
              rfl
            refine ⟨.ref t, rfl, t, _, 0, .str "idle", rfl, rfl, SqT.of ht2, atI_nat (j := 0) rfl, rfl, _, rfl, ite2 (fun _ => ?_) (fun h => absurd (by decide +kernel) h)⟩
            refine ⟨.int x.2.2.2, rfl, rfl, _, rfl, ?_⟩
            refine ite2 (fun h0 => ?_) (fun h0 => ?_)
            · have h0' : x.2.2.2 = 0 := V.int.inj (of_decide_eq_true h0)
              refine ⟨.int x.1, rfl, .int x.2.1, rfl, rfl, _, rfl, ?_⟩
              refine ite2 (fun h1 => ?_) (fun h1 => ?_)
              · have h1' : x.1 = x.2.1 := V.int.inj (of_decide_eq_true h1)
                have ey : mkS X (.idle i) = some ⟨X.e, sdrop X.S i, X.L⟩ := by
                  show (idleS X.S i).map _ = _
                  unfold idleS
                  rw [hx]
                  show Option.map _ (if x.2.2.2 = 0 ∧ x.1 = x.2.1 then some (sdrop X.S i) else none) = _
                  rw [if_pos ⟨h0', h1'⟩]
                  rfl
                refine ⟨.ref R, rfl, R, rfl, .inl ⟨kvs, .inl eR2⟩, .ref t, rfl, t, _, 1, .int i, rfl, rfl, SqT.of ht2, atI_nat (j := 1) rfl, kvs, Sum.inl i, .ref tx, eR2, rfl, vx, ?_⟩
                have k3 : Keep R H2 (upd H2 R (.dK (dropK kvs (Sum.inl i)))) := Keep.upd
                have ht3 := keepRT eR2 k3 _ _ ht2
                have st3 : Std (upd H2 R (.dK (dropK kvs (Sum.inl i)))) (dropK kvs (Sum.inl i)) (sdrop X.S i) := st2.drop.upd eR2
                refine ⟨.int X.e, rfl, .ref R, rfl, .ref l, rfl, by show 3 ≤ sizeLine; decide, fun z' nz' => ?_⟩
                have s4 := same_upd (o := .tup [.int X.e, .ref R, .ref l]) nz'
                have ht4 := s4 _ _ ht3
                refine ⟨.ref t, rfl, t, _, 0, .str "idle", rfl, rfl, SqT.of ht4, atI_nat (j := 0) rfl, rfl, _, rfl, ite2 (fun h => absurd h (by decide +kernel)) (fun _ => ?_)⟩
                refine ⟨.ref t, rfl, t, _, 0, .str "idle", rfl, rfl, SqT.of ht4, atI_nat (j := 0) rfl, by show 3 ≤ sizeLine; decide, fun tp ntp => ?_⟩
                have sq := same_upd (o := .tup [.str "merge", .str "lead", .str "fold"]) ntp
                refine ⟨tp, _, rfl, .inr (SqT.of upd_same), rfl, rfl, _, rfl, ?_⟩
                rw [if_neg Bool.false_ne_true, show inV (.str "idle") [.str "merge", .str "lead", .str "fold"] = false by decide +kernel]
                refine iteF ?_
                have k5 := k3.trans (keepS (s4.trans sq))
                exact ⟨.ref z', rfl, q2 _ ey _ z' R l (kp k5) (LawAt.rows la2 eR2 k5 (sq _ _ (s4 _ _ upd_same)) (st3.keep fun b xs hb => sq _ _ (s4 _ _ hb)) (sq _ _ upd_same)) nR (.inl rfl)⟩
              · have h1' : ¬ x.1 = x.2.1 := fun q => h1 (decide_eq_true (congrArg V.int q))
                refine ⟨.ref t, rfl, t, _, 0, .str "idle", rfl, rfl, SqT.of ht2, atI_nat (j := 0) rfl, rfl, _, rfl, ite2 (fun h => absurd h (by decide +kernel)) (fun _ => ?_)⟩
                refine ⟨.ref t, rfl, t, _, 0, .str "idle", rfl, rfl, SqT.of ht2, atI_nat (j := 0) rfl, by show 3 ≤ sizeLine; decide, fun tp ntp => ?_⟩
                have sq := same_upd (o := .tup [.str "merge", .str "lead", .str "fold"]) ntp
                refine ⟨tp, _, rfl, .inr (SqT.of upd_same), rfl, rfl, _, rfl, ?_⟩
                rw [if_neg Bool.false_ne_true, show inV (.str "idle") [.str "merge", .str "lead", .str "fold"] = false by decide +kernel]
                refine iteF ?_
                exact ⟨.non, rfl, no _ (s02.trans sq) (ei fun q => h1' q.2)⟩
            · have h0' : ¬ x.2.2.2 = 0 := fun q => h0 (decide_eq_true (congrArg V.int q))
              refine ⟨.ref t, rfl, t, _, 0, .str "idle", rfl, rfl, SqT.of ht2, atI_nat (j := 0) rfl, rfl, _, rfl, ite2 (fun h => absurd h (by decide +kernel)) (fun _ => ?_)⟩
              refine ⟨.ref t, rfl, t, _, 0, .str "idle", rfl, rfl, SqT.of ht2, atI_nat (j := 0) rfl, by show 3 ≤ sizeLine; decide, fun tp ntp => ?_⟩
              have sq := same_upd (o := .tup [.str "merge", .str "lead", .str "fold"]) ntp
              refine ⟨tp, _, rfl, .inr (SqT.of upd_same), rfl, rfl, _, rfl, ?_⟩
              rw [if_neg Bool.false_ne_true, show inV (.str "idle") [.str "merge", .str "lead", .str "fold"] = false by decide +kernel]
              refine iteF ?_
              exact ⟨.non, rfl, no _ (s02.trans sq) (ei fun q => h0' q.1)⟩
        | halve i =>
          refine ⟨.ref t, rfl, t, _, 0, .str "halve", rfl, rfl, SqT.of ht2, atI_nat (j := 0) rfl, rfl, _, rfl, ite2 (fun h => absurd h (by decide +kernel)) (fun _ => ?_)⟩
          cases hx : sget X.S i with
          | none =>
            refine ⟨.ref t, rfl, t, _, 1, .int i, rfl, rfl, SqT.of ht2, atI_nat (j := 1) rfl, .ref R, rfl, R, none, rfl, st2.dnone eR2 hx, _, rfl, iteT ?_⟩
            exact no H2 s02 (moK_none (fun m e => by cases e) hx)
          | some x =>
            obtain ⟨tx, gx, vx, htx⟩ := st2.dget eR2 hx
            have rx := wf.at hx
            refine ⟨.ref t, rfl, t, _, 1, .int i, rfl, rfl, SqT.of ht2, atI_nat (j := 1) rfl, .ref R, rfl, R, some (.ref tx), rfl, gx, _, rfl, iteF ?_⟩
            refine ⟨.ref R, rfl, .ref t, rfl, t, _, 1, .int i, rfl, rfl, SqT.of ht2, atI_nat (j := 1) rfl, R, .ref tx, rfl, gx, tx, _, rfl, SqT.of htx, rfl, .int x.1, _, rfl, .int x.2.1, _, rfl, .int x.2.2.1, _, rfl, .int x.2.2.2, _, rfl, rfl, ?_⟩
            have eh : ¬ (x.2.2.2 = 1 ∧ x.2.1 < x.1 + x.2.2.1) → mkS X (.halve i) = none := fun hn => by
              show (halveS X.S i).map _ = none
              unfold halveS
              rw [hx]
              have hc : x.2.2.2 = 0 ∨ isLead x.1 x.2.1 x.2.2.1 x.2.2.2 = true := by
                rcases rx.f01 with hf | hf
                · exact .inl hf
                · refine .inr ?_
                  unfold isLead
                  rw [if_pos hf]
                  exact decide_eq_true (by omega)
              show Option.map _ (if x.2.2.2 = 0 ∨ isLead x.1 x.2.1 x.2.2.1 x.2.2.2 = true then none else _) = none
              rw [if_pos hc]
              rfl
            refine ⟨.ref t, rfl, t, _, 0, .str "halve", rfl, rfl, SqT.of ht2, atI_nat (j := 0) rfl, rfl, _, rfl, ite2 (fun h => absurd h (by decide +kernel)) (fun _ => ?_)⟩
            refine ⟨.ref t, rfl, t, _, 0, .str "halve", rfl, rfl, SqT.of ht2, atI_nat (j := 0) rfl, rfl, _, rfl, ite2 (fun _ => ?_) (fun h => absurd (by decide +kernel) h)⟩
            refine ⟨.int x.2.2.2, rfl, rfl, _, rfl, ?_⟩
            refine ite2 (fun h0 => ?_) (fun h0 => ?_)
            · have h0' : x.2.2.2 = 1 := V.int.inj (of_decide_eq_true h0)
              refine ⟨.int x.2.1, rfl, .int x.1, rfl, .int x.2.2.1, rfl, _, _, rfl, rfl, _, _, rfl, rfl, _, rfl, ?_⟩
              refine ite2 (fun h1 => ?_) (fun h1 => ?_)
              · have h1' : x.2.1 < x.1 + x.2.2.1 := of_decide_eq_true h1
                have hc : ¬ (x.2.2.2 = 0 ∨ isLead x.1 x.2.1 x.2.2.1 x.2.2.2 = true) := by
                  rintro (hf | hf)
                  · omega
                  · unfold isLead at hf
                    rw [if_pos h0'] at hf
                    have := of_decide_eq_true hf
                    omega
                refine ⟨.int x.2.1, rfl, .int x.2.2.1, rfl, _, _, rfl, rfl, .int x.1, rfl, _, _, rfl, rfl, _, 2, rfl, rfl, wide_div (b := 10) (by decide) (by decide) (by decide) (by decide), ?_⟩
                have ey : mkS X (.halve i) = some ⟨X.e, if (hlf x.1 x.2.1 x.2.2.1) = 0 then sdrop X.S i else sput X.S i (x.1, x.2.1 + x.2.2.1 - (hlf x.1 x.2.1 x.2.2.1), (hlf x.1 x.2.1 x.2.2.1), 1), X.L⟩ := by
                  show (halveS X.S i).map _ = _
                  unfold halveS
                  rw [hx]
                  show Option.map _ (if x.2.2.2 = 0 ∨ isLead x.1 x.2.1 x.2.2.1 x.2.2.2 = true then none else if hlf x.1 x.2.1 x.2.2.1 = 0 then some (sdrop X.S i) else some (sput X.S i (nrm (x.1, x.2.1 + x.2.2.1 - hlf x.1 x.2.1 x.2.2.1, hlf x.1 x.2.1 x.2.2.1, x.2.2.2)))) = _
                  rw [if_neg hc]
                  by_cases hz : (hlf x.1 x.2.1 x.2.2.1) = 0
                  · rw [if_pos hz, if_pos hz]
                    rfl
                  · have ok := half_ok rx hz
                    rw [if_neg hz, if_neg hz, nrm_id ok.op, h0']
                    rfl
                refine ⟨.int x.1, rfl, .int x.2.1, rfl, .int x.2.2.1, rfl, _, _, rfl, rfl, .int (hlf x.1 x.2.1 x.2.2.1), rfl, _, _, rfl, rfl, .int (hlf x.1 x.2.1 x.2.2.1), rfl, by show 4 ≤ sizeLine; decide, fun tn ntn => ?_⟩
                have s3 := same_upd (H := H2) (o := t4 (x.1, x.2.1 + x.2.2.1 - (hlf x.1 x.2.1 x.2.2.1), (hlf x.1 x.2.1 x.2.2.1), 1)) ntn
                have ht3 := s3 _ _ ht2
                have eR3 := s3 _ _ eR2
                have st3 := st2.keep (H' := upd H2 tn (t4 (x.1, x.2.1 + x.2.2.1 - (hlf x.1 x.2.1 x.2.2.1), (hlf x.1 x.2.1 x.2.2.1), 1))) (fun b xs hb => s3 b _ hb)
                refine ⟨.ref R, rfl, .ref t, rfl, t, _, 1, .int i, rfl, rfl, SqT.of ht3, atI_nat (j := 1) rfl, R, _, rfl, DPut.k (k := Sum.inl i) eR3 (sz_lt (by omega)), ?_⟩
                have k4 : Keep R (upd H2 tn (t4 (x.1, x.2.1 + x.2.2.1 - (hlf x.1 x.2.1 x.2.2.1), (hlf x.1 x.2.1 x.2.2.1), 1))) (upd (upd H2 tn (t4 (x.1, x.2.1 + x.2.2.1 - (hlf x.1 x.2.1 x.2.2.1), (hlf x.1 x.2.1 x.2.2.1), 1))) R (.dK (putK kvs (Sum.inl i) (.ref tn)))) := Keep.upd
                have ht4 := keepRT eR3 k4 _ _ ht3
                have st4 : Std (upd (upd H2 tn (t4 (x.1, x.2.1 + x.2.2.1 - (hlf x.1 x.2.1 x.2.2.1), (hlf x.1 x.2.1 x.2.2.1), 1))) R (.dK (putK kvs (Sum.inl i) (.ref tn)))) (putK kvs (Sum.inl i) (.ref tn)) (sput X.S i (x.1, x.2.1 + x.2.2.1 - (hlf x.1 x.2.1 x.2.2.1), (hlf x.1 x.2.1 x.2.2.1), 1)) := (st3.put hx upd_same).upd eR3
                have eR4 : (upd (upd H2 tn (t4 (x.1, x.2.1 + x.2.2.1 - (hlf x.1 x.2.1 x.2.2.1), (hlf x.1 x.2.1 x.2.2.1), 1))) R (.dK (putK kvs (Sum.inl i) (.ref tn)))) R = some (.dK (putK kvs (Sum.inl i) (.ref tn))) := upd_same
                have k24 := (keepS (d := R) s3).trans k4
                refine ⟨.int (hlf x.1 x.2.1 x.2.2.1), rfl, rfl, _, rfl, ?_⟩
                refine ite2 (fun hz => ?_) (fun hz => ?_)
                · have hz' : (hlf x.1 x.2.1 x.2.2.1) = 0 := V.int.inj (of_decide_eq_true hz)
                  rw [if_pos hz'] at ey
                  obtain ⟨tv, _, vv, _⟩ := st4.dget eR4 (k := i) (sget_put_eq hx)
                  refine ⟨.ref R, rfl, R, rfl, .inl ⟨_, .inl eR4⟩, .ref t, rfl, t, _, 1, .int i, rfl, rfl, SqT.of ht4, atI_nat (j := 1) rfl, _, Sum.inl i, .ref tv, eR4, rfl, vv, ?_⟩
                  have k5 : Keep R (upd (upd H2 tn (t4 (x.1, x.2.1 + x.2.2.1 - (hlf x.1 x.2.1 x.2.2.1), (hlf x.1 x.2.1 x.2.2.1), 1))) R (.dK (putK kvs (Sum.inl i) (.ref tn)))) (upd (upd (upd H2 tn (t4 (x.1, x.2.1 + x.2.2.1 - (hlf x.1 x.2.1 x.2.2.1), (hlf x.1 x.2.1 x.2.2.1), 1))) R (.dK (putK kvs (Sum.inl i) (.ref tn)))) R (.dK (dropK (putK kvs (Sum.inl i) (.ref tn)) (Sum.inl i)))) := Keep.upd
                  have ht5 := keepRT eR4 k5 _ _ ht4
                  have st5 := (st4.drop (i := i)).upd (kvs' := dropK (putK kvs (Sum.inl i) (.ref tn)) (Sum.inl i)) eR4
                  rw [sdrop_put] at st5
                  refine ⟨.int X.e, rfl, .ref R, rfl, .ref l, rfl, by show 3 ≤ sizeLine; decide, fun z' nz' => ?_⟩
                  have s5 := same_upd (o := .tup [.int X.e, .ref R, .ref l]) nz'
                  refine ⟨.ref t, rfl, t, _, 0, .str "halve", rfl, rfl, SqT.of (s5 _ _ ht5), atI_nat (j := 0) rfl, by show 3 ≤ sizeLine; decide, fun tp ntp => ?_⟩
                  have sq := same_upd (o := .tup [.str "merge", .str "lead", .str "fold"]) ntp
                  refine ⟨tp, _, rfl, .inr (SqT.of upd_same), rfl, rfl, _, rfl, ?_⟩
                  rw [if_neg Bool.false_ne_true, show inV (.str "halve") [.str "merge", .str "lead", .str "fold"] = false by decide +kernel]
                  refine iteF ?_
                  have k6 := (k24.trans k5).trans (keepS (s5.trans sq))
                  exact ⟨.ref z', rfl, q2 _ ey _ z' R l (kp k6) (LawAt.rows la2 eR2 k6 (sq _ _ (s5 _ _ upd_same)) (st5.keep fun b xs hb => sq _ _ (s5 _ _ hb)) (sq _ _ upd_same)) nR (.inl rfl)⟩
                · have hz' : ¬ (hlf x.1 x.2.1 x.2.2.1) = 0 := fun q => hz (decide_eq_true (congrArg V.int q))
                  rw [if_neg hz'] at ey
                  refine ⟨.int X.e, rfl, .ref R, rfl, .ref l, rfl, by show 3 ≤ sizeLine; decide, fun z' nz' => ?_⟩
                  have s5 := same_upd (o := .tup [.int X.e, .ref R, .ref l]) nz'
                  refine ⟨.ref t, rfl, t, _, 0, .str "halve", rfl, rfl, SqT.of (s5 _ _ ht4), atI_nat (j := 0) rfl, by show 3 ≤ sizeLine; decide, fun tp ntp => ?_⟩
                  have sq := same_upd (o := .tup [.str "merge", .str "lead", .str "fold"]) ntp
                  refine ⟨tp, _, rfl, .inr (SqT.of upd_same), rfl, rfl, _, rfl, ?_⟩
                  rw [if_neg Bool.false_ne_true, show inV (.str "halve") [.str "merge", .str "lead", .str "fold"] = false by decide +kernel]
                  refine iteF ?_
                  have k6 := k24.trans (keepS (s5.trans sq))
                  exact ⟨.ref z', rfl, q2 _ ey _ z' R l (kp k6) (LawAt.rows la2 eR2 k6 (sq _ _ (s5 _ _ upd_same)) (st4.keep fun b xs hb => sq _ _ (s5 _ _ hb)) (sq _ _ upd_same)) nR (.inl rfl)⟩
              · have h1' : ¬ x.2.1 < x.1 + x.2.2.1 := fun q => h1 (decide_eq_true q)
                refine ⟨.ref t, rfl, t, _, 0, .str "halve", rfl, rfl, SqT.of ht2, atI_nat (j := 0) rfl, by show 3 ≤ sizeLine; decide, fun tp ntp => ?_⟩
                have sq := same_upd (o := .tup [.str "merge", .str "lead", .str "fold"]) ntp
                refine ⟨tp, _, rfl, .inr (SqT.of upd_same), rfl, rfl, _, rfl, ?_⟩
                rw [if_neg Bool.false_ne_true, show inV (.str "halve") [.str "merge", .str "lead", .str "fold"] = false by decide +kernel]
                refine iteF ?_
                exact ⟨.non, rfl, no _ (s02.trans sq) (eh fun q => h1' q.2)⟩
            · have h0' : ¬ x.2.2.2 = 1 := fun q => h0 (decide_eq_true (congrArg V.int q))
              refine ⟨.ref t, rfl, t, _, 0, .str "halve", rfl, rfl, SqT.of ht2, atI_nat (j := 0) rfl, by show 3 ≤ sizeLine; decide, fun tp ntp => ?_⟩
              have sq := same_upd (o := .tup [.str "merge", .str "lead", .str "fold"]) ntp
              refine ⟨tp, _, rfl, .inr (SqT.of upd_same), rfl, rfl, _, rfl, ?_⟩
              rw [if_neg Bool.false_ne_true, show inV (.str "halve") [.str "merge", .str "lead", .str "fold"] = false by decide +kernel]
              refine iteF ?_
              exact ⟨.non, rfl, no _ (s02.trans sq) (eh fun q => h0' q.1)⟩
        | merge i j =>
          refine ⟨.ref t, rfl, t, _, 0, .str "merge", rfl, rfl, SqT.of ht2, atI_nat (j := 0) rfl, rfl, _, rfl, ite2 (fun h => absurd h (by decide +kernel)) (fun _ => ?_)⟩
          cases hx : sget X.S i with
          | none =>
            refine ⟨.ref t, rfl, t, _, 1, .int i, rfl, rfl, SqT.of ht2, atI_nat (j := 1) rfl, .ref R, rfl, R, none, rfl, st2.dnone eR2 hx, _, rfl, iteT ?_⟩
            exact no H2 s02 (moK_none (fun m e => by cases e) hx)
          | some x =>
            obtain ⟨tx, gx, vx, htx⟩ := st2.dget eR2 hx
            have rx := wf.at hx
            refine ⟨.ref t, rfl, t, _, 1, .int i, rfl, rfl, SqT.of ht2, atI_nat (j := 1) rfl, .ref R, rfl, R, some (.ref tx), rfl, gx, _, rfl, iteF ?_⟩
            refine ⟨.ref R, rfl, .ref t, rfl, t, _, 1, .int i, rfl, rfl, SqT.of ht2, atI_nat (j := 1) rfl, R, .ref tx, rfl, gx, tx, _, rfl, SqT.of htx, rfl, .int x.1, _, rfl, .int x.2.1, _, rfl, .int x.2.2.1, _, rfl, .int x.2.2.2, _, rfl, rfl, ?_⟩
            refine ⟨.ref t, rfl, t, _, 0, .str "merge", rfl, rfl, SqT.of ht2, atI_nat (j := 0) rfl, rfl, _, rfl, ite2 (fun h => absurd h (by decide +kernel)) (fun _ => ?_)⟩
            refine ⟨.ref t, rfl, t, _, 0, .str "merge", rfl, rfl, SqT.of ht2, atI_nat (j := 0) rfl, rfl, _, rfl, ite2 (fun h => absurd h (by decide +kernel)) (fun _ => ?_)⟩
            refine ⟨.ref t, rfl, t, _, 0, .str "merge", rfl, rfl, SqT.of ht2, atI_nat (j := 0) rfl, by show 3 ≤ sizeLine; decide, fun tp ntp => ?_⟩
            have s3 := same_upd (H := H2) (o := .tup [.str "merge", .str "lead", .str "fold"]) ntp
            refine ⟨tp, _, rfl, .inr (SqT.of upd_same), rfl, rfl, _, rfl, ?_⟩
            rw [if_neg Bool.false_ne_true, show inV (.str "merge") [.str "merge", .str "lead", .str "fold"] = true by decide +kernel]
            refine iteT ?_
            refine ⟨.ref z, rfl, .ref R, rfl, .ref t, rfl, z, r, l, R, t, X, _, kvs, x, rfl, la2.same s3, wf, hL, s3 _ _ eR2, st2.keep (fun b xs hb => s3 b _ hb), nRr, s3 _ _ ht2, trivial, hx, fun hn H' k => ?_, fun X' hX H' z' l' k la' hl' => ?_⟩
            · exact ⟨.non, rfl, no H' (kp ((keepS s3).trans k)) hn⟩
            · refine ⟨.ref z', rfl, q2 X' hX H' z' R l' (kp ((keepS s3).trans k)) la' nR ?_⟩
              rcases hl' with rfl | hl'
              · exact .inl rfl
              · exact .inr (s02.free (s3.free hl'))
        | lead j d i =>
          refine ⟨.ref t, rfl, t, _, 0, .str "lead", rfl, rfl, SqT.of ht2, atI_nat (j := 0) rfl, rfl, _, rfl, ite2 (fun h => absurd h (by decide +kernel)) (fun _ => ?_)⟩
          cases hx : sget X.S j with
          | none =>
            refine ⟨.ref t, rfl, t, _, 1, .int j, rfl, rfl, SqT.of ht2, atI_nat (j := 1) rfl, .ref R, rfl, R, none, rfl, st2.dnone eR2 hx, _, rfl, iteT ?_⟩
            exact no H2 s02 (moK_none (fun m e => by cases e) hx)
          | some x =>
            obtain ⟨tx, gx, vx, htx⟩ := st2.dget eR2 hx
            have rx := wf.at hx
            refine ⟨.ref t, rfl, t, _, 1, .int j, rfl, rfl, SqT.of ht2, atI_nat (j := 1) rfl, .ref R, rfl, R, some (.ref tx), rfl, gx, _, rfl, iteF ?_⟩
            refine ⟨.ref R, rfl, .ref t, rfl, t, _, 1, .int j, rfl, rfl, SqT.of ht2, atI_nat (j := 1) rfl, R, .ref tx, rfl, gx, tx, _, rfl, SqT.of htx, rfl, .int x.1, _, rfl, .int x.2.1, _, rfl, .int x.2.2.1, _, rfl, .int x.2.2.2, _, rfl, rfl, ?_⟩
            refine ⟨.ref t, rfl, t, _, 0, .str "lead", rfl, rfl, SqT.of ht2, atI_nat (j := 0) rfl, rfl, _, rfl, ite2 (fun h => absurd h (by decide +kernel)) (fun _ => ?_)⟩
            refine ⟨.ref t, rfl, t, _, 0, .str "lead", rfl, rfl, SqT.of ht2, atI_nat (j := 0) rfl, rfl, _, rfl, ite2 (fun h => absurd h (by decide +kernel)) (fun _ => ?_)⟩
            refine ⟨.ref t, rfl, t, _, 0, .str "lead", rfl, rfl, SqT.of ht2, atI_nat (j := 0) rfl, by show 3 ≤ sizeLine; decide, fun tp ntp => ?_⟩
            have s3 := same_upd (H := H2) (o := .tup [.str "merge", .str "lead", .str "fold"]) ntp
            refine ⟨tp, _, rfl, .inr (SqT.of upd_same), rfl, rfl, _, rfl, ?_⟩
            rw [if_neg Bool.false_ne_true, show inV (.str "lead") [.str "merge", .str "lead", .str "fold"] = true by decide +kernel]
            refine iteT ?_
            refine ⟨.ref z, rfl, .ref R, rfl, .ref t, rfl, z, r, l, R, t, X, _, kvs, x, rfl, la2.same s3, wf, hL, s3 _ _ eR2, st2.keep (fun b xs hb => s3 b _ hb), nRr, s3 _ _ ht2, trivial, hx, fun hn H' k => ?_, fun X' hX H' z' l' k la' hl' => ?_⟩
            · exact ⟨.non, rfl, no H' (kp ((keepS s3).trans k)) hn⟩
            · refine ⟨.ref z', rfl, q2 X' hX H' z' R l' (kp ((keepS s3).trans k)) la' nR ?_⟩
              rcases hl' with rfl | hl'
              · exact .inl rfl
              · exact .inr (s02.free (s3.free hl'))
        | fold i m =>
          refine ⟨.ref t, rfl, t, _, 0, .str "fold", rfl, rfl, SqT.of ht2, atI_nat (j := 0) rfl, rfl, _, rfl, ite2 (fun h => absurd h (by decide +kernel)) (fun _ => ?_)⟩
          cases hx : sget X.S i with
          | none =>
            refine ⟨.ref t, rfl, t, _, 1, .int i, rfl, rfl, SqT.of ht2, atI_nat (j := 1) rfl, .ref R, rfl, R, none, rfl, st2.dnone eR2 hx, _, rfl, iteT ?_⟩
            exact no H2 s02 (moK_none (fun m e => by cases e) hx)
          | some x =>
            obtain ⟨tx, gx, vx, htx⟩ := st2.dget eR2 hx
            have rx := wf.at hx
            refine ⟨.ref t, rfl, t, _, 1, .int i, rfl, rfl, SqT.of ht2, atI_nat (j := 1) rfl, .ref R, rfl, R, some (.ref tx), rfl, gx, _, rfl, iteF ?_⟩
            refine ⟨.ref R, rfl, .ref t, rfl, t, _, 1, .int i, rfl, rfl, SqT.of ht2, atI_nat (j := 1) rfl, R, .ref tx, rfl, gx, tx, _, rfl, SqT.of htx, rfl, .int x.1, _, rfl, .int x.2.1, _, rfl, .int x.2.2.1, _, rfl, .int x.2.2.2, _, rfl, rfl, ?_⟩
            refine ⟨.ref t, rfl, t, _, 0, .str "fold", rfl, rfl, SqT.of ht2, atI_nat (j := 0) rfl, rfl, _, rfl, ite2 (fun h => absurd h (by decide +kernel)) (fun _ => ?_)⟩
            refine ⟨.ref t, rfl, t, _, 0, .str "fold", rfl, rfl, SqT.of ht2, atI_nat (j := 0) rfl, rfl, _, rfl, ite2 (fun h => absurd h (by decide +kernel)) (fun _ => ?_)⟩
            refine ⟨.ref t, rfl, t, _, 0, .str "fold", rfl, rfl, SqT.of ht2, atI_nat (j := 0) rfl, by show 3 ≤ sizeLine; decide, fun tp ntp => ?_⟩
            have s3 := same_upd (H := H2) (o := .tup [.str "merge", .str "lead", .str "fold"]) ntp
            refine ⟨tp, _, rfl, .inr (SqT.of upd_same), rfl, rfl, _, rfl, ?_⟩
            rw [if_neg Bool.false_ne_true, show inV (.str "fold") [.str "merge", .str "lead", .str "fold"] = true by decide +kernel]
            refine iteT ?_
            refine ⟨.ref z, rfl, .ref R, rfl, .ref t, rfl, z, r, l, R, t, X, _, kvs, x, rfl, la2.same s3, wf, hL, s3 _ _ eR2, st2.keep (fun b xs hb => s3 b _ hb), nRr, s3 _ _ ht2, trivial, hx, fun hn H' k => ?_, fun X' hX H' z' l' k la' hl' => ?_⟩
            · exact ⟨.non, rfl, no H' (kp ((keepS s3).trans k)) hn⟩
            · refine ⟨.ref z', rfl, q2 X' hX H' z' R l' (kp ((keepS s3).trans k)) la' nR ?_⟩
              rcases hl' with rfl | hl'
              · exact .inl rfl
              · exact .inr (s02.free (s3.free hl'))
      · rw [hb]
        exact iteT (q1 rfl H2 s02)
end

/-! ### _law_begun -/
abbrev s_begun : Stmt := top 49
abbrev N_begun : List Str := ["_law_length", "_law_matings", "_law_rows", "_law_at"]
abbrev P_begun : List Str := ["_law_length", "_law_matings"]
theorem sc_begun : FnScope N_begun P_begun (defScope s_begun) := ⟨rfl, rfl, rfl, by decide +kernel, rfl, by decide +kernel, by decide +kernel⟩
def spBegun : Sp := fun vs H Q _ => ∃ (n : Int) (L : Addr) (ts : List Addr) (ms : List M4), vs = [.int n, .ref L] ∧ H L = some (.lst (ts.map V.ref)) ∧ Mts H ts ms ∧ ms.length ≤ 24 ∧ ∀ (H' : Hp) (z r l : Addr), Same H H' → LawAt H' z r l ⟨n, en 0 ms, []⟩ → H r = none → H l = none → Q (.ref z) H'
def stD (s : Int × M4) : PyData := .tuple [.int s.1, .tuple [.int s.2.1, .int s.2.2.1, .int s.2.2.2.1, .int s.2.2.2.2]]
def evD : Ev → PyData
  | .bare m e => .tuple [.str "bare", .int m, .int e]
  | .fold m e lo st f => .tuple [.str "fold", .int m, .int e, .int lo, .int st, .int f]
theorem rp_t4 {H : Hp} {t : Addr} {x : M4} (n : Nat) (h : H t = some (t4 x)) : Rp H (n + 1) (.ref t) (.tuple [.int x.1, .int x.2.1, .int x.2.2.1, .int x.2.2.2]) := .tup h (by show 4 ≤ 100000; decide) (.cons (.int _ _) (.cons (.int _ _) (.cons (.int _ _) (.cons (.int _ _) (.nil _)))))
theorem Ls.rp {H : Hp} : ∀ {us : List Addr} {S : StL}, Ls H us S → RpAll H 2 (us.map V.ref) (S.map stD)
  | _, _, .nil => .nil _
  | _, _, .cons ⟨t, h1, h2⟩ r => .cons (.tup h1 (by show 2 ≤ 100000; decide) (.cons (.int _ _) (.cons (rp_t4 0 h2) (.nil _)))) (Ls.rp r)
theorem Past.rp {H : Hp} : ∀ {ps : List V} {L : List Ev}, Past H ps L → RpAll H 2 ps (L.map evD)
  | _, _, .nil => .nil _
  | _, _, .cons (b := ev) ⟨t, h1, h2⟩ r => by
    refine .cons ?_ (Past.rp r)
    rw [h1]
    cases ev with
    | bare m e => exact .tup h2 (by show 3 ≤ 100000; decide) (.cons (.str _ _) (.cons (.int _ _) (.cons (.int _ _) (.nil _))))
    | fold m e lo st f => exact .tup h2 (by show 6 ≤ 100000; decide) (.cons (.str _ _) (.cons (.int _ _) (.cons (.int _ _) (.cons (.int _ _) (.cons (.int _ _) (.cons (.int _ _) (.nil _)))))))
section
variable {P : Program} {w : World} {K : PySem.W.Frag} {mg : Str → Option Value} {base : Heap} {C : Addr}
theorem ok_begun {f fF : Addr} {fd fdF : FuncData} (D : DefAt K mg "_law_begun" s_begun P_begun f fd) (D_first : DefAt K mg "_law_first" s_first P_first fF fdF) (B : Bn mg) : FnOk P w K mg base CX0 2 f fd P_begun spBegun := by
  have G_first : FnOk P w K mg base CX0 1 fF fdF P_first spFirst := ok_first D_first B
  refine D.F.ok sc_begun (fun vs H Q E h => ?_) (fun cdv A outer s H vs Q E hr h => ?_)
  · obtain ⟨n, L, ts, ms, rfl, _⟩ := h
    rfl
  · obtain ⟨n, L, ts, ms, rfl, hL, hM, hl, q⟩ := h
    have hu := hu_of hr
    refine ⟨_, (pss_cons (ps_set (i := 2) sc_begun.nd rfl (.inl rfl) pe_dnewK)
      (pss_cons (ps_for PassesOwn.never rfl (pi_range1 (by rfl) B.range (pa_cons (pe_callB call_len_seq (by rfl) B.len (by decide +kernel) (pa_cons (pv 1) pa_nil)) pa_nil)) (pg_name (i := 3) sc_begun.nd rfl (.inl rfl)) (pss_one (ps_dput hu (pv 2) (pv 3) (pe_call G_first (hr.mono (by omega)) (by rfl) D_first.g D_first.F.kp D_first.b .nil pass0 (pa_cons (pe_ix ix_list (pv 1) (pv 3) (fun _ _ => rfl)) pa_nil)) rfl)))
      (pss_one (ps_ret (pe_tup (pa_cons (pv 0) (pa_cons (pv 2) (pa_cons (pe_lst pa_nil) pa_nil)))))))), ?_⟩
    refine fun D nD => ?_
    have e1 := hM.length
    have s0 := same_upd (H := H) (o := .dK []) nD
    refine ⟨.ref L, rfl, L, _, rfl, .inl (SqL.of (s0 _ _ hL)), _, rfl, by rw [List.length_map]; omega, by rw [List.length_map]; omega, for_range (lo := 0) (n := (((ts.map V.ref).length : Int)).toNat) (fun i σ H2 => ∃ (y : Option V) (kvs : List (Key × V)), σ = [some (.int n), some (.ref L), some (.ref D), y] ∧ Same H H2 ∧ H2 D = some (.dK kvs) ∧ Std H2 kvs (en 0 (ms.take i)))
      ⟨none, [], rfl, s0, upd_same, .nil⟩ ?_ ?_⟩
    · rintro i σ H2 hi ⟨y, kvs, rfl, sm, eD, st⟩
      rw [List.length_map, Int.toNat_natCast] at hi
      obtain ⟨t, ht⟩ : ∃ t, ts[i]? = some t := ⟨_, List.getElem?_eq_getElem hi⟩
      obtain ⟨m, hm, em⟩ := hM.at i t ht
      have sl := st.length
      rw [en_length, List.length_take] at sl
      refine ⟨.ref L, rfl, .int (0 + (i : Int)), rfl, L, _, _, .ref t, rfl, rfl, SqL.of (sm _ _ hL), at_of (j := i) (by omega) (by rw [List.getElem?_map, ht]; rfl), t, m, rfl, sm _ _ em, fun r nr => ?_⟩
      have s3 := same_upd (H := H2) (o := t4 (nrm m)) nr
      have eD3 := s3 _ _ eD
      have st3 := st.keep (H' := upd H2 r (t4 (nrm m))) (fun b xs hb => s3 b _ hb)
      refine ⟨.ref D, rfl, .int (0 + (i : Int)), rfl, D, _, rfl, DPut.k (k := Sum.inl (0 + (i : Int))) eD3 (sz_lt (by omega)), ?_⟩
      have hno : valV kvs (Sum.inl (0 + (i : Int))) = none := (st.get _).1 (en_none (.inr (by rw [List.length_take, Nat.min_eq_left (by omega)]; omega)))
      refine ⟨_, putK kvs (Sum.inl (0 + (i : Int))) (.ref r), rfl, fun b o hb => ?_, upd_same, ?_⟩
      · rw [upd_ne (ne_of_none hb nD)]
        exact s3 _ _ (sm _ _ hb)
      · rw [putK_new _ hno, List.take_add_one, hm, show (some m).toList = [m] from rfl, en_snoc]
        have kt : KeepT (upd H2 r (t4 (nrm m))) (upd (upd H2 r (t4 (nrm m))) D (.dK (kvs ++ [(Sum.inl (0 + (i : Int)), .ref r)]))) := keepRT eD3 Keep.upd
        refine Std.snoc (s := (((0 + (ms.take i).length : Nat) : Int), nrm m)) ⟨?_, r, rfl, kt _ _ upd_same⟩ (st3.keep kt)
        show Sum.inl (0 + (i : Int)) = Sum.inl (((0 + (ms.take i).length : Nat) : Int))
        rw [List.length_take, Nat.min_eq_left (by omega)]
        congr 1
    · rintro σ H2 ⟨y, kvs, rfl, sm, eD, st⟩
      rw [List.length_map, Int.toNat_natCast, e1, List.take_length] at st
      refine ⟨.int n, rfl, .ref D, rfl, Nat.zero_le _, fun l nl => ⟨by show 3 ≤ sizeLine; decide, fun z nz => ?_⟩⟩
      have s3 := (same_upd (H := H2) (o := .lst []) nl).trans (same_upd (o := .tup [.int n, .ref D, .ref l]) nz)
      exact q _ z D l (sm.trans s3) ⟨upd_same, ⟨kvs, s3 _ _ eD, st.keep fun b xs hb => s3 _ _ hb⟩, ⟨[], same_upd nz _ _ upd_same, .nil⟩⟩ nD (sm.free nl)
end

/-! ### what stands beside a list that changes -/
theorem tabs_keepR {T : List (Addr × Str)} {H H' : Hp} {r : Addr} {xs : List V} (t : LamX.Tabs T H) (hr : H r = some (.lst xs)) (k : Keep r H H') : LamX.Tabs T H' := fun p hp => by
  obtain ⟨ps, h1, h2, h3⟩ := t p hp
  refine ⟨ps, k.of h1 (ne_of h1 hr (fun e => by cases e)), h2, fun pos cv hc => ?_⟩
  obtain ⟨c, e1, e2⟩ := h3 pos cv hc
  exact ⟨c, e1, k.of e2 (ne_of e2 hr (fun e => by unfold LamX.CodeO at e; cases e))⟩
theorem draw_keepR {H H' : Hp} {d l r : Addr} (D : Draw H d l) (h1 : d ≠ r) (h2 : l ≠ r) (k : Keep r H H') : Draw H' d l := by
  obtain ⟨ns, i, z, s, W⟩ := D
  exact ⟨ns, i, z, s, { W with at_d := k.of W.at_d h1, at_l := k.of W.at_l h2 }⟩
theorem draw_apart {H : Hp} {d l r : Addr} (D : Draw H d l) (n : H r = none) : d ≠ r ∧ l ≠ r := by
  obtain ⟨ns, i, z, s, W⟩ := D
  exact ⟨ne_of_none W.at_d n, ne_of_none W.at_l n⟩
theorem map_eraseI {α β : Type} (f : α → β) : ∀ (l : List α) (j : Nat), (l.eraseIdx j).map f = (l.map f).eraseIdx j
  | [], _ => rfl
  | _ :: _, 0 => rfl
  | x :: l, j + 1 => by
    show f x :: (l.eraseIdx j).map f = f x :: (l.map f).eraseIdx j
    rw [map_eraseI f l j]
theorem seqIndex_nat {j n : Nat} (h : j < n) : seqIndex? (j : Int) n = some j := by
  unfold seqIndex?
  simp
  omega

/-! ### _law_any, _law_odd -/
abbrev s_any : Stmt := top 35
abbrev N_any : List Str := ["_law_draw", "_law_some"]
abbrev P_any : List Str := ["_law_draw", "_law_some"]
theorem sc_any : FnScope N_any P_any (defScope s_any) := ⟨rfl, rfl, rfl, by decide +kernel, rfl, by decide +kernel, by decide +kernel⟩
def spAny : Sp := fun vs H Q _ => ∃ (d l L : Addr) (xs : List V), vs = [.ref d, .ref L] ∧ Draw H d l ∧ H L = some (.lst xs) ∧ L ≠ d ∧ 1 ≤ xs.length ∧ xs.length ≤ 1000 ∧ ∀ (x : V) (H' : Hp), x ∈ xs → Draw H' d l → Keep d H H' → Q x H'
section
variable {P : Program} {w : World} {K : PySem.W.Frag} {mg : Str → Option Value} {base : Heap}
theorem ok_any {f fP : Addr} {fd fdP : FuncData} (D : DefAt K mg "_law_any" s_any P_any f fd) (D_pull : DefAt K mg "_law_pull" s_pull P_pull fP fdP) (B : Bn mg) : FnOk P w K mg base CX0 2 f fd P_any spAny := by
  have G_pull : FnOk P w K mg base CX0 1 fP fdP P_pull spPull := ok_pull D_pull B
  refine D.F.ok sc_any (fun vs H Q E h => ?_) (fun cdv A outer s H vs Q E hr h => ?_)
  · obtain ⟨d, l, L, xs, rfl, _⟩ := h
    rfl
  · obtain ⟨d, l, L, xs, rfl, hD, hL, nL, l1, l2, q⟩ := h
    refine ⟨_, (pss_one (ps_ret (pe_ix ix_list (pv 1) (pe_call G_pull (hr.mono (by omega)) (by rfl) D_pull.g D_pull.F.kp D_pull.b .nil pass0 (pa_cons (pv 0) (pa_cons (pe_callB call_len_seq (by rfl) B.len (by decide +kernel) (pa_cons (pv 1) pa_nil)) pa_nil))) (fun _ _ => rfl)))), ?_⟩
    refine ⟨.ref L, rfl, .ref d, rfl, .ref L, rfl, L, xs, rfl, .inl (SqL.of hL), d, l, _, rfl, hD, by omega, by omega, fun v H1 v0 v1 D1 k1 => ?_⟩
    obtain ⟨j, rfl⟩ : ∃ j : Nat, v = (j : Int) := ⟨v.toNat, by omega⟩
    have hj : j < xs.length := by omega
    exact ⟨L, xs, (j : Int), xs[j], rfl, rfl, SqL.of (k1.of hL nL), atI_nat (List.getElem?_eq_getElem hj), q _ _ (List.getElem_mem hj) D1 k1⟩
end

/-! ### _law_less, _law_shuffled -/
abbrev s_less : Stmt := top 50
abbrev N_less : List Str := ["_law_draw", "_law_room"]
abbrev P_less : List Str := ["_law_draw", "_law_room"]
theorem sc_less : FnScope N_less P_less (defScope s_less) := ⟨rfl, rfl, rfl, by decide +kernel, rfl, by decide +kernel, by decide +kernel⟩
abbrev s_shuffled : Stmt := top 36
abbrev N_shuffled : List Str := ["_law_draw", "_law_some", "_law_left", "_law_found", "_law_turn"]
abbrev P_shuffled : List Str := ["_law_draw", "_law_some"]
theorem sc_shuffled : FnScope N_shuffled P_shuffled (defScope s_shuffled) := ⟨rfl, rfl, rfl, by decide +kernel, rfl, by decide +kernel, by decide +kernel⟩
def spLess : Sp := fun vs H Q _ => ∃ (d l : Addr) (c : Int), vs = [.ref d, .int c] ∧ Draw H d l ∧ 1 ≤ c ∧ ∀ (v : Int) (H' : Hp), 0 ≤ v → v < c → Draw H' d l → Keep d H H' → Q (.int v) H'
def spShuf : Sp := fun vs H Q _ => ∃ (d l A : Addr) (ks : List Int), vs = [.ref d, .ref A] ∧ Draw H d l ∧ H A = some (.lst (ks.map V.int)) ∧ A ≠ d ∧ ks.length ≤ 100 ∧ ∀ (H' : Hp) (p : Addr) (ks' : List Int), Draw H' d l → Keep d H H' → H p = none → H' p = some (.lst (ks'.map V.int)) → ks'.Perm ks → Q (.ref p) H'
theorem erase_perm {α : Type} : ∀ {xs : List α} {j : Nat} {x : α}, xs[j]? = some x → (x :: xs.eraseIdx j).Perm xs
  | [], j, x, h => by simp at h
  | y :: r, 0, x, h => by
    have e : y = x := by simpa using h
    rw [e]
    exact List.Perm.refl _
  | y :: r, j + 1, x, h => by
    have h' : r[j]? = some x := by simpa using h
    exact (List.Perm.swap y x _).trans ((erase_perm h').cons y)
section
variable {P : Program} {w : World} {K : PySem.W.Frag} {mg : Str → Option Value} {base : Heap}
theorem ok_less {f fP : Addr} {fd fdP : FuncData} (D : DefAt K mg "_law_less" s_less P_less f fd) (D_pull : DefAt K mg "_law_pull" s_pull P_pull fP fdP) (B : Bn mg) : FnOk P w K mg base CX0 2 f fd P_less spLess := by
  have G_pull : FnOk P w K mg base CX0 1 fP fdP P_pull spPull := ok_pull D_pull B
  refine D.F.ok sc_less (fun vs H Q E h => ?_) (fun cdv A outer s H vs Q E hr h => ?_)
  · obtain ⟨d, l, c, rfl, _⟩ := h
    rfl
  · obtain ⟨d, l, c, rfl, hD, c1, q⟩ := h
    refine ⟨_, (pss_one (ps_ret (pe_ifExp (pt_cmpR op_lt (pv 1) pe_int (nomark _)) (pe_call G_pull (hr.mono (by omega)) (by rfl) D_pull.g D_pull.F.kp D_pull.b .nil pass0 (pa_cons (pv 0) (pa_cons (pv 1) pa_nil))) pe_int))), ?_⟩
    refine ⟨.int c, rfl, c, 60, rfl, rfl, _, rfl, ?_⟩
    refine ite2 (fun h => ?_) (fun h => ?_)
    · have h' : c < 60 := of_decide_eq_true h
      exact ⟨.ref d, rfl, .int c, rfl, d, l, c, rfl, hD, c1, by omega, fun v H1 v0 v1 D1 k1 => q v H1 v0 v1 D1 k1⟩
    · exact q 0 H (by decide) (by omega) hD (Keep.refl _ _)
theorem ok_shuf {f fP : Addr} {fd fdP : FuncData} (D : DefAt K mg "_law_shuffled" s_shuffled P_shuffled f fd) (D_pull : DefAt K mg "_law_pull" s_pull P_pull fP fdP) (B : Bn mg) : FnOk P w K mg base CX0 2 f fd P_shuffled spShuf := by
  have G_pull : FnOk P w K mg base CX0 1 fP fdP P_pull spPull := ok_pull D_pull B
  refine D.F.ok sc_shuffled (fun vs H Q E h => ?_) (fun cdv A outer s H vs Q E hr h => ?_)
  · obtain ⟨d, l, A, ks, rfl, _⟩ := h
    rfl
  · obtain ⟨d, l, A, ks, rfl, hD, hA, nA, hl, q⟩ := h
    refine ⟨_, (pss_cons (ps_set (i := 2) sc_shuffled.nd rfl (.inl rfl) (pe_callTy call_list_of (by rfl) B.list (by decide +kernel) (pa_cons (pv 1) pa_nil)))
      (pss_cons (ps_set (i := 3) sc_shuffled.nd rfl (.inl rfl) (pe_lst pa_nil))
      (pss_cons (ps_for PassesOwn.never rfl (pi_range1 (by rfl) B.range (pa_cons (pe_callB call_len_seq (by rfl) B.len (by decide +kernel) (pa_cons (pv 1) pa_nil)) pa_nil)) (pg_name (i := 4) sc_shuffled.nd rfl (.inl rfl)) (pss_one (ps_expr (pe_bm PySem.F.plainAttrs_list PySem.F.slot_list_append PySem.F.type_list_append mt_append (pv 3) (pa_cons (pe_bm PySem.F.plainAttrs_list PySem.F.slot_list_pop PySem.F.type_list_pop mt_popAt (pv 2) (pa_cons (pe_call G_pull (hr.mono (by omega)) (by rfl) D_pull.g D_pull.F.kp D_pull.b .nil pass0 (pa_cons (pv 0) (pa_cons (pe_callB call_len_seq (by rfl) B.len (by decide +kernel) (pa_cons (pv 2) pa_nil)) pa_nil))) pa_nil)) pa_nil)))))
      (pss_one (ps_ret (pv 3)))))), ?_⟩
    refine ⟨.ref A, rfl, A, _, rfl, .inl (SqL.of hA), fun L nL => ?_⟩
    have s1 := same_upd (H := H) (o := .lst (ks.map V.int)) nL
    have eL : (upd H L (.lst (ks.map V.int))) L = some (.lst (ks.map V.int)) := upd_same
    have apL := draw_apart hD nL
    have D1 := hD.same s1
    refine ⟨Nat.zero_le _, fun F nF => ?_⟩
    have s2 := same_upd (H := upd H L (.lst (ks.map V.int))) (o := .lst []) nF
    have apF := draw_apart D1 nF
    have nFL : L ≠ F := ne_of_none eL nF
    have D2 := D1.same s2
    refine ⟨.ref A, rfl, A, _, rfl, .inl (SqL.of (s2 _ _ (s1 _ _ hA))), _, rfl, by rw [List.length_map]; omega, by rw [List.length_map]; omega, for_range (lo := 0) (n := (((ks.map V.int).length : Int)).toNat) (fun i σ H2 => ∃ (y : Option V) (lf fd : List Int), σ = [some (.ref d), some (.ref A), some (.ref L), some (.ref F), y] ∧ Draw H2 d l ∧ (∀ b o, H b = some o → b ≠ d → H2 b = some o) ∧ H2 L = some (.lst (lf.map V.int)) ∧ H2 F = some (.lst (fd.map V.int)) ∧ (fd ++ lf).Perm ks ∧ fd.length = i)
      ⟨none, ks, [], rfl, D2, fun b o hb _ => s2 _ _ (s1 _ _ hb), s2 _ _ eL, upd_same, List.Perm.refl _, rfl⟩ ?_ ?_⟩
    · rintro i σ H2 hi ⟨y, lf, fd, rfl, DD, kp, hL2, hF2, pm, rfl⟩
      rw [List.length_map, Int.toNat_natCast] at hi
      have pl := pm.length_eq
      rw [List.length_append] at pl
      refine ⟨.ref F, rfl, .inl ⟨rfl, _, SqL.of hF2⟩, .ref L, rfl, .inl ⟨rfl, _, SqL.of hL2⟩, .ref d, rfl, .ref L, rfl, L, _, rfl, .inl (SqL.of hL2), d, l, _, rfl, DD, by rw [List.length_map]; omega, by rw [List.length_map]; omega, fun v H3 v0 v1 D3 k3 => ?_⟩
      rw [List.length_map] at v1
      obtain ⟨j, rfl⟩ : ∃ j : Nat, v = (j : Int) := ⟨v.toNat, by omega⟩
      have hj : j < lf.length := by omega
      have hL3 := k3.of hL2 apL.1.symm
      have hF3 := k3.of hF2 apF.1.symm
      refine ⟨L, lf.map V.int, (j : Int), j, .int lf[j], rfl, rfl, hL3, by omega, by omega, seqIndex_nat (by rw [List.length_map]; exact hj), by rw [List.getElem?_map, List.getElem?_eq_getElem hj]; rfl, ?_⟩
      have k4 : Keep L H3 (upd H3 L (.lst ((lf.map V.int).eraseIdx j))) := Keep.upd
      refine ⟨F, fd.map V.int, _, rfl, rfl, k4.of hF3 nFL.symm, sz_lt (by rw [List.length_map]; omega), ?_⟩
      have k5 : Keep F (upd H3 L (.lst ((lf.map V.int).eraseIdx j))) (upd (upd H3 L (.lst ((lf.map V.int).eraseIdx j))) F (.lst (fd.map V.int ++ [.int lf[j]]))) := Keep.upd
      refine ⟨_, lf.eraseIdx j, fd ++ [lf[j]], rfl, draw_keepR (draw_keepR D3 apL.1 apL.2 k4) apF.1 apF.2 k5, fun b o hb nb => ?_, ?_, by rw [upd_same, List.map_append]; rfl, ?_, by rw [List.length_append]; rfl⟩
      · have hbL : b ≠ L := ne_of_none hb nL
        have hbF : b ≠ F := ne_of_none (s1 _ _ hb) nF
        exact k5.of (k4.of (k3.of (kp b o hb nb) nb) hbL) hbF
      · rw [upd_ne nFL, upd_same]
        congr 2
        exact (map_eraseI V.int lf j).symm
      · rw [List.append_assoc]
        refine List.Perm.trans (List.Perm.append_left fd ?_) pm
        exact erase_perm (List.getElem?_eq_getElem hj)
    · rintro σ H2 ⟨y, lf, fd, rfl, DD, kp, hL2, hF2, pm, hfl⟩
      rw [List.length_map, Int.toNat_natCast] at hfl
      have pl := pm.length_eq
      rw [List.length_append] at pl
      have e0 : lf = [] := List.length_eq_zero_iff.mp (by omega)
      rw [e0, List.append_nil] at pm
      exact ⟨.ref F, rfl, q H2 F fd DD (fun b o nb hb => kp b o hb nb) (s1.free nF) hF2 pm⟩
end

/-! ### _law_wise -/
abbrev s_wise : Stmt := top 51
abbrev N_wise : List Str := ["_law_draw", "_law_state", "_law_top", "_law_rows", "_law_laid", "_law_at", "_law_one", "_law_other", "_law_many", "_law_flips", "_law_reach_here", "_law_ended", "_law_long_one", "_law_by", "_law_low"]
abbrev P_wise : List Str := ["_law_draw", "_law_state"]
theorem sc_wise : FnScope N_wise P_wise (defScope s_wise) := ⟨rfl, rfl, rfl, by decide +kernel, rfl, by decide +kernel, by decide +kernel⟩
theorem LawAt.keepD {H H' : Hp} {z r l d l0 : Addr} {X : FS} (la : LawAt H z r l X) (D : Draw H d l0) (nl : l ≠ d) (k : Keep d H H') : LawAt H' z r l X := by
  obtain ⟨h1, ⟨kvs, h2, h3⟩, ⟨ps, h4, h5⟩⟩ := la
  obtain ⟨ns, i, zz, sd, W⟩ := D
  have kt : KeepT H H' := fun b xs hb => k.of hb (ne_of hb W.at_d (fun q => by cases q))
  exact ⟨kt _ _ h1, ⟨kvs, k.of h2 (ne_of h2 W.at_d (fun q => by cases q)), h3.keep kt⟩, ⟨ps, k.of h4 nl, h5.keep kt⟩⟩
/-- the numbers of the matings are small -/
def KB (X : FS) : Prop := ∀ s ∈ X.S, 0 ≤ s.1 ∧ s.1 ≤ 100
def spWise : Sp := fun vs H Q _ => ∃ (d l0 z r l : Addr) (X : FS), vs = [.ref d, .ref z] ∧ Draw H d l0 ∧ LawAt H z r l X ∧ l ≠ d ∧ WF X ∧ KB X ∧ 0 < X.e ∧
  ∀ (H' : Hp) (t : Addr) (mo : Mo) (X' : FS), Draw H' d l0 → Keep d H H' → H' t = some (.tup (moV mo)) → mkS X mo = some X' → (∀ y ∈ moV mo, MV y) → Q (.ref t) H'
/-- neither idle nor to be halved -/
def calm (x : M4) : Prop := ¬ (x.2.2.2 = 0 ∧ x.1 = x.2.1) ∧ ¬ (x.2.2.2 = 1 ∧ x.2.1 < x.1 + x.2.2.1)
theorem calm_lead {x : M4} {e : Int} (h : Rok e x) (c : calm x) : xLead x = true := by
  show (if x.2.2.2 = 1 then decide (x.2.2.1 ≤ x.2.1 - x.1) else decide (1 ≤ x.2.1 - x.1)) = true
  have g := h.op
  by_cases hf : x.2.2.2 = 1
  · rw [if_pos hf]
    have := c.2
    exact decide_eq_true (by omega)
  · rw [if_neg hf]
    have h0 := h.f01.resolve_right hf
    have := c.1
    exact decide_eq_true (by omega)
theorem mvi {i : Int} (h0 : 0 ≤ i) (h1 : i ≤ 1000000000000000000) : MV (.int i) := .inl (IB.fv (.int (by omega)))
theorem mvs_idle : MV (.str "idle") := .inr ⟨_, rfl, by decide +kernel, by decide +kernel, by decide +kernel⟩
theorem mvs_halve : MV (.str "halve") := .inr ⟨_, rfl, by decide +kernel, by decide +kernel, by decide +kernel⟩
theorem mvs_merge : MV (.str "merge") := .inr ⟨_, rfl, by decide +kernel, by decide +kernel, by decide +kernel⟩
theorem mvs_lead : MV (.str "lead") := .inr ⟨_, rfl, by decide +kernel, by decide +kernel, by decide +kernel⟩
theorem mvs_fold : MV (.str "fold") := .inr ⟨_, rfl, by decide +kernel, by decide +kernel, by decide +kernel⟩
theorem mvs_bare : MV (.str "bare") := .inr ⟨_, rfl, by decide +kernel, by decide +kernel, by decide +kernel⟩
theorem al2 {α : Type} {P : α → Prop} {a b : α} (h1 : P a) (h2 : P b) : ∀ x ∈ [a, b], P x := fun x hx => by
  rcases List.mem_cons.mp hx with e | hx
  · rw [e]; exact h1
  rcases List.mem_cons.mp hx with e | hx
  · rw [e]; exact h2
  · cases hx
theorem al3 {α : Type} {P : α → Prop} {a b c : α} (h1 : P a) (h2 : P b) (h3 : P c) : ∀ x ∈ [a, b, c], P x := fun x hx => by
  rcases List.mem_cons.mp hx with e | hx
  · rw [e]; exact h1
  · exact al2 h2 h3 x hx
theorem al4 {α : Type} {P : α → Prop} {a b c d : α} (h1 : P a) (h2 : P b) (h3 : P c) (h4 : P d) : ∀ x ∈ [a, b, c, d], P x := fun x hx => by
  rcases List.mem_cons.mp hx with e | hx
  · rw [e]; exact h1
  · exact al3 h2 h3 h4 x hx
def endsAt (e : Int) (s : Int × M4) : Bool := decide (s.2.2.1 + s.2.2.2.1 = e)
def longB (M : Int) (s : Int × M4) : Bool := decide (s.2.2.2.1 = M)
theorem filter_step {α : Type} {p : α → Bool} {S : List α} {i : Nat} {z : α} (hz : S[i]? = some z) : (S.take (i + 1)).filter p = (S.take i).filter p ++ (if p z = true then [z] else []) := by
  rw [List.take_add_one, hz, List.filter_append]
  congr 1
  show List.filter p [z] = _
  rw [List.filter_cons, List.filter_nil]
section
variable {P : Program} {w : World} {K : PySem.W.Frag} {mg : Str → Option Value} {base : Heap}
theorem ok_wise {f fP fR fL fS fA : Addr} {fd fdP fdR fdL fdS fdA : FuncData} (D : DefAt K mg "_law_wise" s_wise P_wise f fd) (D_pull : DefAt K mg "_law_pull" s_pull P_pull fP fdP) (D_reach : DefAt K mg "_law_reach" s_reach P_reach fR fdR) (D_less : DefAt K mg "_law_less" s_less P_less fL fdL) (D_shuffled : DefAt K mg "_law_shuffled" s_shuffled P_shuffled fS fdS) (D_any : DefAt K mg "_law_any" s_any P_any fA fdA) (B : Bn mg) : FnOk P w K mg base CX0 3 f fd P_wise spWise := by
  have G_reach : FnOk P w K mg base CX0 1 fR fdR P_reach spReachL := ok_reachL D_reach B
  have G_less : FnOk P w K mg base CX0 2 fL fdL P_less spLess := ok_less D_less D_pull B
  have G_shuffled : FnOk P w K mg base CX0 2 fS fdS P_shuffled spShuf := ok_shuf D_shuffled D_pull B
  have G_any : FnOk P w K mg base CX0 2 fA fdA P_any spAny := ok_any D_any D_pull B
  refine D.F.ok sc_wise (fun vs H Q E h => ?_) (fun cdv A outer s H vs Q E hr h => ?_)
  · obtain ⟨d, l0, z, r, l, X, rfl, _⟩ := h
    rfl
  · obtain ⟨d, l0, z, r, l, X, rfl, hD, la, nl, wf, kb, e0, q⟩ := h
    have hu := hu_of hr
    refine ⟨_, (pss_cons (ps_asg (pv 1) (pg_tup (by rfl) (pgs_cons (pg_name (i := 2) sc_wise.nd rfl (.inr rfl)) (pgs_cons (pg_name (i := 3) sc_wise.nd rfl (.inr rfl)) (pgs_cons (pg_name (i := 4) sc_wise.nd rfl (.inl rfl)) pgs_nil)))))
      (pss_cons (ps_for PassesOwn.never rfl (pi_list (pe_callB (call_sortedDI rfl) (by rfl) B.sorted (by decide +kernel) (pa_cons (pv 3) pa_nil))) (pg_name (i := 5) sc_wise.nd rfl (.inl rfl)) (pss_cons (ps_asg (pe_dget hu (pv 3) (pv 5) (fun _ _ => rfl)) (pg_tup (by rfl) (pgs_cons (pg_name (i := 6) sc_wise.nd rfl (.inl rfl)) (pgs_cons (pg_name (i := 7) sc_wise.nd rfl (.inl rfl)) (pgs_cons (pg_name (i := 8) sc_wise.nd rfl (.inl rfl)) (pgs_cons (pg_name (i := 9) sc_wise.nd rfl (.inl rfl)) pgs_nil))))))
      (pss_cons (ps_if (PW.pt (pw_and (pt_cmpR op_eq (pv 9) pe_int (nomark _)) (pw_and1 (pt_cmpR op_eq (pv 6) (pv 7) (nomark _))))) (pss_one (ps_ret (pe_tup (pa_cons pe_str (pa_cons (pv 5) pa_nil))))) pss_nil)
      (pss_one (ps_if (PW.pt (pw_and (pt_cmpR op_eq (pv 9) pe_int (nomark _)) (pw_and1 (pt_cmpR op_lt (pv 7) (pe_op op_add (pv 6) (pv 8)) (nomark _))))) (pss_one (ps_ret (pe_tup (pa_cons pe_str (pa_cons (pv 5) pa_nil))))) pss_nil)))))
      (pss_cons (ps_set (i := 10) sc_wise.nd rfl (.inl rfl) (pe_call G_reach (hr.mono (by omega)) (by rfl) D_reach.g D_reach.F.kp D_reach.b .nil pass0 (pa_cons (pv 1) (pa_cons pe_non pa_nil))))
      (pss_cons (ps_if (pt_cmpR op_lt (pv 10) (pv 2) (nomark _)) (pss_one (ps_ret (pe_tup (pa_cons pe_str (pa_cons (pe_op op_add (pv 10) (pe_call G_less (hr.mono (by omega)) (by rfl) D_less.g D_less.F.kp D_less.b .nil pass0 (pa_cons (pv 0) (pa_cons (pe_op op_sub (pv 2) (pv 10)) pa_nil)))) pa_nil))))) pss_nil)
      (pss_cons (ps_setLc (i := 11) (own := [("_law_at", 5)]) (g := gName 5) (by rfl) sc_wise.nd rfl rfl (sw_true rfl rfl rfl (by decide +kernel)) (pi_list (pe_callB (call_sortedDI rfl) (by rfl) B.sorted (by decide +kernel) (pa_cons (pv 3) pa_nil))) (blkOk_by (own := [("_law_at", 5)]) (N := N_wise) (sc := defScope s_wise) (by decide +kernel)) (fun _ _ _ _ _ => (pg_name (i := 5) sc_wise.nd rfl (.inl rfl))) (fun _ _ _ _ _ => (pts_one (pt_cmpR op_eq (pe_op op_add (pe_ix (show IxR _ (rIxT K) from ix_tup) (pe_dget hu (pv 3) (pv 5) (fun _ _ => rfl)) pe_int (fun _ _ => rfl)) (pe_ix (show IxR _ (rIxT K) from ix_tup) (pe_dget hu (pv 3) (pv 5) (fun _ _ => rfl)) pe_int (fun _ _ => rfl))) (pv 2) (nomark _)))) (fun _ _ _ _ _ => (pv 5)))
      (pss_cons (ps_set (i := 12) sc_wise.nd rfl (.inr rfl) (pe_callB (cr_max rfl) (by rfl) B.max (by decide +kernel) (pa_cons (pe_lc (own := [("_law_at", 5)]) (g := gName 5) (by rfl) sc_wise.nd (pi_list (pv 11)) (blkOk_by (own := [("_law_at", 5)]) (N := N_wise) (sc := defScope s_wise) (by decide +kernel)) (fun _ _ _ _ _ => (pg_name (i := 5) sc_wise.nd rfl (.inl rfl))) (fun _ _ _ _ _ => pts_nil) (fun _ _ _ _ _ => (pe_ix (show IxR _ (rIxT K) from ix_tup) (pe_dget hu (pv 3) (pv 5) (fun _ _ => rfl)) pe_int (fun _ _ => rfl)))) pa_nil)))
      (pss_cons (ps_set (i := 13) sc_wise.nd rfl (.inl rfl) (pe_call G_any (hr.mono (by omega)) (by rfl) D_any.g D_any.F.kp D_any.b .nil pass0 (pa_cons (pv 0) (pa_cons (pe_lc (own := [("_law_at", 5)]) (g := gName 5) (by rfl) sc_wise.nd (pi_list (pv 11)) (blkOk_by (own := [("_law_at", 5)]) (N := N_wise) (sc := defScope s_wise) (by decide +kernel)) (fun _ _ _ _ _ => (pg_name (i := 5) sc_wise.nd rfl (.inl rfl))) (fun _ _ _ _ _ => (pts_one (pt_cmpR op_eq (pe_ix (show IxR _ (rIxT K) from ix_tup) (pe_dget hu (pv 3) (pv 5) (fun _ _ => rfl)) pe_int (fun _ _ => rfl)) (pv 12) (nomark _)))) (fun _ _ _ _ _ => (pv 5))) pa_nil))))
      (pss_cons (ps_for PassesOwn.never rfl (pi_list (pe_call G_shuffled (hr.mono (by omega)) (by rfl) D_shuffled.g D_shuffled.F.kp D_shuffled.b .nil pass0 (pa_cons (pv 0) (pa_cons (pe_callB (call_sortedDI rfl) (by rfl) B.sorted (by decide +kernel) (pa_cons (pv 3) pa_nil)) pa_nil)))) (pg_name (i := 5) sc_wise.nd rfl (.inl rfl)) (pss_one (ps_if (PW.pt (pw_and (pt_cmpR op_ne (pv 5) (pv 13) (nomark _)) (pw_and1 (pt_cmpR op_ge (pe_ix ix_tup (pe_dget hu (pv 3) (pv 5) (fun _ _ => rfl)) pe_int (fun _ _ => rfl)) (pe_ix ix_tup (pe_dget hu (pv 3) (pv 13) (fun _ _ => rfl)) pe_int (fun _ _ => rfl)) (nomark _))))) (pss_one (ps_ret (pe_tup (pa_cons pe_str (pa_cons (pv 5) (pa_cons pe_int (pa_cons (pv 13) pa_nil))))))) pss_nil)))
      (pss_cons (ps_set (i := 14) sc_wise.nd rfl (.inl rfl) (pe_callB (call_max2 rfl) (by rfl) B.max (by decide +kernel) (pa_cons (pe_ix ix_tup (pe_dget hu (pv 3) (pv 13) (fun _ _ => rfl)) pe_int (fun _ _ => rfl)) (pa_cons (pe_call G_reach (hr.mono (by omega)) (by rfl) D_reach.g D_reach.F.kp D_reach.b .nil pass0 (pa_cons (pv 1) (pa_cons (pv 13) pa_nil))) pa_nil))))
      (pss_one (ps_ret (pe_tup (pa_cons pe_str (pa_cons (pv 13) (pa_cons (pe_op op_add (pv 14) (pe_call G_less (hr.mono (by omega)) (by rfl) D_less.g D_less.F.kp D_less.b .nil pass0 (pa_cons (pv 0) (pa_cons (pe_op op_sub (pv 2) (pv 14)) pa_nil)))) pa_nil))))))))))))))), ?_⟩
    refine ⟨.ref z, rfl, z, _, rfl, SqT.of la.at_z, rfl, .int X.e, _, rfl, .ref r, _, rfl, .ref l, _, rfl, rfl, ?_⟩
    have hlen := wf.len
    have e1 := wf.e1
    obtain ⟨kvs, er, st⟩ := la.at_r
    have hkl := st.length
    -- what a row is, at any later heap
    have row : ∀ {H2 : Hp}, LawAt H2 z r l X → ∀ y ∈ X.S, ∃ t, DGet H2 r (.int y.1) (some (.ref t)) ∧ H2 t = some (t4 y.2) := fun la2 y hy => by
      obtain ⟨kvs2, er2, st2⟩ := la2.at_r
      obtain ⟨t, g, _, ht⟩ := st2.dget er2 (sget_mem wf.up hy)
      exact ⟨t, g, ht⟩
    have keysAt : ∀ {i : Nat} {x : V}, ((X.S.map (·.1)).map V.int)[i]? = some x → ∃ y, X.S[i]? = some y ∧ x = .int y.1 := fun hx => by
      rw [List.map_map, List.getElem?_map] at hx
      obtain ⟨y, hy, rfl⟩ := Option.map_eq_some_iff.mp hx
      exact ⟨y, hy, rfl⟩
    refine ⟨.ref r, rfl, r, kvs, X.S.map (·.1), rfl, .inl er, st.keys, by rw [List.length_map]; omega, fun ys p py so np => ?_⟩
    have ey := perm_sorted py so wf.up
    subst ey
    have s1 := same_upd (H := H) (o := .lst ((X.S.map (·.1)).map V.int)) np
    have la1 := la.same s1
    have D1 := hD.same s1
    refine ⟨p, rfl, ⟨_, SqL.of upd_same⟩, for_list (K := K) (a := p) (xs := (X.S.map (·.1)).map V.int) (fun i σ H2 => ∃ y5 y6 y7 y8 y9, σ = [some (.ref d), some (.ref z), some (.int X.e), some (.ref r), some (.ref l), y5, y6, y7, y8, y9, none, none, none, none, none] ∧ H2 = upd H p (.lst ((X.S.map (·.1)).map V.int)) ∧ ∀ y ∈ X.S.take i, calm y.2)
      ⟨_, _, _, _, _, rfl, rfl, fun y hy => by simp at hy⟩ (fun i σ H2 _ ⟨_, _, _, _, _, _, e, _⟩ => by rw [e]; exact SqL.of upd_same) ?_ ?_⟩
    · rintro i x σ H2 hx ⟨y5, y6, y7, y8, y9, rfl, rfl, hc⟩
      obtain ⟨y, hy, rfl⟩ := keysAt hx
      have hm := List.mem_of_getElem? hy
      obtain ⟨t, g, ht⟩ := row la1 y hm
      have rk := wf.r y hm
      have kb1 := kb y hm
      have hg := sget_mem wf.up hm
      refine ⟨.ref r, rfl, .int y.1, rfl, r, .ref t, rfl, g, t, _, rfl, SqT.of ht, rfl, .int y.2.1, _, rfl, .int y.2.2.1, _, rfl, .int y.2.2.2.1, _, rfl, .int y.2.2.2.2, _, rfl, rfl, ?_⟩
      have next : calm y.2 → ∀ y' ∈ X.S.take (i + 1), calm y'.2 := fun c y' hy' => by
        rw [List.take_add_one, hy] at hy'
        rcases List.mem_append.mp hy' with h | h
        · exact hc y' h
        · rw [show (some y).toList = [y] from rfl] at h
          rw [List.mem_singleton.mp h]
          exact c
      have goI : y.2.2.2.2 = 0 ∧ y.2.1 = y.2.2.1 → ∀ a', (upd H p (.lst ((X.S.map (·.1)).map V.int))) a' = none → Q (.ref a') (upd (upd H p (.lst ((X.S.map (·.1)).map V.int))) a' (.tup [.str "idle", .int y.1])) := fun hc' a' na' => by
        refine q _ a' (.idle y.1) ⟨X.e, sdrop X.S y.1, X.L⟩ (D1.same (same_upd na')) (keepS (s1.trans (same_upd na'))) upd_same ?_ (al2 mvs_idle (mvi kb1.1 (by omega)))
        show (idleS X.S y.1).map _ = _
        unfold idleS
        rw [hg]
        show Option.map _ (if y.2.2.2.2 = 0 ∧ y.2.1 = y.2.2.1 then some (sdrop X.S y.1) else none) = _
        rw [if_pos hc']
        rfl
      have goH : y.2.2.2.2 = 1 ∧ y.2.2.1 < y.2.1 + y.2.2.2.1 → ∀ a', (upd H p (.lst ((X.S.map (·.1)).map V.int))) a' = none → Q (.ref a') (upd (upd H p (.lst ((X.S.map (·.1)).map V.int))) a' (.tup [.str "halve", .int y.1])) := fun hc' a' na' => by
        have hcn : ¬ (y.2.2.2.2 = 0 ∨ isLead y.2.1 y.2.2.1 y.2.2.2.1 y.2.2.2.2 = true) := by
          rintro (hf | hf)
          · omega
          · unfold isLead at hf
            rw [if_pos hc'.1] at hf
            have := of_decide_eq_true hf
            omega
        obtain ⟨X', hX'⟩ : ∃ X', mkS X (.halve y.1) = some X' := by
          show ∃ X', (halveS X.S y.1).map _ = some X'
          unfold halveS
          rw [hg]
          show ∃ X', Option.map _ (if y.2.2.2.2 = 0 ∨ isLead y.2.1 y.2.2.1 y.2.2.2.1 y.2.2.2.2 = true then none else if hlf y.2.1 y.2.2.1 y.2.2.2.1 = 0 then some (sdrop X.S y.1) else some (sput X.S y.1 (nrm (y.2.1, y.2.2.1 + y.2.2.2.1 - hlf y.2.1 y.2.2.1 y.2.2.2.1, hlf y.2.1 y.2.2.1 y.2.2.2.1, y.2.2.2.2)))) = some X'
          rw [if_neg hcn]
          split
          · exact ⟨_, rfl⟩
          · exact ⟨_, rfl⟩
        exact q _ a' (.halve y.1) X' (D1.same (same_upd na')) (keepS (s1.trans (same_upd na'))) upd_same hX' (al2 mvs_halve (mvi kb1.1 (by omega)))
      have second : ¬ (y.2.2.2.2 = 0 ∧ y.2.1 = y.2.2.1) → True := fun _ => trivial
      -- idle?
      refine ⟨.int y.2.2.2.2, rfl, rfl, _, rfl, ?_⟩
      rcases rk.f01 with hf | hf
      · have hf' : y.2.2.2.2 = 0 := hf
        rw [decide_eq_true (show V.int y.2.2.2.2 = V.int 0 from congrArg V.int hf')]
        refine iteT ?_
        refine ⟨.int y.2.1, rfl, .int y.2.2.1, rfl, rfl, _, rfl, ?_⟩
        refine ite2 (fun h => ?_) (fun h => ?_)
        · exact ⟨.int y.1, rfl, by show 2 ≤ sizeLine; decide, goI ⟨hf', V.int.inj (of_decide_eq_true h)⟩⟩
        · have h' : ¬ y.2.1 = y.2.2.1 := fun q => h (decide_eq_true (congrArg V.int q))
          refine ⟨.int y.2.2.2.2, rfl, rfl, _, rfl, ite2 (fun h1 => ?_) (fun _ => ?_)⟩
          · have h1' : y.2.2.2.2 = 1 := V.int.inj (of_decide_eq_true h1)
            omega
          · exact ⟨_, _, _, _, _, rfl, rfl, next ⟨fun z => h' z.2, fun z => by have := z.1; omega⟩⟩
      · have hf' : y.2.2.2.2 = 1 := hf
        rw [decide_eq_false (show ¬ V.int y.2.2.2.2 = V.int 0 from fun z => by have := V.int.inj z; omega)]
        refine iteF ?_
        refine ⟨.int y.2.2.2.2, rfl, rfl, _, rfl, ?_⟩
        rw [decide_eq_true (show V.int y.2.2.2.2 = V.int 1 from congrArg V.int hf')]
        refine iteT ?_
        refine ⟨.int y.2.2.1, rfl, .int y.2.1, rfl, .int y.2.2.2.1, rfl, _, _, rfl, rfl, _, _, rfl, rfl, _, rfl, ?_⟩
        refine ite2 (fun h => ?_) (fun h => ?_)
        · exact ⟨.int y.1, rfl, by show 2 ≤ sizeLine; decide, goH ⟨hf', of_decide_eq_true h⟩⟩
        · have h' : ¬ y.2.2.1 < y.2.1 + y.2.2.2.1 := fun q => h (decide_eq_true q)
          exact ⟨_, _, _, _, _, rfl, rfl, next ⟨fun z => by have := z.1; omega, fun z => h' z.2⟩⟩
    · rintro σ H2 ⟨y5, y6, y7, y8, y9, rfl, rfl, hc⟩
      rw [List.length_map, List.length_map, List.take_length] at hc
      have lead : ∀ y ∈ X.S, xLead y.2 = true := fun y hy => calm_lead (wf.r y hy) (hc y hy)
      refine ⟨.ref z, rfl, z, r, l, .non, none, X, rfl, .inl ⟨rfl, rfl⟩, la1, wf, fun H2 s2 => ?_⟩
      have la2 := la1.same s2
      have D2 := D1.same s2
      have s02 := s1.trans s2
      have rle := rch_le wf none
      have r0 := rch_0 X.S none
      refine ⟨.int (rch X.S none), rfl, .int X.e, rfl, _, _, rfl, rfl, _, rfl, ?_⟩
      refine ite2 (fun h => ?_) (fun h => ?_)
      · have h' : rch X.S none < X.e := of_decide_eq_true h
        refine ⟨.int (rch X.S none), rfl, .ref d, rfl, .int X.e, rfl, .int (rch X.S none), rfl, _, _, rfl, rfl, d, l0, _, rfl, D2, by omega, fun v H3 v0 v1 D3 k3 => ?_⟩
        refine ⟨_, _, rfl, rfl, by show 2 ≤ sizeLine; decide, fun a' na' => ?_⟩
        refine q _ a' (.bare (rch X.S none + v)) ⟨rch X.S none + v, X.S, X.L ++ [.bare (rch X.S none + v) X.e]⟩ (D3.same (same_upd na')) (((keepS s02).trans k3).trans (keepS (same_upd na'))) upd_same ?_ (al2 mvs_bare (mvi (by omega) (by omega)))
        show bareS X _ = _
        unfold bareS
        exact if_pos ⟨by omega, by omega⟩
      · have h' : rch X.S none = X.e := by
          have : ¬ rch X.S none < X.e := fun q => h (decide_eq_true q)
          omega
        -- what ends at the top
        obtain ⟨kvs2, er2, st2⟩ := la2.at_r
        have hkl2 := st2.length
        refine ⟨.ref r, rfl, r, kvs2, X.S.map (·.1), rfl, .inl er2, st2.keys, by rw [List.length_map]; omega, fun ys p3 py3 so3 np3 => ?_⟩
        have ey3 := perm_sorted py3 so3 wf.up
        subst ey3
        have s3 := same_upd (H := H2) (o := .lst ((X.S.map (·.1)).map V.int)) np3
        have la3 := la2.same s3
        refine ⟨p3, rfl, ⟨_, SqL.of upd_same⟩, fun L nL => lc_list (K := K) (a := p3) (xs := (X.S.map (·.1)).map V.int) (fun i H4 => Same (upd H2 p3 (.lst ((X.S.map (·.1)).map V.int))) H4 ∧ H4 L = some (.lst ((((X.S.take i).filter (endsAt X.e)).map (·.1)).map V.int)))
          ⟨same_upd nL, upd_same⟩ (fun i H4 _ ⟨sm, _⟩ => SqL.of (sm _ _ upd_same)) ?_ ?_⟩
        · rintro i x H4 hx ⟨sm, eL⟩
          obtain ⟨y, hy, rfl⟩ := keysAt hx
          have hm := List.mem_of_getElem? hy
          obtain ⟨t, g, ht⟩ := row (la3.same sm) y hm
          have hi : i < X.S.length := (List.getElem?_eq_some_iff.mp hy).1
          have fs := filter_step (p := endsAt X.e) hy
          refine ⟨rfl, .ref r, rfl, .int y.1, rfl, r, .ref t, rfl, g, t, _, 1, .int y.2.2.1, rfl, rfl, SqT.of ht, at4_1, .ref r, rfl, .int y.1, rfl, r, .ref t, rfl, g, t, _, 2, .int y.2.2.2.1, rfl, rfl, SqT.of ht, at4_2, _, _, rfl, rfl, .int X.e, rfl, rfl, _, rfl, ?_⟩
          refine ite2 (fun h1 => ?_) (fun h1 => ?_)
          · have h1' : y.2.2.1 + y.2.2.2.1 = X.e := V.int.inj (of_decide_eq_true h1)
            rw [if_pos (show endsAt X.e y = true from decide_eq_true h1')] at fs
            have ll := List.length_filter_le (endsAt X.e) (X.S.take i)
            rw [List.length_take] at ll
            refine ⟨.int y.1, rfl, _, eL, sz_lt (by rw [List.length_map, List.length_map]; omega), fun c o hc' => ?_, ?_⟩
            · rw [upd_ne (ne_of_none hc' nL)]
              exact sm _ _ hc'
            · rw [upd_same, fs, List.map_append, List.map_append]
              rfl
          · have h1' : ¬ y.2.2.1 + y.2.2.2.1 = X.e := fun q => h1 (decide_eq_true (congrArg V.int q))
            rw [if_neg (show ¬ endsAt X.e y = true from fun q => h1' (of_decide_eq_true q)), List.append_nil] at fs
            exact ⟨sm, by rw [fs]; exact eL⟩
        · rintro H4 ⟨sm, eL⟩
          rw [List.length_map, List.length_map, List.take_length] at eL
          have s4 := s3.trans sm
          have la4 := la2.same s4
          have D4 := D2.same s4
          have s04 := s02.trans s4
          obtain ⟨E, hE⟩ : ∃ E : StL, E = X.S.filter (endsAt X.e) := ⟨_, rfl⟩
          rw [← hE] at eL
          have memE : ∀ y ∈ E, y ∈ X.S ∧ y.2.2.1 + y.2.2.2.1 = X.e := fun y hy => by
            rw [hE] at hy
            obtain ⟨h1, h2⟩ := List.mem_filter.mp hy
            exact ⟨h1, of_decide_eq_true h2⟩
          have lenE : E.length ≤ X.S.length := by
            rw [hE]
            exact List.length_filter_le _ _
          have neE : 0 < E.length := by
            rcases fold_max_in (endsL X.S none) 0 with q' | q'
            · have : rch X.S none = 0 := q'
              omega
            · obtain ⟨y, hy, e⟩ := List.mem_map.mp q'
              have hyE : y ∈ E := by
                rw [hE]
                refine List.mem_filter.mpr ⟨(List.mem_filter.mp hy).1, decide_eq_true ?_⟩
                rw [e]
                exact h'
              exact List.length_pos_of_mem hyE
          have keysE : ∀ {i : Nat} {x : V}, ((E.map (·.1)).map V.int)[i]? = some x → ∃ y, E[i]? = some y ∧ x = .int y.1 := fun hx => by
            rw [List.map_map, List.getElem?_map] at hx
            obtain ⟨y, hy, rfl⟩ := Option.map_eq_some_iff.mp hx
            exact ⟨y, hy, rfl⟩
          -- the longest
          refine ⟨.ref L, rfl, L, rfl, ⟨_, SqL.of eL⟩, fun L5 nL5 => lc_list (K := K) (a := L) (xs := (E.map (·.1)).map V.int) (fun i H5 => Same H4 H5 ∧ H5 L5 = some (.lst (((E.take i).map fun y => y.2.2.2.1).map V.int)))
            ⟨same_upd nL5, upd_same⟩ (fun i H5 _ ⟨sm, _⟩ => SqL.of (sm _ _ eL)) ?_ ?_⟩
          · rintro i x H5 hx ⟨sm5, eL5⟩
            obtain ⟨y, hy, rfl⟩ := keysE hx
            have hm := memE y (List.mem_of_getElem? hy)
            obtain ⟨t, g, ht⟩ := row (la4.same sm5) y hm.1
            have hi : i < E.length := (List.getElem?_eq_some_iff.mp hy).1
            refine ⟨rfl, .ref r, rfl, .int y.1, rfl, r, .ref t, rfl, g, t, _, 2, .int y.2.2.2.1, rfl, rfl, SqT.of ht, at4_2, ?_⟩
            refine ⟨_, eL5, sz_lt (by rw [List.length_map, List.length_map, List.length_take]; omega), fun c o hc' => ?_, ?_⟩
            · rw [upd_ne (ne_of_none hc' nL5)]
              exact sm5 _ _ hc'
            · rw [upd_same, List.take_add_one, hy, List.map_append, List.map_append]
              rfl
          · rintro H5 ⟨sm5, eL5⟩
            rw [List.length_map, List.length_map, List.take_length] at eL5
            refine ⟨L5, E.map (fun y => y.2.2.2.1), rfl, SqL.of eL5, by rw [List.length_map]; exact neE, fun M hM hle => ?_⟩
            have la5 := la4.same sm5
            have D5 := D4.same sm5
            have eLb := sm5 _ _ eL
            have s05 := s04.trans sm5
            -- by
            refine ⟨.ref d, rfl, .ref L, rfl, L, rfl, ⟨_, SqL.of eLb⟩, fun L6 nL6 => lc_list (K := K) (a := L) (xs := (E.map (·.1)).map V.int) (fun i H6 => Same H5 H6 ∧ H6 L6 = some (.lst ((((E.take i).filter (longB M)).map (·.1)).map V.int)))
              ⟨same_upd nL6, upd_same⟩ (fun i H6 _ ⟨sm, _⟩ => SqL.of (sm _ _ eLb)) ?_ ?_⟩
            · rintro i x H6 hx ⟨sm6, eL6⟩
              obtain ⟨y, hy, rfl⟩ := keysE hx
              have hm := memE y (List.mem_of_getElem? hy)
              obtain ⟨t, g, ht⟩ := row (la5.same sm6) y hm.1
              have hi : i < E.length := (List.getElem?_eq_some_iff.mp hy).1
              have fs := filter_step (p := longB M) hy
              refine ⟨rfl, .ref r, rfl, .int y.1, rfl, r, .ref t, rfl, g, t, _, 2, .int y.2.2.2.1, rfl, rfl, SqT.of ht, at4_2, .int M, rfl, rfl, _, rfl, ?_⟩
              refine ite2 (fun h1 => ?_) (fun h1 => ?_)
              · have h1' : y.2.2.2.1 = M := V.int.inj (of_decide_eq_true h1)
                rw [if_pos (show longB M y = true from decide_eq_true h1')] at fs
                have ll := List.length_filter_le (longB M) (E.take i)
                rw [List.length_take] at ll
                refine ⟨.int y.1, rfl, _, eL6, sz_lt (by rw [List.length_map, List.length_map]; omega), fun c o hc' => ?_, ?_⟩
                · rw [upd_ne (ne_of_none hc' nL6)]
                  exact sm6 _ _ hc'
                · rw [upd_same, fs, List.map_append, List.map_append]
                  rfl
              · have h1' : ¬ y.2.2.2.1 = M := fun q => h1 (decide_eq_true (congrArg V.int q))
                rw [if_neg (show ¬ longB M y = true from fun q => h1' (of_decide_eq_true q)), List.append_nil] at fs
                exact ⟨sm6, by rw [fs]; exact eL6⟩
            · rintro H6 ⟨sm6, eL6⟩
              rw [List.length_map, List.length_map, List.take_length] at eL6
              have la6 := la5.same sm6
              have D6 := D5.same sm6
              have s06 := s05.trans sm6
              have ll := List.length_filter_le (longB M) E
              have nLd : L6 ≠ d := (draw_apart D5 nL6).1.symm
              refine ⟨d, l0, L6, _, rfl, D6, eL6, nLd, ?_, by rw [List.length_map, List.length_map]; omega, fun v H7 hv D7 k7 => ?_⟩
              · obtain ⟨y, hy, e⟩ := List.mem_map.mp hM
                rw [List.length_map, List.length_map]
                exact List.length_pos_of_mem (List.mem_filter.mpr ⟨hy, decide_eq_true e⟩)
              · rw [List.map_map] at hv
                obtain ⟨b, hb, rfl⟩ := List.mem_map.mp hv
                obtain ⟨hbE, hbM⟩ := List.mem_filter.mp hb
                have hbM' : b.2.2.2.1 = M := of_decide_eq_true hbM
                obtain ⟨hbS, hbe⟩ := memE b hbE
                have hgb := sget_mem wf.up hbS
                have rb := wf.r b hbS
                have kbb := kb b hbS
                have lb := lead b hbS
                have la7 := la6.keepD D6 nl k7
                have k07 : Keep d H H7 := (keepS s06).trans k7
                -- sorted(rows), shuffled
                obtain ⟨kvs7, er7, st7⟩ := la7.at_r
                have hkl7 := st7.length
                refine ⟨.ref d, rfl, .ref r, rfl, r, kvs7, X.S.map (·.1), rfl, .inl er7, st7.keys, by rw [List.length_map]; omega, fun ys p8 py8 so8 np8 => ?_⟩
                have ey8 := perm_sorted py8 so8 wf.up
                subst ey8
                have s8 := same_upd (H := H7) (o := .lst ((X.S.map (·.1)).map V.int)) np8
                have D8 := D7.same s8
                have np8d := D7.ne_new np8
                refine ⟨d, l0, p8, X.S.map (·.1), rfl, D8, upd_same, np8d, by rw [List.length_map]; omega, fun H9 p9 ks9 D9 k9 np9 e9 pm9 => ?_⟩
                have la9 := (la7.same s8).keepD D8 nl k9
                have k09 : Keep d H H9 := (k07.trans (keepS s8)).trans k9
                refine ⟨p9, rfl, ⟨_, SqL.of e9⟩, for_list (K := K) (a := p9) (xs := ks9.map V.int) (fun i σ HA => ∃ y5 y12, σ = [some (.ref d), some (.ref z), some (.int X.e), some (.ref r), some (.ref l), y5, y6, y7, y8, y9, some (.int (rch X.S none)), some (.ref L), y12, some (.int b.1), none] ∧ HA = H9 ∧ ∀ k ∈ ks9.take i, ∀ y, sget X.S k = some y → k ≠ b.1 → y.2.1 < b.2.2.1)
                  ⟨_, _, rfl, rfl, fun k hk => by simp at hk⟩ (fun i σ HA _ ⟨_, _, _, e, _⟩ => by rw [e]; exact SqL.of e9) ?_ ?_⟩
                · rintro i x σ HA hx ⟨y5', y12, rfl, rfl, hseen⟩
                  rw [List.getElem?_map] at hx
                  obtain ⟨k, hk, rfl⟩ := Option.map_eq_some_iff.mp hx
                  have hkS : k ∈ X.S.map (·.1) := pm9.subset (List.mem_of_getElem? hk)
                  obtain ⟨y, hyS, hyk⟩ := List.mem_map.mp hkS
                  have hyk' : y.1 = k := hyk
                  subst hyk'
                  have hgy := sget_mem wf.up hyS
                  have ry := wf.r y hyS
                  have kby := kb y hyS
                  obtain ⟨ty, gy, hty⟩ := row la9 y hyS
                  obtain ⟨tb, gb, htb⟩ := row la9 b hbS
                  have seen : (y.1 ≠ b.1 → y.2.2.1 < b.2.2.1) → ∀ k' ∈ ks9.take (i + 1), ∀ y', sget X.S k' = some y' → k' ≠ b.1 → y'.2.1 < b.2.2.1 := fun hn k' hk' y' hy' hne => by
                    rw [List.take_add_one, hk] at hk'
                    rcases List.mem_append.mp hk' with h1 | h1
                    · exact hseen k' h1 y' hy' hne
                    · rw [show (some y.1).toList = [y.1] from rfl] at h1
                      have := List.mem_singleton.mp h1
                      subst this
                      rw [hgy] at hy'
                      cases hy'
                      exact hn hne
                  refine ⟨.int y.1, rfl, .int b.1, rfl, rfl, _, rfl, ?_⟩
                  by_cases hyb : y.1 = b.1
                  · refine iteNS (congrArg V.int hyb) ?_
                    exact ⟨_, _, rfl, rfl, seen fun h1 => absurd hyb h1⟩
                  · rw [decide_eq_false (show ¬ V.int y.1 = V.int b.1 from fun q => hyb (V.int.inj q))]
                    refine iteT ?_
                    refine ⟨.ref r, rfl, .int y.1, rfl, r, .ref ty, rfl, gy, ty, _, 1, .int y.2.2.1, rfl, rfl, SqT.of hty, at4_1, .ref r, rfl, .int b.1, rfl, r, .ref tb, rfl, gb, tb, _, 1, .int b.2.2.1, rfl, rfl, SqT.of htb, at4_1, _, _, rfl, rfl, _, rfl, ?_⟩
                    refine ite2 (fun h1 => ?_) (fun h1 => ?_)
                    · have h1' : b.2.2.1 ≤ y.2.2.1 := of_decide_eq_true h1
                      refine ⟨.int y.1, rfl, .int b.1, rfl, by show 4 ≤ sizeLine; decide, fun a' na' => ?_⟩
                      have py := ry.pe
                      obtain ⟨X', hX'⟩ : ∃ X', mkS X (.lead y.1 1 b.1) = some X' := by
                        show ∃ X', (leadS X.S y.1 1 b.1).map _ = some X'
                        rw [leadS_eq (fun q => hyb q.symm) hgy hgb]
                        unfold leadX
                        rw [if_pos ⟨.inr rfl, lb, by show b.2.2.1 ≤ y.2.2.1; exact h1', by show y.2.2.1 + y.2.2.2.1 ≤ b.2.2.1 + b.2.2.2.1; omega⟩]
                        exact ⟨_, rfl⟩
                      exact q _ a' (.lead y.1 1 b.1) X' (D9.same (same_upd na')) (k09.trans (keepS (same_upd na'))) upd_same hX' (al4 mvs_lead (mvi kby.1 (by omega)) (mvi (by decide) (by decide)) (mvi kbb.1 (by omega)))
                    · have h1' : ¬ b.2.2.1 ≤ y.2.2.1 := fun q => h1 (decide_eq_true q)
                      exact ⟨_, _, rfl, rfl, seen fun _ => by omega⟩
                · rintro σ HA ⟨y5', y12, rfl, rfl, hseen⟩
                  rw [List.length_map, List.take_length] at hseen
                  -- no other one reaches the top
                  have below : rch X.S (some b.1) < X.e := by
                    rcases fold_max_in (endsL X.S (some b.1)) 0 with q' | q'
                    · have : rch X.S (some b.1) = 0 := q'
                      omega
                    · obtain ⟨y, hy, e⟩ := List.mem_map.mp q'
                      obtain ⟨hyS, hyn⟩ := List.mem_filter.mp hy
                      have hyn' : y.1 ≠ b.1 := fun q2 => (of_decide_eq_true hyn) (congrArg some q2.symm)
                      have hlt := hseen y.1 (pm9.symm.subset (List.mem_map.mpr ⟨y, hyS, rfl⟩)) y.2 (sget_mem wf.up hyS) hyn'
                      have py := (wf.r y hyS).pe
                      have : rch X.S (some b.1) = y.2.2.1 + y.2.2.2.1 := e.symm
                      by_cases hq : y.2.2.1 + y.2.2.2.1 = X.e
                      · have hyE : y ∈ E := by
                          rw [hE]
                          exact List.mem_filter.mpr ⟨hyS, decide_eq_true hq⟩
                        have := hle y.2.2.2.1 (List.mem_map.mpr ⟨y, hyE, rfl⟩)
                        omega
                      · omega
                  obtain ⟨tb, gb, htb⟩ := row la9 b hbS
                  have rb0 := rch_0 X.S (some b.1)
                  have bm1 := rb.m1
                  have bo := rb.o0
                  have bop := rb.op
                  refine ⟨.ref r, rfl, .int b.1, rfl, r, .ref tb, rfl, gb, tb, _, 1, .int b.2.2.1, rfl, rfl, SqT.of htb, at4_1, .ref z, rfl, .int b.1, rfl, z, r, l, .int b.1, some b.1, X, rfl, .inr ⟨b.1, rfl, rfl⟩, la9, wf, fun HB sB => ?_⟩
                  refine ⟨_, _, rfl, ?_⟩
                  obtain ⟨lo, hlo⟩ : ∃ lo : Int, lo = (if rch X.S (some b.1) > b.2.2.1 then rch X.S (some b.1) else b.2.2.1) := ⟨_, rfl⟩
                  have lo1 : b.2.2.1 ≤ lo ∧ rch X.S (some b.1) ≤ lo ∧ lo < X.e := by
                    rw [hlo]
                    split <;> omega
                  rw [← hlo]
                  have DB := D9.same sB
                  refine ⟨.int b.1, rfl, .int lo, rfl, .ref d, rfl, .int X.e, rfl, .int lo, rfl, _, _, rfl, rfl, d, l0, _, rfl, DB, by omega, fun v HC v0 v1 DC kC => ?_⟩
                  refine ⟨_, _, rfl, rfl, by show 3 ≤ sizeLine; decide, fun a' na' => ?_⟩
                  obtain ⟨X', hX'⟩ : ∃ X', mkS X (.fold b.1 (lo + v)) = some X' := by
                    show ∃ X', foldS X b.1 (lo + v) = some X'
                    unfold foldS
                    rw [hgb]
                    exact ⟨_, if_pos ⟨lb, hbe, by omega, by omega, by omega⟩⟩
                  exact q _ a' (.fold b.1 (lo + v)) X' (DC.same (same_upd na')) (((k09.trans (keepS sB)).trans kC).trans (keepS (same_upd na'))) upd_same hX' (al3 mvs_fold (mvi kbb.1 (by omega)) (mvi (by omega) (by omega)))
end

/-! ### _law_mating -/
abbrev s_mating : Stmt := top 37
abbrev N_mating : List Str := ["_law_draw", "_law_length", "_law_many", "_law_room"]
abbrev P_mating : List Str := ["_law_draw", "_law_length"]
theorem sc_mating : FnScope N_mating P_mating (defScope s_mating) := ⟨rfl, rfl, rfl, by decide +kernel, rfl, by decide +kernel, by decide +kernel⟩
structure Mat (n o p m f : Int) : Prop where
  m1 : 1 ≤ m
  o0 : 0 ≤ o
  o1 : o + m ≤ n
  p0 : 0 ≤ p
  p1 : p + m ≤ n
  f01 : f = 0 ∨ f = 1
def spMating : Sp := fun vs H Q _ => ∃ (d l : Addr) (n : Int), vs = [.ref d, .int n] ∧ Draw H d l ∧ 1 ≤ n ∧ n < 2 ^ 60 ∧
  ∀ (H' : Hp) (t : Addr) (o p m f : Int), Draw H' d l → Keep d H H' → H' t = some (tup4 o p m f) → Mat n o p m f → Q (.ref t) H'
section
variable {P : Program} {w : World} {K : PySem.W.Frag} {mg : Str → Option Value} {base : Heap}
theorem ok_mating {f fP : Addr} {fd fdP : FuncData} (D : DefAt K mg "_law_mating" s_mating P_mating f fd) (D_pull : DefAt K mg "_law_pull" s_pull P_pull fP fdP) (B : Bn mg) : FnOk P w K mg base CX0 2 f fd P_mating spMating := by
  have G_pull : FnOk P w K mg base CX0 1 fP fdP P_pull spPull := ok_pull D_pull B
  refine D.F.ok sc_mating (fun vs H Q E h => ?_) (fun cdv A outer s H vs Q E hr h => ?_)
  · obtain ⟨d, l, n, rfl, _⟩ := h
    rfl
  · obtain ⟨d, l, n, rfl, hD, n1, n2, q⟩ := h
    refine ⟨_, (pss_cons (ps_set (i := 2) sc_mating.nd rfl (.inl rfl) (pe_op op_add pe_int (pe_call G_pull (hr.mono (by omega)) (by rfl) D_pull.g D_pull.F.kp D_pull.b .nil pass0 (pa_cons (pv 0) (pa_cons (pv 1) pa_nil)))))
      (C8.pss_cut (ps_if (pt_cmpR op_eq (pe_call G_pull (hr.mono (by omega)) (by rfl) D_pull.g D_pull.F.kp D_pull.b .nil pass0 (pa_cons (pv 0) (pa_cons pe_int pa_nil))) pe_int (nomark _)) (pss_one (ps_set (i := 2) sc_mating.nd rfl (.inl rfl) (pe_op op_add pe_int (pe_call G_pull (hr.mono (by omega)) (by rfl) D_pull.g D_pull.F.kp D_pull.b .nil pass0 (pa_cons (pv 0) (pa_cons (pe_callB (call_min2 rfl) (by rfl) B.min (by decide +kernel) (pa_cons (pv 2) (pa_cons pe_int pa_nil))) pa_nil)))))) pss_nil)
      (pss_cons (ps_set (i := 3) sc_mating.nd rfl (.inl rfl) (pe_op op_add (pe_op op_sub (pv 1) (pv 2)) pe_int))
      (pss_one (ps_ret (pe_tup (pa_cons (pe_call G_pull (hr.mono (by omega)) (by rfl) D_pull.g D_pull.F.kp D_pull.b .nil pass0 (pa_cons (pv 0) (pa_cons (pv 3) pa_nil))) (pa_cons (pe_call G_pull (hr.mono (by omega)) (by rfl) D_pull.g D_pull.F.kp D_pull.b .nil pass0 (pa_cons (pv 0) (pa_cons (pv 3) pa_nil))) (pa_cons (pv 2) (pa_cons (pe_call G_pull (hr.mono (by omega)) (by rfl) D_pull.g D_pull.F.kp D_pull.b .nil pass0 (pa_cons (pv 0) (pa_cons pe_int pa_nil))) pa_nil)))))))))), ?_⟩
    refine ⟨.ref d, rfl, .int n, rfl, d, l, n, rfl, hD, n1, by omega, fun a H1 a0 a1 D1 k1 => ?_⟩
    refine ⟨1, a, rfl, rfl, ?_⟩
    refine ⟨fun σ H' => ∃ m : Int, σ = [some (.ref d), some (.int n), some (.int m), none] ∧ Draw H' d l ∧ Keep d H H' ∧ 1 ≤ m ∧ m ≤ n, ?_, ?_⟩
    · refine ⟨.ref d, rfl, d, l, 2, rfl, D1, by decide, by decide, fun b H2 b0 b1 D2 k2 => ?_⟩
      refine ⟨rfl, _, rfl, ?_⟩
      refine ite2 (fun _ => ?_) (fun _ => ?_)
      · refine ⟨.ref d, rfl, .int (1 + a), rfl, 1 + a, 5, rfl, d, l, _, rfl, D2, ?_, ?_, fun c H3 c0 c1 D3 k3 => ?_⟩
        · split <;> omega
        · split <;> omega
        · refine ⟨1, c, rfl, rfl, 1 + c, rfl, D3, (k1.trans k2).trans k3, by omega, ?_⟩
          have c1' : c < (if (5 : Int) < 1 + a then 5 else 1 + a) := c1
          split at c1' <;> omega
      · exact ⟨1 + a, rfl, D2, k1.trans k2, by omega, by omega⟩
    · rintro σ H3 ⟨m, rfl, D3, k3, m1, m2⟩
      refine ⟨.int n, rfl, .int m, rfl, n, m, rfl, rfl, _, 1, rfl, rfl, ?_⟩
      refine ⟨.ref d, rfl, .int (n - m + 1), rfl, d, l, n - m + 1, rfl, D3, by omega, by omega, fun o H4 o0 o1 D4 k4 => ?_⟩
      refine ⟨.ref d, rfl, .int (n - m + 1), rfl, d, l, n - m + 1, rfl, D4, by omega, by omega, fun p H5 p0 p1 D5 k5 => ?_⟩
      refine ⟨.int m, rfl, .ref d, rfl, d, l, 2, rfl, D5, by decide, by decide, fun f H6 f0 f1 D6 k6 => ?_⟩
      refine ⟨by show 4 ≤ sizeLine; decide, fun t nt => ?_⟩
      exact q _ t o p m f (D6.same (same_upd nt)) ((((k3.trans k4).trans k5).trans k6).trans (keepS (same_upd nt))) upd_same ⟨m1, o0, by omega, p0, by omega, by omega⟩
end

/-! ### _law_road, _law_far_road, _law_scaled -/
abbrev s_road : Stmt := top 38
abbrev N_road : List Str := ["_law_draw", "_law_longest", "_law_cap", "_law_length", "_law_k"]
abbrev P_road : List Str := ["_law_draw", "_law_longest", "_law_cap"]
theorem sc_road : FnScope N_road P_road (defScope s_road) := ⟨rfl, rfl, rfl, by decide +kernel, rfl, by decide +kernel, by decide +kernel⟩
def Mrd (n : Int) (x : M4) : Prop := Mat n x.1 x.2.1 x.2.2.1 x.2.2.2
def spRoad : Sp := fun vs H Q _ => ∃ (d l : Addr) (g c : Int), vs = [.ref d, .int g, .int c] ∧ Draw H d l ∧ 1 ≤ g ∧ g ≤ 1000 ∧ 0 ≤ c ∧ c ≤ 23 ∧
  ∀ (H' : Hp) (t L : Addr) (n : Int) (ts : List Addr) (ms : List M4), Draw H' d l → Keep d H H' → H' t = some (.tup [.int n, .ref L]) → H L = none → H' L = some (.lst (ts.map V.ref)) → Mts H' ts ms → (∀ x ∈ ms, Mrd n x) → (ms.length : Int) ≤ c → 1 ≤ n → n ≤ g → Q (.ref t) H'
def scX (k : Int) (x : M4) : M4 := (x.1 * k, x.2.1 * k, x.2.2.1 * k, x.2.2.2)
theorem Mts.keep {H H' : Hp} (k : KeepT H H') : ∀ {ts : List Addr} {ms : List M4}, Mts H ts ms → Mts H' ts ms
  | _, _, .nil => .nil
  | _, _, .cons h r => .cons (k _ _ h) (Mts.keep k r)
theorem Mts.snoc {H : Hp} {t : Addr} {x : M4} (hs : H t = some (t4 x)) : ∀ {ts : List Addr} {ms : List M4}, Mts H ts ms → Mts H (ts ++ [t]) (ms ++ [x])
  | _, _, .nil => .cons hs .nil
  | _, _, .cons h r => .cons h (Mts.snoc hs r)
theorem Draw.keepT {H H' : Hp} {d l : Addr} (D : Draw H d l) (k : Keep d H H') : KeepT H H' := fun b xs hb => by
  obtain ⟨ns, i, zz, sd, W⟩ := D
  exact k.of hb (ne_of hb W.at_d (fun q => by cases q))
section
variable {P : Program} {w : World} {K : PySem.W.Frag} {mg : Str → Option Value} {base : Heap}
theorem ok_road {f fP fM : Addr} {fd fdP fdM : FuncData} (D : DefAt K mg "_law_road" s_road P_road f fd) (D_pull : DefAt K mg "_law_pull" s_pull P_pull fP fdP) (D_mating : DefAt K mg "_law_mating" s_mating P_mating fM fdM) (B : Bn mg) : FnOk P w K mg base CX0 3 f fd P_road spRoad := by
  have G_pull : FnOk P w K mg base CX0 1 fP fdP P_pull spPull := ok_pull D_pull B
  have G_mating : FnOk P w K mg base CX0 2 fM fdM P_mating spMating := ok_mating D_mating D_pull B
  refine D.F.ok sc_road (fun vs H Q E h => ?_) (fun cdv A outer s H vs Q E hr h => ?_)
  · obtain ⟨d, l, g, c, rfl, _⟩ := h
    rfl
  · obtain ⟨d, l, g, c, rfl, hD, g1, g2, c0, c1, q⟩ := h
    refine ⟨_, (pss_cons (ps_set (i := 3) sc_road.nd rfl (.inr rfl) (pe_op op_add pe_int (pe_call G_pull (hr.mono (by omega)) (by rfl) D_pull.g D_pull.F.kp D_pull.b .nil pass0 (pa_cons (pv 0) (pa_cons (pv 1) pa_nil)))))
      (pss_one (ps_ret (pe_tup (pa_cons (pv 3) (pa_cons (pe_lc (own := [("_law_k", 4)]) (g := gName 4) (by rfl) sc_road.nd (pi_range1 (by rfl) B.range (pa_cons (pe_call G_pull (hr.mono (by omega)) (by rfl) D_pull.g D_pull.F.kp D_pull.b .nil pass0 (pa_cons (pv 0) (pa_cons (pe_op op_add (pv 2) pe_int) pa_nil))) pa_nil)) (blkOk_by (own := [("_law_k", 4)]) (N := N_road) (sc := defScope s_road) (by decide +kernel)) (fun _ _ _ _ _ => (pg_name (i := 4) sc_road.nd rfl (.inl rfl))) (fun _ _ _ _ _ => pts_nil) (fun _ _ _ _ _ => (pe_call G_mating (hr.mono (by omega)) (by rfl) D_mating.g D_mating.F.kp D_mating.b .nil pass0 (pa_cons (pv 0) (pa_cons (pv 3) pa_nil))))) pa_nil)))))), ?_⟩
    refine ⟨.ref d, rfl, .int g, rfl, d, l, g, rfl, hD, g1, by omega, fun v H1 v0 v1 D1 k1 => ?_⟩
    refine ⟨1, v, rfl, rfl, ?_⟩
    refine ⟨.int (1 + v), rfl, .ref d, rfl, .int c, rfl, c, 1, rfl, rfl, d, l, _, rfl, D1, by omega, by omega, fun u H2 u0 u1 D2 k2 => ?_⟩
    refine ⟨u, rfl, by omega, by omega, fun L nL => lc_range (lo := 0) (n := u.toNat) (fun i H3 => ∃ (ts : List Addr) (ms : List M4), Draw H3 d l ∧ (∀ b o, H2 b = some o → b ≠ d → H3 b = some o) ∧ H3 L = some (.lst (ts.map V.ref)) ∧ Mts H3 ts ms ∧ (∀ x ∈ ms, Mrd (1 + v) x) ∧ ms.length = i)
      ⟨[], [], D2.same (same_upd nL), fun b o hb _ => same_upd nL _ _ hb, upd_same, .nil, fun x hx => (by cases hx), rfl⟩ ?_ ?_⟩
    · rintro i H3 hi ⟨ts, ms, D3, kp, eL, hM, hok, rfl⟩
      have nLd := (draw_apart D2 nL).1.symm
      have nLl := (draw_apart D2 nL).2
      refine ⟨rfl, .ref d, rfl, .int (1 + v), rfl, d, l, 1 + v, rfl, D3, by omega, by omega, fun H4 t o p m fl D4 k4 e4 M4' => ?_⟩
      have eL4 := k4.of eL nLd
      have hM4 := hM.keep (D3.keepT k4)
      have hml := hM.length
      have k5 : Keep L H4 (upd H4 L (.lst (ts.map V.ref ++ [.ref t]))) := Keep.upd
      have kt5 : KeepT H4 (upd H4 L (.lst (ts.map V.ref ++ [.ref t]))) := fun b xs hb => k5.of hb (ne_of hb eL4 (fun q => by cases q))
      refine ⟨_, eL4, sz_lt (by rw [List.length_map]; omega), ts ++ [t], ms ++ [(o, p, m, fl)], draw_keepR D4 nLd.symm nLl k5, fun b o' hb nb => ?_, by rw [upd_same, List.map_append]; rfl, Mts.snoc (kt5 _ _ e4) (hM4.keep kt5), fun x hx => ?_, by rw [List.length_append]; rfl⟩
      · exact k5.of (k4.of (kp b o' hb nb) nb) (ne_of_none hb nL)
      · rcases List.mem_append.mp hx with h | h
        · exact hok x h
        · rw [List.mem_singleton.mp h]
          exact M4'
    · rintro H3 ⟨ts, ms, D3, kp, eL, hM, hok, hl⟩
      refine ⟨by show 2 ≤ sizeLine; decide, fun t nt => ?_⟩
      have st := same_upd (H := H3) (o := .tup [.int (1 + v), .ref L]) nt
      have k3 : Keep d H2 H3 := fun b o nb hb => kp b o hb nb
      have nLH : H L = none := by
        cases e : H L with
        | none => rfl
        | some o =>
          have nLd := (draw_apart D2 nL).1.symm
          have := k2.of (k1.of e nLd) nLd
          rw [nL] at this
          cases this
      exact q _ t L (1 + v) ts ms (D3.same st) (((k1.trans k2).trans k3).trans (keepS st)) upd_same nLH (st _ _ eL) (hM.keep fun b xs hb => st _ _ hb) hok (by omega) (by omega) (by omega)
end

/-! ### what stays beside what changes -/
def rNotInT (K : PySem.W.Frag) : R2 := fun x y H Q => ∃ d ds, Dp K H x d ∧ Dp K H y (.tuple ds) ∧ SeqAt.shaped d = true ∧ SeqAt.shaped (.list ds) = true ∧ d.depth ≤ 60 ∧ Q (.bl (!ds.any fun z => PyData.eqv z d)) H
section
open PySem.Spec PyProof.Rows
theorem op_notInT {X : Cx} (hu : X.A.units + 64 < cLine) : OpR X (compareOp .NotIn) (rNotInT X.K) := by
  intro pins s σ H x y v u Q I rx ry h
  obtain ⟨d, ds, hd, he, sd, se, dp, q⟩ := h
  obtain ⟨as, r1⟩ := Dp.reads I d x v hd rx
  obtain ⟨bs, r2⟩ := Dp.reads I (.tuple ds) y u he ry
  exact SeqAt.notIn_tuple_reads r2 r1 (SeqAt.canLay_of_shaped se) (SeqAt.canLay_of_shaped sd) (by have := Nat.min_le_right (PyData.depthAll ds) d.depth; omega) ⟨.bl _, H, I, rfl, q⟩
end
theorem FrS.keepL {C : Addr} {H H' : Hp} {a s q r : Addr} {X : FS} {xs : List V} (h : FrS C H a s q X) (hr : H r = some (.lst xs)) (n : q ≠ r) (k : Keep r H H') : FrS C H' a s q X := by
  have kt : KeepT H H' := fun b ys hb => k.of hb (ne_of hb hr (fun z => by cases z))
  obtain ⟨ps, ⟨⟨dx, ea⟩, ⟨kvs, es, st⟩, eq, up, len⟩, hp⟩ := h
  exact ⟨ps, ⟨⟨dx, k.of ea (ne_of ea hr (fun z => by cases z))⟩, ⟨kvs, k.of es (ne_of es hr (fun z => by cases z)), st.keep kt⟩, k.of eq n, up, len⟩, hp.keep kt⟩
theorem LawAt.keepL {H H' : Hp} {z r l R : Addr} {X : FS} {xs : List V} (la : LawAt H z r l X) (hr : H R = some (.lst xs)) (n : l ≠ R) (k : Keep R H H') : LawAt H' z r l X := by
  have kt : KeepT H H' := fun b ys hb => k.of hb (ne_of hb hr (fun z => by cases z))
  obtain ⟨h1, ⟨kvs, h2, h3⟩, ⟨ps, h4, h5⟩⟩ := la
  exact ⟨kt _ _ h1, ⟨kvs, k.of h2 (ne_of h2 hr (fun q => by cases q)), h3.keep kt⟩, ⟨ps, k.of h4 n, h5.keep kt⟩⟩
theorem FrS.keepD {C : Addr} {H H' : Hp} {a s q d l0 : Addr} {X : FS} (h : FrS C H a s q X) (D : Draw H d l0) (n : q ≠ d) (k : Keep d H H') : FrS C H' a s q X := by
  obtain ⟨ns, i, zz, sd, W⟩ := D
  exact h.keepL W.at_d n k
theorem FrS.extN {C : Addr} {H H' : Hp} {a s q : Addr} {X : FS} (h : FrS C H a s q X) (k : LamX.ExtN H H') : FrS C H' a s q X := by
  obtain ⟨ps, ⟨⟨dx, ea⟩, ⟨kvs, es, st⟩, eq, up, len⟩, hp⟩ := h
  have kt : KeepT H H' := fun b ys hb => k _ _ hb (fun _ z => by cases z)
  exact ⟨ps, ⟨⟨dx, k _ _ ea (fun _ z => by cases z)⟩, ⟨kvs, k _ _ es (fun _ z => by cases z), st.keep kt⟩, k _ _ eq (fun _ z => by cases z), up, len⟩, hp.keep kt⟩
theorem LawAt.extN {H H' : Hp} {z r l : Addr} {X : FS} (la : LawAt H z r l X) (k : LamX.ExtN H H') : LawAt H' z r l X := by
  have kt : KeepT H H' := fun b ys hb => k _ _ hb (fun _ z => by cases z)
  obtain ⟨h1, ⟨kvs, h2, h3⟩, ⟨ps, h4, h5⟩⟩ := la
  exact ⟨kt _ _ h1, ⟨kvs, k _ _ h2 (fun _ z => by cases z), h3.keep kt⟩, ⟨ps, k _ _ h4 (fun _ z => by cases z), h5.keep kt⟩⟩
theorem FrS.offT {C : Addr} {H H' : Hp} {a s q : Addr} {X : FS} (h : FrS C H a s q X) (o : Off a s q H H') : KeepT H H' := h.elim fun _ z => z.1.offT o
theorem LawAt.off {C : Addr} {H H' : Hp} {z r l a s q : Addr} {X Y : FS} (la : LawAt H z r l X) (h : FrS C H a s q Y) (n1 : r ≠ s) (n2 : l ≠ q) (o : Off a s q H H') : LawAt H' z r l X := by
  have kt := h.offT o
  obtain ⟨h1, ⟨kvs, h2, h3⟩, ⟨ps, h4, h5⟩⟩ := la
  obtain ⟨_, ⟨⟨dx, ea⟩, ⟨kvs', es, st⟩, eq, up, len⟩, _⟩ := h
  exact ⟨kt _ _ h1, ⟨kvs, o _ _ h2 (ne_of h2 ea (fun z => by cases z)) n1 (ne_of h2 eq (fun z => by cases z)), h3.keep kt⟩, ⟨ps, o _ _ h4 (ne_of h4 ea (fun z => by cases z)) (ne_of h4 es (fun z => by cases z)) n2, h5.keep kt⟩⟩
theorem FrS.lst_off {C : Addr} {H H' : Hp} {a s q R : Addr} {Y : FS} {xs : List V} (h : FrS C H a s q Y) (hr : H R = some (.lst xs)) (n : R ≠ q) (o : Off a s q H H') : H' R = some (.lst xs) := by
  obtain ⟨_, ⟨⟨dx, ea⟩, ⟨kvs', es, st⟩, eq, up, len⟩, _⟩ := h
  exact o _ _ hr (ne_of hr ea (fun z => by cases z)) (ne_of hr es (fun z => by cases z)) n
theorem FrS.ne_q {C : Addr} {H : Hp} {a s q b : Addr} {Y : FS} (h : FrS C H a s q Y) (n : H b = none) : q ≠ b := by
  obtain ⟨_, ⟨⟨dx, ea⟩, ⟨kvs', es, st⟩, eq, up, len⟩, _⟩ := h
  exact ne_of_none eq n
theorem FrS.ne_s {C : Addr} {H : Hp} {a s q b : Addr} {Y : FS} (h : FrS C H a s q Y) (n : H b = none) : s ≠ b := by
  obtain ⟨_, ⟨⟨dx, ea⟩, ⟨kvs', es, st⟩, eq, up, len⟩, _⟩ := h
  exact ne_of_none es n
theorem LawAt.ne_l {H : Hp} {z r l b : Addr} {X : FS} (la : LawAt H z r l X) (n : H b = none) : l ≠ b := by
  obtain ⟨h1, ⟨kvs, h2, h3⟩, ⟨ps, h4, h5⟩⟩ := la
  exact ne_of_none h4 n
theorem tabs_offS {T : List (Addr × Str)} {C : Addr} {H H' : Hp} {a s q : Addr} {X : FS} (t : LamX.Tabs T H) (h : FrS C H a s q X) (o : Off a s q H H') : LamX.Tabs T H' := fun p hp => by
  obtain ⟨_, ⟨⟨dx, ea⟩, ⟨kvs, es, st⟩, eq, up, len⟩, _⟩ := h
  obtain ⟨qs, h1, h2, h3⟩ := t p hp
  refine ⟨qs, o _ _ h1 (ne_of h1 ea (fun z => by cases z)) (ne_of h1 es (fun z => by cases z)) (ne_of h1 eq (fun z => by cases z)), h2, fun pos cv hc => ?_⟩
  obtain ⟨c, e1, e2⟩ := h3 pos cv hc
  exact ⟨c, e1, o _ _ e2 (ne_of e2 ea (fun z => by unfold LamX.CodeO at z; cases z)) (ne_of e2 es (fun z => by unfold LamX.CodeO at z; cases z)) (ne_of e2 eq (fun z => by unfold LamX.CodeO at z; cases z))⟩
theorem draw_offS {C : Addr} {H H' : Hp} {a s q d l : Addr} {X : FS} (D : Draw H d l) (h : FrS C H a s q X) (o : Off a s q H H') (h1 : d ≠ q) (h2 : l ≠ q) : Draw H' d l := by
  obtain ⟨_, ⟨⟨dx, ea⟩, ⟨kvs, es, st⟩, eq, up, len⟩, _⟩ := h
  obtain ⟨ns, i, z, sd, W⟩ := D
  exact ⟨ns, i, z, sd, { W with at_d := o _ _ W.at_d (ne_of W.at_d ea (fun z => by cases z)) (ne_of W.at_d es (fun z => by cases z)) h1, at_l := o _ _ W.at_l (ne_of W.at_l ea (fun z => by cases z)) (ne_of W.at_l es (fun z => by cases z)) h2 }⟩
/-! ### the numbers of the matings -/
def KbS (S : StL) : Prop := ∀ s ∈ S, 0 ≤ s.1 ∧ s.1 ≤ 100
theorem KbS.drop {S : StL} (h : KbS S) (i : Int) : KbS (sdrop S i) := fun s hs => h s (sdrop_mem hs).1
theorem KbS.put {S : StL} (h : KbS S) (i : Int) (x : M4) : KbS (sput S i x) := fun s hs => by
  obtain ⟨t, ht, e⟩ := List.mem_map.mp hs
  have := h t ht
  by_cases z : t.1 = i
  · rw [if_pos z] at e
    rw [← e]
    exact this
  · rw [if_neg z] at e
    rw [← e]
    exact this
theorem mkS_kb {X X' : FS} (h : KB X) : ∀ {mo : Mo}, mkS X mo = some X' → KB X'
  | .idle i, e => by
    obtain ⟨S, hS, rfl⟩ := Option.map_eq_some_iff.mp (show (idleS X.S i).map (fun S => (⟨X.e, S, X.L⟩ : FS)) = some X' from e)
    unfold idleS at hS
    split at hS
    · split at hS
      · cases hS
        exact KbS.drop h i
      · cases hS
    · cases hS
  | .halve i, e => by
    obtain ⟨S, hS, rfl⟩ := Option.map_eq_some_iff.mp (show (halveS X.S i).map (fun S => (⟨X.e, S, X.L⟩ : FS)) = some X' from e)
    unfold halveS at hS
    split at hS
    · split at hS
      · cases hS
      · split at hS
        · cases hS
          exact KbS.drop h i
        · cases hS
          exact KbS.put h i _
    · cases hS
  | .merge i j, e => by
    obtain ⟨S, hS, rfl⟩ := Option.map_eq_some_iff.mp (show (mergeS X.S i j).map (fun S => (⟨X.e, S, X.L⟩ : FS)) = some X' from e)
    unfold mergeS at hS
    split at hS
    · cases hS
    · split at hS
      · obtain ⟨z, hz, rfl⟩ := Option.map_eq_some_iff.mp hS
        exact KbS.drop (KbS.put h i _) j
      · cases hS
  | .lead j d i, e => by
    obtain ⟨S, hS, rfl⟩ := Option.map_eq_some_iff.mp (show (leadS X.S j d i).map (fun S => (⟨X.e, S, X.L⟩ : FS)) = some X' from e)
    unfold leadS at hS
    split at hS
    · cases hS
    · split at hS
      · obtain ⟨z, hz, rfl⟩ := Option.map_eq_some_iff.mp hS
        exact KbS.put h j _
      · cases hS
  | .fold i m, e => by
    have e' : foldS X i m = some X' := e
    unfold foldS at e'
    split at e'
    · split at e'
      · cases e'
        show KbS (if _ then _ else _)
        split
        · exact KbS.drop h i
        · exact KbS.put h i _
      · cases e'
    · cases e'
  | .bare m, e => by
    have e' : bareS X m = some X' := e
    unfold bareS at e'
    split at e'
    · cases e'
      exact h
    · cases e'
theorem mkS_len {X X' : FS} : ∀ {mo : Mo}, mkS X mo = some X' → X'.L.length ≤ X.L.length + 1
  | .idle i, e => by
    obtain ⟨S, hS, rfl⟩ := Option.map_eq_some_iff.mp (show (idleS X.S i).map (fun S => (⟨X.e, S, X.L⟩ : FS)) = some X' from e)
    exact Nat.le_succ _
  | .halve i, e => by
    obtain ⟨S, hS, rfl⟩ := Option.map_eq_some_iff.mp (show (halveS X.S i).map (fun S => (⟨X.e, S, X.L⟩ : FS)) = some X' from e)
    exact Nat.le_succ _
  | .merge i j, e => by
    obtain ⟨S, hS, rfl⟩ := Option.map_eq_some_iff.mp (show (mergeS X.S i j).map (fun S => (⟨X.e, S, X.L⟩ : FS)) = some X' from e)
    exact Nat.le_succ _
  | .lead j d i, e => by
    obtain ⟨S, hS, rfl⟩ := Option.map_eq_some_iff.mp (show (leadS X.S j d i).map (fun S => (⟨X.e, S, X.L⟩ : FS)) = some X' from e)
    exact Nat.le_succ _
  | .fold i m, e => by
    have e' : foldS X i m = some X' := e
    unfold foldS at e'
    split at e'
    · split at e'
      · cases e'
        show (X.L ++ [_]).length ≤ _
        rw [List.length_append]
        exact Nat.le_refl _
      · cases e'
    · cases e'
  | .bare m, e => by
    have e' : bareS X m = some X' := e
    unfold bareS at e'
    split at e'
    · cases e'
      show (X.L ++ [_]).length ≤ _
      rw [List.length_append]
      exact Nat.le_refl _
    · cases e'
theorem MvS.next {xs : List V} {X X' : FS} {r : Option FS} (h : MvS xs X r) (e : r = some X') (wf : WF X) (kb : KB X) : WF X' ∧ KB X' ∧ X'.L.length ≤ X.L.length + 1 := by
  rcases h.1 with ⟨mo, _, q⟩ | ⟨_, q⟩
  · have q' := q.symm.trans e
    exact ⟨mkS_wf wf q', mkS_kb kb q', mkS_len q'⟩
  · rw [q] at e
    cases e
/-! ### the first state -/
theorem sc_ok {n k : Int} {x : M4} (h : Mrd n x) (n1 : n ≤ 30) (k1 : 1 ≤ k) (k2 : k ≤ 1000000000000000) : Mok (n * k) (scX k x) := by
  obtain ⟨hm, h1, h3, h2, h4, hf⟩ := h
  have a1 := Int.mul_nonneg h1 (show (0 : Int) ≤ k by omega)
  have a2 := Int.mul_nonneg h2 (show (0 : Int) ≤ k by omega)
  have a3 : 1 * 1 ≤ x.2.2.1 * k := Int.mul_le_mul hm k1 (by decide) (by omega)
  have a4 := Int.mul_le_mul_of_nonneg_right h3 (show (0 : Int) ≤ k by omega)
  have a5 := Int.mul_le_mul_of_nonneg_right h4 (show (0 : Int) ≤ k by omega)
  rw [Int.add_mul] at a4 a5
  exact ⟨hf, by show 1 ≤ x.2.2.1 * k; omega, a1, a2, a4, a5⟩
theorem en_mem : ∀ (k : Nat) (l : List M4) (s : Int × M4), s ∈ en k l → ∃ x ∈ l, s.2 = nrm x
  | k, y :: r, s, h => by
    rcases List.mem_cons.mp h with rfl | h
    · exact ⟨y, List.mem_cons_self, rfl⟩
    · obtain ⟨x, hx, e⟩ := en_mem (k + 1) r s h
      exact ⟨x, List.mem_cons_of_mem _ hx, e⟩
theorem wf_first {n : Int} {ms : List M4} (n0 : 0 ≤ n) (n1 : n ≤ 1000000000000000000) (h : ∀ x ∈ ms, Mok n x) (hl : ms.length ≤ 24) : WF ⟨n, en 0 ms, []⟩ ∧ KB ⟨n, en 0 ms, []⟩ := by
  refine ⟨⟨n0, n1, fun s hs => ?_, en_up 0 ms, by show (en 0 ms).length ≤ 24; rw [en_length]; exact hl⟩, fun s hs => ?_⟩
  · obtain ⟨x, hx, e⟩ := en_mem 0 ms s hs
    obtain ⟨hf, hm, h1, h2, h3, h4⟩ := h x hx
    rw [e]
    exact nrm_ok h1 h2 hm h3 h4 hf
  · have := en_ge 0 ms s hs
    constructor <;> omega
/-! ### moves as data -/
def vD : V → PyData
  | .int i => .int i
  | .bl b => .bool b
  | .str y => .str y
  | _ => .none
theorem mv_rp {y : V} (h : MV y) (H : Hp) (n : Nat) : Rp H n y (vD y) := by
  rcases h with (⟨i, rfl, _⟩ | ⟨b, rfl⟩) | ⟨z, rfl, _⟩
  · exact .int _ _
  · exact .bl _ _
  · exact .str _ _
theorem mv_rps (H : Hp) (n : Nat) : ∀ {xs : List V}, (∀ y ∈ xs, MV y) → RpAll H n xs (xs.map vD)
  | [], _ => .nil _
  | y :: r, h => .cons (mv_rp (h y List.mem_cons_self) H n) (mv_rps H n fun z hz => h z (List.mem_cons_of_mem _ hz))
/-- what is due of a move -/
def dueD (r : Option FS) (xs : List V) : PyData := match r with
  | none => .tuple [.str "BadMove", .tuple (xs.map vD)]
  | some _ => .tuple [.str "", .none]

/-! ### a goal made small: what comes behind is a name -/
theorem seq_tail {A B : TS} {e : Ends} {σ : L2.St} {H : Hp} (h : ∀ T : TS, (∀ e σ H, B e σ H → T e σ H) → tSeq A T e σ H) : tSeq A B e σ H := h B fun _ _ _ z => z
theorem cut_tail {A B : TS} {e : Ends} {σ : L2.St} {H : Hp} (h : ∀ T : TS, (∀ e σ H, B e σ H → T e σ H) → C8.tCut A T e σ H) : C8.tCut A B e σ H := h B fun _ _ _ z => z
theorem end_tail {A : TS} {e : Ends} {σ : L2.St} {H : Hp} (h : ∀ e' : Ends, (∀ σ H, e.nx σ H → e'.nx σ H) → (∀ v H, e.rt v H → e'.rt v H) → A e' σ H) : A e σ H := h e (fun _ _ z => z) fun _ _ z => z

/-! ### families: what hangs together by pairs -/
inductive Fam (R : Int → Int → Prop) : Int → Int → Prop
  | rel {p q : Int} : R p q → Fam R p q
  | refl {p : Int} : Fam R p p
  | symm {p q : Int} : Fam R p q → Fam R q p
  | trans {p q r : Int} : Fam R p q → Fam R q r → Fam R p r
theorem Fam.map {R T : Int → Int → Prop} {g : Int → Int} (h : ∀ p q, R p q → Fam T (g p) (g q)) {p q : Int} (k : Fam R p q) : Fam T (g p) (g q) := by
  induction k with
  | rel r => exact h _ _ r
  | refl => exact .refl
  | symm _ ih => exact ih.symm
  | trans _ _ i1 i2 => exact i1.trans i2
theorem Fam.mono {R T : Int → Int → Prop} (h : ∀ p q, R p q → Fam T p q) {p q : Int} (k : Fam R p q) : Fam T p q := Fam.map (g := id) h k
theorem Fam.of_eq {R : Int → Int → Prop} {p q : Int} (h : p = q) : Fam R p q := by
  rw [h]
  exact .refl
/-- who stands in no pair is alone -/
theorem Fam.alone {R : Int → Int → Prop} {a : Int} (h : ∀ p q, R p q → (p = a ↔ q = a)) {p q : Int} (k : Fam R p q) : p = a ↔ q = a := by
  induction k with
  | rel r => exact h _ _ r
  | refl => exact Iff.rfl
  | symm _ ih => exact ih.symm
  | trans _ _ i1 i2 => exact i1.trans i2
/-- families stay inside a stretch that holds all pairs -/
theorem Fam.inside {R : Int → Int → Prop} {P : Int → Prop} (h : ∀ p q, R p q → (P p ↔ P q)) {p q : Int} (k : Fam R p q) : P p ↔ P q := by
  induction k with
  | rel r => exact h _ _ r
  | refl => exact Iff.rfl
  | symm _ ih => exact ih.symm
  | trans _ _ i1 i2 => exact i1.trans i2
/-- the pairs of a mating -/
def Pr (x : M4) (p q : Int) : Prop := ∃ k : Int, 0 ≤ k ∧ k < x.2.2.1 ∧ p = x.1 + k ∧ q = (if x.2.2.2 = 1 then x.2.1 + x.2.2.1 - 1 - k else x.2.1 + k)
theorem Pr.back {x : M4} {p q : Int} (h : Pr (nrm x) p q) : Pr x p q ∨ Pr x q p := by
  obtain ⟨k, h0, h1, e1, e2⟩ := h
  have h1' : k < x.2.2.1 := h1
  have e1' : p = (if x.2.1 < x.1 then x.2.1 else x.1) + k := e1
  have e2' : q = (if x.2.2.2 = 1 then (if x.2.1 < x.1 then x.1 else x.2.1) + x.2.2.1 - 1 - k else (if x.2.1 < x.1 then x.1 else x.2.1) + k) := e2
  by_cases c : x.2.1 < x.1
  · rw [if_pos c] at e1'
    rw [if_pos c] at e2'
    right
    by_cases f : x.2.2.2 = 1
    · rw [if_pos f] at e2'
      exact ⟨x.2.2.1 - 1 - k, by omega, by omega, by omega, by rw [if_pos f]; omega⟩
    · rw [if_neg f] at e2'
      exact ⟨k, h0, h1', by omega, by rw [if_neg f]; omega⟩
  · rw [if_neg c] at e1'
    rw [if_neg c] at e2'
    exact .inl ⟨k, h0, h1', e1', e2'⟩
theorem Pr.there {x : M4} {p q : Int} (h : Pr x p q) : Pr (nrm x) p q ∨ Pr (nrm x) q p := by
  obtain ⟨k, h0, h1, e1, e2⟩ := h
  by_cases c : x.2.1 < x.1
  · right
    by_cases f : x.2.2.2 = 1
    · rw [if_pos f] at e2
      refine ⟨x.2.2.1 - 1 - k, by omega, by show _ < x.2.2.1; omega, ?_, ?_⟩
      · show q = (if x.2.1 < x.1 then x.2.1 else x.1) + _
        rw [if_pos c]
        omega
      · show p = (if x.2.2.2 = 1 then (if x.2.1 < x.1 then x.1 else x.2.1) + x.2.2.1 - 1 - _ else _)
        rw [if_pos f, if_pos c]
        omega
    · rw [if_neg f] at e2
      refine ⟨k, h0, h1, ?_, ?_⟩
      · show q = (if x.2.1 < x.1 then x.2.1 else x.1) + _
        rw [if_pos c]
        omega
      · show p = (if x.2.2.2 = 1 then _ else (if x.2.1 < x.1 then x.1 else x.2.1) + _)
        rw [if_neg f, if_pos c]
        omega
  · left
    refine ⟨k, h0, h1, ?_, ?_⟩
    · show p = (if x.2.1 < x.1 then x.2.1 else x.1) + _
      rw [if_neg c]
      omega
    · show q = (if x.2.2.2 = 1 then (if x.2.1 < x.1 then x.1 else x.2.1) + x.2.2.1 - 1 - k else (if x.2.1 < x.1 then x.1 else x.2.1) + k)
      rw [if_neg c]
      exact e2
/-- the pairs of a standing -/
def Gn (S : StL) (p q : Int) : Prop := ∃ s ∈ S, Pr s.2 p q
theorem keys_one : ∀ {S : StL}, (S.map (·.1)).Pairwise (· < ·) → ∀ {i : Int} {x : M4} {s : Int × M4}, sget S i = some x → s ∈ S → s.1 = i → s.2 = x
  | t :: r, h, i, x, s, e, hs, hi => by
    have e' : (if t.1 = i then some t.2 else sget r i) = some x := e
    obtain ⟨h1, h2⟩ := List.pairwise_cons.mp (show (t.1 :: r.map (·.1)).Pairwise (· < ·) from h)
    by_cases c : t.1 = i
    · rw [if_pos c] at e'
      rcases List.mem_cons.mp hs with rfl | hs
      · exact Option.some.inj e'
      · have := h1 s.1 (List.mem_map_of_mem hs)
        omega
    · rw [if_neg c] at e'
      rcases List.mem_cons.mp hs with rfl | hs
      · exact absurd hi c
      · exact keys_one h2 e' hs hi
theorem sput_self {S : StL} {i : Int} {x y : M4} (h : sget S i = some x) : (i, y) ∈ sput S i y := List.mem_map.mpr ⟨(i, x), sget_in h, by rw [if_pos rfl]⟩
theorem sput_other {S : StL} {i : Int} {y : M4} {s : Int × M4} (h : s ∈ S) (n : s.1 ≠ i) : s ∈ sput S i y := List.mem_map.mpr ⟨s, h, by rw [if_neg n]⟩
theorem sdrop_other {S : StL} {i : Int} {s : Int × M4} (h : s ∈ S) (n : s.1 ≠ i) : s ∈ sdrop S i := List.mem_filter.mpr ⟨h, decide_eq_true n⟩
theorem Gn.at {S : StL} {i : Int} {x : M4} {p q : Int} (h : sget S i = some x) (k : Pr x p q) : Fam (Gn S) p q := .rel ⟨_, sget_in h, k⟩
/-- steps of s inside a stretch: s times j -/
theorem steps_up {R : Int → Int → Prop} {a z s : Int} (hs : 0 ≤ s) (h : ∀ p, a ≤ p → p + s < z → Fam R p (p + s)) (p : Int) (hp : a ≤ p) : ∀ j : Nat, p + s * j < z → Fam R p (p + s * j)
  | 0, _ => Fam.of_eq (by simp)
  | j + 1, hj => by
    have e : s * ((j + 1 : Nat) : Int) = s * j + s := by
      rw [Int.natCast_add, Int.mul_add]
      simp
    have n : 0 ≤ s * (j : Int) := Int.mul_nonneg hs (by omega)
    rw [e] at hj ⊢
    have k := steps_up hs h p hp j (by omega)
    have k2 := h (p + s * j) (by omega) (by omega)
    rw [show p + (s * ↑j + s) = p + s * ↑j + s by omega]
    exact k.trans k2
/-- places of one stretch whose distance is many steps -/
theorem steps_many {R : Int → Int → Prop} {a z s : Int} (hs : 0 ≤ s) (h : ∀ p, a ≤ p → p + s < z → Fam R p (p + s)) {p q : Int} (hp : a ≤ p) (hpq : p ≤ q) (hq : q < z) (d : s ∣ q - p) : Fam R p q := by
  obtain ⟨c, hc⟩ := d
  by_cases s0 : s = 0
  · rw [s0, Int.zero_mul] at hc
    exact Fam.of_eq (by omega)
  · have c0 : 0 ≤ c := by
      by_cases n : 0 ≤ c
      · exact n
      · have : s * c < 0 := Int.mul_neg_of_pos_of_neg (by omega) (by omega)
        omega
    obtain ⟨j, rfl⟩ := Int.eq_ofNat_of_zero_le c0
    have k := steps_up hs h p hp j (by omega)
    rw [show p + s * (j : Int) = q by omega] at k
    exact k
theorem steps_any {R : Int → Int → Prop} {a z s : Int} (hs : 0 ≤ s) (h : ∀ p, a ≤ p → p + s < z → Fam R p (p + s)) {p q : Int} (hp : a ≤ p) (hp2 : p < z) (hq : a ≤ q) (hq2 : q < z) (d : s ∣ q - p) : Fam R p q := by
  by_cases c : p ≤ q
  · exact steps_many hs h hp c hq2 d
  · refine (steps_many hs h hq (by omega) hp2 ?_).symm
    rw [show p - q = -(q - p) by omega]
    exact Int.dvd_neg.mpr d
/-- a stretch with two steps, as long as both together, has their greatest common step -/
theorem two_steps {R : Int → Int → Prop} : ∀ (n s t : Nat) (u v : Int), s + t ≤ n → 0 < s → 0 < t → (s : Int) + t ≤ v - u →
    (∀ p, u ≤ p → p + s < v → Fam R p (p + s)) → (∀ p, u ≤ p → p + t < v → Fam R p (p + t)) → ∀ p, u ≤ p → p + (Nat.gcd s t : Nat) < v → Fam R p (p + (Nat.gcd s t : Nat))
  | 0, s, t, u, v, hn, h0, h1, _, _, _, _, _, _ => by omega
  | n + 1, s, t, u, v, hn, h0, h1, hw, hs, ht, p, hp, hg => by
    rcases Nat.lt_trichotomy s t with c | c | c
    · have g : Nat.gcd s (t - s) = Nat.gcd s t := by
        rw [Nat.gcd_sub_self_right (Nat.le_of_lt c)]
      have gle : Nat.gcd s t ≤ t - s := by
        rw [← g]
        exact Nat.gcd_le_right _ (by omega)
      have gle2 : Nat.gcd s t ≤ s := Nat.gcd_le_left _ h0
      have ih := two_steps n s (t - s) u (v - s) (by omega) h0 (by omega) (by omega) (fun p h1 h2 => hs p h1 (by omega)) (fun p h1 h2 => by
        have a := ht p h1 (by omega)
        have b := hs (p + ((t - s : Nat) : Int)) (by omega) (by omega)
        rw [show p + ((t - s : Nat) : Int) + (s : Int) = p + t by omega] at b
        exact a.trans b.symm)
      rw [g] at ih
      by_cases q : p + (Nat.gcd s t : Nat) < v - s
      · exact ih p hp q
      · have a := ih (p - s) (by omega) (by omega)
        have b := hs (p - s) (by omega) (by omega)
        have d := hs (p - s + (Nat.gcd s t : Nat)) (by omega) (by omega)
        rw [show p - (s : Int) + s = p by omega] at b
        rw [show p - (s : Int) + (Nat.gcd s t : Nat) + s = p + (Nat.gcd s t : Nat) by omega] at d
        exact (b.symm.trans a).trans d
    · subst c
      rw [Nat.gcd_self] at hg ⊢
      exact hs p hp hg
    · have g : Nat.gcd (s - t) t = Nat.gcd s t := by
        rw [Nat.gcd_comm, Nat.gcd_sub_self_right (Nat.le_of_lt c), Nat.gcd_comm]
      have gle : Nat.gcd s t ≤ s - t := by
        rw [← g]
        exact Nat.gcd_le_left _ (by omega)
      have gle2 : Nat.gcd s t ≤ t := Nat.gcd_le_right _ h1
      have ih := two_steps n (s - t) t u (v - t) (by omega) (by omega) h1 (by omega) (fun p h1 h2 => by
        have a := hs p h1 (by omega)
        have b := ht (p + ((s - t : Nat) : Int)) (by omega) (by omega)
        rw [show p + ((s - t : Nat) : Int) + (t : Int) = p + s by omega] at b
        exact a.trans b.symm) (fun p h1 h2 => ht p h1 (by omega))
      rw [g] at ih
      by_cases q : p + (Nat.gcd s t : Nat) < v - t
      · exact ih p hp q
      · have a := ih (p - t) (by omega) (by omega)
        have b := ht (p - t) (by omega) (by omega)
        have d := ht (p - t + (Nat.gcd s t : Nat)) (by omega) (by omega)
        rw [show p - (t : Int) + t = p by omega] at b
        rw [show p - (t : Int) + (Nat.gcd s t : Nat) + t = p + (Nat.gcd s t : Nat) by omega] at d
        exact (b.symm.trans a).trans d
/-- a mating that is not turned, as steps in its stretch -/
theorem Pr.steps {x : M4} (hf : ¬ x.2.2.2 = 1) {R : Int → Int → Prop} (h : ∀ p q, Pr x p q → Fam R p q) : ∀ p, x.1 ≤ p → p + (x.2.1 - x.1) < x.2.1 + x.2.2.1 → Fam R p (p + (x.2.1 - x.1)) := fun p h1 h2 =>
  h _ _ ⟨p - x.1, by omega, by omega, by omega, by rw [if_neg hf]; omega⟩
theorem Pr.of_steps {x : M4} (hf : ¬ x.2.2.2 = 1) {R : Int → Int → Prop} (h : ∀ p, x.1 ≤ p → p + (x.2.1 - x.1) < x.2.1 + x.2.2.1 → Fam R p (p + (x.2.1 - x.1))) : ∀ p q, Pr x p q → Fam R p q := fun p q ⟨k, h0, h1, e1, e2⟩ => by
  rw [if_neg hf] at e2
  have := h p (by omega) (by omega)
  rw [show p + (x.2.1 - x.1) = q by omega] at this
  exact this

/-! ### moves keep families -/
theorem fam_put {S : StL} (up : (S.map (·.1)).Pairwise (· < ·)) {i : Int} {x y : M4} (hx : sget S i = some x) (h1 : ∀ p q, Pr y p q → Fam (Gn S) p q) (h2 : ∀ p q, Pr x p q → Fam (Gn (sput S i y)) p q) (p q : Int) : Fam (Gn S) p q ↔ Fam (Gn (sput S i y)) p q := by
  constructor
  · refine Fam.mono fun p q ⟨s, hs, k⟩ => ?_
    by_cases c : s.1 = i
    · rw [keys_one up hx hs c] at k
      exact h2 p q k
    · exact .rel ⟨s, sput_other hs c, k⟩
  · refine Fam.mono fun p q ⟨s, hs, k⟩ => ?_
    rcases sput_mem hs with ⟨_, e⟩ | ⟨hs, _⟩
    · rw [e] at k
      exact h1 p q k
    · exact .rel ⟨s, hs, k⟩
theorem fam_drop {S : StL} (up : (S.map (·.1)).Pairwise (· < ·)) {i : Int} {x : M4} (hx : sget S i = some x) (h2 : ∀ p q, Pr x p q → Fam (Gn (sdrop S i)) p q) (p q : Int) : Fam (Gn S) p q ↔ Fam (Gn (sdrop S i)) p q := by
  constructor
  · refine Fam.mono fun p q ⟨s, hs, k⟩ => ?_
    by_cases c : s.1 = i
    · rw [keys_one up hx hs c] at k
      exact h2 p q k
    · exact .rel ⟨s, sdrop_other hs c, k⟩
  · exact Fam.mono fun p q ⟨s, hs, k⟩ => .rel ⟨s, (sdrop_mem hs).1, k⟩
/-- a mating of half the length has the same pairs -/
theorem halve_fam {x : M4} {e : Int} (hx : Rok e x) (hf : x.2.2.2 = 1) (hl : ¬ xLead x = true) {R : Int → Int → Prop} (h : ∀ p q, Pr (x.1, x.2.1 + x.2.2.1 - hlf x.1 x.2.1 x.2.2.1, hlf x.1 x.2.1 x.2.2.1, x.2.2.2) p q → Fam R p q) (p q : Int) (k : Pr x p q) : Fam R p q := by
  have g1 := hx.op
  have e0 : hlf x.1 x.2.1 x.2.2.1 = (x.2.1 + x.2.2.1 - x.1) / 2 := rfl
  obtain ⟨j, h0, h1, e1, e2⟩ := k
  rw [if_pos hf] at e2
  generalize hlf x.1 x.2.1 x.2.2.1 = t at h e0
  by_cases c : j < t
  · exact h _ _ ⟨j, h0, c, e1, by
      show q = (if x.2.2.2 = 1 then x.2.1 + x.2.2.1 - t + t - 1 - j else _)
      rw [if_pos hf]
      omega⟩
  · by_cases d : p = q
    · exact Fam.of_eq d
    · refine (h q p ⟨q - x.1, by omega, by show q - x.1 < t; omega, by show q = x.1 + (q - x.1); omega, ?_⟩).symm
      show p = (if x.2.2.2 = 1 then x.2.1 + x.2.2.1 - t + t - 1 - (q - x.1) else _)
      rw [if_pos hf]
      omega
theorem half_fam {x : M4} {e : Int} (hx : Rok e x) (hf : x.2.2.2 = 1) (hl : ¬ xLead x = true) {p q : Int} (k : Pr (x.1, x.2.1 + x.2.2.1 - hlf x.1 x.2.1 x.2.2.1, hlf x.1 x.2.1 x.2.2.1, x.2.2.2) p q) : Pr x p q := by
  have hl' : ¬ x.2.2.1 ≤ x.2.1 - x.1 := fun z => hl (by
    show (if x.2.2.2 = 1 then decide (x.2.2.1 ≤ x.2.1 - x.1) else _) = true
    rw [if_pos hf]
    exact decide_eq_true z)
  have e0 : hlf x.1 x.2.1 x.2.2.1 = (x.2.1 + x.2.2.1 - x.1) / 2 := rfl
  have g1 := hx.op
  obtain ⟨j, h0, h1, e1, e2⟩ := k
  generalize hlf x.1 x.2.1 x.2.2.1 = t at h1 e2 e0
  have h1' : j < t := h1
  have e1' : p = x.1 + j := e1
  have e2' : q = (if x.2.2.2 = 1 then x.2.1 + x.2.2.1 - t + t - 1 - j else x.2.1 + x.2.2.1 - t + j) := e2
  rw [if_pos hf] at e2'
  exact ⟨j, h0, by omega, e1', by rw [if_pos hf]; omega⟩
/-- two repeats that share enough, as one -/
theorem merge_fam {x y z : M4} (h : mrg x y = some z) {R : Int → Int → Prop} (hx : ∀ p q, Pr x p q → Fam R p q) (hy : ∀ p q, Pr y p q → Fam R p q) (p q : Int) (k : Pr z p q) : Fam R p q := by
  unfold mrg at h
  split at h
  · rename_i hc
    obtain ⟨r1, r2, hs⟩ := hc
    cases h
    obtain ⟨f1, a1, a2⟩ := isRep_of r1
    obtain ⟨f2, b1, b2⟩ := isRep_of r2
    have sx := Pr.steps (x := x) (by omega) hx
    have sy := Pr.steps (x := y) (by omega) hy
    have hg1 : 1 ≤ Nat.gcd (x.2.1 - x.1).toNat (y.2.1 - y.1).toNat := Nat.gcd_pos_of_pos_left _ (by omega)
    have hg2 : Nat.gcd (x.2.1 - x.1).toNat (y.2.1 - y.1).toNat ≤ (x.2.1 - x.1).toNat := Nat.gcd_le_left _ (by omega)
    have hg3 : Nat.gcd (x.2.1 - x.1).toNat (y.2.1 - y.1).toNat ≤ (y.2.1 - y.1).toNat := Nat.gcd_le_right _ (by omega)
    have hs' : x.2.1 - x.1 + (y.2.1 - y.1) ≤ imin (x.2.1 + x.2.2.1) (y.2.1 + y.2.2.1) - imax x.1 y.1 := hs
    have sX : ((x.2.1 - x.1).toNat : Int) = x.2.1 - x.1 := by omega
    have sY : ((y.2.1 - y.1).toNat : Int) = y.2.1 - y.1 := by omega
    have fw := two_steps (R := R) _ (x.2.1 - x.1).toNat (y.2.1 - y.1).toNat (imax x.1 y.1) (imin (x.2.1 + x.2.2.1) (y.2.1 + y.2.2.1)) (Nat.le_refl _) (by omega) (by omega) (by omega) (fun p h1 h2 => by
      rw [sX] at h2 ⊢
      unfold imin imax at *
      refine sx p ?_ ?_
      · split at h1 <;> omega
      · split at h2 <;> omega) (fun p h1 h2 => by
      rw [sY] at h2 ⊢
      unfold imin imax at *
      refine sy p ?_ ?_
      · split at h1 <;> omega
      · split at h2 <;> omega)
    obtain ⟨j, j0, j1, e1, e2⟩ := k
    generalize hgg : Nat.gcd (x.2.1 - x.1).toNat (y.2.1 - y.1).toNat = g at hg1 hg2 hg3 j1 e2 fw
    have e1' : p = imin x.1 y.1 + j := e1
    have e2' : q = imin x.1 y.1 + g + j := e2
    have j1' : j < imax (x.2.1 + x.2.2.1) (y.2.1 + y.2.2.1) - imin x.1 y.1 - g := j1
    have qe : q = p + g := by omega
    -- p and q both in the stretch of x, or both in the stretch of y
    have both : (x.1 ≤ p ∧ q < x.2.1 + x.2.2.1) ∨ (y.1 ≤ p ∧ q < y.2.1 + y.2.2.1) := by
      unfold imin imax at *
      split at hs' <;> split at hs' <;> split at e1' <;> split at j1' <;> omega
    -- the window
    have win : ∀ {c z s : Int}, 1 ≤ s → (g : Int) ≤ s → (∀ p, c ≤ p → p + s < z → Fam R p (p + s)) → c ≤ imax x.1 y.1 → imin (x.2.1 + x.2.2.1) (y.2.1 + y.2.2.1) ≤ z → s + g ≤ imin (x.2.1 + x.2.2.1) (y.2.1 + y.2.2.1) - imax x.1 y.1 → c ≤ p → q < z → Fam R p q := by
      intro c z s s1 gs st cu vz wd cp qz
      generalize imax x.1 y.1 = u at fw cu wd
      generalize imin (x.2.1 + x.2.2.1) (y.2.1 + y.2.2.1) = v at fw vz wd
      have m0 := Int.emod_nonneg (p - u) (show s ≠ 0 by omega)
      have m1 := Int.emod_lt_of_pos (p - u) (show 0 < s by omega)
      have d1 : s ∣ u + (p - u) % s - p := by
        refine ⟨-((p - u) / s), ?_⟩
        have := Int.mul_ediv_add_emod (p - u) s
        rw [Int.mul_neg]
        omega
      generalize (p - u) % s = r at m0 m1 d1
      have a := steps_any (by omega) st (p := p) (q := u + r) cp (by omega) (by omega) (by omega) d1
      have b := steps_any (by omega) st (p := q) (q := u + r + g) (by omega) qz (by omega) (by omega) (by rw [show u + r + (g : Int) - q = u + r - p by omega]; exact d1)
      have m := fw (u + r) (by omega) (by omega)
      exact (a.trans m).trans b.symm
    rcases both with ⟨w1, w2⟩ | ⟨w1, w2⟩
    · refine win (c := x.1) (z := x.2.1 + x.2.2.1) (s := x.2.1 - x.1) a1 (by omega) sx ?_ ?_ (by omega) w1 w2
      · unfold imax
        split <;> omega
      · unfold imin
        split <;> omega
    · refine win (c := y.1) (z := y.2.1 + y.2.2.1) (s := y.2.1 - y.1) b1 (by omega) sy ?_ ?_ (by omega) w1 w2
      · unfold imax
        split <;> omega
      · unfold imin
        split <;> omega
  · cases h
theorem merged_fam {x y z : M4} (h : mrg x y = some z) {R : Int → Int → Prop} (hz : ∀ p q, Pr z p q → Fam R p q) : (∀ p q, Pr x p q → Fam R p q) ∧ ∀ p q, Pr y p q → Fam R p q := by
  unfold mrg at h
  split at h
  · rename_i hc
    obtain ⟨r1, r2, hs⟩ := hc
    cases h
    obtain ⟨f1, a1, a2⟩ := isRep_of r1
    obtain ⟨f2, b1, b2⟩ := isRep_of r2
    have d1 : ((Nat.gcd (x.2.1 - x.1).toNat (y.2.1 - y.1).toNat : Nat) : Int) ∣ x.2.1 - x.1 := by
      have := Int.natCast_dvd_natCast.mpr (Nat.gcd_dvd_left (x.2.1 - x.1).toNat (y.2.1 - y.1).toNat)
      rw [show ((x.2.1 - x.1).toNat : Int) = x.2.1 - x.1 by omega] at this
      exact this
    have d2 : ((Nat.gcd (x.2.1 - x.1).toNat (y.2.1 - y.1).toNat : Nat) : Int) ∣ y.2.1 - y.1 := by
      have := Int.natCast_dvd_natCast.mpr (Nat.gcd_dvd_right (x.2.1 - x.1).toNat (y.2.1 - y.1).toNat)
      rw [show ((y.2.1 - y.1).toNat : Int) = y.2.1 - y.1 by omega] at this
      exact this
    have sz := Pr.steps (x := (_, _, _, 0)) (show ¬ (0 : Int) = 1 by decide) hz
    have sz' : ∀ p, imin x.1 y.1 ≤ p → p + (Nat.gcd (x.2.1 - x.1).toNat (y.2.1 - y.1).toNat : Nat) < imax (x.2.1 + x.2.2.1) (y.2.1 + y.2.2.1) → Fam R p (p + (Nat.gcd (x.2.1 - x.1).toNat (y.2.1 - y.1).toNat : Nat)) := fun p h1 h2 => by
      have := sz p h1 (by
        show p + (imin x.1 y.1 + (Nat.gcd (x.2.1 - x.1).toNat (y.2.1 - y.1).toNat : Nat) - imin x.1 y.1) < imin x.1 y.1 + (Nat.gcd (x.2.1 - x.1).toNat (y.2.1 - y.1).toNat : Nat) + (imax (x.2.1 + x.2.2.1) (y.2.1 + y.2.2.1) - imin x.1 y.1 - (Nat.gcd (x.2.1 - x.1).toNat (y.2.1 - y.1).toNat : Nat))
        omega)
      rw [show p + ((imin x.1 y.1 + (Nat.gcd (x.2.1 - x.1).toNat (y.2.1 - y.1).toNat : Nat), imax (x.2.1 + x.2.2.1) (y.2.1 + y.2.2.1) - imin x.1 y.1 - (Nat.gcd (x.2.1 - x.1).toNat (y.2.1 - y.1).toNat : Nat), (0 : Int)).1 - imin x.1 y.1) = p + (Nat.gcd (x.2.1 - x.1).toNat (y.2.1 - y.1).toNat : Nat) from by
        show p + (imin x.1 y.1 + (Nat.gcd (x.2.1 - x.1).toNat (y.2.1 - y.1).toNat : Nat) - imin x.1 y.1) = _
        omega] at this
      exact this
    generalize Nat.gcd (x.2.1 - x.1).toNat (y.2.1 - y.1).toNat = g at d1 d2 sz'
    refine ⟨Pr.of_steps (by omega) fun p h1 h2 => ?_, Pr.of_steps (by omega) fun p h1 h2 => ?_⟩
    · refine steps_many (s := g) (by omega) sz' ?_ (by omega) ?_ (by rw [show p + (x.2.1 - x.1) - p = x.2.1 - x.1 by omega]; exact d1)
      · unfold imin
        split <;> omega
      · unfold imax
        split <;> omega
    · refine steps_many (s := g) (by omega) sz' ?_ (by omega) ?_ (by rw [show p + (y.2.1 - y.1) - p = y.2.1 - y.1 by omega]; exact d2)
      · unfold imin
        split <;> omega
      · unfold imax
        split <;> omega
  · cases h

/-! ### leads, folds and bare places keep families -/
/-- what the leader w says of the place q -/
def toW (w : M4) (q : Int) : Int := if w.2.2.2 = 1 then w.1 + w.2.1 + w.2.2.1 - 1 - q else w.1 + (q - w.1) % (w.2.1 - w.1)
theorem toW_fam {w : M4} {e : Int} (hw : Rok e w) (hl : xLead w = true) {R : Int → Int → Prop} (h : ∀ p q, Pr w p q → Fam R p q) {q : Int} (h1 : w.1 ≤ q) (h2 : q < w.2.1 + w.2.2.1) (h3 : w.2.2.2 = 1 → w.2.1 ≤ q) : Fam R (toW w q) q ∧ 0 ≤ toW w q ∧ toW w q < w.2.1 := by
  have g1 := hw.o0
  have g3 := hw.m1
  unfold toW
  by_cases f : w.2.2.2 = 1
  · rw [if_pos f]
    have := lead_tu hl f
    have h3 := h3 f
    exact ⟨h _ _ ⟨w.2.1 + w.2.2.1 - 1 - q, by omega, by omega, by omega, by rw [if_pos f]; omega⟩, by omega, by omega⟩
  · rw [if_neg f]
    have s1 := lead_st hl f
    have m0 := Int.emod_nonneg (q - w.1) (show w.2.1 - w.1 ≠ 0 by omega)
    have m1 := Int.emod_lt_of_pos (q - w.1) (show 0 < w.2.1 - w.1 by omega)
    have st := Pr.steps f h
    have d : w.2.1 - w.1 ∣ q - (w.1 + (q - w.1) % (w.2.1 - w.1)) := by
      refine ⟨(q - w.1) / (w.2.1 - w.1), ?_⟩
      have := Int.mul_ediv_add_emod (q - w.1) (w.2.1 - w.1)
      omega
    generalize (q - w.1) % (w.2.1 - w.1) = r at m0 m1 d
    exact ⟨steps_any (by omega) st (by omega) (by omega) h1 h2 d, by omega, by omega⟩
/-- a stretch led by w, place by place -/
theorem ledB_fam {w : M4} {e at_ n : Int} (hw : Rok e w) (hl : xLead w = true) {R : Int → Int → Prop} (h : ∀ p q, Pr w p q → Fam R p q) (h1 : w.2.1 ≤ at_) (h2 : at_ + n ≤ w.2.1 + w.2.2.1) {k : Int} (k0 : 0 ≤ k) (k1 : k < n) : Fam R (ledB w at_ n + (if w.2.2.2 = 1 then n - 1 - k else k)) (at_ + k) := by
  have g1 := hw.o0
  have g2 := hw.op
  unfold ledB
  by_cases f : w.2.2.2 = 1
  · rw [if_pos f, if_pos f]
    exact h _ _ ⟨w.2.2.1 - 1 - (at_ - w.2.1) - k, by omega, by omega, by omega, by rw [if_pos f]; omega⟩
  · rw [if_neg f, if_neg f]
    have s1 := lead_st hl f
    have m0 := Int.emod_nonneg (at_ - w.1) (show w.2.1 - w.1 ≠ 0 by omega)
    have m1 := Int.emod_lt_of_pos (at_ - w.1) (show 0 < w.2.1 - w.1 by omega)
    have d : w.2.1 - w.1 ∣ at_ - (w.1 + (at_ - w.1) % (w.2.1 - w.1)) := by
      refine ⟨(at_ - w.1) / (w.2.1 - w.1), ?_⟩
      have := Int.mul_ediv_add_emod (at_ - w.1) (w.2.1 - w.1)
      omega
    generalize (at_ - w.1) % (w.2.1 - w.1) = r at m0 m1 d
    exact steps_any (by omega) (Pr.steps f h) (by omega) (by omega) (by omega) (by omega) (by rw [show at_ + k - (w.1 + r + k) = at_ - (w.1 + r) by omega]; exact d)
/-- the pairs before a lead and behind it -/
theorem lead_fam {x w y : M4} {e d : Int} (hx : Rok e x) (hw : Rok e w) (h : leadX x w d = some y) {R : Int → Int → Prop} (hR : ∀ p q, Pr w p q → Fam R p q) : ((∀ p q, Pr x p q → Fam R p q) → ∀ p q, Pr y p q → Fam R p q) ∧ ((∀ p q, Pr y p q → Fam R p q) → ∀ p q, Pr x p q → Fam R p q) := by
  unfold leadX at h
  by_cases hc : (d = 0 ∨ d = 1) ∧ xLead w = true ∧ w.2.1 ≤ (if d = 1 then x.2.1 else x.1) ∧ (if d = 1 then x.2.1 else x.1) + x.2.2.1 ≤ w.2.1 + w.2.2.1
  · rw [if_pos hc] at h
    obtain ⟨hd, hl, h1, h2⟩ := hc
    cases h
    have fx := hx.f01
    have fw := hw.f01
    by_cases z : d = 1
    · rw [if_pos z] at h1 h2
      simp only [if_pos z]
      have lb : ∀ k : Int, 0 ≤ k → k < x.2.2.1 → Fam R (ledB w x.2.1 x.2.2.1 + (if w.2.2.2 = 1 then x.2.2.1 - 1 - k else k)) (x.2.1 + k) := fun k k0 k1 => ledB_fam hw hl hR h1 h2 k0 k1
      generalize ledB w x.2.1 x.2.2.1 = b at lb
      -- index by index
      have ix : ∀ k : Int, 0 ≤ k → k < x.2.2.1 → Fam R (if xorP x.2.2.2 w.2.2.2 = 1 then b + x.2.2.1 - 1 - k else b + k) (if x.2.2.2 = 1 then x.2.1 + x.2.2.1 - 1 - k else x.2.1 + k) := fun k k0 k1 => by
        unfold xorP
        rcases fx with fx | fx <;> rcases fw with fw | fw <;> rw [fx, fw]
        · have := lb k k0 k1
          rw [fw] at this
          exact this
        · have := lb k k0 k1
          rw [fw] at this
          rw [show b + (if (1 : Int) = 1 then x.2.2.1 - 1 - k else k) = b + x.2.2.1 - 1 - k by rw [if_pos rfl]; omega] at this
          exact this
        · have := lb (x.2.2.1 - 1 - k) (by omega) (by omega)
          rw [fw] at this
          rw [show b + (if (0 : Int) = 1 then x.2.2.1 - 1 - (x.2.2.1 - 1 - k) else x.2.2.1 - 1 - k) = b + x.2.2.1 - 1 - k by rw [if_neg (by decide)]; omega, show x.2.1 + (x.2.2.1 - 1 - k) = x.2.1 + x.2.2.1 - 1 - k by omega] at this
          exact this
        · have := lb (x.2.2.1 - 1 - k) (by omega) (by omega)
          rw [fw] at this
          rw [show b + (if (1 : Int) = 1 then x.2.2.1 - 1 - (x.2.2.1 - 1 - k) else x.2.2.1 - 1 - k) = b + k by rw [if_pos rfl]; omega, show x.2.1 + (x.2.2.1 - 1 - k) = x.2.1 + x.2.2.1 - 1 - k by omega] at this
          exact this
      constructor
      · intro g p q k
        have old : ∀ p q, Pr (x.1, b, x.2.2.1, xorP x.2.2.2 w.2.2.2) p q → Fam R p q := fun p q ⟨k, k0, k1, e1, e2⟩ => by
          have a := g (x.1 + k) _ ⟨k, k0, k1, rfl, rfl⟩
          have c := ix k k0 k1
          rw [show p = x.1 + k from e1, show q = (if xorP x.2.2.2 w.2.2.2 = 1 then b + x.2.2.1 - 1 - k else b + k) from e2]
          exact a.trans c.symm
        rcases Pr.back k with k | k
        · exact old p q k
        · exact (old q p k).symm
      · intro g p q ⟨k, k0, k1, e1, e2⟩
        have pr : Pr (x.1, b, x.2.2.1, xorP x.2.2.2 w.2.2.2) (x.1 + k) (if xorP x.2.2.2 w.2.2.2 = 1 then b + x.2.2.1 - 1 - k else b + k) := ⟨k, k0, k1, rfl, rfl⟩
        have c := ix k k0 k1
        have a : Fam R (x.1 + k) (if xorP x.2.2.2 w.2.2.2 = 1 then b + x.2.2.1 - 1 - k else b + k) := by
          rcases Pr.there pr with u | u
          · exact g _ _ u
          · exact (g _ _ u).symm
        rw [e1, e2]
        exact a.trans c
    · rw [if_neg z] at h1 h2
      simp only [if_neg z]
      have lb : ∀ k : Int, 0 ≤ k → k < x.2.2.1 → Fam R (ledB w x.1 x.2.2.1 + (if w.2.2.2 = 1 then x.2.2.1 - 1 - k else k)) (x.1 + k) := fun k k0 k1 => ledB_fam hw hl hR h1 h2 k0 k1
      generalize ledB w x.1 x.2.2.1 = b at lb
      -- the pair at k of the one is the pair at k or n - 1 - k of the other
      have one : ∀ k : Int, 0 ≤ k → k < x.2.2.1 → Pr (b, x.2.1, x.2.2.1, xorP x.2.2.2 w.2.2.2) (b + (if w.2.2.2 = 1 then x.2.2.1 - 1 - k else k)) (if x.2.2.2 = 1 then x.2.1 + x.2.2.1 - 1 - k else x.2.1 + k) := fun k k0 k1 => by
        refine ⟨if w.2.2.2 = 1 then x.2.2.1 - 1 - k else k, by split <;> omega, by show _ < x.2.2.1; split <;> omega, rfl, ?_⟩
        show _ = (if xorP x.2.2.2 w.2.2.2 = 1 then x.2.1 + x.2.2.1 - 1 - _ else x.2.1 + _)
        unfold xorP
        rcases fx with fx | fx <;> rcases fw with fw | fw <;> rw [fx, fw] <;> simp <;> omega
      constructor
      · intro g p q k
        have old : ∀ p q, Pr (b, x.2.1, x.2.2.1, xorP x.2.2.2 w.2.2.2) p q → Fam R p q := fun p q ⟨k, k0, k1, e1, e2⟩ => by
          have k1' : k < x.2.2.1 := k1
          have e1' : p = b + k := e1
          have e2' : q = (if xorP x.2.2.2 w.2.2.2 = 1 then x.2.1 + x.2.2.1 - 1 - k else x.2.1 + k) := e2
          have key : ∃ j : Int, 0 ≤ j ∧ j < x.2.2.1 ∧ p = b + (if w.2.2.2 = 1 then x.2.2.1 - 1 - j else j) ∧ q = (if x.2.2.2 = 1 then x.2.1 + x.2.2.1 - 1 - j else x.2.1 + j) := by
            refine ⟨if w.2.2.2 = 1 then x.2.2.1 - 1 - k else k, by split <;> omega, by split <;> omega, ?_, ?_⟩
            · rw [e1']
              split <;> omega
            · rw [e2']
              unfold xorP
              rcases fx with fx | fx <;> rcases fw with fw | fw <;> rw [fx, fw] <;> simp <;> omega
          obtain ⟨j, j0, j1, p1, p2⟩ := key
          rw [p1, p2]
          exact (lb j j0 j1).trans (g _ _ ⟨j, j0, j1, rfl, rfl⟩)
        rcases Pr.back k with k | k
        · exact old p q k
        · exact (old q p k).symm
      · intro g p q ⟨k, k0, k1, e1, e2⟩
        rw [e1, e2]
        refine (lb k k0 k1).symm.trans ?_
        rcases Pr.there (one k k0 k1) with u | u
        · exact g _ _ u
        · exact (g _ _ u).symm
  · rw [if_neg hc] at h
    cases h
/-- what stays of a leader that was cut has pairs of the leader -/
theorem cut_fam {x : M4} {e m : Int} (hx : Rok e x) (hl : xLead x = true) (h1 : x.2.1 ≤ m) (h3 : m < x.2.1 + x.2.2.1) {p q : Int} (k : Pr (cutX x m) p q) : Pr x p q := by
  obtain ⟨j, j0, j1, e1, e2⟩ := k
  have j1' : j < m - x.2.1 := j1
  have e1' : p = (if x.2.2.2 = 1 then x.1 + x.2.2.1 - (m - x.2.1) else x.1) + j := e1
  have e2' : q = (if x.2.2.2 = 1 then x.2.1 + (m - x.2.1) - 1 - j else x.2.1 + j) := e2
  by_cases f : x.2.2.2 = 1
  · rw [if_pos f] at e1' e2'
    exact ⟨x.2.2.1 - (m - x.2.1) + j, by omega, by omega, by omega, by rw [if_pos f]; omega⟩
  · rw [if_neg f] at e1' e2'
    exact ⟨j, by omega, by omega, by omega, by rw [if_neg f]; omega⟩
/-- a leader's pairs, seen below the cut -/
theorem fold_fam {x : M4} {e m : Int} (hx : Rok e x) (hl : xLead x = true) (h1 : x.2.1 ≤ m) (h3 : m < x.2.1 + x.2.2.1) {R : Int → Int → Prop} (hR : m - x.2.1 ≠ 0 → ∀ p q, Pr (cutX x m) p q → Fam R p q) (p q : Int) (k : Pr x p q) : Fam R (if p < m then p else toW x p) (if q < m then q else toW x q) := by
  obtain ⟨j, j0, j1, e1, e2⟩ := k
  have g2 := hx.op
  unfold toW
  by_cases f : x.2.2.2 = 1
  · rw [if_pos f] at e2
    rw [if_pos f, if_pos f]
    have l := lead_tu hl f
    rw [if_pos (show p < m by omega)]
    by_cases c : q < m
    · rw [if_pos c]
      refine hR (by omega) p q ⟨m - 1 - q, by omega, by show _ < m - x.2.1; omega, ?_, ?_⟩
      · show p = (if x.2.2.2 = 1 then x.1 + x.2.2.1 - (m - x.2.1) else x.1) + _
        rw [if_pos f]
        omega
      · show q = (if x.2.2.2 = 1 then x.2.1 + (m - x.2.1) - 1 - _ else _)
        rw [if_pos f]
        omega
    · rw [if_neg c]
      exact Fam.of_eq (by omega)
  · rw [if_neg f] at e2
    rw [if_neg f, if_neg f]
    have s1 := lead_st hl f
    by_cases c : q < m
    · rw [if_pos c, if_pos (show p < m by omega)]
      refine hR (by omega) p q ⟨j, j0, by show _ < m - x.2.1; omega, ?_, ?_⟩
      · show p = (if x.2.2.2 = 1 then x.1 + x.2.2.1 - (m - x.2.1) else x.1) + _
        rw [if_neg f]
        omega
      · show q = (if x.2.2.2 = 1 then x.2.1 + (m - x.2.1) - 1 - _ else _)
        rw [if_neg f]
        show q = x.2.1 + j
        omega
    · rw [if_neg c]
      have same : (q - x.1) % (x.2.1 - x.1) = (p - x.1) % (x.2.1 - x.1) := by
        rw [show q - x.1 = p - x.1 + (x.2.1 - x.1) by omega, Int.add_emod_right]
      rw [same]
      by_cases c2 : p < m
      · rw [if_pos c2]
        have m0 := Int.emod_nonneg (p - x.1) (show x.2.1 - x.1 ≠ 0 by omega)
        have m1 := Int.emod_lt_of_pos (p - x.1) (show 0 < x.2.1 - x.1 by omega)
        have d : x.2.1 - x.1 ∣ p - (x.1 + (p - x.1) % (x.2.1 - x.1)) := by
          refine ⟨(p - x.1) / (x.2.1 - x.1), ?_⟩
          have := Int.mul_ediv_add_emod (p - x.1) (x.2.1 - x.1)
          omega
        have le : (p - x.1) % (x.2.1 - x.1) ≤ p - x.1 := by
          have := Int.mul_ediv_add_emod (p - x.1) (x.2.1 - x.1)
          have h0 : 0 ≤ (x.2.1 - x.1) * ((p - x.1) / (x.2.1 - x.1)) := Int.mul_nonneg (by omega) (Int.ediv_nonneg (by omega) (by omega))
          omega
        generalize (p - x.1) % (x.2.1 - x.1) = r at m0 m1 d le
        refine (steps_many (a := x.1) (z := m) (s := x.2.1 - x.1) (by omega) (fun u u1 u2 => ?_) (by omega) (by omega) c2 d).symm
        refine hR (by omega) u _ ⟨u - x.1, by omega, by show _ < m - x.2.1; omega, ?_, ?_⟩
        · show u = (if x.2.2.2 = 1 then x.1 + x.2.2.1 - (m - x.2.1) else x.1) + _
          rw [if_neg f]
          omega
        · show _ = (if x.2.2.2 = 1 then x.2.1 + (m - x.2.1) - 1 - _ else x.2.1 + _)
          rw [if_neg f]
          omega
      · rw [if_neg c2]
        exact .refl

/-! ### what the moves told stays true of the families at the beginning -/
def evM : Ev → Int
  | .bare m _ => m
  | .fold m _ _ _ _ => m
def evE : Ev → Int
  | .bare _ e => e
  | .fold _ e _ _ _ => e
/-- where a fold leads a place -/
def evTo (e lo st f p : Int) : Int := if f = 1 then lo + e - 1 - p else lo + (p - lo) % (if st > 1 then st else 1)
/-- an event is right of the families by R -/
def Good (R : Int → Int → Prop) : Ev → Prop
  | .bare m e => 0 ≤ m ∧ ∀ p, m ≤ p → p < e → ∀ q, 0 ≤ q → Fam R p q → p ≤ q
  | .fold m e lo st f => (f = 0 ∨ f = 1) ∧ 0 ≤ m ∧ ∀ p, m ≤ p → p < e → 0 ≤ evTo e lo st f p ∧ evTo e lo st f p < m ∧ Fam R (evTo e lo st f p) p
/-- the events, the last first, from the top t up to n -/
def Chn (R : Int → Int → Prop) (n : Int) : Int → List Ev → Prop
  | t, [] => t = n
  | t, v :: r => evM v = t ∧ t ≤ evE v ∧ Good R v ∧ Chn R n (evE v) r
/-- an event that a move tells of the road X -/
def GoodX (X : FS) : Ev → Prop
  | .bare m e => 0 ≤ m ∧ ∀ p, m ≤ p → p < e → ∀ q, Fam (Gn X.S) p q → q = p
  | .fold m e lo st f => (f = 0 ∨ f = 1) ∧ 0 ≤ m ∧ ∀ p, m ≤ p → p < e → 0 ≤ evTo e lo st f p ∧ evTo e lo st f p < m ∧ Fam (Gn X.S) (evTo e lo st f p) p
def Same1 (X X' : FS) : Prop := ∀ p q : Int, 0 ≤ p → p < X'.e → 0 ≤ q → q < X'.e → (Fam (Gn X.S) p q ↔ Fam (Gn X'.S) p q)
def Told1 (X X' : FS) : Prop := (X'.e = X.e ∧ X'.L = X.L) ∨ ∃ v, X'.L = X.L ++ [v] ∧ evM v = X'.e ∧ evE v = X.e ∧ X'.e < X.e ∧ GoodX X v
theorem mkS_fam {X X' : FS} (wf : WF X) : ∀ {mo : Mo}, mkS X mo = some X' → Same1 X X' ∧ Told1 X X'
  | .idle i, q => by
    obtain ⟨S, hS, rfl⟩ := Option.map_eq_some_iff.mp (show (idleS X.S i).map (fun S => (⟨X.e, S, X.L⟩ : FS)) = some X' from q)
    refine ⟨?_, .inl ⟨rfl, rfl⟩⟩
    unfold idleS at hS
    split at hS
    · rename_i x hx
      split at hS
      · rename_i hc
        cases hS
        refine fun p q _ _ _ _ => fam_drop wf.up hx (fun p q ⟨k, k0, k1, e1, e2⟩ => Fam.of_eq ?_) p q
        rw [if_neg (by omega)] at e2
        omega
      · cases hS
    · cases hS
  | .halve i, q => by
    obtain ⟨S, hS, rfl⟩ := Option.map_eq_some_iff.mp (show (halveS X.S i).map (fun S => (⟨X.e, S, X.L⟩ : FS)) = some X' from q)
    refine ⟨?_, .inl ⟨rfl, rfl⟩⟩
    unfold halveS at hS
    split at hS
    · rename_i x hx
      have rk := wf.at hx
      split at hS
      · cases hS
      · rename_i hc
        have hf : x.2.2.2 = 1 := by
          rcases rk.f01 with z | z
          · exact absurd (.inl z) hc
          · exact z
        have hl : ¬ xLead x = true := fun z => hc (.inr z)
        split at hS
        · rename_i hz
          cases hS
          refine fun p q _ _ _ _ => fam_drop wf.up hx (halve_fam rk hf hl fun p q ⟨k, k0, k1, _⟩ => ?_) p q
          have : k < hlf x.1 x.2.1 x.2.2.1 := k1
          omega
        · rename_i hz
          cases hS
          have k := half_ok rk hz
          rw [nrm_id k.op]
          exact fun p q _ _ _ _ => fam_put wf.up hx (fun p q k => Gn.at hx (half_fam rk hf hl k)) (halve_fam rk hf hl fun p q k => .rel ⟨_, sput_self hx, k⟩) p q
    · cases hS
  | .merge i j, q => by
    obtain ⟨S, hS, rfl⟩ := Option.map_eq_some_iff.mp (show (mergeS X.S i j).map (fun S => (⟨X.e, S, X.L⟩ : FS)) = some X' from q)
    refine ⟨?_, .inl ⟨rfl, rfl⟩⟩
    unfold mergeS at hS
    split at hS
    · cases hS
    · rename_i hij
      split at hS
      · rename_i x y hx hy
        obtain ⟨z, hz, rfl⟩ := Option.map_eq_some_iff.mp hS
        have k := mrg_ok (wf.at hx) (wf.at hy) hz
        rw [nrm_id k.op]
        have nw := merged_fam hz (R := Gn (sdrop (sput X.S i z) j)) fun p q k => .rel ⟨_, sdrop_other (sput_self hx) hij, k⟩
        intro p q _ _ _ _
        constructor
        · refine Fam.mono fun p q ⟨s, hs, k⟩ => ?_
          by_cases c : s.1 = i
          · rw [keys_one wf.up hx hs c] at k
            exact nw.1 p q k
          · by_cases c2 : s.1 = j
            · rw [keys_one wf.up hy hs c2] at k
              exact nw.2 p q k
            · exact .rel ⟨s, sdrop_other (sput_other hs c) c2, k⟩
        · refine Fam.mono fun p q ⟨s, hs, k⟩ => ?_
          rcases sput_mem (sdrop_mem hs).1 with ⟨_, e⟩ | ⟨hs, _⟩
          · rw [e] at k
            exact merge_fam hz (fun p q k => Gn.at hx k) (fun p q k => Gn.at hy k) p q k
          · exact .rel ⟨s, hs, k⟩
      · cases hS
  | .lead j d i, q => by
    obtain ⟨S, hS, rfl⟩ := Option.map_eq_some_iff.mp (show (leadS X.S j d i).map (fun S => (⟨X.e, S, X.L⟩ : FS)) = some X' from q)
    refine ⟨?_, .inl ⟨rfl, rfl⟩⟩
    unfold leadS at hS
    split at hS
    · cases hS
    · rename_i hij
      split at hS
      · rename_i x w hx hw
        obtain ⟨y, hy, rfl⟩ := Option.map_eq_some_iff.mp hS
        have w1 := lead_fam (wf.at hx) (wf.at hw) hy (R := Gn X.S) fun p q k => Gn.at hw k
        have w2 := lead_fam (wf.at hx) (wf.at hw) hy (R := Gn (sput X.S j y)) fun p q k => .rel ⟨_, sput_other (sget_in hw) hij, k⟩
        exact fun p q _ _ _ _ => fam_put wf.up hx (w1.1 fun p q k => Gn.at hx k) (w2.2 fun p q k => .rel ⟨_, sput_self hx, k⟩) p q
      · cases hS
  | .fold i m, q => by
    have q' : foldS X i m = some X' := q
    unfold foldS at q'
    split at q'
    · rename_i x hx
      have rk := wf.at hx
      split at q'
      · rename_i hc
        obtain ⟨hl, h1, h2, h3, h4⟩ := hc
        cases q'
        have g0 := rk.o0
        have g1 := rk.op
        have h3' : m < x.2.1 + x.2.2.1 := by omega
        have others : ∀ s ∈ X.S, s.1 ≠ i → ∀ p q, Pr s.2 p q → p < m ∧ q < m := fun s hs hn p q ⟨k, k0, k1, e1, e2⟩ => by
          have r := wf.r s hs
          have z := rch_ge hs (b := some i) (fun q => hn (Option.some.inj q).symm)
          have := r.op
          refine ⟨by omega, ?_⟩
          split at e2 <;> omega
        refine ⟨?_, .inr ⟨_, rfl, rfl, rfl, h3, rk.f01, by omega, fun p p1 p2 => ?_⟩⟩
        · -- the new pairs, and the old ones seen below the cut
          have put : ∀ S' : StL, (∀ s ∈ X.S, s.1 ≠ i → s ∈ S') → (m - x.2.1 ≠ 0 → (i, cutX x m) ∈ S') → (∀ s ∈ S', s ∈ X.S ∨ (s.2 = cutX x m)) → ∀ p q : Int, p < m → q < m → (Fam (Gn X.S) p q ↔ Fam (Gn S') p q) := by
            intro S' a1 a2 a3 p q pm qm
            constructor
            · intro k
              have := Fam.map (g := fun p => if p < m then p else toW x p) (T := Gn S') (fun p q ⟨s, hs, k⟩ => by
                by_cases c : s.1 = i
                · rw [keys_one wf.up hx hs c] at k
                  exact fold_fam rk hl h2 h3' (fun ne p q k => .rel ⟨_, a2 ne, k⟩) p q k
                · obtain ⟨o1, o2⟩ := others s hs c p q k
                  simp only [if_pos o1, if_pos o2]
                  exact .rel ⟨s, a1 s hs c, k⟩) k
              simp only [if_pos pm, if_pos qm] at this
              exact this
            · refine Fam.mono fun p q ⟨s, hs, k⟩ => ?_
              rcases a3 s hs with h | h
              · exact .rel ⟨s, h, k⟩
              · rw [h] at k
                exact Gn.at hx (cut_fam rk hl h2 h3' k)
          intro p q p0 pm q0 qm
          by_cases z : m - x.2.1 = 0
          · simp only [if_pos z]
            exact put _ (fun s hs n => sdrop_other hs n) (fun n => absurd z n) (fun s hs => .inl (sdrop_mem hs).1) p q pm qm
          · simp only [if_neg z]
            refine put _ (fun s hs n => sput_other hs n) (fun n => sput_self hx) (fun s hs => ?_) p q pm qm
            rcases sput_mem hs with ⟨_, e⟩ | ⟨hs, _⟩
            · exact .inr e
            · exact .inl hs
        · have tw := toW_fam rk hl (R := Gn X.S) (fun p q k => Gn.at hx k) (q := p) (by omega) (by omega) (fun _ => by omega)
          have eq : evTo X.e x.1 (if x.2.2.2 = 1 then 0 else x.2.1 - x.1) x.2.2.2 p = toW x p := by
            unfold evTo toW
            by_cases f : x.2.2.2 = 1
            · rw [if_pos f, if_pos f]
              omega
            · rw [if_neg f, if_neg f, if_neg f]
              have s1 := lead_st hl f
              rw [show (if x.2.1 - x.1 > 1 then x.2.1 - x.1 else 1) = x.2.1 - x.1 by split <;> omega]
          rw [eq]
          exact ⟨tw.2.1, by omega, tw.1⟩
      · cases q'
    · cases q'
  | .bare m, q => by
    have q' : bareS X m = some X' := q
    unfold bareS at q'
    split at q'
    · rename_i hc
      cases q'
      refine ⟨fun p q _ _ _ _ => Iff.rfl, .inr ⟨_, rfl, rfl, rfl, hc.2, Int.le_trans (rch_0 _ _) hc.1, fun p p1 p2 q k => ?_⟩⟩
      refine (Fam.alone (a := p) (fun u v ⟨s, hs, j, j0, j1, e1, e2⟩ => ?_) k).mp rfl
      have z : s.2.2.1 + s.2.2.2.1 ≤ rch X.S none := rch_ge hs (b := none) (fun q => by cases q)
      have r := (wf.r s hs).op
      have z2 := hc.1
      have a : u < p := by omega
      have b : v < p := by split at e2 <;> omega
      exact ⟨fun h => by omega, fun h => by omega⟩
    · cases q'
/-- what holds of a road X that was made from X0 by moves -/
structure KptX (X0 X : FS) : Prop where
  fam : ∀ p q : Int, 0 ≤ p → p < X.e → 0 ≤ q → q < X.e → (Fam (Gn X0.S) p q ↔ Fam (Gn X.S) p q)
  chn : Chn (Gn X0.S) X0.e X.e X.L.reverse
theorem KptX.first (X0 : FS) (h : X0.L = []) : KptX X0 X0 := ⟨fun _ _ _ _ _ _ => Iff.rfl, by rw [h]; rfl⟩
theorem KptX.next {X0 X X' : FS} {mo : Mo} (h : KptX X0 X) (wf : WF X) (e : mkS X mo = some X') : KptX X0 X' := by
  obtain ⟨s, t⟩ := mkS_fam wf e
  have le : X'.e ≤ X.e := by
    rcases t with ⟨e, _⟩ | ⟨_, _, _, _, e, _⟩ <;> omega
  refine ⟨fun p q p0 p1 q0 q1 => (h.fam p q p0 (by omega) q0 (by omega)).trans (s p q p0 p1 q0 q1), ?_⟩
  rcases t with ⟨e1, e2⟩ | ⟨v, e1, e2, e3, e4, g⟩
  · rw [e1, e2]
    exact h.chn
  · rw [e1, List.reverse_append]
    refine ⟨e2, by omega, ?_, by rw [e3]; exact h.chn⟩
    cases v with
    | bare m x =>
      have e3' : x = X.e := e3
      have e2' : m = X'.e := e2
      refine ⟨g.1, fun p p1 p2 q q0 k => ?_⟩
      by_cases c : q < X.e
      · have gg := g.1
        have := g.2 p p1 p2 q ((h.fam p q (by omega) (by omega) q0 c).mp k)
        omega
      · omega
    | fold m x lo st f =>
      have e3' : x = X.e := e3
      have e2' : m = X'.e := e2
      refine ⟨g.1, g.2.1, fun p p1 p2 => ?_⟩
      obtain ⟨a1, a2, a3⟩ := g.2.2 p p1 p2
      have g2 := g.2.1
      exact ⟨a1, a2, (h.fam _ _ a1 (by omega) (by omega) (by omega)).mpr a3⟩

/-! ### heads of families: joined by pairs, each head not above its place -/
/-- one step to the head -/
def Hd (hs : List Int) (p q : Int) : Prop := 0 ≤ p ∧ hs[p.toNat]? = some q
def rt (hs : List Int) : Nat → Int → Int
  | 0, p => p
  | k + 1, p => match hs[p.toNat]? with
    | some q => if q = p then p else rt hs k q
    | none => p
def Hok (hs : List Int) : Prop := ∀ (i : Nat) (q : Int), hs[i]? = some q → 0 ≤ q ∧ q ≤ i
theorem Hok.at {hs : List Int} (h : Hok hs) {p q : Int} (p0 : 0 ≤ p) (e : hs[p.toNat]? = some q) : 0 ≤ q ∧ q ≤ p := by
  have := h _ _ e
  omega
theorem rt_step {hs : List Int} {k : Nat} {p q : Int} (e : hs[p.toNat]? = some q) : rt hs (k + 1) p = if q = p then p else rt hs k q := by
  show (match hs[p.toNat]? with
    | some q => if q = p then p else rt hs k q
    | none => p) = _
  rw [e]
theorem rt_fam {hs : List Int} (h : Hok hs) : ∀ (k : Nat) (p : Int), 0 ≤ p → Fam (Hd hs) p (rt hs k p)
  | 0, p, _ => .refl
  | k + 1, p, p0 => by
    cases e : hs[p.toNat]? with
    | none =>
      show Fam _ p (match hs[p.toNat]? with
        | some q => if q = p then p else rt hs k q
        | none => p)
      rw [e]
      exact .refl
    | some q =>
      rw [rt_step e]
      split
      · exact .refl
      · exact (Fam.rel ⟨p0, e⟩).trans (rt_fam h k q (h.at p0 e).1)
/-- with turns enough a head is found, and it is the same with more -/
theorem rt_end {hs : List Int} (h : Hok hs) : ∀ (k : Nat) (p : Int), 0 ≤ p → p < k → p < hs.length → 0 ≤ rt hs k p ∧ rt hs k p ≤ p ∧ hs[(rt hs k p).toNat]? = some (rt hs k p) ∧ ∀ j : Nat, p < j → rt hs j p = rt hs k p
  | 0, p, p0, pk, _ => by omega
  | k + 1, p, p0, pk, pn => by
    have lt : p.toNat < hs.length := by omega
    have e := List.getElem?_eq_getElem lt
    have hq := h.at p0 e
    generalize hs[p.toNat] = q at e hq
    have other : ∀ j : Nat, p < j → rt hs j p = if q = p then p else rt hs (j - 1) q := fun j hj => by
      obtain ⟨i, rfl⟩ : ∃ i, j = i + 1 := ⟨j - 1, by omega⟩
      exact rt_step e
    rw [rt_step e]
    by_cases c : q = p
    · rw [if_pos c]
      exact ⟨p0, Int.le_refl _, by rw [← c] at e ⊢; rw [c] at e ⊢; exact e, fun j hj => by rw [other j hj, if_pos c]⟩
    · rw [if_neg c]
      obtain ⟨a1, a2, a3, a4⟩ := rt_end h k q hq.1 (by omega) (by omega)
      exact ⟨a1, by omega, a3, fun j hj => by rw [other j hj, if_neg c]; exact a4 _ (by omega)⟩
theorem rt_one {hs : List Int} (h : Hok hs) {p q : Int} (k : Hd hs p q) : rt hs hs.length p = rt hs hs.length q := by
  obtain ⟨p0, e⟩ := k
  have lt : p.toNat < hs.length := (List.getElem?_eq_some_iff.mp e).1
  have hq := h.at p0 e
  obtain ⟨_, _, _, a4⟩ := rt_end h hs.length p p0 (by omega) (by omega)
  obtain ⟨_, _, _, b4⟩ := rt_end h hs.length q hq.1 (by omega) (by omega)
  rw [← a4 (hs.length + 1) (by omega), rt_step e]
  split
  · rename_i c
    rw [c]
    exact (a4 (hs.length) (by omega) ▸ (by
      have : rt hs (hs.length + 1) p = p := by rw [rt_step e, if_pos c]
      rw [← a4 (hs.length + 1) (by omega), this]))
  · rfl
theorem rt_all {hs : List Int} (h : Hok hs) {p q : Int} (k : Fam (Hd hs) p q) : rt hs hs.length p = rt hs hs.length q := by
  induction k with
  | rel r => exact rt_one h r
  | refl => rfl
  | symm _ ih => exact ih.symm
  | trans _ _ i1 i2 => exact i1.trans i2
/-- the families of a list of pairs -/
def Rl (ps : List (Int × Int)) (p q : Int) : Prop := (p, q) ∈ ps
/-- two heads joined -/
theorem join_heads {hs : List Int} (h : Hok hs) {a b lo hi : Int} (a0 : 0 ≤ a) (a1 : a < hs.length) (b0 : 0 ≤ b) (b1 : b < hs.length) (e : (lo = rt hs hs.length a ∧ hi = rt hs hs.length b) ∨ (lo = rt hs hs.length b ∧ hi = rt hs hs.length a)) (le : lo ≤ hi) : 0 ≤ lo ∧ hi < hs.length ∧ Hok (hs.set hi.toNat lo) ∧ ∀ (ps : List (Int × Int)), (∀ p q, Fam (Hd hs) p q ↔ Fam (Rl ps) p q) → ∀ p q, Fam (Hd (hs.set hi.toNat lo)) p q ↔ Fam (Rl (ps ++ [(a, b)])) p q := by
  obtain ⟨x1, x2, x3, _⟩ := rt_end h hs.length a a0 a1 a1
  obtain ⟨y1, y2, y3, _⟩ := rt_end h hs.length b b0 b1 b1
  have fa := rt_fam h hs.length a a0
  have fb := rt_fam h hs.length b b0
  have lo0 : 0 ≤ lo := by rcases e with e | e <;> omega
  have hi1 : hi < hs.length := by rcases e with e | e <;> omega
  have fx : hs[hi.toNat]? = some hi := by
    rcases e with ⟨_, e⟩ | ⟨_, e⟩
    · rw [e]
      exact y3
    · rw [e]
      exact x3
  have join : ∀ {R : Int → Int → Prop}, (∀ p q, Fam (Hd hs) p q → Fam R p q) → Fam R a b → Fam R hi lo := fun {R} m ab => by
    rcases e with ⟨e1, e2⟩ | ⟨e1, e2⟩
    · rw [e1, e2]
      exact ((m _ _ fb).symm.trans ab.symm).trans (m _ _ fa)
    · rw [e1, e2]
      exact ((m _ _ fa).symm.trans ab).trans (m _ _ fb)
  have joinB : ∀ {R : Int → Int → Prop}, (∀ p q, Fam (Hd hs) p q → Fam R p q) → Fam R hi lo → Fam R a b := fun {R} m hl => by
    rcases e with ⟨e1, e2⟩ | ⟨e1, e2⟩
    · rw [e1, e2] at hl
      exact ((m _ _ fa).trans hl.symm).trans (m _ _ fb).symm
    · rw [e1, e2] at hl
      exact ((m _ _ fa).trans hl).trans (m _ _ fb).symm
  refine ⟨lo0, hi1, fun i q he => ?_, fun ps hp p q => ?_⟩
  · rw [List.getElem?_set] at he
    split at he
    · rename_i c
      split at he
      · cases he
        omega
      · cases he
    · exact h i q he
  · have up : ∀ p q, Fam (Hd hs) p q → Fam (Hd (hs.set hi.toNat lo)) p q := fun p q k => Fam.mono (fun p q ⟨p0, k⟩ => by
      by_cases c : p = hi
      · rw [c] at k
        rw [fx] at k
        cases k
        exact Fam.of_eq c
      · refine .rel ⟨p0, ?_⟩
        rw [List.getElem?_set_ne (by omega)]
        exact k) k
    constructor
    · refine Fam.mono fun p q ⟨p0, k⟩ => ?_
      have m : ∀ p q, Fam (Hd hs) p q → Fam (Rl (ps ++ [(a, b)])) p q := fun p q k => Fam.mono (fun p q k => .rel (List.mem_append_left _ k)) ((hp p q).mp k)
      by_cases c : p = hi
      · rw [c, List.getElem?_set_self (by omega)] at k
        cases k
        rw [c]
        exact join m (.rel (List.mem_append_right _ List.mem_cons_self))
      · rw [List.getElem?_set_ne (by omega)] at k
        exact m p q (.rel ⟨p0, k⟩)
    · refine Fam.mono fun p q k => ?_
      rcases List.mem_append.mp k with k | k
      · exact up p q ((hp p q).mpr (.rel k))
      · cases List.mem_singleton.mp k
        refine joinB up (.rel ⟨by omega, ?_⟩)
        exact List.getElem?_set_self (by omega)
/-- heads at the beginning -/
def hd0 (n : Nat) : List Int := (List.range n).map fun (k : Nat) => (k : Int)
theorem hd0_at {n i : Nat} {q : Int} (h : (hd0 n)[i]? = some q) : q = i := by
  unfold hd0 at h
  rw [List.getElem?_map] at h
  obtain ⟨k, hk, rfl⟩ := Option.map_eq_some_iff.mp h
  obtain ⟨lt, e⟩ := List.getElem?_eq_some_iff.mp hk
  rw [List.getElem_range] at e
  omega
theorem hd0_ok (n : Nat) : Hok (hd0 n) := fun i q h => by
  have := hd0_at h
  omega
theorem hd0_fam (n : Nat) (p q : Int) : Fam (Hd (hd0 n)) p q ↔ Fam (Rl []) p q := by
  constructor
  · refine Fam.mono fun p q ⟨p0, k⟩ => Fam.of_eq ?_
    have := hd0_at k
    omega
  · exact Fam.mono fun p q k => by cases k
/-- the least of each family -/
structure IsRoots (R : Int → Int → Prop) (n : Nat) (rs : List Int) : Prop where
  len : rs.length = n
  at_ : ∀ (p : Nat) (r : Int), rs[p]? = some r → 0 ≤ r ∧ r ≤ p ∧ Fam R p r ∧ ∀ q : Int, 0 ≤ q → Fam R p q → r ≤ q
theorem roots_are {hs : List Int} (h : Hok hs) {R : Int → Int → Prop} (e : ∀ p q, Fam (Hd hs) p q ↔ Fam R p q) : IsRoots R hs.length ((List.range hs.length).map fun (k : Nat) => rt hs hs.length (k : Int)) := by
  refine ⟨by rw [List.length_map, List.length_range], fun p r hr => ?_⟩
  rw [List.getElem?_map] at hr
  obtain ⟨k, hk, rfl⟩ := Option.map_eq_some_iff.mp hr
  obtain ⟨lt, e'⟩ := List.getElem?_eq_some_iff.mp hk
  rw [List.getElem_range] at e'
  rw [List.length_range] at lt
  subst e'
  obtain ⟨x1, x2, x3, _⟩ := rt_end h hs.length p (by omega) (by omega) (by omega)
  refine ⟨x1, x2, (e _ _).mp (rt_fam h _ _ (by omega)), fun q q0 k => ?_⟩
  by_cases c : q < hs.length
  · rw [rt_all h ((e _ _).mpr k)]
    exact (rt_end h hs.length q q0 c c).2.1
  · omega
theorem IsRoots.same {R : Int → Int → Prop} {n : Nat} {rs : List Int} (h : IsRoots R n rs) {p q : Nat} {a b : Int} (ha : rs[p]? = some a) (hb : rs[q]? = some b) : a = b ↔ Fam R p q := by
  obtain ⟨a0, a1, a2, a3⟩ := h.at_ p a ha
  obtain ⟨b0, b1, b2, b3⟩ := h.at_ q b hb
  constructor
  · intro e
    rw [← e] at b2
    exact a2.trans b2.symm
  · intro k
    have x := a3 b b0 (k.trans b2)
    have y := b3 a a0 (k.symm.trans a2)
    omega

/-! ### _law_ends -/
abbrev s_ends : Stmt := top 39
abbrev N_ends : List Str := ["_law_mating_here", "_law_one", "_law_other", "_law_many", "_law_flips", "_law_found", "_law_k"]
abbrev P_ends : List Str := ["_law_mating_here"]
theorem sc_ends : FnScope N_ends P_ends (defScope s_ends) := ⟨rfl, rfl, rfl, by decide +kernel, rfl, by decide +kernel, by decide +kernel⟩
def endQ (p m f k : Int) : Int := if f = 1 then p + m - 1 - k else p + k
def endL (o p m f : Int) (n : Nat) : List (Int × Int) := (List.range n).map fun (k : Nat) => (o + (k : Int), endQ p m f (k : Int))
/-- the pairs at these addresses -/
def Prs (H : Hp) (ps : List Addr) (xs : List (Int × Int)) : Prop := Paired (fun a x => H a = some (.tup [.int x.1, .int x.2])) ps xs
theorem Paired.same {H H' : Hp} (e : Same H H') : ∀ {ps : List Addr} {xs : List (Int × Int)}, Prs H ps xs → Prs H' ps xs
  | _, _, .nil => .nil
  | _, _, .cons h r => .cons (e _ _ h) (Paired.same e r)
theorem Prs.same {H H' : Hp} {ps : List Addr} {xs : List (Int × Int)} (h : Prs H ps xs) (e : Same H H') : Prs H' ps xs := Paired.same e h
theorem Prs.snoc {H : Hp} : ∀ {ps : List Addr} {xs : List (Int × Int)} {a : Addr} {x : Int × Int}, Prs H ps xs → H a = some (.tup [.int x.1, .int x.2]) → Prs H (ps ++ [a]) (xs ++ [x])
  | _, _, _, _, .nil, h => .cons h .nil
  | _, _, _, _, .cons h r, h2 => .cons h (Prs.snoc r h2)
theorem Prs.length {H : Hp} : ∀ {ps : List Addr} {xs : List (Int × Int)}, Prs H ps xs → ps.length = xs.length
  | _, _, .nil => rfl
  | _, _, .cons _ r => congrArg (· + 1) (Prs.length r)
theorem Prs.get {H : Hp} : ∀ {ps : List Addr} {xs : List (Int × Int)}, Prs H ps xs → ∀ (i : Nat) (x : Int × Int), xs[i]? = some x → ∃ a, ps[i]? = some a ∧ H a = some (.tup [.int x.1, .int x.2])
  | _, _, .nil, i, x, h => by simp at h
  | _, _, .cons (a := a) h r, 0, x, e => by
    cases e
    exact ⟨a, rfl, h⟩
  | _, _, .cons h r, i + 1, x, e => Prs.get r i x e
theorem Prs.rp {H : Hp} : ∀ {ps : List Addr} {xs : List (Int × Int)}, Prs H ps xs → ∀ n, RpAll H (n + 1) (ps.map V.ref) (xs.map fun x => .tuple [.int x.1, .int x.2])
  | _, _, .nil, n => .nil _
  | _, _, .cons h r, n => .cons (.tup h (by show 2 ≤ 100000; decide) (.cons (.int _ _) (.cons (.int _ _) (.nil _)))) (Prs.rp r n)
theorem endL_snoc (o p m f : Int) (n : Nat) : endL o p m f (n + 1) = endL o p m f n ++ [(o + (n : Int), endQ p m f (n : Int))] := by
  unfold endL
  rw [List.range_succ, List.map_append]
  rfl
theorem endL_length (o p m f : Int) (n : Nat) : (endL o p m f n).length = n := by
  unfold endL
  rw [List.length_map, List.length_range]
def spEnds : Sp := fun vs H Q _ => ∃ (t : Addr) (o p f : Int) (m : Nat), vs = [.ref t] ∧ H t = some (tup4 o p (m : Int) f) ∧ m ≤ 50000 ∧
  ∀ (H' : Hp) (r : Addr) (ps : List Addr), Same H H' → H r = none → H' r = some (.lst (ps.map V.ref)) → Prs H' ps (endL o p m f m) → Q (.ref r) H'
section
variable {P : Program} {w : World} {K : PySem.W.Frag} {mg : Str → Option Value} {base : Heap}
theorem ok_ends {f : Addr} {fd : FuncData} (D : DefAt K mg "_law_ends" s_ends P_ends f fd) (B : Bn mg) : FnOk P w K mg base CX0 1 f fd P_ends spEnds := by
  refine D.F.ok sc_ends (fun vs H Q E h => ?_) (fun cdv A outer s H vs Q E hr h => ?_)
  · obtain ⟨t, o, p, f, m, rfl, _⟩ := h
    rfl
  · obtain ⟨t, o, p, f, m, rfl, ht, hm, q⟩ := h
    refine ⟨_, (pss_cons (ps_asg (pv 0) (pg_tup (by rfl) (pgs_cons (pg_name (i := 1) sc_ends.nd rfl (.inl rfl)) (pgs_cons (pg_name (i := 2) sc_ends.nd rfl (.inl rfl)) (pgs_cons (pg_name (i := 3) sc_ends.nd rfl (.inl rfl)) (pgs_cons (pg_name (i := 4) sc_ends.nd rfl (.inl rfl)) pgs_nil))))))
      (pss_cons (ps_set (i := 5) sc_ends.nd rfl (.inl rfl) (pe_lst pa_nil))
      (pss_cons (ps_for PassesOwn.never rfl (pi_range1 (by rfl) B.range (pa_cons (pv 3) pa_nil)) (pg_name (i := 6) sc_ends.nd rfl (.inl rfl)) (pss_one (ps_expr (pe_bm PySem.F.plainAttrs_list PySem.F.slot_list_append PySem.F.type_list_append mt_append (pv 5) (pa_cons (pe_tup (pa_cons (pe_op op_add (pv 1) (pv 6)) (pa_cons (pe_ifExp (pt_cmpR op_eq (pv 4) pe_int (nomark _)) (pe_op op_sub (pe_op op_sub (pe_op op_add (pv 2) (pv 3)) pe_int) (pv 6)) (pe_op op_add (pv 2) (pv 6))) pa_nil))) pa_nil)))))
      (pss_one (ps_ret (pv 5)))))), ?_⟩
    refine ⟨.ref t, rfl, t, _, rfl, SqT.of ht, rfl, .int o, _, rfl, .int p, _, rfl, .int (m : Int), _, rfl, .int f, _, rfl, rfl, ?_⟩
    refine ⟨Nat.zero_le _, fun r nr => ?_⟩
    refine ⟨.int (m : Int), rfl, (m : Int), rfl, by omega, by omega, for_range (lo := 0) (n := ((m : Int)).toNat) (fun i σ H2 => ∃ (y : Option V) (ps : List Addr), σ = [some (.ref t), some (.int o), some (.int p), some (.int (m : Int)), some (.int f), some (.ref r), y] ∧ Same H H2 ∧ H2 r = some (.lst (ps.map V.ref)) ∧ Prs H2 ps (endL o p m f i))
      ⟨none, [], rfl, same_upd nr, upd_same, .nil⟩ ?_ ?_⟩
    · rintro i σ H2 hi ⟨y, ps, rfl, sm, e2, pr⟩
      have hl := pr.length
      rw [endL_length] at hl
      have hlt : (ps.map V.ref).length < sizeLine := sz_lt (by rw [List.length_map]; omega)
      have fin : ∀ (a : Addr) (z : Int), H2 a = none → z = endQ p m f (i : Int) → ∃ (y : Option V) (ps' : List Addr), ([some (.ref t), some (.int o), some (.int p), some (.int (m : Int)), some (.int f), some (.ref r), some (.int (0 + (i : Int)))] : List (Option V)) = [some (.ref t), some (.int o), some (.int p), some (.int (m : Int)), some (.int f), some (.ref r), y] ∧ Same H (upd (upd H2 a (.tup [.int (o + (0 + (i : Int))), .int z])) r (.lst ((ps.map V.ref) ++ [.ref a]))) ∧
          (upd (upd H2 a (.tup [.int (o + (0 + (i : Int))), .int z])) r (.lst ((ps.map V.ref) ++ [.ref a]))) r = some (.lst (ps'.map V.ref)) ∧ Prs (upd (upd H2 a (.tup [.int (o + (0 + (i : Int))), .int z])) r (.lst ((ps.map V.ref) ++ [.ref a]))) ps' (endL o p m f (i + 1)) := fun a z na ez => by
        have nar : a ≠ r := (ne_of_none e2 na).symm
        refine ⟨_, ps ++ [a], rfl, fun b o' hb => ?_, ?_, ?_⟩
        · rw [upd_ne (ne_of_none hb nr), upd_ne (ne_of_none (sm _ _ hb) na)]
          exact sm _ _ hb
        · rw [upd_same, List.map_append]
          rfl
        · rw [endL_snoc]
          refine Prs.snoc (Paired.mapP pr fun b x hb => ?_) ?_
          · have nbr : b ≠ r := ne_of hb e2 (fun z => by cases z)
            rw [upd_ne nbr, upd_ne (ne_of_none hb na)]
            exact hb
          · rw [upd_ne nar, upd_same, ez, show o + (0 + (i : Int)) = o + (i : Int) by omega]
      -- found.append((one + k, ..))
      refine ⟨.ref r, rfl, .inl ⟨rfl, _, SqL.of e2⟩, .int o, rfl, .int (0 + (i : Int)), rfl, o, _, rfl, rfl, .int f, rfl, rfl, _, rfl, ?_⟩
      refine ite2 (fun hf => ?_) (fun hf => ?_)
      · have hf' : f = 1 := V.int.inj (of_decide_eq_true hf)
        refine ⟨.int p, rfl, .int (m : Int), rfl, p, _, rfl, rfl, _, 1, rfl, rfl, .int (0 + (i : Int)), rfl, _, _, rfl, rfl, by show 2 ≤ sizeLine; decide, fun a na => ?_⟩
        exact ⟨r, _, _, rfl, rfl, (by rw [upd_ne (ne_of_none e2 na)]; exact e2), hlt, fin a _ na (by unfold endQ; rw [if_pos hf']; omega)⟩
      · have hf' : ¬ f = 1 := fun z => hf (decide_eq_true (congrArg V.int z))
        refine ⟨.int p, rfl, .int (0 + (i : Int)), rfl, p, _, rfl, rfl, by show 2 ≤ sizeLine; decide, fun a na => ?_⟩
        exact ⟨r, _, _, rfl, rfl, (by rw [upd_ne (ne_of_none e2 na)]; exact e2), hlt, fin a _ na (by unfold endQ; rw [if_neg hf']; omega)⟩
    · rintro σ H2 ⟨y, ps, rfl, sm, e2, pr⟩
      exact ⟨.ref r, rfl, q H2 r ps sm nr e2 (by rw [Int.toNat_natCast] at pr; exact pr)⟩
end

/-! ### _law_root, _law_roots -/
abbrev s_root : Stmt := top 40
abbrev N_root : List Str := ["_law_heads", "_law_place", "_law_here", "_law_turn"]
abbrev P_root : List Str := ["_law_heads", "_law_place"]
theorem sc_root : FnScope N_root P_root (defScope s_root) := ⟨rfl, rfl, rfl, by decide +kernel, rfl, by decide +kernel, by decide +kernel⟩
abbrev s_roots : Stmt := top 41
abbrev N_roots : List Str := ["_law_length", "_law_matings", "_law_heads", "_law_mating_here", "_law_one", "_law_other", "_law_ends_here", "_law_place"]
abbrev P_roots : List Str := ["_law_length", "_law_matings"]
theorem sc_roots : FnScope N_roots P_roots (defScope s_roots) := ⟨rfl, rfl, rfl, by decide +kernel, rfl, by decide +kernel, by decide +kernel⟩
theorem at_hs {hs : List Int} {p q : Int} (p0 : 0 ≤ p) (e : hs[p.toNat]? = some q) : atI (hs.map V.int) p = some (.int q) := by
  obtain ⟨j, rfl⟩ := Int.eq_ofNat_of_zero_le p0
  exact atI_nat (by rw [List.getElem?_map]; rw [Int.toNat_natCast] at e; rw [e]; rfl)
theorem two_sorted {ns : List Int} {a b : Int} (h : ns.Perm [a, b]) (s : ns.Pairwise (· ≤ ·)) : ∃ lo hi, ns = [lo, hi] ∧ lo ≤ hi ∧ ((lo = a ∧ hi = b) ∨ (lo = b ∧ hi = a)) := by
  match ns, h.length_eq with
  | [x, y], _ =>
    have le : x ≤ y := (List.pairwise_cons.mp s).1 y List.mem_cons_self
    refine ⟨x, y, rfl, le, ?_⟩
    have hx : x ∈ [a, b] := h.subset List.mem_cons_self
    rcases List.mem_cons.mp hx with rfl | hx
    · have := (List.perm_cons x).mp h
      exact .inl ⟨rfl, List.perm_singleton.mp this |> fun e => (List.cons.inj e).1⟩
    · have hx := List.mem_singleton.mp hx
      subst hx
      have := (List.perm_cons x).mp (h.trans (List.Perm.swap x a []))
      exact .inr ⟨rfl, List.perm_singleton.mp this |> fun e => (List.cons.inj e).1⟩
def spRoot : Sp := fun vs H Q _ => ∃ (A : Addr) (hs : List Int) (p : Int), vs = [.ref A, .int p] ∧ H A = some (.lst (hs.map V.int)) ∧ Hok hs ∧ 0 ≤ p ∧ p < hs.length ∧ hs.length ≤ 1000 ∧ Q (.int (rt hs hs.length p)) H
/-- the pairs of a row of matings -/
def allP (ms : List M4) : List (Int × Int) := ms.flatMap fun x => endL x.1 x.2.1 x.2.2.1 x.2.2.2 x.2.2.1.toNat
def spRoots : Sp := fun vs H Q _ => ∃ (n : Int) (L : Addr) (ts : List Addr) (ms : List M4), vs = [.int n, .ref L] ∧ H L = some (.lst (ts.map V.ref)) ∧ Mts H ts ms ∧ (∀ x ∈ ms, Mrd n x) ∧ 0 ≤ n ∧ n ≤ 1000 ∧
  ∀ (H' : Hp) (r : Addr) (rs : List Int), Same H H' → H r = none → H' r = some (.lst (rs.map V.int)) → IsRoots (Rl (allP ms)) n.toNat rs → Q (.ref r) H'
theorem allP_step {ms : List M4} {i : Nat} {x : M4} (h : ms[i]? = some x) : allP (ms.take (i + 1)) = allP (ms.take i) ++ endL x.1 x.2.1 x.2.2.1 x.2.2.2 x.2.2.1.toNat := by
  unfold allP
  rw [List.take_add_one, h, List.flatMap_append]
  simp
section
variable {P : Program} {w : World} {K : PySem.W.Frag} {mg : Str → Option Value} {base : Heap}
theorem ok_root {f : Addr} {fd : FuncData} (D : DefAt K mg "_law_root" s_root P_root f fd) (B : Bn mg) : FnOk P w K mg base CX0 1 f fd P_root spRoot := by
  refine D.F.ok sc_root (fun vs H Q E h => ?_) (fun cdv A outer s H vs Q E hr h => ?_)
  · obtain ⟨A, hs, p, rfl, _⟩ := h
    rfl
  · obtain ⟨A, hs, p, rfl, hA, ok, p0, p1, hl, q⟩ := h
    refine ⟨_, (pss_cons (ps_set (i := 2) sc_root.nd rfl (.inl rfl) (pv 1))
      (pss_cons (ps_for PassesOwn.never rfl (pi_range1 (by rfl) B.range (pa_cons (pe_callB call_len_seq (by rfl) B.len (by decide +kernel) (pa_cons (pv 0) pa_nil)) pa_nil)) (pg_name (i := 3) sc_root.nd rfl (.inl rfl)) (pss_cons (ps_if (pt_cmpR op_eq (pe_ix ix_list (pv 0) (pv 2) (fun _ _ => rfl)) (pv 2) (nomark _)) (pss_one (ps_ret (pv 2))) pss_nil)
      (pss_one (ps_set (i := 2) sc_root.nd rfl (.inl rfl) (pe_ix ix_list (pv 0) (pv 2) (fun _ _ => rfl))))))
      (pss_one (ps_ret (pv 2))))), ?_⟩
    refine ⟨.int p, rfl, .ref A, rfl, A, _, rfl, .inl (SqL.of hA), _, rfl, by rw [List.length_map]; omega, by rw [List.length_map]; omega, for_range (lo := 0) (n := (((hs.map V.int).length : Int)).toNat) (fun i σ H2 => ∃ (y : Option V) (here : Int), σ = [some (.ref A), some (.int p), some (.int here), y] ∧ H2 = H ∧ 0 ≤ here ∧ here < hs.length ∧ i ≤ hs.length ∧ rt hs (hs.length - i) here = rt hs hs.length p)
      ⟨none, p, rfl, rfl, p0, p1, Nat.zero_le _, rfl⟩ ?_ ?_⟩
    · rintro i σ H2 hi ⟨y, here, rfl, rfl, h0, h1, hi', e⟩
      rw [List.length_map, Int.toNat_natCast] at hi
      have ee := List.getElem?_eq_getElem (show here.toNat < hs.length by omega)
      have hq := ok.at h0 ee
      generalize hs[here.toNat] = v at ee hq
      have at_ := at_hs h0 ee
      obtain ⟨k, hk⟩ : ∃ k, hs.length - i = k + 1 := ⟨hs.length - i - 1, by omega⟩
      rw [hk, rt_step ee] at e
      refine ⟨.ref A, rfl, .int here, rfl, A, _, here, .int v, rfl, rfl, SqL.of hA, at_, .int here, rfl, rfl, _, rfl, ite2 (fun c => ?_) (fun c => ?_)⟩
      · have c' : v = here := V.int.inj (of_decide_eq_true c)
        rw [if_pos c'] at e
        refine ⟨.int here, rfl, ?_⟩
        rw [e]
        exact q
      · have c' : ¬ v = here := fun z => c (decide_eq_true (congrArg V.int z))
        rw [if_neg c'] at e
        refine ⟨.ref A, rfl, .int here, rfl, A, _, here, .int v, rfl, rfl, SqL.of hA, at_, _, v, rfl, rfl, hq.1, by omega, by omega, ?_⟩
        rw [show hs.length - (i + 1) = k by omega]
        exact e
    · rintro σ H2 ⟨y, here, rfl, rfl, h0, h1, hi', e⟩
      rw [List.length_map, Int.toNat_natCast, Nat.sub_self] at e
      refine ⟨.int here, rfl, ?_⟩
      rw [show here = rt hs hs.length p from e]
      exact q
theorem ok_roots {f fR fE : Addr} {fd fdR fdE : FuncData} (D : DefAt K mg "_law_roots" s_roots P_roots f fd) (D_root : DefAt K mg "_law_root" s_root P_root fR fdR) (D_ends : DefAt K mg "_law_ends" s_ends P_ends fE fdE) (B : Bn mg) : FnOk P w K mg base CX0 2 f fd P_roots spRoots := by
  have G_root : FnOk P w K mg base CX0 1 fR fdR P_root spRoot := ok_root D_root B
  have G_ends : FnOk P w K mg base CX0 1 fE fdE P_ends spEnds := ok_ends D_ends B
  refine D.F.ok sc_roots (fun vs H Q E h => ?_) (fun cdv A outer s H vs Q E hr h => ?_)
  · obtain ⟨n, L, ts, ms, rfl, _⟩ := h
    rfl
  · obtain ⟨n, L, ts, ms, rfl, hL, hM, hok, n0, n1, q⟩ := h
    refine ⟨_, (pss_cons (ps_set (i := 2) sc_roots.nd rfl (.inr rfl) (pe_listRg rfl (by rfl) B.list (prg_1 (by rfl) B.range (pv 0))))
      (pss_cons (ps_for PassesOwn.never rfl (pi_list (pv 1)) (pg_name (i := 3) sc_roots.nd rfl (.inl rfl)) (pss_one (ps_for PassesOwn.never rfl (pi_list (pe_call G_ends (hr.mono (by omega)) (by rfl) D_ends.g D_ends.F.kp D_ends.b .nil pass0 (pa_cons (pv 3) pa_nil))) (pg_tup (by rfl) (pgs_cons (pg_name (i := 4) sc_roots.nd rfl (.inl rfl)) (pgs_cons (pg_name (i := 5) sc_roots.nd rfl (.inl rfl)) pgs_nil))) (pss_cons (ps_set (i := 6) sc_roots.nd rfl (.inl rfl) (pe_callB cr_sorted (by rfl) B.sorted (by decide +kernel) (pa_cons (pe_lst (pa_cons (pe_call G_root (hr.mono (by omega)) (by rfl) D_root.g D_root.F.kp D_root.b .nil pass0 (pa_cons (pv 2) (pa_cons (pv 4) pa_nil))) (pa_cons (pe_call G_root (hr.mono (by omega)) (by rfl) D_root.g D_root.F.kp D_root.b .nil pass0 (pa_cons (pv 2) (pa_cons (pv 5) pa_nil))) pa_nil))) pa_nil)))
      (pss_one (ps_asg (pe_ix ix_list (pv 6) pe_int (fun _ _ => rfl)) (pg_sub (pv 2) (pe_ix ix_list (pv 6) pe_int (fun _ _ => rfl)) set_list)))))))
      (pss_one (ps_ret (pe_lc (own := [("_law_place", 7)]) (g := gName 7) (by rfl) sc_roots.nd (pi_range1 (by rfl) B.range (pa_cons (pv 0) pa_nil)) (blkOk_by (own := [("_law_place", 7)]) (N := N_roots) (sc := defScope s_roots) (by decide +kernel)) (fun _ _ _ _ _ => (pg_name (i := 7) sc_roots.nd rfl (.inl rfl))) (fun _ _ _ _ _ => pts_nil) (fun _ _ _ _ _ => (pe_call G_root (hr.mono (by omega)) (by rfl) D_root.g D_root.F.kp D_root.b .nil pass0 (pa_cons (pv 2) (pa_cons (pv 7) pa_nil))))))))), ?_⟩
    have hml := hM.length
    refine ⟨.int n, rfl, n, rfl, RgOk.of_le (by omega) (by omega) (by omega) n0, fun A nA => ?_⟩
    have s0 := same_upd (H := H) (o := .lst (rgV 0 n)) nA
    have e0 : rgV 0 n = (hd0 n.toNat).map V.int := by
      unfold rgV hd0
      rw [List.map_map, show n - 0 = n by omega]
      refine List.map_congr_left fun k _ => ?_
      show V.int (0 + (k : Int)) = V.int (k : Int)
      rw [Int.zero_add]
    have nLA : L ≠ A := ne_of_none hL nA
    refine ⟨.ref L, rfl, L, rfl, ⟨_, SqL.of (s0 _ _ hL)⟩, for_list (K := K) (a := L) (xs := ts.map V.ref) (fun i σ H2 => ∃ (y3 y4 y5 y6 : Option V) (hs : List Int), σ = [some (.int n), some (.ref L), some (.ref A), y3, y4, y5, y6, none] ∧ Same H H2 ∧ H2 A = some (.lst (hs.map V.int)) ∧ hs.length = n.toNat ∧ Hok hs ∧ ∀ p q, Fam (Hd hs) p q ↔ Fam (Rl (allP (ms.take i))) p q)
      ⟨none, none, none, none, hd0 n.toNat, rfl, s0, by rw [upd_same, e0], by unfold hd0; rw [List.length_map, List.length_range], hd0_ok _, hd0_fam _⟩ (fun i σ H2 _ ⟨_, _, _, _, _, _, sm, _⟩ => SqL.of (sm _ _ hL)) ?_ ?_⟩
    · rintro i x σ H2 hx ⟨y3, y4, y5, y6, hs, rfl, sm, eA, len, ok, fam⟩
      rw [List.getElem?_map] at hx
      obtain ⟨t, ht, rfl⟩ := Option.map_eq_some_iff.mp hx
      obtain ⟨x, hx', et⟩ := hM.at i t ht
      have mr := hok x (List.mem_of_getElem? hx')
      obtain ⟨m, hm⟩ : ∃ m : Nat, x.2.2.1 = (m : Int) := ⟨x.2.2.1.toNat, by have := mr.m1; omega⟩
      have pm := mr.m1
      have po0 := mr.o0
      have po1 := mr.o1
      have pp0 := mr.p0
      have pp1 := mr.p1
      refine ⟨.ref t, rfl, t, x.1, x.2.1, x.2.2.2, m, rfl, ?_, by omega, fun H3 E ps s3 nE eE pr => ?_⟩
      · have := sm _ _ et
        rw [this]
        show some (t4 x) = some (tup4 x.1 x.2.1 (m : Int) x.2.2.2)
        rw [← hm]
      have nEA : A ≠ E := ne_of_none eA nE
      refine ⟨E, rfl, ⟨_, SqL.of eE⟩, for_list (K := K) (a := E) (xs := ps.map V.ref) (fun j σ H4 => ∃ (y4 y5 y6 : Option V) (hs : List Int), σ = [some (.int n), some (.ref L), some (.ref A), some (.ref t), y4, y5, y6, none] ∧ Same H H4 ∧ H4 E = some (.lst (ps.map V.ref)) ∧ Prs H4 ps (endL x.1 x.2.1 m x.2.2.2 m) ∧ H4 A = some (.lst (hs.map V.int)) ∧ hs.length = n.toNat ∧ Hok hs ∧ ∀ p q, Fam (Hd hs) p q ↔ Fam (Rl (allP (ms.take i) ++ (endL x.1 x.2.1 m x.2.2.2 m).take j)) p q)
        ⟨y4, y5, y6, hs, rfl, sm.trans s3, eE, pr, s3 _ _ eA, len, ok, fun p q => by rw [List.take_zero, List.append_nil]; exact fam p q⟩ (fun j σ H4 _ ⟨_, _, _, _, _, _, e4, _⟩ => SqL.of e4) ?_ ?_⟩
      · rintro j z σ H4 hz ⟨y4, y5, y6, hs, rfl, sm4, eE4, pr4, eA4, len, ok, fam⟩
        rw [List.getElem?_map] at hz
        obtain ⟨u, hu', rfl⟩ := Option.map_eq_some_iff.mp hz
        have plen := pr4.length
        have ju : j < ps.length := (List.getElem?_eq_some_iff.mp hu').1
        have jx : j < (endL x.1 x.2.1 m x.2.2.2 m).length := by omega
        have ej := List.getElem?_eq_getElem jx
        have mem := List.getElem_mem jx
        generalize (endL x.1 x.2.1 m x.2.2.2 m)[j] = pq at ej mem
        obtain ⟨u', hu2, eu⟩ := pr4.get j pq ej
        rw [hu'] at hu2
        cases hu2
        obtain ⟨a, b⟩ := pq
        have bnd : 0 ≤ a ∧ a < n ∧ 0 ≤ b ∧ b < n := by
          unfold endL at mem
          obtain ⟨k, hk, e⟩ := List.mem_map.mp mem
          have hk := List.mem_range.mp hk
          have e1 : x.1 + (k : Int) = a := congrArg Prod.fst e
          have e2 : endQ x.2.1 m x.2.2.2 (k : Int) = b := congrArg Prod.snd e
          unfold endQ at e2
          refine ⟨by omega, by omega, ?_, ?_⟩
          · split at e2 <;> omega
          · split at e2 <;> omega
        obtain ⟨a0, a1, b0, b1⟩ := bnd
        have hl' : (hs.length : Int) = n := by omega
        refine ⟨u, _, rfl, SqT.of eu, rfl, .int a, _, rfl, .int b, _, rfl, rfl, ?_⟩
        refine ⟨.ref A, rfl, .int a, rfl, A, hs, a, rfl, eA4, ok, a0, by omega, by omega, ?_⟩
        refine ⟨.ref A, rfl, .int b, rfl, A, hs, b, rfl, eA4, ok, b0, by omega, by omega, ?_⟩
        refine ⟨by show 2 ≤ sizeLine; decide, fun l nl => ?_⟩
        refine ⟨l, [rt hs hs.length a, rt hs hs.length b], rfl, SqL.of upd_same, by show 2 < 64; decide, fun ns p pn sn np => ?_⟩
        obtain ⟨lo, hi, rfl, le, which⟩ := two_sorted pn sn
        obtain ⟨lo0, hi1, ok', fam'⟩ := join_heads ok a0 (by omega) b0 (by omega) which le
        have s5 := (same_upd (H := H4) (o := .lst [.int (rt hs hs.length a), .int (rt hs hs.length b)]) nl).trans (same_upd (o := .lst [.int lo, .int hi]) np)
        have eA5 := s5 _ _ eA4
        refine ⟨.ref p, rfl, p, _, 0, .int lo, rfl, rfl, SqL.of upd_same, atI_nat (j := 0) rfl, ?_⟩
        refine ⟨.ref A, rfl, .ref p, rfl, p, _, 1, .int hi, rfl, rfl, SqL.of upd_same, atI_nat (j := 1) rfl, ?_⟩
        obtain ⟨h, rfl⟩ := Int.eq_ofNat_of_zero_le (show 0 ≤ hi by omega)
        refine ⟨A, _, (h : Int), h, rfl, rfl, eA5, ?_, ?_⟩
        · unfold ixN
          rw [List.length_map, if_pos (by omega), if_pos (by omega), Int.toNat_natCast]
        · have kA : Keep A (upd (upd H4 l (.lst [.int (rt hs hs.length a), .int (rt hs hs.length b)])) p (.lst [.int lo, .int (h : Int)])) (upd (upd (upd H4 l (.lst [.int (rt hs hs.length a), .int (rt hs hs.length b)])) p (.lst [.int lo, .int (h : Int)])) A (.lst ((hs.map V.int).set h (.int lo)))) := Keep.upd
          refine ⟨_, _, _, hs.set h lo, rfl, fun c o hc => kA.of (s5 _ _ (sm4 _ _ hc)) (ne_of_none hc nA), kA.of (s5 _ _ eE4) nEA.symm, ?_, ?_, ?_, ?_, ?_⟩
          · refine Paired.mapP pr4 fun c y hc => kA.of (s5 _ _ hc) (ne_of hc eA4 (fun z => by cases z))
          · rw [upd_same, List.map_set]
          · rw [List.length_set]
            exact len
          · rw [Int.toNat_natCast] at ok'
            exact ok'
          · have := fam' _ fam
            rw [Int.toNat_natCast] at this
            intro p' q'
            rw [this p' q', List.take_add_one, ej, List.append_assoc]
            rfl
      · rintro σ H4 ⟨y4, y5, y6, hs, rfl, sm4, eE4, pr4, eA4, len, ok, fam⟩
        refine ⟨_, _, _, _, hs, rfl, sm4, eA4, len, ok, fun p q => ?_⟩
        rw [allP_step hx', fam p q, List.length_map, pr4.length, List.take_length, hm, Int.toNat_natCast]
    · rintro σ H2 ⟨y3, y4, y5, y6, hs, rfl, sm, eA, len, ok, fam⟩
      rw [List.length_map, hml, List.take_length] at fam
      refine ⟨.int n, rfl, n, rfl, by omega, by omega, fun R nR => lc_range (lo := 0) (n := n.toNat) (fun i H3 => Same H2 H3 ∧ H3 R = some (.lst ((List.range i).map fun (k : Nat) => V.int (rt hs hs.length (k : Int)))))
        ⟨same_upd nR, upd_same⟩ ?_ ?_⟩
      · rintro i H3 hi ⟨s3, eR⟩
        refine ⟨rfl, .ref A, rfl, .int (0 + (i : Int)), rfl, A, hs, 0 + (i : Int), rfl, s3 _ _ eA, ok, by omega, by omega, by omega, ?_⟩
        refine ⟨_, eR, sz_lt (by rw [List.length_map, List.length_range]; omega), fun c o hc => ?_, ?_⟩
        · rw [upd_ne (ne_of_none hc nR)]
          exact s3 _ _ hc
        · rw [upd_same, List.range_succ, List.map_append, Int.zero_add]
          rfl
      · rintro H3 ⟨s3, eR⟩
        have rr := roots_are ok fam
        rw [len] at rr
        refine q H3 R ((List.range n.toNat).map fun (k : Nat) => rt hs hs.length (k : Int)) (sm.trans s3) ?_ ?_ ?_
        · cases e : H R with
          | none => rfl
          | some o =>
            have := sm _ _ e
            rw [nR] at this
            cases this
        · rw [eR, List.map_map]
          rfl
        · rw [len]
          exact rr
end

/-! ### _law_kept -/
abbrev s_kept : Stmt := top 52
abbrev N_kept : List Str := ["_law_front", "_law_roots_here", "_law_length", "_law_top", "_law_row", "_law_now", "_law_place", "_law_least_of", "_law_seen", "_law_to", "_law_at", "_law_here"]
abbrev P_kept : List Str := ["_law_front", "_law_roots_here", "_law_length"]
theorem sc_kept : FnScope N_kept P_kept (defScope s_kept) := ⟨rfl, rfl, rfl, by decide +kernel, rfl, by decide +kernel, by decide +kernel⟩
theorem rl_allP {ms : List M4} {p q : Int} : Rl (allP ms) p q ↔ ∃ x ∈ ms, Pr x p q := by
  unfold Rl allP
  rw [List.mem_flatMap]
  constructor
  · rintro ⟨x, hx, h⟩
    unfold endL at h
    obtain ⟨k, hk, e⟩ := List.mem_map.mp h
    have hk := List.mem_range.mp hk
    have e1 : x.1 + (k : Int) = p := congrArg Prod.fst e
    have e2 : endQ x.2.1 x.2.2.1 x.2.2.2 (k : Int) = q := congrArg Prod.snd e
    exact ⟨x, hx, k, by omega, by omega, e1.symm, e2.symm⟩
  · rintro ⟨x, hx, k, k0, k1, e1, e2⟩
    refine ⟨x, hx, ?_⟩
    unfold endL
    obtain ⟨j, rfl⟩ := Int.eq_ofNat_of_zero_le k0
    refine List.mem_map.mpr ⟨j, List.mem_range.mpr (by omega), ?_⟩
    rw [e1, e2]
    rfl
theorem fam_rows (S : StL) (p q : Int) : Fam (Rl (allP (S.map (·.2)))) p q ↔ Fam (Gn S) p q := by
  constructor
  · refine Fam.mono fun p q h => ?_
    obtain ⟨x, hx, k⟩ := rl_allP.mp h
    obtain ⟨s, hs, rfl⟩ := List.mem_map.mp hx
    exact .rel ⟨s, hs, k⟩
  · refine Fam.mono fun p q ⟨s, hs, k⟩ => .rel (rl_allP.mpr ⟨s.2, List.mem_map_of_mem hs, k⟩)
theorem en_all : ∀ (k : Nat) (l : List M4) (x : M4), x ∈ l → ∃ s ∈ en k l, s.2 = nrm x
  | k, y :: r, x, h => by
    rcases List.mem_cons.mp h with rfl | h
    · exact ⟨_, List.mem_cons_self, rfl⟩
    · obtain ⟨s, hs, e⟩ := en_all (k + 1) r x h
      exact ⟨s, List.mem_cons_of_mem _ hs, e⟩
theorem fam_first (ms : List M4) (p q : Int) : Fam (Rl (allP ms)) p q ↔ Fam (Gn (en 0 ms)) p q := by
  constructor
  · refine Fam.mono fun p q h => ?_
    obtain ⟨x, hx, k⟩ := rl_allP.mp h
    obtain ⟨s, hs, e⟩ := en_all 0 ms x hx
    rcases Pr.there k with u | u
    · exact .rel ⟨s, hs, by rw [e]; exact u⟩
    · exact .symm (.rel ⟨s, hs, by rw [e]; exact u⟩)
  · refine Fam.mono fun p q ⟨s, hs, k⟩ => ?_
    obtain ⟨x, hx, e⟩ := en_mem 0 ms s hs
    rw [e] at k
    rcases Pr.back k with u | u
    · exact .rel (rl_allP.mpr ⟨x, hx, u⟩)
    · exact .symm (.rel (rl_allP.mpr ⟨x, hx, u⟩))
theorem IsRoots.cong {R T : Int → Int → Prop} {n : Nat} {rs : List Int} (h : IsRoots R n rs) (e : ∀ p q, Fam R p q ↔ Fam T p q) : IsRoots T n rs :=
  ⟨h.len, fun p r hr => let ⟨a, b, c, d⟩ := h.at_ p r hr; ⟨a, b, (e _ _).mp c, fun q q0 k => d q q0 ((e _ _).mpr k)⟩⟩
theorem lay_ints : ∀ xs : List Int, PyData.canLayAll0 (xs.map PyData.int) = true
  | [] => rfl
  | x :: r => by
    show (PyData.canLay0 (.int x) && PyData.canLayAll0 (r.map PyData.int)) = true
    rw [lay_ints r]
    rfl
theorem depth_ints : ∀ xs : List Int, PyData.depthAll (xs.map PyData.int) ≤ 1
  | [] => Nat.zero_le _
  | x :: r => Nat.max_le.mpr ⟨Nat.zero_le _, depth_ints r⟩
theorem shaped_ints (xs : List Int) : SeqAt.shaped (.list (xs.map PyData.int)) = true := by
  unfold SeqAt.shaped
  rw [show PyData.canLay0 (.list (xs.map PyData.int)) = true from lay_ints xs, Bool.true_and, decide_eq_true_eq]
  have := depth_ints xs
  show PyData.depthAll (xs.map PyData.int) + 1 ≤ 64
  omega
theorem dp_ints {H : Hp} {K : PySem.W.Frag} : ∀ xs : List Int, DpAll K H (xs.map V.int) (xs.map PyData.int)
  | [] => .nil
  | x :: r => .cons (.int _) (dp_ints r)
theorem eqv_ints (xs : List Int) : PyData.eqv (.list (xs.map PyData.int)) (.list (xs.map PyData.int)) = true := SeqAt.eqv_refl _ (lay_ints xs)
theorem Past.rev {H : Hp} : ∀ {ps : List V} {L : List Ev}, Past H ps L → Past H ps.reverse L.reverse
  | _, _, .nil => .nil
  | _, _, .cons h r => by
    rw [List.reverse_cons, List.reverse_cons]
    exact Past.snoc h (Past.rev r)
theorem Past.get {H : Hp} : ∀ {ps : List V} {L : List Ev}, Past H ps L → ∀ (i : Nat) (v : V), ps[i]? = some v → ∃ ev, L[i]? = some ev ∧ ∃ t, v = V.ref t ∧ H t = some (.tup (evV ev))
  | _, _, .nil, i, v, h => by simp at h
  | _, _, .cons h r, 0, v, e => by
    cases e
    exact ⟨_, rfl, h⟩
  | _, _, .cons h r, i + 1, v, e => Past.get r i v e
theorem Ls.get {H : Hp} : ∀ {us : List Addr} {S : StL}, Ls H us S → ∀ (i : Nat) (u : Addr), us[i]? = some u → ∃ s, S[i]? = some s ∧ LsR H u s
  | _, _, .nil, i, v, h => by simp at h
  | _, _, .cons h r, 0, v, e => by
    cases e
    exact ⟨_, rfl, h⟩
  | _, _, .cons h r, i + 1, v, e => Ls.get r i v e
theorem rok_mrd {e : Int} {x : M4} (h : Rok e x) : Mrd e x := ⟨h.m1, h.o0, by have := h.op; have := h.pe; omega, by have := h.o0; have := h.op; omega, h.pe, h.f01⟩
def spKept (C : Addr) : Sp := fun vs H Q _ => ∃ (a s q R : Addr) (X0 X : FS) (rs : List Int), vs = [.ref a, .ref R, .int X0.e] ∧ FrS C H a s q X ∧ WF X ∧ KptX X0 X ∧ H R = some (.lst (rs.map V.int)) ∧ IsRoots (Gn X0.S) X0.e.toNat rs ∧ X.e ≤ X0.e ∧ X0.e ≤ 1000 ∧ X.L.length ≤ 1000 ∧ ∀ H', Same H H' → Q (.bl true) H'
section
variable {P : Program} {w : World} {K : PySem.W.Frag} {mg : Str → Option Value} {base : Heap} {C : Addr}
theorem ok_kept {f fR fT fE fO : Addr} {fd fdR fdT fdE fdO : FuncData} (D : DefAt K mg "_law_kept" s_kept P_kept f fd) (T : FrT K mg C) (D_roots : DefAt K mg "_law_roots" s_roots P_roots fR fdR) (G_roots : FnOk P w K mg base CX0 2 fR fdR P_roots spRoots) (M_top : Meth K C "top" fT) (G_top : FnOk P w K mg base CX0 1 fT fdT P_Ftop (spTop C)) (b_top : Binds K fdT P_Ftop [])
    (M_left : Meth K C "left" fE) (G_left : FnOk P w K mg base CX0 1 fE fdE P_Fleft (spLeft C)) (b_left : Binds K fdE P_Fleft []) (M_led_on : Meth K C "led_on" fO) (G_led_on : FnOk P w K mg base CX0 1 fO fdO P_Fled_on (spLedOn C)) (b_led_on : Binds K fdO P_Fled_on []) (B : Bn mg) : FnOk P w K mg base CX0 3 f fd P_kept (spKept C) := by
  refine D.F.ok sc_kept (fun vs H Q E h => ?_) (fun cdv A outer s H vs Q E hr h => ?_)
  · obtain ⟨a, s, q, R, X0, X, rs, rfl, _⟩ := h
    rfl
  · obtain ⟨a, s, q, R, X0, X, rs, rfl, ⟨ps, fa, hp⟩, wf, kp, hR, ir, le, n1, hL, qq⟩ := h
    refine ⟨_, (pss_cons (ps_set (i := 3) sc_kept.nd rfl (.inr rfl) (pe_meth0 (pv 0) T.cl M_top G_top (hr.mono (by omega)) b_top .nil pass0))
      (pss_cons (ps_set (i := 5) sc_kept.nd rfl (.inl rfl) (pe_call G_roots (hr.mono (by omega)) (by rfl) D_roots.g D_roots.F.kp D_roots.b .nil pass0 (pa_cons (pv 3) (pa_cons (pe_lc (own := [("_law_at", 10), ("_law_row", 4)]) (g := gTup K 2 (gCons (gName 10) (gCons (gName 4) gNil))) (by rfl) sc_kept.nd (pi_list (pe_meth0 (pv 0) T.cl M_left G_left (hr.mono (by omega)) b_left .nil pass0)) (blkOk_by (own := [("_law_at", 10), ("_law_row", 4)]) (N := N_kept) (sc := defScope s_kept) (by decide +kernel)) (fun _ _ _ _ _ => (pg_tup (by rfl) (pgs_cons (pg_name (i := 10) sc_kept.nd rfl (.inl rfl)) (pgs_cons (pg_name (i := 4) sc_kept.nd rfl (.inl rfl)) pgs_nil)))) (fun _ _ _ _ _ => pts_nil) (fun _ _ _ _ _ => (pv 4))) pa_nil))))
      (pss_cons (ps_setLc (i := 7) (own := [("_law_here", 11)]) (g := gName 11) (by rfl) sc_kept.nd rfl rfl (sw_true rfl rfl rfl (by decide +kernel)) (pi_range1 (by rfl) B.range (pa_cons (pv 3) pa_nil)) (blkOk_by (own := [("_law_here", 11)]) (N := N_kept) (sc := defScope s_kept) (by decide +kernel)) (fun _ _ _ _ _ => (pg_name (i := 11) sc_kept.nd rfl (.inr rfl))) (fun _ _ _ _ _ => pts_nil) (fun _ _ _ _ _ => (pe_callB (show CallR _ _ (rMin K) from cr_min rfl) (by rfl) B.min (by decide +kernel) (pa_cons (pe_lc (own := [("_law_place", 6)]) (g := gName 6) (by rfl) sc_kept.nd (pi_range1 (by rfl) B.range (pa_cons (pv 3) pa_nil)) (blkOk_by (own := [("_law_place", 6)]) (by rfl)) (fun _ _ _ _ _ => (pg_name (i := 6) sc_kept.nd rfl (.inl rfl))) (fun _ _ _ _ _ => (pts_one (pt_cmpR op_eq (pe_ix (show IxR _ (rIxL K) from ix_list) (pv 1) (pv 6) (fun _ _ => rfl)) (pe_ix (show IxR _ (rIxL K) from ix_list) (pv 1) (pv 11) (fun _ _ => rfl)) (nomark _)))) (fun _ _ _ _ _ => (pv 6))) pa_nil))))
      (pss_cons (ps_if (pt_cmpR (op_neD hr.units) (pv 5) (pv 7) (nomark _)) (pss_one (ps_ret pe_bl)) pss_nil)
      (pss_cons (ps_set (i := 8) sc_kept.nd rfl (.inl rfl) (pv 3))
      (pss_cons (ps_for PassesOwn.never rfl (pi_list (pe_revL (pe_meth0 (pv 0) T.cl M_led_on G_led_on (hr.mono (by omega)) b_led_on .nil pass0))) (pg_name (i := 4) sc_kept.nd rfl (.inl rfl)) (pss_cons (ps_if (pt_cmpR op_ne (pe_ix ix_tup (pv 4) pe_int (fun _ _ => rfl)) (pv 8) (nomark _)) (pss_one (ps_ret pe_bl)) pss_nil)
      (pss_cons (ps_set (i := 8) sc_kept.nd rfl (.inl rfl) (pe_ix ix_tup (pv 4) pe_int (fun _ _ => rfl)))
      (pss_one (ps_for PassesOwn.never rfl (pi_range2 (by rfl) B.range (pa_cons (pe_ix ix_tup (pv 4) pe_int (fun _ _ => rfl)) (pa_cons (pe_ix ix_tup (pv 4) pe_int (fun _ _ => rfl)) pa_nil))) (pg_name (i := 6) sc_kept.nd rfl (.inl rfl)) (pss_one (ps_if (pt_cmpR op_eq (pe_ix ix_tup (pv 4) pe_int (fun _ _ => rfl)) pe_str (nomark _)) (pss_one (ps_if (pt_cmpR op_ne (pe_ix ix_list (pv 1) (pv 6) (fun _ _ => rfl)) (pv 6) (nomark _)) (pss_one (ps_ret pe_bl)) pss_nil)) (pss_cons (ps_set (i := 9) sc_kept.nd rfl (.inl rfl) (pe_ifExp (pt_cmpR op_eq (pe_ix ix_tup (pv 4) pe_int (fun _ _ => rfl)) pe_int (nomark _)) (pe_op op_sub (pe_op op_sub (pe_op op_add (pe_ix ix_tup (pv 4) pe_int (fun _ _ => rfl)) (pe_ix ix_tup (pv 4) pe_int (fun _ _ => rfl))) pe_int) (pv 6)) (pe_op op_add (pe_ix ix_tup (pv 4) pe_int (fun _ _ => rfl)) (pe_op op_mod (pe_op op_sub (pv 6) (pe_ix ix_tup (pv 4) pe_int (fun _ _ => rfl))) (pe_callB (call_max2 rfl) (by rfl) B.max (by decide +kernel) (pa_cons pe_int (pa_cons (pe_ix ix_tup (pv 4) pe_int (fun _ _ => rfl)) pa_nil)))))))
      (pss_one (ps_if (PW.pt (pw_or (pt_not (pt_cmpR op_lt (pv 9) (pe_ix ix_tup (pv 4) pe_int (fun _ _ => rfl)) (nomark _))) (pw_or1 (pt_cmpR op_ne (pe_ix ix_list (pv 1) (pv 9) (fun _ _ => rfl)) (pe_ix ix_list (pv 1) (pv 6) (fun _ _ => rfl)) (nomark _))))) (pss_one (ps_ret pe_bl)) pss_nil))))))))))
      (pss_one (ps_ret (pe_cmpR op_eq (pv 8) (pv 2) (nomark _)))))))))), ?_⟩
    obtain ⟨dx, ea⟩ := fa.at_a
    have hlen := wf.len
    have e0 := wf.e0
    refine ⟨.ref a, rfl, a, dx, _, rfl, ea, put_no, a, s, q, X.e, X.S, ps, rfl, fa, ?_⟩
    -- now
    refine ⟨.int X.e, rfl, .ref a, rfl, a, dx, _, rfl, ea, put_no, a, s, q, X.e, X.S, ps, rfl, fa, by omega, fun H1 r1 us s1 nr1 e1 ls => ?_⟩
    refine ⟨r1, rfl, ⟨_, SqL.of e1⟩, fun L nL => lc_list (K := K) (a := r1) (xs := us.map V.ref) (fun i H2 => ∃ ts, Same H1 H2 ∧ H2 L = some (.lst (ts.map V.ref)) ∧ Mts H2 ts ((X.S.map (·.2)).take i))
      ⟨[], same_upd nL, upd_same, .nil⟩ (fun i H2 _ ⟨_, sm, _⟩ => SqL.of (sm _ _ e1)) ?_ ?_⟩
    · rintro i x H2 hx ⟨ts, sm, eL, mt⟩
      rw [List.getElem?_map] at hx
      obtain ⟨u, hu', rfl⟩ := Option.map_eq_some_iff.mp hx
      obtain ⟨y, hy, t, eu, et⟩ := ls.get i u hu'
      have hl := mt.length
      have hi : i < X.S.length := (List.getElem?_eq_some_iff.mp hy).1
      rw [List.length_take, List.length_map] at hl
      refine ⟨u, _, rfl, SqT.of (sm _ _ eu), rfl, .int y.1, _, rfl, .ref t, _, rfl, rfl, rfl, .ref t, rfl, _, eL, sz_lt (by rw [List.length_map]; omega), ts ++ [t], fun c o hc => ?_, by rw [upd_same, List.map_append]; rfl, ?_⟩
      · rw [upd_ne (ne_of_none hc nL)]
        exact sm _ _ hc
      · have kt : KeepT H2 (upd H2 L (.lst (ts.map V.ref ++ [.ref t]))) := fun b xs hb => by
          rw [upd_ne (ne_of hb eL (fun z => by cases z))]
          exact hb
        rw [List.take_add_one, List.getElem?_map, hy]
        exact Mts.snoc (kt _ _ (sm _ _ et)) (mt.keep kt)
    rintro H2 ⟨ts, sm, eL, mt⟩
    rw [List.length_map, ls.length, List.take_of_length_le (by rw [List.length_map]; exact Nat.le_refl _)] at mt
    refine ⟨X.e, L, ts, X.S.map (·.2), rfl, eL, mt, fun x hx => ?_, e0, by omega, fun H3 r3 ns s3 nr3 e3 ir3 => ?_⟩
    · obtain ⟨y, hy, rfl⟩ := List.mem_map.mp hx
      exact rok_mrd (wf.r y hy)
    have ir4 := ir3.cong (fam_rows X.S)
    have s03 := (s1.trans sm).trans s3
    have hR3 := s03 _ _ hR
    have rl := ir.len
    have nl := ir4.len
    -- least_of
    refine ⟨.int X.e, rfl, X.e, rfl, by omega, by omega, fun M nM => lc_range (lo := 0) (n := X.e.toNat) (fun i H4 => Same H3 H4 ∧ H4 M = some (.lst ((ns.take i).map V.int)))
      ⟨same_upd nM, upd_same⟩ ?_ ?_⟩
    · rintro i H4 hi ⟨s4, eM⟩
      have hni := List.getElem?_eq_getElem (show i < ns.length by omega)
      generalize ns[i] = v at hni
      have hri := List.getElem?_eq_getElem (show i < rs.length by omega)
      generalize rs[i] = ri at hri
      obtain ⟨v0, v1, v2, v3⟩ := ir4.at_ i v hni
      refine ⟨rfl, .int X.e, rfl, X.e, rfl, by omega, by omega, fun N nN => lc_range (lo := 0) (n := X.e.toNat) (fun j H5 => Same H4 H5 ∧ ∃ ks : List Int, H5 N = some (.lst (ks.map V.int)) ∧ ks.length ≤ j ∧ ∀ k : Int, k ∈ ks ↔ 0 ≤ k ∧ k < j ∧ rs[k.toNat]? = some ri)
        ⟨same_upd nN, [], upd_same, Nat.le_refl _, fun k => ⟨fun h => (by cases h), fun h => (by omega)⟩⟩ ?_ ?_⟩
      · rintro j H5 hj ⟨s5, ks, eN, kl, mem⟩
        have hR5 := s5 _ _ (s4 _ _ hR3)
        have hrj := List.getElem?_eq_getElem (show j < rs.length by omega)
        generalize rs[j] = rj at hrj
        refine ⟨rfl, .ref R, rfl, .int (0 + (j : Int)), rfl, R, _, _, .int rj, rfl, rfl, SqL.of hR5, at_hs (by omega) (by rw [Int.zero_add, Int.toNat_natCast]; exact hrj), .ref R, rfl, .int (0 + (i : Int)), rfl, R, _, _, .int ri, rfl, rfl, SqL.of hR5, at_hs (by omega) (by rw [Int.zero_add, Int.toNat_natCast]; exact hri), rfl, _, rfl, ite2 (fun c => ?_) (fun c => ?_)⟩
        · have c' : rj = ri := V.int.inj (of_decide_eq_true c)
          refine ⟨.int (0 + (j : Int)), rfl, _, eN, sz_lt (by rw [List.length_map]; omega), fun b o hb => ?_, ks ++ [(j : Int)], ?_, by rw [List.length_append]; show ks.length + 1 ≤ j + 1; omega, fun k => ?_⟩
          · rw [upd_ne (ne_of_none hb nN)]
            exact s5 _ _ hb
          · rw [upd_same, List.map_append, Int.zero_add]
            rfl
          · rw [List.mem_append, mem k, List.mem_singleton]
            constructor
            · rintro (⟨h1, h2, h3⟩ | h)
              · exact ⟨h1, by omega, h3⟩
              · subst h
                exact ⟨by omega, by omega, by rw [Int.toNat_natCast, hrj, c']⟩
            · rintro ⟨h1, h2, h3⟩
              by_cases z : k = j
              · exact .inr z
              · exact .inl ⟨h1, by omega, h3⟩
        · have c' : ¬ rj = ri := fun z => c (decide_eq_true (congrArg V.int z))
          refine ⟨s5, ks, eN, by omega, fun k => ?_⟩
          rw [mem k]
          constructor
          · rintro ⟨h1, h2, h3⟩
            exact ⟨h1, by omega, h3⟩
          · rintro ⟨h1, h2, h3⟩
            refine ⟨h1, ?_, h3⟩
            by_cases z : k = j
            · subst z
              rw [Int.toNat_natCast, hrj] at h3
              exact absurd (Option.some.inj h3) c'
            · omega
      · rintro H5 ⟨s5, ks, eN, kl, mem⟩
        -- who has the same root, below the top
        have same : ∀ k : Int, 0 ≤ k → k < X.e → (rs[k.toNat]? = some ri ↔ Fam (Gn X.S) k (i : Int)) := fun k k0 k1 => by
          have hrk := List.getElem?_eq_getElem (show k.toNat < rs.length by omega)
          have e := ir.same hrk hri
          rw [show ((k.toNat : Nat) : Int) = k by omega] at e
          rw [← kp.fam k i k0 k1 (by omega) (by omega), ← e, hrk]
          exact ⟨fun h => Option.some.inj h, fun h => by rw [h]⟩
        have vin : v ∈ ks := (mem v).mpr ⟨v0, by omega, (same v v0 (by omega)).mpr v2.symm⟩
        refine ⟨N, ks, rfl, SqL.of eN, List.length_pos_of_mem vin, fun m hm ml => ?_⟩
        have m1 := ml v vin
        obtain ⟨m0, m2, m3⟩ := (mem m).mp hm
        have m4 := v3 m m0 ((same m m0 (by omega)).mp m3).symm
        have mv : m = v := by omega
        subst mv
        have nNM : M ≠ N := ne_of_none eM nN
        refine ⟨_, s5 _ _ eM, sz_lt (by rw [List.length_map, List.length_take]; omega), fun b o hb => ?_, ?_⟩
        · rw [upd_ne (ne_of_none hb nM)]
          exact s5 _ _ (s4 _ _ hb)
        · rw [upd_same, List.take_add_one, hni, List.map_append]
          rfl
    rintro H4 ⟨s4, eM⟩
    rw [List.take_of_length_le (by omega)] at eM
    have s04 := s03.trans s4
    refine ⟨.ref r3, rfl, .ref M, rfl, .list (ns.map .int), .list (ns.map .int), .lst (SqL.of (s4 _ _ e3)) (dp_ints ns), .lst (SqL.of eM) (dp_ints ns), shaped_ints ns, shaped_ints ns, _, rfl, ?_⟩
    rw [eqv_ints]
    refine iteF ?_
    have fa4 := fa.same s04
    have hp4 : Past H4 ps X.L := hp.keep fun b xs hb => s04 _ _ hb
    -- the events, the last first
    refine ⟨.int X.e, rfl, .ref a, rfl, a, dx, _, rfl, s04 _ _ ea, put_no, a, s, q, X.e, X.S, ps, rfl, fa4, fun r5 nr5 => ?_⟩
    have s5 := same_upd (H := H4) (o := .lst ps) nr5
    refine ⟨r5, ps, rfl, SqL.of upd_same, fun r6 nr6 => ?_⟩
    have s6 := s5.trans (same_upd (o := .lst ps.reverse) nr6)
    have s06 := s04.trans s6
    obtain ⟨H6, hH6⟩ : ∃ H6, H6 = upd (upd H4 r5 (.lst ps)) r6 (.lst ps.reverse) := ⟨_, rfl⟩
    have e6 : H6 r6 = some (.lst ps.reverse) := by
      rw [hH6]
      exact upd_same
    rw [← hH6] at s6 s06 ⊢
    have hp6 : Past H6 ps.reverse X.L.reverse := (hp4.keep fun b xs hb => s6 _ _ hb).rev
    have hR6 := s06 _ _ hR
    have at_R : ∀ {p : Int}, 0 ≤ p → p < X0.e → ∃ r, rs[p.toNat]? = some r ∧ atI (rs.map V.int) p = some (.int r) := fun {p} p0 p1 => by
      have h := List.getElem?_eq_getElem (show p.toNat < rs.length by omega)
      exact ⟨_, h, at_hs p0 h⟩
    refine ⟨r6, rfl, ⟨_, SqL.of e6⟩, for_list (K := K) (a := r6) (xs := ps.reverse) (fun i σ H7 => ∃ (y4 y6 y9 : Option V) (seen : Int), σ = [some (.ref a), some (.ref R), some (.int X0.e), some (.int X.e), y4, some (.ref r3), y6, some (.ref M), some (.int seen), y9, none, none] ∧ H6 = H7 ∧ Chn (Gn X0.S) X0.e seen (X.L.reverse.drop i))
      ⟨_, _, _, X.e, rfl, rfl, kp.chn⟩ (fun i σ H7 _ ⟨_, _, _, _, _, e, _⟩ => by rw [← e]; exact SqL.of e6) ?_ ?_⟩
    · rintro i x σ H7 hx ⟨y4, y6, y9, seen, rfl, rfl, ch⟩
      obtain ⟨ev, hev, t, rfl, et⟩ := hp6.get i x hx
      rw [List.drop_eq_getElem_cons (List.getElem?_eq_some_iff.mp hev).1, (List.getElem?_eq_some_iff.mp hev).2] at ch
      obtain ⟨c1, c2, c3, c4⟩ := ch
      have up : ∀ {t : Int} {l : List Ev}, Chn (Gn X0.S) X0.e t l → t ≤ X0.e := fun {t l} h => by
        induction l generalizing t with
        | nil => exact Int.le_of_eq h
        | cons v r ih =>
          have := ih h.2.2.2
          have := h.2.1
          omega
      have eu := up c4
      cases ev with
      | bare m e =>
        have c1' : m = seen := c1
        have c2' : seen ≤ e := c2
        have eu' : e ≤ X0.e := eu
        obtain ⟨m0, g⟩ := c3
        have e0' : H6 t = some (.tup [.str "bare", .int m, .int e]) := et
        refine ⟨.ref t, rfl, t, _, 1, .int m, rfl, rfl, SqT.of e0', atI_nat (j := 1) rfl, .int seen, rfl, rfl, _, rfl, ?_⟩
        rw [show (!decide (V.int m = V.int seen)) = false by rw [decide_eq_true (congrArg V.int c1')]; rfl]
        refine iteF ?_
        refine ⟨.ref t, rfl, t, _, 2, .int e, rfl, rfl, SqT.of e0', atI_nat (j := 2) rfl, ?_⟩
        refine ⟨.ref t, rfl, t, _, 1, .int m, rfl, rfl, SqT.of e0', atI_nat (j := 1) rfl, .ref t, rfl, t, _, 2, .int e, rfl, rfl, SqT.of e0', atI_nat (j := 2) rfl, m, e, rfl, ⟨by omega, by omega, by omega, by omega⟩, for_range (lo := m) (n := (e - m).toNat) (fun j σ H7 => ∃ (y6 y9 : Option V), σ = [some (.ref a), some (.ref R), some (.int X0.e), some (.int X.e), some (.ref t), some (.ref r3), y6, some (.ref M), some (.int e), y9, none, none] ∧ H6 = H7)
          ⟨_, _, rfl, rfl⟩ ?_ ?_⟩
        · rintro j σ H7 hj ⟨y6, y9, rfl, rfl⟩
          refine ⟨.ref t, rfl, t, _, 0, .str "bare", rfl, rfl, SqT.of e0', atI_nat (j := 0) rfl, rfl, _, rfl, ?_⟩
          refine iteT ?_
          obtain ⟨r, hr1, hr2⟩ := at_R (p := m + j) (by omega) (by omega)
          obtain ⟨r0, r1, r2, _⟩ := ir.at_ _ r hr1
          have := g (m + j) (by omega) (by omega) r r0 (by rw [show m + (j : Int) = ((m + (j : Int)).toNat : Int) by omega]; exact r2)
          have re : r = m + j := by omega
          refine ⟨.ref R, rfl, .int (m + j), rfl, R, _, _, .int r, rfl, rfl, SqL.of hR6, hr2, .int (m + j), rfl, rfl, _, rfl, ?_⟩
          rw [show (!decide (V.int r = V.int (m + j))) = false by rw [decide_eq_true (congrArg V.int re)]; rfl]
          refine iteF ?_
          exact ⟨_, _, rfl, rfl⟩
        · rintro σ H7 ⟨y6, y9, rfl, rfl⟩
          exact ⟨_, _, _, e, rfl, rfl, c4⟩
      | fold m e lo st fl =>
        have c1' : m = seen := c1
        have c2' : seen ≤ e := c2
        have eu' : e ≤ X0.e := eu
        obtain ⟨f01, m0, g⟩ := c3
        have e0' : H6 t = some (.tup [.str "fold", .int m, .int e, .int lo, .int st, .int fl]) := et
        refine ⟨.ref t, rfl, t, _, 1, .int m, rfl, rfl, SqT.of e0', atI_nat (j := 1) rfl, .int seen, rfl, rfl, _, rfl, ?_⟩
        rw [show (!decide (V.int m = V.int seen)) = false by rw [decide_eq_true (congrArg V.int c1')]; rfl]
        refine iteF ?_
        refine ⟨.ref t, rfl, t, _, 2, .int e, rfl, rfl, SqT.of e0', atI_nat (j := 2) rfl, ?_⟩
        refine ⟨.ref t, rfl, t, _, 1, .int m, rfl, rfl, SqT.of e0', atI_nat (j := 1) rfl, .ref t, rfl, t, _, 2, .int e, rfl, rfl, SqT.of e0', atI_nat (j := 2) rfl, m, e, rfl, ⟨by omega, by omega, by omega, by omega⟩, for_range (lo := m) (n := (e - m).toNat) (fun j σ H7 => ∃ (y6 y9 : Option V), σ = [some (.ref a), some (.ref R), some (.int X0.e), some (.int X.e), some (.ref t), some (.ref r3), y6, some (.ref M), some (.int e), y9, none, none] ∧ H6 = H7)
          ⟨_, _, rfl, rfl⟩ ?_ ?_⟩
        · rintro j σ H7 hj ⟨y6, y9, rfl, rfl⟩
          refine ⟨.ref t, rfl, t, _, 0, .str "fold", rfl, rfl, SqT.of e0', atI_nat (j := 0) rfl, rfl, _, rfl, ?_⟩
          refine iteF ?_
          obtain ⟨g0, g1, g2⟩ := g (m + j) (by omega) (by omega)
          obtain ⟨r, hr1, hr2⟩ := at_R (p := m + j) (by omega) (by omega)
          obtain ⟨r', hr3, hr4⟩ := at_R (p := evTo e lo st fl (m + j)) g0 (by omega)
          have re : r' = r := (ir.same hr3 hr1).mpr (by rw [show ((evTo e lo st fl (m + j)).toNat : Int) = evTo e lo st fl (m + j) by omega, show ((m + (j : Int)).toNat : Int) = m + j by omega]; exact g2)
          -- the last test
          refine ⟨.ref t, rfl, t, _, 5, .int fl, rfl, rfl, SqT.of e0', atI_nat (j := 5) rfl, rfl, _, rfl, ?_⟩
          refine ite2 (fun c => ?_) (fun c => ?_)
          · have c' : fl = 1 := V.int.inj (of_decide_eq_true c)
            have hz : evTo e lo st fl (m + j) = lo + e - 1 - (m + j) := by
              unfold evTo
              rw [if_pos c']
            refine ⟨.ref t, rfl, t, _, 3, .int lo, rfl, rfl, SqT.of e0', atI_nat (j := 3) rfl, .ref t, rfl, t, _, 2, .int e, rfl, rfl, SqT.of e0', atI_nat (j := 2) rfl, lo, e, rfl, rfl, _, 1, rfl, rfl, .int (m + j), rfl, _, _, rfl, rfl, ?_⟩
            refine ⟨.int (lo + e - 1 - (m + j)), rfl, .ref t, rfl, t, _, 1, .int m, rfl, rfl, SqT.of e0', atI_nat (j := 1) rfl, lo + e - 1 - (m + j), m, rfl, rfl, _, rfl, ?_⟩
            rw [hz] at g1 hr4
            rw [show decide (lo + e - 1 - (m + j) < m) = true from decide_eq_true g1]
            refine iteF ?_
            refine ⟨.ref R, rfl, .int (lo + e - 1 - (m + j)), rfl, R, _, _, .int r', rfl, rfl, SqL.of hR6, hr4, .ref R, rfl, .int (m + j), rfl, R, _, _, .int r, rfl, rfl, SqL.of hR6, hr2, rfl, _, rfl, ?_⟩
            rw [show (!decide (V.int r' = V.int r)) = false by rw [decide_eq_true (congrArg V.int re)]; rfl]
            refine iteF ?_
            exact ⟨_, _, rfl, rfl⟩
          · have c' : ¬ fl = 1 := fun z => c (decide_eq_true (congrArg V.int z))
            have hz : evTo e lo st fl (m + j) = lo + (m + j - lo) % (if st > 1 then st else 1) := by
              unfold evTo
              rw [if_neg c']
            refine ⟨.ref t, rfl, t, _, 3, .int lo, rfl, rfl, SqT.of e0', atI_nat (j := 3) rfl, .int (m + j), rfl, .ref t, rfl, t, _, 3, .int lo, rfl, rfl, SqT.of e0', atI_nat (j := 3) rfl, m + j, lo, rfl, rfl, .ref t, rfl, t, _, 4, .int st, rfl, rfl, SqT.of e0', atI_nat (j := 4) rfl, 1, st, rfl, _, _, rfl, rfl, by split <;> omega, _, _, rfl, rfl, ?_⟩
            refine ⟨.int (lo + (m + j - lo) % (if st > 1 then st else 1)), rfl, .ref t, rfl, t, _, 1, .int m, rfl, rfl, SqT.of e0', atI_nat (j := 1) rfl, lo + (m + j - lo) % (if st > 1 then st else 1), m, rfl, rfl, _, rfl, ?_⟩
            rw [hz] at g1 hr4
            rw [show decide (lo + (m + j - lo) % (if st > 1 then st else 1) < m) = true from decide_eq_true g1]
            refine iteF ?_
            refine ⟨.ref R, rfl, .int (lo + (m + j - lo) % (if st > 1 then st else 1)), rfl, R, _, _, .int r', rfl, rfl, SqL.of hR6, hr4, .ref R, rfl, .int (m + j), rfl, R, _, _, .int r, rfl, rfl, SqL.of hR6, hr2, rfl, _, rfl, ?_⟩
            rw [show (!decide (V.int r' = V.int r)) = false by rw [decide_eq_true (congrArg V.int re)]; rfl]
            refine iteF ?_
            exact ⟨_, _, rfl, rfl⟩
        · rintro σ H7 ⟨y6, y9, rfl, rfl⟩
          exact ⟨_, _, _, e, rfl, rfl, c4⟩
    · rintro σ H7 ⟨y4, y6, y9, seen, rfl, rfl, ch⟩
      have ll : X.L.reverse.length = ps.reverse.length := by rw [List.length_reverse, List.length_reverse, hp.length]
      rw [← ll, List.drop_length] at ch
      have ch' : seen = X0.e := ch
      refine ⟨.int seen, rfl, .int X0.e, rfl, rfl, ?_⟩
      rw [decide_eq_true (congrArg V.int ch')]
      exact qq _ s06
end

/-! ### law -/
abbrev s_law : Stmt := top 53
abbrev N_law : List Str := ["_law_script", "_law_draw", "_law_length", "_law_matings", "_law_roots_here", "_law_front", "_law_state", "_law_turn", "_law_move", "_law_some"]
abbrev P_law : List Str := ["_law_script"]
theorem sc_law : FnScope N_law P_law (defScope s_law) := ⟨rfl, rfl, rfl, by decide +kernel, rfl, by decide +kernel, by decide +kernel⟩
theorem Mrd.more {n k : Int} {x : M4} (h : Mrd n x) (hk : 0 ≤ k) : Mrd (n + k) x := ⟨h.m1, h.o0, by have := h.o1; omega, h.p0, by have := h.p1; omega, h.f01⟩
theorem last1 {xs : List Int} {i : Nat} {y : Int} (hl : xs.length = i + 1) (h : xs[i]? = some y) : atI (xs.map V.int) (-1) = some (.int y) := by
  unfold atI ixN
  rw [List.length_map, if_neg (by decide), if_pos (by omega)]
  show (xs.map V.int)[(-1 + (xs.length : Int)).toNat]? = _
  rw [show (-1 + (xs.length : Int)).toNat = i by omega, List.getElem?_map, h]
  rfl
theorem last2 {xs : List Int} {i : Nat} {y : Int} (hl : xs.length = i + 2) (h : xs[i]? = some y) : atI (xs.map V.int) (-2) = some (.int y) := by
  unfold atI ixN
  rw [List.length_map, if_neg (by decide), if_pos (by omega)]
  show (xs.map V.int)[(-2 + (xs.length : Int)).toNat]? = _
  rw [show (-2 + (xs.length : Int)).toNat = i by omega, List.getElem?_map, h]
  rfl
theorem takes_none {X : Cx} : L2.Takes X (fun _ _ _ _ => False) := fun u s' ⟨a, B, sI, pins, σ, H, cls, d, e, I, nb, up, sky, na, os, ag, w⟩ => w.elim
section
variable {P : Program} {w : World} {K : PySem.W.Frag} {mg : Str → Option Value} {base : Heap}
theorem ok_law {f fO fP fR fRo fBe fWs fMd fKe fFI fMk CM C : Addr} {fd fdO fdP fdR fdRo fdBe fdWs fdMd fdKe fdFI fdMk : FuncData} (F : Fun K "law" "law" s_law f fd) (D_open : DefAt K mg "_law_open" s_open P_open fO fdO) (D_pull : DefAt K mg "_law_pull" s_pull P_pull fP fdP)
    (D_road : DefAt K mg "_law_road" s_road P_road fR fdR) (G_road : FnOk P w K mg base CX0 3 fR fdR P_road spRoad) (D_roots : DefAt K mg "_law_roots" s_roots P_roots fRo fdRo) (G_roots : FnOk P w K mg base CX0 2 fRo fdRo P_roots spRoots) (D_begun : DefAt K mg "_law_begun" s_begun P_begun fBe fdBe) (G_begun : FnOk P w K mg base CX0 2 fBe fdBe P_begun spBegun)
    (D_wise : DefAt K mg "_law_wise" s_wise P_wise fWs fdWs) (G_wise : FnOk P w K mg base CX0 3 fWs fdWs P_wise spWise) (D_made : DefAt K mg "_law_made" s_made P_made fMd fdMd) (G_made : FnOk P w K mg base CX0 4 fMd fdMd P_made spMadeL)
    (D_kept : DefAt K mg "_law_kept" s_kept P_kept fKe fdKe) (G_kept : FnOk P w K mg base CX0 3 fKe fdKe P_kept (spKept C)) (T : FrT K mg C) (mkF : Mk K C fFI) (G_init : FnOk P w K mg base CX0 5 fFI fdFI P_Finit (spFinit K C)) (b_init : Binds K fdFI P_Finit [])
    (M_make : Meth K C "make" fMk) (G_make : FnOk P w K mg base (L2.CX P w) 6 fMk fdMk P_Fmake (spMakeS C CM)) (b_make : Binds K fdMk P_Fmake []) (B : Bn mg) :
    FnOk P w K mg base CX0 10 f fd P_law (spLaw K) := by
  have G_open : FnOk P w K mg base CX0 1 fO fdO P_open (spOpen K) := ok_open D_open B
  have G_pull : FnOk P w K mg base CX0 1 fP fdP P_pull spPull := ok_pull D_pull B
  refine F.ok sc_law (fun vs H Q E h => ?_) (fun cdv A outer s H vs Q E hr h => ?_)
  · obtain ⟨a, ns, rfl, _⟩ := h
    rfl
  · obtain ⟨a, ns, rfl, hS, hlen, q⟩ := h
    refine ⟨_, (pss_cons (ps_set (i := 1) sc_law.nd rfl (.inl rfl) (pe_call G_open (hr.mono (by omega)) (by rfl) D_open.g D_open.F.kp D_open.b .nil pass0 (pa_cons (pv 0) pa_nil)))
      (pss_cons (ps_asg (pe_call G_road (hr.mono (by omega)) (by rfl) D_road.g D_road.F.kp D_road.b .nil pass0 (pa_cons (pv 1) (pa_cons pe_int (pa_cons pe_int pa_nil)))) (pg_tup (by rfl) (pgs_cons (pg_name (i := 2) sc_law.nd rfl (.inl rfl)) (pgs_cons (pg_name (i := 3) sc_law.nd rfl (.inl rfl)) pgs_nil))))
      (pss_cons (ps_if (pt_cmpR op_eq (pe_call G_pull (hr.mono (by omega)) (by rfl) D_pull.g D_pull.F.kp D_pull.b .nil pass0 (pa_cons (pv 1) (pa_cons pe_int pa_nil))) pe_int (nomark _)) (pss_cons (ps_set (i := 2) sc_law.nd rfl (.inl rfl) (pe_op op_add (pv 2) pe_int))
      (pss_one (ps_set (i := 3) sc_law.nd rfl (.inl rfl) (pe_op op_cat (pv 3) (pe_lst (pa_cons (pe_tup (pa_cons pe_int (pa_cons (pe_op op_add pe_int (pe_call G_pull (hr.mono (by omega)) (by rfl) D_pull.g D_pull.F.kp D_pull.b .nil pass0 (pa_cons (pv 1) (pa_cons pe_int pa_nil)))) (pa_cons pe_int (pa_cons pe_int pa_nil))))) (pa_cons (pe_tup (pa_cons pe_int (pa_cons (pe_op op_add pe_int (pe_call G_pull (hr.mono (by omega)) (by rfl) D_pull.g D_pull.F.kp D_pull.b .nil pass0 (pa_cons (pv 1) (pa_cons pe_int pa_nil)))) (pa_cons pe_int (pa_cons pe_int pa_nil))))) pa_nil))))))) pss_nil)
      (pss_cons (ps_set (i := 4) sc_law.nd rfl (.inl rfl) (pe_call G_roots (hr.mono (by omega)) (by rfl) D_roots.g D_roots.F.kp D_roots.b .nil pass0 (pa_cons (pv 2) (pa_cons (pv 3) pa_nil))))
      (pss_cons (ps_set (i := 5) sc_law.nd rfl (.inl rfl) (pe_make mkF G_init (hr.mono (by omega)) (by rfl) T.gC b_init .nil pass0 (pa_cons (pv 2) (pa_cons (pv 3) pa_nil))))
      (pss_cons (ps_set (i := 6) sc_law.nd rfl (.inl rfl) (pe_call G_begun (hr.mono (by omega)) (by rfl) D_begun.g D_begun.F.kp D_begun.b .nil pass0 (pa_cons (pv 2) (pa_cons (pv 3) pa_nil))))
      (pss_cons (ps_for PassesOwn.never rfl (pi_range1 (by rfl) B.range (pa_cons pe_int pa_nil)) (pg_name (i := 7) sc_law.nd rfl (.inl rfl)) (pss_cons (ps_if (pt_cmpR op_gt (pe_ix ix_tup (pv 6) pe_int (fun _ _ => rfl)) pe_int (nomark _)) (pss_cons (ps_set (i := 8) sc_law.nd rfl (.inl rfl) (pe_call G_wise (hr.mono (by omega)) (by rfl) D_wise.g D_wise.F.kp D_wise.b .nil pass0 (pa_cons (pv 1) (pa_cons (pv 6) pa_nil))))
      (pss_cons (ps_set (i := 9) sc_law.nd rfl (.inl rfl) (pe_callB (call_sortedDI rfl) (by rfl) B.sorted (by decide +kernel) (pa_cons (pe_ix ix_tup (pv 6) pe_int (fun _ _ => rfl)) pa_nil)))
      (pss_cons (ps_if (PW.pt (pw_and (pt_cmpR op_eq (pv 7) pe_int (nomark _)) (pw_and (pt_cmpR op_gt (pe_callB call_len_seq (by rfl) B.len (by decide +kernel) (pa_cons (pv 9) pa_nil)) pe_int (nomark _)) (pw_and1 (pt_cmpR op_notN (pe_call G_made (hr.mono (by omega)) (by rfl) D_made.g D_made.F.kp D_made.b .nil pass0 (pa_cons (pv 6) (pa_cons (pe_tup (pa_cons pe_str (pa_cons (pe_ix ix_list (pv 9) (pe_un un_neg pe_int) (fun _ _ => rfl)) (pa_cons (pe_ix ix_list (pv 9) (pe_un un_neg pe_int) (fun _ _ => rfl)) pa_nil)))) pa_nil))) pe_non (nomark _)))))) (pss_one (ps_set (i := 8) sc_law.nd rfl (.inl rfl) (pe_tup (pa_cons pe_str (pa_cons (pe_ix ix_list (pv 9) (pe_un un_neg pe_int) (fun _ _ => rfl)) (pa_cons (pe_ix ix_list (pv 9) (pe_un un_neg pe_int) (fun _ _ => rfl)) pa_nil)))))) pss_nil)
      (pss_cons (ps_expr (pe_meth (pv 5) T.cl M_make G_make (hr.mono (by omega)) b_make .nil (passes_call takes_none fun _ _ _ _ h => h) (pa_cons (pv 8) pa_nil)))
      (pss_one (ps_set (i := 6) sc_law.nd rfl (.inl rfl) (pe_call G_made (hr.mono (by omega)) (by rfl) D_made.g D_made.F.kp D_made.b .nil pass0 (pa_cons (pv 6) (pa_cons (pv 8) pa_nil))))))))) pss_nil)
      (pss_one (ps_if (PW.pt (pw_and (pt_cmpR op_eq (pe_op op_mod (pv 7) pe_int) pe_int (nomark _)) (pw_and1 (pt_not (pt_val (pe_call G_kept (hr.mono (by omega)) (by rfl) D_kept.g D_kept.F.kp D_kept.b .nil pass0 (pa_cons (pv 5) (pa_cons (pv 4) (pa_cons (pv 2) pa_nil))))))))) (pss_one (ps_ret pe_bl)) pss_nil))))
      (pss_one (ps_ret (pe_call G_kept (hr.mono (by omega)) (by rfl) D_kept.g D_kept.F.kp D_kept.b .nil pass0 (pa_cons (pv 5) (pa_cons (pv 4) (pa_cons (pv 2) pa_nil))))))))))))), ?_⟩
    refine end_tail (A := tSeq _ _) fun e0 _ hr0 => seq_tail fun A1 a1 => ?_
    refine ⟨.ref a, rfl, a, ns, rfl, hS, hlen, fun H1 d l sm nd nl hD => ?_⟩
    -- the road
    refine a1 _ _ _ (seq_tail fun A2 a2 => ?_)
    refine ⟨.ref d, rfl, d, l, 24, 5, rfl, hD, by decide, by decide, by decide, by decide, fun H2 t L n ts ms D2 k2 et nL eL hM hR hl n1 n2 => ⟨t, _, rfl, SqT.of et, rfl, .int n, _, rfl, .ref L, _, rfl, rfl, ?_⟩⟩
    have nLd : L ≠ d := (draw_apart hD nL).1.symm
    refine a2 _ _ _ (seq_tail fun A3 a3 => ?_)
    -- what comes behind, for any road
    have rest : ∀ (G : Hp) (n : Int) (L : Addr) (ts : List Addr) (ms : List M4), Draw G d l → G L = some (.lst (ts.map V.ref)) → Mts G ts ms → (∀ x ∈ ms, Mrd n x) → ms.length ≤ 24 → 1 ≤ n → n ≤ 40 → A3 e0 [some (.ref a), some (.ref d), some (.int n), some (.ref L), none, none, none, none, none, none] G := by
      clear hR n1 n2 hl hM et eL nL k2 D2 nLd a1 a2
      intro G n L ts ms D2 eL hM hR hl n1 n2
      have mok : ∀ y ∈ ms, Mok n y := fun y hy => by
        obtain ⟨hm, h1, h3, h2, h4, hf⟩ := hR y hy
        exact ⟨hf, hm, h1, h2, h3, h4⟩
      obtain ⟨wf0, kb0⟩ := wf_first (n := n) (by omega) (by omega) mok hl
      refine a3 _ _ _ (seq_tail fun A4 a4 => ?_)
      refine ⟨.int n, rfl, .ref L, rfl, n, L, ts, ms, rfl, eL, hM, hR, by omega, by omega, fun H4 R rs s4 nR eR ir => ?_⟩
      have ir0 : IsRoots (Gn (en 0 ms)) n.toNat rs := ir.cong (fam_first ms)
      have D4 := D2.same s4
      have nRd : R ≠ d := (draw_apart D2 nR).1.symm
      have hM4 := hM.same s4
      -- the front
      refine a4 _ _ _ (seq_tail fun A5 a5 => ?_)
      refine ⟨.int n, rfl, .ref L, rfl, fun x dx nx ndx nex => ?_⟩
      have sI : Same H4 (upd (upd H4 dx (.own x)) x (.ins C dx [])) := (same_upd ndx).trans (same_upd (by rw [upd_ne nex.symm]; exact nx))
      refine ⟨x, dx, L, n, ts, ms, rfl, upd_same, by omega, by omega, sI _ _ (s4 _ _ eL), hM4.same sI, mok, hl, fun HC sd qd faC nsd nqd offC => ⟨rfl, ?_⟩⟩
      have sC : Same H4 HC := Same.made nx ndx offC
      have DC := D4.same sC
      have nq0 : qd ≠ d ∧ qd ≠ l := by
        obtain ⟨_, _, _, _, W⟩ := D4.same sI
        exact ⟨(ne_of_none W.at_d nqd).symm, (ne_of_none W.at_l nqd).symm⟩
      have nRq : R ≠ qd := ne_of_none (sI _ _ eR) nqd
      have fC : FrS C HC x sd qd ⟨n, en 0 ms, []⟩ := ⟨[], faC, .nil⟩
      have ERC := sC _ _ eR
      -- the state
      refine a5 _ _ _ (seq_tail fun A6 a6 => ?_)
      refine ⟨.int n, rfl, .ref L, rfl, n, L, ts, ms, rfl, sC _ _ (s4 _ _ eL), hM4.same sC, hl, fun H5 z r l1 s5 la nr nl1 => ?_⟩
      have f5 := fC.same s5
      have nrs : r ≠ sd := (FrS.ne_s fC nr).symm
      have nlq : l1 ≠ qd := (FrS.ne_q fC nl1).symm
      have nld : l1 ≠ d := (draw_apart DC nl1).1.symm
      refine a6 _ _ _ (seq_tail fun A7 a7 => ?_)
      refine ⟨60, rfl, by decide, by decide, for_range (lo := 0) (n := 60) (fun i σ G => ∃ (y7 y8 y9 : Option V) (z r l1 : Addr) (X : FS), σ = [some (.ref a), some (.ref d), some (.int n), some (.ref L), some (.ref R), some (.ref x), some (.ref z), y7, y8, y9] ∧ Draw G d l ∧ FrS C G x sd qd X ∧ LawAt G z r l1 X ∧ r ≠ sd ∧ l1 ≠ qd ∧ l1 ≠ d ∧ G R = some (.lst (rs.map V.int)) ∧ KptX ⟨n, en 0 ms, []⟩ X ∧ WF X ∧ KB X ∧ X.L.length ≤ i ∧ X.e ≤ n)
        ⟨none, none, none, z, r, l1, _, rfl, DC.same s5, f5, la, nrs, nlq, nld, s5 _ _ ERC, KptX.first _ rfl, wf0, kb0, Nat.zero_le _, Int.le_refl _⟩ ?_ ?_⟩
      · clear f5 nrs nlq nld la nr nl1 s5 fC DC sC offC faC nsd nqd sI nex ndx nx hM4 D4 nR eR s4 ir hM eL D2 ERC a3 a4 a5 a6
        rintro i σ G hi ⟨y7, y8, y9, z, r, l1, X, rfl, D6, f6, la6, nrs, nlq, nld, eR6, kp, wf, kb, ln, le⟩
        refine end_tail (A := tSeq _ _) fun e9 hn hr9 => seq_tail fun B2 b2 => ?_
        -- the test at the end of a turn
        have chk : ∀ (w8 w9 : Option V) (G : Hp) (z r l1 : Addr) (X : FS), Draw G d l → FrS C G x sd qd X → LawAt G z r l1 X → r ≠ sd → l1 ≠ qd → l1 ≠ d → G R = some (.lst (rs.map V.int)) → KptX ⟨n, en 0 ms, []⟩ X → WF X → KB X → X.L.length ≤ i + 1 → X.e ≤ n →
            B2 e9 [some (.ref a), some (.ref d), some (.int n), some (.ref L), some (.ref R), some (.ref x), some (.ref z), some (.int (0 + (i : Int))), w8, w9] G := by
          intro w8 w9 G z r l1 X DD ff la nrs nlq nld eR kp wf kb ln le
          refine b2 _ _ _ ?_
          refine ⟨.int (0 + (i : Int)), rfl, _, 4, rfl, rfl, (by show (0 : Int) < 4; decide), rfl, _, rfl, ite2 (fun c => ?_) (fun c => iteF ?_)⟩
          · refine ⟨.ref x, rfl, .ref R, rfl, .int n, rfl, x, sd, qd, R, ⟨n, en 0 ms, []⟩, X, rs, rfl, ff, wf, kp, eR, ir0, le, by show n ≤ 1000; omega, by omega, fun G8 s8 => ⟨true, rfl, iteF ?_⟩⟩
            exact hn _ _ ⟨_, _, _, z, r, l1, X, rfl, DD.same s8, ff.same s8, la.same s8, nrs, nlq, nld, s8 _ _ eR, kp, wf, kb, ln, le⟩
          · exact hn _ _ ⟨_, _, _, z, r, l1, X, rfl, DD, ff, la, nrs, nlq, nld, eR, kp, wf, kb, ln, le⟩
        refine ⟨.ref z, rfl, z, _, 0, .int X.e, rfl, rfl, SqT.of la6.at_z, atI_nat (j := 0) rfl, X.e, 0, rfl, rfl, _, rfl, ite2 (fun he => ?_) (fun he => ?_)⟩
        · have he' : 0 < X.e := of_decide_eq_true he
          refine end_tail (A := tSeq _ _) fun e10 hn10 hr10 => seq_tail fun C1 c1 => ?_
          refine ⟨.ref d, rfl, .ref z, rfl, d, l, z, r, l1, X, rfl, D6, la6, nld, wf, kb, he', fun H8 tm mo XN D8 k8 em hXN hmv => ?_⟩
          have eR8 := k8.of eR6 nRd
          have f8 := f6.keepD D6 nq0.1 k8
          have la8 := la6.keepD D6 nld k8
          clear D6 f6 la6 eR6
          -- the names of the matings
          refine c1 _ _ _ (seq_tail fun C2 c2 => ?_)
          obtain ⟨kvs, er, st⟩ := id la8.at_r
          have hlen' := wf.len
          refine ⟨.ref z, rfl, z, _, 1, .ref r, rfl, rfl, SqT.of la8.at_z, atI_nat (j := 1) rfl, r, kvs, X.S.map (·.1), rfl, .inl er, st.keys, by rw [List.length_map]; omega, fun ys p py so np => ?_⟩
          have ey := perm_sorted py so wf.up
          subst ey
          have s9 := same_upd (H := H8) (o := .lst ((X.S.map (·.1)).map V.int)) np
          have D9 := D8.same s9
          have f9 := f8.same s9
          have la9 := la8.same s9
          have eR9 := s9 _ _ eR8
          have em9 := s9 _ _ em
          have ep9 : (upd H8 p (.lst ((X.S.map (·.1)).map V.int))) p = some (.lst ((X.S.map (·.1)).map V.int)) := upd_same
          generalize upd H8 p (.lst ((X.S.map (·.1)).map V.int)) = H9 at D9 f9 la9 eR9 em9 ep9
          refine c2 _ _ _ (seq_tail fun C3 c3 => ?_)
          -- the move made
          have go : ∀ (G : Hp) (tm : Addr) (mo : Mo) (XN : FS), Draw G d l → FrS C G x sd qd X → LawAt G z r l1 X → G R = some (.lst (rs.map V.int)) → G tm = some (.tup (moV mo)) → mkS X mo = some XN → (∀ y ∈ moV mo, MV y) →
              C3 e10 [some (.ref a), some (.ref d), some (.int n), some (.ref L), some (.ref R), some (.ref x), some (.ref z), some (.int (0 + (i : Int))), some (.ref tm), some (.ref p)] G := by
            intro G tm mo XN DD ff la eR em hXN hmv
            refine c3 _ _ _ ?_
            obtain ⟨psA, faA, _⟩ := id ff
            obtain ⟨dxA, eaA⟩ := faA.at_a
            obtain ⟨nm, ys, hm⟩ : ∃ nm ys, moV mo = .str nm :: ys := by cases mo <;> exact ⟨_, _, rfl⟩
            have lmo : (moV mo).length ≤ 20 := by cases mo <;> simp [moV]
            have mvs : MvS (moV mo) X (some XN) := ⟨.inl ⟨mo, rfl, hXN.symm⟩, hmv, lmo⟩
            refine ⟨.ref x, rfl, x, dxA, _, rfl, eaA, fr_no (by decide +kernel) (by decide +kernel) (by decide +kernel), .ref tm, rfl, x, sd, qd, tm, X, moV mo, some XN, rfl, ff, wf, by omega, em, mvs, fun XN' eN HA fA oA => ?_, fun e => (by cases e)⟩
            cases eN
            have kt := ff.offT oA
            have DA := draw_offS DD ff oA nq0.1.symm nq0.2.symm
            have laA := la.off ff nrs nlq oA
            have eRA := ff.lst_off eR nRq oA
            refine ⟨.ref z, rfl, .ref tm, rfl, z, r, l1, tm, X, moV mo, some XN, nm, ys, rfl, laA, wf, by omega, kt _ _ em, hm, mvs, fun e => (by cases e), fun XN' eN HB zN rN lN sB laB n1' n2' => ?_⟩
            cases eN
            have le' : XN.e ≤ X.e := by
              rcases (mkS_fam wf hXN).2 with ⟨e, _⟩ | ⟨_, _, _, _, e, _⟩ <;> omega
            refine hn10 _ _ (chk _ _ HB zN rN lN XN (DA.same sB) (fA.same sB) laB (FrS.ne_s fA n1').symm ?_ ?_ (sB _ _ eRA) (kp.next wf hXN) (mkS_wf wf hXN) (mkS_kb kb hXN) (by have := mkS_len hXN; omega) (by omega))
            · rcases n2' with e | e
              · rw [e]
                exact nlq
              · exact (FrS.ne_q fA e).symm
            · rcases n2' with e | e
              · rw [e]
                exact nld
              · exact (draw_apart DA e).1.symm
          refine ⟨.int (0 + (i : Int)), rfl, rfl, _, rfl, ite2 (fun c => ?_) (fun c => iteF (go H9 tm mo XN D9 f9 la9 eR9 em9 hXN hmv))⟩
          refine ⟨.ref p, rfl, p, _, rfl, .inl (SqL.of ep9), _, 1, rfl, rfl, _, rfl, ite2 (fun c => ?_) (fun c => iteF (go H9 tm mo XN D9 f9 la9 eR9 em9 hXN hmv))⟩
          have cl : 1 < (((X.S.map (·.1)).map V.int).length : Int) := of_decide_eq_true c
          rw [List.length_map, List.length_map] at cl
          obtain ⟨k, hk⟩ : ∃ k, (X.S.map (·.1)).length = k + 2 := ⟨X.S.length - 2, by rw [List.length_map]; omega⟩
          have h1 := List.getElem?_eq_getElem (show k + 1 < (X.S.map (·.1)).length by omega)
          have h2 := List.getElem?_eq_getElem (show k < (X.S.map (·.1)).length by omega)
          generalize (X.S.map (·.1))[k + 1] = y1 at h1
          generalize (X.S.map (·.1))[k] = y2 at h2
          have b1 : 0 ≤ y1 ∧ y1 ≤ 100 := by
            obtain ⟨s', hs', rfl⟩ := List.mem_map.mp (List.mem_of_getElem? h1)
            exact kb s' hs'
          have b2' : 0 ≤ y2 ∧ y2 ≤ 100 := by
            obtain ⟨s', hs', rfl⟩ := List.mem_map.mp (List.mem_of_getElem? h2)
            exact kb s' hs'
          have at1 := last1 (i := k + 1) (by omega) h1
          have at2 := last2 (i := k) (by omega) h2
          have mv3 : ∀ y ∈ moV (.merge y1 y2), MV y := al3 mvs_merge (mvi b1.1 (by omega)) (mvi b2'.1 (by omega))
          have mvs2 : MvS (moV (.merge y1 y2)) X (mkS X (.merge y1 y2)) := ⟨.inl ⟨_, rfl, rfl⟩, mv3, by show 3 ≤ 20; decide⟩
          refine ⟨.ref z, rfl, .ref p, rfl, 1, rfl, p, _, _, .int y1, rfl, rfl, SqL.of ep9, at1, .ref p, rfl, 2, rfl, p, _, _, .int y2, rfl, rfl, SqL.of ep9, at2, by show 3 ≤ sizeLine; decide, fun tM ntM => ?_⟩
          have sM := same_upd (H := H9) (o := .tup (moV (.merge y1 y2))) ntM
          refine ⟨z, r, l1, tM, X, moV (.merge y1 y2), mkS X (.merge y1 y2), "merge", [.int y1, .int y2], rfl, la9.same sM, wf, by omega, upd_same, rfl, mvs2, fun e H' s' => ?_, fun X2 e2 H' z' r' l' s' la' n1' n2' => ?_⟩
          · have sS := sM.trans s'
            refine ⟨rfl, _, rfl, ?_⟩
            rw [show (!decide (V.non = V.non)) = false by rw [decide_eq_true rfl]; rfl]
            exact iteF (go H' tm mo XN (D9.same sS) (f9.same sS) (la9.same sS) (sS _ _ eR9) (sS _ _ em9) hXN hmv)
          · have sS := sM.trans s'
            refine ⟨rfl, _, rfl, ?_⟩
            rw [show (!decide (V.ref z' = V.non)) = true by rw [decide_eq_false (fun h => by cases h)]; rfl]
            refine iteT ?_
            refine ⟨.ref p, rfl, 1, rfl, p, _, _, .int y1, rfl, rfl, SqL.of (sS _ _ ep9), at1, .ref p, rfl, 2, rfl, p, _, _, .int y2, rfl, rfl, SqL.of (sS _ _ ep9), at2, by show 3 ≤ sizeLine; decide, fun tm2 ntm2 => ?_⟩
            have sT := sS.trans (same_upd (o := .tup (moV (.merge y1 y2))) ntm2)
            exact go _ tm2 (.merge y1 y2) X2 (D9.same sT) (f9.same sT) (la9.same sT) (sT _ _ eR9) upd_same e2 mv3
        · exact chk _ _ _ z r l1 X D6 f6 la6 nrs nlq nld eR6 kp wf kb (by omega) le
      · rintro σ G ⟨y7, y8, y9, z, r, l1, X, rfl, D6, f6, la6, nrs, nlq, nld, eR6, kp, wf, kb, ln, le⟩
        refine a7 _ _ _ ?_
        exact ⟨.ref x, rfl, .ref R, rfl, .int n, rfl, x, sd, qd, R, ⟨n, en 0 ms, []⟩, X, rs, rfl, f6, wf, kp, eR6, ir0, le, by show n ≤ 1000; omega, by omega, fun G8 s8 => hr0 _ _ (q G8)⟩
    refine ⟨.ref d, rfl, d, l, 2, rfl, D2, by decide, by decide, fun v H3 v0 v1 D3 k3 => ⟨rfl, _, rfl, ite2 (fun c => ?_) (fun c => ?_)⟩⟩
    · have eL3 := k3.of eL nLd
      have hM3 := hM.keep (D2.keepT k3)
      refine ⟨.int n, rfl, n, 10, rfl, rfl, ?_⟩
      refine ⟨.ref L, rfl, .ref d, rfl, d, l, 3, rfl, D3, by decide, by decide, fun u1 H4 u10 u11 D4 k4 => ⟨2, u1, rfl, rfl, by show 4 ≤ sizeLine; decide, fun t1 nt1 => ?_⟩⟩
      have s5 := same_upd (H := H4) (o := .tup [.int 0, .int (2 + u1), .int 6, .int 0]) nt1
      have D5 := D4.same s5
      refine ⟨.ref d, rfl, d, l, 3, rfl, D5, by decide, by decide, fun u2 H6 u20 u21 D6 k6 => ⟨2, u2, rfl, rfl, by show 4 ≤ sizeLine; decide, fun t2 nt2 => ?_⟩⟩
      have s7 := same_upd (H := H6) (o := .tup [.int 0, .int (2 + u2), .int 5, .int 0]) nt2
      refine ⟨by show 2 ≤ sizeLine; decide, fun L2 nL2 => ?_⟩
      have s8 := s7.trans (same_upd (o := .lst [.ref t1, .ref t2]) nL2)
      have kt1 : KeepT H3 H4 := D3.keepT k4
      have kt2 : KeepT (upd H4 t1 (.tup [.int 0, .int (2 + u1), .int 6, .int 0])) H6 := D5.keepT k6
      have et1 := kt2 _ _ upd_same
      have eL8 := s8 _ _ (k6.of (s5 _ _ (k4.of eL3 nLd)) nLd)
      have hml := hM.length
      refine ⟨L, L2, _, _, rfl, rfl, eL8, upd_same, by rw [List.length_map]; exact Nat.le_of_lt (sz_lt (by show ts.length + 2 < 100000; omega)), fun L3 nL3 => ?_⟩
      have s9 := s8.trans (same_upd (o := .lst (ts.map V.ref ++ [.ref t1, .ref t2])) nL3)
      refine rest _ (n + 10) L3 (ts ++ [t1, t2]) (ms ++ [(0, 2 + u1, 6, 0), (0, 2 + u2, 5, 0)]) (D6.same s9) ?_ ?_ ?_ ?_ (by omega) (by omega)
      · rw [upd_same, List.map_append]
        rfl
      · have m1 : Mts H6 ts ms := (((hM3.keep kt1).same s5)).keep kt2
        have m2 := Mts.snoc (s9 _ _ et1) (x := (0, 2 + u1, 6, 0)) (m1.same s9)
        have m3 := Mts.snoc (H := upd (upd (upd H6 t2 (.tup [.int 0, .int (2 + u2), .int 5, .int 0])) L2 (.lst [.ref t1, .ref t2])) L3 (.lst (ts.map V.ref ++ [.ref t1, .ref t2]))) (x := (0, 2 + u2, 5, 0)) (((same_upd nL2).trans (same_upd nL3)) _ _ upd_same) m2
        rw [List.append_assoc, List.append_assoc] at m3
        exact m3
      · intro y hy
        rcases List.mem_append.mp hy with h | h
        · exact (hR y h).more (by decide)
        · simp only [List.mem_cons, List.not_mem_nil, or_false] at h
          rcases h with rfl | rfl
          · exact ⟨by show (1 : Int) ≤ 6; decide, by show (0 : Int) ≤ 0; decide, by show 0 + 6 ≤ n + 10; omega, by show 0 ≤ 2 + u1; omega, by show 2 + u1 + 6 ≤ n + 10; omega, .inl rfl⟩
          · exact ⟨by show (1 : Int) ≤ 5; decide, by show (0 : Int) ≤ 0; decide, by show 0 + 5 ≤ n + 10; omega, by show 0 ≤ 2 + u2; omega, by show 2 + u2 + 5 ≤ n + 10; omega, .inl rfl⟩
      · rw [List.length_append]
        show ms.length + 2 ≤ 24
        omega
    · exact rest H3 n L ts ms D3 (k3.of eL nLd) (hM.keep (D2.keepT k3)) hR (by omega) n1 (by omega)
end

/-! ### the head by a run: what the top leaves, told by names -/
theorem len1 {α : Type} {M : List α → Prop} (h : ∀ a, M [a]) : ∀ us : List α, us.length = 1 → M us
  | [a], _ => h a
theorem len2 {α : Type} {M : List α → Prop} (h : ∀ a b, M [a, b]) : ∀ us : List α, us.length = 2 → M us
  | [a, b], _ => h a b
theorem len3 {α : Type} {M : List α → Prop} (h : ∀ a b c, M [a, b, c]) : ∀ us : List α, us.length = 3 → M us
  | [a, b, c], _ => h a b c
theorem len4 {α : Type} {M : List α → Prop} (h : ∀ a b c d, M [a, b, c, d]) : ∀ us : List α, us.length = 4 → M us
  | [a, b, c, d], _ => h a b c d
def dD (x : Str) (st : Stmt) : He.DefD := { at_ := (x, none), name := x, qual := x, params := defArgs st, body := defBody st, scope := defScope st }
def dM (C m q : Str) (st : Stmt) : He.DefD := { at_ := (C, some m), name := m, qual := q, params := defArgs st, body := defBody st, scope := defScope st }
def dMs (C m q : Str) (st : Stmt) : He.DefD := { at_ := (C, some m), name := m, qual := q, params := defArgs st, body := defBody st, scope := defScope st, dfl := [.str ""] }
section
variable {K : PySem.W.Frag} {fas : List He.Fa} {fns : List He.DefD}
theorem raw_of {x q : Str} {ar : Arguments} {bd : List Stmt} {sc : Scope} {f : Addr} {fd : FuncData} (F : FunD K x q ar bd sc [] [] f fd) :
    ∃ oc od osl kV doc pm an cd ct, K.lookup f = some ⟨oc, od, .func (PySem.W.fnOf x q ar bd sc .none kV doc pm an cd ct), osl⟩ ∧ PySem.W.codeIn K cd q = true ∧ PySem.W.keepIn K (.ref f) = true := by
  obtain ⟨⟨oc, od, dV, kV, doc, pm, an, cd, ct, osl, rfl, hlk, hco, hdf, _⟩, hkp⟩ := F
  rcases hdf with ⟨_, hz⟩ | ⟨hne, _⟩
  · subst hz
    exact ⟨oc, od, osl, kV, doc, pm, an, cd, ct, hlk, hco, hkp⟩
  · exact absurd rfl hne
theorem say_def (c : He.SaysD fas fns K) (i : Nat) {x : Str} {st : Stmt} (e : fns[i]? = some (dD x st)) :
    ∃ oc od osl kV doc pm an cd ct, K.lookup (He.ga K x) = some ⟨oc, od, .func (PySem.W.fnOf x x (defArgs st) (defBody st) (defScope st) .none kV doc pm an cd ct), osl⟩ ∧ PySem.W.codeIn K cd x = true ∧ PySem.W.keepIn K (.ref (He.ga K x)) = true := by
  obtain ⟨fd, F⟩ := c.def_ i e
  exact raw_of F
theorem say_meth (c : He.SaysD fas fns K) (i : Nat) {C m q : Str} {st : Stmt} (e : fns[i]? = some (dM C m q st)) :
    ∃ oc od osl kV doc pm an cd ct, K.lookup (He.ma K (He.ga K C) m) = some ⟨oc, od, .func (PySem.W.fnOf m q (defArgs st) (defBody st) (defScope st) .none kV doc pm an cd ct), osl⟩ ∧ PySem.W.codeIn K cd q = true ∧ PySem.W.keepIn K (.ref (He.ma K (He.ga K C) m)) = true := by
  obtain ⟨fd, F⟩ := c.def_ i e
  exact raw_of F
theorem say_far (c : He.SaysD fas fns K) (i : Nat) {C m q : Str} {st : Stmt} (e : fns[i]? = some (dMs C m q st)) :
    ∃ fd, FunD K m q (defArgs st) (defBody st) (defScope st) [.str ""] [] (He.ma K (He.ga K C) m) fd := by
  obtain ⟨fd, F⟩ := c.def_ i e
  exact ⟨fd, F⟩
theorem say_law (c : He.SaysD fas fns K) (i : Nat) {x : Str} {st : Stmt} (e : fns[i]? = some (dD x st)) :
    ∃ oc od osl kV doc pm an ct, K.lookup (He.ga K x) = some ⟨oc, od, .func (PySem.W.fnOf x x (defArgs st) (defBody st) (defScope st) .none kV doc pm an (.ref (He.cT K (x, none)).1) ct), osl⟩ ∧ PySem.W.codeIn K (.ref (He.cT K (x, none)).1) x = true ∧ PySem.W.keepIn K (.ref (He.ga K x)) = true := by
  obtain ⟨oc, od, osl, kV, doc, pm, an, cd, ct, h1, h2, h3⟩ := say_def c i e
  obtain ⟨z, rfl⟩ := He.codeIn_ref h2
  have hz : He.codeOf K (x, none) = z := He.codeOf_eq (p := (x, none)) h1 rfl
  have hz2 : (He.cT K (x, none)).1 = z := hz
  rw [hz2]
  exact ⟨oc, od, osl, kV, doc, pm, an, ct, h1, h2, h3⟩
theorem say_int (c : He.SaysD fas fns K) (j : Nat) {x : Str} {i : Int} (e : fas[j]? = some (.int x i)) : ∃ t, PySem.W.nsIn K mainGlobals x = some (some (.int i t)) := by
  have q : (match PySem.W.nsIn K mainGlobals x with | some (some (.int u _)) => decide (u = i) | _ => false) = true := c.fact j e
  split at q
  · rename_i k t hk
    have hki := of_decide_eq_true q
    subst hki
    exact ⟨t, hk⟩
  · cases q
theorem say_str (c : He.SaysD fas fns K) (j : Nat) {x z : Str} (e : fas[j]? = some (.str x z)) : ∃ t, PySem.W.nsIn K mainGlobals x = some (some (.str z t)) := by
  have q : (match PySem.W.nsIn K mainGlobals x with | some (some (.str u _)) => decide (u = z) | _ => false) = true := c.fact j e
  split at q
  · rename_i k t hk
    have hki := of_decide_eq_true q
    subst hki
    exact ⟨t, hk⟩
  · cases q
theorem all_at {l : List Bool} (h : l.all (fun b => b) = true) (i : Nat) {b : Bool} (e : l[i]? = some b) : b = true := List.all_eq_true.mp h b (List.mem_of_getElem? e)
/-- what is looked at of an own error's class -/
def errB (K : PySem.W.Frag) (C : Addr) : Bool := (match K.lookup C with
    | some ⟨.type t, _, .cls cd, sl⟩ => decide (t = "type") && (cd.hasDict && (!cd.hasDel && (match cd.mro, sl.toList with
      | .ref D :: bm, [_, _, _, _, some (.builtin n), _] => decide (D = C) && (decide (n = "ValueError.__new__") && PySem.HandSPX.refsVE bm)
      | _, _ => false)))
    | _ => false) && (He.eqO (PySem.W.findIn K (.ref C) "__setattr__") (some (some (.builtin "object.__setattr__"))) && (decide (PySem.W.subIn K (.ref C) (.type "BaseException") = some true) &&
  (decide (PySem.W.typeIn K (.ref C) = some (.type "type")) && (PySem.W.keepIn K (.ref C) && He.eqO (PySem.W.findIn K (.ref C) "word") (some none)))))
theorem errB_ok {C : Addr} (h : errB K C = true) : ErrT K C := by
  obtain ⟨h0, h⟩ := He.ba h
  obtain ⟨h1, h⟩ := He.ba h
  obtain ⟨h2, h⟩ := He.ba h
  obtain ⟨h3, h⟩ := He.ba h
  obtain ⟨h4, h5⟩ := He.ba h
  refine ⟨⟨?_, He.eqO_ok h1, of_decide_eq_true h2, of_decide_eq_true h3, h4⟩, He.eqO_ok h5⟩
  split at h0
  · rename_i t dd cd sl hC
    obtain ⟨g1, g⟩ := He.ba h0
    obtain ⟨g2, g⟩ := He.ba g
    obtain ⟨g3, g⟩ := He.ba g
    have e1 : t = "type" := of_decide_eq_true g1
    subst e1
    split at g
    · rename_i D bm y0 y1 y2 y3 n y5 hm hs
      obtain ⟨e2, g⟩ := He.ba g
      obtain ⟨e3, e4⟩ := He.ba g
      have e2' := of_decide_eq_true e2
      have e3' := of_decide_eq_true e3
      subst e2' e3'
      obtain ⟨nm, bs, mro, ns, qn, hd, sn, sub, ab, col, del⟩ := cd
      obtain ⟨sll⟩ := sl
      have e5 : mro = .ref D :: bm := hm
      have e6 : hd = true := g2
      have e7 : del = false := by
        cases del with
        | false => rfl
        | true => cases g3
      have e8 : sll = [y0, y1, y2, y3, some (.builtin "ValueError.__new__"), y5] := hs
      subst e5 e6 e7 e8
      exact ⟨nm, qn, ns, bs, bm, sn, sub, ab, col, dd, y0, y1, y2, y3, y5, hC, e4⟩
    · cases g
  · cases h0
def excB (K : PySem.W.Frag) (C : Addr) : Bool := xfB K C && (He.eqO (PySem.W.findIn K (.ref C) "__class__") (some (some (.builtin "object.__class__"))) && (He.eqO (PySem.W.specialIn K (.builtin "object.__class__") "__get__") (some (some (.builtin "getset_descriptor.__get__"))) &&
  (decide (PySem.W.takesIn K (.builtin "object.__class__") = some true) && decide (PySem.W.mroIn K C (.type "object") = some true))))
theorem excB_ok {C : Addr} (h : excB K C = true) : ExcC K C := by
  obtain ⟨h0, h⟩ := He.ba h
  obtain ⟨h1, h⟩ := He.ba h
  obtain ⟨h2, h⟩ := He.ba h
  obtain ⟨h3, h4⟩ := He.ba h
  have x := xfB_ok h0
  exact ⟨x.ga, x.gg, x.exC, x.hdC, He.eqO_ok h1, He.eqO_ok h2, of_decide_eq_true h3, of_decide_eq_true h4⟩
def cfnB (K : PySem.W.Frag) (C : Addr) (m : Str) (f : Addr) : Bool := He.eqO (PySem.W.specialIn K (.ref C) "__getattribute__") (some (some (.builtin "type.__getattribute__"))) && (PySem.W.readsIn K C (.type "type") && ((match PySem.W.findCls K (.ref C) (.type "type") m with
    | some (.val (.ref g)) => decide (g = f)
    | _ => false) && PySem.W.keepIn K (.ref f)))
theorem cfnB_ok {C f : Addr} {m : Str} (h : cfnB K C m f = true) : ClsFn K C m f := by
  obtain ⟨h0, h⟩ := He.ba h
  obtain ⟨h1, h⟩ := He.ba h
  obtain ⟨h2, h3⟩ := He.ba h
  refine ⟨He.eqO_ok h0, h1, ?_, h3⟩
  split at h2
  · rename_i g hg
    have e := of_decide_eq_true h2
    subst e
    exact hg
  · cases h2
def bltB (K : PySem.W.Frag) (T m b : String) : Bool := match PySem.W.findCls K (.type T) (.type "type") m with
  | some (.val (.builtin g)) => decide (g = b)
  | _ => false
theorem bltB_ok {T m b : String} (h : bltB K T m b = true) : PySem.W.findCls K (.type T) (.type "type") m = some (.val (.builtin b)) := by
  unfold bltB at h
  split at h
  · rename_i g hg
    have e := of_decide_eq_true h
    subst e
    exact hg
  · cases h
theorem far_binds {f : Addr} {fd : FuncData} (F : FunD K "__init__" "FarError.__init__" (defArgs s_farinit) (defBody s_farinit) (defScope s_farinit) [.str ""] [] f fd) : Binds K fd N_farinit [] := by
  obtain ⟨ds, v, b⟩ := F.binds1 (ps := N_farinit) 2 1 (by simp) rfl fun T kV doc pm an cdv ct us its hu hi => match us, hu, its, hi with | [_, _], _, [_], _ => ⟨_, rfl, rfl⟩
  cases v
  exact b
end
/-! ### the hook: what the names reach, and the statics -/
def lawAt : He.Defn := ("law", none)
/-- what an object names, as far as the facts ask: a dict's values, a function's code and defaults, a class's names -/
def kidsY (o : Obj) : List Addr := match o.data with
  | .dict es _ => es.toList.flatMap fun e => He.refV e.val
  | .func fd => He.refV fd.code ++ He.refV fd.defaults
  | .cls cd => [cd.ns]
  | _ => []
def downY (g : Addr → Option Obj) (as : List Addr) : List Addr := as.flatMap fun a => match g a with
  | some o => kidsY o
  | none => []
/-- the module's names, their codes and the classes' names, the methods, their codes -/
def reachY (g : Addr → Option Obj) (a1 : List Addr) : List Addr := a1 ++ (downY g a1 ++ (downY g (downY g a1) ++ downY g (downY g (downY g a1))))
def seenY (g : Addr → Option Obj) : PySem.W.Frag := He.frT g (cStatics :: mainGlobals :: reachY g (downY g [mainGlobals]))
def tabY (g : Addr → Option Obj) (K : PySem.W.Frag) : Bool := PySem.W.codeHdIn K (He.cT K lawAt).1 (He.cT K lawAt).2 && (g (He.cT K lawAt).2).any He.emptyTab
structure SaysY (fas : List He.Fa) (fns : List He.DefD) (ex : PySem.W.Frag → List Bool) (h : Heap) (K : PySem.W.Frag) : Prop where
  d : He.SaysD fas fns K
  more : (ex K).all (fun b => b) = true
  hd : PySem.W.codeHdIn K (He.cT K lawAt).1 (He.cT K lawAt).2 = true
  out : K.lookup (He.cT K lawAt).2 = none
  mt : h.get? (He.cT K lawAt).2 = some (PySem.W.tabObj #[])
abbrev AlY : Type := He.AlD × Bool
def obsY (fas : List He.Fa) (fns : List He.DefD) (ex : PySem.W.Frag → List Bool) (g : Addr → Option Obj) : AlY := (He.obsD fas fns (seenY g), (ex (seenY g)).all (fun b => b) && tabY g (seenY g))
theorem saysY_of {fas : List He.Fa} {fns : List He.DefD} {ex : PySem.W.Frag → List Bool} {h : Heap} (e : obsY fas fns ex h.get? = (He.valD fns, true)) : SaysY fas fns ex h (seenY h.get?) := by
  have e1 : He.obsD fas fns (seenY h.get?) = He.valD fns := congrArg (fun z : AlY => z.1) e
  have e2 : ((ex (seenY h.get?)).all (fun b => b) && tabY h.get? (seenY h.get?)) = true := congrArg (fun z : AlY => z.2) e
  obtain ⟨m1, m2⟩ := He.ba e2
  obtain ⟨m3, m4⟩ := He.ba m2
  have m5 : ∃ u, h.get? (He.cT (seenY h.get?) lawAt).2 = some u ∧ He.emptyTab u = true := by
    cases q : h.get? (He.cT (seenY h.get?) lawAt).2 with
    | none =>
      rw [q] at m4
      cases m4
    | some u =>
      rw [q] at m4
      exact ⟨u, rfl, m4⟩
  obtain ⟨u, hu, hv⟩ := m5
  exact ⟨e1, m1, m3, He.frT_none hu hv, hu.trans (congrArg some (He.emptyTab_eq hv))⟩
def hookY (fas : List He.Fa) (fns : List He.DefD) (ex : PySem.W.Frag → List Bool) : PySem.W.Hook where
  α := AlY
  obs := fun s => obsY fas fns ex s.heap.get?
  val := fun _ => (He.valD fns, true)
  says := fun _ h => ∃ K : PySem.W.Frag, K.In h ∧ SaysY fas fns ex h K
  of := fun _ _ e => ⟨_, He.frT_in, saysY_of e⟩
  keeps := fun _ _ _ ⟨K, a, b⟩ k => ⟨K, PySem.W.Frag.In.keeps a k, b.d, b.more, b.hd, b.out, k _ _ b.mt⟩
theorem obsY_eq {fas : List He.Fa} {fns : List He.DefD} {ex : PySem.W.Frag → List Bool} (s : PySem.W.SharedT) : obsY fas fns ex (HandSHeadRun.getT s) = (hookY fas fns ex).obs s.abs := by
  have e : HandSHeadRun.getT s = s.abs.heap.get? := funext (HandSHeadRun.getT_eq s)
  rw [e]
  rfl
/-! ### the run by parts: each looks at one thing -/
section
open HandSHeadRun PyProof.Rows PySem.Calls PySem.W
def PartEq {β : Type} (p : Program) (M : Nat) (f : PySem.W.SharedT → β) (v : World → β) : Prop := ∀ (w : World) (os : OsState), (endF (stepQ (denQ tabQ) p w) M p w os).map f = some (v w)
/-- what is looked at of the world's own -/
def SeenEq (r : PySem.W.OpenRow) (q : Program) (M : Nat) (loose : List Str) : Prop := ∀ (w : World) (os : OsState),
  (endF (stepQ (denQ tabQ) r.prog w) M r.prog w os).map (fun s => (looksF r.prog (boot_heap w.params) s.abs, seenQ q loose (importedModules r.prog.main.body) (fun s => PySem.W.xlAt q [] s && PySem.W.recOk r.toRowW.records s) s.abs)) = some (true, PySem.W.openGood q loose)
/-- all that is a truth -/
def okY (fas : List He.Fa) (fns : List He.DefD) (ex : PySem.W.Frag → List Bool) (g : Addr → Option Obj) (K : PySem.W.Frag) : Bool := ((fas.all fun f => f.ok K) && fns.all fun d => d.ok K) && ((ex K).all (fun b => b) && tabY g K)
theorem run_parts {r : PySem.W.OpenRow} {q : Program} {M : Nat} {loose : List Str} {fas : List He.Fa} {fns : List He.DefD} {ex : PySem.W.Frag → List Bool} (e1 : SeenEq r q M loose) (e2 : PartEq r.prog M (fun s => okY fas fns ex (getT s) (seenY (getT s))) fun _ => true)
    (e4 : PartEq r.prog M (fun s => fns.map fun d => He.fnW (seenY (getT s)) d.at_) fun _ => fns.map He.DefD.val) (w : World) : RunEq r q (hookY fas fns ex) (fun s => obsY fas fns ex (getT s)) M loose w := fun os => by
  obtain ⟨s, hs, h1⟩ := Option.map_eq_some_iff.mp (e1 w os)
  have at_s : ∀ {β : Type} {f : PySem.W.SharedT → β} {v : World → β}, PartEq r.prog M f v → f s = v w := fun h => by
    have z := h w os
    rw [hs] at z
    exact Option.some.inj z
  obtain ⟨a1, a2⟩ := Prod.mk.inj h1
  obtain ⟨b1, b2⟩ := He.ba (show (((fas.all fun f => f.ok (seenY (getT s))) && fns.all fun d => d.ok (seenY (getT s))) && ((ex (seenY (getT s))).all (fun b => b) && tabY (getT s) (seenY (getT s)))) = true from at_s e2)
  rw [hs]
  exact congrArg some (Prod.ext a1 (Prod.ext a2 (Prod.ext (Prod.ext b1 (at_s e4)) b2)))
end
theorem all_mk {l : PySem.W.OpenLaw} {w : World} {K : PySem.W.Frag} {h : Heap} {mg : Str → Option Value} {fa : Addr}
    {f0 : Addr} {od0 an0 : Option Addr} {sl0 : Array (Option Value)} {oc0 kV0 dc0 pm0 ct0 cd0 : Value}
    {f1 : Addr} {od1 an1 : Option Addr} {sl1 : Array (Option Value)} {oc1 kV1 dc1 pm1 ct1 cd1 : Value}
    {f2 : Addr} {od2 an2 : Option Addr} {sl2 : Array (Option Value)} {oc2 kV2 dc2 pm2 ct2 cd2 : Value}
    {f3 : Addr} {od3 an3 : Option Addr} {sl3 : Array (Option Value)} {oc3 kV3 dc3 pm3 ct3 cd3 : Value}
    {f4 : Addr} {od4 an4 : Option Addr} {sl4 : Array (Option Value)} {oc4 kV4 dc4 pm4 ct4 cd4 : Value}
    {f5 : Addr} {od5 an5 : Option Addr} {sl5 : Array (Option Value)} {oc5 kV5 dc5 pm5 ct5 cd5 : Value}
    {f6 : Addr} {od6 an6 : Option Addr} {sl6 : Array (Option Value)} {oc6 kV6 dc6 pm6 ct6 cd6 : Value}
    {f7 : Addr} {od7 an7 : Option Addr} {sl7 : Array (Option Value)} {oc7 kV7 dc7 pm7 ct7 cd7 : Value}
    {f8 : Addr} {od8 an8 : Option Addr} {sl8 : Array (Option Value)} {oc8 kV8 dc8 pm8 ct8 cd8 : Value}
    {f9 : Addr} {od9 an9 : Option Addr} {sl9 : Array (Option Value)} {oc9 kV9 dc9 pm9 ct9 cd9 : Value}
    {f10 : Addr} {od10 an10 : Option Addr} {sl10 : Array (Option Value)} {oc10 kV10 dc10 pm10 ct10 cd10 : Value}
    {f11 : Addr} {od11 an11 : Option Addr} {sl11 : Array (Option Value)} {oc11 kV11 dc11 pm11 ct11 cd11 : Value}
    {f12 : Addr} {od12 an12 : Option Addr} {sl12 : Array (Option Value)} {oc12 kV12 dc12 pm12 ct12 cd12 : Value}
    {f13 : Addr} {od13 an13 : Option Addr} {sl13 : Array (Option Value)} {oc13 kV13 dc13 pm13 ct13 cd13 : Value}
    {f14 : Addr} {od14 an14 : Option Addr} {sl14 : Array (Option Value)} {oc14 kV14 dc14 pm14 ct14 cd14 : Value}
    {f15 : Addr} {od15 an15 : Option Addr} {sl15 : Array (Option Value)} {oc15 kV15 dc15 pm15 ct15 cd15 : Value}
    {f16 : Addr} {od16 an16 : Option Addr} {sl16 : Array (Option Value)} {oc16 kV16 dc16 pm16 ct16 cd16 : Value}
    {f17 : Addr} {od17 an17 : Option Addr} {sl17 : Array (Option Value)} {oc17 kV17 dc17 pm17 ct17 cd17 : Value}
    {f18 : Addr} {od18 an18 : Option Addr} {sl18 : Array (Option Value)} {oc18 kV18 dc18 pm18 ct18 cd18 : Value}
    {f19 : Addr} {od19 an19 : Option Addr} {sl19 : Array (Option Value)} {oc19 kV19 dc19 pm19 ct19 cd19 : Value}
    {f20 : Addr} {od20 an20 : Option Addr} {sl20 : Array (Option Value)} {oc20 kV20 dc20 pm20 ct20 cd20 : Value}
    {f21 : Addr} {od21 an21 : Option Addr} {sl21 : Array (Option Value)} {oc21 kV21 dc21 pm21 ct21 cd21 : Value}
    {f22 : Addr} {od22 an22 : Option Addr} {sl22 : Array (Option Value)} {oc22 kV22 dc22 pm22 ct22 cd22 : Value}
    {f23 : Addr} {od23 an23 : Option Addr} {sl23 : Array (Option Value)} {oc23 kV23 dc23 pm23 ct23 cd23 : Value}
    {f24 : Addr} {od24 an24 : Option Addr} {sl24 : Array (Option Value)} {oc24 kV24 dc24 pm24 ct24 cd24 : Value}
    {f25 : Addr} {od25 an25 : Option Addr} {sl25 : Array (Option Value)} {oc25 kV25 dc25 pm25 ct25 cd25 : Value}
    {f26 : Addr} {od26 an26 : Option Addr} {sl26 : Array (Option Value)} {oc26 kV26 dc26 pm26 ct26 cd26 : Value}
    {f27 : Addr} {od27 an27 : Option Addr} {sl27 : Array (Option Value)} {oc27 kV27 dc27 pm27 ct27 cd27 : Value}
    {f28 : Addr} {od28 an28 : Option Addr} {sl28 : Array (Option Value)} {oc28 kV28 dc28 pm28 ct28 cd28 : Value}
    {f29 : Addr} {od29 an29 : Option Addr} {sl29 : Array (Option Value)} {oc29 kV29 dc29 pm29 ct29 cd29 : Value}
    {f30 : Addr} {od30 an30 : Option Addr} {sl30 : Array (Option Value)} {oc30 kV30 dc30 pm30 ct30 cd30 : Value}
    {f31 : Addr} {od31 an31 : Option Addr} {sl31 : Array (Option Value)} {oc31 kV31 dc31 pm31 ct31 cd31 : Value}
    {f32 : Addr} {od32 an32 : Option Addr} {sl32 : Array (Option Value)} {oc32 kV32 dc32 pm32 ct32 cd32 : Value}
    {f33 : Addr} {od33 an33 : Option Addr} {sl33 : Array (Option Value)} {oc33 kV33 dc33 pm33 ct33 cd33 : Value}
    {f34 : Addr} {od34 an34 : Option Addr} {sl34 : Array (Option Value)} {oc34 kV34 dc34 pm34 ct34 cd34 : Value}
    {f35 : Addr} {od35 an35 : Option Addr} {sl35 : Array (Option Value)} {oc35 kV35 dc35 pm35 ct35 cd35 : Value}
    {f36 : Addr} {od36 an36 : Option Addr} {sl36 : Array (Option Value)} {oc36 kV36 dc36 pm36 ct36 cd36 : Value}
    {f37 : Addr} {od37 an37 : Option Addr} {sl37 : Array (Option Value)} {oc37 kV37 dc37 pm37 ct37 cd37 : Value}
    {f38 : Addr} {od38 an38 : Option Addr} {sl38 : Array (Option Value)} {oc38 kV38 dc38 pm38 ct38 cd38 : Value}
    {f39 c Pt : Addr} {od39 an39 : Option Addr} {sl39 : Array (Option Value)} {oc39 kV39 dc39 pm39 ct39 : Value}
    {C_FarError f_FarError : Addr} {fdF : FuncData}
    {C_BadMove f_BadMove : Addr} {od_BadMove an_BadMove : Option Addr} {sl_BadMove : Array (Option Value)} {oc_BadMove kV_BadMove dc_BadMove pm_BadMove cd_BadMove ct_BadMove : Value}
    {C_Front : Addr}
    {fm___init__ : Addr} {odm___init__ anm___init__ : Option Addr} {slm___init__ : Array (Option Value)} {ocm___init__ kVm___init__ dcm___init__ pmm___init__ cdm___init__ ctm___init__ : Value}
    {fm_make : Addr} {odm_make anm_make : Option Addr} {slm_make : Array (Option Value)} {ocm_make kVm_make dcm_make pmm_make cdm_make ctm_make : Value}
    {fm_made : Addr} {odm_made anm_made : Option Addr} {slm_made : Array (Option Value)} {ocm_made kVm_made dcm_made pmm_made cdm_made ctm_made : Value}
    {fm_idle : Addr} {odm_idle anm_idle : Option Addr} {slm_idle : Array (Option Value)} {ocm_idle kVm_idle dcm_idle pmm_idle cdm_idle ctm_idle : Value}
    {fm_halve : Addr} {odm_halve anm_halve : Option Addr} {slm_halve : Array (Option Value)} {ocm_halve kVm_halve dcm_halve pmm_halve cdm_halve ctm_halve : Value}
    {fm_merge : Addr} {odm_merge anm_merge : Option Addr} {slm_merge : Array (Option Value)} {ocm_merge kVm_merge dcm_merge pmm_merge cdm_merge ctm_merge : Value}
    {fm_lead : Addr} {odm_lead anm_lead : Option Addr} {slm_lead : Array (Option Value)} {ocm_lead kVm_lead dcm_lead pmm_lead cdm_lead ctm_lead : Value}
    {fm_fold : Addr} {odm_fold anm_fold : Option Addr} {slm_fold : Array (Option Value)} {ocm_fold kVm_fold dcm_fold pmm_fold cdm_fold ctm_fold : Value}
    {fm_bare : Addr} {odm_bare anm_bare : Option Addr} {slm_bare : Array (Option Value)} {ocm_bare kVm_bare dcm_bare pmm_bare cdm_bare ctm_bare : Value}
    {fm_put : Addr} {odm_put anm_put : Option Addr} {slm_put : Array (Option Value)} {ocm_put kVm_put dcm_put pmm_put cdm_put ctm_put : Value}
    {fm_left : Addr} {odm_left anm_left : Option Addr} {slm_left : Array (Option Value)} {ocm_left kVm_left dcm_left pmm_left cdm_left ctm_left : Value}
    {fm_leader : Addr} {odm_leader anm_leader : Option Addr} {slm_leader : Array (Option Value)} {ocm_leader kVm_leader dcm_leader pmm_leader cdm_leader ctm_leader : Value}
    {fm_reach : Addr} {odm_reach anm_reach : Option Addr} {slm_reach : Array (Option Value)} {ocm_reach kVm_reach dcm_reach pmm_reach cdm_reach ctm_reach : Value}
    {fm_top : Addr} {odm_top anm_top : Option Addr} {slm_top : Array (Option Value)} {ocm_top kVm_top dcm_top pmm_top cdm_top ctm_top : Value}
    {fm_led_on : Addr} {odm_led_on anm_led_on : Option Addr} {slm_led_on : Array (Option Value)} {ocm_led_on kVm_led_on dcm_led_on pmm_led_on cdm_led_on ctm_led_on : Value}
    {tk_FAR : Tok}
    {tk_MOST : Tok}
    (X : K.In h) (G : h.Ns mainGlobals mg) (hfa : mg "law" = some (.ref fa)) (hT : h.get? Pt = some (PySem.W.tabObj #[]))
    (a0 : PySem.W.nsIn K mainGlobals "_law_open" = some (some (.ref f0))) (l0 : K.lookup f0 = some ⟨oc0, od0, .func (PySem.W.fnOf "_law_open" "_law_open" (defArgs s_open) (defBody s_open) (defScope s_open) .none kV0 dc0 pm0 an0 cd0 ct0), sl0⟩) (c0 : PySem.W.codeIn K cd0 "_law_open" = true) (k0 : PySem.W.keepIn K (.ref f0) = true)
    (a1 : PySem.W.nsIn K mainGlobals "_law_pull" = some (some (.ref f1))) (l1 : K.lookup f1 = some ⟨oc1, od1, .func (PySem.W.fnOf "_law_pull" "_law_pull" (defArgs s_pull) (defBody s_pull) (defScope s_pull) .none kV1 dc1 pm1 an1 cd1 ct1), sl1⟩) (c1 : PySem.W.codeIn K cd1 "_law_pull" = true) (k1 : PySem.W.keepIn K (.ref f1) = true)
    (a2 : PySem.W.nsIn K mainGlobals "_law_any" = some (some (.ref f2))) (l2 : K.lookup f2 = some ⟨oc2, od2, .func (PySem.W.fnOf "_law_any" "_law_any" (defArgs s_any) (defBody s_any) (defScope s_any) .none kV2 dc2 pm2 an2 cd2 ct2), sl2⟩) (c2 : PySem.W.codeIn K cd2 "_law_any" = true) (k2 : PySem.W.keepIn K (.ref f2) = true)
    (a3 : PySem.W.nsIn K mainGlobals "_law_shuffled" = some (some (.ref f3))) (l3 : K.lookup f3 = some ⟨oc3, od3, .func (PySem.W.fnOf "_law_shuffled" "_law_shuffled" (defArgs s_shuffled) (defBody s_shuffled) (defScope s_shuffled) .none kV3 dc3 pm3 an3 cd3 ct3), sl3⟩) (c3 : PySem.W.codeIn K cd3 "_law_shuffled" = true) (k3 : PySem.W.keepIn K (.ref f3) = true)
    (a4 : PySem.W.nsIn K mainGlobals "_law_mating" = some (some (.ref f4))) (l4 : K.lookup f4 = some ⟨oc4, od4, .func (PySem.W.fnOf "_law_mating" "_law_mating" (defArgs s_mating) (defBody s_mating) (defScope s_mating) .none kV4 dc4 pm4 an4 cd4 ct4), sl4⟩) (c4 : PySem.W.codeIn K cd4 "_law_mating" = true) (k4 : PySem.W.keepIn K (.ref f4) = true)
    (a5 : PySem.W.nsIn K mainGlobals "_law_road" = some (some (.ref f5))) (l5 : K.lookup f5 = some ⟨oc5, od5, .func (PySem.W.fnOf "_law_road" "_law_road" (defArgs s_road) (defBody s_road) (defScope s_road) .none kV5 dc5 pm5 an5 cd5 ct5), sl5⟩) (c5 : PySem.W.codeIn K cd5 "_law_road" = true) (k5 : PySem.W.keepIn K (.ref f5) = true)
    (a6 : PySem.W.nsIn K mainGlobals "_law_ends" = some (some (.ref f6))) (l6 : K.lookup f6 = some ⟨oc6, od6, .func (PySem.W.fnOf "_law_ends" "_law_ends" (defArgs s_ends) (defBody s_ends) (defScope s_ends) .none kV6 dc6 pm6 an6 cd6 ct6), sl6⟩) (c6 : PySem.W.codeIn K cd6 "_law_ends" = true) (k6 : PySem.W.keepIn K (.ref f6) = true)
    (a7 : PySem.W.nsIn K mainGlobals "_law_root" = some (some (.ref f7))) (l7 : K.lookup f7 = some ⟨oc7, od7, .func (PySem.W.fnOf "_law_root" "_law_root" (defArgs s_root) (defBody s_root) (defScope s_root) .none kV7 dc7 pm7 an7 cd7 ct7), sl7⟩) (c7 : PySem.W.codeIn K cd7 "_law_root" = true) (k7 : PySem.W.keepIn K (.ref f7) = true)
    (a8 : PySem.W.nsIn K mainGlobals "_law_roots" = some (some (.ref f8))) (l8 : K.lookup f8 = some ⟨oc8, od8, .func (PySem.W.fnOf "_law_roots" "_law_roots" (defArgs s_roots) (defBody s_roots) (defScope s_roots) .none kV8 dc8 pm8 an8 cd8 ct8), sl8⟩) (c8 : PySem.W.codeIn K cd8 "_law_roots" = true) (k8 : PySem.W.keepIn K (.ref f8) = true)
    (a9 : PySem.W.nsIn K mainGlobals "_law_first" = some (some (.ref f9))) (l9 : K.lookup f9 = some ⟨oc9, od9, .func (PySem.W.fnOf "_law_first" "_law_first" (defArgs s_first) (defBody s_first) (defScope s_first) .none kV9 dc9 pm9 an9 cd9 ct9), sl9⟩) (c9 : PySem.W.codeIn K cd9 "_law_first" = true) (k9 : PySem.W.keepIn K (.ref f9) = true)
    (a10 : PySem.W.nsIn K mainGlobals "_law_leads" = some (some (.ref f10))) (l10 : K.lookup f10 = some ⟨oc10, od10, .func (PySem.W.fnOf "_law_leads" "_law_leads" (defArgs s_leads) (defBody s_leads) (defScope s_leads) .none kV10 dc10 pm10 an10 cd10 ct10), sl10⟩) (c10 : PySem.W.codeIn K cd10 "_law_leads" = true) (k10 : PySem.W.keepIn K (.ref f10) = true)
    (a11 : PySem.W.nsIn K mainGlobals "_law_reach" = some (some (.ref f11))) (l11 : K.lookup f11 = some ⟨oc11, od11, .func (PySem.W.fnOf "_law_reach" "_law_reach" (defArgs s_reach) (defBody s_reach) (defScope s_reach) .none kV11 dc11 pm11 an11 cd11 ct11), sl11⟩) (c11 : PySem.W.codeIn K cd11 "_law_reach" = true) (k11 : PySem.W.keepIn K (.ref f11) = true)
    (a12 : PySem.W.nsIn K mainGlobals "_law_lead" = some (some (.ref f12))) (l12 : K.lookup f12 = some ⟨oc12, od12, .func (PySem.W.fnOf "_law_lead" "_law_lead" (defArgs s_lead) (defBody s_lead) (defScope s_lead) .none kV12 dc12 pm12 an12 cd12 ct12), sl12⟩) (c12 : PySem.W.codeIn K cd12 "_law_lead" = true) (k12 : PySem.W.keepIn K (.ref f12) = true)
    (a13 : PySem.W.nsIn K mainGlobals "_law_join_two" = some (some (.ref f13))) (l13 : K.lookup f13 = some ⟨oc13, od13, .func (PySem.W.fnOf "_law_join_two" "_law_join_two" (defArgs s_join_two) (defBody s_join_two) (defScope s_join_two) .none kV13 dc13 pm13 an13 cd13 ct13), sl13⟩) (c13 : PySem.W.codeIn K cd13 "_law_join_two" = true) (k13 : PySem.W.keepIn K (.ref f13) = true)
    (a14 : PySem.W.nsIn K mainGlobals "_law_made_more" = some (some (.ref f14))) (l14 : K.lookup f14 = some ⟨oc14, od14, .func (PySem.W.fnOf "_law_made_more" "_law_made_more" (defArgs s_made_more) (defBody s_made_more) (defScope s_made_more) .none kV14 dc14 pm14 an14 cd14 ct14), sl14⟩) (c14 : PySem.W.codeIn K cd14 "_law_made_more" = true) (k14 : PySem.W.keepIn K (.ref f14) = true)
    (a15 : PySem.W.nsIn K mainGlobals "_law_made" = some (some (.ref f15))) (l15 : K.lookup f15 = some ⟨oc15, od15, .func (PySem.W.fnOf "_law_made" "_law_made" (defArgs s_made) (defBody s_made) (defScope s_made) .none kV15 dc15 pm15 an15 cd15 ct15), sl15⟩) (c15 : PySem.W.codeIn K cd15 "_law_made" = true) (k15 : PySem.W.keepIn K (.ref f15) = true)
    (a16 : PySem.W.nsIn K mainGlobals "_law_begun" = some (some (.ref f16))) (l16 : K.lookup f16 = some ⟨oc16, od16, .func (PySem.W.fnOf "_law_begun" "_law_begun" (defArgs s_begun) (defBody s_begun) (defScope s_begun) .none kV16 dc16 pm16 an16 cd16 ct16), sl16⟩) (c16 : PySem.W.codeIn K cd16 "_law_begun" = true) (k16 : PySem.W.keepIn K (.ref f16) = true)
    (a17 : PySem.W.nsIn K mainGlobals "_law_less" = some (some (.ref f17))) (l17 : K.lookup f17 = some ⟨oc17, od17, .func (PySem.W.fnOf "_law_less" "_law_less" (defArgs s_less) (defBody s_less) (defScope s_less) .none kV17 dc17 pm17 an17 cd17 ct17), sl17⟩) (c17 : PySem.W.codeIn K cd17 "_law_less" = true) (k17 : PySem.W.keepIn K (.ref f17) = true)
    (a18 : PySem.W.nsIn K mainGlobals "_law_wise" = some (some (.ref f18))) (l18 : K.lookup f18 = some ⟨oc18, od18, .func (PySem.W.fnOf "_law_wise" "_law_wise" (defArgs s_wise) (defBody s_wise) (defScope s_wise) .none kV18 dc18 pm18 an18 cd18 ct18), sl18⟩) (c18 : PySem.W.codeIn K cd18 "_law_wise" = true) (k18 : PySem.W.keepIn K (.ref f18) = true)
    (a19 : PySem.W.nsIn K mainGlobals "_law_kept" = some (some (.ref f19))) (l19 : K.lookup f19 = some ⟨oc19, od19, .func (PySem.W.fnOf "_law_kept" "_law_kept" (defArgs s_kept) (defBody s_kept) (defScope s_kept) .none kV19 dc19 pm19 an19 cd19 ct19), sl19⟩) (c19 : PySem.W.codeIn K cd19 "_law_kept" = true) (k19 : PySem.W.keepIn K (.ref f19) = true)
    (a20 : PySem.W.nsIn K mainGlobals "need_from" = some (some (.ref f20))) (l20 : K.lookup f20 = some ⟨oc20, od20, .func (PySem.W.fnOf "need_from" "need_from" (defArgs s_need_from) (defBody s_need_from) (defScope s_need_from) .none kV20 dc20 pm20 an20 cd20 ct20), sl20⟩) (c20 : PySem.W.codeIn K cd20 "need_from" = true) (k20 : PySem.W.keepIn K (.ref f20) = true)
    (a21 : PySem.W.nsIn K mainGlobals "need_within" = some (some (.ref f21))) (l21 : K.lookup f21 = some ⟨oc21, od21, .func (PySem.W.fnOf "need_within" "need_within" (defArgs s_need_within) (defBody s_need_within) (defScope s_need_within) .none kV21 dc21 pm21 an21 cd21 ct21), sl21⟩) (c21 : PySem.W.codeIn K cd21 "need_within" = true) (k21 : PySem.W.keepIn K (.ref f21) = true)
    (a22 : PySem.W.nsIn K mainGlobals "need_length" = some (some (.ref f22))) (l22 : K.lookup f22 = some ⟨oc22, od22, .func (PySem.W.fnOf "need_length" "need_length" (defArgs s_need_length) (defBody s_need_length) (defScope s_need_length) .none kV22 dc22 pm22 an22 cd22 ct22), sl22⟩) (c22 : PySem.W.codeIn K cd22 "need_length" = true) (k22 : PySem.W.keepIn K (.ref f22) = true)
    (a23 : PySem.W.nsIn K mainGlobals "need_mating" = some (some (.ref f23))) (l23 : K.lookup f23 = some ⟨oc23, od23, .func (PySem.W.fnOf "need_mating" "need_mating" (defArgs s_need_mating) (defBody s_need_mating) (defScope s_need_mating) .none kV23 dc23 pm23 an23 cd23 ct23), sl23⟩) (c23 : PySem.W.codeIn K cd23 "need_mating" = true) (k23 : PySem.W.keepIn K (.ref f23) = true)
    (a24 : PySem.W.nsIn K mainGlobals "need_road" = some (some (.ref f24))) (l24 : K.lookup f24 = some ⟨oc24, od24, .func (PySem.W.fnOf "need_road" "need_road" (defArgs s_need_road) (defBody s_need_road) (defScope s_need_road) .none kV24 dc24 pm24 an24 cd24 ct24), sl24⟩) (c24 : PySem.W.codeIn K cd24 "need_road" = true) (k24 : PySem.W.keepIn K (.ref f24) = true)
    (a25 : PySem.W.nsIn K mainGlobals "is_mating" = some (some (.ref f25))) (l25 : K.lookup f25 = some ⟨oc25, od25, .func (PySem.W.fnOf "is_mating" "is_mating" (defArgs s_is_mating) (defBody s_is_mating) (defScope s_is_mating) .none kV25 dc25 pm25 an25 cd25 ct25), sl25⟩) (c25 : PySem.W.codeIn K cd25 "is_mating" = true) (k25 : PySem.W.keepIn K (.ref f25) = true)
    (a26 : PySem.W.nsIn K mainGlobals "normal" = some (some (.ref f26))) (l26 : K.lookup f26 = some ⟨oc26, od26, .func (PySem.W.fnOf "normal" "normal" (defArgs s_normal) (defBody s_normal) (defScope s_normal) .none kV26 dc26 pm26 an26 cd26 ct26), sl26⟩) (c26 : PySem.W.codeIn K cd26 "normal" = true) (k26 : PySem.W.keepIn K (.ref f26) = true)
    (a27 : PySem.W.nsIn K mainGlobals "back" = some (some (.ref f27))) (l27 : K.lookup f27 = some ⟨oc27, od27, .func (PySem.W.fnOf "back" "back" (defArgs s_back) (defBody s_back) (defScope s_back) .none kV27 dc27 pm27 an27 cd27 ct27), sl27⟩) (c27 : PySem.W.codeIn K cd27 "back" = true) (k27 : PySem.W.keepIn K (.ref f27) = true)
    (a28 : PySem.W.nsIn K mainGlobals "halved" = some (some (.ref f28))) (l28 : K.lookup f28 = some ⟨oc28, od28, .func (PySem.W.fnOf "halved" "halved" (defArgs s_halved) (defBody s_halved) (defScope s_halved) .none kV28 dc28 pm28 an28 cd28 ct28), sl28⟩) (c28 : PySem.W.codeIn K cd28 "halved" = true) (k28 : PySem.W.keepIn K (.ref f28) = true)
    (a29 : PySem.W.nsIn K mainGlobals "is_leader" = some (some (.ref f29))) (l29 : K.lookup f29 = some ⟨oc29, od29, .func (PySem.W.fnOf "is_leader" "is_leader" (defArgs s_is_leader) (defBody s_is_leader) (defScope s_is_leader) .none kV29 dc29 pm29 an29 cd29 ct29), sl29⟩) (c29 : PySem.W.codeIn K cd29 "is_leader" = true) (k29 : PySem.W.keepIn K (.ref f29) = true)
    (a30 : PySem.W.nsIn K mainGlobals "step_of" = some (some (.ref f30))) (l30 : K.lookup f30 = some ⟨oc30, od30, .func (PySem.W.fnOf "step_of" "step_of" (defArgs s_step_of) (defBody s_step_of) (defScope s_step_of) .none kV30 dc30 pm30 an30 cd30 ct30), sl30⟩) (c30 : PySem.W.codeIn K cd30 "step_of" = true) (k30 : PySem.W.keepIn K (.ref f30) = true)
    (a31 : PySem.W.nsIn K mainGlobals "end_of" = some (some (.ref f31))) (l31 : K.lookup f31 = some ⟨oc31, od31, .func (PySem.W.fnOf "end_of" "end_of" (defArgs s_end_of) (defBody s_end_of) (defScope s_end_of) .none kV31 dc31 pm31 an31 cd31 ct31), sl31⟩) (c31 : PySem.W.codeIn K cd31 "end_of" = true) (k31 : PySem.W.keepIn K (.ref f31) = true)
    (a32 : PySem.W.nsIn K mainGlobals "is_repeat" = some (some (.ref f32))) (l32 : K.lookup f32 = some ⟨oc32, od32, .func (PySem.W.fnOf "is_repeat" "is_repeat" (defArgs s_is_repeat) (defBody s_is_repeat) (defScope s_is_repeat) .none kV32 dc32 pm32 an32 cd32 ct32), sl32⟩) (c32 : PySem.W.codeIn K cd32 "is_repeat" = true) (k32 : PySem.W.keepIn K (.ref f32) = true)
    (a33 : PySem.W.nsIn K mainGlobals "common" = some (some (.ref f33))) (l33 : K.lookup f33 = some ⟨oc33, od33, .func (PySem.W.fnOf "common" "common" (defArgs s_common) (defBody s_common) (defScope s_common) .none kV33 dc33 pm33 an33 cd33 ct33), sl33⟩) (c33 : PySem.W.codeIn K cd33 "common" = true) (k33 : PySem.W.keepIn K (.ref f33) = true)
    (a34 : PySem.W.nsIn K mainGlobals "merged" = some (some (.ref f34))) (l34 : K.lookup f34 = some ⟨oc34, od34, .func (PySem.W.fnOf "merged" "merged" (defArgs s_merged) (defBody s_merged) (defScope s_merged) .none kV34 dc34 pm34 an34 cd34 ct34), sl34⟩) (c34 : PySem.W.codeIn K cd34 "merged" = true) (k34 : PySem.W.keepIn K (.ref f34) = true)
    (a35 : PySem.W.nsIn K mainGlobals "holds" = some (some (.ref f35))) (l35 : K.lookup f35 = some ⟨oc35, od35, .func (PySem.W.fnOf "holds" "holds" (defArgs s_holds) (defBody s_holds) (defScope s_holds) .none kV35 dc35 pm35 an35 cd35 ct35), sl35⟩) (c35 : PySem.W.codeIn K cd35 "holds" = true) (k35 : PySem.W.keepIn K (.ref f35) = true)
    (a36 : PySem.W.nsIn K mainGlobals "part" = some (some (.ref f36))) (l36 : K.lookup f36 = some ⟨oc36, od36, .func (PySem.W.fnOf "part" "part" (defArgs s_part) (defBody s_part) (defScope s_part) .none kV36 dc36 pm36 an36 cd36 ct36), sl36⟩) (c36 : PySem.W.codeIn K cd36 "part" = true) (k36 : PySem.W.keepIn K (.ref f36) = true)
    (a37 : PySem.W.nsIn K mainGlobals "led_back" = some (some (.ref f37))) (l37 : K.lookup f37 = some ⟨oc37, od37, .func (PySem.W.fnOf "led_back" "led_back" (defArgs s_led_back) (defBody s_led_back) (defScope s_led_back) .none kV37 dc37 pm37 an37 cd37 ct37), sl37⟩) (c37 : PySem.W.codeIn K cd37 "led_back" = true) (k37 : PySem.W.keepIn K (.ref f37) = true)
    (a38 : PySem.W.nsIn K mainGlobals "clipped" = some (some (.ref f38))) (l38 : K.lookup f38 = some ⟨oc38, od38, .func (PySem.W.fnOf "clipped" "clipped" (defArgs s_clipped) (defBody s_clipped) (defScope s_clipped) .none kV38 dc38 pm38 an38 cd38 ct38), sl38⟩) (c38 : PySem.W.codeIn K cd38 "clipped" = true) (k38 : PySem.W.keepIn K (.ref f38) = true)
    (a39 : PySem.W.nsIn K mainGlobals "law" = some (some (.ref f39))) (l39 : K.lookup f39 = some ⟨oc39, od39, .func (PySem.W.fnOf "law" "law" (defArgs s_law) (defBody s_law) (defScope s_law) .none kV39 dc39 pm39 an39 (.ref c) ct39), sl39⟩) (c39 : PySem.W.codeIn K (.ref c) "law" = true) (k39 : PySem.W.keepIn K (.ref f39) = true)
    (z0 : PySem.W.nsIn K mainGlobals "len" = some none) (z1 : PySem.W.nsIn K mainGlobals "list" = some none) (z2 : PySem.W.nsIn K mainGlobals "tuple" = some none) (z3 : PySem.W.nsIn K mainGlobals "bool" = some none)
    (z4 : PySem.W.nsIn K mainGlobals "int" = some none) (z5 : PySem.W.nsIn K mainGlobals "str" = some none) (z6 : PySem.W.nsIn K mainGlobals "isinstance" = some none) (z7 : PySem.W.nsIn K mainGlobals "all" = some none)
    (z8 : PySem.W.nsIn K mainGlobals "any" = some none) (z9 : PySem.W.nsIn K mainGlobals "range" = some none) (z10 : PySem.W.nsIn K mainGlobals "max" = some none) (z11 : PySem.W.nsIn K mainGlobals "min" = some none)
    (z12 : PySem.W.nsIn K mainGlobals "dict" = some none) (z13 : PySem.W.nsIn K mainGlobals "sorted" = some none) (zV : PySem.W.nsIn K mainGlobals "ValueError" = some none) (hP : PySem.W.codeHdIn K c Pt = true)
    (nP : K.lookup Pt = none) (gF : PySem.W.nsIn K mainGlobals "FarError" = some (some (.ref C_FarError))) (TF : ClsFn K C_FarError "__init__" f_FarError) (FF : FunD K "__init__" "FarError.__init__" (defArgs s_farinit) (defBody s_farinit) (defScope s_farinit) [.str ""] [] f_FarError fdF)
    (fF8 : PySem.W.findCls K (.type "ValueError") (.type "type") "__init__" = some (.val (.builtin "ValueError.__init__"))) (g_BadMove : PySem.W.nsIn K mainGlobals "BadMove" = some (some (.ref C_BadMove))) (E_BadMove : ErrT K C_BadMove) (XF_BadMove : XfC K C_BadMove)
    (EC_BadMove : ExcC K C_BadMove) (M_BadMove : PySem.W.exmOne K (.ref C_BadMove) (.ref C_FarError) = some true) (n_BadMove_move : PySem.W.findIn K (.ref C_BadMove) "move" = some none) (i_BadMove : PySem.W.findIn K (.ref C_BadMove) "__init__" = some (some (.ref f_BadMove)))
    (t_BadMove : PySem.W.typeIn K (.ref f_BadMove) = some (.type "function")) (l_BadMove : K.lookup f_BadMove = some ⟨oc_BadMove, od_BadMove, .func (PySem.W.fnOf "__init__" "BadMove.__init__" (defArgs s_bminit) (defBody s_bminit) (defScope s_bminit) .none kV_BadMove dc_BadMove pm_BadMove an_BadMove cd_BadMove ct_BadMove), sl_BadMove⟩) (c_BadMove : PySem.W.codeIn K cd_BadMove "BadMove.__init__" = true) (k_BadMove : PySem.W.keepIn K (.ref f_BadMove) = true)
    (zf_enumerate : PySem.W.nsIn K mainGlobals "enumerate" = some none) (g_Front : PySem.W.nsIn K mainGlobals "Front" = some (some (.ref C_Front))) (clC : Cls K C_Front) (mkC : PySem.W.makesIn K C_Front = true)
    (kcC : PySem.W.keepIn K (.ref C_Front) = true) (na_edge : PySem.W.findIn K (.ref C_Front) "edge" = some none) (na_standing : PySem.W.findIn K (.ref C_Front) "standing" = some none) (na_past : PySem.W.findIn K (.ref C_Front) "past" = some none)
    (ma___init__ : PySem.W.findIn K (.ref C_Front) "__init__" = some (some (.ref fm___init__))) (mi___init__ : PySem.W.isFn K (.ref fm___init__) = true) (ml___init__ : K.lookup fm___init__ = some ⟨ocm___init__, odm___init__, .func (PySem.W.fnOf "__init__" "Front.__init__" (defArgs s_Finit) (defBody s_Finit) (defScope s_Finit) .none kVm___init__ dcm___init__ pmm___init__ anm___init__ cdm___init__ ctm___init__), slm___init__⟩) (mc___init__ : PySem.W.codeIn K cdm___init__ "Front.__init__" = true)
    (mp___init__ : PySem.W.keepIn K (.ref fm___init__) = true) (ma_make : PySem.W.findIn K (.ref C_Front) "make" = some (some (.ref fm_make))) (mi_make : PySem.W.isFn K (.ref fm_make) = true) (ml_make : K.lookup fm_make = some ⟨ocm_make, odm_make, .func (PySem.W.fnOf "make" "Front.make" (defArgs s_Fmake) (defBody s_Fmake) (defScope s_Fmake) .none kVm_make dcm_make pmm_make anm_make cdm_make ctm_make), slm_make⟩)
    (mc_make : PySem.W.codeIn K cdm_make "Front.make" = true) (mp_make : PySem.W.keepIn K (.ref fm_make) = true) (ma_made : PySem.W.findIn K (.ref C_Front) "made" = some (some (.ref fm_made))) (mi_made : PySem.W.isFn K (.ref fm_made) = true)
    (ml_made : K.lookup fm_made = some ⟨ocm_made, odm_made, .func (PySem.W.fnOf "made" "Front.made" (defArgs s_Fmade) (defBody s_Fmade) (defScope s_Fmade) .none kVm_made dcm_made pmm_made anm_made cdm_made ctm_made), slm_made⟩) (mc_made : PySem.W.codeIn K cdm_made "Front.made" = true) (mp_made : PySem.W.keepIn K (.ref fm_made) = true) (ma_idle : PySem.W.findIn K (.ref C_Front) "idle" = some (some (.ref fm_idle)))
    (mi_idle : PySem.W.isFn K (.ref fm_idle) = true) (ml_idle : K.lookup fm_idle = some ⟨ocm_idle, odm_idle, .func (PySem.W.fnOf "idle" "Front.idle" (defArgs s_Fidle) (defBody s_Fidle) (defScope s_Fidle) .none kVm_idle dcm_idle pmm_idle anm_idle cdm_idle ctm_idle), slm_idle⟩) (mc_idle : PySem.W.codeIn K cdm_idle "Front.idle" = true) (mp_idle : PySem.W.keepIn K (.ref fm_idle) = true)
    (ma_halve : PySem.W.findIn K (.ref C_Front) "halve" = some (some (.ref fm_halve))) (mi_halve : PySem.W.isFn K (.ref fm_halve) = true) (ml_halve : K.lookup fm_halve = some ⟨ocm_halve, odm_halve, .func (PySem.W.fnOf "halve" "Front.halve" (defArgs s_Fhalve) (defBody s_Fhalve) (defScope s_Fhalve) .none kVm_halve dcm_halve pmm_halve anm_halve cdm_halve ctm_halve), slm_halve⟩) (mc_halve : PySem.W.codeIn K cdm_halve "Front.halve" = true)
    (mp_halve : PySem.W.keepIn K (.ref fm_halve) = true) (ma_merge : PySem.W.findIn K (.ref C_Front) "merge" = some (some (.ref fm_merge))) (mi_merge : PySem.W.isFn K (.ref fm_merge) = true) (ml_merge : K.lookup fm_merge = some ⟨ocm_merge, odm_merge, .func (PySem.W.fnOf "merge" "Front.merge" (defArgs s_Fmerge) (defBody s_Fmerge) (defScope s_Fmerge) .none kVm_merge dcm_merge pmm_merge anm_merge cdm_merge ctm_merge), slm_merge⟩)
    (mc_merge : PySem.W.codeIn K cdm_merge "Front.merge" = true) (mp_merge : PySem.W.keepIn K (.ref fm_merge) = true) (ma_lead : PySem.W.findIn K (.ref C_Front) "lead" = some (some (.ref fm_lead))) (mi_lead : PySem.W.isFn K (.ref fm_lead) = true)
    (ml_lead : K.lookup fm_lead = some ⟨ocm_lead, odm_lead, .func (PySem.W.fnOf "lead" "Front.lead" (defArgs s_Flead) (defBody s_Flead) (defScope s_Flead) .none kVm_lead dcm_lead pmm_lead anm_lead cdm_lead ctm_lead), slm_lead⟩) (mc_lead : PySem.W.codeIn K cdm_lead "Front.lead" = true) (mp_lead : PySem.W.keepIn K (.ref fm_lead) = true) (ma_fold : PySem.W.findIn K (.ref C_Front) "fold" = some (some (.ref fm_fold)))
    (mi_fold : PySem.W.isFn K (.ref fm_fold) = true) (ml_fold : K.lookup fm_fold = some ⟨ocm_fold, odm_fold, .func (PySem.W.fnOf "fold" "Front.fold" (defArgs s_Ffold) (defBody s_Ffold) (defScope s_Ffold) .none kVm_fold dcm_fold pmm_fold anm_fold cdm_fold ctm_fold), slm_fold⟩) (mc_fold : PySem.W.codeIn K cdm_fold "Front.fold" = true) (mp_fold : PySem.W.keepIn K (.ref fm_fold) = true)
    (ma_bare : PySem.W.findIn K (.ref C_Front) "bare" = some (some (.ref fm_bare))) (mi_bare : PySem.W.isFn K (.ref fm_bare) = true) (ml_bare : K.lookup fm_bare = some ⟨ocm_bare, odm_bare, .func (PySem.W.fnOf "bare" "Front.bare" (defArgs s_Fbare) (defBody s_Fbare) (defScope s_Fbare) .none kVm_bare dcm_bare pmm_bare anm_bare cdm_bare ctm_bare), slm_bare⟩) (mc_bare : PySem.W.codeIn K cdm_bare "Front.bare" = true)
    (mp_bare : PySem.W.keepIn K (.ref fm_bare) = true) (ma_put : PySem.W.findIn K (.ref C_Front) "put" = some (some (.ref fm_put))) (mi_put : PySem.W.isFn K (.ref fm_put) = true) (ml_put : K.lookup fm_put = some ⟨ocm_put, odm_put, .func (PySem.W.fnOf "put" "Front.put" (defArgs s_Fput) (defBody s_Fput) (defScope s_Fput) .none kVm_put dcm_put pmm_put anm_put cdm_put ctm_put), slm_put⟩)
    (mc_put : PySem.W.codeIn K cdm_put "Front.put" = true) (mp_put : PySem.W.keepIn K (.ref fm_put) = true) (ma_left : PySem.W.findIn K (.ref C_Front) "left" = some (some (.ref fm_left))) (mi_left : PySem.W.isFn K (.ref fm_left) = true)
    (ml_left : K.lookup fm_left = some ⟨ocm_left, odm_left, .func (PySem.W.fnOf "left" "Front.left" (defArgs s_Fleft) (defBody s_Fleft) (defScope s_Fleft) .none kVm_left dcm_left pmm_left anm_left cdm_left ctm_left), slm_left⟩) (mc_left : PySem.W.codeIn K cdm_left "Front.left" = true) (mp_left : PySem.W.keepIn K (.ref fm_left) = true) (ma_leader : PySem.W.findIn K (.ref C_Front) "leader" = some (some (.ref fm_leader)))
    (mi_leader : PySem.W.isFn K (.ref fm_leader) = true) (ml_leader : K.lookup fm_leader = some ⟨ocm_leader, odm_leader, .func (PySem.W.fnOf "leader" "Front.leader" (defArgs s_Fleader) (defBody s_Fleader) (defScope s_Fleader) .none kVm_leader dcm_leader pmm_leader anm_leader cdm_leader ctm_leader), slm_leader⟩) (mc_leader : PySem.W.codeIn K cdm_leader "Front.leader" = true) (mp_leader : PySem.W.keepIn K (.ref fm_leader) = true)
    (ma_reach : PySem.W.findIn K (.ref C_Front) "reach" = some (some (.ref fm_reach))) (mi_reach : PySem.W.isFn K (.ref fm_reach) = true) (ml_reach : K.lookup fm_reach = some ⟨ocm_reach, odm_reach, .func (PySem.W.fnOf "reach" "Front.reach" (defArgs s_Freach) (defBody s_Freach) (defScope s_Freach) .none kVm_reach dcm_reach pmm_reach anm_reach cdm_reach ctm_reach), slm_reach⟩) (mc_reach : PySem.W.codeIn K cdm_reach "Front.reach" = true)
    (mp_reach : PySem.W.keepIn K (.ref fm_reach) = true) (ma_top : PySem.W.findIn K (.ref C_Front) "top" = some (some (.ref fm_top))) (mi_top : PySem.W.isFn K (.ref fm_top) = true) (ml_top : K.lookup fm_top = some ⟨ocm_top, odm_top, .func (PySem.W.fnOf "top" "Front.top" (defArgs s_Ftop) (defBody s_Ftop) (defScope s_Ftop) .none kVm_top dcm_top pmm_top anm_top cdm_top ctm_top), slm_top⟩)
    (mc_top : PySem.W.codeIn K cdm_top "Front.top" = true) (mp_top : PySem.W.keepIn K (.ref fm_top) = true) (ma_led_on : PySem.W.findIn K (.ref C_Front) "led_on" = some (some (.ref fm_led_on))) (mi_led_on : PySem.W.isFn K (.ref fm_led_on) = true)
    (ml_led_on : K.lookup fm_led_on = some ⟨ocm_led_on, odm_led_on, .func (PySem.W.fnOf "led_on" "Front.led_on" (defArgs s_Fled_on) (defBody s_Fled_on) (defScope s_Fled_on) .none kVm_led_on dcm_led_on pmm_led_on anm_led_on cdm_led_on ctm_led_on), slm_led_on⟩) (mc_led_on : PySem.W.codeIn K cdm_led_on "Front.led_on" = true) (mp_led_on : PySem.W.keepIn K (.ref fm_led_on) = true) (g_FAR : PySem.W.nsIn K mainGlobals "FAR" = some (some (.int 1000000000000000000 tk_FAR)))
    (g_MOST : PySem.W.nsIn K mainGlobals "MOST" = some (some (.int 24 tk_MOST))) :
    LamX.LawAtS l w K CX0 10 63 "_law_script" mg fa h := by
  have e := hfa.symm.trans (PySem.W.mg_of X G a39)
  cases e
  have B : Bn mg := ⟨PySem.W.mg_none_of X G z0, PySem.W.mg_none_of X G z1, PySem.W.mg_none_of X G z2, PySem.W.mg_none_of X G z3, PySem.W.mg_none_of X G z4, PySem.W.mg_none_of X G z5, PySem.W.mg_none_of X G z6, PySem.W.mg_none_of X G z7, PySem.W.mg_none_of X G z8, PySem.W.mg_none_of X G z9, PySem.W.mg_none_of X G z10, PySem.W.mg_none_of X G z11, PySem.W.mg_none_of X G z12, PySem.W.mg_none_of X G z13⟩
  have F0 := fun_mk (st := s_open) l0 c0 k0
  have D_open : DefAt K mg "_law_open" s_open P_open _ _ := ⟨F0, F0.binds (ps := P_open) fun _ _ _ _ _ _ => by exact len1 (fun _ => rfl), PySem.W.mg_of X G a0⟩
  have F1 := fun_mk (st := s_pull) l1 c1 k1
  have D_pull : DefAt K mg "_law_pull" s_pull P_pull _ _ := ⟨F1, F1.binds (ps := P_pull) fun _ _ _ _ _ _ => by exact len2 (fun _ _ => rfl), PySem.W.mg_of X G a1⟩
  have F2 := fun_mk (st := s_any) l2 c2 k2
  have D_any : DefAt K mg "_law_any" s_any P_any _ _ := ⟨F2, F2.binds (ps := P_any) fun _ _ _ _ _ _ => by exact len2 (fun _ _ => rfl), PySem.W.mg_of X G a2⟩
  have F3 := fun_mk (st := s_shuffled) l3 c3 k3
  have D_shuffled : DefAt K mg "_law_shuffled" s_shuffled P_shuffled _ _ := ⟨F3, F3.binds (ps := P_shuffled) fun _ _ _ _ _ _ => by exact len2 (fun _ _ => rfl), PySem.W.mg_of X G a3⟩
  have F4 := fun_mk (st := s_mating) l4 c4 k4
  have D_mating : DefAt K mg "_law_mating" s_mating P_mating _ _ := ⟨F4, F4.binds (ps := P_mating) fun _ _ _ _ _ _ => by exact len2 (fun _ _ => rfl), PySem.W.mg_of X G a4⟩
  have F5 := fun_mk (st := s_road) l5 c5 k5
  have D_road : DefAt K mg "_law_road" s_road P_road _ _ := ⟨F5, F5.binds (ps := P_road) fun _ _ _ _ _ _ => by exact len3 (fun _ _ _ => rfl), PySem.W.mg_of X G a5⟩
  have F6 := fun_mk (st := s_ends) l6 c6 k6
  have D_ends : DefAt K mg "_law_ends" s_ends P_ends _ _ := ⟨F6, F6.binds (ps := P_ends) fun _ _ _ _ _ _ => by exact len1 (fun _ => rfl), PySem.W.mg_of X G a6⟩
  have F7 := fun_mk (st := s_root) l7 c7 k7
  have D_root : DefAt K mg "_law_root" s_root P_root _ _ := ⟨F7, F7.binds (ps := P_root) fun _ _ _ _ _ _ => by exact len2 (fun _ _ => rfl), PySem.W.mg_of X G a7⟩
  have F8 := fun_mk (st := s_roots) l8 c8 k8
  have D_roots : DefAt K mg "_law_roots" s_roots P_roots _ _ := ⟨F8, F8.binds (ps := P_roots) fun _ _ _ _ _ _ => by exact len2 (fun _ _ => rfl), PySem.W.mg_of X G a8⟩
  have F9 := fun_mk (st := s_first) l9 c9 k9
  have D_first : DefAt K mg "_law_first" s_first P_first _ _ := ⟨F9, F9.binds (ps := P_first) fun _ _ _ _ _ _ => by exact len1 (fun _ => rfl), PySem.W.mg_of X G a9⟩
  have F10 := fun_mk (st := s_leads) l10 c10 k10
  have D_leads : DefAt K mg "_law_leads" s_leads P_leads _ _ := ⟨F10, F10.binds (ps := P_leads) fun _ _ _ _ _ _ => by exact len1 (fun _ => rfl), PySem.W.mg_of X G a10⟩
  have F11 := fun_mk (st := s_reach) l11 c11 k11
  have D_reach : DefAt K mg "_law_reach" s_reach P_reach _ _ := ⟨F11, F11.binds (ps := P_reach) fun _ _ _ _ _ _ => by exact len2 (fun _ _ => rfl), PySem.W.mg_of X G a11⟩
  have F12 := fun_mk (st := s_lead) l12 c12 k12
  have D_lead : DefAt K mg "_law_lead" s_lead P_lead _ _ := ⟨F12, F12.binds (ps := P_lead) fun _ _ _ _ _ _ => by exact len3 (fun _ _ _ => rfl), PySem.W.mg_of X G a12⟩
  have F13 := fun_mk (st := s_join_two) l13 c13 k13
  have D_join_two : DefAt K mg "_law_join_two" s_join_two P_join_two _ _ := ⟨F13, F13.binds (ps := P_join_two) fun _ _ _ _ _ _ => by exact len2 (fun _ _ => rfl), PySem.W.mg_of X G a13⟩
  have F14 := fun_mk (st := s_made_more) l14 c14 k14
  have D_made_more : DefAt K mg "_law_made_more" s_made_more P_made_more _ _ := ⟨F14, F14.binds (ps := P_made_more) fun _ _ _ _ _ _ => by exact len3 (fun _ _ _ => rfl), PySem.W.mg_of X G a14⟩
  have F15 := fun_mk (st := s_made) l15 c15 k15
  have D_made : DefAt K mg "_law_made" s_made P_made _ _ := ⟨F15, F15.binds (ps := P_made) fun _ _ _ _ _ _ => by exact len2 (fun _ _ => rfl), PySem.W.mg_of X G a15⟩
  have F16 := fun_mk (st := s_begun) l16 c16 k16
  have D_begun : DefAt K mg "_law_begun" s_begun P_begun _ _ := ⟨F16, F16.binds (ps := P_begun) fun _ _ _ _ _ _ => by exact len2 (fun _ _ => rfl), PySem.W.mg_of X G a16⟩
  have F17 := fun_mk (st := s_less) l17 c17 k17
  have D_less : DefAt K mg "_law_less" s_less P_less _ _ := ⟨F17, F17.binds (ps := P_less) fun _ _ _ _ _ _ => by exact len2 (fun _ _ => rfl), PySem.W.mg_of X G a17⟩
  have F18 := fun_mk (st := s_wise) l18 c18 k18
  have D_wise : DefAt K mg "_law_wise" s_wise P_wise _ _ := ⟨F18, F18.binds (ps := P_wise) fun _ _ _ _ _ _ => by exact len2 (fun _ _ => rfl), PySem.W.mg_of X G a18⟩
  have F19 := fun_mk (st := s_kept) l19 c19 k19
  have D_kept : DefAt K mg "_law_kept" s_kept P_kept _ _ := ⟨F19, F19.binds (ps := P_kept) fun _ _ _ _ _ _ => by exact len3 (fun _ _ _ => rfl), PySem.W.mg_of X G a19⟩
  have F20 := fun_mk (st := s_need_from) l20 c20 k20
  have D_need_from : DefAt K mg "need_from" s_need_from P_need_from _ _ := ⟨F20, F20.binds (ps := P_need_from) fun _ _ _ _ _ _ => by exact len2 (fun _ _ => rfl), PySem.W.mg_of X G a20⟩
  have F21 := fun_mk (st := s_need_within) l21 c21 k21
  have D_need_within : DefAt K mg "need_within" s_need_within P_need_within _ _ := ⟨F21, F21.binds (ps := P_need_within) fun _ _ _ _ _ _ => by exact len3 (fun _ _ _ => rfl), PySem.W.mg_of X G a21⟩
  have F22 := fun_mk (st := s_need_length) l22 c22 k22
  have D_need_length : DefAt K mg "need_length" s_need_length P_need_length _ _ := ⟨F22, F22.binds (ps := P_need_length) fun _ _ _ _ _ _ => by exact len1 (fun _ => rfl), PySem.W.mg_of X G a22⟩
  have F23 := fun_mk (st := s_need_mating) l23 c23 k23
  have D_need_mating : DefAt K mg "need_mating" s_need_mating P_need_mating _ _ := ⟨F23, F23.binds (ps := P_need_mating) fun _ _ _ _ _ _ => by exact len2 (fun _ _ => rfl), PySem.W.mg_of X G a23⟩
  have F24 := fun_mk (st := s_need_road) l24 c24 k24
  have D_need_road : DefAt K mg "need_road" s_need_road P_need_road _ _ := ⟨F24, F24.binds (ps := P_need_road) fun _ _ _ _ _ _ => by exact len2 (fun _ _ => rfl), PySem.W.mg_of X G a24⟩
  have F25 := fun_mk (st := s_is_mating) l25 c25 k25
  have D_is_mating : DefAt K mg "is_mating" s_is_mating P_is_mating _ _ := ⟨F25, F25.binds (ps := P_is_mating) fun _ _ _ _ _ _ => by exact len2 (fun _ _ => rfl), PySem.W.mg_of X G a25⟩
  have F26 := fun_mk (st := s_normal) l26 c26 k26
  have D_normal : DefAt K mg "normal" s_normal P_normal _ _ := ⟨F26, F26.binds (ps := P_normal) fun _ _ _ _ _ _ => by exact len1 (fun _ => rfl), PySem.W.mg_of X G a26⟩
  have F27 := fun_mk (st := s_back) l27 c27 k27
  have D_back : DefAt K mg "back" s_back P_back _ _ := ⟨F27, F27.binds (ps := P_back) fun _ _ _ _ _ _ => by exact len1 (fun _ => rfl), PySem.W.mg_of X G a27⟩
  have F28 := fun_mk (st := s_halved) l28 c28 k28
  have D_halved : DefAt K mg "halved" s_halved P_halved _ _ := ⟨F28, F28.binds (ps := P_halved) fun _ _ _ _ _ _ => by exact len1 (fun _ => rfl), PySem.W.mg_of X G a28⟩
  have F29 := fun_mk (st := s_is_leader) l29 c29 k29
  have D_is_leader : DefAt K mg "is_leader" s_is_leader P_is_leader _ _ := ⟨F29, F29.binds (ps := P_is_leader) fun _ _ _ _ _ _ => by exact len1 (fun _ => rfl), PySem.W.mg_of X G a29⟩
  have F30 := fun_mk (st := s_step_of) l30 c30 k30
  have D_step_of : DefAt K mg "step_of" s_step_of P_step_of _ _ := ⟨F30, F30.binds (ps := P_step_of) fun _ _ _ _ _ _ => by exact len1 (fun _ => rfl), PySem.W.mg_of X G a30⟩
  have F31 := fun_mk (st := s_end_of) l31 c31 k31
  have D_end_of : DefAt K mg "end_of" s_end_of P_end_of _ _ := ⟨F31, F31.binds (ps := P_end_of) fun _ _ _ _ _ _ => by exact len1 (fun _ => rfl), PySem.W.mg_of X G a31⟩
  have F32 := fun_mk (st := s_is_repeat) l32 c32 k32
  have D_is_repeat : DefAt K mg "is_repeat" s_is_repeat P_is_repeat _ _ := ⟨F32, F32.binds (ps := P_is_repeat) fun _ _ _ _ _ _ => by exact len1 (fun _ => rfl), PySem.W.mg_of X G a32⟩
  have F33 := fun_mk (st := s_common) l33 c33 k33
  have D_common : DefAt K mg "common" s_common P_common _ _ := ⟨F33, F33.binds (ps := P_common) fun _ _ _ _ _ _ => by exact len2 (fun _ _ => rfl), PySem.W.mg_of X G a33⟩
  have F34 := fun_mk (st := s_merged) l34 c34 k34
  have D_merged : DefAt K mg "merged" s_merged P_merged _ _ := ⟨F34, F34.binds (ps := P_merged) fun _ _ _ _ _ _ => by exact len2 (fun _ _ => rfl), PySem.W.mg_of X G a34⟩
  have F35 := fun_mk (st := s_holds) l35 c35 k35
  have D_holds : DefAt K mg "holds" s_holds P_holds _ _ := ⟨F35, F35.binds (ps := P_holds) fun _ _ _ _ _ _ => by exact len3 (fun _ _ _ => rfl), PySem.W.mg_of X G a35⟩
  have F36 := fun_mk (st := s_part) l36 c36 k36
  have D_part : DefAt K mg "part" s_part P_part _ _ := ⟨F36, F36.binds (ps := P_part) fun _ _ _ _ _ _ => by exact len3 (fun _ _ _ => rfl), PySem.W.mg_of X G a36⟩
  have F37 := fun_mk (st := s_led_back) l37 c37 k37
  have D_led_back : DefAt K mg "led_back" s_led_back P_led_back _ _ := ⟨F37, F37.binds (ps := P_led_back) fun _ _ _ _ _ _ => by exact len3 (fun _ _ _ => rfl), PySem.W.mg_of X G a37⟩
  have F38 := fun_mk (st := s_clipped) l38 c38 k38
  have D_clipped : DefAt K mg "clipped" s_clipped P_clipped _ _ := ⟨F38, F38.binds (ps := P_clipped) fun _ _ _ _ _ _ => by exact len2 (fun _ _ => rfl), PySem.W.mg_of X G a38⟩
  have GF : ∀ base : Heap, FnOk l.prog w K mg base CX0 1 f_FarError _ N_farinit (spFarInit K) := fun base => ok_farinit FF (PySem.W.mg_none_of X G zV) fF8
  have FI_BadMove := fun_mk (x := "__init__") (qual := "BadMove.__init__") (st := s_bminit) l_BadMove c_BadMove k_BadMove
  have bI_BadMove := FI_BadMove.binds (ps := N_bminit) fun _ _ _ _ _ _ => by exact len2 (fun _ _ => rfl)
  have F_init := fun_mk (x := "__init__") (qual := "Front.__init__") (st := s_Finit) ml___init__ mc___init__ mp___init__
  have b_init := F_init.binds (ps := P_Finit) fun _ _ _ _ _ _ => by exact len3 (fun _ _ _ => rfl)
  have mkF : Mk K C_Front fm___init__ := ⟨mkC, ma___init__, mi___init__, kcC⟩
  have F_make := fun_mk (x := "make") (qual := "Front.make") (st := s_Fmake) ml_make mc_make mp_make
  have b_make := F_make.binds (ps := P_Fmake) fun _ _ _ _ _ _ => by exact len2 (fun _ _ => rfl)
  have M_make : Meth K C_Front "make" fm_make := ⟨ma_make, mi_make, mp_make⟩
  have F_made := fun_mk (x := "made") (qual := "Front.made") (st := s_Fmade) ml_made mc_made mp_made
  have b_made := F_made.binds (ps := P_Fmade) fun _ _ _ _ _ _ => by exact len2 (fun _ _ => rfl)
  have M_made : Meth K C_Front "made" fm_made := ⟨ma_made, mi_made, mp_made⟩
  have F_idle := fun_mk (x := "idle") (qual := "Front.idle") (st := s_Fidle) ml_idle mc_idle mp_idle
  have b_idle := F_idle.binds (ps := P_Fidle) fun _ _ _ _ _ _ => by exact len2 (fun _ _ => rfl)
  have M_idle : Meth K C_Front "idle" fm_idle := ⟨ma_idle, mi_idle, mp_idle⟩
  have F_halve := fun_mk (x := "halve") (qual := "Front.halve") (st := s_Fhalve) ml_halve mc_halve mp_halve
  have b_halve := F_halve.binds (ps := P_Fhalve) fun _ _ _ _ _ _ => by exact len2 (fun _ _ => rfl)
  have M_halve : Meth K C_Front "halve" fm_halve := ⟨ma_halve, mi_halve, mp_halve⟩
  have F_merge := fun_mk (x := "merge") (qual := "Front.merge") (st := s_Fmerge) ml_merge mc_merge mp_merge
  have b_merge := F_merge.binds (ps := P_Fmerge) fun _ _ _ _ _ _ => by exact len3 (fun _ _ _ => rfl)
  have M_merge : Meth K C_Front "merge" fm_merge := ⟨ma_merge, mi_merge, mp_merge⟩
  have F_lead := fun_mk (x := "lead") (qual := "Front.lead") (st := s_Flead) ml_lead mc_lead mp_lead
  have b_lead := F_lead.binds (ps := P_Flead) fun _ _ _ _ _ _ => by exact len4 (fun _ _ _ _ => rfl)
  have M_lead : Meth K C_Front "lead" fm_lead := ⟨ma_lead, mi_lead, mp_lead⟩
  have F_fold := fun_mk (x := "fold") (qual := "Front.fold") (st := s_Ffold) ml_fold mc_fold mp_fold
  have b_fold := F_fold.binds (ps := P_Ffold) fun _ _ _ _ _ _ => by exact len3 (fun _ _ _ => rfl)
  have M_fold : Meth K C_Front "fold" fm_fold := ⟨ma_fold, mi_fold, mp_fold⟩
  have F_bare := fun_mk (x := "bare") (qual := "Front.bare") (st := s_Fbare) ml_bare mc_bare mp_bare
  have b_bare := F_bare.binds (ps := P_Fbare) fun _ _ _ _ _ _ => by exact len2 (fun _ _ => rfl)
  have M_bare : Meth K C_Front "bare" fm_bare := ⟨ma_bare, mi_bare, mp_bare⟩
  have F_put := fun_mk (x := "put") (qual := "Front.put") (st := s_Fput) ml_put mc_put mp_put
  have b_put := F_put.binds (ps := P_Fput) fun _ _ _ _ _ _ => by exact len3 (fun _ _ _ => rfl)
  have M_put : Meth K C_Front "put" fm_put := ⟨ma_put, mi_put, mp_put⟩
  have F_left := fun_mk (x := "left") (qual := "Front.left") (st := s_Fleft) ml_left mc_left mp_left
  have b_left := F_left.binds (ps := P_Fleft) fun _ _ _ _ _ _ => by exact len1 (fun _ => rfl)
  have M_left : Meth K C_Front "left" fm_left := ⟨ma_left, mi_left, mp_left⟩
  have F_leader := fun_mk (x := "leader") (qual := "Front.leader") (st := s_Fleader) ml_leader mc_leader mp_leader
  have b_leader := F_leader.binds (ps := P_Fleader) fun _ _ _ _ _ _ => by exact len2 (fun _ _ => rfl)
  have M_leader : Meth K C_Front "leader" fm_leader := ⟨ma_leader, mi_leader, mp_leader⟩
  have F_reach := fun_mk (x := "reach") (qual := "Front.reach") (st := s_Freach) ml_reach mc_reach mp_reach
  have b_reach := F_reach.binds (ps := P_Freach) fun _ _ _ _ _ _ => by exact len2 (fun _ _ => rfl)
  have M_reach : Meth K C_Front "reach" fm_reach := ⟨ma_reach, mi_reach, mp_reach⟩
  have F_top := fun_mk (x := "top") (qual := "Front.top") (st := s_Ftop) ml_top mc_top mp_top
  have b_top := F_top.binds (ps := P_Ftop) fun _ _ _ _ _ _ => by exact len1 (fun _ => rfl)
  have M_top : Meth K C_Front "top" fm_top := ⟨ma_top, mi_top, mp_top⟩
  have F_led_on := fun_mk (x := "led_on") (qual := "Front.led_on") (st := s_Fled_on) ml_led_on mc_led_on mp_led_on
  have b_led_on := F_led_on.binds (ps := P_Fled_on) fun _ _ _ _ _ _ => by exact len1 (fun _ => rfl)
  have M_led_on : Meth K C_Front "led_on" fm_led_on := ⟨ma_led_on, mi_led_on, mp_led_on⟩
  have T : FrT K mg C_Front := ⟨PySem.W.mg_of X G g_Front, clC, na_edge, na_standing, na_past⟩
  have Te : ErT K mg C_FarError C_BadMove f_BadMove _ "BadMove" N_bminit := ⟨PySem.W.mg_of X G gF, PySem.W.mg_of X G g_BadMove, E_BadMove, XF_BadMove, EC_BadMove, i_BadMove, t_BadMove, bI_BadMove, M_BadMove⟩
  have F_law := fun_mk (st := s_law) l39 c39 k39
  refine ⟨PySem.W.fnOf "law" "law" (defArgs s_law) (defBody s_law) (defScope s_law) .none kV39 dc39 pm39 an39 (.ref c) ct39, [], spLaw K, fun p hp => (by cases hp), fun p hp => (by cases hp), fun p hp => (by cases hp), fun s u => ?b, fun H a ns hl _ _ hS => ⟨a, ns, rfl, hS, hl, fun _ => rfl⟩, fun base KB GB TB => ?ok⟩
  case ok =>
    exact ok_law F_law D_open D_pull D_road (ok_road D_road D_pull D_mating B) D_roots (ok_roots D_roots D_root D_ends B) D_begun (ok_begun D_begun D_first B) D_wise (ok_wise D_wise D_pull D_reach D_less D_shuffled D_any B) D_made (ok_madeL D_made D_made_more D_reach D_join_two D_leads D_lead D_first B) D_kept (ok_kept D_kept T D_roots (ok_roots D_roots D_root D_ends B) M_top (ok_top F_top T) b_top M_left (ok_left F_left T B) b_left M_led_on (ok_led_on F_led_on T B) b_led_on B) T mkF (ok_Finit F_init T D_need_road D_need_from D_need_within D_need_length D_need_mating D_is_mating D_normal D_back (PySem.W.mg_of X G g_FAR) (PySem.W.mg_of X G g_MOST) (PySem.W.mg_none_of X G zf_enumerate) B) b_init M_make (ok_makeS F_make T M_made (ok_madeS F_made T M_idle (ok_idle F_idle T M_put (ok_put F_put T D_normal D_back) b_put D_step_of) b_idle M_halve (ok_halve F_halve T M_put (ok_put F_put T D_normal D_back) b_put D_halved D_is_leader D_step_of) b_halve M_merge (ok_merge F_merge T M_put (ok_put F_put T D_normal D_back) b_put D_merged D_step_of D_end_of D_is_repeat D_common B) b_merge M_lead (ok_Flead F_lead T M_put (ok_put F_put T D_normal D_back) b_put M_leader (ok_leader F_leader T D_is_leader D_step_of) b_leader D_back D_holds D_led_back (ok_led_back D_led_back D_part D_holds D_back D_step_of B) B) b_lead M_fold (ok_Ffold F_fold T M_put (ok_put F_put T D_normal D_back) b_put M_leader (ok_leader F_leader T D_is_leader D_step_of) b_leader M_reach (ok_reach F_reach T D_end_of B) b_reach D_end_of D_step_of D_clipped (ok_clipped D_clipped D_part D_holds B)) b_fold M_bare (ok_bare F_bare T M_reach (ok_reach F_reach T D_end_of B) b_reach) b_bare) b_made B Te n_BadMove_move (ok_bminit FI_BadMove (PySem.W.mg_of X G gF) TF (far_binds FF) (GF base))) b_make B
  case b => exact .of_eq rfl
def fnL0 : List He.DefD := [dD "_law_open" s_open, dD "_law_pull" s_pull, dD "_law_any" s_any, dD "_law_shuffled" s_shuffled, dD "_law_mating" s_mating, dD "_law_road" s_road, dD "_law_ends" s_ends, dD "_law_root" s_root, dD "_law_roots" s_roots, dD "_law_first" s_first, dD "_law_leads" s_leads, dD "_law_reach" s_reach, dD "_law_lead" s_lead, dD "_law_join_two" s_join_two, dD "_law_made_more" s_made_more, dD "_law_made" s_made, dD "_law_begun" s_begun, dD "_law_less" s_less, dD "_law_wise" s_wise, dD "_law_kept" s_kept, dD "need_from" s_need_from, dD "need_within" s_need_within, dD "need_length" s_need_length, dD "need_mating" s_need_mating, dD "need_road" s_need_road, dD "is_mating" s_is_mating, dD "normal" s_normal, dD "back" s_back, dD "halved" s_halved, dD "is_leader" s_is_leader]
def fnL1 : List He.DefD := [dD "step_of" s_step_of, dD "end_of" s_end_of, dD "is_repeat" s_is_repeat, dD "common" s_common, dD "merged" s_merged, dD "holds" s_holds, dD "part" s_part, dD "led_back" s_led_back, dD "clipped" s_clipped, dD "law" s_law, dMs "FarError" "__init__" "FarError.__init__" s_farinit, dM "BadMove" "__init__" "BadMove.__init__" s_bminit, dM "Front" "__init__" "Front.__init__" s_Finit, dM "Front" "make" "Front.make" s_Fmake, dM "Front" "made" "Front.made" s_Fmade, dM "Front" "idle" "Front.idle" s_Fidle, dM "Front" "halve" "Front.halve" s_Fhalve, dM "Front" "merge" "Front.merge" s_Fmerge, dM "Front" "lead" "Front.lead" s_Flead, dM "Front" "fold" "Front.fold" s_Ffold, dM "Front" "bare" "Front.bare" s_Fbare, dM "Front" "put" "Front.put" s_Fput, dM "Front" "left" "Front.left" s_Fleft, dM "Front" "leader" "Front.leader" s_Fleader, dM "Front" "reach" "Front.reach" s_Freach, dM "Front" "top" "Front.top" s_Ftop, dM "Front" "led_on" "Front.led_on" s_Fled_on]
def fnL : List He.DefD := fnL0 ++ fnL1
def faL0 : List He.Fa := [.glo "_law_open", .glo "_law_pull", .glo "_law_any", .glo "_law_shuffled", .glo "_law_mating", .glo "_law_road", .glo "_law_ends", .glo "_law_root", .glo "_law_roots", .glo "_law_first", .glo "_law_leads", .glo "_law_reach", .glo "_law_lead", .glo "_law_join_two", .glo "_law_made_more", .glo "_law_made", .glo "_law_begun", .glo "_law_less", .glo "_law_wise", .glo "_law_kept", .glo "need_from", .glo "need_within", .glo "need_length", .glo "need_mating", .glo "need_road", .glo "is_mating", .glo "normal", .glo "back", .glo "halved", .glo "is_leader"]
def faL1 : List He.Fa := [.glo "step_of", .glo "end_of", .glo "is_repeat", .glo "common", .glo "merged", .glo "holds", .glo "part", .glo "led_back", .glo "clipped", .glo "law", .free "len", .free "list", .free "tuple", .free "bool", .free "int", .free "str", .free "isinstance", .free "all", .free "any", .free "range", .free "max", .free "min", .free "dict", .free "sorted", .free "ValueError", .glo "FarError", .glo "BadMove", .noat "BadMove" "move", .free "enumerate", .glo "Front"]
def faL2 : List He.Fa := [.cls "Front", .noat "Front" "edge", .noat "Front" "standing", .noat "Front" "past", .int "FAR" 1000000000000000000, .int "MOST" 24]
def faL : List He.Fa := faL0 ++ faL1 ++ faL2
def exL0 (K : PySem.W.Frag) : List Bool := [cfnB K (He.ga K "FarError") "__init__" (He.ma K (He.ga K "FarError") "__init__"), bltB K "ValueError" "__init__" "ValueError.__init__", errB K (He.ga K "BadMove"), xfB K (He.ga K "BadMove"), excB K (He.ga K "BadMove"), decide (PySem.W.exmOne K (.ref (He.ga K "BadMove")) (.ref (He.ga K "FarError")) = some true), He.eqO (PySem.W.findIn K (.ref (He.ga K "BadMove")) "__init__") (some (some (.ref (He.ma K (He.ga K "BadMove") "__init__")))), decide (PySem.W.typeIn K (.ref (He.ma K (He.ga K "BadMove") "__init__")) = some (.type "function")), PySem.W.makesIn K (He.ga K "Front"), PySem.W.keepIn K (.ref (He.ga K "Front")), He.eqO (PySem.W.findIn K (.ref (He.ga K "Front")) "__init__") (some (some (.ref (He.ma K (He.ga K "Front") "__init__")))), PySem.W.isFn K (.ref (He.ma K (He.ga K "Front") "__init__")), He.eqO (PySem.W.findIn K (.ref (He.ga K "Front")) "make") (some (some (.ref (He.ma K (He.ga K "Front") "make")))), PySem.W.isFn K (.ref (He.ma K (He.ga K "Front") "make")), He.eqO (PySem.W.findIn K (.ref (He.ga K "Front")) "made") (some (some (.ref (He.ma K (He.ga K "Front") "made")))), PySem.W.isFn K (.ref (He.ma K (He.ga K "Front") "made")), He.eqO (PySem.W.findIn K (.ref (He.ga K "Front")) "idle") (some (some (.ref (He.ma K (He.ga K "Front") "idle")))), PySem.W.isFn K (.ref (He.ma K (He.ga K "Front") "idle")), He.eqO (PySem.W.findIn K (.ref (He.ga K "Front")) "halve") (some (some (.ref (He.ma K (He.ga K "Front") "halve")))), PySem.W.isFn K (.ref (He.ma K (He.ga K "Front") "halve")), He.eqO (PySem.W.findIn K (.ref (He.ga K "Front")) "merge") (some (some (.ref (He.ma K (He.ga K "Front") "merge")))), PySem.W.isFn K (.ref (He.ma K (He.ga K "Front") "merge")), He.eqO (PySem.W.findIn K (.ref (He.ga K "Front")) "lead") (some (some (.ref (He.ma K (He.ga K "Front") "lead")))), PySem.W.isFn K (.ref (He.ma K (He.ga K "Front") "lead")), He.eqO (PySem.W.findIn K (.ref (He.ga K "Front")) "fold") (some (some (.ref (He.ma K (He.ga K "Front") "fold")))), PySem.W.isFn K (.ref (He.ma K (He.ga K "Front") "fold")), He.eqO (PySem.W.findIn K (.ref (He.ga K "Front")) "bare") (some (some (.ref (He.ma K (He.ga K "Front") "bare")))), PySem.W.isFn K (.ref (He.ma K (He.ga K "Front") "bare")), He.eqO (PySem.W.findIn K (.ref (He.ga K "Front")) "put") (some (some (.ref (He.ma K (He.ga K "Front") "put")))), PySem.W.isFn K (.ref (He.ma K (He.ga K "Front") "put"))]
def exL1 (K : PySem.W.Frag) : List Bool := [He.eqO (PySem.W.findIn K (.ref (He.ga K "Front")) "left") (some (some (.ref (He.ma K (He.ga K "Front") "left")))), PySem.W.isFn K (.ref (He.ma K (He.ga K "Front") "left")), He.eqO (PySem.W.findIn K (.ref (He.ga K "Front")) "leader") (some (some (.ref (He.ma K (He.ga K "Front") "leader")))), PySem.W.isFn K (.ref (He.ma K (He.ga K "Front") "leader")), He.eqO (PySem.W.findIn K (.ref (He.ga K "Front")) "reach") (some (some (.ref (He.ma K (He.ga K "Front") "reach")))), PySem.W.isFn K (.ref (He.ma K (He.ga K "Front") "reach")), He.eqO (PySem.W.findIn K (.ref (He.ga K "Front")) "top") (some (some (.ref (He.ma K (He.ga K "Front") "top")))), PySem.W.isFn K (.ref (He.ma K (He.ga K "Front") "top")), He.eqO (PySem.W.findIn K (.ref (He.ga K "Front")) "led_on") (some (some (.ref (He.ma K (He.ga K "Front") "led_on")))), PySem.W.isFn K (.ref (He.ma K (He.ga K "Front") "led_on"))]
def exL (K : PySem.W.Frag) : List Bool := exL0 K ++ exL1 K
def looseL0 : List Str := ["_wall", "FarError", "BadNumber", "BadMating", "BadStretch", "BadMove", "Full", "FAR", "MOST", "need_from", "need_within", "need_length", "is_mating", "need_mating", "common", "normal", "back", "part", "holds", "clipped", "need_road", "step_of", "end_of", "is_leader", "is_repeat", "halved", "merged", "led_back", "Front", "_law_open"]
def looseL1 : List Str := ["_law_pull", "_law_any", "_law_shuffled", "_law_mating", "_law_road", "_law_ends", "_law_root", "_law_roots", "_law_first", "_law_leads", "_law_reach", "_law_join_two", "_law_lead", "_law_made", "_law_made_more", "_law_begun", "_law_less", "_law_wise", "_law_kept"]
def looseL : List Str := looseL0 ++ looseL1
abbrev RowL : PySem.W.OpenRow := PySem.W.OpenLaw.row PySem.Challenge.rw_farmates_k11_whole_moves_keep_families
abbrev hkL : PySem.W.Hook := hookY faL fnL exL
def obL (s : PySem.W.SharedT) : AlY := obsY faL fnL exL (HandSHeadRun.getT s)
theorem obL_eq (s : PySem.W.SharedT) : obL s = hkL.obs s.abs := obsY_eq s
theorem all_of {w : World} {K : PySem.W.Frag} {h : Heap} {mg : Str → Option Value} {fa : Addr} (X : K.In h) (G : h.Ns mainGlobals mg) (hfa : mg "law" = some (.ref fa)) (c : SaysY faL fnL exL h K) :
    LamX.LawAtS PySem.Challenge.rw_farmates_k11_whole_moves_keep_families w K CX0 10 63 "_law_script" mg fa h := by
  obtain ⟨oc0, od0, sl0, kV0, dc0, pm0, an0, cd0, ct0, l0, c0, k0⟩ := say_def c.d 0 (x := "_law_open") (st := s_open) rfl
  obtain ⟨oc1, od1, sl1, kV1, dc1, pm1, an1, cd1, ct1, l1, c1, k1⟩ := say_def c.d 1 (x := "_law_pull") (st := s_pull) rfl
  obtain ⟨oc2, od2, sl2, kV2, dc2, pm2, an2, cd2, ct2, l2, c2, k2⟩ := say_def c.d 2 (x := "_law_any") (st := s_any) rfl
  obtain ⟨oc3, od3, sl3, kV3, dc3, pm3, an3, cd3, ct3, l3, c3, k3⟩ := say_def c.d 3 (x := "_law_shuffled") (st := s_shuffled) rfl
  obtain ⟨oc4, od4, sl4, kV4, dc4, pm4, an4, cd4, ct4, l4, c4, k4⟩ := say_def c.d 4 (x := "_law_mating") (st := s_mating) rfl
  obtain ⟨oc5, od5, sl5, kV5, dc5, pm5, an5, cd5, ct5, l5, c5, k5⟩ := say_def c.d 5 (x := "_law_road") (st := s_road) rfl
  obtain ⟨oc6, od6, sl6, kV6, dc6, pm6, an6, cd6, ct6, l6, c6, k6⟩ := say_def c.d 6 (x := "_law_ends") (st := s_ends) rfl
  obtain ⟨oc7, od7, sl7, kV7, dc7, pm7, an7, cd7, ct7, l7, c7, k7⟩ := say_def c.d 7 (x := "_law_root") (st := s_root) rfl
  obtain ⟨oc8, od8, sl8, kV8, dc8, pm8, an8, cd8, ct8, l8, c8, k8⟩ := say_def c.d 8 (x := "_law_roots") (st := s_roots) rfl
  obtain ⟨oc9, od9, sl9, kV9, dc9, pm9, an9, cd9, ct9, l9, c9, k9⟩ := say_def c.d 9 (x := "_law_first") (st := s_first) rfl
  obtain ⟨oc10, od10, sl10, kV10, dc10, pm10, an10, cd10, ct10, l10, c10, k10⟩ := say_def c.d 10 (x := "_law_leads") (st := s_leads) rfl
  obtain ⟨oc11, od11, sl11, kV11, dc11, pm11, an11, cd11, ct11, l11, c11, k11⟩ := say_def c.d 11 (x := "_law_reach") (st := s_reach) rfl
  obtain ⟨oc12, od12, sl12, kV12, dc12, pm12, an12, cd12, ct12, l12, c12, k12⟩ := say_def c.d 12 (x := "_law_lead") (st := s_lead) rfl
  obtain ⟨oc13, od13, sl13, kV13, dc13, pm13, an13, cd13, ct13, l13, c13, k13⟩ := say_def c.d 13 (x := "_law_join_two") (st := s_join_two) rfl
  obtain ⟨oc14, od14, sl14, kV14, dc14, pm14, an14, cd14, ct14, l14, c14, k14⟩ := say_def c.d 14 (x := "_law_made_more") (st := s_made_more) rfl
  obtain ⟨oc15, od15, sl15, kV15, dc15, pm15, an15, cd15, ct15, l15, c15, k15⟩ := say_def c.d 15 (x := "_law_made") (st := s_made) rfl
  obtain ⟨oc16, od16, sl16, kV16, dc16, pm16, an16, cd16, ct16, l16, c16, k16⟩ := say_def c.d 16 (x := "_law_begun") (st := s_begun) rfl
  obtain ⟨oc17, od17, sl17, kV17, dc17, pm17, an17, cd17, ct17, l17, c17, k17⟩ := say_def c.d 17 (x := "_law_less") (st := s_less) rfl
  obtain ⟨oc18, od18, sl18, kV18, dc18, pm18, an18, cd18, ct18, l18, c18, k18⟩ := say_def c.d 18 (x := "_law_wise") (st := s_wise) rfl
  obtain ⟨oc19, od19, sl19, kV19, dc19, pm19, an19, cd19, ct19, l19, c19, k19⟩ := say_def c.d 19 (x := "_law_kept") (st := s_kept) rfl
  obtain ⟨oc20, od20, sl20, kV20, dc20, pm20, an20, cd20, ct20, l20, c20, k20⟩ := say_def c.d 20 (x := "need_from") (st := s_need_from) rfl
  obtain ⟨oc21, od21, sl21, kV21, dc21, pm21, an21, cd21, ct21, l21, c21, k21⟩ := say_def c.d 21 (x := "need_within") (st := s_need_within) rfl
  obtain ⟨oc22, od22, sl22, kV22, dc22, pm22, an22, cd22, ct22, l22, c22, k22⟩ := say_def c.d 22 (x := "need_length") (st := s_need_length) rfl
  obtain ⟨oc23, od23, sl23, kV23, dc23, pm23, an23, cd23, ct23, l23, c23, k23⟩ := say_def c.d 23 (x := "need_mating") (st := s_need_mating) rfl
  obtain ⟨oc24, od24, sl24, kV24, dc24, pm24, an24, cd24, ct24, l24, c24, k24⟩ := say_def c.d 24 (x := "need_road") (st := s_need_road) rfl
  obtain ⟨oc25, od25, sl25, kV25, dc25, pm25, an25, cd25, ct25, l25, c25, k25⟩ := say_def c.d 25 (x := "is_mating") (st := s_is_mating) rfl
  obtain ⟨oc26, od26, sl26, kV26, dc26, pm26, an26, cd26, ct26, l26, c26, k26⟩ := say_def c.d 26 (x := "normal") (st := s_normal) rfl
  obtain ⟨oc27, od27, sl27, kV27, dc27, pm27, an27, cd27, ct27, l27, c27, k27⟩ := say_def c.d 27 (x := "back") (st := s_back) rfl
  obtain ⟨oc28, od28, sl28, kV28, dc28, pm28, an28, cd28, ct28, l28, c28, k28⟩ := say_def c.d 28 (x := "halved") (st := s_halved) rfl
  obtain ⟨oc29, od29, sl29, kV29, dc29, pm29, an29, cd29, ct29, l29, c29, k29⟩ := say_def c.d 29 (x := "is_leader") (st := s_is_leader) rfl
  obtain ⟨oc30, od30, sl30, kV30, dc30, pm30, an30, cd30, ct30, l30, c30, k30⟩ := say_def c.d 30 (x := "step_of") (st := s_step_of) rfl
  obtain ⟨oc31, od31, sl31, kV31, dc31, pm31, an31, cd31, ct31, l31, c31, k31⟩ := say_def c.d 31 (x := "end_of") (st := s_end_of) rfl
  obtain ⟨oc32, od32, sl32, kV32, dc32, pm32, an32, cd32, ct32, l32, c32, k32⟩ := say_def c.d 32 (x := "is_repeat") (st := s_is_repeat) rfl
  obtain ⟨oc33, od33, sl33, kV33, dc33, pm33, an33, cd33, ct33, l33, c33, k33⟩ := say_def c.d 33 (x := "common") (st := s_common) rfl
  obtain ⟨oc34, od34, sl34, kV34, dc34, pm34, an34, cd34, ct34, l34, c34, k34⟩ := say_def c.d 34 (x := "merged") (st := s_merged) rfl
  obtain ⟨oc35, od35, sl35, kV35, dc35, pm35, an35, cd35, ct35, l35, c35, k35⟩ := say_def c.d 35 (x := "holds") (st := s_holds) rfl
  obtain ⟨oc36, od36, sl36, kV36, dc36, pm36, an36, cd36, ct36, l36, c36, k36⟩ := say_def c.d 36 (x := "part") (st := s_part) rfl
  obtain ⟨oc37, od37, sl37, kV37, dc37, pm37, an37, cd37, ct37, l37, c37, k37⟩ := say_def c.d 37 (x := "led_back") (st := s_led_back) rfl
  obtain ⟨oc38, od38, sl38, kV38, dc38, pm38, an38, cd38, ct38, l38, c38, k38⟩ := say_def c.d 38 (x := "clipped") (st := s_clipped) rfl
  obtain ⟨oc39, od39, sl39, kV39, dc39, pm39, an39, ct39, l39, c39, k39⟩ := say_law c.d 39 (x := "law") (st := s_law) rfl
  obtain ⟨fdF, FF⟩ := say_far c.d 40 (C := "FarError") (m := "__init__") (q := "FarError.__init__") (st := s_farinit) rfl
  obtain ⟨oc_BadMove, od_BadMove, sl_BadMove, kV_BadMove, dc_BadMove, pm_BadMove, an_BadMove, cd_BadMove, ct_BadMove, l_BadMove, c_BadMove, k_BadMove⟩ := say_meth c.d 41 (C := "BadMove") (m := "__init__") (q := "BadMove.__init__") (st := s_bminit) rfl
  obtain ⟨ocm___init__, odm___init__, slm___init__, kVm___init__, dcm___init__, pmm___init__, anm___init__, cdm___init__, ctm___init__, ml___init__, mc___init__, mp___init__⟩ := say_meth c.d 42 (C := "Front") (m := "__init__") (q := "Front.__init__") (st := s_Finit) rfl
  obtain ⟨ocm_make, odm_make, slm_make, kVm_make, dcm_make, pmm_make, anm_make, cdm_make, ctm_make, ml_make, mc_make, mp_make⟩ := say_meth c.d 43 (C := "Front") (m := "make") (q := "Front.make") (st := s_Fmake) rfl
  obtain ⟨ocm_made, odm_made, slm_made, kVm_made, dcm_made, pmm_made, anm_made, cdm_made, ctm_made, ml_made, mc_made, mp_made⟩ := say_meth c.d 44 (C := "Front") (m := "made") (q := "Front.made") (st := s_Fmade) rfl
  obtain ⟨ocm_idle, odm_idle, slm_idle, kVm_idle, dcm_idle, pmm_idle, anm_idle, cdm_idle, ctm_idle, ml_idle, mc_idle, mp_idle⟩ := say_meth c.d 45 (C := "Front") (m := "idle") (q := "Front.idle") (st := s_Fidle) rfl
  obtain ⟨ocm_halve, odm_halve, slm_halve, kVm_halve, dcm_halve, pmm_halve, anm_halve, cdm_halve, ctm_halve, ml_halve, mc_halve, mp_halve⟩ := say_meth c.d 46 (C := "Front") (m := "halve") (q := "Front.halve") (st := s_Fhalve) rfl
  obtain ⟨ocm_merge, odm_merge, slm_merge, kVm_merge, dcm_merge, pmm_merge, anm_merge, cdm_merge, ctm_merge, ml_merge, mc_merge, mp_merge⟩ := say_meth c.d 47 (C := "Front") (m := "merge") (q := "Front.merge") (st := s_Fmerge) rfl
  obtain ⟨ocm_lead, odm_lead, slm_lead, kVm_lead, dcm_lead, pmm_lead, anm_lead, cdm_lead, ctm_lead, ml_lead, mc_lead, mp_lead⟩ := say_meth c.d 48 (C := "Front") (m := "lead") (q := "Front.lead") (st := s_Flead) rfl
  obtain ⟨ocm_fold, odm_fold, slm_fold, kVm_fold, dcm_fold, pmm_fold, anm_fold, cdm_fold, ctm_fold, ml_fold, mc_fold, mp_fold⟩ := say_meth c.d 49 (C := "Front") (m := "fold") (q := "Front.fold") (st := s_Ffold) rfl
  obtain ⟨ocm_bare, odm_bare, slm_bare, kVm_bare, dcm_bare, pmm_bare, anm_bare, cdm_bare, ctm_bare, ml_bare, mc_bare, mp_bare⟩ := say_meth c.d 50 (C := "Front") (m := "bare") (q := "Front.bare") (st := s_Fbare) rfl
  obtain ⟨ocm_put, odm_put, slm_put, kVm_put, dcm_put, pmm_put, anm_put, cdm_put, ctm_put, ml_put, mc_put, mp_put⟩ := say_meth c.d 51 (C := "Front") (m := "put") (q := "Front.put") (st := s_Fput) rfl
  obtain ⟨ocm_left, odm_left, slm_left, kVm_left, dcm_left, pmm_left, anm_left, cdm_left, ctm_left, ml_left, mc_left, mp_left⟩ := say_meth c.d 52 (C := "Front") (m := "left") (q := "Front.left") (st := s_Fleft) rfl
  obtain ⟨ocm_leader, odm_leader, slm_leader, kVm_leader, dcm_leader, pmm_leader, anm_leader, cdm_leader, ctm_leader, ml_leader, mc_leader, mp_leader⟩ := say_meth c.d 53 (C := "Front") (m := "leader") (q := "Front.leader") (st := s_Fleader) rfl
  obtain ⟨ocm_reach, odm_reach, slm_reach, kVm_reach, dcm_reach, pmm_reach, anm_reach, cdm_reach, ctm_reach, ml_reach, mc_reach, mp_reach⟩ := say_meth c.d 54 (C := "Front") (m := "reach") (q := "Front.reach") (st := s_Freach) rfl
  obtain ⟨ocm_top, odm_top, slm_top, kVm_top, dcm_top, pmm_top, anm_top, cdm_top, ctm_top, ml_top, mc_top, mp_top⟩ := say_meth c.d 55 (C := "Front") (m := "top") (q := "Front.top") (st := s_Ftop) rfl
  obtain ⟨ocm_led_on, odm_led_on, slm_led_on, kVm_led_on, dcm_led_on, pmm_led_on, anm_led_on, cdm_led_on, ctm_led_on, ml_led_on, mc_led_on, mp_led_on⟩ := say_meth c.d 56 (C := "Front") (m := "led_on") (q := "Front.led_on") (st := s_Fled_on) rfl
  obtain ⟨tk_FAR, g_FAR⟩ := say_int c.d 64 (x := "FAR") (i := 1000000000000000000) rfl
  obtain ⟨tk_MOST, g_MOST⟩ := say_int c.d 65 (x := "MOST") (i := 24) rfl
  exact all_mk X G hfa c.mt
    (He.eqO_ok (c.d.fact 0 rfl)) l0 c0 k0 (He.eqO_ok (c.d.fact 1 rfl)) l1 c1 k1
    (He.eqO_ok (c.d.fact 2 rfl)) l2 c2 k2 (He.eqO_ok (c.d.fact 3 rfl)) l3 c3 k3
    (He.eqO_ok (c.d.fact 4 rfl)) l4 c4 k4 (He.eqO_ok (c.d.fact 5 rfl)) l5 c5 k5
    (He.eqO_ok (c.d.fact 6 rfl)) l6 c6 k6 (He.eqO_ok (c.d.fact 7 rfl)) l7 c7 k7
    (He.eqO_ok (c.d.fact 8 rfl)) l8 c8 k8 (He.eqO_ok (c.d.fact 9 rfl)) l9 c9 k9
    (He.eqO_ok (c.d.fact 10 rfl)) l10 c10 k10 (He.eqO_ok (c.d.fact 11 rfl)) l11 c11 k11
    (He.eqO_ok (c.d.fact 12 rfl)) l12 c12 k12 (He.eqO_ok (c.d.fact 13 rfl)) l13 c13 k13
    (He.eqO_ok (c.d.fact 14 rfl)) l14 c14 k14 (He.eqO_ok (c.d.fact 15 rfl)) l15 c15 k15
    (He.eqO_ok (c.d.fact 16 rfl)) l16 c16 k16 (He.eqO_ok (c.d.fact 17 rfl)) l17 c17 k17
    (He.eqO_ok (c.d.fact 18 rfl)) l18 c18 k18 (He.eqO_ok (c.d.fact 19 rfl)) l19 c19 k19
    (He.eqO_ok (c.d.fact 20 rfl)) l20 c20 k20 (He.eqO_ok (c.d.fact 21 rfl)) l21 c21 k21
    (He.eqO_ok (c.d.fact 22 rfl)) l22 c22 k22 (He.eqO_ok (c.d.fact 23 rfl)) l23 c23 k23
    (He.eqO_ok (c.d.fact 24 rfl)) l24 c24 k24 (He.eqO_ok (c.d.fact 25 rfl)) l25 c25 k25
    (He.eqO_ok (c.d.fact 26 rfl)) l26 c26 k26 (He.eqO_ok (c.d.fact 27 rfl)) l27 c27 k27
    (He.eqO_ok (c.d.fact 28 rfl)) l28 c28 k28 (He.eqO_ok (c.d.fact 29 rfl)) l29 c29 k29
    (He.eqO_ok (c.d.fact 30 rfl)) l30 c30 k30 (He.eqO_ok (c.d.fact 31 rfl)) l31 c31 k31
    (He.eqO_ok (c.d.fact 32 rfl)) l32 c32 k32 (He.eqO_ok (c.d.fact 33 rfl)) l33 c33 k33
    (He.eqO_ok (c.d.fact 34 rfl)) l34 c34 k34 (He.eqO_ok (c.d.fact 35 rfl)) l35 c35 k35
    (He.eqO_ok (c.d.fact 36 rfl)) l36 c36 k36 (He.eqO_ok (c.d.fact 37 rfl)) l37 c37 k37
    (He.eqO_ok (c.d.fact 38 rfl)) l38 c38 k38 (He.eqO_ok (c.d.fact 39 rfl)) l39 c39 k39
    (He.eqO_ok (c.d.fact 40 rfl)) (He.eqO_ok (c.d.fact 41 rfl)) (He.eqO_ok (c.d.fact 42 rfl)) (He.eqO_ok (c.d.fact 43 rfl)) (He.eqO_ok (c.d.fact 44 rfl)) (He.eqO_ok (c.d.fact 45 rfl)) (He.eqO_ok (c.d.fact 46 rfl)) (He.eqO_ok (c.d.fact 47 rfl))
    (He.eqO_ok (c.d.fact 48 rfl)) (He.eqO_ok (c.d.fact 49 rfl)) (He.eqO_ok (c.d.fact 50 rfl)) (He.eqO_ok (c.d.fact 51 rfl)) (He.eqO_ok (c.d.fact 52 rfl)) (He.eqO_ok (c.d.fact 53 rfl)) (He.eqO_ok (c.d.fact 54 rfl)) c.hd
    c.out (He.eqO_ok (c.d.fact 55 rfl)) (cfnB_ok (all_at c.more 0 rfl)) FF (bltB_ok (all_at c.more 1 rfl)) (He.eqO_ok (c.d.fact 56 rfl)) (errB_ok (all_at c.more 2 rfl)) (xfB_ok (all_at c.more 3 rfl))
    (excB_ok (all_at c.more 4 rfl)) (of_decide_eq_true (all_at c.more 5 rfl)) (He.eqO_ok (c.d.fact 57 rfl)) (He.eqO_ok (all_at c.more 6 rfl)) (of_decide_eq_true (all_at c.more 7 rfl)) l_BadMove c_BadMove k_BadMove
    (He.eqO_ok (c.d.fact 58 rfl)) (He.eqO_ok (c.d.fact 59 rfl)) (He.cls_ok (c.d.fact 60 rfl)) (all_at c.more 8 rfl) (all_at c.more 9 rfl) (He.eqO_ok (c.d.fact 61 rfl)) (He.eqO_ok (c.d.fact 62 rfl)) (He.eqO_ok (c.d.fact 63 rfl))
    (He.eqO_ok (all_at c.more 10 rfl)) (all_at c.more 11 rfl) ml___init__ mc___init__ mp___init__ (He.eqO_ok (all_at c.more 12 rfl)) (all_at c.more 13 rfl) ml_make
    mc_make mp_make (He.eqO_ok (all_at c.more 14 rfl)) (all_at c.more 15 rfl) ml_made mc_made mp_made (He.eqO_ok (all_at c.more 16 rfl))
    (all_at c.more 17 rfl) ml_idle mc_idle mp_idle (He.eqO_ok (all_at c.more 18 rfl)) (all_at c.more 19 rfl) ml_halve mc_halve
    mp_halve (He.eqO_ok (all_at c.more 20 rfl)) (all_at c.more 21 rfl) ml_merge mc_merge mp_merge (He.eqO_ok (all_at c.more 22 rfl)) (all_at c.more 23 rfl)
    ml_lead mc_lead mp_lead (He.eqO_ok (all_at c.more 24 rfl)) (all_at c.more 25 rfl) ml_fold mc_fold mp_fold
    (He.eqO_ok (all_at c.more 26 rfl)) (all_at c.more 27 rfl) ml_bare mc_bare mp_bare (He.eqO_ok (all_at c.more 28 rfl)) (all_at c.more 29 rfl) ml_put
    mc_put mp_put (He.eqO_ok (all_at c.more 30 rfl)) (all_at c.more 31 rfl) ml_left mc_left mp_left (He.eqO_ok (all_at c.more 32 rfl))
    (all_at c.more 33 rfl) ml_leader mc_leader mp_leader (He.eqO_ok (all_at c.more 34 rfl)) (all_at c.more 35 rfl) ml_reach mc_reach
    mp_reach (He.eqO_ok (all_at c.more 36 rfl)) (all_at c.more 37 rfl) ml_top mc_top mp_top (He.eqO_ok (all_at c.more 38 rfl)) (all_at c.more 39 rfl)
    ml_led_on mc_led_on mp_led_on g_FAR g_MOST
-- SPLIT
theorem run1 : SeenEq RowL (PySem.W.view RowL.prog [53]) 40000 looseL := by
  intro w os
  kernel_rfl
theorem run2 : PartEq RowL.prog 40000 (fun s => okY faL fnL exL (HandSHeadRun.getT s) (seenY (HandSHeadRun.getT s))) fun _ => true := by
  intro w os
  kernel_rfl
theorem run4 : PartEq RowL.prog 40000 (fun s => fnL.map fun d => He.fnW (seenY (HandSHeadRun.getT s)) d.at_) fun _ => fnL.map He.DefD.val := by
  intro w os
  kernel_rfl
theorem runL (w : World) : HandSHeadRun.RunEq RowL (PySem.W.view RowL.prog [53]) hkL obL 40000 looseL w := run_parts run1 run2 run4 w
end Fm
open PySem PySem.W PySem.Calls PyProof.Rows
set_option maxRecDepth 100000 in
set_option maxHeartbeats 0 in
theorem PySem.Challenge.cw_farmates_k11_whole_moves_keep_families_holds : PySem.Challenge.rw_farmates_k11_whole_moves_keep_families.Holds := by
  w_on; o_law
  refine HandSHeadRun.head_any (r := OpenLaw.row PySem.Challenge.rw_farmates_k11_whole_moves_keep_families) (q := view (OpenLaw.row PySem.Challenge.rw_farmates_k11_whole_moves_keep_families).prog [53]) (H := Fm.hkL) (ob := Fm.obL) (M := 40000) (loose := Fm.looseL) (d := HandSHeadRun.topDef (OpenLaw.row PySem.Challenge.rw_farmates_k11_whole_moves_keep_families).prog 53) (kwd := []) Fm.obL_eq
    (by kernel_rfl) (fun s => by kernel_rfl) Fm.runL (by kernel_rfl) (by kernel_rfl) (by kernel_rfl) (by rfl) (by first | assumption | decide +kernel) (by decide +kernel) ⟨rfl, rfl, rfl, rfl, rfl, by decide +kernel⟩ ?hw ?hc
  case hw => w_witness2
  case hc =>
    refine LamX.walk_ofTsE (l := PySem.Challenge.rw_farmates_k11_whole_moves_keep_families) (n := 63) (k := 10) (x := "_law_script") (CX := fun _ => L2.CX0) rfl (by decide) (by kernel_rfl) ⟨rfl, by decide, by decide⟩ ?F (fun _ _ _ _ _ z => z)
    intro w mg fa h Y G hm0
    obtain ⟨K, KX, c⟩ := Y
    have hm : mg ("law" : PySem.Str) = some (.ref fa) := by
      have en : (HandSHeadRun.topDef (OpenLaw.row PySem.Challenge.rw_farmates_k11_whole_moves_keep_families).prog 53).name = ("law" : PySem.Str) := by kernel_rfl
      rw [← en]
      exact hm0
    exact ⟨K, KX, Fm.all_of KX G hm c⟩
