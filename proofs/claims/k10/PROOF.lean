import PyProof.Rows.All
import Wide.All
import OpenK.AllK
import Wide.FinOn
import HandS.ForMost
import HandS.Codes
import HandS.IsInst
import HandS.Wide
import HandS.Style
import HandS.ForExc
import HandS.ExcInit
import HandS.ExcIs
import HandS.ExcField
import HandS.FStr
import HandS.Defaults
import HandS.Lambda
import HandS.EndTab
import HandS.HotCalls
import HandS.FStrTup
import HandS.DictComp
import HandS.Iter
import HandS.More
import KE.KStateDown
import HandS.Head0
import HandS.Head1
import HandS.Head2
import HandS.HeadHook1
import HandS.HeadHook2
import HandS.HeadHook3
import HandS.HeadHook4
import HandS.HeadWalk
import PySem.Challenge.RW_farmates_k10_merging_and_halving_seen
set_option Elab.async false
set_option linter.all false
set_option maxRecDepth 100000
set_option maxHeartbeats 4000000
namespace Fm
open PySem L2
def top (i : Nat) : Stmt := PySem.Challenge.pw_farmates_k10_merging_and_halving_seen.main.body.getD i (.Pass ⟨0, 0, 0, 0⟩)

/-! ### what stands behind the top -/
structure DefAt (K : PySem.W.Frag) (mg : Str → Option Value) (x : Str) (st : Stmt) (ps : List Str) (f : Addr) (fd : FuncData) : Prop where
  F : Fun K x x st f fd
  b : Binds K fd ps []
  g : mg x = some (.ref f)
structure Bn (mg : Str → Option Value) : Prop where
  len : mg "len" = none
  list : mg "list" = none
  tuple : mg "tuple" = none
  bool : mg "bool" = none
  int : mg "int" = none
  str : mg "str" = none
  isinstance : mg "isinstance" = none
  all : mg "all" = none
  any : mg "any" = none
  range : mg "range" = none
  max : mg "max" = none
  min : mg "min" = none
  dict : mg "dict" = none
  sorted : mg "sorted" = none
/-! ### heaps -/
theorem same_upd {H : Hp} {p : Addr} {o : HO} (h : H p = none) : Same H (upd H p o) := fun b x e => by
  rw [upd_ne (ne_of_none e h)]
  exact e
theorem sameU {H H' : Hp} {p : Addr} {o : HO} (e : Same H H') (h : H p = none) : Same H (upd H' p o) := fun b x q => by
  rw [upd_ne (ne_of_none q h)]
  exact e b x q
/-- all but d stands as it stood -/
def Keep (d : Addr) (H H' : Hp) : Prop := ∀ b o, b ≠ d → H b = some o → H' b = some o
theorem Keep.refl (d : Addr) (H : Hp) : Keep d H H := fun _ _ _ h => h
theorem Keep.trans {d : Addr} {H H1 H2 : Hp} (a : Keep d H H1) (b : Keep d H1 H2) : Keep d H H2 := fun c o n h => b c o n (a c o n h)
theorem Keep.upd {d : Addr} {H : Hp} {o : HO} : Keep d H (upd H d o) := fun b x n h => by
  rw [upd_ne n]
  exact h
theorem keepS {d : Addr} {H H' : Hp} (a : Same H H') : Keep d H H' := fun b o _ h => a b o h
/-! ### the drawing -/
structure Drawn (H : Hp) (d l : Addr) (ns : List Int) (i z s : Int) : Prop where
  at_d : H d = some (.lst [.ref l, .int i, .int z, .int s])
  at_l : H l = some (.lst (ns.map V.int))
  len : ns.length ≤ 63
  i0 : 0 ≤ i
  z0 : 0 ≤ z
  s0 : 0 ≤ s
  s1 : s < 2147483629
def Draw (H : Hp) (d l : Addr) : Prop := ∃ ns i z s, Drawn H d l ns i z s
theorem Drawn.ne {H : Hp} {d l : Addr} {ns : List Int} {i z s : Int} (h : Drawn H d l ns i z s) : l ≠ d := by
  refine ne_of h.at_l h.at_d fun e => ?_
  cases ns with
  | nil => cases e
  | cons x r => cases e
theorem Drawn.same {H H' : Hp} {d l : Addr} {ns : List Int} {i z s : Int} (h : Drawn H d l ns i z s) (e : Same H H') : Drawn H' d l ns i z s := { h with at_d := e _ _ h.at_d, at_l := e _ _ h.at_l }
theorem Draw.same {H H' : Hp} {d l : Addr} (h : Draw H d l) (e : Same H H') : Draw H' d l := by
  obtain ⟨ns, i, z, s, h⟩ := h
  exact ⟨ns, i, z, s, h.same e⟩
/-- the drawing list stored anew -/
theorem Drawn.put {H : Hp} {d l : Addr} {ns : List Int} {i z s i' z' s' : Int} (h : Drawn H d l ns i z s) (hi : 0 ≤ i') (hz : 0 ≤ z') (h0 : 0 ≤ s') (h1 : s' < 2147483629) :
    Drawn (upd H d (.lst [.ref l, .int i', .int z', .int s'])) d l ns i' z' s' :=
  ⟨upd_same, (by rw [upd_ne h.ne]; exact h.at_l), h.len, hi, hz, h0, h1⟩
def spOpen (K : PySem.W.Frag) : Sp := fun vs H Q _ => ∃ (a : Addr) (ns : List Int), vs = [.ref a] ∧ SqL K H a (ns.map V.int) ∧ ns.length ≤ 63 ∧
  ∀ H' d l, Same H H' → H d = none → H l = none → Draw H' d l → Q (.ref d) H'
def spPull : Sp := fun vs H Q _ => ∃ (d l : Addr) (c : Int), vs = [.ref d, .int c] ∧ Draw H d l ∧ 1 ≤ c ∧ c < 2 ^ 100 ∧
  ∀ (v : Int) (H' : Hp), 0 ≤ v → v < c → Draw H' d l → Keep d H H' → Q (.int v) H'
def spLaw (K : PySem.W.Frag) : Sp := fun vs H Q _ => ∃ (a : Addr) (ns : List Int), vs = [.ref a] ∧ SqL K H a (ns.map V.int) ∧ ns.length ≤ 63 ∧ ∀ H', Q (.bl true) H'
/-! ### data that is compared, at most n deep -/
mutual
inductive Rp (H : Hp) : Nat → V → PyData → Prop
  | non (n : Nat) : Rp H n .non .none
  | bl (n : Nat) (b : Bool) : Rp H n (.bl b) (.bool b)
  | int (n : Nat) (i : Int) : Rp H n (.int i) (.int i)
  | str (n : Nat) (x : Str) : Rp H n (.str x) (.str x)
  | lst {n : Nat} {a : Addr} {xs : List V} {ds : List PyData} : H a = some (.lst xs) → xs.length ≤ 100000 → RpAll H n xs ds → Rp H (n + 1) (.ref a) (.list ds)
  | tup {n : Nat} {a : Addr} {xs : List V} {ds : List PyData} : H a = some (.tup xs) → xs.length ≤ 100000 → RpAll H n xs ds → Rp H (n + 1) (.ref a) (.tuple ds)
inductive RpAll (H : Hp) : Nat → List V → List PyData → Prop
  | nil (n : Nat) : RpAll H n [] []
  | cons {n : Nat} {v : V} {vs : List V} {d : PyData} {ds : List PyData} : Rp H n v d → RpAll H n vs ds → RpAll H n (v :: vs) (d :: ds)
end
mutual
theorem Rp.same {H H' : Hp} (e : Same H H') : ∀ {n : Nat} {v : V} {d : PyData}, Rp H n v d → Rp H' n v d
  | _, _, _, .non n => .non n
  | _, _, _, .bl n b => .bl n b
  | _, _, _, .int n i => .int n i
  | _, _, _, .str n x => .str n x
  | _, _, _, .lst h l r => .lst (e _ _ h) l (RpAll.same e r)
  | _, _, _, .tup h l r => .tup (e _ _ h) l (RpAll.same e r)
theorem RpAll.same {H H' : Hp} (e : Same H H') : ∀ {n : Nat} {vs : List V} {ds : List PyData}, RpAll H n vs ds → RpAll H' n vs ds
  | _, _, _, .nil n => .nil n
  | _, _, _, .cons h r => .cons (Rp.same e h) (RpAll.same e r)
end
theorem RpAll.length {H : Hp} : ∀ {n : Nat} {vs : List V} {ds : List PyData}, RpAll H n vs ds → vs.length = ds.length
  | _, _, _, .nil _ => rfl
  | _, _, _, .cons _ r => congrArg (· + 1) (RpAll.length r)
theorem RpAll.get {H : Hp} : ∀ {n : Nat} {vs : List V} {ds : List PyData}, RpAll H n vs ds → ∀ (i : Nat), i < ds.length → ∃ v d, vs[i]? = some v ∧ ds[i]? = some d ∧ Rp H n v d
  | _, _, _, .nil _, i, h => absurd h (Nat.not_lt_zero i)
  | _, _, _, .cons (v := v) (d := d) h r, 0, _ => ⟨v, d, rfl, rfl, h⟩
  | _, _, _, .cons h r, i + 1, hi => by
    obtain ⟨v, d, a, b, c⟩ := RpAll.get r i (Nat.lt_of_succ_lt_succ hi)
    exact ⟨v, d, a, b, c⟩
def spLike (n : Nat) : Sp := fun vs H Q _ => ∃ (a b : V) (d : PyData), vs = [a, b] ∧ Rp H n a d ∧ Rp H n b d ∧ ∀ H', Same H H' → Q (.bl true) H'
def spBot : Sp := fun _ _ _ _ => False
section
variable {P : Program} {w : World} {K : PySem.W.Frag} {mg : Str → Option Value} {base : Heap}
theorem ok_bot {f : Addr} {fd : FuncData} {ps : List Str} : FnOk P w K mg base CX0 0 f fd ps spBot := ⟨fun _ _ _ _ h => h.elim, fun _ _ _ _ _ _ _ _ _ _ _ _ _ h => h.elim⟩
end
theorem Draw.ne_new {H : Hp} {d l p : Addr} (h : Draw H d l) (n : H p = none) : p ≠ d := by
  obtain ⟨ns, i, z, s, h⟩ := h
  exact (ne_of_none h.at_d n).symm
theorem Keep.of {d : Addr} {H H' : Hp} (k : Keep d H H') {b : Addr} {o : HO} (h : H b = some o) (n : b ≠ d) : H' b = some o := k b o n h
theorem sz_lt {n : Nat} (h : n < 100000) : n < sizeLine := Nat.lt_of_lt_of_le h (by decide)

/-! ### _law_open -/
abbrev s_open : Stmt := top 48
abbrev N_open : List Str := ["_law_script", "_law_seed", "_law_cell"]
abbrev P_open : List Str := ["_law_script"]
theorem sc_open : FnScope N_open P_open (defScope s_open) := ⟨rfl, rfl, rfl, by decide +kernel, rfl, by decide +kernel, by decide +kernel⟩
theorem cut63 (xs : List V) (h : xs.length ≤ 63) : cutV xs none (some 63) = xs := by
  unfold cutV
  rw [show HT.sIx xs.length xs.length (some 63) = min 63 xs.length from HT.sIx_nat xs.length xs.length 63, HT.sIx_none, Nat.min_eq_right h]
  show (xs.drop 0).take (xs.length - 0) = xs
  rw [List.drop_zero, Nat.sub_zero, List.take_length]
section
variable {P : Program} {w : World} {K : PySem.W.Frag} {mg : Str → Option Value} {base : Heap}
theorem ok_open {f : Addr} {fd : FuncData} (D : DefAt K mg "_law_open" s_open P_open f fd) (B : Bn mg) : FnOk P w K mg base CX0 1 f fd P_open (spOpen K) := by
  refine D.F.ok sc_open (fun vs H Q E h => ?_) (fun cdv A outer s H vs Q E hr h => ?_)
  · obtain ⟨a, ns, rfl, _⟩ := h
    rfl
  · obtain ⟨a, ns, rfl, hS, hlen, q⟩ := h
    refine ⟨_, (pss_cons (ps_set (i := 1) sc_open.nd rfl (.inl rfl) pe_int)
      (pss_cons (ps_for PassesOwn.never rfl (pi_list (pe_slice sl_list (pv 0) po_none (po_some pe_int))) (pg_name (i := 2) sc_open.nd rfl (.inl rfl)) (pss_one (ps_set (i := 1) sc_open.nd rfl (.inl rfl) (pe_op op_mod (pe_op op_add (pe_op op_add (pe_op op_mul (pv 1) pe_int) (pe_op op_mod (pv 2) pe_int)) pe_int) pe_int))))
      (pss_one (ps_ret (pe_lst (pa_cons (pe_callTy call_list_of (by rfl) B.list (by decide +kernel) (pa_cons (pe_slice sl_list (pv 0) po_none (po_some pe_int)) pa_nil)) (pa_cons pe_int (pa_cons pe_int (pa_cons (pv 1) pa_nil))))))))), ?_⟩
    refine ⟨.ref a, rfl, 63, rfl, a, ns.map V.int, rfl, hS, fun c nc => ?_⟩
    rw [cut63 _ (by rw [List.length_map]; exact hlen)]
    have s1 : Same H (upd H c (.lst (ns.map V.int))) := same_upd nc
    refine ⟨c, rfl, ⟨_, SqL.of upd_same⟩, for_list (K := K) (a := c) (xs := ns.map V.int) (fun i σ H2 => ∃ (sd : Int) (v : Option V), σ = [some (.ref a), some (.int sd), v] ∧ H2 = upd H c (.lst (ns.map V.int)) ∧ 0 ≤ sd ∧ sd < 2147483629)
      ⟨9134, none, rfl, rfl, by decide, by decide⟩ (fun i σ H2 _ ⟨_, _, _, e2, _⟩ => e2 ▸ SqL.of upd_same) ?_ ?_⟩
    · rintro i y σ H2 hi ⟨sd, v, rfl, rfl, h0, h1⟩
      obtain ⟨z, rfl⟩ : ∃ z, y = V.int z := by
        rw [List.getElem?_map] at hi
        cases e : ns[i]? with
        | none =>
          rw [e] at hi
          cases hi
        | some z =>
          rw [e] at hi
          exact ⟨z, (Option.some.inj hi).symm⟩
      refine ⟨_, rfl, _, _, rfl, rfl, .inl ⟨by omega, by omega⟩, _, rfl, _, _, rfl, rfl, (by show (0 : Int) < 2147483587; decide), _, _, rfl, rfl, _, _, rfl, rfl, _, _, rfl, rfl, (by show (0 : Int) < 2147483629; decide), ?_⟩
      exact ⟨_, _, rfl, rfl, Int.emod_nonneg _ (by decide), Int.emod_lt_of_pos _ (by decide)⟩
    · rintro σ H2 ⟨sd, v, rfl, rfl, h0, h1⟩
      refine ⟨.ref a, rfl, 63, rfl, a, ns.map V.int, rfl, s1.seq hS, fun p np => ?_⟩
      rw [cut63 _ (by rw [List.length_map]; exact hlen)]
      have s2 : Same H (upd (upd H c (.lst (ns.map V.int))) p (.lst (ns.map V.int))) := s1.trans (same_upd np)
      refine ⟨p, _, rfl, .inl (SqL.of upd_same), fun l nl => ?_⟩
      refine ⟨_, rfl, by show 4 ≤ sizeLine; decide, fun d nd => ?_⟩
      have s3 : Same H (upd (upd (upd H c (.lst (ns.map V.int))) p (.lst (ns.map V.int))) l (.lst (ns.map V.int))) := s2.trans (same_upd nl)
      refine q _ d l (s3.trans (same_upd nd)) (s3.free nd) (s2.free nl) ⟨ns, 0, 0, sd, upd_same, ?_, hlen, by decide, by decide, h0, h1⟩
      have nld : l ≠ d := fun e => by
        rw [← e, upd_same] at nd
        cases nd
      rw [upd_ne nld, upd_same]
end

/-! ### _law_pull -/
abbrev s_pull : Stmt := top 49
abbrev N_pull : List Str := ["_law_draw", "_law_cap", "_law_cell", "_law_got", "_law_seed"]
abbrev P_pull : List Str := ["_law_draw", "_law_cap"]
theorem sc_pull : FnScope N_pull P_pull (defScope s_pull) := ⟨rfl, rfl, rfl, by decide +kernel, rfl, by decide +kernel, by decide +kernel⟩
section
variable {P : Program} {w : World} {K : PySem.W.Frag} {mg : Str → Option Value} {base : Heap}
theorem ok_pull {f : Addr} {fd : FuncData} (D : DefAt K mg "_law_pull" s_pull P_pull f fd) (B : Bn mg) : FnOk P w K mg base CX0 1 f fd P_pull spPull := by
  refine D.F.ok sc_pull (fun vs H Q E h => ?_) (fun cdv A outer s H vs Q E hr h => ?_)
  · obtain ⟨d, l, c, rfl, _⟩ := h
    rfl
  · obtain ⟨d, l, c, rfl, hD, hc1, hc2, q⟩ := h
    refine ⟨_, (C8.pss_cut (ps_if (PW.pt (pw_and (pt_cmpR op_lt (pe_ix ix_list (pv 0) pe_int (fun _ _ => rfl)) (pv 1) (nomark _)) (pw_and1 (pt_cmpR op_lt (pe_ix ix_list (pv 0) pe_int (fun _ _ => rfl)) (pe_callB call_len_seq (by rfl) B.len (by decide +kernel) (pa_cons (pe_ix ix_list (pv 0) pe_int (fun _ _ => rfl)) pa_nil)) (nomark _))))) (pss_cons (ps_set (i := 2) sc_pull.nd rfl (.inl rfl) (pe_ix ix_list (pe_ix ix_list (pv 0) pe_int (fun _ _ => rfl)) (pe_ix ix_list (pv 0) pe_int (fun _ _ => rfl)) (fun _ _ => rfl)))
      (pss_cons (ps_asg (pe_op op_add (pe_ix ix_list (pv 0) pe_int (fun _ _ => rfl)) pe_int) (pg_sub (pv 0) pe_int set_list))
      (pss_cons (ps_asg pe_int (pg_sub (pv 0) pe_int set_list))
      (pss_one (ps_if (pt_cmpR op_ge (pv 2) (pe_op op_pow pe_int pe_int) (nomark _)) (pss_one (ps_asg (pv 2) (pg_sub (pv 0) pe_int set_list))) (pss_one (ps_asg (pe_op op_mod (pe_op op_add (pe_op op_add (pe_op op_mul (pe_ix ix_list (pv 0) pe_int (fun _ _ => rfl)) pe_int) (pe_op op_mul (pe_op op_mod (pv 2) pe_int) pe_int)) pe_int) pe_int) (pg_sub (pv 0) pe_int set_list)))))))) pss_nil)
      (C8.pss_cut (ps_if (pt_cmpR op_ge (pe_ix ix_list (pv 0) pe_int (fun _ _ => rfl)) (pv 1) (nomark _)) (pss_cons (ps_set (i := 3) sc_pull.nd rfl (.inl rfl) (pe_op op_mod (pe_ix ix_list (pv 0) pe_int (fun _ _ => rfl)) (pv 1)))
      (pss_cons (ps_asg (pe_op op_fdivW (pe_ix ix_list (pv 0) pe_int (fun _ _ => rfl)) (pv 1)) (pg_sub (pv 0) pe_int set_list))
      (pss_one (ps_ret (pv 3))))) pss_nil)
      (pss_cons (ps_set (i := 4) sc_pull.nd rfl (.inl rfl) (pe_ix ix_list (pv 0) pe_int (fun _ _ => rfl)))
      (pss_cons (ps_asg (pe_op op_mod (pe_op op_add (pe_op op_add (pe_op op_mul (pe_op op_mod (pe_op op_mul (pv 4) (pv 4)) pe_int) pe_int) (pe_op op_mul (pv 4) pe_int)) pe_int) pe_int) (pg_sub (pv 0) pe_int set_list))
      (pss_cons (ps_if (pt_cmpR op_lt (pv 1) (pe_op op_pow pe_int pe_int) (nomark _)) (pss_one (ps_ret (pe_op op_mod (pe_op op_add (pe_op op_fdivW (pe_ix ix_list (pv 0) pe_int (fun _ _ => rfl)) pe_int) (pe_op op_mul (pe_op op_mod (pe_ix ix_list (pv 0) pe_int (fun _ _ => rfl)) pe_int) pe_int)) (pv 1)))) pss_nil)
      (pss_one (ps_ret (pe_op op_mod (pe_op op_add (pe_op op_fdivW (pe_op op_pow (pe_ix ix_list (pv 0) pe_int (fun _ _ => rfl)) pe_int) pe_int) (pe_ix ix_list (pv 0) pe_int (fun _ _ => rfl))) (pv 1))))))))), ?_⟩
    have hpow : CPow 10 18 := ⟨by decide, by decide, by decide⟩
    have hpow8 : CPow 10 8 := ⟨by decide, by decide, by decide⟩
    have ix0 : ∀ {a b e g : V}, atI [a, b, e, g] 0 = some a := fun {_ _ _ _} => atI_nat (j := 0) rfl
    have ix1 : ∀ {a b e g : V}, atI [a, b, e, g] 1 = some b := fun {_ _ _ _} => atI_nat (j := 1) rfl
    have ix2 : ∀ {a b e g : V}, atI [a, b, e, g] 2 = some e := fun {_ _ _ _} => atI_nat (j := 2) rfl
    have ix3 : ∀ {a b e g : V}, atI [a, b, e, g] 3 = some g := fun {_ _ _ _} => atI_nat (j := 3) rfl
    -- the first if
    refine ⟨fun σ H1 => ∃ y : Option V, σ = [some (.ref d), some (.int c), y, none, none] ∧ Draw H1 d l ∧ Keep d H H1, ?_, ?_⟩
    · obtain ⟨ns, i, z, sd, hW⟩ := hD
      refine ⟨.ref d, rfl, d, _, 2, .int z, rfl, rfl, SqL.of hW.at_d, ix2, .int c, rfl, z, c, rfl, rfl, _, rfl, ?_⟩
      refine ite2 (fun _ => ?_) (fun _ => iteF ⟨none, rfl, ⟨ns, i, z, sd, hW⟩, Keep.refl _ _⟩)
      refine ⟨.ref d, rfl, d, _, 1, .int i, rfl, rfl, SqL.of hW.at_d, ix1, .ref d, rfl, d, _, 0, .ref l, rfl, rfl, SqL.of hW.at_d, ix0, l, _, rfl, .inl (SqL.of hW.at_l), i, _, rfl, rfl, _, rfl, ?_⟩
      refine ite2 (fun hb => ?_) (fun _ => ⟨none, rfl, ⟨ns, i, z, sd, hW⟩, Keep.refl _ _⟩)
      have hil : i < ((ns.map V.int).length : Int) := of_decide_eq_true hb
      rw [List.length_map] at hil
      have hi0 := hW.i0
      obtain ⟨j, rfl⟩ : ∃ j : Nat, i = (j : Int) := ⟨i.toNat, by omega⟩
      have hj : j < ns.length := by omega
      have gj : (ns.map V.int)[j]? = some (.int ns[j]) := by
        rw [List.getElem?_map, List.getElem?_eq_getElem hj]
        rfl
      -- cell = draw[0][draw[1]]
      refine ⟨.ref d, rfl, d, _, 0, .ref l, rfl, rfl, SqL.of hW.at_d, ix0, .ref d, rfl, d, _, 1, .int (j : Int), rfl, rfl, SqL.of hW.at_d, ix1, l, _, (j : Int), .int ns[j], rfl, rfl, SqL.of hW.at_l, atI_nat gj, ?_⟩
      -- draw[1] = draw[1] + 1
      refine ⟨.ref d, rfl, d, _, 1, .int (j : Int), rfl, rfl, SqL.of hW.at_d, ix1, _, _, rfl, rfl, .ref d, rfl, d, _, 1, 1, rfl, rfl, hW.at_d, rfl, ?_⟩
      have W1 := hW.put (i' := (j : Int) + 1) (z' := z) (s' := sd) (by omega) hW.z0 hW.s0 hW.s1
      -- draw[2] = 0
      refine ⟨.ref d, rfl, d, _, 2, 2, rfl, rfl, upd_same, rfl, ?_⟩
      have W2 := W1.put (i' := (j : Int) + 1) (z' := 0) (s' := sd) (by omega) (by decide) hW.s0 hW.s1
      -- if cell >= 10 ** 18
      refine ⟨_, rfl, _, _, rfl, rfl, hpow, _, _, rfl, rfl, _, rfl, ?_⟩
      refine ite2 (fun hg => ?_) (fun _ => ?_)
      · have hg' : (10 : Int) ^ 18 ≤ ns[j] := of_decide_eq_true hg
        refine ⟨_, rfl, .ref d, rfl, d, _, 2, 2, rfl, rfl, upd_same, rfl, ?_⟩
        exact ⟨_, rfl, ⟨_, _, _, _, W2.put (i' := (j : Int) + 1) (z' := ns[j]) (s' := sd) (by omega) (by omega) hW.s0 hW.s1⟩, (Keep.upd.trans Keep.upd).trans Keep.upd⟩
      · refine ⟨.ref d, rfl, d, _, 3, .int sd, rfl, rfl, SqL.of upd_same, ix3, _, _, rfl, rfl, .inr ⟨by decide, by decide⟩, _, rfl, _, _, rfl, rfl, (by show (0 : Int) < 2147483647; decide), _, _, rfl, rfl, .inr ⟨by decide, by decide⟩, _, _, rfl, rfl, _, _, rfl, rfl, _, _, rfl, rfl, (by show (0 : Int) < 2147483629; decide), ?_⟩
        refine ⟨.ref d, rfl, d, _, 3, 3, rfl, rfl, upd_same, rfl, ?_⟩
        exact ⟨_, rfl, ⟨_, _, _, _, W2.put (i' := (j : Int) + 1) (z' := 0) (s' := _) (by omega) (by decide) (Int.emod_nonneg _ (by decide)) (Int.emod_lt_of_pos _ (by decide))⟩, (Keep.upd.trans Keep.upd).trans Keep.upd⟩
    · rintro σ H1 ⟨y, rfl, ⟨ns, i, z, sd, hW⟩, kp⟩
      -- the second if
      refine ⟨fun σ H2 => H2 = H1 ∧ ∃ y' : Option V, σ = [some (.ref d), some (.int c), y, y', none], ?_, ?_⟩
      · refine ⟨.ref d, rfl, d, _, 2, .int z, rfl, rfl, SqL.of hW.at_d, ix2, .int c, rfl, z, c, rfl, rfl, _, rfl, ?_⟩
        refine ite2 (fun hg => ?_) (fun _ => ⟨rfl, none, rfl⟩)
        refine ⟨.ref d, rfl, d, _, 2, .int z, rfl, rfl, SqL.of hW.at_d, ix2, .int c, rfl, _, _, rfl, rfl, (by omega), ?_⟩
        have hwd : CDivW z c := wide_div (b := 100) (by omega) (by omega) (by decide) (by decide)
        refine ⟨.ref d, rfl, d, _, 2, .int z, rfl, rfl, SqL.of hW.at_d, ix2, .int c, rfl, _, _, rfl, rfl, hwd, .ref d, rfl, d, _, 2, 2, rfl, rfl, hW.at_d, rfl, _, rfl, ?_⟩
        exact q _ _ (Int.emod_nonneg _ (by omega)) (Int.emod_lt_of_pos _ (by omega)) ⟨_, _, _, _, hW.put (i' := i) (z' := z / c) (s' := sd) hW.i0 (Int.ediv_nonneg hW.z0 (by omega)) hW.s0 hW.s1⟩ (kp.trans Keep.upd)
      · rintro σ H2 ⟨rfl, y', rfl⟩
        have hs0 := hW.s0
        have hs1 := hW.s1
        have hm : CMul sd sd := .inl ⟨by omega, by omega⟩
        -- seed = draw[3]; draw[3] = ..
        refine ⟨.ref d, rfl, d, _, 3, .int sd, rfl, rfl, SqL.of hW.at_d, ix3, ?_⟩
        refine ⟨_, rfl, _, rfl, _, _, rfl, rfl, hm, _, _, rfl, rfl, (by show (0 : Int) < 2147483647; decide), _, _, rfl, rfl, .inr ⟨by decide, by decide⟩, _, rfl, _, _, rfl, rfl, .inr ⟨by decide, by decide⟩, _, _, rfl, rfl, _, _, rfl, rfl, _, _, rfl, rfl, (by show (0 : Int) < 2147483629; decide), ?_⟩
        refine ⟨.ref d, rfl, d, _, 3, 3, rfl, rfl, hW.at_d, rfl, ?_⟩
        have n0 : 0 ≤ (sd * sd % 2147483647 * 3 + sd * 45991 + 746773) % 2147483629 := Int.emod_nonneg _ (by decide)
        have n1 : (sd * sd % 2147483647 * 3 + sd * 45991 + 746773) % 2147483629 < 2147483629 := Int.emod_lt_of_pos _ (by decide)
        have W1 := hW.put (i' := i) (z' := z) (s' := (sd * sd % 2147483647 * 3 + sd * 45991 + 746773) % 2147483629) hW.i0 hW.z0 n0 n1
        have na : ((sd * sd % 2147483647 * 3 + sd * 45991 + 746773) % 2147483629).natAbs < 2 ^ 64 := by omega
        -- if cap < 10 ** 8
        refine ⟨_, rfl, _, _, rfl, rfl, hpow8, _, _, rfl, rfl, _, rfl, ?_⟩
        refine ite2 (fun _ => ?_) (fun _ => ?_)
        · refine ⟨.ref d, rfl, d, _, 3, .int _, rfl, rfl, SqL.of W1.at_d, ix3, _, _, rfl, rfl, wide_div (b := 10) (by decide) (by decide) (by decide) (by decide), .ref d, rfl, d, _, 3, .int _, rfl, rfl, SqL.of W1.at_d, ix3, _, _, rfl, rfl, (by show (0 : Int) < 6151; decide), _, _, rfl, rfl, .inr ⟨by decide, by decide⟩, _, _, rfl, rfl, .int c, rfl, _, _, rfl, rfl, (by omega), ?_⟩
          exact q _ _ (Int.emod_nonneg _ (by omega)) (Int.emod_lt_of_pos _ (by omega)) ⟨_, _, _, _, W1⟩ (kp.trans Keep.upd)
        · refine ⟨.ref d, rfl, d, _, 3, .int _, rfl, rfl, SqL.of W1.at_d, ix3, _, _, rfl, rfl, ⟨by decide, by decide, na⟩, _, _, rfl, rfl, wide_div (b := 10) (by decide) (by decide) (by decide) (by decide), .ref d, rfl, d, _, 3, .int _, rfl, rfl, SqL.of W1.at_d, ix3, _, _, rfl, rfl, .int c, rfl, _, _, rfl, rfl, (by omega), ?_⟩
          exact q _ _ (Int.emod_nonneg _ (by omega)) (Int.emod_lt_of_pos _ (by omega)) ⟨_, _, _, _, W1⟩ (kp.trans Keep.upd)
end

/-! ### _law_like -/
abbrev s_like : Stmt := top 50
abbrev N_like : List Str := ["_law_found", "_law_due", "_law_j"]
abbrev P_like : List Str := ["_law_found", "_law_due"]
theorem sc_like : FnScope N_like P_like (defScope s_like) := ⟨rfl, rfl, rfl, by decide +kernel, rfl, by decide +kernel, by decide +kernel⟩
section
variable {P : Program} {w : World} {K : PySem.W.Frag} {mg : Str → Option Value} {base : Heap}
theorem isn_no {v : V} {A B : Prop} (h : v ≠ .non) (b : B) : if decide (v = V.non) = true then A else B := by
  rw [decide_eq_false h]
  exact iteF b
theorem like_step {k n : Nat} {f : Addr} {fd : FuncData} {spR : Sp} (D_like : DefAt K mg "_law_like" s_like P_like f fd) (B : Bn mg) (G_like : FnOk P w K mg base CX0 k f fd P_like spR)
    (hR : ∀ m, n = m + 1 → ∀ vs H Q E, spLike m vs H Q E → spR vs H Q E) : FnOk P w K mg base CX0 (k + 1) f fd P_like (spLike n) := by
  refine D_like.F.ok sc_like (fun vs H Q E h => ?_) (fun cdv A outer s H vs Q E hr h => ?_)
  · obtain ⟨a, b, d, rfl, _⟩ := h
    rfl
  · obtain ⟨a, b, d, rfl, ha, hb, q⟩ := h
    refine ⟨_, (pss_cons (ps_if (pt_cmpR op_isN (pv 1) pe_non (nomark _)) (pss_one (ps_ret (pe_cmpR op_isN (pv 0) pe_non (nomark _)))) pss_nil)
      (pss_cons (ps_if (pt_val (pe_callB call_isi (by rfl) B.isinstance (by decide +kernel) (pa_cons (pv 1) (pa_cons (pe_bltn (v := .ty "bool") (by rfl) B.bool (by decide +kernel) rfl) pa_nil)))) (pss_one (ps_ret (pe_and (pe_callB call_isi (by rfl) B.isinstance (by decide +kernel) (pa_cons (pv 0) (pa_cons (pe_bltn (v := .ty "bool") (by rfl) B.bool (by decide +kernel) rfl) pa_nil))) (pe_one (pe_cmpR op_eq (pv 0) (pv 1) (nomark _)))))) pss_nil)
      (pss_cons (ps_if (pt_val (pe_callB call_isi (by rfl) B.isinstance (by decide +kernel) (pa_cons (pv 1) (pa_cons (pe_bltn (v := .ty "int") (by rfl) B.int (by decide +kernel) rfl) pa_nil)))) (pss_one (ps_ret (pe_and (pe_callB call_isi (by rfl) B.isinstance (by decide +kernel) (pa_cons (pv 0) (pa_cons (pe_bltn (v := .ty "int") (by rfl) B.int (by decide +kernel) rfl) pa_nil))) (pe_and (pe_not (pe_callB call_isi (by rfl) B.isinstance (by decide +kernel) (pa_cons (pv 0) (pa_cons (pe_bltn (v := .ty "bool") (by rfl) B.bool (by decide +kernel) rfl) pa_nil)))) (pe_one (pe_cmpR op_eq (pv 0) (pv 1) (nomark _))))))) pss_nil)
      (pss_cons (ps_if (pt_val (pe_callB call_isi (by rfl) B.isinstance (by decide +kernel) (pa_cons (pv 1) (pa_cons (pe_bltn (v := .ty "str") (by rfl) B.str (by decide +kernel) rfl) pa_nil)))) (pss_one (ps_ret (pe_and (pe_callB call_isi (by rfl) B.isinstance (by decide +kernel) (pa_cons (pv 0) (pa_cons (pe_bltn (v := .ty "str") (by rfl) B.str (by decide +kernel) rfl) pa_nil))) (pe_one (pe_cmpR op_eq (pv 0) (pv 1) (nomark _)))))) pss_nil)
      (pss_cons (ps_if (PW.pt (pw_or (pt_cmpR op_ne (pe_callB call_isi (by rfl) B.isinstance (by decide +kernel) (pa_cons (pv 1) (pa_cons (pe_bltn (v := .ty "tuple") (by rfl) B.tuple (by decide +kernel) rfl) pa_nil))) (pe_callB call_isi (by rfl) B.isinstance (by decide +kernel) (pa_cons (pv 0) (pa_cons (pe_bltn (v := .ty "tuple") (by rfl) B.tuple (by decide +kernel) rfl) pa_nil))) (nomark _)) (pw_or1 (pt_cmpR op_ne (pe_callB call_isi (by rfl) B.isinstance (by decide +kernel) (pa_cons (pv 1) (pa_cons (pe_bltn (v := .ty "list") (by rfl) B.list (by decide +kernel) rfl) pa_nil))) (pe_callB call_isi (by rfl) B.isinstance (by decide +kernel) (pa_cons (pv 0) (pa_cons (pe_bltn (v := .ty "list") (by rfl) B.list (by decide +kernel) rfl) pa_nil))) (nomark _))))) (pss_one (ps_ret pe_bl)) pss_nil)
      (pss_cons (ps_if (pt_cmpR op_ne (pe_callB call_len_seq (by rfl) B.len (by decide +kernel) (pa_cons (pv 0) pa_nil)) (pe_callB call_len_seq (by rfl) B.len (by decide +kernel) (pa_cons (pv 1) pa_nil)) (nomark _)) (pss_one (ps_ret pe_bl)) pss_nil)
      (pss_one (ps_ret (pe_callB (cr_all rfl) (by rfl) B.all (by decide +kernel) (pa_cons (pe_lc (own := [("_law_j", 2)]) (g := gName 2) (by rfl) sc_like.nd (pi_range1 (by rfl) B.range (pa_cons (pe_callB call_len_seq (by rfl) B.len (by decide +kernel) (pa_cons (pv 1) pa_nil)) pa_nil)) (blkOk_by (own := [("_law_j", 2)]) (N := N_like) (sc := defScope s_like) (by decide +kernel)) (fun _ _ _ _ _ => (pg_name (i := 2) sc_like.nd rfl (.inl rfl))) (fun _ _ _ _ _ => pts_nil) (fun _ _ _ _ _ => (pe_call G_like (hr.mono (by omega)) (by rfl) D_like.g D_like.F.kp D_like.b .nil pass0 (pa_cons (pe_ix (show IxR _ (rIx K) from ix_seq) (pv 0) (pv 2) (fun _ _ => rfl)) (pa_cons (pe_ix (show IxR _ (rIx K) from ix_seq) (pv 1) (pv 2) (fun _ _ => rfl)) pa_nil))))) pa_nil)))))))))), ?_⟩
    cases ha with
    | non =>
      cases hb
      exact ⟨.non, rfl, rfl, _, rfl, iteT ⟨.non, rfl, rfl, q H (Same.refl H)⟩⟩
    | bl _ x =>
      cases hb
      refine ⟨.bl x, rfl, rfl, _, rfl, isn_no (by intro z; cases z) ?_⟩
      refine ⟨.bl x, rfl, _, _, _, _, true, rfl, ClsV.ty _, TyX.base (TyOf.bl _), kit_ty (by decide +kernel), _, rfl, iteT ?_⟩
      refine ⟨.bl x, rfl, _, _, _, _, true, rfl, ClsV.ty _, TyX.base (TyOf.bl _), kit_ty (by decide +kernel), _, rfl, iteT ?_⟩
      refine ⟨.bl x, rfl, .bl x, rfl, rfl, ?_⟩
      rw [decide_eq_true rfl]
      exact q H (Same.refl H)
    | int _ x =>
      cases hb
      refine ⟨.int x, rfl, rfl, _, rfl, isn_no (by intro z; cases z) ?_⟩
      refine ⟨.int x, rfl, _, _, _, _, false, rfl, ClsV.ty _, TyX.base (TyOf.int _), kit_ty (by decide +kernel), _, rfl, iteF ?_⟩
      refine ⟨.int x, rfl, _, _, _, _, true, rfl, ClsV.ty _, TyX.base (TyOf.int _), kit_ty (by decide +kernel), _, rfl, iteT ?_⟩
      refine ⟨.int x, rfl, _, _, _, _, true, rfl, ClsV.ty _, TyX.base (TyOf.int _), kit_ty (by decide +kernel), _, rfl, iteT ?_⟩
      refine ⟨.int x, rfl, _, _, _, _, false, rfl, ClsV.ty _, TyX.base (TyOf.int _), kit_ty (by decide +kernel), _, rfl, _, rfl, iteT ?_⟩
      refine ⟨.int x, rfl, .int x, rfl, rfl, ?_⟩
      rw [decide_eq_true rfl]
      exact q H (Same.refl H)
    | str _ x =>
      cases hb
      refine ⟨.str x, rfl, rfl, _, rfl, isn_no (by intro z; cases z) ?_⟩
      refine ⟨.str x, rfl, _, _, _, _, false, rfl, ClsV.ty _, TyX.base (TyOf.str _), kit_ty (by decide +kernel), _, rfl, iteF ?_⟩
      refine ⟨.str x, rfl, _, _, _, _, false, rfl, ClsV.ty _, TyX.base (TyOf.str _), kit_ty (by decide +kernel), _, rfl, iteF ?_⟩
      refine ⟨.str x, rfl, _, _, _, _, true, rfl, ClsV.ty _, TyX.base (TyOf.str _), kit_ty (by decide +kernel), _, rfl, iteT ?_⟩
      refine ⟨.str x, rfl, _, _, _, _, true, rfl, ClsV.ty _, TyX.base (TyOf.str _), kit_ty (by decide +kernel), _, rfl, iteT ?_⟩
      refine ⟨.str x, rfl, .str x, rfl, rfl, ?_⟩
      rw [decide_eq_true rfl]
      exact q H (Same.refl H)
    | @lst m p xs ds hp lp rp =>
      cases hb with
      | @lst _ r ys _ hq lq rq =>
      have lx : xs.length = ds.length := rp.length
      have ly : ys.length = ds.length := rq.length
      refine ⟨.ref r, rfl, rfl, _, rfl, isn_no (by intro z; cases z) ?_⟩
      refine ⟨.ref r, rfl, _, _, _, _, false, rfl, ClsV.ty _, TyX.base (TyOf.lst hq), kit_ty (by decide +kernel), _, rfl, iteF ?_⟩
      refine ⟨.ref r, rfl, _, _, _, _, false, rfl, ClsV.ty _, TyX.base (TyOf.lst hq), kit_ty (by decide +kernel), _, rfl, iteF ?_⟩
      refine ⟨.ref r, rfl, _, _, _, _, false, rfl, ClsV.ty _, TyX.base (TyOf.lst hq), kit_ty (by decide +kernel), _, rfl, iteF ?_⟩
      refine ⟨.ref r, rfl, _, _, _, _, false, rfl, ClsV.ty _, TyX.base (TyOf.lst hq), kit_ty (by decide +kernel), .ref p, rfl, _, _, _, _, false, rfl, ClsV.ty _, TyX.base (TyOf.lst hp), kit_ty (by decide +kernel), rfl, _, rfl, iteNS rfl ?_⟩
      refine ⟨.ref r, rfl, _, _, _, _, true, rfl, ClsV.ty _, TyX.base (TyOf.lst hq), kit_ty (by decide +kernel), .ref p, rfl, _, _, _, _, true, rfl, ClsV.ty _, TyX.base (TyOf.lst hp), kit_ty (by decide +kernel), rfl, _, rfl, iteNS rfl ?_⟩
      refine ⟨.ref p, rfl, p, xs, rfl, .inl (SqL.of hp), .ref r, rfl, r, ys, rfl, .inl (SqL.of hq), rfl, _, rfl, iteNS (by rw [lx, ly]) ?_⟩
      refine ⟨.ref r, rfl, r, ys, rfl, .inl (SqL.of hq), _, rfl, (by have := lq; omega), (by have := lq; omega), fun D hD => lc_range (lo := 0) (n := ((ys.length : Int)).toNat) (fun i H2 => ∃ bs : List Bool, Same H H2 ∧ H2 D = some (.lst (bs.map V.bl)) ∧ bs.length = i ∧ bs.all id = true) ⟨[], same_upd hD, upd_same, rfl, rfl⟩ ?_ ?_⟩
      · rintro i H2 hi ⟨bs, sm, hDl, rfl, hal⟩
        have hi' : bs.length < ds.length := by omega
        obtain ⟨v1, d1, e1, e2, r1⟩ := rp.get bs.length hi'
        obtain ⟨v2, d2, e3, e4, r2⟩ := rq.get bs.length hi'
        have ed : d2 = d1 := Option.some.inj (e4.symm.trans e2)
        subst ed
        refine ⟨rfl, ?_⟩
        refine ⟨.ref p, rfl, .int (0 + (bs.length : Int)), rfl, .inl ⟨p, xs, _, v1, rfl, rfl, SqL.of (sm _ _ hp), at_of (by omega) e1, .ref r, rfl, .int (0 + (bs.length : Int)), rfl, .inl ⟨r, ys, _, v2, rfl, rfl, SqL.of (sm _ _ hq), at_of (by omega) e3, ?_⟩⟩⟩
        refine hR m rfl _ _ _ _ ⟨v1, v2, d2, rfl, r1.same sm, r2.same sm, fun H3 s3 => ?_⟩
        refine ⟨bs.map V.bl, s3 _ _ hDl, sz_lt (by rw [List.length_map]; omega), bs ++ [true], fun b o e => ?_, ?_, by rw [List.length_append]; rfl, by rw [List.all_append, hal]; rfl⟩
        · rw [upd_ne (ne_of_none e hD)]
          exact s3 _ _ (sm _ _ e)
        · rw [upd_same, List.map_append]
          rfl
      · rintro H2 ⟨bs, sm, hDl, _, hal⟩
        refine ⟨D, bs, rfl, SqL.of hDl, ?_⟩
        rw [hal]
        exact q H2 sm
    | @tup m p xs ds hp lp rp =>
      cases hb with
      | @tup _ r ys _ hq lq rq =>
      have lx : xs.length = ds.length := rp.length
      have ly : ys.length = ds.length := rq.length
      refine ⟨.ref r, rfl, rfl, _, rfl, isn_no (by intro z; cases z) ?_⟩
      refine ⟨.ref r, rfl, _, _, _, _, false, rfl, ClsV.ty _, TyX.base (TyOf.tup hq), kit_ty (by decide +kernel), _, rfl, iteF ?_⟩
      refine ⟨.ref r, rfl, _, _, _, _, false, rfl, ClsV.ty _, TyX.base (TyOf.tup hq), kit_ty (by decide +kernel), _, rfl, iteF ?_⟩
      refine ⟨.ref r, rfl, _, _, _, _, false, rfl, ClsV.ty _, TyX.base (TyOf.tup hq), kit_ty (by decide +kernel), _, rfl, iteF ?_⟩
      refine ⟨.ref r, rfl, _, _, _, _, true, rfl, ClsV.ty _, TyX.base (TyOf.tup hq), kit_ty (by decide +kernel), .ref p, rfl, _, _, _, _, true, rfl, ClsV.ty _, TyX.base (TyOf.tup hp), kit_ty (by decide +kernel), rfl, _, rfl, iteNS rfl ?_⟩
      refine ⟨.ref r, rfl, _, _, _, _, false, rfl, ClsV.ty _, TyX.base (TyOf.tup hq), kit_ty (by decide +kernel), .ref p, rfl, _, _, _, _, false, rfl, ClsV.ty _, TyX.base (TyOf.tup hp), kit_ty (by decide +kernel), rfl, _, rfl, iteNS rfl ?_⟩
      refine ⟨.ref p, rfl, p, xs, rfl, .inr (SqT.of hp), .ref r, rfl, r, ys, rfl, .inr (SqT.of hq), rfl, _, rfl, iteNS (by rw [lx, ly]) ?_⟩
      refine ⟨.ref r, rfl, r, ys, rfl, .inr (SqT.of hq), _, rfl, (by have := lq; omega), (by have := lq; omega), fun D hD => lc_range (lo := 0) (n := ((ys.length : Int)).toNat) (fun i H2 => ∃ bs : List Bool, Same H H2 ∧ H2 D = some (.lst (bs.map V.bl)) ∧ bs.length = i ∧ bs.all id = true) ⟨[], same_upd hD, upd_same, rfl, rfl⟩ ?_ ?_⟩
      · rintro i H2 hi ⟨bs, sm, hDl, rfl, hal⟩
        have hi' : bs.length < ds.length := by omega
        obtain ⟨v1, d1, e1, e2, r1⟩ := rp.get bs.length hi'
        obtain ⟨v2, d2, e3, e4, r2⟩ := rq.get bs.length hi'
        have ed : d2 = d1 := Option.some.inj (e4.symm.trans e2)
        subst ed
        refine ⟨rfl, ?_⟩
        refine ⟨.ref p, rfl, .int (0 + (bs.length : Int)), rfl, .inr <| .inl ⟨p, xs, _, v1, rfl, rfl, SqT.of (sm _ _ hp), at_of (by omega) e1, .ref r, rfl, .int (0 + (bs.length : Int)), rfl, .inr <| .inl ⟨r, ys, _, v2, rfl, rfl, SqT.of (sm _ _ hq), at_of (by omega) e3, ?_⟩⟩⟩
        refine hR m rfl _ _ _ _ ⟨v1, v2, d2, rfl, r1.same sm, r2.same sm, fun H3 s3 => ?_⟩
        refine ⟨bs.map V.bl, s3 _ _ hDl, sz_lt (by rw [List.length_map]; omega), bs ++ [true], fun b o e => ?_, ?_, by rw [List.length_append]; rfl, by rw [List.all_append, hal]; rfl⟩
        · rw [upd_ne (ne_of_none e hD)]
          exact s3 _ _ (sm _ _ e)
        · rw [upd_same, List.map_append]
          rfl
      · rintro H2 ⟨bs, sm, hDl, _, hal⟩
        refine ⟨D, bs, rfl, SqL.of hDl, ?_⟩
        rw [hal]
        exact q H2 sm
theorem ok_like {f : Addr} {fd : FuncData} (D : DefAt K mg "_law_like" s_like P_like f fd) (B : Bn mg) : ∀ n : Nat, FnOk P w K mg base CX0 (n + 1) f fd P_like (spLike n)
  | 0 => like_step D B ok_bot fun m e => absurd e (by omega)
  | n + 1 => like_step D B (ok_like D B n) fun m e vs H Q E h => by
    have e : m = n := by omega
    subst e
    exact h
end

/-! ### holds, part -/
def tup4 (o p m f : Int) : HO := .tup [.int o, .int p, .int m, .int f]
abbrev s_holds : Stmt := top 35
abbrev N_holds : List Str := ["mating", "at", "many"]
abbrev P_holds : List Str := ["mating", "at", "many"]
theorem sc_holds : FnScope N_holds P_holds (defScope s_holds) := ⟨rfl, rfl, rfl, by decide +kernel, rfl, by decide +kernel, by decide +kernel⟩
def spHolds : Sp := fun vs H Q _ => ∃ (t : Addr) (o p m f : Int) (x y : V), vs = [.ref t, x, y] ∧ H t = some (tup4 o p m f) ∧
  ((∃ b, x = .bl b ∧ Q (.bl false) H) ∨ (∃ i b, x = .int i ∧ y = .bl b ∧ Q (.bl false) H) ∨ ∃ i k, x = .int i ∧ y = .int k ∧ Q (.bl (decide (1 ≤ k ∧ o ≤ i ∧ i + k ≤ o + m))) H)
theorem at4_0 {a b c d : V} : atI [a, b, c, d] 0 = some a := atI_nat (j := 0) rfl
theorem at4_1 {a b c d : V} : atI [a, b, c, d] 1 = some b := atI_nat (j := 1) rfl
theorem at4_2 {a b c d : V} : atI [a, b, c, d] 2 = some c := atI_nat (j := 2) rfl
theorem at4_3 {a b c d : V} : atI [a, b, c, d] 3 = some d := atI_nat (j := 3) rfl
section
variable {P : Program} {w : World} {K : PySem.W.Frag} {mg : Str → Option Value} {base : Heap}
theorem ok_holds {f : Addr} {fd : FuncData} (D : DefAt K mg "holds" s_holds P_holds f fd) (B : Bn mg) : FnOk P w K mg base CX0 1 f fd P_holds spHolds := by
  refine D.F.ok sc_holds (fun vs H Q E h => ?_) (fun cdv A outer s H vs Q E hr h => ?_)
  · obtain ⟨t, o, p, m, f, x, y, rfl, _⟩ := h
    rfl
  · obtain ⟨t, o, p, m, f, x, y, rfl, ht, h⟩ := h
    refine ⟨_, (pss_cons (ps_if (PW.pt (pw_or (pt_val (pe_callB call_isi (by rfl) B.isinstance (by decide +kernel) (pa_cons (pv 1) (pa_cons (pe_bltn (v := .ty "bool") (by rfl) B.bool (by decide +kernel) rfl) pa_nil)))) (pw_or (pt_val (pe_callB call_isi (by rfl) B.isinstance (by decide +kernel) (pa_cons (pv 2) (pa_cons (pe_bltn (v := .ty "bool") (by rfl) B.bool (by decide +kernel) rfl) pa_nil)))) (pw_or1 (pt_cmpR op_lt (pv 2) pe_int (nomark _)))))) (pss_one (ps_ret pe_bl)) pss_nil)
      (pss_one (ps_ret (pe_and (pe_cmpR op_le (pe_ix ix_tup (pv 0) pe_int (fun _ _ => rfl)) (pv 1) (nomark _)) (pe_one (pe_cmpR op_le (pe_op op_add (pv 1) (pv 2)) (pe_op op_add (pe_ix ix_tup (pv 0) pe_int (fun _ _ => rfl)) (pe_ix ix_tup (pv 0) pe_int (fun _ _ => rfl))) (nomark _))))))), ?_⟩
    rcases h with ⟨b, rfl, q⟩ | ⟨i, b, rfl, rfl, q⟩ | ⟨i, k, rfl, rfl, q⟩
    · exact ⟨.bl b, rfl, _, _, _, _, true, rfl, ClsV.ty _, TyX.base (TyOf.bl _), kit_ty (by decide +kernel), _, rfl, q⟩
    · refine ⟨.int i, rfl, _, _, _, _, false, rfl, ClsV.ty _, TyX.base (TyOf.int _), kit_ty (by decide +kernel), _, rfl, ?_⟩
      exact ⟨.bl b, rfl, _, _, _, _, true, rfl, ClsV.ty _, TyX.base (TyOf.bl _), kit_ty (by decide +kernel), _, rfl, q⟩
    · refine ⟨.int i, rfl, _, _, _, _, false, rfl, ClsV.ty _, TyX.base (TyOf.int _), kit_ty (by decide +kernel), _, rfl, ?_⟩
      refine ⟨.int k, rfl, _, _, _, _, false, rfl, ClsV.ty _, TyX.base (TyOf.int _), kit_ty (by decide +kernel), _, rfl, ?_⟩
      refine ⟨.int k, rfl, k, 1, rfl, rfl, _, rfl, ?_⟩
      refine ite2 (fun hk => ?_) (fun hk => ?_)
      · have hk' : k < 1 := of_decide_eq_true hk
        have e : decide (1 ≤ k ∧ o ≤ i ∧ i + k ≤ o + m) = false := decide_eq_false (by omega)
        rw [e] at q
        exact q
      · have hk' : ¬ k < 1 := fun z => hk (decide_eq_true z)
        refine ⟨.ref t, rfl, t, _, 0, .int o, rfl, rfl, SqT.of ht, at4_0, .int i, rfl, o, i, rfl, rfl, _, rfl, ?_⟩
        refine ite2 (fun h1 => ?_) (fun h1 => ?_)
        · have h1' : o ≤ i := of_decide_eq_true h1
          refine ⟨.int i, rfl, .int k, rfl, i, k, rfl, rfl, .ref t, rfl, t, _, 0, .int o, rfl, rfl, SqT.of ht, at4_0, .ref t, rfl, t, _, 2, .int m, rfl, rfl, SqT.of ht, at4_2, o, m, rfl, rfl, _, _, rfl, rfl, ?_⟩
          have e : decide (1 ≤ k ∧ o ≤ i ∧ i + k ≤ o + m) = decide (i + k ≤ o + m) := decide_eq_decide.mpr ⟨fun z => z.2.2, fun z => ⟨by omega, h1', z⟩⟩
          rw [e] at q
          exact q
        · have h1' : ¬ o ≤ i := fun z => h1 (decide_eq_true z)
          have e : decide (1 ≤ k ∧ o ≤ i ∧ i + k ≤ o + m) = false := decide_eq_false (by omega)
          rw [e] at q
          exact q
end
abbrev s_part : Stmt := top 34
abbrev N_part : List Str := ["mating", "at", "many", "one", "other", "reach", "turned", "ahead"]
abbrev P_part : List Str := ["mating", "at", "many"]
theorem sc_part : FnScope N_part P_part (defScope s_part) := ⟨rfl, rfl, rfl, by decide +kernel, rfl, by decide +kernel, by decide +kernel⟩
def partP (o p m f i k : Int) : Int := if f = 1 then p + m - (i - o) - k else p + (i - o)
def spPart : Sp := fun vs H Q _ => ∃ (t : Addr) (o p m f i k : Int), vs = [.ref t, .int i, .int k] ∧ H t = some (tup4 o p m f) ∧ (f = 0 ∨ f = 1) ∧ 1 ≤ k ∧ o ≤ i ∧ i + k ≤ o + m ∧
  ∀ r, H r = none → Q (.ref r) (upd H r (tup4 i (partP o p m f i k) k f))
section
variable {P : Program} {w : World} {K : PySem.W.Frag} {mg : Str → Option Value} {base : Heap}
theorem ok_part {f fH : Addr} {fd fdH : FuncData} (D : DefAt K mg "part" s_part P_part f fd) (D_holds : DefAt K mg "holds" s_holds P_holds fH fdH) (B : Bn mg) : FnOk P w K mg base CX0 2 f fd P_part spPart := by
  have G_holds : FnOk P w K mg base CX0 1 fH fdH P_holds spHolds := ok_holds D_holds B
  refine D.F.ok sc_part (fun vs H Q E h => ?_) (fun cdv A outer s H vs Q E hr h => ?_)
  · obtain ⟨t, o, p, m, f, i, k, rfl, _⟩ := h
    rfl
  · obtain ⟨t, o, p, m, f, i, k, rfl, ht, hf, h1, h2, h3, q⟩ := h
    refine ⟨_, (pss_cons (ps_if (pt_not (pt_val (pe_call G_holds (hr.mono (by omega)) (by rfl) D_holds.g D_holds.F.kp D_holds.b .nil pass0 (pa_cons (pv 0) (pa_cons (pv 1) (pa_cons (pv 2) pa_nil)))))) (pss_one ps_never) pss_nil)
      (pss_cons (ps_asg (pv 0) (pg_tup (by rfl) (pgs_cons (pg_name (i := 3) sc_part.nd rfl (.inl rfl)) (pgs_cons (pg_name (i := 4) sc_part.nd rfl (.inl rfl)) (pgs_cons (pg_name (i := 5) sc_part.nd rfl (.inl rfl)) (pgs_cons (pg_name (i := 6) sc_part.nd rfl (.inl rfl)) pgs_nil))))))
      (pss_cons (ps_set (i := 7) sc_part.nd rfl (.inl rfl) (pe_op op_sub (pv 1) (pv 3)))
      (pss_cons (ps_if (pt_cmpR op_eq (pv 6) pe_int (nomark _)) (pss_one (ps_ret (pe_tup (pa_cons (pv 1) (pa_cons (pe_op op_sub (pe_op op_sub (pe_op op_add (pv 4) (pv 5)) (pv 7)) (pv 2)) (pa_cons (pv 2) (pa_cons pe_int pa_nil))))))) pss_nil)
      (pss_one (ps_ret (pe_tup (pa_cons (pv 1) (pa_cons (pe_op op_add (pv 4) (pv 7)) (pa_cons (pv 2) (pa_cons pe_int pa_nil))))))))))), ?_⟩
    refine ⟨.ref t, rfl, .int i, rfl, .int k, rfl, t, o, p, m, f, .int i, .int k, rfl, ht, .inr (.inr ⟨i, k, rfl, rfl, ?_⟩)⟩
    rw [decide_eq_true (show 1 ≤ k ∧ o ≤ i ∧ i + k ≤ o + m from ⟨h1, h2, h3⟩)]
    refine ⟨true, rfl, iteF ?_⟩
    refine ⟨.ref t, rfl, t, _, rfl, SqT.of ht, rfl, .int o, _, rfl, .int p, _, rfl, .int m, _, rfl, .int f, _, rfl, rfl, ?_⟩
    refine ⟨.int i, rfl, .int o, rfl, i, o, rfl, rfl, ?_⟩
    refine ⟨.int f, rfl, rfl, _, rfl, ?_⟩
    rcases hf with rfl | rfl
    · rw [decide_eq_false (show ¬ (V.int 0 = V.int 1) from fun z => by cases z)]
      refine iteF ?_
      refine ⟨.int i, rfl, .int p, rfl, .int (i - o), rfl, p, i - o, rfl, rfl, .int k, rfl, by show 4 ≤ sizeLine; decide, fun r hr' => ?_⟩
      exact q r hr'
    · rw [decide_eq_true (show (V.int 1 = V.int 1) from rfl)]
      refine iteT ?_
      refine ⟨.int i, rfl, .int p, rfl, .int m, rfl, p, m, rfl, rfl, .int (i - o), rfl, _, _, rfl, rfl, .int k, rfl, _, _, rfl, rfl, .int k, rfl, by show 4 ≤ sizeLine; decide, fun r hr' => ?_⟩
      exact q r hr'
end

/-! ### back -/
abbrev s_back : Stmt := top 33
abbrev N_back : List Str := ["mating", "one", "other", "many", "turned"]
abbrev P_back : List Str := ["mating"]
theorem sc_back : FnScope N_back P_back (defScope s_back) := ⟨rfl, rfl, rfl, by decide +kernel, rfl, by decide +kernel, by decide +kernel⟩
def spBack : Sp := fun vs H Q _ => ∃ (t : Addr) (o p m f : Int), vs = [.ref t] ∧ H t = some (tup4 o p m f) ∧ ∀ r, H r = none → Q (.ref r) (upd H r (tup4 p o m f))
section
variable {P : Program} {w : World} {K : PySem.W.Frag} {mg : Str → Option Value} {base : Heap}
theorem ok_back {f : Addr} {fd : FuncData} (D : DefAt K mg "back" s_back P_back f fd) : FnOk P w K mg base CX0 1 f fd P_back spBack := by
  refine D.F.ok sc_back (fun vs H Q E h => ?_) (fun cdv A outer s H vs Q E hr h => ?_)
  · obtain ⟨t, o, p, m, f, rfl, _⟩ := h
    rfl
  · obtain ⟨t, o, p, m, f, rfl, ht, q⟩ := h
    refine ⟨_, (pss_cons (ps_asg (pv 0) (pg_tup (by rfl) (pgs_cons (pg_name (i := 1) sc_back.nd rfl (.inl rfl)) (pgs_cons (pg_name (i := 2) sc_back.nd rfl (.inl rfl)) (pgs_cons (pg_name (i := 3) sc_back.nd rfl (.inl rfl)) (pgs_cons (pg_name (i := 4) sc_back.nd rfl (.inl rfl)) pgs_nil))))))
      (pss_one (ps_ret (pe_tup (pa_cons (pv 2) (pa_cons (pv 1) (pa_cons (pv 3) (pa_cons (pv 4) pa_nil)))))))), ?_⟩
    refine ⟨.ref t, rfl, t, _, rfl, SqT.of ht, rfl, .int o, _, rfl, .int p, _, rfl, .int m, _, rfl, .int f, _, rfl, rfl, ?_⟩
    exact ⟨.int p, rfl, .int o, rfl, .int m, rfl, .int f, rfl, by show 4 ≤ sizeLine; decide, fun r hr' => q r hr'⟩
end

/-! ### normal -/
abbrev s_normal : Stmt := top 32
abbrev N_normal : List Str := ["mating"]
abbrev P_normal : List Str := ["mating"]
theorem sc_normal : FnScope N_normal P_normal (defScope s_normal) := ⟨rfl, rfl, rfl, by decide +kernel, rfl, by decide +kernel, by decide +kernel⟩
def spNormal : Sp := fun vs H Q _ => ∃ (t : Addr) (o p m f : Int), vs = [.ref t] ∧ H t = some (tup4 o p m f) ∧ ∀ r H', Same H H' → H' r = some (tup4 (if p < o then p else o) (if p < o then o else p) m f) → Q (.ref r) H'
section
variable {P : Program} {w : World} {K : PySem.W.Frag} {mg : Str → Option Value} {base : Heap}
theorem ok_normal {f fB : Addr} {fd fdB : FuncData} (D : DefAt K mg "normal" s_normal P_normal f fd) (D_back : DefAt K mg "back" s_back P_back fB fdB) : FnOk P w K mg base CX0 2 f fd P_normal spNormal := by
  have G_back : FnOk P w K mg base CX0 1 fB fdB P_back spBack := ok_back D_back
  refine D.F.ok sc_normal (fun vs H Q E h => ?_) (fun cdv A outer s H vs Q E hr h => ?_)
  · obtain ⟨t, o, p, m, f, rfl, _⟩ := h
    rfl
  · obtain ⟨t, o, p, m, f, rfl, ht, q⟩ := h
    refine ⟨_, (pss_cons (ps_if (pt_cmpR op_gt (pe_ix ix_tup (pv 0) pe_int (fun _ _ => rfl)) (pe_ix ix_tup (pv 0) pe_int (fun _ _ => rfl)) (nomark _)) (pss_one (ps_ret (pe_call G_back (hr.mono (by omega)) (by rfl) D_back.g D_back.F.kp D_back.b .nil pass0 (pa_cons (pv 0) pa_nil)))) pss_nil)
      (pss_one (ps_ret (pv 0)))), ?_⟩
    refine ⟨.ref t, rfl, t, _, 0, .int o, rfl, rfl, SqT.of ht, at4_0, .ref t, rfl, t, _, 1, .int p, rfl, rfl, SqT.of ht, at4_1, o, p, rfl, rfl, _, rfl, ?_⟩
    refine ite2 (fun hg => ?_) (fun hg => ?_)
    · have hg' : p < o := of_decide_eq_true hg
      rw [if_pos hg', if_pos hg'] at q
      exact ⟨.ref t, rfl, t, o, p, m, f, rfl, ht, fun r hr' => q r _ (same_upd hr') upd_same⟩
    · have hg' : ¬ p < o := fun z => hg (decide_eq_true z)
      rw [if_neg hg', if_neg hg'] at q
      exact ⟨.ref t, rfl, q t H (Same.refl H) ht⟩
end

/-! ### common -/
abbrev s_common : Stmt := top 31
abbrev N_common : List Str := ["one", "other"]
abbrev P_common : List Str := ["one", "other"]
theorem sc_common : FnScope N_common P_common (defScope s_common) := ⟨rfl, rfl, rfl, by decide +kernel, rfl, by decide +kernel, by decide +kernel⟩
def spCommon : Sp := fun vs H Q _ => ∃ a b : Nat, vs = [.int a, .int b] ∧ Q (.int (Nat.gcd a b)) H
theorem gcd_turn (x y : Nat) : Nat.gcd y (x % y) = Nat.gcd x y := by
  rw [Nat.gcd_comm y, ← Nat.gcd_rec, Nat.gcd_comm]
section
variable {P : Program} {w : World} {K : PySem.W.Frag} {mg : Str → Option Value} {base : Heap}
theorem ok_common {f : Addr} {fd : FuncData} (D : DefAt K mg "common" s_common P_common f fd) (B : Bn mg) : FnOk P w K mg base CX0 1 f fd P_common spCommon := by
  refine D.F.ok sc_common (fun vs H Q E h => ?_) (fun cdv A outer s H vs Q E hr h => ?_)
  · obtain ⟨a, b, rfl, _⟩ := h
    rfl
  · obtain ⟨a, b, rfl, q⟩ := h
    refine ⟨_, (pss_cons (ps_while PassesOwn.never (pt_cmpR op_ne (pv 1) pe_int (nomark _)) (pss_one (ps_par (i := 0) (j := 1) (by rfl) sc_common.nd rfl rfl (by decide) rfl rfl (pa_cons (pv 1) (pa_cons (pe_op op_mod (pv 0) (pv 1)) pa_nil)) (by rfl))))
      (pss_one (ps_ret (pv 0)))), ?_⟩
    refine ⟨fun m σ H' => ∃ x : Nat, σ = [some (.int x), some (.int (m : Int))] ∧ H' = H ∧ Nat.gcd x m = Nat.gcd a b, ⟨b, a, rfl, rfl, rfl⟩, ?_⟩
    rintro m σ H' ⟨x, rfl, rfl, hg⟩
    refine ⟨_, rfl, rfl, _, rfl, ?_⟩
    by_cases hm : m = 0
    · subst hm
      refine iteNS rfl ?_
      refine ⟨_, rfl, ?_⟩
      rw [Nat.gcd_zero_right] at hg
      rw [hg]
      exact q
    · rw [decide_eq_false (fun z => hm (by have := V.int.inj z; omega))]
      refine ⟨fun σ' H'' => ∃ x' : Nat, σ' = [some (.int x'), some (.int ((x % m : Nat) : Int))] ∧ H'' = H' ∧ Nat.gcd x' (x % m) = Nat.gcd a b, fun σ' H'' h => ⟨x % m, Nat.mod_lt _ (by omega), h⟩, ?_⟩
      refine ⟨_, rfl, _, rfl, _, rfl, _, _, rfl, rfl, (by omega), _, _, rfl, ?_⟩
      exact ⟨m, rfl, rfl, (gcd_turn x m).trans hg⟩
end

/-! ### rules of my own: a value in an f-string, a def read off its class -/
section
open PySem.Spec PyProof.Rows
variable {X : Cx}
def tFmtV (te : TE) : TE := fun σ H Q => te σ H fun x H1 => (∃ i : Int, x = .int i ∧ i.natAbs.log2 < 1920 ∧ Q (.str (toString i)) H1) ∨ (∃ b : Bool, x = .bl b ∧ Q (.str (if b then "True" else "False")) H1)
theorem pe_fmtV {e : Expr} {te : TE} {pos : Pos} (he : PE X e te) : PE X (.FormattedValue e (-1) none pos) (tFmtV te) := by
  refine ⟨fun pins s σ H Q I h => ?_⟩
  refine wpAny_FormattedValue_plain (thn (he.run pins s σ H _ I h) fun v s1 hv => ?_)
  obtain ⟨x, H1, I1, r1, q⟩ := hv
  rcases q with ⟨i, rfl, hz, q⟩ | ⟨b, rfl, q⟩
  · obtain ⟨t, rfl⟩ := r1
    exact wpAny_formatField_int hz ⟨.str (toString i), H1, I1.tok _, ⟨_, rfl⟩, q⟩
  · cases (show v = Value.bool b from r1)
    exact wpAny_formatField_bool ⟨.str (if b then "True" else "False"), H1, I1.tok _, ⟨_, rfl⟩, q⟩
/-- what the written part says of a class's own def, read off the class -/
structure ClsFn (K : PySem.W.Frag) (C : Addr) (m : Str) (f : Addr) : Prop where
  sp : PySem.W.specialIn K (.ref C) "__getattribute__" = some (some (.builtin "type.__getattribute__"))
  rd : PySem.W.readsIn K C (.type "type") = true
  fc : PySem.W.findCls K (.ref C) (.type "type") m = some (.val (.ref f))
  kp : PySem.W.keepIn K (.ref f) = true
theorem pe_clsfn {CX : CXT} {k : Nat} {f C : Addr} {fd : FuncData} {ps : List Str} {sp : Sp} {E : XK} {x m : Str} {p1 p2 pos : Pos} {e : Expr} {es : List Expr} {t : TA} {pl : Sem Bool} (hg : Gl X x) (hm : X.mg x = some (.ref C)) (T : ClsFn X.K C m f)
    (F : FnOk X.prog X.w X.K X.mg X.base CX k f fd ps sp) (hr : Room k X.A) (hb : Binds X.K fd ps []) (hx : Passes CX X E) (ha : PA X (e :: es) t)
    (hc : eval (.Call (.Attribute (.Name x p1) m p2) (e :: es) [] pos) X.env = (do
      let ov ← eval (.Name x p1) X.env
      standAt p2.atName
      let (f, first) ← holding [ov] (getMethod ov m pl)
      callWith pos f first (backTo pos (starEach (e :: es) X.env)) (backToKw pos (keywordEach [] X.env))) := by rfl)
    (hdb : (x == ("__debug__" : Str)) = false := by decide) (he : starEach (e :: es) X.env = (false, eval e X.env) :: starEach es X.env := by rfl) (hpl : (backTo pos (starEach es X.env)).any (·.1) = false := by rfl) :
    PE X (.Call (.Attribute (.Name x p1) m p2) (e :: es) [] pos) (tCall sp [] E t) := by
  refine ⟨fun pins s σ H Q I h => ?_⟩
  refine PySem.W.methodCall_KW (ld_glob I hg hm ?_ hdb) hc
  refine PySem.W.method_cls I.kIn T.sp (PySem.W.cls_value I.kIn T.rd T.fc rfl ?_)
  show wpAny _ _ (callWith pos (Value.ref f) [] (backTo pos (starEach (e :: es) X.env)) []) _ _ _
  refine PySem.W.callWith_K (h₀ := X.base) I.ok.mod.kin T.kp (thn (ha.run pos pins _ σ H _ (I.tok _) h) fun us s1 ⟨vs, H1, I1, r, q⟩ => ⟨I1.kIn, ?_⟩) he hpl
  exact run_fn F hr hb (.nil) hx I1 r q
end

/-! ### FarError.__init__ -/
def FV (x : V) : Prop := (∃ i : Int, x = .int i ∧ i.natAbs.log2 < 1920) ∨ ∃ b : Bool, x = .bl b
theorem FV.go {x : V} {H : Hp} {Q : V → Hp → Prop} (h : FV x) (q : ∀ y : Str, y.length ≤ 1921 → Q (.str y) H) : (∃ i : Int, x = .int i ∧ i.natAbs.log2 < 1920 ∧ Q (.str (toString i)) H) ∨ (∃ b : Bool, x = .bl b ∧ Q (.str (if b then "True" else "False")) H) := by
  rcases h with ⟨i, e, hi⟩ | ⟨b, e⟩
  · exact .inl ⟨i, e, hi, q _ (PyProof.Rows.int_text_len_1921 hi)⟩
  · exact .inr ⟨b, e, q _ (by cases b <;> decide +kernel)⟩
theorem fmtV_at {i : Nat} {x : V} {σ : L2.St} {H : Hp} {Q : VK} (hs : σ[i]? = some (some x)) (h : FV x) (q : ∀ y : Str, y.length ≤ 1921 → Q (.str y) H) : tFmtV (tVar i) σ H Q := ⟨x, hs, FV.go (Q := Q) h q⟩
theorem app_fits {a b : Str} {n m : Nat} (ha : a.length ≤ n) (hb : b.length ≤ m) : (a ++ b).length ≤ n + m := by
  rw [Str.length_append]
  omega
theorem fits_of {a : Str} {n : Nat} (ha : a.length ≤ n) (h : n ≤ 100000) : a.length ≤ sizeLine := Nat.le_trans ha (Nat.le_trans h (by decide))
abbrev s_farinit : Stmt := inClass (top 2) 0
abbrev N_farinit : List Str := ["self", "why"]
theorem sc_farinit : FnScope N_farinit N_farinit (defScope s_farinit) := ⟨rfl, rfl, rfl, by decide +kernel, rfl, by decide +kernel, by decide +kernel⟩
def spFarInit (K : PySem.W.Frag) : Sp := fun vs H Q _ => ∃ (a C : Addr) (y : Str), vs = [.ref a, .str y] ∧ OexC K C ∧ PySem.W.findIn K (.ref C) "word" = some none ∧ H a = some (exo a C none) ∧
  ∀ dx, H dx = none → dx ≠ a → Q .non (upd (upd H dx (exd dx [("word", .str "FarError")])) a (exo a C (some dx)))
section
variable {P : Program} {w : World} {K : PySem.W.Frag} {mg : Str → Option Value} {base : Heap}
theorem ok_farinit {f : Addr} {fd : FuncData} (F : FunD K "__init__" "FarError.__init__" (defArgs s_farinit) (defBody s_farinit) (defScope s_farinit) [.str ""] [] f fd) (mV : mg "ValueError" = none)
    (vV : PySem.W.findCls K (.type "ValueError") (.type "type") "__init__" = some (.val (.builtin "ValueError.__init__"))) : FnOk P w K mg base CX0 1 f fd N_farinit (spFarInit K) := by
  refine F.ok sc_farinit (fun vs H Q E h => ?_) (fun cdv A outer s H vs Q E hr h => ?_)
  · obtain ⟨a, C, y, rfl, _⟩ := h
    rfl
  · obtain ⟨a, C, y, rfl, T, hw, ha, q⟩ := h
    refine ⟨_, pss_cons (ps_expr (pe_veinit (by rfl) mV vV (pa_cons (pv 0) (pa_cons (pv 1) pa_nil)))) (pss_one (ps_ost (pv 0) pe_str)), ?_⟩
    refine ⟨.ref a, rfl, .str y, rfl, a, C, [.str y], rfl, by show 1 ≤ 1000; decide, T, ha, ?_⟩
    exact ⟨.ref a, rfl, a, C, rfl, T, hw, .inl ⟨ha, fun dx n ne => q dx n ne⟩⟩
end
/-! ### an own error's __init__ of one field -/
/-- what the written part says of an error's class -/
structure ErrT (K : PySem.W.Frag) (C : Addr) : Prop where
  o : OexC K C
  w : PySem.W.findIn K (.ref C) "word" = some none

abbrev s_bninit : Stmt := inClass (top 3) 0
abbrev N_bninit : List Str := ["self", "number"]
theorem sc_bninit : FnScope N_bninit N_bninit (defScope s_bninit) := ⟨rfl, rfl, rfl, by decide +kernel, rfl, by decide +kernel, by decide +kernel⟩
def bnF (n : V) : List (Str × V) := [("word", .str "BadNumber"), ("number", n), ("word", .str "FarError")]
def spBnInit (K : PySem.W.Frag) : Sp := fun vs H Q _ => ∃ (a C : Addr) (n : V), vs = [.ref a, n] ∧ FV n ∧ ErrT K C ∧ PySem.W.findIn K (.ref C) "number" = some none ∧ H a = some (exo a C none) ∧
  ∀ (H' : Hp) (dx : Addr), H dx = none → H' a = some (exo a C (some dx)) → H' dx = some (exd dx (bnF n)) → (∀ b o, b ≠ a → H b = some o → H' b = some o) → Q .non H'
section
variable {P : Program} {w : World} {K : PySem.W.Frag} {mg : Str → Option Value} {base : Heap}
theorem ok_bninit {f fF CF : Addr} {fd fdF : FuncData} (F : Fun K "__init__" "BadNumber.__init__" s_bninit f fd) (gF : mg "FarError" = some (.ref CF)) (TF : ClsFn K CF "__init__" fF) (bF : Binds K fdF N_farinit [])
    (GF : FnOk P w K mg base CX0 1 fF fdF N_farinit (spFarInit K)) : FnOk P w K mg base CX0 2 f fd N_bninit (spBnInit K) := by
  refine F.ok sc_bninit (fun vs H Q E h => ?_) (fun cdv A outer s H vs Q E hr h => ?_)
  · obtain ⟨a, C, n, rfl, _⟩ := h
    rfl
  · obtain ⟨a, C, n, rfl, hn, T, hno, ha, q⟩ := h
    refine ⟨_, pss_cons (ps_expr (pe_clsfn (by rfl) gF TF GF hr bF pass0 (pa_cons (pv 0) (pa_cons (pe_joined (.cons pe_str (.cons (pe_fmtV (pv 1)) .nil))) pa_nil))))
      (pss_cons (ps_ost (pv 0) (pv 1)) (pss_one (ps_ost (pv 0) pe_str))), ?_⟩
    refine ⟨.ref a, rfl, _, rfl, fits_of (n := 100) (by decide +kernel) (by decide), ?_⟩
    refine fmtV_at (i := 1) rfl hn fun y hy => ?_
    refine ⟨y, rfl, fits_of (app_fits (n := 100) (by decide +kernel) hy) (by decide), ?_⟩
    refine ⟨a, C, _, rfl, T.o, T.w, ha, fun dx ndx ne => ?_⟩
    have e1 : (upd (upd H dx (exd dx [("word", .str "FarError")])) a (exo a C (some dx))) a = some (exo a C (some dx)) := upd_same
    have e2 : (upd (upd H dx (exd dx [("word", .str "FarError")])) a (exo a C (some dx))) dx = some (exd dx [("word", .str "FarError")]) := by rw [upd_ne ne, upd_same]
    refine ⟨n, rfl, .ref a, rfl, a, C, rfl, T.o, hno, .inr ⟨dx, _, e1, e2, by show 1 ≤ 900; decide, ?_⟩⟩
    refine ⟨.ref a, rfl, a, C, rfl, T.o, T.w, .inr ⟨dx, _, by rw [upd_ne ne.symm]; exact e1, upd_same, by show 2 ≤ 900; decide, ?_⟩⟩
    refine q _ dx ndx (by rw [upd_ne ne.symm, upd_ne ne.symm]; exact e1) upd_same fun b o nb hb => ?_
    have nbd : b ≠ dx := ne_of_none hb ndx
    rw [upd_ne nbd, upd_ne nbd, upd_ne nb, upd_ne nbd]
    exact hb
end

/-! ### try, the first of several named clauses takes the error -/
section
open PySem.Spec PyProof.Rows
def wFirst (K : PySem.W.Frag) (c : Value) (i : Nat) (ts : Addr → Value → Option Addr → TS) (D : Ends) : WX := fun k dd τ G =>
  PySem.W.exmOne K k c = some true ∧ ∀ z, G z = none → ts z k dd ⟨fun τ' G' => D.nx (τ'.set i none) G', D.rt, fun τ' G' => D.bk (τ'.set i none) G', fun τ' G' => D.ct (τ'.set i none) G'⟩ (τ.set i (some (.ref z))) G
variable {X : Cx}
theorem ps_try_first {x n : Str} {c : Value} {i : Nat} {bd su : List Stmt} {s0 : Stmt} {np q1 q2 : Pos} {more : List ExceptHandler} {tb : WX → TS} {ts : Addr → Value → Option Addr → TS}
    (stk : X.stack = X.env :: X.outer) (frm : X.env.frame = some X.env.locals) (nod : X.N.Nodup) (slot : X.N[i]? = some n) (loc : X.env.kindOf n = some .local) (nam : Names X x c)
    (run : ∀ (W : WX) (pn : List (Addr × Obj)) (xe : Value → Shared → Prop), L2.Takes (X.tr pn xe) W → PassesOwn (model X.prog X.w) X.A X.env xe → PSs (X.tr pn xe) bd (tb W))
    (sui : ∀ (z : Addr) (oz : Obj) (k : Value) (dd : Option Addr) (pn : List (Addr × Obj)), Zc k dd oz → (∃ vs, oz.data = .fields vs) → PSs (X.suite z ((z, oz) :: pn)) (s0 :: su) (ts z k dd)) :
    PS X (.Try bd (.ExceptHandler (some (.Name x np)) (some n) (s0 :: su) q2 :: more) [] [] q1) (fun D τ G => tb (wFirst X.K c i ts D) D τ G) := by
  refine ⟨fun pins st τ G D I want => ?_⟩
  have okX := I.ok
  have frames : X.A.frames = some (X.env :: X.outer) := (okX.frames).trans (congrArg some stk)
  refine wpAny_Try_except (wpAny_mono ((run (wFirst X.K c i ts D) (X.pn ++ pins) (fun er s1 => wpAny (model X.prog X.w) X.A (noteFrame er X.env) (fun _ s2 => wpAny (model X.prog X.w) X.A (setFlight er none)
    (fun _ s3 => wpAny (model X.prog X.w) X.A (handleBy er X.env (.ExceptHandler (some (.Name x np)) (some n) (s0 :: su) q2 :: more)) (SP X pins D) X.xe s3) X.xe s2) X.xe s1) (fun er s' flown => ?_) PassesOwn.looking).run [] st τ G D (I.toTry _) want) (fun fl s1 done => ?_) (fun _ _ z => z))
  · obtain ⟨z, Bq, sI, pins', τ', G', k, dd, rfl, Jt, nb, up, sky, nz, osq, bare, hit, go⟩ := flown
    have J : Inv X pins τ' G' sI := Jt.ofTry okX
    have sky2 : Sky Bq (X.env :: X.outer) z (Zc k dd) X.env.locals s'.heap := stk ▸ sky
    show wpAny (model X.prog X.w) X.A (noteFrame (.ref z) X.env) _ _ _
    refine Sky.land Zc.steady frames frm sky2 fun g3 fly3 up3 => ?_
    have J3 : Inv X pins τ' G' { s' with heap := g3 } := J.landed nb fly3.1 (up.trans up3) osq bare
    obtain ⟨o3, v3, get3, zc3, dat3⟩ := fly3.there
    have offFr : z ∉ frs (X.env :: X.outer) := fun mem => by
      obtain ⟨_, o', got, nof⟩ := fly3.2.2.1.mem mem
      rw [get3] at got
      cases got
      exact nof _ dat3
    have offL : z ≠ X.env.locals := fun e => offFr (List.mem_filterMap.mpr ⟨X.env, List.mem_cons_self, frm.trans (congrArg some e.symm)⟩)
    have offF : z ∉ X.fs := fun mem => by
      obtain ⟨ev, hev, qe⟩ := List.mem_filterMap.mp mem
      exact offFr (List.mem_filterMap.mpr ⟨ev, List.mem_cons_of_mem _ hev, qe⟩)
    have S3 := J3.suite get3 dat3 nz offL offF
    have ty : PySem.W.Looks (model X.prog X.w) g3 (typeOf (.ref z)) k := fun A' Q' E' sx kx qx => wpAny_typeOf_ref (kx _ _ get3) (zc3.1.symm ▸ qx)
    have mat := PySem.W.exm_one (M := model X.prog X.w) J3.kIn ty hit
    have named : ∀ {Q' : Value → Shared → Prop} {E' : Value → Shared → Prop}, Q' c { s' with heap := g3 } → wpAny (model X.prog X.w) (X.A.mark (some (.ref z))) (eval (.Name x np) X.env) Q' E' { s' with heap := g3 } := fun qc => by
      obtain ⟨g0, dbg, m0 | ⟨m0, v0, n0⟩⟩ := nam
      · exact ld_glob (X := X.suite z ((z, o3) :: (X.pn ++ pins))) S3 g0 m0 qc dbg
      · exact ld_blt (X := X.suite z ((z, o3) :: (X.pn ++ pins))) S3 g0 m0 v0 qc n0 dbg
    refine wpAny_handleBy_cons (codeAny_handlers_test (named (mat.here ?_))) (fun qq => by cases qq)
    refine codeAny_handlers_suite_as (HandSPX.lands_againZ fly3 fun g4 fly4 up4 => ?_)
    have J4 : Inv X pins τ' G' { s' with heap := g4 } := J.landed nb fly4.1 ((up.trans up3).trans up4) osq bare
    obtain ⟨o4, v4, get4, zc4, dat4⟩ := fly4.there
    have S4 := J4.suite get4 dat4 nz offL offF
    refine store_ok (X := X.suite z ((z, o4) :: (X.pn ++ pins))) (v := .ref z) S4 nod slot (.inl loc) rfl (fun s5 S5 => ?_) (.inr loc)
    refine wpAny_mono ((sui z o4 k dd (X.pn ++ pins) zc4 ⟨_, dat4⟩).run [] s5 _ G' _ S5 (go z nz)) (fun fl s6 done => ?_) (fun _ _ bad => bad.elim)
    have gone : ∀ {τ6 : L2.St} {G6 : Hp} {R : Shared → Prop}, Inv (X.suite z ((z, o4) :: (X.pn ++ pins))) [] τ6 G6 s6 → (∀ s7, Inv X pins (τ6.set i none) G6 s7 → R s7) →
        wpAny (model X.prog X.w) X.A (do bindName X.env n .none; unbindBehindTheSuite X.env n q2) (fun _ s7 => R s7) X.xe s6 := fun S6 hq => gone_ok (S6.unsuite okX) nod slot loc hq
    cases fl with
    | next =>
      obtain ⟨τ6, G6, S6, q6⟩ := done
      exact gone S6 fun s7 J7 => ⟨_, _, J7, q6⟩
    | brk =>
      obtain ⟨τ6, G6, S6, q6⟩ := done
      exact gone S6 fun s7 J7 => ⟨_, _, J7, q6⟩
    | cont =>
      obtain ⟨τ6, G6, S6, q6⟩ := done
      exact gone S6 fun s7 J7 => ⟨_, _, J7, q6⟩
    | ret u =>
      obtain ⟨v6, τ6, G6, S6, r6, q6⟩ := done
      exact gone S6 fun s7 J7 => ⟨_, _, _, J7, r6, q6⟩
  · cases fl with
    | next =>
      obtain ⟨τ1, G1, J1, q⟩ := done
      exact wpAny_execs_nil ⟨τ1, G1, J1.ofTry okX, q⟩
    | brk =>
      obtain ⟨τ1, G1, J1, q⟩ := done
      exact ⟨τ1, G1, J1.ofTry okX, q⟩
    | cont =>
      obtain ⟨τ1, G1, J1, q⟩ := done
      exact ⟨τ1, G1, J1.ofTry okX, q⟩
    | ret u =>
      obtain ⟨v1, τ1, G1, J1, r, q⟩ := done
      exact ⟨v1, τ1, G1, J1.ofTry okX, r, q⟩
end

/-! ### an error that is held, looked at by a def -/
section
open PySem.Spec PyProof.Rows PySem.W PySem.Calls
variable {prog : Program} {w : World} {A : Around} {E : Value → Shared → Prop} {st : Shared} {K : Frag} {z C : Addr} {oz : Obj} {oo : Option Obj}
theorem own_class {Q : Option Value → Shared → Prop} (T : ExcC K C) (KI : K.In st.heap) (I : InstAt st.heap z oz C oo) (want : Q (some (.ref C)) { st with toks := st.toks + 1 }) : wpAny (model prog w) A (getAttr? (.ref z) "__class__") Q E st := by
  obtain ⟨cdx, hcdx, _⟩ := any_some T.hd
  have found : findObj K C oo "__class__" = some (.bind (.builtin "getset_descriptor.__get__") (.builtin "object.__class__")) := by
    unfold findObj
    rw [hcdx, Option.bind_some, T.ha, Option.bind_some]
    simp [T.hn, T.ht]
  obtain ⟨hq, gq, dq, tq, oq⟩ := st
  have k0 := I.type (M := model prog w)
  have k1 := looks_findIn (M := model prog w) KI T.hg
  have k2 := looks_findIn (M := model prog w) KI T.hk
  have k3 := looks_find (M := model prog w) KI I found
  have kb : Looks (model prog w) hq (isInstance (.ref z) (.type "BaseException")) true := k0.andThen (looks_subIn KI T.hs)
  have not2 : (Value.builtin "BaseException.__getattribute__" == Value.builtin "object.__getattribute__") = false := by decide +kernel
  have not1 : (onTheHeap (Value.ref C) && Value.builtin "BaseException.__getattribute__" == Value.builtin "object.__getattribute__") = false := by rw [not2] <;> rfl
  unfold getAttr? getAttrBy? getAttrBy
  refine wpAny_bind (wpAny_mkText (wpAny_bind (wpAny_attempt (wpAny_holding (wpAny_bind (k0.at (wpAny_bind (k1.at ?_))))))))
  show wpAny _ _ (if (onTheHeap (Value.ref C) && Value.builtin "BaseException.__getattribute__" == Value.builtin "object.__getattribute__") = true then _ else _) _ _ _
  rw [not1, if_neg Bool.false_ne_true]
  unfold getAttrByItsOwn hookBefore
  refine wpAny_bind ?_
  rw [if_pos (show onTheHeap (Value.ref C) = true from rfl)]
  refine k2.at (wpAny_bind (wpAny_attempt (wpAny_holding ?_)))
  unfold callGetattribute
  rw [show (false && onTheHeap (Value.builtin "BaseException.__getattribute__")) = false from rfl, if_neg Bool.false_ne_true]
  unfold boundAndCalled
  rw [PySem.F.excAttr_ValueError.ga.bind (.ref z)]
  refine wpAny_bind (wpAny_pure ?_)
  show wpAny _ _ (call (.builtin "BaseException.__getattribute__") [.ref z, .str "__class__" tq]) _ _ _
  refine wpAny_call (codeAny_call_builtin PySem.F.excAttr_ValueError.ga.plain PySem.F.entry_bexc_ga ?_)
  refine @check_slot (model prog w) _ _ ⟨hq, gq, dq, tq + 1, oq⟩ "BaseException.__getattribute__" "BaseException" "__getattribute__" (.ref z) [.str "__class__" tq] [] _ (by decide +kernel) (by decide +kernel) kb (PySem.F.args_bexc_ga (.ref z) (.str "__class__" tq)) ?_
  unfold Builtin.«object.__getattribute__»
  refine wpAny_bind (wpAny_of_eq (a := ((Value.ref z : Value), [Value.str "__class__" tq])) (by first | rfl | (simp only [slotArgs]; rfl)) ?_)
  refine wpAny_bind (wpAny_pure (wpAny_bind (k0.at (wpAny_bind (k3.at ?_)))))
  show wpAny _ _ (holding [Value.builtin "object.__class__"] (call (.builtin "getset_descriptor.__get__") [.builtin "object.__class__", .ref z, .ref C]) >>= ret) _ _ _
  refine wpAny_bind (wpAny_holding (wpAny_call (class_get (s := ⟨hq, gq, dq, tq + 1, oq⟩) (ox := oz) (od := oo) KI I T.hm (wpAny_pure ?_))))
  show wpAny _ _ (handedOut (.ref C)) _ _ _
  rw [handedOut_of (v := .ref C) rfl]
  first
    | exact wpAny_pure (wpAny_pure want)
    | exact wpAny_pure want
    | exact wpAny_pure (wpAny_bind (wpAny_pure (wpAny_pure want)))
theorem own_kit (T : ExcC K C) : KitX K (.ref z) (.ref C) (fun h => InstAt h z oz C oo) where
  ty := fun _ _ _ I => I.type
  it := fun _ _ KI _ => by
    obtain ⟨cdx, hcdx, _⟩ := any_some T.hd
    unfold clsIn at hcdx
    split at hcdx
    · rename_i c1 d1 cd1 sl1 got
      intro A' Q' E' s' kp qq
      unfold isType loadHead
      exact wpAny_bind (wpAny_loadPart (kp _ _ (KI _ _ got)) (wpAny_pure qq))
    · cases hcdx
  ne := fun h tp dd its n sl KI htp => by
    obtain ⟨cdx, hcdx, _⟩ := any_some T.hd
    refine Bool.eq_false_iff.mpr fun same => ?_
    have e : C = tp := Value.ref.inj (beq_iff_eq.mp same)
    subst e
    unfold clsIn at hcdx
    split at hcdx
    · rename_i c1 d1 cd1 sl1 got
      have two := (KI _ _ got).symm.trans htp
      cases two
    · cases hcdx
  ca := fun KI I k => own_class T KI I k
end
/-- the error at p.1 is one of the class at C, its dict stands at dd with the fields fs -/
structure Held (p : Addr × Obj) (C dd : Addr) : Prop where
  z : Zc (.ref C) (some dd) p.2
  f : ∃ vs, p.2.data = .fields vs
section
open PySem.Spec PyProof.Rows
variable {X : Cx} {p : Addr × Obj} {C dd : Addr}
theorem Held.inst {pins : List (Addr × Obj)} {σ : L2.St} {H : Hp} {s : Shared} {fs : List (Str × V)} (h : Held p C dd) (hp : p ∈ X.pn) (I : Inv X pins σ H s) (hd : H dd = some (.xd fs)) :
    ∃ (od : Obj) (mA : Str → Option Value), PySem.W.InstAt s.heap p.1 p.2 C (some od) ∧ (∀ n, PySem.W.lookIn n od = some (mA n)) ∧ ∀ f, RelO (fs.lookup f) (mA f) := by
  obtain ⟨got, _⟩ := I.pin p (List.mem_append_left _ hp)
  obtain ⟨vs, dat⟩ := h.f
  obtain ⟨mA, hns, rel⟩ := (show ObjOk X.prog X.w H s.heap dd (.xd fs) from I.hok dd _ hd)
  obtain ⟨od, ho, hl⟩ := lookIn_ns hns
  exact ⟨od, mA, ⟨got, h.z.1, by unfold PySem.W.notCls; rw [dat] <;> rfl, by rw [h.z.2]; exact ho⟩, hl, rel⟩
/-- e.f, e the held error -/
def tHeldF (p : Addr × Obj) (dd : Addr) (f : Str) (te : TE) : TE := fun σ H Q => te σ H fun x H1 => x = .ref p.1 ∧ ∃ (fs : List (Str × V)) (v : V), H1 dd = some (.xd fs) ∧ fs.lookup f = some v ∧ Q v H1
theorem pe_heldf {e : Expr} {te : TE} {pos : Pos} {n : Str} (h : Held p C dd) (hp : p ∈ X.pn) (T : XfC X.K C) (hno : PySem.W.findIn X.K (.ref C) n = some none) (he : PE X e te) (hb : attributeBase e n X.env (eval e X.env) = eval e X.env := by rfl) :
    PE X (.Attribute e n pos) (tHeldF p dd n te) := by
  refine ⟨fun pins s σ H Q I q => ?_⟩
  refine attr_of hb (thn (he.run pins s σ H _ I q) fun u s1 got => ?_)
  obtain ⟨x, H1, I1, rx, rfl, fs, v, hd, l, q1⟩ := got
  obtain rfl : u = Value.ref p.1 := rx
  obtain ⟨od, mA, J, hl, rel⟩ := h.inst hp I1 hd
  obtain ⟨y, hy, ry⟩ := RelO.some_of (v := v) (o := mA n) (by rw [← l]; exact rel n)
  exact HandSPX.exc_get I1.kIn J T.ga T.gg T.exC (PySem.W.findObj_own T.hdC hno rfl (by rw [hl, hy])) (handed_of ry) ⟨v, H1, I1.tok _, ry, q1⟩
/-- isinstance(e, (c, ..)) and isinstance(e, c), e the held error -/
def rHeldT (K : PySem.W.Frag) (p : Addr × Obj) (C dd : Addr) : List V → Hp → VK → Prop := fun xs H Q => ∃ (tp : Addr) (cs : List V) (us : List Value) (b : Bool) (fs : List (Str × V)), xs = [.ref p.1, .ref tp] ∧ H tp = some (.tup cs) ∧ Paired ClsV cs us ∧ PySem.W.kitAny K (.ref C) us = some b ∧ H dd = some (.xd fs) ∧ Q (.bl b) H
theorem call_heldT (h : Held p C dd) (hp : p ∈ X.pn) (T : ExcC X.K C) : CallR X (.builtin "isinstance") (rHeldT X.K p C dd) := by
  intro pins s σ H xs us Q I r q
  obtain ⟨tp, cs, ws, b, fs, rfl, hT, pr, ka, hd, q1⟩ := q
  obtain ⟨u1, u2, rfl, r1, r2⟩ := vals2 r
  cases (show u1 = Value.ref p.1 from r1)
  cases (show u2 = Value.ref tp from r2)
  obtain ⟨od, mA, J, _, _⟩ := h.inst hp I hd
  obtain ⟨_, its, rv, o, h1, h2, n, h3⟩ := (show ObjOk X.prog X.w H s.heap tp (.tup cs) from I.hok tp _ hT)
  have e3 := ClsV.all pr rv
  subst e3
  obtain ⟨oc, od', dt, sl⟩ := o
  simp only at h2 h3
  subst h2 h3
  exact PySem.W.kia_tup (own_kit (oz := p.2) (oo := some od) T) I.kIn J h1 ka (fun e => nomatch e) fun tk => ⟨.bl b, H, I.tok tk, rfl, q1⟩
def rHeld1 (K : PySem.W.Frag) (p : Addr × Obj) (C dd : Addr) : List V → Hp → VK → Prop := fun xs H Q => ∃ (D : Addr) (b : Bool) (fs : List (Str × V)), xs = [.ref p.1, .ref D] ∧ PySem.W.kitOne K (.ref C) (.ref D) = some b ∧ H dd = some (.xd fs) ∧ Q (.bl b) H
theorem call_held1 (h : Held p C dd) (hp : p ∈ X.pn) (T : ExcC X.K C) : CallR X (.builtin "isinstance") (rHeld1 X.K p C dd) := by
  intro pins s σ H xs us Q I r q
  obtain ⟨D, b, fs, rfl, ka, hd, q1⟩ := q
  obtain ⟨u1, u2, rfl, r1, r2⟩ := vals2 r
  cases (show u1 = Value.ref p.1 from r1)
  cases (show u2 = Value.ref D from r2)
  obtain ⟨od, mA, J, _, _⟩ := h.inst hp I hd
  exact PySem.W.kia_one (own_kit (oz := p.2) (oo := some od) T) I.kIn J ka (fun e => nomatch e) fun tk => ⟨.bl b, H, I.tok tk, rfl, q1⟩
end
/-! ### a def called on a held error -/
structure FnP (P : Program) (w : World) (K : PySem.W.Frag) (mg : Str → Option Value) (base : Heap) (p : Addr × Obj) (k : Nat) (f : Addr) (fd : FuncData) (ps : List Str) (sp : Sp) : Prop where
  len : ∀ vs H Q E, sp vs H Q E → vs.length = ps.length
  go : ∀ (A : Around) (outer : List Env) (s : Shared) (H : Hp) (args : Args) (us : List Value) (vs : List V) (Q : VK) (E : XK), L2H.RoomH k A → L2H.PinOk outer H s p → Env0 P w K mg base A outer s H → BindsTo s fd args (ps.zip us) → Vals vs us → sp vs H Q E →
    codeAny (model P w) A (.call (.ref f) args) (CR CX0 outer P w H s Q E) s
section
open PySem.Spec PyProof.Rows
variable {P : Program} {w : World} {K : PySem.W.Frag} {mg : Str → Option Value} {base : Heap}
theorem Fun.okP {x qual : Str} {st : Stmt} {f : Addr} {fd : FuncData} {N ps : List Str} {k : Nat} {sp : Sp} {p : Addr × Obj} (F : Fun K x qual st f fd) (S : FnScope N ps (defScope st)) (len : ∀ vs H Q E, sp vs H Q E → vs.length = ps.length)
    (hbody : ∀ (cdv : Value) (A : Around) (outer : List Env) (s : Shared) (H : Hp) (vs : List V) (Q : VK) (E : XK), L2H.RoomH k (A.deeper (envOfC qual (defScope st) s.heap.objs.size f cdv)) → sp vs H Q E →
      ∃ t, PSs (L2H.cxH CX0 P w K mg base N qual (defScope st) f cdv A outer s H E p) (defBody st) t ∧ t { nx := fun _ H' => Q .non H', rt := Q } (L2.start N vs) H) : FnP P w K mg base p (k + 1) f fd ps sp := by
  obtain ⟨oc, od, kV, doc, pm, an, cdv, ct, osl, rfl, lk, hcd⟩ := F.ex
  refine ⟨len, fun A outer s H args us vs Q E hr hpin e0 hb r hsp => ?_⟩
  have hlen := len _ _ _ _ hsp
  have keepB : ∀ b o, base.get? b = some o → s.heap.get? b = some o := fun b o e => (e0.bs b o e).1
  have KI : K.In s.heap := e0.mod.kin.keeps keepB
  have noLim : s.heap.NoLimit := e0.mod.nolimit.keeps keepB
  have kinds : ∀ y ∈ ps.zip us, (defScope st).names.lookup y.1 = some .local ∨ ((defScope st).names.lookup y.1 = some .cell ∧ ((cellsFrom (s.heap.objs.size + 1) (defScope st).names []).lookup y.1).isSome = true) := fun y hy =>
    (S.par y.1 (List.of_mem_zip (show (y.1, y.2) ∈ _ from hy)).1).imp id fun q => ⟨q, PySem.W.cellsFrom_some _ _ _ (.inl q)⟩
  refine codeAny_call_function hr.depth (KI _ _ lk) rfl S.co S.gen rfl (PySem.W.codeRec_of KI hcd) (hb _ _ _ _ (wpAny_newFunctionEnv_cells S.kind kinds fun env he s1 x1 => ?_))
  subst he
  refine ⟨noLim.keeps x1.toInCall.keep, codeAny_func ?_⟩
  obtain ⟨t, ht, hq⟩ := hbody cdv A outer s H vs Q E (hr.deeper _) hsp
  have I := L2H.inv_startH (CX := CX0) (P := P) (w := w) (K := K) (mg := mg) (base := base) (N := N) (qual := qual) (f := f) (cd := cdv) (E := E) S hpin e0 hlen r x1
  refine wpAny_mono (ht.run [] s1 _ H _ I hq) (fun fl s2 done => ?_) fun _ _ bad => bad
  cases fl with
  | ret u =>
    obtain ⟨v, τ, G, J, rv, q⟩ := done
    exact ⟨v, G, J.os, J.bare, J.base, J.hok, rv, q⟩
  | next =>
    obtain ⟨τ, G, J, q⟩ := done
    exact ⟨.non, G, J.os, J.bare, J.base, J.hok, rfl, q⟩
  | brk =>
    obtain ⟨_, _, _, q⟩ := done
    exact q.elim
  | cont =>
    obtain ⟨_, _, _, q⟩ := done
    exact q.elim
theorem pe_callP {X : Cx} {k : Nat} {f : Addr} {fd : FuncData} {ps : List Str} {sp : Sp} {p : Addr × Obj} {x : Str} {q pos : Pos} {e : Expr} {es : List Expr} {t : TA} (F : FnP X.prog X.w X.K X.mg X.base p k f fd ps sp) (hr : L2H.RoomH k X.A) (hp : p ∈ X.pn)
    (hg : Gl X x) (hm : X.mg x = some (.ref f)) (hk : PySem.W.keepIn X.K (.ref f) = true) (hb : Binds X.K fd ps []) (ha : PA X (e :: es) t)
    (hdb : (x == ("__debug__" : Str)) = false := by decide) (he : starEach (e :: es) X.env = (false, eval e X.env) :: starEach es X.env := by rfl) (hpl : (backTo pos (starEach es X.env)).any (·.1) = false := by rfl) :
    PE X (.Call (.Name x q) (e :: es) [] pos) (tCall sp [] E0 t) := by
  refine ⟨fun pins s σ H Q I h => ?_⟩
  refine wpAny_Call_Name_kw (ld_glob I hg hm ?_ hdb)
  refine PySem.W.callWith_K (h₀ := X.base) I.ok.mod.kin hk (thn (ha.run pos pins s σ H _ I h) fun us s1 got => ?_) he hpl
  obtain ⟨vs, H1, I1, r, want⟩ := got
  rw [List.append_nil] at want
  refine ⟨I1.kIn, ?_⟩
  have hl : us.length = ps.length := (r.length).symm.trans (F.len _ _ _ _ want)
  have bs := hb s1 us I1.kIn (by rw [List.append_nil]; exact hl)
  rw [List.append_nil] at bs
  obtain ⟨p1, p2, p3, p4, p5⟩ := I1.pin p (List.mem_append_left _ hp)
  refine wpAny_call (codeAny_mono (F.go X.A X.stack s1 H1 ⟨us, []⟩ us vs Q E0 hr ⟨p1, p2, fun mem => (List.mem_cons.mp (I1.stkSub p.1 mem)).elim p3 p4, p5⟩ I1.env0 bs r want) fun res s2 hq => ?_)
  cases res with
  | error er => exact (show False from hq).elim
  | ok fl =>
    cases fl with
    | ret u => exact I1.after hq
    | next => exact hq.elim
    | brk => exact hq.elim
    | cont => exact hq.elim
end

/-! ### ints and bools -/
def IB (x : V) : Prop := (∃ i : Int, x = .int i ∧ i.natAbs < 2 ^ 200) ∨ ∃ b : Bool, x = .bl b
theorem IB.fv {x : V} (h : IB x) : FV x := by
  rcases h with ⟨i, e, hi⟩ | ⟨b, e⟩
  · exact .inl ⟨i, e, Nat.lt_of_lt_of_le (PySem.Flt.log2_lt_of (by decide) hi) (by decide)⟩
  · exact .inr ⟨b, e⟩
def isB : V → Bool
  | .bl _ => true
  | _ => false
theorem IB.ty {K : PySem.W.Frag} {H : Hp} {x : V} (h : IB x) : ∃ t, TyX K H x t ∧ PySem.W.kitOne K t (.type "bool") = some (isB x) := by
  rcases h with ⟨i, rfl, hi⟩ | ⟨b, rfl⟩
  · exact ⟨_, TyX.base (TyOf.int _), kit_ty (r := false) (by decide +kernel)⟩
  · exact ⟨_, TyX.base (TyOf.bl _), kit_ty (r := true) (by decide +kernel)⟩
theorem IB.int {i : Int} (h : i.natAbs < 2 ^ 200) : IB (.int i) := .inl ⟨i, rfl, h⟩
section
open PySem.Spec PyProof.Rows
def rSubV : R2 := fun x y H Q => ∃ i : Int, x = .int i ∧ ((∃ j : Int, y = .int j ∧ Q (.int (i - j)) H) ∨ ∃ b : Bool, y = .bl b ∧ Q (.int (i - b2i b)) H)
theorem op_subV {X : Cx} : OpR X (binaryOp .Sub) rSubV := by
  intro pins s σ H x y v u Q I rx ry h
  obtain ⟨i, rfl, ⟨j, rfl, q⟩ | ⟨b, rfl, q⟩⟩ := h
  · exact op_sub pins s σ H _ _ v u Q I rx ry ⟨i, j, rfl, rfl, q⟩
  · obtain ⟨t, rfl⟩ := rx
    cases (show u = Value.bool b from ry)
    exact IntBool.sub_int_bool ⟨.int (i - b2i b), H, I.tok _, ⟨_, rfl⟩, q⟩
end

/-! ### the law's table of code objects -/
theorem tabs_keep {T : List (Addr × Str)} {H H' : Hp} {d l : Addr} (t : LamX.Tabs T H) (D : Draw H d l) (k : Keep d H H') : LamX.Tabs T H' := fun p hp => by
  obtain ⟨ps, h1, h2, h3⟩ := t p hp
  obtain ⟨ns, i, z, s, W⟩ := D
  refine ⟨ps, k.of h1 (ne_of h1 W.at_d (fun e => by cases e)), h2, fun pos cv hc => ?_⟩
  obtain ⟨c, e1, e2⟩ := h3 pos cv hc
  exact ⟨c, e1, k.of e2 (ne_of e2 W.at_d (fun e => by unfold LamX.CodeO at e; cases e))⟩
theorem draw_extN {H H' : Hp} {d l : Addr} (D : Draw H d l) (e : LamX.ExtN H H') : Draw H' d l := by
  obtain ⟨ns, i, z, s, W⟩ := D
  exact ⟨ns, i, z, s, { W with at_d := e _ _ W.at_d (fun _ q => by cases q), at_l := e _ _ W.at_l (fun _ q => by cases q) }⟩
def spLawT (K : PySem.W.Frag) (Pt : Addr) : Sp := fun vs H Q _ => ∃ (a : Addr) (ns : List Int), vs = [.ref a] ∧ SqL K H a (ns.map V.int) ∧ ns.length ≤ 63 ∧ H Pt = some (.tbl #[]) ∧ ∀ H', Q (.bl true) H'
abbrev lamQ : Str := (("law" : Str) ++ ".<locals>.") ++ "<lambda>"
abbrev lamT (Pt : Addr) : List (Addr × Str) := [(Pt, lamQ)]
/-- xs.append(e) inside a lambda: the reading must not speak of the lambda's own frame -/
theorem pe_appK {X : Cx} {K : PySem.W.Frag} {o e : Expr} {to : TE} {t : TA} {apos cpos : Pos} (hK : X.K = K) (ho : PE X o to) (ha : PA X [e] t)
    (hbase : attributeBase o "append" X.env (eval o X.env) = eval o X.env := by rfl)
    (hfew : ((backTo cpos (starEach [e] X.env)).all (fun x => !x.1) && (backToKw cpos (keywordEach [] X.env)).all (fun x => x.1.isSome)
      && decide ([e].length + ([] : List Keyword).length + (if ([] : List Keyword).isEmpty then 0 else 1) < 30)) = true := by rfl)
    (hline : (apos.endLine == cpos.line) = true := by rfl) (hs : starEach [e] X.env = (false, eval e X.env) :: starEach [] X.env := by rfl) (hplain : (backTo cpos (starEach [] X.env)).any (·.1) = false := by rfl) :
    PE X (.Call (.Attribute o "append" apos) [e] [] cpos) (tBM K "list" rAppend to t) := by
  subst hK
  exact pe_bm PySem.F.plainAttrs_list PySem.F.slot_list_append PySem.F.type_list_append mt_append ho ha hbase hfew hline hs hplain

/-! ### own errors in general, and _law_why of what refuses with one of them -/
structure ErT (K : PySem.W.Frag) (mg : Str → Option Value) (CF C fI : Addr) (fdI : FuncData) (word : Str) (N : List Str) : Prop where
  gF : mg "FarError" = some (.ref CF)
  gC : mg word = some (.ref C)
  e : ErrT K C
  x : XfC K C
  c : ExcC K C
  iC : PySem.W.findIn K (.ref C) "__init__" = some (some (.ref fI))
  tI : PySem.W.typeIn K (.ref fI) = some (.type "function")
  bI : Binds K fdI N []
  m : PySem.W.exmOne K (.ref C) (.ref CF) = some true
abbrev Fds := List (Str × V)
def spFieldsG (p : Addr × Obj) (dd : Addr) (FS : Fds → Prop) (Fld : Fds → V → Hp → Prop) : Sp := fun vs H Q _ => ∃ fs : Fds, vs = [.ref p.1] ∧ H dd = some (.xd fs) ∧ FS fs ∧ ∀ H' v, Same H H' → Fld fs v H' → Q v H'
abbrev s_why : Stmt := top 52
abbrev N_why : List Str := ["_law_ask", "_law_found", "_law_e"]
abbrev P_why : List Str := ["_law_ask"]
theorem sc_why : FnScope N_why P_why (defScope s_why) := ⟨rfl, rfl, rfl, by decide +kernel, rfl, by decide +kernel, by decide +kernel⟩
abbrev s_fields : Stmt := top 51
abbrev N_fields : List Str := ["_law_e"]
abbrev P_fields : List Str := ["_law_e"]
theorem sc_fields : FnScope N_fields P_fields (defScope s_fields) := ⟨rfl, rfl, rfl, by decide +kernel, rfl, by decide +kernel, by decide +kernel⟩
def EWhyG (C : Addr) (word : Str) (FS : Fds → Prop) (Fld : Fds → V → Hp → Prop) (Q : VK) : XK := fun cls d H' => ∃ (dd : Addr) (fs : Fds), cls = .ref C ∧ d = some dd ∧ H' dd = some (.xd fs) ∧ FS fs ∧
  ∀ (H'' : Hp) (t1 : Addr) (v : V), Same H' H'' → Fld fs v H'' → H'' t1 = some (.tup [.str word, v]) → Q (.ref t1) H''
def TWhyG (C : Addr) (word : Str) (FS : Fds → Prop) (Fld : Fds → V → Hp → Prop) : (XK → Hp → VK → Prop) → Hp → VK → Prop := fun tl H Q => ∀ t0, H t0 = none → ∀ R : VK, (∀ v H1, Q (.ref t0) H1 → R v H1) → tl (EWhyG C word FS Fld Q) (upd H t0 (.tup [.str "", .non])) R
section
open PySem.Spec PyProof.Rows
theorem takes_len {X : Cx} {W : WX} (tk : L2.Takes X W) : L2.Takes X (fun cls d σ H => σ.length = X.N.length → W cls d σ H) := fun u s' ⟨a, B, sI, pins, σ, H, cls, d, e, I, nb, up, sky, na, os, ag, w⟩ =>
  tk u s' ⟨a, B, sI, pins, σ, H, cls, d, e, I, nb, up, sky, na, os, ag, w I.len⟩
theorem pss_of {X : Cx} {sts : List Stmt} {t' : TS} (h : ∀ D σ H, t' D σ H → ∃ t, PSs X sts t ∧ t D σ H) : PSs X sts t' := ⟨fun pins s σ H D I ht => by
  obtain ⟨t, h1, h2⟩ := h D σ H ht
  exact h1.run pins s σ H D I h2⟩
theorem three {σ : L2.St} (h : σ.length = 3) : ∃ a b c, σ = [a, b, c] := by
  match σ, h with
  | [a, b, c], _ => exact ⟨a, b, c, rfl⟩
theorem why_givesG {X : Cx} {g CF C fI fF : Addr} {fdI fdF : FuncData} {cdg : Value} {q : Str} {k : Nat} {word : Str} {N : List Str} {FS : Fds → Prop} {Fld : Fds → V → Hp → Prop} (hr : Room (k + 3) X.A) (T : ErT X.K X.mg CF C fI fdI word N)
    (D_fields : DefAt X.K X.mg "_law_fields" s_fields P_fields fF fdF) (hw : ∀ fs, FS fs → fs.lookup ("word" : Str) = some (V.str word)) (st : ∀ fs v H H', Same H H' → Fld fs v H → Fld fs v H')
    (GF : ∀ (p : Addr × Obj) (dd : Addr), Held p C dd → FnP X.prog X.w X.K X.mg X.base p 1 fF fdF P_fields (spFieldsG p dd FS Fld)) :
    LamX.GivesTo X N_why "_law_why" (defScope s_why) g cdg (defBody s_why) "_law_ask" q (TWhyG C word FS Fld) := by
  intro f c' s H Q tl act hc h
  have hr1 : Room (k + 2) (X.A.deeper (envOfC "_law_why" (defScope s_why) s.heap.objs.size g cdg)) := hr.deeper _
  refine ⟨_, pss_cons (ps_set (i := 1) sc_why.nd rfl (.inl rfl) (pe_tup (pa_cons pe_str (pa_cons pe_non pa_nil))))
    (pss_cons (ps_try_first (i := 2) (c := .ref CF)
      (tb := fun W D σ H => ∃ Ech : XK, (∀ cls d σ' H', Ech cls d H' → σ'.length = 3 → W cls d σ' H') ∧ σ[0]? = some (some (.ref f)) ∧ H c' = some (LamX.CodeO c' q) ∧ tl Ech H fun _ H1 => D.nx σ H1)
      (ts := fun z k d D σ H => ∃ d0, k = .ref C ∧ d = some d0 ∧ ∃ fs : Fds, H d0 = some (.xd fs) ∧ FS fs ∧ σ[2]? = some (some (.ref z)) ∧ ∀ (H' : Hp) (t1 : Addr) (v : V), Same H H' → Fld fs v H' → H' t1 = some (.tup [.str word, v]) → D.nx (σ.set 1 (some (.ref t1))) H')
      rfl rfl sc_why.nd rfl rfl ⟨by rfl, by decide, .inl T.gF⟩ (fun W pn xe tk _ => ?_) (fun z oz k d pn hz hf => ?_)) (pss_one (ps_ret (pv 1)))), ?_⟩
  · refine pss_of fun D σ H' h' => ?_
    obtain ⟨Ech, hW, h1, h2, h3⟩ := h'
    exact ⟨_, pss_one (ps_expr (act (fun cls d σ H => σ.length = 3 → W cls d σ H) pn xe Ech _ _ (takes_len tk) (fun cls d σ' H' e l => hW cls d σ' H' e l))), h1, h2, h3⟩
  · refine pss_of fun D σ H' h' => ?_
    obtain ⟨d0, rfl, rfl, fs, hd, hfs, h2, go⟩ := h'
    have hH : Held (z, oz) C d0 := ⟨hz, hf⟩
    have G_fields := GF (z, oz) d0 hH
    have hrm : L2H.RoomH 1 (X.A.deeper (envOfC "_law_why" (defScope s_why) s.heap.objs.size g cdg)) := (L2H.roomH_of hr1).mono (by omega)
    refine ⟨_, pss_one (ps_set (i := 1) sc_why.nd rfl (.inl rfl) (pe_tup (pa_cons (pe_heldf hH List.mem_cons_self T.x T.e.w (pv 2)) (pa_cons (pe_callP G_fields ⟨hrm.dp, hrm.un⟩ List.mem_cons_self (by rfl) D_fields.g D_fields.F.kp D_fields.b (pa_cons (pv 2) pa_nil)) pa_nil)))), ?_⟩
    refine ⟨.ref z, h2, rfl, fs, _, hd, hw fs hfs, .ref z, h2, fs, rfl, hd, hfs, fun H2 v s2 e2 => ?_⟩
    exact ⟨by show 2 ≤ sizeLine; decide, fun t1 n1 => go _ t1 v (s2.trans (same_upd n1)) (st _ _ _ _ (same_upd n1) e2) upd_same⟩
  · refine ⟨by show 2 ≤ sizeLine; decide, fun t0 n0 => ?_⟩
    refine ⟨EWhyG C word FS Fld Q, fun cls d σ' H' hE hl => ?_, rfl, same_upd n0 _ _ hc, ?_⟩
    · obtain ⟨dd, fs, rfl, rfl, hd, hfs, go⟩ := hE
      obtain ⟨x0, x1, x2, rfl⟩ := three hl
      refine ⟨T.m, fun z hz => ⟨dd, rfl, rfl, fs, hd, hfs, rfl, fun H2 t1 v s2 e2 e3 => ?_⟩⟩
      exact ⟨.ref t1, rfl, go H2 t1 v s2 e2 e3⟩
    · exact h t0 n0 _ fun v H1 hq => ⟨.ref t0, rfl, hq⟩
end
/-! ### an error that is none of these -/
section
variable {K : PySem.W.Frag}
theorem kit_no {C D : Addr} (h0 : PySem.W.subIn K (.ref C) (.ref C) = some true) (h1 : PySem.W.subIn K (.ref C) (.ref D) = some false) (h2 : PySem.W.isClsIn K D = true) (h3 : PySem.W.typeIn K (.ref D) = some (.type "type")) : PySem.W.kitOne K (.ref C) (.ref D) = some false := by
  have ne : (Value.ref C == Value.ref D) = false := by
    refine Bool.eq_false_iff.mpr fun same => ?_
    have e : C = D := Value.ref.inj (beq_iff_eq.mp same)
    subst e
    rw [h0] at h1
    cases h1
  have e2 : ((PySem.W.clsIn K D).isSome && PySem.W.typeIn K (.ref D) == some (.type "type")) = true := by
    have q : (PySem.W.clsIn K D).isSome = true := h2
    rw [q, h3] <;> rfl
  unfold PySem.W.kitOne
  rw [ne, if_neg Bool.false_ne_true]
  show (if ((PySem.W.clsIn K D).isSome && PySem.W.typeIn K (.ref D) == some (.type "type")) = true then PySem.W.subIn K (.ref C) (.ref D) else none) = some false
  rw [if_pos e2, h1]
theorem any_no {C : Addr} : ∀ {ds : List Addr}, (∀ D ∈ ds, PySem.W.kitOne K (.ref C) (.ref D) = some false) → PySem.W.kitAny K (.ref C) (ds.map Value.ref) = some false
  | [], _ => rfl
  | D :: r, h => by
    show (match PySem.W.kitOne K (.ref C) (.ref D) with | some true => some true | some false => PySem.W.kitAny K (.ref C) (r.map Value.ref) | none => none) = some false
    rw [h D List.mem_cons_self]
    exact any_no fun E hE => h E (List.mem_cons_of_mem _ hE)
end
/-- the errors that _law_fields looks for ahead of BadStretch -/
structure OthT (K : PySem.W.Frag) (mg : Str → Option Value) (C c0 c1 c2 c3 c4 c5 c6 c7 c8 : Addr) : Prop where
  g0 : mg "BadNumber" = some (.ref c0)
  g1 : mg "NoMating" = some (.ref c1)
  g2 : mg "NoFamily" = some (.ref c2)
  g3 : mg "TooMuch" = some (.ref c3)
  g4 : mg "BadName" = some (.ref c4)
  g5 : mg "Taken" = some (.ref c5)
  g6 : mg "NoRoad" = some (.ref c6)
  g7 : mg "BadMating" = some (.ref c7)
  g8 : mg "BadPlace" = some (.ref c8)
  no : ∀ D ∈ [c0, c1, c2, c3, c4, c5, c6, c7, c8], PySem.W.kitOne K (.ref C) (.ref D) = some false

/-! ### step_of, end_of, is_leader, is_repeat -/
abbrev s_step_of : Stmt := top 39
abbrev N_step_of : List Str := ["mating"]
abbrev P_step_of : List Str := ["mating"]
theorem sc_step_of : FnScope N_step_of P_step_of (defScope s_step_of) := ⟨rfl, rfl, rfl, by decide +kernel, rfl, by decide +kernel, by decide +kernel⟩
abbrev s_end_of : Stmt := top 40
abbrev N_end_of : List Str := ["mating"]
abbrev P_end_of : List Str := ["mating"]
theorem sc_end_of : FnScope N_end_of P_end_of (defScope s_end_of) := ⟨rfl, rfl, rfl, by decide +kernel, rfl, by decide +kernel, by decide +kernel⟩
abbrev s_is_leader : Stmt := top 41
abbrev N_is_leader : List Str := ["mating"]
abbrev P_is_leader : List Str := ["mating"]
theorem sc_is_leader : FnScope N_is_leader P_is_leader (defScope s_is_leader) := ⟨rfl, rfl, rfl, by decide +kernel, rfl, by decide +kernel, by decide +kernel⟩
abbrev s_is_repeat : Stmt := top 42
abbrev N_is_repeat : List Str := ["mating"]
abbrev P_is_repeat : List Str := ["mating"]
theorem sc_is_repeat : FnScope N_is_repeat P_is_repeat (defScope s_is_repeat) := ⟨rfl, rfl, rfl, by decide +kernel, rfl, by decide +kernel, by decide +kernel⟩
def isLead (o p m f : Int) : Bool := if f = 1 then decide (m ≤ p - o) else decide (1 ≤ p - o)
def isRep (o p m f : Int) : Bool := decide (f = 0 ∧ 1 ≤ p - o ∧ p - o ≤ m)
def spStep : Sp := fun vs H Q _ => ∃ (t : Addr) (o p m f : Int), vs = [.ref t] ∧ H t = some (tup4 o p m f) ∧ Q (.int (p - o)) H
def spEnd : Sp := fun vs H Q _ => ∃ (t : Addr) (o p m f : Int), vs = [.ref t] ∧ H t = some (tup4 o p m f) ∧ Q (.int (p + m)) H
def spLead : Sp := fun vs H Q _ => ∃ (t : Addr) (o p m f : Int), vs = [.ref t] ∧ H t = some (tup4 o p m f) ∧ Q (.bl (isLead o p m f)) H
def spRep : Sp := fun vs H Q _ => ∃ (t : Addr) (o p m f : Int), vs = [.ref t] ∧ H t = some (tup4 o p m f) ∧ Q (.bl (isRep o p m f)) H
section
variable {P : Program} {w : World} {K : PySem.W.Frag} {mg : Str → Option Value} {base : Heap}
theorem ok_step {f : Addr} {fd : FuncData} (D : DefAt K mg "step_of" s_step_of P_step_of f fd) : FnOk P w K mg base CX0 1 f fd P_step_of spStep := by
  refine D.F.ok sc_step_of (fun vs H Q E h => ?_) (fun cdv A outer s H vs Q E hr h => ?_)
  · obtain ⟨t, o, p, m, f, rfl, _⟩ := h
    rfl
  · obtain ⟨t, o, p, m, f, rfl, ht, q⟩ := h
    refine ⟨_, (pss_one (ps_ret (pe_op op_sub (pe_ix ix_tup (pv 0) pe_int (fun _ _ => rfl)) (pe_ix ix_tup (pv 0) pe_int (fun _ _ => rfl))))), ?_⟩
    exact ⟨.ref t, rfl, t, _, 1, .int p, rfl, rfl, SqT.of ht, at4_1, .ref t, rfl, t, _, 0, .int o, rfl, rfl, SqT.of ht, at4_0, p, o, rfl, rfl, q⟩
theorem ok_end {f : Addr} {fd : FuncData} (D : DefAt K mg "end_of" s_end_of P_end_of f fd) : FnOk P w K mg base CX0 1 f fd P_end_of spEnd := by
  refine D.F.ok sc_end_of (fun vs H Q E h => ?_) (fun cdv A outer s H vs Q E hr h => ?_)
  · obtain ⟨t, o, p, m, f, rfl, _⟩ := h
    rfl
  · obtain ⟨t, o, p, m, f, rfl, ht, q⟩ := h
    refine ⟨_, (pss_one (ps_ret (pe_op op_add (pe_ix ix_tup (pv 0) pe_int (fun _ _ => rfl)) (pe_ix ix_tup (pv 0) pe_int (fun _ _ => rfl))))), ?_⟩
    exact ⟨.ref t, rfl, t, _, 1, .int p, rfl, rfl, SqT.of ht, at4_1, .ref t, rfl, t, _, 2, .int m, rfl, rfl, SqT.of ht, at4_2, p, m, rfl, rfl, q⟩
theorem ok_lead {f fS : Addr} {fd fdS : FuncData} (D : DefAt K mg "is_leader" s_is_leader P_is_leader f fd) (D_step_of : DefAt K mg "step_of" s_step_of P_step_of fS fdS) : FnOk P w K mg base CX0 2 f fd P_is_leader spLead := by
  have G_step_of : FnOk P w K mg base CX0 1 fS fdS P_step_of spStep := ok_step D_step_of
  refine D.F.ok sc_is_leader (fun vs H Q E h => ?_) (fun cdv A outer s H vs Q E hr h => ?_)
  · obtain ⟨t, o, p, m, f, rfl, _⟩ := h
    rfl
  · obtain ⟨t, o, p, m, f, rfl, ht, q⟩ := h
    refine ⟨_, (pss_cons (ps_if (pt_cmpR op_eq (pe_ix ix_tup (pv 0) pe_int (fun _ _ => rfl)) pe_int (nomark _)) (pss_one (ps_ret (pe_cmpR op_ge (pe_call G_step_of (hr.mono (by omega)) (by rfl) D_step_of.g D_step_of.F.kp D_step_of.b .nil pass0 (pa_cons (pv 0) pa_nil)) (pe_ix ix_tup (pv 0) pe_int (fun _ _ => rfl)) (nomark _)))) pss_nil)
      (pss_one (ps_ret (pe_cmpR op_ge (pe_call G_step_of (hr.mono (by omega)) (by rfl) D_step_of.g D_step_of.F.kp D_step_of.b .nil pass0 (pa_cons (pv 0) pa_nil)) pe_int (nomark _))))), ?_⟩
    refine ⟨.ref t, rfl, t, _, 3, .int f, rfl, rfl, SqT.of ht, at4_3, rfl, _, rfl, ?_⟩
    refine ite2 (fun h => ?_) (fun h => ?_)
    · have hf : f = 1 := V.int.inj (of_decide_eq_true h)
      unfold isLead at q
      rw [if_pos hf] at q
      exact ⟨.ref t, rfl, t, o, p, m, f, rfl, ht, .ref t, rfl, t, _, 2, .int m, rfl, rfl, SqT.of ht, at4_2, _, _, rfl, rfl, q⟩
    · have hf : ¬ f = 1 := fun z => h (decide_eq_true (congrArg V.int z))
      unfold isLead at q
      rw [if_neg hf] at q
      exact ⟨.ref t, rfl, t, o, p, m, f, rfl, ht, _, _, rfl, rfl, q⟩
theorem ok_rep {f fS : Addr} {fd fdS : FuncData} (D : DefAt K mg "is_repeat" s_is_repeat P_is_repeat f fd) (D_step_of : DefAt K mg "step_of" s_step_of P_step_of fS fdS) : FnOk P w K mg base CX0 2 f fd P_is_repeat spRep := by
  have G_step_of : FnOk P w K mg base CX0 1 fS fdS P_step_of spStep := ok_step D_step_of
  refine D.F.ok sc_is_repeat (fun vs H Q E h => ?_) (fun cdv A outer s H vs Q E hr h => ?_)
  · obtain ⟨t, o, p, m, f, rfl, _⟩ := h
    rfl
  · obtain ⟨t, o, p, m, f, rfl, ht, q⟩ := h
    refine ⟨_, (pss_one (ps_ret (pe_and (pe_cmpR op_eq (pe_ix ix_tup (pv 0) pe_int (fun _ _ => rfl)) pe_int (nomark _)) (pe_one (pe_chain op_le op_le pe_int (pe_call G_step_of (hr.mono (by omega)) (by rfl) D_step_of.g D_step_of.F.kp D_step_of.b .nil pass0 (pa_cons (pv 0) pa_nil)) (pe_ix ix_tup (pv 0) pe_int (fun _ _ => rfl))))))), ?_⟩
    refine ⟨.ref t, rfl, t, _, 3, .int f, rfl, rfl, SqT.of ht, at4_3, rfl, _, rfl, ?_⟩
    unfold isRep at q
    refine ite2 (fun h => ?_) (fun h => ?_)
    · have hf : f = 0 := V.int.inj (of_decide_eq_true h)
      refine ⟨.ref t, rfl, t, o, p, m, f, rfl, ht, _, _, rfl, rfl, _, rfl, ?_⟩
      refine ite2 (fun h2 => ?_) (fun h2 => ?_)
      · have h2' : 1 ≤ p - o := of_decide_eq_true h2
        refine ⟨.ref t, rfl, t, _, 2, .int m, rfl, rfl, SqT.of ht, at4_2, _, _, rfl, rfl, ?_⟩
        rw [decide_eq_decide.mpr (show (f = 0 ∧ 1 ≤ p - o ∧ p - o ≤ m) ↔ p - o ≤ m from ⟨fun z => z.2.2, fun z => ⟨hf, h2', z⟩⟩)] at q
        exact q
      · rw [decide_eq_false (fun z => h2 (decide_eq_true z.2.1))] at q
        exact q
    · rw [decide_eq_false (fun z => h (decide_eq_true (congrArg V.int z.1)))] at q
      exact q
end
/-! ### halved, merged -/
abbrev s_halved : Stmt := top 43
abbrev N_halved : List Str := ["mating", "one", "other", "many", "turned", "half"]
abbrev P_halved : List Str := ["mating"]
theorem sc_halved : FnScope N_halved P_halved (defScope s_halved) := ⟨rfl, rfl, rfl, by decide +kernel, rfl, by decide +kernel, by decide +kernel⟩
abbrev s_merged : Stmt := top 44
abbrev N_merged : List Str := ["first", "second", "shared", "begin", "end", "step"]
abbrev P_merged : List Str := ["first", "second"]
theorem sc_merged : FnScope N_merged P_merged (defScope s_merged) := ⟨rfl, rfl, rfl, by decide +kernel, rfl, by decide +kernel, by decide +kernel⟩
def hlf (o p m : Int) : Int := (p + m - o) / 2
def spHalved : Sp := fun vs H Q _ => ∃ (t : Addr) (o p m f : Int), vs = [.ref t] ∧ H t = some (tup4 o p m f) ∧ (hlf o p m = 0 → Q .non H) ∧ (hlf o p m ≠ 0 → ∀ r, H r = none → Q (.ref r) (upd H r (tup4 o (p + m - hlf o p m) (hlf o p m) f)))
def imin (a b : Int) : Int := if b < a then b else a
def imax (a b : Int) : Int := if b > a then b else a
def shr (o p m o' p' m' : Int) : Int := imin (p + m) (p' + m') - imax o o'
def spMerged : Sp := fun vs H Q _ => ∃ (t t' : Addr) (o p m f o' p' m' f' : Int), vs = [.ref t, .ref t'] ∧ H t = some (tup4 o p m f) ∧ H t' = some (tup4 o' p' m' f') ∧
  (¬ (isRep o p m f = true ∧ isRep o' p' m' f' = true ∧ p - o + (p' - o') ≤ shr o p m o' p' m') → Q .non H) ∧
  (isRep o p m f = true → isRep o' p' m' f' = true → p - o + (p' - o') ≤ shr o p m o' p' m' → ∀ r, H r = none →
    Q (.ref r) (upd H r (tup4 (imin o o') (imin o o' + (Nat.gcd (p - o).toNat (p' - o').toNat : Nat)) (imax (p + m) (p' + m') - imin o o' - (Nat.gcd (p - o).toNat (p' - o').toNat : Nat)) 0)))
section
variable {P : Program} {w : World} {K : PySem.W.Frag} {mg : Str → Option Value} {base : Heap}
theorem ok_halved {f : Addr} {fd : FuncData} (D : DefAt K mg "halved" s_halved P_halved f fd) : FnOk P w K mg base CX0 1 f fd P_halved spHalved := by
  refine D.F.ok sc_halved (fun vs H Q E h => ?_) (fun cdv A outer s H vs Q E hr h => ?_)
  · obtain ⟨t, o, p, m, f, rfl, _⟩ := h
    rfl
  · obtain ⟨t, o, p, m, f, rfl, ht, q1, q2⟩ := h
    refine ⟨_, (pss_cons (ps_asg (pv 0) (pg_tup (by rfl) (pgs_cons (pg_name (i := 1) sc_halved.nd rfl (.inl rfl)) (pgs_cons (pg_name (i := 2) sc_halved.nd rfl (.inl rfl)) (pgs_cons (pg_name (i := 3) sc_halved.nd rfl (.inl rfl)) (pgs_cons (pg_name (i := 4) sc_halved.nd rfl (.inl rfl)) pgs_nil))))))
      (pss_cons (ps_set (i := 5) sc_halved.nd rfl (.inl rfl) (pe_op op_fdivW (pe_op op_sub (pe_op op_add (pv 2) (pv 3)) (pv 1)) pe_int))
      (pss_cons (ps_if (pt_cmpR op_eq (pv 5) pe_int (nomark _)) (pss_one (ps_ret pe_non)) pss_nil)
      (pss_one (ps_ret (pe_tup (pa_cons (pv 1) (pa_cons (pe_op op_sub (pe_op op_add (pv 2) (pv 3)) (pv 5)) (pa_cons (pv 5) (pa_cons (pv 4) pa_nil)))))))))), ?_⟩
    refine ⟨.ref t, rfl, t, _, rfl, SqT.of ht, rfl, .int o, _, rfl, .int p, _, rfl, .int m, _, rfl, .int f, _, rfl, rfl, ?_⟩
    refine ⟨.int p, rfl, .int m, rfl, p, m, rfl, rfl, .int o, rfl, _, _, rfl, rfl, _, 2, rfl, rfl, wide_div (b := 10) (by decide) (by decide) (by decide) (by decide), ?_⟩
    refine ⟨.int _, rfl, rfl, _, rfl, ?_⟩
    refine ite2 (fun h => ?_) (fun h => ?_)
    · exact q1 (V.int.inj (of_decide_eq_true h))
    · refine ⟨.int o, rfl, .int p, rfl, .int m, rfl, p, m, rfl, rfl, .int _, rfl, _, _, rfl, rfl, .int _, rfl, .int f, rfl, by show 4 ≤ sizeLine; decide, fun r nr => ?_⟩
      exact q2 (fun z => h (decide_eq_true (congrArg V.int z))) r nr
theorem ok_merged {f fS fE fR fC : Addr} {fd fdS fdE fdR fdC : FuncData} (D : DefAt K mg "merged" s_merged P_merged f fd) (D_step_of : DefAt K mg "step_of" s_step_of P_step_of fS fdS) (D_end_of : DefAt K mg "end_of" s_end_of P_end_of fE fdE) (D_is_repeat : DefAt K mg "is_repeat" s_is_repeat P_is_repeat fR fdR)
    (D_common : DefAt K mg "common" s_common P_common fC fdC) (B : Bn mg) : FnOk P w K mg base CX0 3 f fd P_merged spMerged := by
  have G_step_of : FnOk P w K mg base CX0 1 fS fdS P_step_of spStep := ok_step D_step_of
  have G_end_of : FnOk P w K mg base CX0 1 fE fdE P_end_of spEnd := ok_end D_end_of
  have G_is_repeat : FnOk P w K mg base CX0 2 fR fdR P_is_repeat spRep := ok_rep D_is_repeat D_step_of
  have G_common : FnOk P w K mg base CX0 1 fC fdC P_common spCommon := ok_common D_common B
  refine D.F.ok sc_merged (fun vs H Q E h => ?_) (fun cdv A outer s H vs Q E hr h => ?_)
  · obtain ⟨t, t', o, p, m, f, o', p', m', f', rfl, _⟩ := h
    rfl
  · obtain ⟨t, t', o, p, m, f, o', p', m', f', rfl, ht, ht', q1, q2⟩ := h
    refine ⟨_, (pss_cons (ps_if (PW.pt (pw_or (pt_not (pt_val (pe_call G_is_repeat (hr.mono (by omega)) (by rfl) D_is_repeat.g D_is_repeat.F.kp D_is_repeat.b .nil pass0 (pa_cons (pv 0) pa_nil)))) (pw_or1 (pt_not (pt_val (pe_call G_is_repeat (hr.mono (by omega)) (by rfl) D_is_repeat.g D_is_repeat.F.kp D_is_repeat.b .nil pass0 (pa_cons (pv 1) pa_nil))))))) (pss_one (ps_ret pe_non)) pss_nil)
      (pss_cons (ps_set (i := 2) sc_merged.nd rfl (.inl rfl) (pe_op op_sub (pe_callB (call_min2 rfl) (by rfl) B.min (by decide +kernel) (pa_cons (pe_call G_end_of (hr.mono (by omega)) (by rfl) D_end_of.g D_end_of.F.kp D_end_of.b .nil pass0 (pa_cons (pv 0) pa_nil)) (pa_cons (pe_call G_end_of (hr.mono (by omega)) (by rfl) D_end_of.g D_end_of.F.kp D_end_of.b .nil pass0 (pa_cons (pv 1) pa_nil)) pa_nil))) (pe_callB (call_max2 rfl) (by rfl) B.max (by decide +kernel) (pa_cons (pe_ix ix_tup (pv 0) pe_int (fun _ _ => rfl)) (pa_cons (pe_ix ix_tup (pv 1) pe_int (fun _ _ => rfl)) pa_nil)))))
      (pss_cons (ps_if (pt_cmpR op_lt (pv 2) (pe_op op_add (pe_call G_step_of (hr.mono (by omega)) (by rfl) D_step_of.g D_step_of.F.kp D_step_of.b .nil pass0 (pa_cons (pv 0) pa_nil)) (pe_call G_step_of (hr.mono (by omega)) (by rfl) D_step_of.g D_step_of.F.kp D_step_of.b .nil pass0 (pa_cons (pv 1) pa_nil))) (nomark _)) (pss_one (ps_ret pe_non)) pss_nil)
      (pss_cons (ps_set (i := 3) sc_merged.nd rfl (.inl rfl) (pe_callB (call_min2 rfl) (by rfl) B.min (by decide +kernel) (pa_cons (pe_ix ix_tup (pv 0) pe_int (fun _ _ => rfl)) (pa_cons (pe_ix ix_tup (pv 1) pe_int (fun _ _ => rfl)) pa_nil))))
      (pss_cons (ps_set (i := 4) sc_merged.nd rfl (.inl rfl) (pe_callB (call_max2 rfl) (by rfl) B.max (by decide +kernel) (pa_cons (pe_call G_end_of (hr.mono (by omega)) (by rfl) D_end_of.g D_end_of.F.kp D_end_of.b .nil pass0 (pa_cons (pv 0) pa_nil)) (pa_cons (pe_call G_end_of (hr.mono (by omega)) (by rfl) D_end_of.g D_end_of.F.kp D_end_of.b .nil pass0 (pa_cons (pv 1) pa_nil)) pa_nil))))
      (pss_cons (ps_set (i := 5) sc_merged.nd rfl (.inl rfl) (pe_call G_common (hr.mono (by omega)) (by rfl) D_common.g D_common.F.kp D_common.b .nil pass0 (pa_cons (pe_call G_step_of (hr.mono (by omega)) (by rfl) D_step_of.g D_step_of.F.kp D_step_of.b .nil pass0 (pa_cons (pv 0) pa_nil)) (pa_cons (pe_call G_step_of (hr.mono (by omega)) (by rfl) D_step_of.g D_step_of.F.kp D_step_of.b .nil pass0 (pa_cons (pv 1) pa_nil)) pa_nil))))
      (pss_one (ps_ret (pe_tup (pa_cons (pv 3) (pa_cons (pe_op op_add (pv 3) (pv 5)) (pa_cons (pe_op op_sub (pe_op op_sub (pv 4) (pv 3)) (pv 5)) (pa_cons pe_int pa_nil))))))))))))), ?_⟩
    refine ⟨.ref t, rfl, t, o, p, m, f, rfl, ht, _, rfl, ?_⟩
    by_cases h1 : isRep o p m f = true
    · rw [h1]
      refine iteF ?_
      refine ⟨.ref t', rfl, t', o', p', m', f', rfl, ht', _, rfl, ?_⟩
      by_cases h2 : isRep o' p' m' f' = true
      · rw [h2]
        refine iteF ?_
        -- shared
        refine ⟨.ref t, rfl, t, o, p, m, f, rfl, ht, .ref t', rfl, t', o', p', m', f', rfl, ht', _, _, rfl, ?_⟩
        refine ⟨.ref t, rfl, t, _, 0, .int o, rfl, rfl, SqT.of ht, at4_0, .ref t', rfl, t', _, 0, .int o', rfl, rfl, SqT.of ht', at4_0, _, _, rfl, _, _, rfl, rfl, ?_⟩
        refine ⟨.int (shr o p m o' p' m'), rfl, .ref t, rfl, t, o, p, m, f, rfl, ht, .ref t', rfl, t', o', p', m', f', rfl, ht', _, _, rfl, rfl, _, _, rfl, rfl, _, rfl, ?_⟩
        refine ite2 (fun h => ?_) (fun h => ?_)
        · have h' : shr o p m o' p' m' < p - o + (p' - o') := of_decide_eq_true h
          exact q1 fun z => by omega
        · have h' : ¬ shr o p m o' p' m' < p - o + (p' - o') := fun z => h (decide_eq_true z)
          refine ⟨.ref t, rfl, t, _, 0, .int o, rfl, rfl, SqT.of ht, at4_0, .ref t', rfl, t', _, 0, .int o', rfl, rfl, SqT.of ht', at4_0, _, _, rfl, ?_⟩
          refine ⟨.ref t, rfl, t, o, p, m, f, rfl, ht, .ref t', rfl, t', o', p', m', f', rfl, ht', _, _, rfl, ?_⟩
          have r1 := of_decide_eq_true h1
          have r2 := of_decide_eq_true h2
          refine ⟨.ref t, rfl, t, o, p, m, f, rfl, ht, .ref t', rfl, t', o', p', m', f', rfl, ht', (p - o).toNat, (p' - o').toNat, ?_, ?_⟩
          · rw [Int.toNat_of_nonneg (by omega), Int.toNat_of_nonneg (by omega)]
            rfl
          · refine ⟨.int (imin o o'), rfl, .int (imin o o'), rfl, .int _, rfl, _, _, rfl, rfl, .int (imax (p + m) (p' + m')), rfl, .int (imin o o'), rfl, _, _, rfl, rfl, .int _, rfl, _, _, rfl, rfl, by show 4 ≤ sizeLine; decide, fun r nr => ?_⟩
            exact q2 h1 h2 (by omega) r nr
      · rw [Bool.eq_false_iff.mpr h2]
        exact iteT (q1 fun z => h2 z.2.1)
    · rw [Bool.eq_false_iff.mpr h1]
      exact iteT (q1 fun z => h1 z.1)
end

/-! ### a tuple of ints, truths and texts in an f-string -/
def MV (x : V) : Prop := FV x ∨ ∃ y : Str, x = .str y ∧ y.length ≤ 100 ∧ (∀ c ∈ y.cps.toList, c < 16 ^ 8)
section
open PySem.Spec PyProof.Rows
theorem repr_one {prog : Program} {w : World} {x : V} {u : Value} (h : MV x) (r : RelV x u) : ∃ t : Str, ReprIs prog w u t ∧ t.length ≤ 2000 := by
  rcases h with (⟨i, rfl, hi⟩ | ⟨b, rfl⟩) | ⟨y, rfl, hy, hc⟩
  · obtain ⟨t, rfl⟩ := r
    exact ⟨_, ReprIs.int t hi, Nat.le_trans (int_text_len_1921 hi) (by decide)⟩
  · cases (show u = Value.bool b from r)
    exact ⟨_, ReprIs.bool b, by cases b <;> decide +kernel⟩
  · obtain ⟨t, rfl⟩ := r
    have h1 := StrLaws.reprText_len y hc
    have h2 : (reprText y).length ≤ 2000 := by omega
    exact ⟨_, ReprIs.str y t (Nat.le_trans h2 (by decide)), h2⟩
theorem repr_allM {prog : Program} {w : World} : ∀ {xs : List V} {its : List Value}, Vals xs its → (∀ x ∈ xs, MV x) → ∃ ts : List Str, ReprAll prog w its ts ∧ piled ts ≤ xs.length * 2010
  | [], _, r, _ => by
    cases r
    exact ⟨[], .nil, Nat.zero_le _⟩
  | x :: l, _, r, h => by
    cases r with
    | cons r1 r2 =>
      obtain ⟨t, h1, h2⟩ := repr_one (prog := prog) (w := w) (h x List.mem_cons_self) r1
      obtain ⟨ts, h3, h4⟩ := repr_allM (prog := prog) (w := w) r2 fun y hy => h y (List.mem_cons_of_mem _ hy)
      refine ⟨t :: ts, .cons h1 h3, ?_⟩
      rw [piled_cons, List.length_cons]
      omega
def tFmtM (K : PySem.W.Frag) (te : TE) : TE := fun σ H Q => te σ H fun x H1 => ∃ (a : Addr) (xs : List V), x = .ref a ∧ SqT K H1 a xs ∧ (∀ y ∈ xs, MV y) ∧ xs.length ≤ 20 ∧ ∀ m : Str, m.length ≤ 50000 → Q (.str m) H1
theorem pe_fmtM {X : Cx} {e : Expr} {te : TE} {pos : Pos} {k : Nat} (hr : Room k X.A) (he : PE X e te) : PE X (.FormattedValue e (-1) none pos) (tFmtM X.K te) := by
  refine ⟨fun pins s σ H Q I h => ?_⟩
  refine wpAny_FormattedValue_plain (thn (he.run pins s σ H _ I h) fun v s1 hv => ?_)
  obtain ⟨x, H1, I1, r1, a, xs, rfl, ht, hc, hl, q⟩ := hv
  cases r1
  obtain ⟨its, rv, ⟨o, ho, hcl, n, hd⟩, _⟩ := I1.tuple ht
  obtain ⟨ts, h1, h2⟩ := repr_allM (prog := X.prog) (w := X.w) rv hc
  have htx := fmt_text ts
  have hz : (tupleText ts).length ≤ 45000 := by
    have : xs.length * 2010 ≤ 20 * 2010 := Nat.mul_le_mul_right _ hl
    omega
  have hu := hr.units
  exact fmt_tuple (ts := ts) (by omega) ho hcl hd h1 (Nat.le_trans hz (by decide)) fun m u tk hm => ⟨.str m, H1, I1.tok _, ⟨u, rfl⟩, q m (by omega)⟩
end
/-! ### BadMove -/
abbrev s_bminit : Stmt := inClass (top 8) 0
abbrev N_bminit : List Str := ["self", "move"]
theorem sc_bminit : FnScope N_bminit N_bminit (defScope s_bminit) := ⟨rfl, rfl, rfl, by decide +kernel, rfl, by decide +kernel, by decide +kernel⟩
def bmF (x : V) : Fds := [("word", .str "BadMove"), ("move", x), ("word", .str "FarError")]
def spBmInit (K : PySem.W.Frag) : Sp := fun vs H Q _ => ∃ (a C t : Addr) (xs : List V), vs = [.ref a, .ref t] ∧ H t = some (.tup xs) ∧ (∀ y ∈ xs, MV y) ∧ xs.length ≤ 20 ∧ ErrT K C ∧ PySem.W.findIn K (.ref C) "move" = some none ∧ H a = some (exo a C none) ∧
  ∀ (H' : Hp) (dx : Addr), H dx = none → H' a = some (exo a C (some dx)) → H' dx = some (exd dx (bmF (.ref t))) → (∀ b o, b ≠ a → H b = some o → H' b = some o) → Q .non H'
section
variable {P : Program} {w : World} {K : PySem.W.Frag} {mg : Str → Option Value} {base : Heap}
theorem ok_bminit {f fF CF : Addr} {fd fdF : FuncData} (F : Fun K "__init__" "BadMove.__init__" s_bminit f fd) (gF : mg "FarError" = some (.ref CF)) (TF : ClsFn K CF "__init__" fF) (bF : Binds K fdF N_farinit [])
    (GF : FnOk P w K mg base CX0 1 fF fdF N_farinit (spFarInit K)) : FnOk P w K mg base CX0 2 f fd N_bminit (spBmInit K) := by
  refine F.ok sc_bminit (fun vs H Q E h => ?_) (fun cdv A outer s H vs Q E hr h => ?_)
  · obtain ⟨a, C, t, xs, rfl, _⟩ := h
    rfl
  · obtain ⟨a, C, t, xs, rfl, ht, hx, hl, T, n1, ha, q⟩ := h
    refine ⟨_, pss_cons (ps_expr (pe_clsfn (by rfl) gF TF GF hr bF pass0 (pa_cons (pv 0) (pa_cons (pe_joined (.cons pe_str (.cons (pe_fmtM hr (pv 1)) .nil))) pa_nil))))
      (pss_cons (ps_ost (pv 0) (pv 1)) (pss_one (ps_ost (pv 0) pe_str))), ?_⟩
    refine ⟨.ref a, rfl, _, rfl, fits_of (n := 100) (by decide +kernel) (by decide), ?_⟩
    refine ⟨.ref t, rfl, t, xs, rfl, SqT.of ht, hx, hl, fun y hy => ?_⟩
    refine ⟨y, rfl, fits_of (app_fits (n := 100) (by decide +kernel) hy) (by decide), ?_⟩
    refine ⟨a, C, _, rfl, T.o, T.w, ha, fun dx ndx ne => ?_⟩
    have e1 : (upd (upd H dx (exd dx [("word", .str "FarError")])) a (exo a C (some dx))) a = some (exo a C (some dx)) := upd_same
    have e2 : (upd (upd H dx (exd dx [("word", .str "FarError")])) a (exo a C (some dx))) dx = some (exd dx [("word", .str "FarError")]) := by rw [upd_ne ne, upd_same]
    refine ⟨.ref t, rfl, .ref a, rfl, a, C, rfl, T.o, n1, .inr ⟨dx, _, e1, e2, by show 1 ≤ 900; decide, ?_⟩⟩
    refine ⟨.ref a, rfl, a, C, rfl, T.o, T.w, .inr ⟨dx, _, by rw [upd_ne ne.symm]; exact e1, upd_same, by show 2 ≤ 900; decide, ?_⟩⟩
    refine q _ dx ndx (by rw [upd_ne ne.symm, upd_ne ne.symm]; exact e1) upd_same fun b o nb hb => ?_
    have nbd : b ≠ dx := ne_of_none hb ndx
    rw [upd_ne nbd, upd_ne nbd, upd_ne nb, upd_ne nbd]
    exact hb
end
/-! ### _law_fields of a BadMove -/
def FSbm : Fds → Prop := fun fs => ∃ x, fs = bmF x
def Fbm : Fds → V → Hp → Prop := fun fs v _ => fs = bmF v
theorem bm_word (x : V) : (bmF x).lookup ("word" : Str) = some (.str "BadMove") := by
  unfold bmF
  rw [lookup_put, if_pos rfl]
theorem bm_move (x : V) : (bmF x).lookup ("move" : Str) = some x := by
  unfold bmF
  rw [lookup_put, if_neg (by decide +kernel), lookup_put, if_pos rfl]
theorem bm_inj {x y : V} (h : bmF x = bmF y) : x = y := by
  have h1 := bm_move x
  rw [h, bm_move y] at h1
  exact (Option.some.inj h1).symm
theorem Fbm.st : ∀ fs v H H', Same H H' → Fbm fs v H → Fbm fs v H' := fun _ _ _ _ _ h => h
section
variable {P : Program} {w : World} {K : PySem.W.Frag} {mg : Str → Option Value} {base : Heap}
theorem ok_fieldsBm {f CF C fI c0 c1 c2 c3 c4 c5 c6 c7 c8 c9 dd : Addr} {fd fdI : FuncData} {p : Addr × Obj} {N : List Str} (D : DefAt K mg "_law_fields" s_fields P_fields f fd) (B : Bn mg) (T : ErT K mg CF C fI fdI "BadMove" N) (O : OthT K mg C c0 c1 c2 c3 c4 c5 c6 c7 c8)
    (g9 : mg "BadStretch" = some (.ref c9)) (no9 : PySem.W.kitOne K (.ref C) (.ref c9) = some false) (n1 : PySem.W.findIn K (.ref C) "move" = some none) (hH : Held p C dd) : FnP P w K mg base p 1 f fd P_fields (spFieldsG p dd FSbm Fbm) := by
  refine Fun.okP D.F sc_fields (fun vs H Q E h => ?_) (fun cdv A outer s H vs Q E hr h => ?_)
  · obtain ⟨fs, rfl, _⟩ := h
    rfl
  · obtain ⟨fs, rfl, hd, ⟨x, rfl⟩, q⟩ := h
    refine ⟨_, pss_cons (ps_if (pt_val (pe_callB (call_heldT hH List.mem_cons_self T.c) (by rfl) B.isinstance (by decide +kernel) (pa_cons (pv 0) (pa_cons (pe_tup (pa_cons (pe_glob (v := .ref c0) (by rfl) O.g0 rfl) (pa_cons (pe_glob (v := .ref c1) (by rfl) O.g1 rfl) (pa_cons (pe_glob (v := .ref c2) (by rfl) O.g2 rfl) (pa_cons (pe_glob (v := .ref c3) (by rfl) O.g3 rfl) pa_nil))))) pa_nil)))) (pss_one ps_never) pss_nil)
      (pss_cons (ps_if (pt_val (pe_callB (call_heldT hH List.mem_cons_self T.c) (by rfl) B.isinstance (by decide +kernel) (pa_cons (pv 0) (pa_cons (pe_tup (pa_cons (pe_glob (v := .ref c4) (by rfl) O.g4 rfl) (pa_cons (pe_glob (v := .ref c5) (by rfl) O.g5 rfl) (pa_cons (pe_glob (v := .ref c6) (by rfl) O.g6 rfl) pa_nil)))) pa_nil)))) (pss_one ps_never) pss_nil)
      (pss_cons (ps_if (pt_val (pe_callB (call_held1 hH List.mem_cons_self T.c) (by rfl) B.isinstance (by decide +kernel) (pa_cons (pv 0) (pa_cons (pe_glob (v := .ref c7) (by rfl) O.g7 rfl) pa_nil)))) (pss_one ps_never) pss_nil)
      (pss_cons (ps_if (pt_val (pe_callB (call_held1 hH List.mem_cons_self T.c) (by rfl) B.isinstance (by decide +kernel) (pa_cons (pv 0) (pa_cons (pe_glob (v := .ref c8) (by rfl) O.g8 rfl) pa_nil)))) (pss_one ps_never) pss_nil)
      (pss_cons (ps_if (pt_val (pe_callB (call_held1 hH List.mem_cons_self T.c) (by rfl) B.isinstance (by decide +kernel) (pa_cons (pv 0) (pa_cons (pe_glob (v := .ref c9) (by rfl) g9 rfl) pa_nil)))) (pss_one ps_never) pss_nil)
      (pss_cons (ps_if (pt_val (pe_callB (call_held1 hH List.mem_cons_self T.c) (by rfl) B.isinstance (by decide +kernel) (pa_cons (pv 0) (pa_cons (pe_glob (v := .ref C) (by rfl) T.gC rfl) pa_nil))))
        (pss_one (ps_ret (pe_heldf hH List.mem_cons_self T.x n1 (pv 0)))) pss_nil) pss_never))))), ?_⟩
    refine ⟨.ref p.1, rfl, by show 4 ≤ sizeLine; decide, fun tp ntp => ?_⟩
    have s1 : Same H (upd H tp (.tup [.ref c0, .ref c1, .ref c2, .ref c3])) := same_upd ntp
    refine ⟨tp, _, [.ref c0, .ref c1, .ref c2, .ref c3], false, bmF x, rfl, upd_same, .cons (.own _) (.cons (.own _) (.cons (.own _) (.cons (.own _) .nil))), any_no (ds := [c0, c1, c2, c3]) fun D hD => O.no D (by revert hD; simp only [List.mem_cons, List.not_mem_nil, or_false]; intro hD; rcases hD with h | h | h | h <;> simp [h]), s1 _ _ hd, _, rfl, iteF ?_⟩
    refine ⟨.ref p.1, rfl, by show 3 ≤ sizeLine; decide, fun tq ntq => ?_⟩
    have s2 := s1.trans (same_upd (o := .tup [.ref c4, .ref c5, .ref c6]) ntq)
    refine ⟨tq, _, [.ref c4, .ref c5, .ref c6], false, bmF x, rfl, upd_same, .cons (.own _) (.cons (.own _) (.cons (.own _) .nil)), any_no (ds := [c4, c5, c6]) fun D hD => O.no D (by revert hD; simp only [List.mem_cons, List.not_mem_nil, or_false]; intro hD; rcases hD with h | h | h <;> simp [h]), s2 _ _ hd, _, rfl, iteF ?_⟩
    refine ⟨.ref p.1, rfl, c7, false, bmF x, rfl, O.no c7 (by simp), s2 _ _ hd, _, rfl, iteF ?_⟩
    refine ⟨.ref p.1, rfl, c8, false, bmF x, rfl, O.no c8 (by simp), s2 _ _ hd, _, rfl, iteF ?_⟩
    refine ⟨.ref p.1, rfl, c9, false, bmF x, rfl, no9, s2 _ _ hd, _, rfl, iteF ?_⟩
    refine ⟨.ref p.1, rfl, C, true, bmF x, rfl, by simp [PySem.W.kitOne], s2 _ _ hd, _, rfl, iteT ?_⟩
    exact ⟨.ref p.1, rfl, rfl, bmF x, x, s2 _ _ hd, bm_move x, q _ _ s2 rfl⟩
end

/-! ### is_mating -/
abbrev s_is_mating : Stmt := top 29
abbrev N_is_mating : List Str := ["length", "mating", "one", "other", "many", "turned", "number"]
abbrev P_is_mating : List Str := ["length", "mating"]
theorem sc_is_mating : FnScope N_is_mating P_is_mating (defScope s_is_mating) := ⟨rfl, rfl, rfl, by decide +kernel, rfl, by decide +kernel, by decide +kernel⟩
def isMat (n : Int) : V → V → V → V → Bool
  | .int o, .int p, .int m, .int f => decide ((f = 0 ∨ f = 1) ∧ 1 ≤ m ∧ 0 ≤ o ∧ 0 ≤ p ∧ o + m ≤ n ∧ p + m ≤ n)
  | _, _, _, _ => false
theorem isMat_b {n : Int} {o p m f : V} (h : ([o, p, m, f].map isB).any id = true) : isMat n o p m f = false := by
  cases o with
  | int _ => cases p with
    | int _ => cases m with
      | int _ => cases f with
        | int _ => exact absurd (show false = true from h) (by decide)
        | _ => rfl
      | _ => rfl
    | _ => rfl
  | _ => rfl
theorem allInt {x : V} (h : IB x) (hb : isB x = false) : ∃ i : Int, x = .int i ∧ i.natAbs < 2 ^ 200 := by
  rcases h with h | ⟨b, rfl⟩
  · exact h
  · cases hb
theorem inV01 (f : Int) : inV (.int f) [.int 0, .int 1] = decide (f = 0 ∨ f = 1) := by
  by_cases h0 : f = 0
  · subst h0
    decide
  · by_cases h1 : f = 1
    · subst h1
      decide
    · have e0 : ¬ (0 = f) := fun z => h0 z.symm
      have e1 : ¬ (1 = f) := fun z => h1 z.symm
      simp [inV, eqV, h0, h1, e0, e1]
def spIsMat : Sp := fun vs H Q _ => ∃ (n : Int) (t : Addr) (o p m f : V), vs = [.int n, .ref t] ∧ n.natAbs < 2 ^ 200 ∧ H t = some (.tup [o, p, m, f]) ∧ IB o ∧ IB p ∧ IB m ∧ IB f ∧ ∀ H', Same H H' → Q (.bl (isMat n o p m f)) H'
section
variable {P : Program} {w : World} {K : PySem.W.Frag} {mg : Str → Option Value} {base : Heap}
theorem ok_is_mating {f : Addr} {fd : FuncData} (D : DefAt K mg "is_mating" s_is_mating P_is_mating f fd) (B : Bn mg) : FnOk P w K mg base CX0 1 f fd P_is_mating spIsMat := by
  refine D.F.ok sc_is_mating (fun vs H Q E h => ?_) (fun cdv A outer s H vs Q E hr h => ?_)
  · obtain ⟨n, t, o, p, m, f, rfl, _⟩ := h
    rfl
  · obtain ⟨n, t, o, p, m, f, rfl, hn, ht, ho, hp, hm, hf, q⟩ := h
    refine ⟨_, (pss_cons (ps_asg (pv 1) (pg_tup (by rfl) (pgs_cons (pg_name (i := 2) sc_is_mating.nd rfl (.inl rfl)) (pgs_cons (pg_name (i := 3) sc_is_mating.nd rfl (.inl rfl)) (pgs_cons (pg_name (i := 4) sc_is_mating.nd rfl (.inl rfl)) (pgs_cons (pg_name (i := 5) sc_is_mating.nd rfl (.inl rfl)) pgs_nil))))))
      (pss_cons (ps_if (pt_val (pe_callB (cr_any rfl) (by rfl) B.any (by decide +kernel) (pa_cons (pe_lc (own := [("number", 6)]) (g := gName 6) (by rfl) sc_is_mating.nd (pi_tup (pe_tup (pa_cons (pv 0) (pa_cons (pv 2) (pa_cons (pv 3) (pa_cons (pv 4) (pa_cons (pv 5) pa_nil))))))) (blkOk_by (own := [("number", 6)]) (N := N_is_mating) (sc := defScope s_is_mating) (by decide +kernel)) (fun _ _ _ _ _ => (pg_name (i := 6) sc_is_mating.nd rfl (.inl rfl))) (fun _ _ _ _ _ => pts_nil) (fun _ _ _ _ _ => (pe_callB (show CallR _ _ (rIsi K) from call_isi) (by rfl) B.isinstance (by decide +kernel) (pa_cons (pv 6) (pa_cons (pe_bltn (v := .ty "bool") (by rfl) B.bool (by decide +kernel) rfl) pa_nil))))) pa_nil))) (pss_one (ps_ret pe_bl)) pss_nil)
      (pss_cons (ps_if (PW.pt (pw_or (pt_cmpR op_notIn_seq (pv 5) (pe_tup (pa_cons pe_int (pa_cons pe_int pa_nil))) (by rfl)) (pw_or1 (pt_cmpR op_lt (pv 4) pe_int (nomark _))))) (pss_one (ps_ret pe_bl)) pss_nil)
      (pss_one (ps_ret (pe_and (pe_cmpR op_ge (pe_callB (call_min2 rfl) (by rfl) B.min (by decide +kernel) (pa_cons (pv 2) (pa_cons (pv 3) pa_nil))) pe_int (nomark _)) (pe_one (pe_cmpR op_le (pe_op op_add (pe_callB (call_max2 rfl) (by rfl) B.max (by decide +kernel) (pa_cons (pv 2) (pa_cons (pv 3) pa_nil))) (pv 4)) (pv 0) (nomark _))))))))), ?_⟩
    refine ⟨.ref t, rfl, t, _, rfl, SqT.of ht, rfl, o, _, rfl, p, _, rfl, m, _, rfl, f, _, rfl, rfl, ?_⟩
    refine ⟨.int n, rfl, o, rfl, p, rfl, m, rfl, f, rfl, by show 5 ≤ sizeLine; decide, fun tp ntp => ?_⟩
    refine ⟨tp, rfl, ⟨_, SqT.of upd_same⟩, fun L nL => lc_tup (K := K) (a := tp) (xs := [.int n, o, p, m, f]) (fun i H2 => Same (upd H tp (.tup [.int n, o, p, m, f])) H2 ∧ H2 L = some (.lst ((([.int n, o, p, m, f].map isB).take i).map V.bl)))
      ⟨same_upd nL, upd_same⟩ (fun i H2 _ ⟨sm, _⟩ => SqT.of (sm _ _ upd_same)) ?_ ?_⟩
    · rintro i x H2 hx ⟨sm, e2⟩
      have hi : i < 5 := (List.getElem?_eq_some_iff.mp hx).1
      have hib : IB x := by
        have : x ∈ [.int n, o, p, m, f] := List.mem_of_getElem? hx
        rcases List.mem_cons.mp this with rfl | this
        · exact .inl ⟨n, rfl, hn⟩
        rcases List.mem_cons.mp this with rfl | this
        · exact ho
        rcases List.mem_cons.mp this with rfl | this
        · exact hp
        rcases List.mem_cons.mp this with rfl | this
        · exact hm
        rcases List.mem_cons.mp this with rfl | this
        · exact hf
        · cases this
      obtain ⟨ty, h1, h2⟩ := hib.ty (K := K) (H := H2)
      refine ⟨rfl, ?_⟩
      refine ⟨x, rfl, _, _, _, _, isB x, rfl, ClsV.ty _, h1, h2, ?_⟩
      refine ⟨_, e2, sz_lt (by rw [List.length_map, List.length_take]; omega), fun b o' hb => ?_, ?_⟩
      · rw [upd_ne (ne_of_none hb nL)]
        exact sm _ _ hb
      · rw [upd_same, List.take_add_one, List.getElem?_map, hx, List.map_append]
        rfl
    · rintro H2 ⟨sm, e2⟩
      have e2' : H2 L = some (.lst (([.int n, o, p, m, f].map isB).map V.bl)) := e2
      have sH : Same H H2 := (same_upd ntp).trans sm
      refine ⟨L, _, rfl, SqL.of e2', _, rfl, ?_⟩
      by_cases hb : ([o, p, m, f].map isB).any id = true
      · have e3 : ([.int n, o, p, m, f].map isB).any id = true := hb
        rw [e3]
        refine iteT ?_
        rw [isMat_b hb] at q
        exact q H2 sH
      · have e3 : ([.int n, o, p, m, f].map isB).any id = false := by
          cases e : ([o, p, m, f].map isB).any id with
          | true => exact absurd e hb
          | false => exact e
        rw [e3]
        refine iteF ?_
        have hb' : ([o, p, m, f].map isB).any id = false := e3
        simp only [List.map_cons, List.map_nil, List.any_cons, List.any_nil, id, Bool.or_false, Bool.or_eq_false_iff] at hb'
        obtain ⟨b1, b2, b3, b4⟩ := hb'
        obtain ⟨o, rfl, _⟩ := allInt ho b1
        obtain ⟨p, rfl, _⟩ := allInt hp b2
        obtain ⟨m, rfl, _⟩ := allInt hm b3
        obtain ⟨f, rfl, _⟩ := allInt hf b4
        refine ⟨.int f, rfl, by show 2 ≤ sizeLine; decide, fun t2 n2 => ?_⟩
        have s2 : Same H (upd H2 t2 (.tup [.int 0, .int 1])) := sH.trans (same_upd n2)
        refine ⟨t2, _, rfl, .inr (SqT.of upd_same), rfl, rfl, _, rfl, ?_⟩
        have no : ¬ ((f = 0 ∨ f = 1) ∧ 1 ≤ m ∧ 0 ≤ o ∧ 0 ≤ p ∧ o + m ≤ n ∧ p + m ≤ n) → Q (.bl false) (upd H2 t2 (.tup [.int 0, .int 1])) := fun h => by
          have := q _ s2
          rw [show isMat n (.int o) (.int p) (.int m) (.int f) = false from decide_eq_false h] at this
          exact this
        rw [if_pos rfl, inV01]
        by_cases hf01 : f = 0 ∨ f = 1
        · rw [decide_eq_true hf01]
          refine iteF ?_
          refine ⟨.int m, rfl, m, 1, rfl, rfl, _, rfl, ?_⟩
          refine ite2 (fun h => ?_) (fun h => ?_)
          · have h' : m < 1 := of_decide_eq_true h
            exact no fun z => by omega
          · have h' : ¬ m < 1 := fun z => h (decide_eq_true z)
            refine ⟨.int o, rfl, .int p, rfl, o, p, rfl, _, 0, rfl, rfl, _, rfl, ?_⟩
            refine ite2 (fun g => ?_) (fun g => ?_)
            · have g' : 0 ≤ (if p < o then p else o) := of_decide_eq_true g
              refine ⟨.int o, rfl, .int p, rfl, o, p, rfl, .int m, rfl, _, _, rfl, rfl, .int n, rfl, _, _, rfl, rfl, ?_⟩
              have := q _ s2
              rw [show isMat n (.int o) (.int p) (.int m) (.int f) = decide ((if p > o then p else o) + m ≤ n) from decide_eq_decide.mpr ⟨fun z => by split <;> omega, fun z => ⟨hf01, by omega, by split at g' <;> omega, by split at g' <;> omega, by split at z <;> omega, by split at z <;> omega⟩⟩] at this
              exact this
            · have g' : ¬ 0 ≤ (if p < o then p else o) := fun z => g (decide_eq_true z)
              exact no fun z => g' (by split <;> omega)
        · rw [decide_eq_false hf01]
          refine iteT ?_
          exact no fun z => hf01 z.1
end

/-! ### the standing matings as a list of numbers and matings -/
abbrev M4 := Int × Int × Int × Int
abbrev t4 (x : M4) : HO := tup4 x.1 x.2.1 x.2.2.1 x.2.2.2
abbrev StL := List (Int × M4)
def sget : StL → Int → Option M4
  | [], _ => none
  | s :: r, i => if s.1 = i then some s.2 else sget r i
def sput (S : StL) (i : Int) (x : M4) : StL := S.map fun s => if s.1 = i then (s.1, x) else s
def sdrop (S : StL) (i : Int) : StL := S.filter fun s => decide (s.1 ≠ i)
def StdR (H : Hp) (kv : Key × V) (s : Int × M4) : Prop := kv.1 = Sum.inl s.1 ∧ ∃ t, kv.2 = .ref t ∧ H t = some (t4 s.2)
def Std (H : Hp) (kvs : List (Key × V)) (S : StL) : Prop := Paired (StdR H) kvs S
/-- tuples stay -/
def KeepT (H H' : Hp) : Prop := ∀ b xs, H b = some (.tup xs) → H' b = some (.tup xs)
theorem Std.keep {H H' : Hp} (k : KeepT H H') : ∀ {kvs : List (Key × V)} {S : StL}, Std H kvs S → Std H' kvs S
  | _, _, .nil => .nil
  | _, _, .cons h r => .cons ⟨h.1, h.2.elim fun t e => ⟨t, e.1, k _ _ e.2⟩⟩ (Std.keep k r)
theorem Std.get {H : Hp} (i : Int) : ∀ {kvs : List (Key × V)} {S : StL}, Std H kvs S → (sget S i = none → valV kvs (Sum.inl i) = none) ∧ ∀ x, sget S i = some x → ∃ t, valV kvs (Sum.inl i) = some (.ref t) ∧ H t = some (t4 x)
  | _, _, .nil => ⟨fun _ => rfl, fun x h => nomatch h⟩
  | _, _, .cons (a := kv) (b := s) h r => by
    obtain ⟨e1, t, e2, e3⟩ := h
    obtain ⟨g1, g2⟩ := Std.get i r
    by_cases e : s.1 = i
    · have ek : kv.1 = Sum.inl i := by rw [e1, e]
      unfold sget
      rw [if_pos e]
      refine ⟨fun z => (by cases z), fun x hx => ?_⟩
      cases hx
      exact ⟨t, by rw [valV_pos ek, e2], e3⟩
    · have ek : ¬ kv.1 = Sum.inl i := by
        rw [e1]
        exact fun z => e (Sum.inl.inj z)
      unfold sget
      rw [if_neg e, valV_neg ek]
      exact ⟨g1, g2⟩
theorem Std.keys {H : Hp} : ∀ {kvs : List (Key × V)} {S : StL}, Std H kvs S → kvs.map (·.1) = (S.map (·.1)).map Sum.inl
  | _, _, .nil => rfl
  | _, _, .cons h r => by
    rw [List.map_cons, List.map_cons, List.map_cons, Std.keys r, h.1]
theorem Std.length {H : Hp} : ∀ {kvs : List (Key × V)} {S : StL}, Std H kvs S → kvs.length = S.length
  | _, _, .nil => rfl
  | _, _, .cons h r => congrArg (· + 1) (Std.length r)
theorem Std.putMap {H : Hp} {i : Int} {t : Addr} {x : M4} (ht : H t = some (t4 x)) : ∀ {kvs : List (Key × V)} {S : StL}, Std H kvs S → Std H (kvs.map fun kv => if kv.1 = Sum.inl i then (kv.1, V.ref t) else kv) (sput S i x)
  | _, _, .nil => .nil
  | _, _, .cons (a := kv) (b := s) h r => by
    refine .cons ?_ (Std.putMap ht r)
    show StdR H (if kv.1 = Sum.inl i then (kv.1, V.ref t) else kv) (if s.1 = i then (s.1, x) else s)
    by_cases e : s.1 = i
    · have ek : kv.1 = Sum.inl i := by rw [h.1, e]
      rw [if_pos ek, if_pos e]
      exact ⟨h.1, t, rfl, ht⟩
    · have ek : ¬ kv.1 = Sum.inl i := by
        rw [h.1]
        exact fun z => e (Sum.inl.inj z)
      rw [if_neg ek, if_neg e]
      exact h
theorem Std.put {H : Hp} {i : Int} {t : Addr} {x y : M4} {kvs : List (Key × V)} {S : StL} (h : Std H kvs S) (hi : sget S i = some y) (ht : H t = some (t4 x)) : Std H (putK kvs (Sum.inl i) (.ref t)) (sput S i x) := by
  obtain ⟨u, hu, _⟩ := (h.get i).2 y hi
  unfold putK
  rw [if_pos (by rw [valV_any, hu]; rfl)]
  exact h.putMap ht
theorem Std.drop {H : Hp} {i : Int} : ∀ {kvs : List (Key × V)} {S : StL}, Std H kvs S → Std H (dropK kvs (Sum.inl i)) (sdrop S i)
  | _, _, .nil => .nil
  | _, _, .cons (a := kv) (b := s) (l₁ := ks) (l₂ := rs) h r => by
    by_cases e : s.1 = i
    · have ek : kv.1 = Sum.inl i := by rw [h.1, e]
      rw [dropK_pos ek, show sdrop (s :: rs) i = sdrop rs i from List.filter_cons_of_neg (by simp [e])]
      exact Std.drop r
    · have ek : ¬ kv.1 = Sum.inl i := by
        rw [h.1]
        exact fun z => e (Sum.inl.inj z)
      rw [dropK_neg ek, show sdrop (s :: rs) i = s :: sdrop rs i from List.filter_cons_of_pos (by simp [e])]
      exact .cons h (Std.drop r)
theorem Std.snoc {H : Hp} {kv : Key × V} {s : Int × M4} (hs : StdR H kv s) : ∀ {kvs : List (Key × V)} {S : StL}, Std H kvs S → Std H (kvs ++ [kv]) (S ++ [s])
  | _, _, .nil => .cons hs .nil
  | _, _, .cons h r => .cons h (Std.snoc hs r)
theorem sput_keys (S : StL) (i : Int) (x : M4) : (sput S i x).map (·.1) = S.map (·.1) := by
  unfold sput
  rw [List.map_map]
  refine List.map_congr_left fun s _ => ?_
  show (if s.1 = i then (s.1, x) else s).1 = s.1
  split <;> rfl
theorem sput_length (S : StL) (i : Int) (x : M4) : (sput S i x).length = S.length := List.length_map _
theorem sdrop_keys {S : StL} {i : Int} (h : (S.map (·.1)).Pairwise (· < ·)) : ((sdrop S i).map (·.1)).Pairwise (· < ·) := h.sublist ((List.filter_sublist).map _)
theorem sdrop_length (S : StL) (i : Int) : (sdrop S i).length ≤ S.length := List.length_filter_le _ _
theorem sget_put_ne {i j : Int} {x : M4} (h : i ≠ j) : ∀ S : StL, sget (sput S i x) j = sget S j
  | [] => rfl
  | s :: r => by
    show sget ((if s.1 = i then (s.1, x) else s) :: sput r i x) j = sget (s :: r) j
    have ih := sget_put_ne h r (x := x)
    by_cases e : s.1 = i
    · rw [if_pos e]
      have nj : ¬ s.1 = j := fun z => h (e.symm.trans z)
      unfold sget
      rw [if_neg nj, if_neg nj, ih]
    · rw [if_neg e]
      unfold sget
      rw [ih]
/-! ### a front -/
def fr (e : Int) (s q : Addr) : List (Str × V) := [("edge", .int e), ("standing", .ref s), ("past", .ref q)]
theorem fr_make (e : Int) (s q : Addr) : putF "past" (.ref q) (putF "standing" (.ref s) (putF "edge" (.int e) [])) = fr e s q := by
  unfold fr
  show putF "past" (.ref q) (putF "standing" (.ref s) [("edge", .int e)]) = _
  have e1 : putF "standing" (.ref s) [(("edge" : Str), V.int e)] = [(("edge" : Str), V.int e), (("standing" : Str), V.ref s)] := by
    unfold putF
    rw [if_neg (by decide +kernel)]
    rfl
  rw [e1]
  unfold putF
  rw [if_neg (by decide +kernel)]
  unfold putF
  rw [if_neg (by decide +kernel)]
  rfl
theorem fr_edge (e : Int) (s q : Addr) : (fr e s q).lookup ("edge" : Str) = some (.int e) := by
  unfold fr
  rw [lookup_put, if_pos rfl]
theorem fr_standing (e : Int) (s q : Addr) : (fr e s q).lookup ("standing" : Str) = some (.ref s) := by
  unfold fr
  rw [lookup_put, if_neg (by decide +kernel), lookup_put, if_pos rfl]
theorem fr_past (e : Int) (s q : Addr) : (fr e s q).lookup ("past" : Str) = some (.ref q) := by
  unfold fr
  rw [lookup_put, if_neg (by decide +kernel), lookup_put, if_neg (by decide +kernel), lookup_put, if_pos rfl]
theorem fr_no {e : Int} {s q : Addr} {m : Str} (h1 : ¬ m = "edge") (h2 : ¬ m = "standing") (h3 : ¬ m = "past") : (fr e s q).lookup m = none := by
  unfold fr
  rw [lookup_put, if_neg h1, lookup_put, if_neg h2, lookup_put, if_neg h3]
  rfl
structure FrT (K : PySem.W.Frag) (mg : Str → Option Value) (C : Addr) : Prop where
  gC : mg "Front" = some (.ref C)
  cl : Cls K C
  nE : NoAttr K C "edge"
  nS : NoAttr K C "standing"
  nP : NoAttr K C "past"
structure FrAt (C : Addr) (H : Hp) (a s q : Addr) (e : Int) (S : StL) (ps : List V) : Prop where
  at_a : ∃ dx, H a = some (.ins C dx (fr e s q))
  at_s : ∃ kvs, H s = some (.dK kvs) ∧ Std H kvs S
  at_q : H q = some (.lst ps)
  up : (S.map (·.1)).Pairwise (· < ·)
  len : S.length ≤ 100
/-- all but the front stands -/
def Off (a s q : Addr) (H H' : Hp) : Prop := ∀ b o, H b = some o → b ≠ a → b ≠ s → b ≠ q → H' b = some o
theorem Off.of_same {a s q : Addr} {H H' : Hp} (e : Same H H') : Off a s q H H' := fun b o h _ _ _ => e b o h
theorem Off.trans {a s q : Addr} {H H1 H2 : Hp} (x : Off a s q H H1) (y : Off a s q H1 H2) : Off a s q H H2 := fun b o h h1 h2 h3 => y b o (x b o h h1 h2 h3) h1 h2 h3
theorem FrAt.ne_tup {C : Addr} {H : Hp} {a s q b : Addr} {e : Int} {S : StL} {ps xs : List V} (h : FrAt C H a s q e S ps) (hb : H b = some (.tup xs)) : b ≠ a ∧ b ≠ s ∧ b ≠ q := by
  obtain ⟨dx, ea⟩ := h.at_a
  obtain ⟨kvs, es, _⟩ := h.at_s
  exact ⟨ne_of hb ea (fun z => by cases z), ne_of hb es (fun z => by cases z), ne_of hb h.at_q (fun z => by cases z)⟩
theorem FrAt.same {C : Addr} {H H' : Hp} {a s q : Addr} {e : Int} {S : StL} {ps : List V} (h : FrAt C H a s q e S ps) (k : Same H H') : FrAt C H' a s q e S ps := by
  obtain ⟨⟨dx, ea⟩, ⟨kvs, es, st⟩, eq, up, len⟩ := h
  exact ⟨⟨dx, k _ _ ea⟩, ⟨kvs, k _ _ es, st.keep fun b xs hb => k _ _ hb⟩, k _ _ eq, up, len⟩
/-- the dict anew -/
theorem FrAt.dict {C : Addr} {H : Hp} {a s q : Addr} {e : Int} {S S' : StL} {ps : List V} {kvs : List (Key × V)} (h : FrAt C H a s q e S ps) (st : Std H kvs S') (up : (S'.map (·.1)).Pairwise (· < ·)) (len : S'.length ≤ 100) :
    FrAt C (upd H s (.dK kvs)) a s q e S' ps ∧ Off a s q H (upd H s (.dK kvs)) := by
  obtain ⟨⟨dx, ea⟩, ⟨kvs0, es, st0⟩, eq, _, _⟩ := h
  have n1 : a ≠ s := ne_of ea es (fun z => by cases z)
  have n2 : q ≠ s := ne_of eq es (fun z => by cases z)
  refine ⟨⟨⟨dx, by rw [upd_ne n1]; exact ea⟩, ⟨kvs, upd_same, st.keep fun b xs hb => ?_⟩, by rw [upd_ne n2]; exact eq, up, len⟩, fun b o hb _ h2 _ => ?_⟩
  · rw [upd_ne (ne_of hb es (fun z => by cases z))]
    exact hb
  · rw [upd_ne h2]
    exact hb
theorem perm_sorted : ∀ {ys ks : List Int}, ys.Perm ks → ys.Pairwise (· ≤ ·) → ks.Pairwise (· < ·) → ys = ks
  | [], ks, p, _, _ => (List.Perm.nil_eq p)
  | y :: ys, [], p, _, _ => nomatch (List.Perm.eq_nil p)
  | y :: ys, k :: ks, p, h1, h2 => by
    have m1 : y ∈ k :: ks := p.subset List.mem_cons_self
    have m2 : k ∈ y :: ys := p.symm.subset List.mem_cons_self
    have e : y = k := by
      rcases List.mem_cons.mp m1 with z | z
      · exact z
      · rcases List.mem_cons.mp m2 with z' | z'
        · exact z'.symm
        · have a1 := (List.pairwise_cons.mp h1).1 _ z'
          have a2 := (List.pairwise_cons.mp h2).1 _ z
          omega
    subst e
    rw [perm_sorted (List.Perm.cons_inv p) (List.pairwise_cons.mp h1).2 (List.pairwise_cons.mp h2).2]
section
variable {X : Cx} {K : PySem.W.Frag}
/-- o.f inside a comprehension -/
theorem pe_fldK {e : Expr} {f : Str} {pos : Pos} {ta : TE} (hK : X.K = K) (he : PE X e ta) (hb : attributeBase e f X.env (eval e X.env) = eval e X.env) : PE X (.Attribute e f pos) (tFld K ta f) := by
  subst hK
  exact pe_fld he hb
end

/-! ### need_length, need_mating, need_road of a road that is right -/
abbrev s_need_from : Stmt := top 26
abbrev N_need_from : List Str := ["low", "number"]
abbrev P_need_from : List Str := ["low", "number"]
theorem sc_need_from : FnScope N_need_from P_need_from (defScope s_need_from) := ⟨rfl, rfl, rfl, by decide +kernel, rfl, by decide +kernel, by decide +kernel⟩
abbrev s_need_within : Stmt := top 27
abbrev N_need_within : List Str := ["low", "high", "number"]
abbrev P_need_within : List Str := ["low", "high", "number"]
theorem sc_need_within : FnScope N_need_within P_need_within (defScope s_need_within) := ⟨rfl, rfl, rfl, by decide +kernel, rfl, by decide +kernel, by decide +kernel⟩
abbrev s_need_length : Stmt := top 28
abbrev N_need_length : List Str := ["number"]
abbrev P_need_length : List Str := ["number"]
theorem sc_need_length : FnScope N_need_length P_need_length (defScope s_need_length) := ⟨rfl, rfl, rfl, by decide +kernel, rfl, by decide +kernel, by decide +kernel⟩
abbrev s_need_mating : Stmt := top 30
abbrev N_need_mating : List Str := ["length", "mating"]
abbrev P_need_mating : List Str := ["length", "mating"]
theorem sc_need_mating : FnScope N_need_mating P_need_mating (defScope s_need_mating) := ⟨rfl, rfl, rfl, by decide +kernel, rfl, by decide +kernel, by decide +kernel⟩
abbrev s_need_road : Stmt := top 38
abbrev N_need_road : List Str := ["length", "matings", "mating"]
abbrev P_need_road : List Str := ["length", "matings"]
theorem sc_need_road : FnScope N_need_road P_need_road (defScope s_need_road) := ⟨rfl, rfl, rfl, by decide +kernel, rfl, by decide +kernel, by decide +kernel⟩
def spNeed1 (n : Int) : Sp := fun vs H Q _ => ∃ (t : Addr) (m : Int × Int × Int × Int), vs = [.int n, .ref t] ∧ H t = some (t4 m) ∧ ((m.2.2.2 = 0 ∨ m.2.2.2 = 1) ∧ 1 ≤ m.2.2.1 ∧ 0 ≤ m.1 ∧ 0 ≤ m.2.1 ∧ m.1 + m.2.2.1 ≤ n ∧ m.2.1 + m.2.2.1 ≤ n) ∧ ∀ H', Same H H' → Q .non H'
def spFrom0 : Sp := fun vs H Q _ => ∃ lo n : Int, vs = [.int lo, .int n] ∧ lo ≤ n ∧ Q .non H
def spWithin0 : Sp := fun vs H Q _ => ∃ lo hi n : Int, vs = [.int lo, .int hi, .int n] ∧ lo ≤ n ∧ n ≤ hi ∧ Q .non H
def spNeed0 : Sp := fun vs H Q _ => ∃ n : Int, vs = [.int n] ∧ 0 ≤ n ∧ n ≤ 1000000000000000000 ∧ Q .non H
def Mok (n : Int) (x : M4) : Prop := (x.2.2.2 = 0 ∨ x.2.2.2 = 1) ∧ 1 ≤ x.2.2.1 ∧ 0 ≤ x.1 ∧ 0 ≤ x.2.1 ∧ x.1 + x.2.2.1 ≤ n ∧ x.2.1 + x.2.2.1 ≤ n
def Mts (H : Hp) (ts : List Addr) (ms : List M4) : Prop := Paired (fun t x => H t = some (t4 x)) ts ms
theorem Mts.same {H H' : Hp} (k : Same H H') : ∀ {ts : List Addr} {ms : List M4}, Mts H ts ms → Mts H' ts ms
  | _, _, .nil => .nil
  | _, _, .cons h r => .cons (k _ _ h) (Mts.same k r)
theorem Mts.length {H : Hp} : ∀ {ts : List Addr} {ms : List M4}, Mts H ts ms → ts.length = ms.length
  | _, _, .nil => rfl
  | _, _, .cons _ r => congrArg (· + 1) (Mts.length r)
theorem Mts.at {H : Hp} : ∀ {ts : List Addr} {ms : List M4}, Mts H ts ms → ∀ (i : Nat) (t : Addr), ts[i]? = some t → ∃ x, ms[i]? = some x ∧ H t = some (t4 x)
  | _, _, .nil, i, t, h => by simp at h
  | _, _, .cons (b := x) h r, 0, t, e => by
    cases e
    exact ⟨x, rfl, h⟩
  | _, _, .cons h r, i + 1, t, e => Mts.at r i t e
def spNeedM : Sp := fun vs H Q _ => ∃ (n : Int) (L : Addr) (ts : List Addr) (ms : List M4), vs = [.int n, .ref L] ∧ 0 ≤ n ∧ n ≤ 1000000000000000000 ∧ H L = some (.lst (ts.map V.ref)) ∧ Mts H ts ms ∧ (∀ x ∈ ms, Mok n x) ∧ ms.length ≤ 24 ∧ ∀ H', Same H H' → Q .non H'
section
variable {P : Program} {w : World} {K : PySem.W.Frag} {mg : Str → Option Value} {base : Heap}
theorem ok_from0 {f : Addr} {fd : FuncData} (D : DefAt K mg "need_from" s_need_from P_need_from f fd) (B : Bn mg) : FnOk P w K mg base CX0 1 f fd P_need_from spFrom0 := by
  refine D.F.ok sc_need_from (fun vs H Q E h => ?_) (fun cdv A outer s H vs Q E hr h => ?_)
  · obtain ⟨lo, n, rfl, _⟩ := h
    rfl
  · obtain ⟨lo, n, rfl, n0, q⟩ := h
    refine ⟨_, (pss_one (ps_if (PW.pt (pw_or (pt_val (pe_callB call_isi (by rfl) B.isinstance (by decide +kernel) (pa_cons (pv 1) (pa_cons (pe_bltn (v := .ty "bool") (by rfl) B.bool (by decide +kernel) rfl) pa_nil)))) (pw_or1 (pt_cmpR op_lt (pv 1) (pv 0) (nomark _))))) (pss_one ps_never) pss_nil)), ?_⟩
    refine ⟨.int n, rfl, _, _, _, _, false, rfl, ClsV.ty _, TyX.base (TyOf.int _), kit_ty (by decide +kernel), _, rfl, iteF ?_⟩
    exact ⟨.int n, rfl, .int lo, rfl, n, lo, rfl, rfl, _, rfl, ite2 (fun h => absurd (of_decide_eq_true h) (by omega)) (fun _ => q)⟩
theorem ok_within0 {f fA : Addr} {fd fdA : FuncData} (D : DefAt K mg "need_within" s_need_within P_need_within f fd) (D_need_from : DefAt K mg "need_from" s_need_from P_need_from fA fdA) (B : Bn mg) : FnOk P w K mg base CX0 2 f fd P_need_within spWithin0 := by
  have G_need_from : FnOk P w K mg base CX0 1 fA fdA P_need_from spFrom0 := ok_from0 D_need_from B
  refine D.F.ok sc_need_within (fun vs H Q E h => ?_) (fun cdv A outer s H vs Q E hr h => ?_)
  · obtain ⟨lo, hi, n, rfl, _⟩ := h
    rfl
  · obtain ⟨lo, hi, n, rfl, n0, n1, q⟩ := h
    refine ⟨_, (pss_cons (ps_expr (pe_call G_need_from (hr.mono (by omega)) (by rfl) D_need_from.g D_need_from.F.kp D_need_from.b .nil pass0 (pa_cons (pv 0) (pa_cons (pv 2) pa_nil))))
      (pss_one (ps_if (pt_cmpR op_gt (pv 2) (pv 1) (nomark _)) (pss_one ps_never) pss_nil))), ?_⟩
    refine ⟨.int lo, rfl, .int n, rfl, lo, n, rfl, n0, ?_⟩
    exact ⟨.int n, rfl, .int hi, rfl, n, hi, rfl, rfl, _, rfl, ite2 (fun h => absurd (of_decide_eq_true h) (by omega)) (fun _ => q)⟩
theorem ok_need0 {f fA fV : Addr} {fd fdA fdV : FuncData} {tok : Tok} (D : DefAt K mg "need_length" s_need_length P_need_length f fd) (D_need_from : DefAt K mg "need_from" s_need_from P_need_from fA fdA) (D_need_within : DefAt K mg "need_within" s_need_within P_need_within fV fdV) (g_FAR : mg "FAR" = some (.int 1000000000000000000 tok)) (B : Bn mg) : FnOk P w K mg base CX0 3 f fd P_need_length spNeed0 := by
  have G_need_within : FnOk P w K mg base CX0 2 fV fdV P_need_within spWithin0 := ok_within0 D_need_within D_need_from B
  refine D.F.ok sc_need_length (fun vs H Q E h => ?_) (fun cdv A outer s H vs Q E hr h => ?_)
  · obtain ⟨n, rfl, _⟩ := h
    rfl
  · obtain ⟨n, rfl, n0, n1, q⟩ := h
    refine ⟨_, (pss_one (ps_expr (pe_call G_need_within (hr.mono (by omega)) (by rfl) D_need_within.g D_need_within.F.kp D_need_within.b .nil pass0 (pa_cons pe_int (pa_cons (pe_glob (v := .int _) (by rfl) g_FAR ⟨_, rfl⟩) (pa_cons (pv 0) pa_nil)))))), ?_⟩
    exact ⟨.int n, rfl, 0, 1000000000000000000, n, rfl, n0, n1, q⟩
theorem ok_need1 {f fM : Addr} {fd fdM : FuncData} {n : Int} (D : DefAt K mg "need_mating" s_need_mating P_need_mating f fd) (D_is_mating : DefAt K mg "is_mating" s_is_mating P_is_mating fM fdM) (n0 : 0 ≤ n) (n1 : n ≤ 1000000000000000000) (B : Bn mg) : FnOk P w K mg base CX0 2 f fd P_need_mating (spNeed1 n) := by
  have G_is_mating : FnOk P w K mg base CX0 1 fM fdM P_is_mating spIsMat := ok_is_mating D_is_mating B
  refine D.F.ok sc_need_mating (fun vs H Q E h => ?_) (fun cdv A outer s H vs Q E hr h => ?_)
  · obtain ⟨t, m, rfl, _⟩ := h
    rfl
  · obtain ⟨t, m, rfl, em, ⟨h1, h2, h3, h4, h5, h6⟩, q⟩ := h
    refine ⟨_, (pss_one (ps_if (pt_not (pt_val (pe_call G_is_mating (hr.mono (by omega)) (by rfl) D_is_mating.g D_is_mating.F.kp D_is_mating.b .nil pass0 (pa_cons (pv 0) (pa_cons (pv 1) pa_nil))))) (pss_one ps_never) pss_nil)), ?_⟩
    refine ⟨.int n, rfl, .ref t, rfl, n, t, .int m.1, .int m.2.1, .int m.2.2.1, .int m.2.2.2, rfl, by omega, em, .int (by omega), .int (by omega), .int (by omega), .int (by omega), fun H3 s3 => ?_⟩
    rw [show isMat n (.int m.1) (.int m.2.1) (.int m.2.2.1) (.int m.2.2.2) = true from decide_eq_true ⟨h1, h2, h3, h4, h5, h6⟩]
    exact ⟨true, rfl, iteF (q _ s3)⟩
theorem ok_needR {f fA fV fN fM fI : Addr} {fd fdA fdV fdN fdM fdI : FuncData} {tok1 tok2 : Tok} (D : DefAt K mg "need_road" s_need_road P_need_road f fd) (D_need_from : DefAt K mg "need_from" s_need_from P_need_from fA fdA) (D_need_within : DefAt K mg "need_within" s_need_within P_need_within fV fdV) (D_need_length : DefAt K mg "need_length" s_need_length P_need_length fN fdN) (D_need_mating : DefAt K mg "need_mating" s_need_mating P_need_mating fM fdM) (D_is_mating : DefAt K mg "is_mating" s_is_mating P_is_mating fI fdI)
    (g_FAR : mg "FAR" = some (.int 1000000000000000000 tok1)) (g_MOST : mg "MOST" = some (.int 24 tok2)) (B : Bn mg) : FnOk P w K mg base CX0 4 f fd P_need_road spNeedM := by
  have G_need_length : FnOk P w K mg base CX0 3 fN fdN P_need_length spNeed0 := ok_need0 D_need_length D_need_from D_need_within g_FAR B
  refine D.F.ok sc_need_road (fun vs H Q E h => ?_) (fun cdv A outer s H vs Q E hr h => ?_)
  · obtain ⟨n, L, ts, ms, rfl, _⟩ := h
    rfl
  · obtain ⟨n, L, ts, ms, rfl, n0, n1, hL, hM, hok, hl, q⟩ := h
    have G_need_mating : FnOk P w K mg base CX0 2 fM fdM P_need_mating (spNeed1 n) := ok_need1 D_need_mating D_is_mating n0 n1 B
    refine ⟨_, (pss_cons (ps_expr (pe_call G_need_length (hr.mono (by omega)) (by rfl) D_need_length.g D_need_length.F.kp D_need_length.b .nil pass0 (pa_cons (pv 0) pa_nil)))
      (pss_cons (ps_for PassesOwn.never rfl (pi_list (pv 1)) (pg_name (i := 2) sc_need_road.nd rfl (.inl rfl)) (pss_one (ps_expr (pe_call G_need_mating (hr.mono (by omega)) (by rfl) D_need_mating.g D_need_mating.F.kp D_need_mating.b .nil pass0 (pa_cons (pv 0) (pa_cons (pv 2) pa_nil))))))
      (pss_one (ps_if (pt_cmpR op_gt (pe_callB call_len_seq (by rfl) B.len (by decide +kernel) (pa_cons (pv 1) pa_nil)) (pe_glob (v := .int _) (by rfl) g_MOST ⟨_, rfl⟩) (nomark _)) (pss_one ps_never) pss_nil)))), ?_⟩
    refine ⟨.int n, rfl, n, rfl, n0, n1, ?_⟩
    refine ⟨.ref L, rfl, L, rfl, ⟨_, SqL.of hL⟩, for_list (K := K) (a := L) (xs := ts.map V.ref) (fun i σ H2 => ∃ y, σ = [some (.int n), some (.ref L), y] ∧ Same H H2) ⟨_, rfl, Same.refl H⟩ (fun i σ H2 _ ⟨_, _, sm⟩ => SqL.of (sm _ _ hL)) ?_ ?_⟩
    · rintro i x σ H2 hx ⟨y, rfl, sm⟩
      obtain ⟨t, ht, rfl⟩ : ∃ t, ts[i]? = some t ∧ V.ref t = x := by
        rw [List.getElem?_map] at hx
        exact Option.map_eq_some_iff.mp hx
      obtain ⟨m, hm, em⟩ := hM.at i t ht
      exact ⟨.int n, rfl, .ref t, rfl, t, m, rfl, sm _ _ em, hok m (List.mem_of_getElem? hm), fun H3 s3 => ⟨_, rfl, sm.trans s3⟩⟩
    · rintro σ H2 ⟨y, rfl, sm⟩
      have e1 := hM.length
      refine ⟨.ref L, rfl, L, _, rfl, .inl (SqL.of (sm _ _ hL)), _, _, rfl, rfl, _, rfl, ite2 (fun h => ?_) (fun _ => q H2 sm)⟩
      have h' := of_decide_eq_true h
      rw [List.length_map] at h'
      omega
end
/-! ### {k: v for i, x in enumerate(us)} -/
theorem dc_enum {K : PySem.W.Frag} {a : Addr} {us : List V} {g : TG} {tt : TT} {tk tv : TE} {vs : List Nat} {σ : L2.St} {G1 : Hp} {D : Addr} {Qd : Hp → Prop} (Iv : Nat → Hp → Prop) (h0 : Iv 0 (upd G1 D (.dK []))) (hl : ∀ j G, j ≤ us.length → Iv j G → SqL K G a us)
    (hs : ∀ j u G T, us[j]? = some u → Iv j G → G T = none → g (.ref T) (wipe σ vs) (upd G T (.tup [.int (j : Nat), u])) fun σ2 G2 => wipe σ2 vs = wipe σ vs ∧ tt σ2 G2 fun b G3 =>
      if b = true then tk σ2 G3 fun y G4 => tv σ2 G4 fun z G5 => ∃ kvs k, y = kV k ∧ G5 D = some (.dK kvs) ∧ kvs.length < sizeLine ∧ Iv (j + 1) (upd G5 D (.dK (putK kvs k z))) else Iv (j + 1) G3) (hd : ∀ G, Iv us.length G → Qd G) :
    ∃ W : Nat → Nat → Hp → Prop, (∃ c, W 0 c (upd G1 D (.dK []))) ∧ ∀ j c G, W j c G →
      ((Ite K a).stop j G ∧ Qd G) ∨ ((Ite K a).go j G ∧ ∃ Nx : Hp → Prop, (∀ G', Nx G' → ∃ c', c' < c ∧ W (j + 1) c' G') ∧ ∀ u G', (Ite K a).yld j G u G' → g u (wipe σ vs) G' fun σ2 G2 => wipe σ2 vs = wipe σ vs ∧ tt σ2 G2 fun b G3 =>
        if b = true then tk σ2 G3 fun y G4 => tv σ2 G4 fun z G5 => ∃ kvs k, y = kV k ∧ G5 D = some (.dK kvs) ∧ kvs.length < sizeLine ∧ Nx (upd G5 D (.dK (putK kvs k z))) else Nx G3) := by
  refine ⟨fun j c G => (c = us.length - j ∧ j ≤ us.length) ∧ Iv j G, ⟨us.length, ⟨by simp, Nat.zero_le _⟩, h0⟩, ?_⟩
  rintro j c G ⟨⟨rfl, hj⟩, p⟩
  have q := hl j G hj p
  rcases Nat.lt_or_ge j us.length with lt | ge
  · refine .inr ⟨⟨us, us[j], q, by simp [lt]⟩, Iv (j + 1), fun G' p' => ⟨us.length - (j + 1), by omega, ⟨rfl, lt⟩, p'⟩, ?_⟩
    rintro u G' ⟨T, z, rfl, nT, rfl, hz⟩
    exact hs j z G T (hz us q) p nT
  · obtain rfl : j = us.length := by omega
    exact .inl ⟨⟨us, q, Nat.le_refl _⟩, hd G p⟩

/-! ### put -/
def nrm (x : M4) : M4 := ((if x.2.1 < x.1 then x.2.1 else x.1), (if x.2.1 < x.1 then x.1 else x.2.1), x.2.2.1, x.2.2.2)
abbrev s_Fput : Stmt := inClass (top 46) 15
abbrev N_Fput : List Str := ["self", "i", "mating"]
abbrev P_Fput : List Str := ["self", "i", "mating"]
theorem sc_Fput : FnScope N_Fput P_Fput (defScope s_Fput) := ⟨rfl, rfl, rfl, by decide +kernel, rfl, by decide +kernel, by decide +kernel⟩
def spPut (C : Addr) : Sp := fun vs H Q _ => ∃ (a s q : Addr) (e i : Int) (S : StL) (ps : List V) (v : V) (y : M4), vs = [.ref a, .int i, v] ∧ FrAt C H a s q e S ps ∧ sget S i = some y ∧
  ((v = .non ∧ ∀ H', FrAt C H' a s q e (sdrop S i) ps → Off a s q H H' → Q .non H') ∨ ∃ t x, v = .ref t ∧ H t = some (t4 x) ∧ ∀ H', FrAt C H' a s q e (sput S i (nrm x)) ps → Off a s q H H' → Q .non H')
section
variable {P : Program} {w : World} {K : PySem.W.Frag} {mg : Str → Option Value} {base : Heap} {C : Addr}
theorem ok_put {f fN fB : Addr} {fd fdN fdB : FuncData} (F : Fun K "put" "Front.put" s_Fput f fd) (T : FrT K mg C) (D_normal : DefAt K mg "normal" s_normal P_normal fN fdN) (D_back : DefAt K mg "back" s_back P_back fB fdB) : FnOk P w K mg base CX0 3 f fd P_Fput (spPut C) := by
  have G_normal : FnOk P w K mg base CX0 2 fN fdN P_normal spNormal := ok_normal D_normal D_back
  refine F.ok sc_Fput (fun vs H Q E h => ?_) (fun cdv A outer s H vs Q E hr h => ?_)
  · obtain ⟨a, s, q, e, i, S, ps, v, y, rfl, _⟩ := h
    rfl
  · obtain ⟨a, s, q, e, i, S, ps, v, y, rfl, fa, hy, h⟩ := h
    have hu := hu_of hr
    refine ⟨_, (pss_one (ps_if (pt_cmpR op_isN (pv 2) pe_non (nomark _)) (pss_one (ps_ddel (pe_fld (pv 0) rfl) (pv 1))) (pss_one (ps_dput hu (pe_fld (pv 0) rfl) (pv 1) (pe_call G_normal (hr.mono (by omega)) (by rfl) D_normal.g D_normal.F.kp D_normal.b .nil pass0 (pa_cons (pv 2) pa_nil)) rfl)))), ?_⟩
    obtain ⟨dx, ea⟩ := fa.at_a
    obtain ⟨kvs, es, st⟩ := fa.at_s
    obtain ⟨u, hu2, _⟩ := (st.get i).2 y hy
    have hlen := st.length
    have hl := fa.len
    rcases h with ⟨rfl, qq⟩ | ⟨t, x, rfl, ht, qq⟩
    · refine ⟨.non, rfl, rfl, _, rfl, iteT ?_⟩
      refine ⟨.ref a, rfl, a, C, dx, _, _, rfl, ea, T.cl, T.nS, fr_standing e s q, .int i, rfl, s, kvs, Sum.inl i, rfl, es, rfl, by rw [hu2]; rfl, ?_⟩
      obtain ⟨f1, f2⟩ := fa.dict (st.drop (i := i)) (sdrop_keys fa.up) (Nat.le_trans (sdrop_length S i) hl)
      exact qq _ f1 f2
    · refine ⟨.ref t, rfl, rfl, _, rfl, iteF ?_⟩
      refine ⟨.ref t, rfl, t, x.1, x.2.1, x.2.2.1, x.2.2.2, rfl, ht, fun r H' sm hr' => ?_⟩
      have fa' := fa.same sm
      obtain ⟨kvs', es', st'⟩ := fa'.at_s
      have ek : kvs' = kvs := by
        rw [sm _ _ es] at es'
        cases es'
        rfl
      subst ek
      refine ⟨.ref a, rfl, a, C, dx, _, _, rfl, sm _ _ ea, T.cl, T.nS, fr_standing e s q, .int i, rfl, s, _, rfl, DPut.k (k := Sum.inl i) es' (sz_lt (by omega)), ?_⟩
      obtain ⟨f1, f2⟩ := fa'.dict (st'.put (x := nrm x) hy hr') (by rw [sput_keys]; exact fa'.up) (by rw [sput_length]; exact hl)
      exact qq _ f1 ((Off.of_same sm).trans f2)
end
/-! ### merge, halve -/
abbrev s_Fmerge : Stmt := inClass (top 46) 9
abbrev N_Fmerge : List Str := ["self", "i", "j", "first", "second", "mating"]
abbrev P_Fmerge : List Str := ["self", "i", "j"]
theorem sc_Fmerge : FnScope N_Fmerge P_Fmerge (defScope s_Fmerge) := ⟨rfl, rfl, rfl, by decide +kernel, rfl, by decide +kernel, by decide +kernel⟩
abbrev s_Fhalve : Stmt := inClass (top 46) 8
abbrev N_Fhalve : List Str := ["self", "i", "mating"]
abbrev P_Fhalve : List Str := ["self", "i"]
theorem sc_Fhalve : FnScope N_Fhalve P_Fhalve (defScope s_Fhalve) := ⟨rfl, rfl, rfl, by decide +kernel, rfl, by decide +kernel, by decide +kernel⟩
def mrg (x y : M4) : Option M4 := if isRep x.1 x.2.1 x.2.2.1 x.2.2.2 = true ∧ isRep y.1 y.2.1 y.2.2.1 y.2.2.2 = true ∧ x.2.1 - x.1 + (y.2.1 - y.1) ≤ shr x.1 x.2.1 x.2.2.1 y.1 y.2.1 y.2.2.1 then
  some (imin x.1 y.1, imin x.1 y.1 + (Nat.gcd (x.2.1 - x.1).toNat (y.2.1 - y.1).toNat : Nat), imax (x.2.1 + x.2.2.1) (y.2.1 + y.2.2.1) - imin x.1 y.1 - (Nat.gcd (x.2.1 - x.1).toNat (y.2.1 - y.1).toNat : Nat), 0) else none
def mergeS (S : StL) (i j : Int) : Option StL := if i = j then none else match sget S i, sget S j with
  | some x, some y => (mrg x y).map fun z => sdrop (sput S i (nrm z)) j
  | _, _ => none
def halveS (S : StL) (i : Int) : Option StL := match sget S i with
  | some x => if x.2.2.2 = 0 ∨ isLead x.1 x.2.1 x.2.2.1 x.2.2.2 = true then none else if hlf x.1 x.2.1 x.2.2.1 = 0 then some (sdrop S i) else some (sput S i (nrm (x.1, x.2.1 + x.2.2.1 - hlf x.1 x.2.1 x.2.2.1, hlf x.1 x.2.1 x.2.2.1, x.2.2.2)))
  | none => none
/-- what stands behind a move: r the new standing ones, or none where it is refused -/
def After (C : Addr) (H : Hp) (a s q : Addr) (e : Int) (S : StL) (ps : List V) (r : Option StL) (Q : VK) : Prop :=
  (r = none → ∀ H', FrAt C H' a s q e S ps → Off a s q H H' → Q (.bl false) H') ∧ ∀ S', r = some S' → ∀ H', FrAt C H' a s q e S' ps → Off a s q H H' → Q (.bl true) H'
def spMerge (C : Addr) : Sp := fun vs H Q _ => ∃ (a s q : Addr) (e i j : Int) (S : StL) (ps : List V), vs = [.ref a, .int i, .int j] ∧ FrAt C H a s q e S ps ∧ After C H a s q e S ps (mergeS S i j) Q
def spHalve (C : Addr) : Sp := fun vs H Q _ => ∃ (a s q : Addr) (e i : Int) (S : StL) (ps : List V), vs = [.ref a, .int i] ∧ FrAt C H a s q e S ps ∧ After C H a s q e S ps (halveS S i) Q
section
variable {P : Program} {w : World} {K : PySem.W.Frag} {mg : Str → Option Value} {base : Heap} {C : Addr}
theorem put_no {m : Str} {e : Int} {s q : Addr} (h1 : (m == "edge") = false := by decide +kernel) (h2 : (m == "standing") = false := by decide +kernel) (h3 : (m == "past") = false := by decide +kernel) : (fr e s q).lookup m = none :=
  fr_no (fun z => by rw [z] at h1; simp at h1) (fun z => by rw [z] at h2; simp at h2) (fun z => by rw [z] at h3; simp at h3)
/-- self.standing.get(i) -/
theorem get_at {H : Hp} {a s q : Addr} {e i : Int} {S : StL} {ps : List V} (fa : FrAt C H a s q e S ps) : ∃ o, DGet H s (.int i) o ∧ (sget S i = none → o = none) ∧ ∀ x, sget S i = some x → ∃ t, o = some (.ref t) ∧ H t = some (t4 x) := by
  obtain ⟨kvs, es, st⟩ := fa.at_s
  exact ⟨_, DGet.k (k := Sum.inl i) es, (st.get i).1, (st.get i).2⟩
theorem isD_of {H : Hp} {a s q : Addr} {e : Int} {S : StL} {ps : List V} (fa : FrAt C H a s q e S ps) : IsD H s := by
  obtain ⟨kvs, es, st⟩ := fa.at_s
  exact .inl ⟨kvs, .inl es⟩
theorem ok_halve {f fP fH fL fS : Addr} {fd fdP fdH fdL fdS : FuncData} (F : Fun K "halve" "Front.halve" s_Fhalve f fd) (T : FrT K mg C) (M_put : Meth K C "put" fP) (G_put : FnOk P w K mg base CX0 3 fP fdP P_Fput (spPut C)) (b_put : Binds K fdP P_Fput [])
    (D_halved : DefAt K mg "halved" s_halved P_halved fH fdH) (D_is_leader : DefAt K mg "is_leader" s_is_leader P_is_leader fL fdL) (D_step_of : DefAt K mg "step_of" s_step_of P_step_of fS fdS) : FnOk P w K mg base CX0 4 f fd P_Fhalve (spHalve C) := by
  have G_halved : FnOk P w K mg base CX0 1 fH fdH P_halved spHalved := ok_halved D_halved
  have G_is_leader : FnOk P w K mg base CX0 2 fL fdL P_is_leader spLead := ok_lead D_is_leader D_step_of
  refine F.ok sc_Fhalve (fun vs H Q E h => ?_) (fun cdv A outer s H vs Q E hr h => ?_)
  · obtain ⟨a, s, q, e, i, S, ps, rfl, _⟩ := h
    rfl
  · obtain ⟨a, s, q, e, i, S, ps, rfl, fa, h1, h2⟩ := h
    have hu := hu_of hr
    refine ⟨_, (pss_cons (ps_set (i := 2) sc_Fhalve.nd rfl (.inl rfl) (pe_dget1 hu (pe_fld (pv 0) rfl) (pv 1) ⟨rfl, rfl, rfl, rfl⟩))
      (pss_cons (ps_if (PW.pt (pw_or (pt_cmpR op_isN (pv 2) pe_non (nomark _)) (pw_or (pt_cmpR op_eq (pe_ix ix_tup (pv 2) pe_int (fun _ _ => rfl)) pe_int (nomark _)) (pw_or1 (pt_val (pe_call G_is_leader (hr.mono (by omega)) (by rfl) D_is_leader.g D_is_leader.F.kp D_is_leader.b .nil pass0 (pa_cons (pv 2) pa_nil))))))) (pss_one (ps_ret pe_bl)) pss_nil)
      (pss_cons (ps_expr (pe_meth (pv 0) T.cl M_put G_put (hr.mono (by omega)) b_put .nil pass0 (pa_cons (pv 1) (pa_cons (pe_call G_halved (hr.mono (by omega)) (by rfl) D_halved.g D_halved.F.kp D_halved.b .nil pass0 (pa_cons (pv 2) pa_nil)) pa_nil))))
      (pss_one (ps_ret pe_bl))))), ?_⟩
    obtain ⟨dx, ea⟩ := fa.at_a
    obtain ⟨o, g, g1, g2⟩ := get_at (i := i) fa
    refine ⟨.ref a, rfl, a, C, dx, _, _, rfl, ea, T.cl, T.nS, fr_standing e s q, s, rfl, isD_of fa, .int i, rfl, o, g, ?_⟩
    unfold halveS at h1 h2
    cases hx : sget S i with
    | none =>
      rw [hx] at h1
      rw [g1 hx]
      exact ⟨.non, rfl, rfl, _, rfl, iteT (h1 rfl H fa (Off.of_same (Same.refl H)))⟩
    | some x =>
      rw [hx] at h1 h2
      obtain ⟨t, rfl, ht⟩ := g2 x hx
      refine ⟨.ref t, rfl, rfl, _, rfl, iteF ?_⟩
      refine ⟨.ref t, rfl, t, _, 3, .int x.2.2.2, rfl, rfl, SqT.of ht, at4_3, rfl, _, rfl, ?_⟩
      refine ite2 (fun h0 => ?_) (fun h0 => ?_)
      · have h0' : x.2.2.2 = 0 := V.int.inj (of_decide_eq_true h0)
        exact h1 (if_pos (.inl h0')) H fa (Off.of_same (Same.refl H))
      · have h0' : ¬ x.2.2.2 = 0 := fun z => h0 (decide_eq_true (congrArg V.int z))
        refine ⟨.ref t, rfl, t, x.1, x.2.1, x.2.2.1, x.2.2.2, rfl, ht, _, rfl, ?_⟩
        refine ite2 (fun h3 => ?_) (fun h3 => ?_)
        · exact h1 (if_pos (.inr h3)) H fa (Off.of_same (Same.refl H))
        · have hn : ¬ (x.2.2.2 = 0 ∨ isLead x.1 x.2.1 x.2.2.1 x.2.2.2 = true) := fun z => z.elim h0' h3
          simp only [if_neg hn] at h2
          refine ⟨.ref a, rfl, a, dx, _, rfl, ea, put_no, .int i, rfl, .ref t, rfl, t, x.1, x.2.1, x.2.2.1, x.2.2.2, rfl, ht, fun hz => ?_, fun hz r nr => ?_⟩
          · rw [if_pos hz] at h2
            exact ⟨a, s, q, e, i, S, ps, .non, x, rfl, fa, hx, .inl ⟨rfl, fun H' f1 f2 => h2 _ rfl H' f1 f2⟩⟩
          · rw [if_neg hz] at h2
            exact ⟨a, s, q, e, i, S, ps, .ref r, x, rfl, fa.same (same_upd nr), hx, .inr ⟨r, (x.1, x.2.1 + x.2.2.1 - hlf x.1 x.2.1 x.2.2.1, hlf x.1 x.2.1 x.2.2.1, x.2.2.2), rfl, upd_same, fun H' f1 f2 => h2 _ rfl H' f1 ((Off.of_same (same_upd nr)).trans f2)⟩⟩
theorem ok_merge {f fP fM fS fE fR fC : Addr} {fd fdP fdM fdS fdE fdR fdC : FuncData} (F : Fun K "merge" "Front.merge" s_Fmerge f fd) (T : FrT K mg C) (M_put : Meth K C "put" fP) (G_put : FnOk P w K mg base CX0 3 fP fdP P_Fput (spPut C)) (b_put : Binds K fdP P_Fput [])
    (D_merged : DefAt K mg "merged" s_merged P_merged fM fdM) (D_step_of : DefAt K mg "step_of" s_step_of P_step_of fS fdS) (D_end_of : DefAt K mg "end_of" s_end_of P_end_of fE fdE) (D_is_repeat : DefAt K mg "is_repeat" s_is_repeat P_is_repeat fR fdR)
    (D_common : DefAt K mg "common" s_common P_common fC fdC) (B : Bn mg) : FnOk P w K mg base CX0 4 f fd P_Fmerge (spMerge C) := by
  have G_merged : FnOk P w K mg base CX0 3 fM fdM P_merged spMerged := ok_merged D_merged D_step_of D_end_of D_is_repeat D_common B
  refine F.ok sc_Fmerge (fun vs H Q E h => ?_) (fun cdv A outer s H vs Q E hr h => ?_)
  · obtain ⟨a, s, q, e, i, j, S, ps, rfl, _⟩ := h
    rfl
  · obtain ⟨a, s, q, e, i, j, S, ps, rfl, fa, h1, h2⟩ := h
    have hu := hu_of hr
    refine ⟨_, (pss_cons (ps_set (i := 3) sc_Fmerge.nd rfl (.inl rfl) (pe_dget1 hu (pe_fld (pv 0) rfl) (pv 1) ⟨rfl, rfl, rfl, rfl⟩))
      (pss_cons (ps_set (i := 4) sc_Fmerge.nd rfl (.inl rfl) (pe_dget1 hu (pe_fld (pv 0) rfl) (pv 2) ⟨rfl, rfl, rfl, rfl⟩))
      (pss_cons (ps_if (PW.pt (pw_or (pt_cmpR op_eq (pv 1) (pv 2) (nomark _)) (pw_or (pt_cmpR op_isN (pv 3) pe_non (nomark _)) (pw_or1 (pt_cmpR op_isN (pv 4) pe_non (nomark _)))))) (pss_one (ps_ret pe_bl)) pss_nil)
      (pss_cons (ps_set (i := 5) sc_Fmerge.nd rfl (.inl rfl) (pe_call G_merged (hr.mono (by omega)) (by rfl) D_merged.g D_merged.F.kp D_merged.b .nil pass0 (pa_cons (pv 3) (pa_cons (pv 4) pa_nil))))
      (pss_cons (ps_if (pt_cmpR op_isN (pv 5) pe_non (nomark _)) (pss_one (ps_ret pe_bl)) pss_nil)
      (pss_cons (ps_expr (pe_meth (pv 0) T.cl M_put G_put (hr.mono (by omega)) b_put .nil pass0 (pa_cons (pv 1) (pa_cons (pv 5) pa_nil))))
      (pss_cons (ps_expr (pe_meth (pv 0) T.cl M_put G_put (hr.mono (by omega)) b_put .nil pass0 (pa_cons (pv 2) (pa_cons pe_non pa_nil))))
      (pss_one (ps_ret pe_bl))))))))), ?_⟩
    obtain ⟨dx, ea⟩ := fa.at_a
    obtain ⟨o, g, g1, g2⟩ := get_at (i := i) fa
    obtain ⟨o', g', g1', g2'⟩ := get_at (i := j) fa
    have no : ∀ r, r = false → mergeS S i j = none → Q (.bl r) H := fun r e1 e2 => by
      rw [e1]
      exact h1 e2 H fa (Off.of_same (Same.refl H))
    refine ⟨.ref a, rfl, a, C, dx, _, _, rfl, ea, T.cl, T.nS, fr_standing e s q, s, rfl, isD_of fa, .int i, rfl, o, g, ?_⟩
    refine ⟨.ref a, rfl, a, C, dx, _, _, rfl, ea, T.cl, T.nS, fr_standing e s q, s, rfl, isD_of fa, .int j, rfl, o', g', ?_⟩
    refine ⟨.int i, rfl, .int j, rfl, rfl, _, rfl, ?_⟩
    refine ite2 (fun h => ?_) (fun h => ?_)
    · have h' : i = j := V.int.inj (of_decide_eq_true h)
      exact no _ rfl (by unfold mergeS; rw [if_pos h'])
    · have h' : ¬ i = j := fun z => h (decide_eq_true (congrArg V.int z))
      have em : mergeS S i j = match sget S i, sget S j with | some x, some y => (mrg x y).map fun z => sdrop (sput S i (nrm z)) j | _, _ => none := by
        unfold mergeS
        rw [if_neg h']
      cases hx : sget S i with
      | none =>
        rw [hx] at em
        rw [g1 hx]
        exact ⟨.non, rfl, rfl, _, rfl, iteT (no _ rfl em)⟩
      | some x =>
        obtain ⟨t, rfl, ht⟩ := g2 x hx
        refine ⟨.ref t, rfl, rfl, _, rfl, iteF ?_⟩
        cases hy : sget S j with
        | none =>
          rw [hx, hy] at em
          rw [g1' hy]
          exact ⟨.non, rfl, rfl, _, rfl, iteT (no _ rfl em)⟩
        | some y =>
          rw [hx, hy] at em
          obtain ⟨t', rfl, ht'⟩ := g2' y hy
          refine ⟨.ref t', rfl, rfl, _, rfl, iteF ?_⟩
          refine ⟨.ref t, rfl, .ref t', rfl, t, t', x.1, x.2.1, x.2.2.1, x.2.2.2, y.1, y.2.1, y.2.2.1, y.2.2.2, rfl, ht, ht', fun hn => ?_, fun r1 r2 r3 r nr => ?_⟩
          · refine ⟨.non, rfl, rfl, _, rfl, iteT (no _ rfl ?_)⟩
            rw [em]
            show (mrg x y).map _ = none
            unfold mrg
            rw [if_neg hn]
            rfl
          · refine ⟨.ref r, rfl, rfl, _, rfl, iteF ?_⟩
            have emr : mrg x y = some _ := if_pos ⟨r1, r2, r3⟩
            have em2 : mergeS S i j = (mrg x y).map (fun z => sdrop (sput S i (nrm z)) j) := em
            rw [emr] at em2
            have sm := same_upd (H := H) (o := t4 (imin x.1 y.1, imin x.1 y.1 + (Nat.gcd (x.2.1 - x.1).toNat (y.2.1 - y.1).toNat : Nat), imax (x.2.1 + x.2.2.1) (y.2.1 + y.2.2.1) - imin x.1 y.1 - (Nat.gcd (x.2.1 - x.1).toNat (y.2.1 - y.1).toNat : Nat), 0)) nr
            refine ⟨.ref a, rfl, a, dx, _, rfl, sm _ _ ea, put_no, .int i, rfl, .ref r, rfl, a, s, q, e, i, S, ps, .ref r, x, rfl, fa.same sm, hx, .inr ⟨r, (imin x.1 y.1, imin x.1 y.1 + (Nat.gcd (x.2.1 - x.1).toNat (y.2.1 - y.1).toNat : Nat), imax (x.2.1 + x.2.2.1) (y.2.1 + y.2.2.1) - imin x.1 y.1 - (Nat.gcd (x.2.1 - x.1).toNat (y.2.1 - y.1).toNat : Nat), 0), rfl, upd_same, fun H2 f1 o1 => ?_⟩⟩
            obtain ⟨dx2, ea2⟩ := f1.at_a
            refine ⟨.ref a, rfl, a, dx2, _, rfl, ea2, put_no, .int j, rfl, a, s, q, e, j, _, ps, .non, y, rfl, f1, by rw [sget_put_ne h']; exact hy, .inl ⟨rfl, fun H3 f2 o2 => ?_⟩⟩
            exact h2 _ em2 H3 f2 (((Off.of_same sm).trans o1).trans o2)
end

/-! ### made, make (merge and halve) -/
abbrev s_Fmade : Stmt := inClass (top 46) 6
abbrev N_Fmade : List Str := ["self", "move", "name"]
abbrev P_Fmade : List Str := ["self", "move"]
theorem sc_Fmade : FnScope N_Fmade P_Fmade (defScope s_Fmade) := ⟨rfl, rfl, rfl, by decide +kernel, rfl, by decide +kernel, by decide +kernel⟩
abbrev s_Fmake : Stmt := inClass (top 46) 5
abbrev N_Fmake : List Str := ["self", "move", "number"]
abbrev P_Fmake : List Str := ["self", "move"]
theorem sc_Fmake : FnScope N_Fmake P_Fmake (defScope s_Fmake) := ⟨rfl, rfl, rfl, by decide +kernel, rfl, by decide +kernel, by decide +kernel⟩
/-- the move xs leads the standing ones S to r -/
def Mv (xs : List V) (S : StL) (r : Option StL) : Prop := (∃ i : Int, xs = [.str "halve", .int i] ∧ r = halveS S i ∧ i.natAbs < 2 ^ 200) ∨ ∃ i j : Int, xs = [.str "merge", .int i, .int j] ∧ r = mergeS S i j ∧ i.natAbs < 2 ^ 200 ∧ j.natAbs < 2 ^ 200
def spMade (C : Addr) : Sp := fun vs H Q _ => ∃ (a s q t : Addr) (e : Int) (S : StL) (ps xs : List V) (r : Option StL), vs = [.ref a, .ref t] ∧ FrAt C H a s q e S ps ∧ H t = some (.tup xs) ∧ Mv xs S r ∧ After C H a s q e S ps r Q
def spMake (C CM : Addr) : Sp := fun vs H Q E => ∃ (a s q t : Addr) (e : Int) (S : StL) (ps xs : List V) (r : Option StL), vs = [.ref a, .ref t] ∧ FrAt C H a s q e S ps ∧ H t = some (.tup xs) ∧ Mv xs S r ∧
  (∀ S', r = some S' → ∀ H', FrAt C H' a s q e S' ps → Off a s q H H' → Q .non H') ∧
  (r = none → ∀ (H' : Hp) (d : Addr), FrAt C H' a s q e S ps → Off a s q H H' → H' d = some (.xd (bmF (.ref t))) → E (.ref CM) (some d) H')
theorem mv_str {y : Str} (h1 : y.length ≤ 100) (h2 : ∀ c ∈ y.cps.toList, c < 16 ^ 8) : MV (.str y) := .inr ⟨y, rfl, h1, h2⟩
theorem mv_int {i : Int} (h : i.natAbs < 2 ^ 200) : MV (.int i) := .inl (IB.fv (.int h))
theorem Mv.mv {xs : List V} {S : StL} {r : Option StL} (h : Mv xs S r) : (∀ y ∈ xs, MV y) ∧ xs.length ≤ 20 := by
  rcases h with ⟨i, rfl, _, hi⟩ | ⟨i, j, rfl, _, hi, hj⟩
  · refine ⟨fun y hy => ?_, by show 2 ≤ 20; decide⟩
    rcases List.mem_cons.mp hy with rfl | hy
    · exact mv_str (by decide +kernel) (by decide +kernel)
    rcases List.mem_cons.mp hy with rfl | hy
    · exact mv_int hi
    · cases hy
  · refine ⟨fun y hy => ?_, by show 3 ≤ 20; decide⟩
    rcases List.mem_cons.mp hy with rfl | hy
    · exact mv_str (by decide +kernel) (by decide +kernel)
    rcases List.mem_cons.mp hy with rfl | hy
    · exact mv_int hi
    rcases List.mem_cons.mp hy with rfl | hy
    · exact mv_int hj
    · cases hy
theorem Mv.noB {xs : List V} {S : StL} {r : Option StL} (h : Mv xs S r) {K : PySem.W.Frag} {H : Hp} : ∀ y ∈ xs, ∃ t, TyX K H y t ∧ PySem.W.kitOne K t (.type "bool") = some false := fun y hy => by
  have hs : ∀ z : Str, ∃ t, TyX K H (.str z) t ∧ PySem.W.kitOne K t (.type "bool") = some false := fun z => ⟨_, TyX.base (TyOf.str _), kit_ty (r := false) (by decide +kernel)⟩
  have hi : ∀ i : Int, ∃ t, TyX K H (.int i) t ∧ PySem.W.kitOne K t (.type "bool") = some false := fun i => ⟨_, TyX.base (TyOf.int _), kit_ty (r := false) (by decide +kernel)⟩
  rcases h with ⟨i, rfl, _⟩ | ⟨i, j, rfl, _⟩
  · rcases List.mem_cons.mp hy with rfl | hy
    · exact hs _
    rcases List.mem_cons.mp hy with rfl | hy
    · exact hi _
    · cases hy
  · rcases List.mem_cons.mp hy with rfl | hy
    · exact hs _
    rcases List.mem_cons.mp hy with rfl | hy
    · exact hi _
    rcases List.mem_cons.mp hy with rfl | hy
    · exact hi _
    · cases hy
section
variable {P : Program} {w : World} {K : PySem.W.Frag} {mg : Str → Option Value} {base : Heap} {C : Addr}
theorem ok_made {f fH fM : Addr} {fd fdH fdM : FuncData} (F : Fun K "made" "Front.made" s_Fmade f fd) (T : FrT K mg C) (M_halve : Meth K C "halve" fH) (G_halve : FnOk P w K mg base CX0 4 fH fdH P_Fhalve (spHalve C)) (b_halve : Binds K fdH P_Fhalve [])
    (M_merge : Meth K C "merge" fM) (G_merge : FnOk P w K mg base CX0 4 fM fdM P_Fmerge (spMerge C)) (b_merge : Binds K fdM P_Fmerge []) : FnOk P w K mg base CX0 5 f fd P_Fmade (spMade C) := by
  refine F.ok sc_Fmade (fun vs H Q E h => ?_) (fun cdv A outer s H vs Q E hr h => ?_)
  · obtain ⟨a, s, q, t, e, S, ps, xs, r, rfl, _⟩ := h
    rfl
  · obtain ⟨a, s, q, t, e, S, ps, xs, r, rfl, fa, ht, mv, af⟩ := h
    refine ⟨_, (pss_cons (ps_set (i := 2) sc_Fmade.nd rfl (.inl rfl) (pe_ix ix_tup (pv 1) pe_int (fun _ _ => rfl)))
      (pss_cons (ps_if (pt_cmpR op_eq (pv 2) pe_str (nomark _)) (pss_one ps_never) pss_nil)
      (pss_cons (ps_if (pt_cmpR op_eq (pv 2) pe_str (nomark _)) (pss_one (ps_ret (pe_meth (pv 0) T.cl M_halve G_halve (hr.mono (by omega)) b_halve .nil pass0 (pa_cons (pe_ix ix_tup (pv 1) pe_int (fun _ _ => rfl)) pa_nil)))) pss_nil)
      (pss_cons (ps_if (pt_cmpR op_eq (pv 2) pe_str (nomark _)) (pss_one (ps_ret (pe_meth (pv 0) T.cl M_merge G_merge (hr.mono (by omega)) b_merge .nil pass0 (pa_cons (pe_ix ix_tup (pv 1) pe_int (fun _ _ => rfl)) (pa_cons (pe_ix ix_tup (pv 1) pe_int (fun _ _ => rfl)) pa_nil))))) pss_nil) pss_never)))), ?_⟩
    obtain ⟨dx, ea⟩ := fa.at_a
    rcases mv with ⟨i, rfl, rfl, _⟩ | ⟨i, j, rfl, rfl, _⟩
    · refine ⟨.ref t, rfl, t, _, 0, .str "halve", rfl, rfl, SqT.of ht, atI_nat (j := 0) rfl, ?_⟩
      refine ⟨.str "halve", rfl, rfl, _, rfl, ite2 (fun h => absurd h (by decide +kernel)) (fun _ => ?_)⟩
      refine ⟨.str "halve", rfl, rfl, _, rfl, ite2 (fun _ => ?_) (fun h => absurd (by decide +kernel) h)⟩
      exact ⟨.ref a, rfl, a, dx, _, rfl, ea, put_no, .ref t, rfl, t, _, 1, .int i, rfl, rfl, SqT.of ht, atI_nat (j := 1) rfl, a, s, q, e, i, S, ps, rfl, fa, af⟩
    · refine ⟨.ref t, rfl, t, _, 0, .str "merge", rfl, rfl, SqT.of ht, atI_nat (j := 0) rfl, ?_⟩
      refine ⟨.str "merge", rfl, rfl, _, rfl, ite2 (fun h => absurd h (by decide +kernel)) (fun _ => ?_)⟩
      refine ⟨.str "merge", rfl, rfl, _, rfl, ite2 (fun h => absurd h (by decide +kernel)) (fun _ => ?_)⟩
      refine ⟨.str "merge", rfl, rfl, _, rfl, ite2 (fun _ => ?_) (fun h => absurd (by decide +kernel) h)⟩
      exact ⟨.ref a, rfl, a, dx, _, rfl, ea, put_no, .ref t, rfl, t, _, 1, .int i, rfl, rfl, SqT.of ht, atI_nat (j := 1) rfl, .ref t, rfl, t, _, 2, .int j, rfl, rfl, SqT.of ht, atI_nat (j := 2) rfl, a, s, q, e, i, j, S, ps, rfl, fa, af⟩
theorem ok_make {f fM CF CM fI : Addr} {fd fdM fdI : FuncData} (F : Fun K "make" "Front.make" s_Fmake f fd) (T : FrT K mg C) (M_made : Meth K C "made" fM) (G_made : FnOk P w K mg base CX0 5 fM fdM P_Fmade (spMade C)) (b_made : Binds K fdM P_Fmade []) (B : Bn mg)
    (Te : ErT K mg CF CM fI fdI "BadMove" N_bminit) (n1 : PySem.W.findIn K (.ref CM) "move" = some none) (GI : FnOk P w K mg base CX0 2 fI fdI N_bminit (spBmInit K)) : FnOk P w K mg base (L2.CX P w) 6 f fd P_Fmake (spMake C CM) := by
  refine F.okX sc_Fmake (fun vs H Q E h => ?_) (fun cdv A outer s H vs Q E hr h => ?_)
  · obtain ⟨a, s, q, t, e, S, ps, xs, r, rfl, _⟩ := h
    rfl
  · obtain ⟨a, s, q, t, e, S, ps, xs, r, rfl, fa, ht, mv, q1, q2⟩ := h
    refine ⟨_, (pss_one (ps_if (PW.pt (pw_or (pt_val (pe_callB (cr_any rfl) (by rfl) B.any (by decide +kernel) (pa_cons (pe_lc (own := [("number", 2)]) (g := gName 2) (by rfl) sc_Fmake.nd (pi_tup (pv 1)) (blkOk_by (own := [("number", 2)]) (N := N_Fmake) (sc := defScope s_Fmake) (by decide +kernel)) (fun _ _ _ _ _ => (pg_name (i := 2) sc_Fmake.nd rfl (.inl rfl))) (fun _ _ _ _ _ => pts_nil) (fun _ _ _ _ _ => (pe_callB (show CallR _ _ (rIsi K) from call_isi) (by rfl) B.isinstance (by decide +kernel) (pa_cons (pv 2) (pa_cons (pe_bltn (v := .ty "bool") (by rfl) B.bool (by decide +kernel) rfl) pa_nil))))) pa_nil))) (pw_or1 (pt_not (pt_val (pe_meth (pv 0) T.cl M_made G_made (hr.mono (by omega)) b_made .nil pass0 (pa_cons (pv 1) pa_nil))))))) (pss_one (ps_raise rfl (takes_of rfl rfl rfl rfl) (pmk_oex Te.e.o Te.iC Te.tI GI (hr.mono (by omega)) Te.bI .nil pass0 (by rfl) Te.gC (pa_cons (pv 1) pa_nil)))) pss_nil)), ?_⟩
    obtain ⟨m1, m2⟩ := mv.mv
    refine ⟨.ref t, rfl, t, rfl, ⟨_, SqT.of ht⟩, fun L nL => lc_tup (K := K) (a := t) (xs := xs) (fun i H2 => Same H H2 ∧ H2 L = some (.lst ((List.replicate i false).map V.bl)) ∧ i ≤ xs.length)
      ⟨same_upd nL, upd_same, Nat.zero_le _⟩ (fun i H2 _ ⟨sm, _⟩ => SqT.of (sm _ _ ht)) ?_ ?_⟩
    · rintro i x H2 hx ⟨sm, e2, hi0⟩
      have hi : i < xs.length := (List.getElem?_eq_some_iff.mp hx).1
      obtain ⟨ty, h1, h2⟩ := mv.noB (K := K) (H := H2) x (List.mem_of_getElem? hx)
      refine ⟨rfl, ?_⟩
      refine ⟨x, rfl, _, _, _, _, false, rfl, ClsV.ty _, h1, h2, ?_⟩
      refine ⟨_, e2, sz_lt (by rw [List.length_map, List.length_replicate]; omega), fun b o' hb => ?_, ?_, by omega⟩
      · rw [upd_ne (ne_of_none hb nL)]
        exact sm _ _ hb
      · rw [upd_same, List.replicate_succ', List.map_append]
        rfl
    · rintro H2 ⟨sm, e2, _⟩
      have ef : ((List.replicate xs.length false).any id) = false := by
        rw [List.any_eq_false]
        intro b hb
        rw [List.eq_of_mem_replicate hb]
        exact Bool.false_ne_true
      refine ⟨L, _, rfl, SqL.of e2, _, rfl, ?_⟩
      rw [ef]
      refine iteF ?_
      have fa2 := fa.same sm
      obtain ⟨dx, ea⟩ := fa2.at_a
      refine ⟨.ref a, rfl, a, dx, _, rfl, ea, put_no, .ref t, rfl, a, s, q, t, e, S, ps, xs, r, rfl, fa2, sm _ _ ht, mv, fun hr0 H3 f3 o3 => ?_, fun S' hS H3 f3 o3 => ?_⟩
      · refine ⟨false, rfl, iteT ?_⟩
        have ht3 : H3 t = some (.tup xs) := by
          obtain ⟨z1, z2, z3⟩ := fa2.ne_tup (sm _ _ ht)
          exact o3 _ _ (sm _ _ ht) z1 z2 z3
        refine ⟨.ref t, rfl, by show 1 ≤ 1000; decide, fun x nx => ?_⟩
        refine ⟨x, CM, t, xs, rfl, same_upd nx _ _ ht3, m1, m2, Te.e, n1, upd_same, fun H' dy ndy ex ed kp => ⟨rfl, dy, bmF (.ref t), ex, ed, (same_upd nx).free ndy, ?_⟩⟩
        have k3 : Same H3 (upd (del H' x) dy (.xd (bmF (.ref t)))) := fun b o hb => by
          have nbx : b ≠ x := ne_of_none hb nx
          have nbd : b ≠ dy := ne_of_none hb ((same_upd nx).free ndy)
          rw [upd_ne nbd, del_ne nbx]
          exact kp b o nbx (by rw [upd_ne nbx]; exact hb)
        exact q2 hr0 _ dy (f3.same k3) (((Off.of_same sm).trans o3).trans (Off.of_same k3)) upd_same
      · exact ⟨true, rfl, iteF (q1 S' hS H3 f3 ((Off.of_same sm).trans o3))⟩
end
/-! ### left -/
abbrev s_Fleft : Stmt := inClass (top 46) 2
abbrev N_Fleft : List Str := ["self", "i"]
abbrev P_Fleft : List Str := ["self"]
theorem sc_Fleft : FnScope N_Fleft P_Fleft (defScope s_Fleft) := ⟨rfl, rfl, rfl, by decide +kernel, rfl, by decide +kernel, by decide +kernel⟩
/-- pairs of a number and a mating -/
def LsR (H : Hp) (u : Addr) (s : Int × M4) : Prop := ∃ t, H u = some (.tup [.int s.1, .ref t]) ∧ H t = some (t4 s.2)
def Ls (H : Hp) (us : List Addr) (S : StL) : Prop := Paired (LsR H) us S
theorem Ls.snoc {H : Hp} {u : Addr} {s : Int × M4} (hs : LsR H u s) : ∀ {us : List Addr} {S : StL}, Ls H us S → Ls H (us ++ [u]) (S ++ [s])
  | _, _, .nil => .cons hs .nil
  | _, _, .cons h r => .cons h (Ls.snoc hs r)
theorem Ls.keep {H H' : Hp} (k : KeepT H H') : ∀ {us : List Addr} {S : StL}, Ls H us S → Ls H' us S
  | _, _, .nil => .nil
  | _, _, .cons h r => .cons (h.elim fun t e => ⟨t, k _ _ e.1, k _ _ e.2⟩) (Ls.keep k r)
theorem Ls.length {H : Hp} : ∀ {us : List Addr} {S : StL}, Ls H us S → us.length = S.length
  | _, _, .nil => rfl
  | _, _, .cons h r => congrArg (· + 1) (Ls.length r)
def spLeft (C : Addr) : Sp := fun vs H Q _ => ∃ (a s q : Addr) (e : Int) (S : StL) (ps : List V), vs = [.ref a] ∧ FrAt C H a s q e S ps ∧ S.length < 60 ∧ ∀ (H' : Hp) (r : Addr) (us : List Addr), Same H H' → H r = none → H' r = some (.lst (us.map V.ref)) → Ls H' us S → Q (.ref r) H'
theorem sget_mem : ∀ {S : StL} {s : Int × M4}, (S.map (·.1)).Pairwise (· < ·) → s ∈ S → sget S s.1 = some s.2
  | x :: r, s, h, hm => by
    rcases List.mem_cons.mp hm with rfl | hm
    · exact if_pos rfl
    · have h' := List.pairwise_cons.mp h
      have lt : x.1 < s.1 := h'.1 s.1 (List.mem_map.mpr ⟨s, hm, rfl⟩)
      show (if x.1 = s.1 then some x.2 else sget r s.1) = some s.2
      rw [if_neg (by omega)]
      exact sget_mem h'.2 hm
section
variable {P : Program} {w : World} {K : PySem.W.Frag} {mg : Str → Option Value} {base : Heap} {C : Addr}
theorem ok_left {f : Addr} {fd : FuncData} (F : Fun K "left" "Front.left" s_Fleft f fd) (T : FrT K mg C) (B : Bn mg) : FnOk P w K mg base CX0 1 f fd P_Fleft (spLeft C) := by
  refine F.ok sc_Fleft (fun vs H Q E h => ?_) (fun cdv A outer s H vs Q E hr h => ?_)
  · obtain ⟨a, s, q, e, S, ps, rfl, _⟩ := h
    rfl
  · obtain ⟨a, s, q, e, S, ps, rfl, fa, hlen, qq⟩ := h
    have hu := hu_of hr
    refine ⟨_, (pss_one (ps_ret (pe_lc (own := [("i", 1)]) (g := gName 1) (by rfl) sc_Fleft.nd (pi_list (pe_callB (call_sortedDI rfl) (by rfl) B.sorted (by decide +kernel) (pa_cons (pe_fld (pv 0) rfl) pa_nil))) (blkOk_by (own := [("i", 1)]) (N := N_Fleft) (sc := defScope s_Fleft) (by decide +kernel)) (fun _ _ _ _ _ => (pg_name (i := 1) sc_Fleft.nd rfl (.inl rfl))) (fun _ _ _ _ _ => pts_nil) (fun _ _ _ _ _ => (pe_tup (pa_cons (pv 1) (pa_cons (pe_dget hu (pe_fldK (K := K) rfl (pv 0) rfl) (pv 1) (fun _ _ => rfl)) pa_nil))))))), ?_⟩
    obtain ⟨dx, ea⟩ := fa.at_a
    obtain ⟨kvs, es, st⟩ := fa.at_s
    refine ⟨.ref a, rfl, a, C, dx, _, _, rfl, ea, T.cl, T.nS, fr_standing e s q, s, kvs, S.map (·.1), rfl, .inl es, st.keys, by rw [List.length_map]; omega, fun ys p py so np => ?_⟩
    have ey := perm_sorted py so fa.up
    subst ey
    refine ⟨p, rfl, ⟨_, SqL.of upd_same⟩, fun L nL => lc_list (K := K) (a := p) (xs := (S.map (·.1)).map V.int) (fun i H2 => ∃ us, Same (upd H p (.lst ((S.map (·.1)).map V.int))) H2 ∧ H2 L = some (.lst (us.map V.ref)) ∧ Ls H2 us (S.take i))
      ⟨[], same_upd nL, upd_same, .nil⟩ (fun i H2 _ ⟨_, sm, _⟩ => SqL.of (sm _ _ upd_same)) ?_ ?_⟩
    · rintro i x H2 hx ⟨us, sm, e2, ls⟩
      rw [List.map_map, List.getElem?_map] at hx
      obtain ⟨z, hz, rfl⟩ := Option.map_eq_some_iff.mp hx
      have sm2 : Same H H2 := (same_upd np).trans sm
      have fa2 := fa.same sm2
      obtain ⟨o, g, _, g2⟩ := get_at (i := z.1) fa2
      obtain ⟨t, rfl, ht⟩ := g2 z.2 (sget_mem fa.up (List.mem_of_getElem? hz))
      have hl := ls.length
      have hi : i < S.length := (List.getElem?_eq_some_iff.mp hz).1
      rw [List.length_take] at hl
      refine ⟨rfl, .int z.1, rfl, .ref a, rfl, a, C, dx, _, _, rfl, sm2 _ _ ea, T.cl, T.nS, fr_standing e s q, .int z.1, rfl, s, .ref t, rfl, g, by show 2 ≤ sizeLine; decide, fun u nu => ?_⟩
      refine ⟨us.map V.ref, same_upd nu _ _ e2, sz_lt (by rw [List.length_map]; omega), us ++ [u], fun b o' hb => ?_, by rw [upd_same, List.map_append]; rfl, ?_⟩
      · rw [upd_ne (ne_of_none hb nL)]
        exact same_upd nu _ _ (sm _ _ hb)
      · have kt : ∀ {b : Addr} {xs : List V}, H2 b = some (.tup xs) → (upd (upd H2 u (.tup [.int z.1, .ref t])) L (.lst (us.map V.ref ++ [.ref u]))) b = some (.tup xs) := fun hb => by
          rw [upd_ne (ne_of hb e2 (fun z => by cases z))]
          exact same_upd nu _ _ hb
        rw [List.take_add_one, hz]
        refine Ls.snoc ⟨t, ?_, kt ht⟩ (ls.keep fun b xs hb => kt hb)
        rw [upd_ne (ne_of_none e2 nu).symm]
        exact upd_same
    · rintro H2 ⟨us, sm, e2, ls⟩
      rw [List.length_map, List.length_map, List.take_length] at ls
      exact qq H2 L us ((same_upd np).trans sm) ((same_upd np).free nL) e2 ls
end
/-! ### __init__ -/
abbrev s_Finit : Stmt := inClass (top 46) 0
abbrev N_Finit : List Str := ["self", "length", "matings", "i", "mating"]
abbrev P_Finit : List Str := ["self", "length", "matings"]
theorem sc_Finit : FnScope N_Finit P_Finit (defScope s_Finit) := ⟨rfl, rfl, rfl, by decide +kernel, rfl, by decide +kernel, by decide +kernel⟩
def en : Nat → List M4 → StL
  | _, [] => []
  | i, x :: r => (((i : Nat) : Int), nrm x) :: en (i + 1) r
theorem en_snoc (x : M4) : ∀ (k : Nat) (l : List M4), en k (l ++ [x]) = en k l ++ [(((k + l.length : Nat) : Int), nrm x)]
  | _, [] => rfl
  | k, y :: r => by
    show (((k : Nat) : Int), nrm y) :: en (k + 1) (r ++ [x]) = (((k : Nat) : Int), nrm y) :: (en (k + 1) r ++ [(((k + (r.length + 1) : Nat) : Int), nrm x)])
    rw [en_snoc x (k + 1) r, show k + 1 + r.length = k + (r.length + 1) by omega]
theorem en_length : ∀ (k : Nat) (l : List M4), (en k l).length = l.length
  | _, [] => rfl
  | k, y :: r => congrArg (· + 1) (en_length (k + 1) r)
theorem en_ge : ∀ (k : Nat) (l : List M4) (s : Int × M4), s ∈ en k l → (k : Int) ≤ s.1 ∧ s.1 < ((k + l.length : Nat) : Int)
  | k, y :: r, s, h => by
    rcases List.mem_cons.mp h with rfl | h
    · simp only [List.length_cons]
      omega
    · have := en_ge (k + 1) r s h
      simp only [List.length_cons]
      omega
theorem en_up : ∀ (k : Nat) (l : List M4), ((en k l).map (·.1)).Pairwise (· < ·)
  | _, [] => List.Pairwise.nil
  | k, y :: r => by
    refine List.pairwise_cons.mpr ⟨fun z hz => ?_, en_up (k + 1) r⟩
    obtain ⟨s, hs, rfl⟩ := List.mem_map.mp hz
    have := en_ge (k + 1) r s hs
    show (k : Int) < s.1
    omega
theorem en_none {k : Nat} {l : List M4} {i : Int} (h : i < (k : Int) ∨ ((k + l.length : Nat) : Int) ≤ i) : sget (en k l) i = none := by
  have key : ∀ {S : StL}, (∀ s ∈ S, s.1 ≠ i) → sget S i = none := by
    intro S
    induction S with
    | nil => exact fun _ => rfl
    | cons s r ih =>
      intro hh
      show (if s.1 = i then some s.2 else sget r i) = none
      rw [if_neg (hh s List.mem_cons_self)]
      exact ih fun z hz => hh z (List.mem_cons_of_mem _ hz)
  refine key fun s hs => ?_
  have := en_ge k l s hs
  omega
def spFinit (K : PySem.W.Frag) (C : Addr) : Sp := fun vs H Q _ => ∃ (x dx L : Addr) (n : Int) (ts : List Addr) (ms : List M4), vs = [.ref x, .int n, .ref L] ∧ H x = some (.ins C dx []) ∧ 0 ≤ n ∧ n ≤ 1000000000000000000 ∧ H L = some (.lst (ts.map V.ref)) ∧ Mts H ts ms ∧ (∀ y ∈ ms, Mok n y) ∧ ms.length ≤ 24 ∧
  ∀ (H' : Hp) (s q : Addr), FrAt C H' x s q n (en 0 ms) [] → H s = none → H q = none → (∀ b o, H b = some o → b ≠ x → H' b = some o) → Q .non H'
section
variable {P : Program} {w : World} {K : PySem.W.Frag} {mg : Str → Option Value} {base : Heap} {C : Addr}
theorem ok_Finit {f fA fV fR fN fM fI fO fB : Addr} {fd fdA fdV fdR fdN fdM fdI fdO fdB : FuncData} {tok1 tok2 : Tok} (F : Fun K "__init__" "Front.__init__" s_Finit f fd) (T : FrT K mg C) (D_need_road : DefAt K mg "need_road" s_need_road P_need_road fR fdR) (D_need_from : DefAt K mg "need_from" s_need_from P_need_from fA fdA) (D_need_within : DefAt K mg "need_within" s_need_within P_need_within fV fdV) (D_need_length : DefAt K mg "need_length" s_need_length P_need_length fN fdN) (D_need_mating : DefAt K mg "need_mating" s_need_mating P_need_mating fM fdM)
    (D_is_mating : DefAt K mg "is_mating" s_is_mating P_is_mating fI fdI) (D_normal : DefAt K mg "normal" s_normal P_normal fO fdO) (D_back : DefAt K mg "back" s_back P_back fB fdB) (g_FAR : mg "FAR" = some (.int 1000000000000000000 tok1)) (g_MOST : mg "MOST" = some (.int 24 tok2)) (zE : mg "enumerate" = none) (B : Bn mg) :
    FnOk P w K mg base CX0 5 f fd P_Finit (spFinit K C) := by
  have G_need_road : FnOk P w K mg base CX0 4 fR fdR P_need_road spNeedM := ok_needR D_need_road D_need_from D_need_within D_need_length D_need_mating D_is_mating g_FAR g_MOST B
  have G_normal : FnOk P w K mg base CX0 2 fO fdO P_normal spNormal := ok_normal D_normal D_back
  refine F.ok sc_Finit (fun vs H Q E h => ?_) (fun cdv A outer s H vs Q E hr h => ?_)
  · obtain ⟨x, dx, L, n, ts, ms, rfl, _⟩ := h
    rfl
  · obtain ⟨x, dx, L, n, ts, ms, rfl, hx, n0, n1, hL, hM, hok, hl, qq⟩ := h
    refine ⟨_, (pss_cons (ps_expr (pe_call G_need_road (hr.mono (by omega)) (by rfl) D_need_road.g D_need_road.F.kp D_need_road.b .nil pass0 (pa_cons (pv 1) (pa_cons (pv 2) pa_nil))))
      (pss_cons (ps_fld (pv 0) (pv 1) rfl)
      (pss_cons (ps_fld (pv 0) (pe_dc (own := [("i", 3), ("mating", 4)]) (g := gTup K 2 (gCons (gName 3) (gCons (gName 4) gNil))) (by rfl) sc_Finit.nd (pi_enum (by rfl) zE (pa_cons (pv 2) pa_nil)) (blkOk_by (own := [("i", 3), ("mating", 4)]) (N := N_Finit) (sc := defScope s_Finit) (by decide +kernel)) (fun _ _ _ _ _ => (pg_tup (by rfl) (pgs_cons (pg_name (i := 3) sc_Finit.nd rfl (.inl rfl)) (pgs_cons (pg_name (i := 4) sc_Finit.nd rfl (.inl rfl)) pgs_nil)))) (fun _ _ _ _ _ => pts_nil) (fun _ _ _ _ _ => (pv 3)) (fun _ _ _ _ _ => (pe_call G_normal (hr.mono (by omega)) (by rfl) D_normal.g D_normal.F.kp D_normal.b .nil pass0 (pa_cons (pv 4) pa_nil)))) rfl)
      (pss_one (ps_fld (pv 0) (pe_lst pa_nil) rfl))))), ?_⟩
    refine ⟨.int n, rfl, .ref L, rfl, n, L, ts, ms, rfl, n0, n1, hL, hM, hok, hl, fun H1 s1 => ?_⟩
    -- edge
    refine ⟨.int n, rfl, .ref x, rfl, x, C, dx, [], rfl, s1 _ _ hx, T.cl, T.nE, by show 0 < 1000; decide, ?_⟩
    have off2 : ∀ b o, H b = some o → b ≠ x → (upd H1 x (.ins C dx (putF "edge" (.int n) []))) b = some o := fun b o hb nb => by
      rw [upd_ne nb]
      exact s1 _ _ hb
    have free2 : ∀ b, (upd H1 x (.ins C dx (putF "edge" (.int n) []))) b = none → H b = none := fun b hb => by
      have nb : b ≠ x := fun z => by
        rw [z, upd_same] at hb
        cases hb
      rw [upd_ne nb] at hb
      exact s1.free hb
    have x2 : (upd H1 x (.ins C dx (putF "edge" (.int n) []))) x = some (.ins C dx (putF "edge" (.int n) [])) := upd_same
    generalize upd H1 x (.ins C dx (putF "edge" (.int n) [])) = H2 at off2 free2 x2
    have nLx : L ≠ x := ne_of hL hx (fun z => by cases z)
    have L2 := off2 _ _ hL nLx
    -- standing
    refine ⟨.ref L, rfl, L, ts.map V.ref, rfl, SqL.of L2, fun D nD => dc_enum (K := K) (a := L) (us := ts.map V.ref) (fun i H3 => ∃ kvs, Same H2 H3 ∧ H3 D = some (.dK kvs) ∧ Std H3 kvs (en 0 (ms.take i)))
      ⟨[], same_upd nD, upd_same, .nil⟩ (fun i H3 _ ⟨_, sm, _⟩ => SqL.of (sm _ _ L2)) ?_ ?_⟩
    · rintro i v H3 Tn hv ⟨kvs, sm, eD, st⟩ nT
      rw [List.getElem?_map] at hv
      obtain ⟨t, ht, rfl⟩ := Option.map_eq_some_iff.mp hv
      obtain ⟨m, hm, em⟩ := hM.at i t ht
      have ntx : t ≠ x := ne_of em hx (fun z => by cases z)
      have sT := same_upd (H := H3) (o := .tup [.int (i : Nat), .ref t]) nT
      have e3 : H3 t = some (t4 m) := sm _ _ (off2 _ _ em ntx)
      have hi : i < ms.length := (List.getElem?_eq_some_iff.mp hm).1
      have sl := st.length
      rw [en_length, List.length_take] at sl
      refine ⟨Tn, _, rfl, SqT.of upd_same, rfl, .int (i : Nat), _, rfl, .ref t, _, rfl, rfl, rfl, .int (i : Nat), rfl, ?_⟩
      refine ⟨.ref t, rfl, t, m.1, m.2.1, m.2.2.1, m.2.2.2, rfl, sT _ _ e3, fun r H4 s4 e4 => ?_⟩
      have sm4 : Same H3 H4 := sT.trans s4
      refine ⟨kvs, Sum.inl ((i : Nat) : Int), rfl, sm4 _ _ eD, sz_lt (by omega), putK kvs (Sum.inl ((i : Nat) : Int)) (.ref r), fun b o hb => ?_, upd_same, ?_⟩
      · rw [upd_ne (ne_of_none hb nD)]
        exact sm4 _ _ (sm _ _ hb)
      · have hno : valV kvs (Sum.inl ((i : Nat) : Int)) = none := (st.get _).1 (en_none (.inr (by rw [List.length_take]; omega)))
        rw [putK_new _ hno, List.take_add_one, hm, show (some m).toList = [m] from rfl, en_snoc]
        have kt : KeepT H4 (upd H4 D (.dK (kvs ++ [(Sum.inl ((i : Nat) : Int), .ref r)]))) := fun b xs hb => by
          rw [upd_ne (ne_of hb (sm4 _ _ eD) (fun z => by cases z))]
          exact hb
        refine Std.snoc (s := (((0 + (ms.take i).length : Nat) : Int), nrm m)) ⟨?_, r, rfl, kt _ _ e4⟩ (st.keep fun b xs hb => kt _ _ (sm4 _ _ hb))
        show Sum.inl ((i : Nat) : Int) = Sum.inl (((0 + (ms.take i).length : Nat) : Int))
        rw [List.length_take, Nat.min_eq_left (by omega), Nat.zero_add]
    · rintro H3 ⟨kvs, sm, eD, st⟩
      have e1 := hM.length
      rw [List.length_map, e1, List.take_length] at st
      refine ⟨.ref x, rfl, x, C, dx, _, rfl, sm _ _ x2, T.cl, T.nS, by show 1 < 1000; decide, ?_⟩
      have nDx : D ≠ x := (ne_of_none x2 nD).symm
      -- past
      refine ⟨Nat.zero_le _, fun q nq => ?_⟩
      have nqx : q ≠ x := fun z => by
        rw [z, upd_same] at nq
        cases nq
      have nqD : q ≠ D := fun z => by
        rw [z, upd_ne nDx, eD] at nq
        cases nq
      have nq3 : H3 q = none := by
        rw [upd_ne nqx] at nq
        exact nq
      refine ⟨.ref x, rfl, x, C, dx, _, rfl, by rw [upd_ne nqx.symm]; exact upd_same, T.cl, T.nP, ?_, ?_⟩
      · show 2 < 1000
        decide
      rw [show putF ("past" : Str) (V.ref q) (putF ("standing" : Str) (V.ref D) (putF ("edge" : Str) (V.int n) [])) = fr n D q from fr_make n D q]
      refine qq _ D q ⟨⟨dx, upd_same⟩, ⟨kvs, ?_, st.keep fun b xs hb => ?_⟩, ?_, en_up 0 ms, by rw [en_length]; omega⟩ (free2 _ nD) (free2 _ (sm.free nq3)) fun b o hb nb => ?_
      · rw [upd_ne nDx, upd_ne nqD.symm, upd_ne nDx]
        exact eD
      · have nbx : b ≠ x := ne_of hb (sm _ _ x2) (fun z => by cases z)
        rw [upd_ne nbx, upd_ne (ne_of_none hb nq3), upd_ne nbx]
        exact hb
      · rw [upd_ne nqx]
        exact upd_same
      · have hb3 := sm _ _ (off2 _ _ hb nb)
        rw [upd_ne nb, upd_ne (ne_of_none hb3 nq3), upd_ne nb]
        exact hb3
end

/-! ### _law_join_two -/
abbrev s_join_two : Stmt := top 53
abbrev N_join_two : List Str := ["_law_first", "_law_second", "_law_row", "_law_low", "_law_high", "_law_steps", "_law_part_of", "_law_rest"]
abbrev P_join_two : List Str := ["_law_first", "_law_second"]
theorem sc_join_two : FnScope N_join_two P_join_two (defScope s_join_two) := ⟨rfl, rfl, rfl, by decide +kernel, rfl, by decide +kernel, by decide +kernel⟩
def Reps (x : M4) : Prop := x.2.2.2 = 0 ∧ 1 ≤ x.2.1 - x.1 ∧ x.2.1 - x.1 ≤ x.2.2.1
theorem Reps.is {x : M4} (h : Reps x) : isRep x.1 x.2.1 x.2.2.1 x.2.2.2 = true := decide_eq_true h
/-- a mating or none -/
def OptAt (H : Hp) (v : V) (z : Option M4) : Prop := (z = none → v = .non) ∧ ∀ y, z = some y → ∃ t, v = .ref t ∧ H t = some (t4 y)
theorem OptAt.same {H H' : Hp} {v : V} {z : Option M4} (h : OptAt H v z) (k : Same H H') : OptAt H' v z := ⟨h.1, fun y e => (h.2 y e).elim fun t q => ⟨t, q.1, k _ _ q.2⟩⟩
def spJoin : Sp := fun vs H Q _ => ∃ (t t' : Addr) (x y : M4), vs = [.ref t, .ref t'] ∧ H t = some (t4 x) ∧ H t' = some (t4 y) ∧ Reps x ∧ Reps y ∧ ∀ v H', Same H H' → OptAt H' v (mrg x y) → Q v H'
section
variable {P : Program} {w : World} {K : PySem.W.Frag} {mg : Str → Option Value} {base : Heap}
theorem ok_join_two {f : Addr} {fd : FuncData} (D : DefAt K mg "_law_join_two" s_join_two P_join_two f fd) (B : Bn mg) : FnOk P w K mg base CX0 1 f fd P_join_two spJoin := by
  refine D.F.ok sc_join_two (fun vs H Q E h => ?_) (fun cdv A outer s H vs Q E hr h => ?_)
  · obtain ⟨t, t', x, y, rfl, _⟩ := h
    rfl
  · obtain ⟨t, t', x, y, rfl, ht, ht', rx, ry, q⟩ := h
    refine ⟨_, (pss_cons (ps_for PassesOwn.never rfl (pi_tup (pe_tup (pa_cons (pv 0) (pa_cons (pv 1) pa_nil)))) (pg_name (i := 2) sc_join_two.nd rfl (.inl rfl)) (pss_one (ps_if (PW.pt (pw_or (pt_cmpR op_eq (pe_ix ix_tup (pv 2) pe_int (fun _ _ => rfl)) pe_int (nomark _)) (pw_or1 (pt_not (pt_chain op_le op_le pe_int (pe_op op_sub (pe_ix ix_tup (pv 2) pe_int (fun _ _ => rfl)) (pe_ix ix_tup (pv 2) pe_int (fun _ _ => rfl))) (pe_ix ix_tup (pv 2) pe_int (fun _ _ => rfl))))))) (pss_one (ps_ret pe_non)) pss_nil)))
      (pss_cons (ps_par (i := 3) (j := 4) (by rfl) sc_join_two.nd rfl rfl (by decide) rfl rfl (pa_cons (pe_callB (call_max2 rfl) (by rfl) B.max (by decide +kernel) (pa_cons (pe_ix ix_tup (pv 0) pe_int (fun _ _ => rfl)) (pa_cons (pe_ix ix_tup (pv 1) pe_int (fun _ _ => rfl)) pa_nil))) (pa_cons (pe_callB (call_min2 rfl) (by rfl) B.min (by decide +kernel) (pa_cons (pe_op op_add (pe_ix ix_tup (pv 0) pe_int (fun _ _ => rfl)) (pe_ix ix_tup (pv 0) pe_int (fun _ _ => rfl))) (pa_cons (pe_op op_add (pe_ix ix_tup (pv 1) pe_int (fun _ _ => rfl)) (pe_ix ix_tup (pv 1) pe_int (fun _ _ => rfl))) pa_nil))) pa_nil)) (by rfl))
      (pss_cons (ps_set (i := 5) sc_join_two.nd rfl (.inl rfl) (pe_tup (pa_cons (pe_op op_sub (pe_ix ix_tup (pv 0) pe_int (fun _ _ => rfl)) (pe_ix ix_tup (pv 0) pe_int (fun _ _ => rfl))) (pa_cons (pe_op op_sub (pe_ix ix_tup (pv 1) pe_int (fun _ _ => rfl)) (pe_ix ix_tup (pv 1) pe_int (fun _ _ => rfl))) pa_nil))))
      (pss_cons (ps_if (pt_cmpR op_lt (pe_op op_sub (pv 4) (pv 3)) (pe_op op_add (pe_ix ix_tup (pv 5) pe_int (fun _ _ => rfl)) (pe_ix ix_tup (pv 5) pe_int (fun _ _ => rfl))) (nomark _)) (pss_one (ps_ret pe_non)) pss_nil)
      (pss_cons (ps_asg (pv 5) (pg_tup (by rfl) (pgs_cons (pg_name (i := 6) sc_join_two.nd rfl (.inl rfl)) (pgs_cons (pg_name (i := 7) sc_join_two.nd rfl (.inl rfl)) pgs_nil))))
      (pss_cons (ps_while PassesOwn.never (pt_cmpR op_gt (pv 7) pe_int (nomark _)) (pss_one (ps_par (i := 6) (j := 7) (by rfl) sc_join_two.nd rfl rfl (by decide) rfl rfl (pa_cons (pv 7) (pa_cons (pe_op op_mod (pv 6) (pv 7)) pa_nil)) (by rfl))))
      (pss_cons (ps_par (i := 3) (j := 4) (by rfl) sc_join_two.nd rfl rfl (by decide) rfl rfl (pa_cons (pe_callB (call_min2 rfl) (by rfl) B.min (by decide +kernel) (pa_cons (pe_ix ix_tup (pv 0) pe_int (fun _ _ => rfl)) (pa_cons (pe_ix ix_tup (pv 1) pe_int (fun _ _ => rfl)) pa_nil))) (pa_cons (pe_callB (call_max2 rfl) (by rfl) B.max (by decide +kernel) (pa_cons (pe_op op_add (pe_ix ix_tup (pv 0) pe_int (fun _ _ => rfl)) (pe_ix ix_tup (pv 0) pe_int (fun _ _ => rfl))) (pa_cons (pe_op op_add (pe_ix ix_tup (pv 1) pe_int (fun _ _ => rfl)) (pe_ix ix_tup (pv 1) pe_int (fun _ _ => rfl))) pa_nil))) pa_nil)) (by rfl))
      (pss_one (ps_ret (pe_tup (pa_cons (pv 3) (pa_cons (pe_op op_add (pv 3) (pv 6)) (pa_cons (pe_op op_sub (pe_op op_sub (pv 4) (pv 3)) (pv 6)) (pa_cons pe_int pa_nil)))))))))))))), ?_⟩
    refine ⟨.ref t, rfl, .ref t', rfl, by show 2 ≤ sizeLine; decide, fun tp ntp => ?_⟩
    have s0 := same_upd (H := H) (o := .tup [.ref t, .ref t']) ntp
    refine ⟨tp, rfl, ⟨_, SqT.of upd_same⟩, for_tup (K := K) (a := tp) (xs := [.ref t, .ref t']) (fun i σ H2 => ∃ v, σ = [some (.ref t), some (.ref t'), v, none, none, none, none, none] ∧ H2 = upd H tp (.tup [.ref t, .ref t'])) ⟨_, rfl, rfl⟩ (fun i σ H2 _ ⟨_, _, e⟩ => by rw [e]; exact SqT.of upd_same) ?_ ?_⟩
    · rintro i v σ H2 hv ⟨w0, rfl, rfl⟩
      obtain ⟨u, z, rfl, hu, rz⟩ : ∃ (u : Addr) (z : M4), v = .ref u ∧ (upd H tp (.tup [.ref t, .ref t'])) u = some (t4 z) ∧ Reps z := by
        rcases List.mem_cons.mp (List.mem_of_getElem? hv) with rfl | hm
        · exact ⟨t, x, rfl, s0 _ _ ht, rx⟩
        rcases List.mem_cons.mp hm with rfl | hm
        · exact ⟨t', y, rfl, s0 _ _ ht', ry⟩
        · cases hm
      refine ⟨.ref u, rfl, u, _, 3, .int z.2.2.2, rfl, rfl, SqT.of hu, at4_3, rfl, _, rfl, ?_⟩
      rw [rz.1]
      refine iteF ?_
      refine ⟨.ref u, rfl, u, _, 1, .int z.2.1, rfl, rfl, SqT.of hu, at4_1, .ref u, rfl, u, _, 0, .int z.1, rfl, rfl, SqT.of hu, at4_0, z.2.1, z.1, rfl, rfl, 1, _, rfl, rfl, _, rfl, ?_⟩
      rw [decide_eq_true rz.2.1]
      refine iteT ?_
      refine ⟨.ref u, rfl, u, _, 2, .int z.2.2.1, rfl, rfl, SqT.of hu, at4_2, _, _, rfl, rfl, _, rfl, ?_⟩
      rw [decide_eq_true rz.2.2]
      exact iteF ⟨_, rfl, rfl⟩
    · rintro σ H2 ⟨w0, rfl, rfl⟩
      generalize upd H tp (.tup [.ref t, .ref t']) = H2 at s0
      have t2 := s0 _ _ ht
      have t2' := s0 _ _ ht'
      -- low, high
      refine ⟨.ref t, rfl, t, _, 0, .int x.1, rfl, rfl, SqT.of t2, at4_0, .ref t', rfl, t', _, 0, .int y.1, rfl, rfl, SqT.of t2', at4_0, _, _, rfl, ?_⟩
      refine ⟨.ref t, rfl, t, _, 1, .int x.2.1, rfl, rfl, SqT.of t2, at4_1, .ref t, rfl, t, _, 2, .int x.2.2.1, rfl, rfl, SqT.of t2, at4_2, _, _, rfl, rfl, .ref t', rfl, t', _, 1, .int y.2.1, rfl, rfl, SqT.of t2', at4_1, .ref t', rfl, t', _, 2, .int y.2.2.1, rfl, rfl, SqT.of t2', at4_2, _, _, rfl, rfl, _, _, rfl, _, _, rfl, ?_⟩
      -- steps
      refine ⟨.ref t, rfl, t, _, 1, .int x.2.1, rfl, rfl, SqT.of t2, at4_1, .ref t, rfl, t, _, 0, .int x.1, rfl, rfl, SqT.of t2, at4_0, _, _, rfl, rfl, .ref t', rfl, t', _, 1, .int y.2.1, rfl, rfl, SqT.of t2', at4_1, .ref t', rfl, t', _, 0, .int y.1, rfl, rfl, SqT.of t2', at4_0, _, _, rfl, rfl, by show 2 ≤ sizeLine; decide, fun ts nts => ?_⟩
      have s3 := same_upd (H := H2) (o := .tup [.int (x.2.1 - x.1), .int (y.2.1 - y.1)]) nts
      have e3 : (upd H2 ts (.tup [.int (x.2.1 - x.1), .int (y.2.1 - y.1)])) ts = some (.tup [.int (x.2.1 - x.1), .int (y.2.1 - y.1)]) := upd_same
      refine ⟨.int (imin (x.2.1 + x.2.2.1) (y.2.1 + y.2.2.1)), rfl, .int (imax x.1 y.1), rfl, _, _, rfl, rfl, .ref ts, rfl, ts, _, 0, .int (x.2.1 - x.1), rfl, rfl, SqT.of upd_same, atI_nat (j := 0) rfl, .ref ts, rfl, ts, _, 1, .int (y.2.1 - y.1), rfl, rfl, SqT.of upd_same, atI_nat (j := 1) rfl, _, _, rfl, rfl, _, _, rfl, rfl, _, rfl, ?_⟩
      refine ite2 (fun h => ?_) (fun h => ?_)
      · have h' : shr x.1 x.2.1 x.2.2.1 y.1 y.2.1 y.2.2.1 < x.2.1 - x.1 + (y.2.1 - y.1) := of_decide_eq_true h
        refine q _ _ (s0.trans s3) ?_
        unfold mrg
        rw [if_neg (fun z => by omega)]
        exact ⟨fun _ => rfl, fun y e => nomatch e⟩
      · have h' : ¬ shr x.1 x.2.1 x.2.2.1 y.1 y.2.1 y.2.2.1 < x.2.1 - x.1 + (y.2.1 - y.1) := fun z => h (decide_eq_true z)
        generalize upd H2 ts (.tup [.int (x.2.1 - x.1), .int (y.2.1 - y.1)]) = H3 at s3 e3
        have t3 := s3 _ _ t2
        have t3' := s3 _ _ t2'
        refine ⟨.ref ts, rfl, ts, _, rfl, SqT.of e3, rfl, .int (x.2.1 - x.1), _, rfl, .int (y.2.1 - y.1), _, rfl, rfl, ?_⟩
        obtain ⟨A0, hA⟩ : ∃ A0 : Nat, x.2.1 - x.1 = (A0 : Int) := ⟨(x.2.1 - x.1).toNat, by have := rx.2.1; omega⟩
        obtain ⟨B0, hB⟩ : ∃ B0 : Nat, y.2.1 - y.1 = (B0 : Int) := ⟨(y.2.1 - y.1).toNat, by have := ry.2.1; omega⟩
        have hmr : mrg x y = some (imin x.1 y.1, imin x.1 y.1 + (Nat.gcd A0 B0 : Nat), imax (x.2.1 + x.2.2.1) (y.2.1 + y.2.2.1) - imin x.1 y.1 - (Nat.gcd A0 B0 : Nat), 0) := by
          unfold mrg
          rw [if_pos ⟨rx.is, ry.is, by omega⟩, hA, hB, Int.toNat_natCast, Int.toNat_natCast]
        refine ⟨fun m σ H' => ∃ c : Nat, σ = [some (.ref t), some (.ref t'), w0, some (.int (imax x.1 y.1)), some (.int (imin (x.2.1 + x.2.2.1) (y.2.1 + y.2.2.1))), some (.ref ts), some (.int c), some (.int (m : Int))] ∧ H' = H3 ∧ Nat.gcd c m = Nat.gcd A0 B0, ⟨B0, A0, ?_, rfl, rfl⟩, ?_⟩
        · rw [hA, hB]
          rfl
        rintro m σ H' ⟨c, rfl, rfl, hg⟩
        refine ⟨_, rfl, _, _, rfl, rfl, _, rfl, ?_⟩
        by_cases hm : m = 0
        · subst hm
          refine ite2 (fun h0 => absurd (of_decide_eq_true h0) (by omega)) (fun _ => ?_)
          rw [Nat.gcd_zero_right] at hg
          subst hg
          refine ⟨.ref t, rfl, t, _, 0, .int x.1, rfl, rfl, SqT.of t3, at4_0, .ref t', rfl, t', _, 0, .int y.1, rfl, rfl, SqT.of t3', at4_0, _, _, rfl, ?_⟩
          refine ⟨.ref t, rfl, t, _, 1, .int x.2.1, rfl, rfl, SqT.of t3, at4_1, .ref t, rfl, t, _, 2, .int x.2.2.1, rfl, rfl, SqT.of t3, at4_2, _, _, rfl, rfl, .ref t', rfl, t', _, 1, .int y.2.1, rfl, rfl, SqT.of t3', at4_1, .ref t', rfl, t', _, 2, .int y.2.2.1, rfl, rfl, SqT.of t3', at4_2, _, _, rfl, rfl, _, _, rfl, _, _, rfl, ?_⟩
          refine ⟨.int (imin x.1 y.1), rfl, .int (imin x.1 y.1), rfl, .int _, rfl, _, _, rfl, rfl, .int (imax (x.2.1 + x.2.2.1) (y.2.1 + y.2.2.1)), rfl, .int (imin x.1 y.1), rfl, _, _, rfl, rfl, .int _, rfl, _, _, rfl, rfl, by show 4 ≤ sizeLine; decide, fun r nr => ?_⟩
          refine q _ _ ((s0.trans s3).trans (same_upd nr)) ?_
          rw [hmr]
          refine ⟨fun e => (by cases e), fun y' e => ?_⟩
          cases e
          exact ⟨r, rfl, upd_same⟩
        · rw [decide_eq_true (show (m : Int) > 0 by omega)]
          refine ⟨fun σ' H'' => ∃ c' : Nat, σ' = [some (.ref t), some (.ref t'), w0, some (.int (imax x.1 y.1)), some (.int (imin (x.2.1 + x.2.2.1) (y.2.1 + y.2.2.1))), some (.ref ts), some (.int c'), some (.int ((c % m : Nat) : Int))] ∧ H'' = H' ∧ Nat.gcd c' (c % m) = Nat.gcd A0 B0, fun σ' H'' h => ⟨c % m, Nat.mod_lt _ (by omega), h⟩, ?_⟩
          refine ⟨_, rfl, _, rfl, _, rfl, _, _, rfl, rfl, (by omega), _, _, rfl, ?_⟩
          exact ⟨m, rfl, rfl, (gcd_turn c m).trans hg⟩
end
/-! ### the same, made as much greater -/
def scM (b k : Int) (x : M4) : M4 := (b + x.1 * k, b + x.2.1 * k, x.2.2.1 * k, 0)
theorem imin_sc (b k u v : Int) (hk : 0 < k) : imin (b + u * k) (b + v * k) = b + imin u v * k := by
  unfold imin
  by_cases h : v < u
  · rw [if_pos h, if_pos (by have := Int.mul_lt_mul_of_pos_right h hk; omega)]
  · rw [if_neg h, if_neg (by have := Int.mul_le_mul_of_nonneg_right (show u ≤ v by omega) (Int.le_of_lt hk); omega)]
theorem imax_sc (b k u v : Int) (hk : 0 < k) : imax (b + u * k) (b + v * k) = b + imax u v * k := by
  unfold imax
  by_cases h : v > u
  · rw [if_pos h, if_pos (by have := Int.mul_lt_mul_of_pos_right h hk; omega)]
  · rw [if_neg h, if_neg (by have := Int.mul_le_mul_of_nonneg_right (show v ≤ u by omega) (Int.le_of_lt hk); omega)]
theorem le_sc {k u v : Int} (hk : 0 < k) : u * k ≤ v * k ↔ u ≤ v := ⟨fun h => Int.le_of_mul_le_mul_right h hk, fun h => Int.mul_le_mul_of_nonneg_right h (Int.le_of_lt hk)⟩
theorem Reps.sc {x : M4} {b k : Int} (h : Reps x) (hk : 0 < k) : Reps (scM b k x) := by
  refine ⟨rfl, ?_, ?_⟩
  · show 1 ≤ b + x.2.1 * k - (b + x.1 * k)
    have e : b + x.2.1 * k - (b + x.1 * k) = (x.2.1 - x.1) * k := by rw [Int.sub_mul]; omega
    have : 1 * 1 ≤ (x.2.1 - x.1) * k := Int.mul_le_mul h.2.1 (by omega) (by decide) (by have := h.2.1; omega)
    omega
  · show b + x.2.1 * k - (b + x.1 * k) ≤ x.2.2.1 * k
    have e : b + x.2.1 * k - (b + x.1 * k) = (x.2.1 - x.1) * k := by rw [Int.sub_mul]; omega
    rw [e]
    exact (le_sc hk).mpr h.2.2
theorem gcd_sc {u v k : Int} (hk : 0 < k) (hu : 0 ≤ u) (hv : 0 ≤ v) : ((Nat.gcd (u * k).toNat (v * k).toNat : Nat) : Int) = (Nat.gcd u.toNat v.toNat : Nat) * k := by
  obtain ⟨a, rfl⟩ : ∃ a : Nat, u = a := ⟨u.toNat, by omega⟩
  obtain ⟨c, rfl⟩ : ∃ c : Nat, v = c := ⟨v.toNat, by omega⟩
  obtain ⟨d, rfl⟩ : ∃ d : Nat, k = d := ⟨k.toNat, by omega⟩
  rw [← Int.natCast_mul, ← Int.natCast_mul, Int.toNat_natCast, Int.toNat_natCast, Int.toNat_natCast, Int.toNat_natCast, Nat.gcd_mul_right, Int.natCast_mul]
theorem mrg_sc {x y : M4} {b k : Int} (hx : Reps x) (hy : Reps y) (hk : 0 < k) : mrg (scM b k x) (scM b k y) = (mrg x y).map (scM b k) := by
  have sx := hx.sc (b := b) hk
  have sy := hy.sc (b := b) hk
  have e1 : (scM b k x).2.1 - (scM b k x).1 = (x.2.1 - x.1) * k := by
    show b + x.2.1 * k - (b + x.1 * k) = _
    rw [Int.sub_mul]
    omega
  have e2 : (scM b k y).2.1 - (scM b k y).1 = (y.2.1 - y.1) * k := by
    show b + y.2.1 * k - (b + y.1 * k) = _
    rw [Int.sub_mul]
    omega
  have f1 : (scM b k x).2.1 + (scM b k x).2.2.1 = b + (x.2.1 + x.2.2.1) * k := by
    show b + x.2.1 * k + x.2.2.1 * k = _
    rw [Int.add_mul]
    omega
  have f2 : (scM b k y).2.1 + (scM b k y).2.2.1 = b + (y.2.1 + y.2.2.1) * k := by
    show b + y.2.1 * k + y.2.2.1 * k = _
    rw [Int.add_mul]
    omega
  have hs : shr (scM b k x).1 (scM b k x).2.1 (scM b k x).2.2.1 (scM b k y).1 (scM b k y).2.1 (scM b k y).2.2.1 = shr x.1 x.2.1 x.2.2.1 y.1 y.2.1 y.2.2.1 * k := by
    unfold shr
    rw [f1, f2, imin_sc b k _ _ hk, show imax (scM b k x).1 (scM b k y).1 = b + imax x.1 y.1 * k from imax_sc b k _ _ hk, Int.sub_mul]
    omega
  have hcond : (x.2.1 - x.1) * k + (y.2.1 - y.1) * k ≤ shr x.1 x.2.1 x.2.2.1 y.1 y.2.1 y.2.2.1 * k ↔ x.2.1 - x.1 + (y.2.1 - y.1) ≤ shr x.1 x.2.1 x.2.2.1 y.1 y.2.1 y.2.2.1 := by
    rw [← Int.add_mul]
    exact le_sc hk
  unfold mrg
  rw [e1, e2, hs]
  by_cases c : x.2.1 - x.1 + (y.2.1 - y.1) ≤ shr x.1 x.2.1 x.2.2.1 y.1 y.2.1 y.2.2.1
  · rw [if_pos ⟨sx.is, sy.is, hcond.mpr c⟩, if_pos ⟨hx.is, hy.is, c⟩, gcd_sc hk (by have := hx.2.1; omega) (by have := hy.2.1; omega), f1, f2, imax_sc b k _ _ hk, show imin (scM b k x).1 (scM b k y).1 = b + imin x.1 y.1 * k from imin_sc b k _ _ hk]
    show some _ = some (scM b k _)
    refine congrArg some ?_
    unfold scM
    refine Prod.ext rfl (Prod.ext ?_ (Prod.ext ?_ rfl))
    · show b + imin x.1 y.1 * k + _ * k = b + (imin x.1 y.1 + _) * k
      rw [Int.add_mul]
      omega
    · show b + imax (x.2.1 + x.2.2.1) (y.2.1 + y.2.2.1) * k - (b + imin x.1 y.1 * k) - _ * k = (imax (x.2.1 + x.2.2.1) (y.2.1 + y.2.2.1) - imin x.1 y.1 - _) * k
      rw [Int.sub_mul, Int.sub_mul]
      omega
  · rw [if_neg (fun z => c (hcond.mp z.2.2)), if_neg (fun z => c z.2.2)]
    rfl
theorem imin_comm (u v : Int) : imin u v = imin v u := by
  unfold imin
  split <;> split <;> omega
theorem imax_comm (u v : Int) : imax u v = imax v u := by
  unfold imax
  split <;> split <;> omega
theorem mrg_comm (x y : M4) : mrg x y = mrg y x := by
  have hs : shr x.1 x.2.1 x.2.2.1 y.1 y.2.1 y.2.2.1 = shr y.1 y.2.1 y.2.2.1 x.1 x.2.1 x.2.2.1 := by
    unfold shr
    rw [imin_comm, imax_comm]
  unfold mrg
  rw [hs, imin_comm x.1, imax_comm (x.2.1 + x.2.2.1), Nat.gcd_comm]
  by_cases c : isRep y.1 y.2.1 y.2.2.1 y.2.2.2 = true ∧ isRep x.1 x.2.1 x.2.2.1 x.2.2.2 = true ∧ y.2.1 - y.1 + (x.2.1 - x.1) ≤ shr y.1 y.2.1 y.2.2.1 x.1 x.2.1 x.2.2.1
  · rw [if_pos c, if_pos ⟨c.2.1, c.1, by omega⟩]
  · rw [if_neg c, if_neg (fun z => c ⟨z.2.1, z.1, by omega⟩)]
theorem mrg_up {x y z : M4} (h : mrg x y = some z) : z.1 ≤ z.2.1 := by
  unfold mrg at h
  split at h
  · cases h
    show imin x.1 y.1 ≤ imin x.1 y.1 + _
    omega
  · cases h
theorem nrm_id {x : M4} (h : x.1 ≤ x.2.1) : nrm x = x := by
  unfold nrm
  rw [if_neg (by omega), if_neg (by omega)]
/-! ### what the law sees -/
def m4d (x : M4) : PyData := .tuple [.int x.1, .int x.2.1, .int x.2.2.1, .int x.2.2.2]
def lsd (S : StL) : List PyData := S.map fun s => .tuple [.int s.1, m4d s.2]
theorem rpM {H : Hp} {t : Addr} {x : M4} (n : Nat) (h : H t = some (t4 x)) : Rp H (n + 1) (.ref t) (m4d x) :=
  .tup h (by show 4 ≤ 100000; decide) (.cons (.int _ _) (.cons (.int _ _) (.cons (.int _ _) (.cons (.int _ _) (.nil _)))))
theorem Ls.rp {H : Hp} (n : Nat) : ∀ {us : List Addr} {S : StL}, Ls H us S → RpAll H (n + 2) (us.map V.ref) (lsd S)
  | _, _, .nil => .nil _
  | _, _, .cons h r => .cons (h.elim fun t e => .tup e.1 (by show 2 ≤ 100000; decide) (.cons (.int _ _) (.cons (rpM n e.2) (.nil _)))) (Ls.rp n r)
def whyD (r : Option StL) (ds : List PyData) : PyData := match r with
  | none => .tuple [.str "BadMove", .tuple ds]
  | some _ => .tuple [.str "", .none]
theorem FrAt.extN {C : Addr} {H H' : Hp} {a s q : Addr} {e : Int} {S : StL} {ps : List V} (h : FrAt C H a s q e S ps) (k : LamX.ExtN H H') : FrAt C H' a s q e S ps := by
  obtain ⟨⟨dx, ea⟩, ⟨kvs, es, st⟩, eq, up, len⟩ := h
  exact ⟨⟨dx, k _ _ ea (fun _ z => by cases z)⟩, ⟨kvs, k _ _ es (fun _ z => by cases z), st.keep fun b xs hb => k _ _ hb (fun _ z => by cases z)⟩, k _ _ eq (fun _ z => by cases z), up, len⟩
theorem tabs_off {T : List (Addr × Str)} {C : Addr} {H H' : Hp} {a s q : Addr} {e : Int} {S : StL} {ps : List V} (t : LamX.Tabs T H) (h : FrAt C H a s q e S ps) (o : Off a s q H H') : LamX.Tabs T H' := fun p hp => by
  obtain ⟨⟨dx, ea⟩, ⟨kvs, es, st⟩, eq, up, len⟩ := h
  obtain ⟨qs, h1, h2, h3⟩ := t p hp
  refine ⟨qs, o _ _ h1 (ne_of h1 ea (fun z => by cases z)) (ne_of h1 es (fun z => by cases z)) (ne_of h1 eq (fun z => by cases z)), h2, fun pos cv hc => ?_⟩
  obtain ⟨c, e1, e2⟩ := h3 pos cv hc
  exact ⟨c, e1, o _ _ e2 (ne_of e2 ea (fun z => by unfold LamX.CodeO at z; cases z)) (ne_of e2 es (fun z => by unfold LamX.CodeO at z; cases z)) (ne_of e2 eq (fun z => by unfold LamX.CodeO at z; cases z))⟩
theorem draw_off {C : Addr} {H H' : Hp} {a s q d l : Addr} {e : Int} {S : StL} {ps : List V} (D : Draw H d l) (h : FrAt C H a s q e S ps) (o : Off a s q H H') (h1 : d ≠ q) (h2 : l ≠ q) : Draw H' d l := by
  obtain ⟨⟨dx, ea⟩, ⟨kvs, es, st⟩, eq, up, len⟩ := h
  obtain ⟨ns, i, z, sd, W⟩ := D
  exact ⟨ns, i, z, sd, { W with at_d := o _ _ W.at_d (ne_of W.at_d ea (fun z => by cases z)) (ne_of W.at_d es (fun z => by cases z)) h1, at_l := o _ _ W.at_l (ne_of W.at_l ea (fun z => by cases z)) (ne_of W.at_l es (fun z => by cases z)) h2 }⟩

/-! ### a list stored anew, beside the table and the drawing -/
theorem tabs_keepU {T : List (Addr × Str)} {H : Hp} {r : Addr} {xs : List V} {o : HO} (t : LamX.Tabs T H) (hr : H r = some (.lst xs)) : LamX.Tabs T (upd H r o) := fun p hp => by
  obtain ⟨ps, h1, h2, h3⟩ := t p hp
  refine ⟨ps, (by rw [upd_ne (ne_of h1 hr (fun e => by cases e))]; exact h1), h2, fun pos cv hc => ?_⟩
  obtain ⟨c, e1, e2⟩ := h3 pos cv hc
  exact ⟨c, e1, by rw [upd_ne (ne_of e2 hr (fun e => by unfold LamX.CodeO at e; cases e))]; exact e2⟩
theorem draw_upd {H : Hp} {d l r : Addr} {o : HO} (D : Draw H d l) (h1 : d ≠ r) (h2 : l ≠ r) : Draw (upd H r o) d l := by
  obtain ⟨ns, i, z, s, W⟩ := D
  exact ⟨ns, i, z, s, { W with at_d := by rw [upd_ne h1]; exact W.at_d, at_l := by rw [upd_ne h2]; exact W.at_l }⟩

/-! ### law -/
-- LAMHEAD: (T := lamT Pt) (TT := TWhyG CM "BadMove" FSbm Fbm) (k := 6) (by rfl) D_why.g D_why.F.kp lkW hcW D_why.b sc_why rfl (.inl rfl) (why_givesG (k := 3) (hr.mono (by omega)) Te D_fields (fun fs ⟨x, e⟩ => by rw [e]; exact bm_word x) Fbm.st (fun p dd hH => ok_fieldsBm D_fields B Te Ot g9 no9 n1 hH)) TB rfl List.mem_cons_self huT (hr.mono (by omega)) (show LamX.LamS (defScope s_law) _ from LamX.lamS_by (by decide +kernel)) rfl (fun _ _ _ _ _ => rfl)
abbrev s_law : Stmt := top 54
abbrev N_law : List Str := ["_law_script", "_law_draw", "_law_turn", "_law_by", "_law_times", "_law_rows", "_law_k", "_law_step", "_law_begin", "_law_both", "_law_far", "_law_why_here", "_law_due", "_law_many", "_law_off", "_law_half", "_law_front", "_law_i", "_law_row"]
abbrev P_law : List Str := ["_law_script"]
theorem sc_law : FnScope N_law P_law (defScope s_law) := ⟨rfl, rfl, rfl, by decide +kernel, rfl, by decide +kernel, by decide +kernel⟩
def Row (x : M4) : Prop := 0 ≤ x.1 ∧ x.1 < 20 ∧ 1 ≤ x.2.1 - x.1 ∧ x.2.1 - x.1 ≤ 9 ∧ x.2.1 - x.1 ≤ x.2.2.1 ∧ x.2.2.1 < 40 ∧ x.2.2.2 = 0
theorem Row.reps {x : M4} (h : Row x) : Reps x := ⟨h.2.2.2.2.2.2, h.2.2.1, h.2.2.2.2.1⟩
theorem mul_in {u k : Int} (h0 : 0 ≤ u) (h1 : u ≤ 100) (k0 : 0 ≤ k) (k1 : k ≤ 1000000000000000) : 0 ≤ u * k ∧ u * k ≤ 100000000000000000 :=
  ⟨Int.mul_nonneg h0 k0, Int.le_trans (Int.mul_le_mul h1 k1 k0 (by decide)) (by decide)⟩
theorem Row.mok {x : M4} {b k : Int} (h : Row x) (b0 : 0 ≤ b) (b1 : b ≤ 10000000000000000) (k0 : 0 < k) (k1 : k ≤ 1000000000000000) : Mok 1000000000000000000 (scM b k x) := by
  obtain ⟨h1, h2, h3, h4, h5, h6, h7⟩ := h
  have m1 := mul_in (u := x.1) h1 (by omega) (by omega) k1
  have m2 := mul_in (u := x.2.1) (by omega) (by omega) (by omega) k1
  have m3 := mul_in (u := x.2.2.1) (by omega) (by omega) (by omega) k1
  have m4 : 1 * 1 ≤ x.2.2.1 * k := Int.mul_le_mul (by omega) (by omega) (by decide) (by omega)
  refine ⟨.inl rfl, ?_, ?_, ?_, ?_, ?_⟩
  · show 1 ≤ x.2.2.1 * k
    omega
  · show 0 ≤ b + x.1 * k
    omega
  · show 0 ≤ b + x.2.1 * k
    omega
  · show b + x.1 * k + x.2.2.1 * k ≤ 1000000000000000000
    omega
  · show b + x.2.1 * k + x.2.2.1 * k ≤ 1000000000000000000
    omega
theorem Row.nrm {x : M4} {b k : Int} (h : Row x) (k0 : 0 < k) : nrm (scM b k x) = scM b k x := nrm_id (by
  have := (h.reps.sc (b := b) k0).2.1
  omega)
theorem merge_two {u0 u1 : M4} {i : Int} (hi : i = 0 ∨ i = 1) : mergeS [(0, u0), (1, u1)] i (1 - i) = (mrg u0 u1).map fun z => [(i, nrm z)] := by
  rcases hi with rfl | rfl
  · show (mrg u0 u1).map _ = _
    cases mrg u0 u1 <;> rfl
  · show (mrg u1 u0).map _ = _
    rw [mrg_comm]
    cases mrg u0 u1 <;> rfl
theorem halve_one {b o m : Int} (b0 : 0 ≤ b) (o0 : 0 ≤ o) (m1 : 1 ≤ m) : halveS [(0, (b, b + o, m, 1))] 0 = if m ≤ o then none else if (o + m) / 2 = 0 then some [] else some [(0, (b, b + o + m - (o + m) / 2, (o + m) / 2, 1))] := by
  have hh : hlf b (b + o) m = (o + m) / 2 := by
    unfold hlf
    rw [show b + o + m - b = o + m by omega]
  have hl : isLead b (b + o) m 1 = decide (m ≤ o) := by
    unfold isLead
    rw [if_pos rfl, show b + o - b = o by omega]
  show (if (1 : Int) = 0 ∨ isLead b (b + o) m 1 = true then none else if hlf b (b + o) m = 0 then some (sdrop [(0, (b, b + o, m, 1))] 0) else some (sput [(0, (b, b + o, m, 1))] 0 (nrm (b, b + o + m - hlf b (b + o) m, hlf b (b + o) m, 1)))) = _
  rw [hh, hl]
  by_cases c : m ≤ o
  · rw [if_pos (.inr (decide_eq_true c)), if_pos c]
  · rw [if_neg (fun z => z.elim (by decide) fun y => c (of_decide_eq_true y)), if_neg c]
    by_cases c2 : (o + m) / 2 = 0
    · rw [if_pos c2, if_pos c2]
      rfl
    · rw [if_neg c2, if_neg c2, nrm_id (by show b ≤ b + o + m - (o + m) / 2; omega)]
      rfl
theorem Mts.snoc {H : Hp} {t : Addr} {x : M4} (h : H t = some (t4 x)) : ∀ {ts : List Addr} {ms : List M4}, Mts H ts ms → Mts H (ts ++ [t]) (ms ++ [x])
  | _, _, .nil => .cons h .nil
  | _, _, .cons h1 r => .cons h1 (Mts.snoc h r)
theorem Mts.keep {H H' : Hp} (k : KeepT H H') : ∀ {ts : List Addr} {ms : List M4}, Mts H ts ms → Mts H' ts ms
  | _, _, .nil => .nil
  | _, _, .cons h r => .cons (k _ _ h) (Mts.keep k r)
theorem OptAt.keep {H H' : Hp} {v : V} {z : Option M4} (h : OptAt H v z) (k : KeepT H H') : OptAt H' v z := ⟨h.1, fun y e => (h.2 y e).elim fun t q => ⟨t, q.1, k _ _ q.2⟩⟩
theorem keepT_off {C : Addr} {H H' : Hp} {a s q : Addr} {e : Int} {S : StL} {ps : List V} (fa : FrAt C H a s q e S ps) (o : Off a s q H H') : KeepT H H' := fun b xs hb => by
  obtain ⟨z1, z2, z3⟩ := fa.ne_tup hb
  exact o _ _ hb z1 z2 z3
theorem rpW {H : Hp} {t : Addr} : H t = some (.tup [.str "", .non]) → Rp H 3 (.ref t) (.tuple [.str "", .none]) := fun h => .tup h (by show 2 ≤ 100000; decide) (.cons (.str _ _) (.cons (.non _) (.nil _)))
section
open PySem.Spec PyProof.Rows
variable {P : Program} {w : World} {K : PySem.W.Frag} {mg : Str → Option Value} {base : Heap}
theorem ok_law {f fO fP fL fJ fW fF fI fFI fMk fLf CF CM C c Pt c0 c1 c2 c3 c4 c5 c6 c7 c8 c9 : Addr} {fdO fdP fdL fdJ fdW fdF fdI fdFI fdMk fdLf : FuncData} {kV doc pm ct oc : Value} {an od : Option Addr} {osl : Array (Option Value)}
    (lk : K.lookup f = some ⟨oc, od, .func (PySem.W.fnOf "law" "law" (defArgs s_law) (defBody s_law) (defScope s_law) .none kV doc pm an (.ref c) ct), osl⟩) (hcd : PySem.W.codeIn K (.ref c) "law" = true) (TB : LamX.TabB base mg c Pt)
    (D_open : DefAt K mg "_law_open" s_open P_open fO fdO) (D_pull : DefAt K mg "_law_pull" s_pull P_pull fP fdP) (D_like : DefAt K mg "_law_like" s_like P_like fL fdL) (D_join_two : DefAt K mg "_law_join_two" s_join_two P_join_two fJ fdJ)
    (D_why : DefAt K mg "_law_why" s_why P_why fW fdW) (D_fields : DefAt K mg "_law_fields" s_fields P_fields fF fdF)
    (Te : ErT K mg CF CM fI fdI "BadMove" N_bminit) (n1 : PySem.W.findIn K (.ref CM) "move" = some none) (Ot : OthT K mg CM c0 c1 c2 c3 c4 c5 c6 c7 c8) (g9 : mg "BadStretch" = some (.ref c9)) (no9 : PySem.W.kitOne K (.ref CM) (.ref c9) = some false)
    (T : FrT K mg C) (mkF : Mk K C fFI) (G_init : FnOk P w K mg base CX0 5 fFI fdFI P_Finit (spFinit K C)) (b_init : Binds K fdFI P_Finit []) (M_make : Meth K C "make" fMk) (G_make : FnOk P w K mg base (L2.CX P w) 6 fMk fdMk P_Fmake (spMake C CM)) (b_make : Binds K fdMk P_Fmake [])
    (M_left : Meth K C "left" fLf) (G_left : FnOk P w K mg base CX0 1 fLf fdLf P_Fleft (spLeft C)) (b_left : Binds K fdLf P_Fleft []) (B : Bn mg) :
    FnOk P w K mg base CX0 9 f (PySem.W.fnOf "law" "law" (defArgs s_law) (defBody s_law) (defScope s_law) .none kV doc pm an (.ref c) ct) P_law (spLawT K Pt) := by
  have G_open : FnOk P w K mg base CX0 1 fO fdO P_open (spOpen K) := ok_open D_open B
  have G_pull : FnOk P w K mg base CX0 1 fP fdP P_pull spPull := ok_pull D_pull B
  have G_like : FnOk P w K mg base CX0 5 fL fdL P_like (spLike 4) := ok_like D_like B 4
  have G_join_two : FnOk P w K mg base CX0 1 fJ fdJ P_join_two spJoin := ok_join_two D_join_two B
  obtain ⟨ocW, odW, kVW, docW, pmW, anW, cdvW, ctW, oslW, rfl, lkW, hcW⟩ := D_why.F.ex
  refine fn_of lk hcd sc_law (fun vs H Q E h => ?_) (fun A outer s H vs Q E hr h => ?_)
  · obtain ⟨a, ns, rfl, _⟩ := h
    rfl
  · obtain ⟨a, ns, rfl, hS, hlen, hPt, q⟩ := h
    suffices hh : ∃ t, PSs (cxOf CX0 P w K mg base N_law "law" (defScope s_law) f (.ref c) A outer s H E).nox (defBody s_law) t ∧ t { nx := fun _ H' => Q .non H', rt := Q } (L2.start N_law [.ref a]) H by
      obtain ⟨t, h1, h2⟩ := hh
      exact ⟨t, h1.nox, h2⟩
    have huT : ∀ p ∈ lamT Pt, p.1 = Pt → p.2 = lamQ := fun p hp _ => by rw [List.mem_singleton.mp hp]
    refine ⟨_, (pss_cons (ps_set (i := 1) sc_law.nd rfl (.inl rfl) (pe_call G_open (hr.mono (by omega)) (by rfl) D_open.g D_open.F.kp D_open.b .nil pass0 (pa_cons (pv 0) pa_nil)))
      (pss_cons (ps_for PassesOwn.never rfl (pi_range1 (by rfl) B.range (pa_cons pe_int pa_nil)) (pg_name (i := 2) sc_law.nd rfl (.inl rfl)) (pss_cons (ps_asg (pe_tup (pa_cons (pe_call G_pull (hr.mono (by omega)) (by rfl) D_pull.g D_pull.F.kp D_pull.b .nil pass0 (pa_cons (pv 1) (pa_cons (pe_op op_pow pe_int pe_int) pa_nil))) (pa_cons (pe_op op_add pe_int (pe_call G_pull (hr.mono (by omega)) (by rfl) D_pull.g D_pull.F.kp D_pull.b .nil pass0 (pa_cons (pv 1) (pa_cons (pe_ix ix_list (pe_lst (pa_cons pe_int (pa_cons (pe_op op_pow pe_int pe_int) pa_nil))) (pe_call G_pull (hr.mono (by omega)) (by rfl) D_pull.g D_pull.F.kp D_pull.b .nil pass0 (pa_cons (pv 1) (pa_cons pe_int pa_nil))) (fun _ _ => rfl)) pa_nil)))) pa_nil))) (pg_tup (by rfl) (pgs_cons (pg_name (i := 3) sc_law.nd rfl (.inr rfl)) (pgs_cons (pg_name (i := 4) sc_law.nd rfl (.inr rfl)) pgs_nil))))
      (pss_cons (ps_set (i := 5) sc_law.nd rfl (.inl rfl) (pe_lst pa_nil))
      (pss_cons (ps_for PassesOwn.never rfl (pi_range1 (by rfl) B.range (pa_cons pe_int pa_nil)) (pg_name (i := 6) sc_law.nd rfl (.inl rfl)) (pss_cons (ps_par (i := 7) (j := 8) (by rfl) sc_law.nd rfl rfl (by decide) rfl rfl (pa_cons (pe_op op_add pe_int (pe_call G_pull (hr.mono (by omega)) (by rfl) D_pull.g D_pull.F.kp D_pull.b .nil pass0 (pa_cons (pv 1) (pa_cons pe_int pa_nil)))) (pa_cons (pe_call G_pull (hr.mono (by omega)) (by rfl) D_pull.g D_pull.F.kp D_pull.b .nil pass0 (pa_cons (pv 1) (pa_cons pe_int pa_nil))) pa_nil)) (by rfl))
      (pss_one (ps_expr (pe_bm PySem.F.plainAttrs_list PySem.F.slot_list_append PySem.F.type_list_append mt_append (pv 5) (pa_cons (pe_tup (pa_cons (pv 8) (pa_cons (pe_op op_add (pv 8) (pv 7)) (pa_cons (pe_op op_add (pv 7) (pe_call G_pull (hr.mono (by omega)) (by rfl) D_pull.g D_pull.F.kp D_pull.b .nil pass0 (pa_cons (pv 1) (pa_cons pe_int pa_nil)))) (pa_cons pe_int pa_nil))))) pa_nil))))))
      (C8.pss_cut (ps_set (i := 9) sc_law.nd rfl (.inl rfl) (pe_call G_join_two (hr.mono (by omega)) (by rfl) D_join_two.g D_join_two.F.kp D_join_two.b .nil pass0 (pa_cons (pe_ix ix_list (pv 5) pe_int (fun _ _ => rfl)) (pa_cons (pe_ix ix_list (pv 5) pe_int (fun _ _ => rfl)) pa_nil))))
      (pss_cons (ps_setLc (i := 10) (own := [("_law_row", 18)]) (g := gName 18) (by rfl) sc_law.nd rfl rfl (sw_true rfl rfl rfl (by decide +kernel)) (pi_list (pv 5)) (blkOk_by (own := [("_law_row", 18)]) (N := N_law) (sc := defScope s_law) (by decide +kernel)) (fun _ _ _ _ _ => (pg_name (i := 18) sc_law.nd rfl (.inl rfl))) (fun _ _ _ _ _ => pts_nil) (fun _ _ _ _ _ => (pe_tup (pa_cons (pe_op op_add (pv 3) (pe_op op_mul (pe_ix (show IxR _ (rIxT K) from ix_tup) (pv 18) pe_int (fun _ _ => rfl)) (pv 4))) (pa_cons (pe_op op_add (pv 3) (pe_op op_mul (pe_ix (show IxR _ (rIxT K) from ix_tup) (pv 18) pe_int (fun _ _ => rfl)) (pv 4))) (pa_cons (pe_op op_mul (pe_ix (show IxR _ (rIxT K) from ix_tup) (pv 18) pe_int (fun _ _ => rfl)) (pv 4)) (pa_cons pe_int pa_nil)))))))
      (pss_cons (ps_set (i := 17) sc_law.nd rfl (.inr rfl) (pe_call G_pull (hr.mono (by omega)) (by rfl) D_pull.g D_pull.F.kp D_pull.b .nil pass0 (pa_cons (pv 1) (pa_cons pe_int pa_nil))))
      (pss_cons (ps_set (i := 16) sc_law.nd rfl (.inr rfl) (pe_make mkF G_init (hr.mono (by omega)) (by rfl) T.gC b_init .nil pass0 (pa_cons (pe_op op_pow pe_int pe_int) (pa_cons (pv 10) pa_nil))))
      (C8.pss_cut (ps_set (i := 11) sc_law.nd rfl (.inl rfl) (LamX.pe_lamcall (T := lamT Pt) (TT := TWhyG CM "BadMove" FSbm Fbm) (k := 6) (by rfl) D_why.g D_why.F.kp lkW hcW D_why.b sc_why rfl (.inl rfl) (why_givesG (k := 3) (hr.mono (by omega)) Te D_fields (fun fs ⟨x, e⟩ => by rw [e]; exact bm_word x) Fbm.st (fun p dd hH => ok_fieldsBm D_fields B Te Ot g9 no9 n1 hH)) TB rfl List.mem_cons_self huT (hr.mono (by omega)) (show LamX.LamS (defScope s_law) _ from LamX.lamS_by (by decide +kernel)) rfl (fun _ _ _ _ _ => rfl) (fun A1 outer1 s1 H1 E1 f1 c1 hr1 => (pe_meth (pv 16) T.cl M_make G_make (hr1.mono (by omega)) b_make .nil (passes_call (takes_of rfl rfl rfl rfl) fun _ _ _ _ h => h) (pa_cons (pe_tup (pa_cons pe_str (pa_cons (pv 17) (pa_cons (pe_op op_sub pe_int (pv 17)) pa_nil)))) pa_nil)))))
      (C8.pss_cut (ps_if (pt_cmpR op_isN (pv 9) pe_non (nomark _)) (pss_one (ps_if (pt_not (pt_val (pe_call G_like (hr.mono (by omega)) (by rfl) D_like.g D_like.F.kp D_like.b .nil pass0 (pa_cons (pe_lst (pa_cons (pv 11) (pa_cons (pe_meth0 (pv 16) T.cl M_left G_left (hr.mono (by omega)) b_left .nil pass0) pa_nil))) (pa_cons (pe_lst (pa_cons (pe_tup (pa_cons pe_str (pa_cons (pe_tup (pa_cons pe_str (pa_cons (pv 17) (pa_cons (pe_op op_sub pe_int (pv 17)) pa_nil)))) pa_nil))) (pa_cons (pe_lst (pa_cons (pe_tup (pa_cons pe_int (pa_cons (pe_ix ix_list (pv 10) pe_int (fun _ _ => rfl)) pa_nil))) (pa_cons (pe_tup (pa_cons pe_int (pa_cons (pe_ix ix_list (pv 10) pe_int (fun _ _ => rfl)) pa_nil))) pa_nil))) pa_nil))) pa_nil))))) (pss_one (ps_ret pe_bl)) pss_nil)) (pss_cons (ps_set (i := 12) sc_law.nd rfl (.inl rfl) (pe_tup (pa_cons (pe_op op_add (pv 3) (pe_op op_mul (pe_ix ix_tup (pv 9) pe_int (fun _ _ => rfl)) (pv 4))) (pa_cons (pe_op op_add (pv 3) (pe_op op_mul (pe_ix ix_tup (pv 9) pe_int (fun _ _ => rfl)) (pv 4))) (pa_cons (pe_op op_mul (pe_ix ix_tup (pv 9) pe_int (fun _ _ => rfl)) (pv 4)) (pa_cons pe_int pa_nil))))))
      (pss_one (ps_if (pt_not (pt_val (pe_call G_like (hr.mono (by omega)) (by rfl) D_like.g D_like.F.kp D_like.b .nil pass0 (pa_cons (pe_lst (pa_cons (pv 11) (pa_cons (pe_meth0 (pv 16) T.cl M_left G_left (hr.mono (by omega)) b_left .nil pass0) pa_nil))) (pa_cons (pe_lst (pa_cons (pe_tup (pa_cons pe_str (pa_cons pe_non pa_nil))) (pa_cons (pe_lst (pa_cons (pe_tup (pa_cons (pv 17) (pa_cons (pv 12) pa_nil))) pa_nil)) pa_nil))) pa_nil))))) (pss_one (ps_ret pe_bl)) pss_nil))))
      (pss_cons (ps_par (i := 13) (j := 14) (by rfl) sc_law.nd rfl rfl (by decide) rfl rfl (pa_cons (pe_op op_add pe_int (pe_call G_pull (hr.mono (by omega)) (by rfl) D_pull.g D_pull.F.kp D_pull.b .nil pass0 (pa_cons (pv 1) (pa_cons (pe_op op_pow pe_int pe_int) pa_nil)))) (pa_cons (pe_call G_pull (hr.mono (by omega)) (by rfl) D_pull.g D_pull.F.kp D_pull.b .nil pass0 (pa_cons (pv 1) (pa_cons (pe_op op_pow pe_int pe_int) pa_nil))) pa_nil)) (by rfl))
      (pss_cons (ps_set (i := 16) sc_law.nd rfl (.inr rfl) (pe_make mkF G_init (hr.mono (by omega)) (by rfl) T.gC b_init .nil pass0 (pa_cons (pe_op op_pow pe_int pe_int) (pa_cons (pe_lst (pa_cons (pe_tup (pa_cons (pv 3) (pa_cons (pe_op op_add (pv 3) (pv 14)) (pa_cons (pv 13) (pa_cons pe_int pa_nil))))) pa_nil)) pa_nil))))
      (C8.pss_cut (ps_set (i := 11) sc_law.nd rfl (.inl rfl) (LamX.pe_lamcall (T := lamT Pt) (TT := TWhyG CM "BadMove" FSbm Fbm) (k := 6) (by rfl) D_why.g D_why.F.kp lkW hcW D_why.b sc_why rfl (.inl rfl) (why_givesG (k := 3) (hr.mono (by omega)) Te D_fields (fun fs ⟨x, e⟩ => by rw [e]; exact bm_word x) Fbm.st (fun p dd hH => ok_fieldsBm D_fields B Te Ot g9 no9 n1 hH)) TB rfl List.mem_cons_self huT (hr.mono (by omega)) (show LamX.LamS (defScope s_law) _ from LamX.lamS_by (by decide +kernel)) rfl (fun _ _ _ _ _ => rfl) (fun A1 outer1 s1 H1 E1 f1 c1 hr1 => (pe_meth (pv 16) T.cl M_make G_make (hr1.mono (by omega)) b_make .nil (passes_call (takes_of rfl rfl rfl rfl) fun _ _ _ _ h => h) (pa_cons (pe_tup (pa_cons pe_str (pa_cons pe_int pa_nil))) pa_nil)))))
      (pss_cons (ps_set (i := 15) sc_law.nd rfl (.inl rfl) (pe_op op_fdivW (pe_op op_add (pv 14) (pv 13)) pe_int))
      (C8.pss_cut (ps_set (i := 12) sc_law.nd rfl (.inl rfl) (pe_lst (pa_cons (pe_tup (pa_cons pe_str (pa_cons pe_non pa_nil))) (pa_cons (pe_ifExp (pt_cmpR op_gt (pv 15) pe_int (nomark _)) (pe_lst (pa_cons (pe_tup (pa_cons pe_int (pa_cons (pe_tup (pa_cons (pv 3) (pa_cons (pe_op op_sub (pe_op op_add (pe_op op_add (pv 3) (pv 14)) (pv 13)) (pv 15)) (pa_cons (pv 15) (pa_cons pe_int pa_nil))))) pa_nil))) pa_nil)) (pe_lst pa_nil)) pa_nil))))
      (C8.pss_cut (ps_if (pt_cmpR op_ge (pv 14) (pv 13) (nomark _)) (pss_one (ps_set (i := 12) sc_law.nd rfl (.inl rfl) (pe_lst (pa_cons (pe_tup (pa_cons pe_str (pa_cons (pe_tup (pa_cons pe_str (pa_cons pe_int pa_nil))) pa_nil))) (pa_cons (pe_lst (pa_cons (pe_tup (pa_cons pe_int (pa_cons (pe_tup (pa_cons (pv 3) (pa_cons (pe_op op_add (pv 3) (pv 14)) (pa_cons (pv 13) (pa_cons pe_int pa_nil))))) pa_nil))) pa_nil)) pa_nil))))) pss_nil)
      (pss_one (ps_if (pt_not (pt_val (pe_call G_like (hr.mono (by omega)) (by rfl) D_like.g D_like.F.kp D_like.b .nil pass0 (pa_cons (pe_lst (pa_cons (pv 11) (pa_cons (pe_meth0 (pv 16) T.cl M_left G_left (hr.mono (by omega)) b_left .nil pass0) pa_nil))) (pa_cons (pv 12) pa_nil))))) (pss_one (ps_ret pe_bl)) pss_nil))))))))))))))))))
      (pss_one (ps_ret pe_bl)))), ?_⟩
    refine ⟨.ref a, rfl, a, ns, rfl, hS, hlen, fun H1 d l sm nd nl hD => ?_⟩
    have T1 : LamX.Tabs (lamT Pt) H1 := fun p hp => by
      rw [List.mem_singleton.mp hp]
      exact LamX.TabS.nil (sm _ _ hPt)
    refine ⟨4, rfl, by decide, by decide, for_range (lo := 0) (n := 4) (fun i σ H3 => ∃ y2 y3 y4 y5 y6 y7 y8 y9 y10 y11 y12 y13 y14 y15 y16 y17 y18, σ = [some (.ref a), some (.ref d), y2, y3, y4, y5, y6, y7, y8, y9, y10, y11, y12, y13, y14, y15, y16, y17, y18] ∧ Draw H3 d l ∧ LamX.Tabs (lamT Pt) H3)
      ⟨_, _, _, _, _, _, _, _, _, _, _, _, _, _, _, _, _, rfl, hD, T1⟩ ?_ ?_⟩
    · rintro i_ σ H3 hi ⟨y2, y3, y4, y5, y6, y7, y8, y9, y10, y11, y12, y13, y14, y15, y16, y17, y18, rfl, D3, T3⟩
      clear hD T1
      -- by, times
      refine ⟨.ref d, rfl, 10, 16, rfl, rfl, ⟨by decide, by decide, by decide⟩, d, l, _, rfl, D3, by decide, by decide, fun b H4 b0 b1 D4 k4 => ?_⟩
      have b1' : b < 10000000000000000 := b1
      have T4 := tabs_keep T3 D3 k4
      refine ⟨.ref d, rfl, 10, 15, rfl, rfl, ⟨by decide, by decide, by decide⟩, by show 2 ≤ sizeLine; decide, fun L nL => ?_⟩
      refine ⟨.ref d, rfl, d, l, 2, rfl, D4.same (same_upd nL), by decide, by decide, fun v H5 v0 v1 D5 k5 => ?_⟩
      have T5 := tabs_keep (T4.ext (same_upd nL)) (D4.same (same_upd nL)) k5
      obtain ⟨cp, hcp, cp1, cp2⟩ : ∃ cp : Int, atI [V.int 1, V.int (10 ^ (15 : Int).toNat)] v = some (.int cp) ∧ 1 ≤ cp ∧ cp ≤ 1000000000000000 := by
        rcases (show v = 0 ∨ v = 1 by omega) with rfl | rfl
        · exact ⟨_, atI_nat (j := 0) rfl, by decide, by decide⟩
        · exact ⟨_, atI_nat (j := 1) rfl, by decide, by decide⟩
      refine ⟨L, _, v, .int cp, rfl, rfl, SqL.of (k5.of upd_same (D4.ne_new nL)), hcp, d, l, cp, rfl, D5, cp1, by omega, fun tm H6 tm0 tm1 D6 k6 => ?_⟩
      have T6 := tabs_keep T5 D5 k6
      refine ⟨1, tm, rfl, rfl, by show 2 ≤ sizeLine; decide, fun tp ntp => ?_⟩
      have s7 := same_upd (H := H6) (o := .tup [.int b, .int (1 + tm)]) ntp
      have D7 := D6.same s7
      have T7 := T6.ext s7
      refine ⟨tp, _, rfl, SqT.of upd_same, rfl, .int b, _, rfl, .int (1 + tm), _, rfl, rfl, ?_⟩
      obtain ⟨k, hk⟩ : ∃ k, 1 + tm = k := ⟨_, rfl⟩
      have k0 : 0 < k := by omega
      have k1 : k ≤ 1000000000000000 := by omega
      generalize upd H6 tp (.tup [.int b, .int (1 + tm)]) = H7 at D7 T7
      rw [hk]
      -- rows
      refine ⟨Nat.zero_le _, fun r nr => ?_⟩
      have nrd : d ≠ r ∧ l ≠ r := by
        obtain ⟨_, _, _, _, W⟩ := D7
        exact ⟨ne_of_none W.at_d nr, ne_of_none W.at_l nr⟩
      refine ⟨2, rfl, by decide, by decide, for_range (lo := 0) (n := 2) (fun i σ H8 => ∃ y6 y7 y8 us ms, σ = [some (.ref a), some (.ref d), some (.int (0 + (i_ : Int))), some (.int b), some (.int k), some (.ref r), y6, y7, y8, y9, y10, y11, y12, y13, y14, y15, y16, y17, y18] ∧ Draw H8 d l ∧ LamX.Tabs (lamT Pt) H8 ∧ H8 r = some (.lst (us.map V.ref)) ∧ Mts H8 us ms ∧ us.length = i ∧ i ≤ 2 ∧ ∀ x ∈ ms, Row x)
        ⟨_, _, _, [], [], rfl, D7.same (same_upd nr), T7.ext (same_upd nr), upd_same, .nil, rfl, by decide, fun x hx => by cases hx⟩ ?_ ?_⟩
      · rintro i σ H8 hi2 ⟨y6, y7, y8, us, ms, rfl, D8, T8, e8, m8, hl8, _, row⟩
        refine ⟨.ref d, rfl, d, l, 9, rfl, D8, by decide, by decide, fun st H9 st0 st1 D9 k9 => ?_⟩
        refine ⟨1, st, rfl, rfl, .ref d, rfl, d, l, 20, rfl, D9, by decide, by decide, fun bg HA bg0 bg1 DA kA => ⟨_, _, rfl, ?_⟩⟩
        have rA : HA r = some (.lst (us.map V.ref)) := kA.of (k9.of e8 nrd.1.symm) nrd.1.symm
        refine ⟨.ref r, rfl, .inl ⟨rfl, _, SqL.of rA⟩, .int bg, rfl, .int bg, rfl, .int (1 + st), rfl, _, _, rfl, rfl, .int (1 + st), rfl, .ref d, rfl, d, l, 20, rfl, DA, by decide, by decide, fun mx HB mx0 mx1 DB kB => ?_⟩
        refine ⟨_, _, rfl, rfl, by show 4 ≤ sizeLine; decide, fun u nu => ?_⟩
        have rB := kB.of rA nrd.1.symm
        have su := same_upd (H := HB) (o := t4 (bg, bg + (1 + st), 1 + st + mx, 0)) nu
        refine ⟨r, _, _, rfl, rfl, su _ _ rB, sz_lt (by rw [List.length_map]; omega), ?_⟩
        have T9 := tabs_keep (tabs_keep (tabs_keep T8 D8 k9) D9 kA) DA kB
        have kt : KeepT H8 (upd (upd HB u (t4 (bg, bg + (1 + st), 1 + st + mx, 0))) r (.lst (us.map V.ref ++ [.ref u]))) := fun b' xs hb => by
          have nbd : b' ≠ d := by
            obtain ⟨_, _, _, _, W⟩ := D8
            exact ne_of hb W.at_d (fun z => by cases z)
          have nbr : b' ≠ r := ne_of hb e8 (fun z => by cases z)
          rw [upd_ne nbr]
          exact su _ _ (kB.of (kA.of (k9.of hb nbd) nbd) nbd)
        refine ⟨_, _, _, us ++ [u], ms ++ [(bg, bg + (1 + st), 1 + st + mx, 0)], rfl, draw_upd (DB.same su) nrd.1 nrd.2, tabs_keepU (T9.ext su) (su _ _ rB), by rw [upd_same, List.map_append]; rfl, Mts.snoc ?_ (m8.keep kt), by rw [List.length_append, hl8]; rfl, by omega, fun x hx => ?_⟩
        · rw [upd_ne (ne_of_none rB nu).symm]
          exact upd_same
        · rcases List.mem_append.mp hx with hx | hx
          · exact row x hx
          · rw [List.mem_singleton.mp hx]
            refine ⟨bg0, bg1, ?_, ?_, ?_, ?_, rfl⟩
            · show 1 ≤ bg + (1 + st) - bg
              omega
            · show bg + (1 + st) - bg ≤ 9
              omega
            · show bg + (1 + st) - bg ≤ 1 + st + mx
              omega
            · show 1 + st + mx < 40
              omega
      · rintro σ H8 ⟨y6, y7, y8, us, ms, rfl, D8, T8, e8, m8, hl8, _, row⟩
        obtain ⟨u0, u1, rfl⟩ : ∃ u0 u1, us = [u0, u1] := by
          match us, hl8 with
          | [u0, u1], _ => exact ⟨u0, u1, rfl⟩
        obtain ⟨x0, x1, rfl, eu0, eu1⟩ : ∃ x0 x1, ms = [x0, x1] ∧ H8 u0 = some (t4 x0) ∧ H8 u1 = some (t4 x1) := by
          cases m8 with
          | cons h1 m8 =>
            cases m8 with
            | cons h2 m8 =>
              cases m8
              exact ⟨_, _, rfl, h1, h2⟩
        have row0 := row x0 (by simp)
        have row1 := row x1 (by simp)
        -- both
        refine ⟨fun σ H' => ∃ bv, σ = [some (.ref a), some (.ref d), some (.int (0 + (i_ : Int))), some (.int b), some (.int k), some (.ref r), y6, y7, y8, some bv, y10, y11, y12, y13, y14, y15, y16, y17, y18] ∧ Same H8 H' ∧ OptAt H' bv (mrg x0 x1), ?_, ?_⟩
        · exact ⟨.ref r, rfl, r, _, 0, .ref u0, rfl, rfl, SqL.of e8, atI_nat (j := 0) rfl, .ref r, rfl, r, _, 1, .ref u1, rfl, rfl, SqL.of e8, atI_nat (j := 1) rfl, u0, u1, x0, x1, rfl, eu0, eu1, row0.reps, row1.reps, fun bv H' s' o' => ⟨bv, rfl, s', o'⟩⟩
        rintro σ H9 ⟨bv, rfl, s9, opt9⟩
        -- far
        have e9 := s9 _ _ e8
        refine ⟨.ref r, rfl, r, rfl, ⟨_, SqL.of e9⟩, fun Lf nLf => lc_list (K := K) (a := r) (xs := [u0, u1].map V.ref) (fun i HA => ∃ fs, Same H9 HA ∧ HA Lf = some (.lst (fs.map V.ref)) ∧ Mts HA fs (([x0, x1].take i).map (scM b k)))
          ⟨[], same_upd nLf, upd_same, .nil⟩ (fun i HA _ ⟨_, sB, _⟩ => SqL.of (sB _ _ e9)) ?_ ?_⟩
        · rintro i y HA hy ⟨fs, sB, eA, mA⟩
          rw [List.getElem?_map] at hy
          obtain ⟨u, hu, rfl⟩ := Option.map_eq_some_iff.mp hy
          obtain ⟨x, hx, ex⟩ := m8.at i u hu
          have eu : HA u = some (t4 x) := sB _ _ (s9 _ _ ex)
          have hfl := mA.length
          have hi2 : i < 2 := (List.getElem?_eq_some_iff.mp hu).1
          rw [List.length_map, List.length_take] at hfl
          refine ⟨rfl, .int b, rfl, .ref u, rfl, u, _, 0, .int x.1, rfl, rfl, SqT.of eu, at4_0, .int k, rfl, _, _, rfl, rfl, .inr ⟨by omega, by omega⟩, _, _, rfl, rfl, ?_⟩
          refine ⟨.int b, rfl, .ref u, rfl, u, _, 1, .int x.2.1, rfl, rfl, SqT.of eu, at4_1, .int k, rfl, _, _, rfl, rfl, .inr ⟨by omega, by omega⟩, _, _, rfl, rfl, ?_⟩
          refine ⟨.ref u, rfl, u, _, 2, .int x.2.2.1, rfl, rfl, SqT.of eu, at4_2, .int k, rfl, _, _, rfl, rfl, .inr ⟨by omega, by omega⟩, by show 4 ≤ sizeLine; decide, fun t nt => ?_⟩
          have st := same_upd (H := HA) (o := t4 (scM b k x)) nt
          refine ⟨fs.map V.ref, st _ _ eA, sz_lt (by rw [List.length_map]; omega), fs ++ [t], fun b' o' hb => ?_, by rw [upd_same, List.map_append]; rfl, ?_⟩
          · rw [upd_ne (ne_of_none hb nLf)]
            exact st _ _ (sB _ _ hb)
          · have kt : KeepT HA (upd (upd HA t (t4 (scM b k x))) Lf (.lst (fs.map V.ref ++ [.ref t]))) := fun b' xs hb => by
              rw [upd_ne (ne_of hb eA (fun z => by cases z))]
              exact st _ _ hb
            rw [List.take_add_one, hx, List.map_append]
            refine Mts.snoc ?_ (mA.keep kt)
            rw [upd_ne (ne_of_none eA nt).symm]
            exact upd_same
        rintro HA ⟨fs, sA, eA, mA⟩
        have mA' : Mts HA fs [scM b k x0, scM b k x1] := mA
        clear mA
        have D9 := (D8.same s9).same sA
        have T9 := (T8.ext s9).ext sA
        have optA := opt9.same sA
        have nLd : d ≠ Lf ∧ l ≠ Lf := by
          obtain ⟨_, _, _, _, W⟩ := D8.same s9
          exact ⟨ne_of_none W.at_d nLf, ne_of_none W.at_l nLf⟩
        -- i
        refine ⟨.ref d, rfl, d, l, 2, rfl, D9, by decide, by decide, fun ii HB ii0 ii1 DB kB => ?_⟩
        have hii : ii = 0 ∨ ii = 1 := by omega
        have TB9 := tabs_keep T9 D9 kB
        have ntd : ∀ {t : Addr} {xs : List V}, HA t = some (.tup xs) → t ≠ d := fun ht => by
          obtain ⟨_, _, _, _, W⟩ := D9
          exact ne_of ht W.at_d (fun z => by cases z)
        have eB := kB.of eA nLd.1.symm
        have mB : Mts HB fs [scM b k x0, scM b k x1] := mA'.keep fun t xs ht => kB.of ht (ntd ht)
        have optB := optA.keep fun t xs ht => kB.of ht (ntd ht)
        clear optA mA'
        -- front
        refine ⟨10, 18, rfl, rfl, ⟨by decide, by decide, by decide⟩, .ref Lf, rfl, fun x dx nx ndx nex => ?_⟩
        have sI : Same HB (upd (upd HB dx (.own x)) x (.ins C dx [])) := (same_upd ndx).trans (same_upd (by rw [upd_ne nex.symm]; exact nx))
        refine ⟨x, dx, Lf, _, fs, [scM b k x0, scM b k x1], rfl, upd_same, by decide, by decide, sI _ _ eB, mB.same sI, fun y hy => ?_, by show 2 ≤ 24; decide, fun HC sd qd faC nsd nqd offC => ⟨rfl, ?_⟩⟩
        · rcases List.mem_cons.mp hy with rfl | hy
          · exact row0.mok b0 (by omega) k0 k1
          rcases List.mem_cons.mp hy with rfl | hy
          · exact row1.mok b0 (by omega) k0 k1
          · cases hy
        have sC : Same HB HC := Same.made nx ndx offC
        have hen : en 0 [scM b k x0, scM b k x1] = [(0, scM b k x0), (1, scM b k x1)] := by
          show [(((0 : Nat) : Int), nrm (scM b k x0)), (((0 + 1 : Nat) : Int), nrm (scM b k x1))] = _
          rw [row0.nrm k0, row1.nrm k0]
          rfl
        rw [hen] at faC
        have faC' := faC
        clear faC
        have DC := DB.same sC
        have TC := TB9.ext sC
        have eC := sC _ _ eB
        have mC := mB.same sC
        have optC := optB.same sC
        have nq : qd ≠ d ∧ qd ≠ l ∧ qd ≠ Lf := by
          obtain ⟨_, _, _, _, W⟩ := DB.same sI
          exact ⟨(ne_of_none W.at_d nqd).symm, (ne_of_none W.at_l nqd).symm, (ne_of_none (sI _ _ eB) nqd).symm⟩
        -- why
        obtain ⟨rr, hrr⟩ : ∃ rr, mergeS [(0, scM b k x0), (1, scM b k x1)] ii (1 - ii) = rr := ⟨_, rfl⟩
        refine ⟨fun σ H' => ∃ tw s q e, σ = [some (.ref a), some (.ref d), some (.int (0 + (i_ : Int))), some (.int b), some (.int k), some (.ref r), y6, y7, y8, some bv, some (.ref Lf), some (.ref tw), y12, y13, y14, y15, some (.ref x), some (.int ii), y18] ∧ Draw H' d l ∧ LamX.Tabs (lamT Pt) H' ∧ FrAt C H' x s q e (rr.getD [(0, scM b k x0), (1, scM b k x1)]) [] ∧ Rp H' 3 (.ref tw) (whyD rr [.str "merge", .int ii, .int (1 - ii)]) ∧ H' Lf = some (.lst (fs.map V.ref)) ∧ Mts H' fs [scM b k x0, scM b k x1] ∧ OptAt H' bv (mrg x0 x1), ?_, ?_⟩
        · refine ⟨TC, fun HE eN TE t0 n0 R hR => ?_⟩
          have s0 := same_upd (H := HE) (o := .tup [.str "", .non]) n0
          have f0 := (faC'.extN eN).same s0
          obtain ⟨dx', ea⟩ := f0.at_a
          refine ⟨.ref x, rfl, x, dx', _, rfl, ea, put_no, .int ii, rfl, .int ii, rfl, 1, ii, rfl, rfl, by show 3 ≤ sizeLine; decide, fun tm' ntm => ?_⟩
          have sM := same_upd (H := upd HE t0 (.tup [.str "", .non])) (o := .tup [.str "merge", .int ii, .int (1 - ii)]) ntm
          have f1 := f0.same sM
          have fin : ∀ (tw : Addr) (HZ : Hp) (e0 : Int), FrAt C HZ x sd qd e0 (rr.getD [(0, scM b k x0), (1, scM b k x1)]) [] → Off x sd qd (upd (upd HE t0 (.tup [.str "", .non])) tm' (.tup [.str "merge", .int ii, .int (1 - ii)])) HZ → Rp HZ 3 (.ref tw) (whyD rr [.str "merge", .int ii, .int (1 - ii)]) →
              ∃ tw' s q e, ([some (.ref a), some (.ref d), some (.int (0 + (i_ : Int))), some (.int b), some (.int k), some (.ref r), y6, y7, y8, some bv, some (.ref Lf), some (.ref tw), y12, y13, y14, y15, some (.ref x), some (.int ii), y18] : List (Option V)) = [some (.ref a), some (.ref d), some (.int (0 + (i_ : Int))), some (.int b), some (.int k), some (.ref r), y6, y7, y8, some bv, some (.ref Lf), some (.ref tw'), y12, y13, y14, y15, some (.ref x), some (.int ii), y18] ∧ Draw HZ d l ∧ LamX.Tabs (lamT Pt) HZ ∧ FrAt C HZ x s q e (rr.getD [(0, scM b k x0), (1, scM b k x1)]) [] ∧ Rp HZ 3 (.ref tw') (whyD rr [.str "merge", .int ii, .int (1 - ii)]) ∧ HZ Lf = some (.lst (fs.map V.ref)) ∧ Mts HZ fs [scM b k x0, scM b k x1] ∧ OptAt HZ bv (mrg x0 x1) := fun tw HZ e0 fZ oZ rZ => by
            have sAll := s0.trans sM
            have DZ0 := (draw_extN DC eN).same sAll
            have eZ0 := sAll _ _ (eN _ _ eC (fun _ z => by cases z))
            have ktE : KeepT HC HE := fun t xs ht => eN _ _ ht (fun _ z => by cases z)
            have kt0 : KeepT HC HZ := fun t xs ht => keepT_off f1 oZ _ _ (sAll _ _ (ktE _ _ ht))
            obtain ⟨dx1, ea1⟩ := f1.at_a
            obtain ⟨kv1, es1, _⟩ := f1.at_s
            exact ⟨tw, sd, qd, _, rfl, draw_off DZ0 f1 oZ nq.1.symm nq.2.1.symm, tabs_off (TE.ext sAll) f1 oZ, fZ, rZ, oZ _ _ eZ0 (ne_of eZ0 ea1 (fun z => by cases z)) (ne_of eZ0 es1 (fun z => by cases z)) nq.2.2.symm, mC.keep kt0, optC.keep kt0⟩
          refine ⟨x, sd, qd, tm', _, [(0, scM b k x0), (1, scM b k x1)], [], _, rr, rfl, f1, upd_same, .inr ⟨ii, 1 - ii, rfl, hrr.symm, by omega, by omega⟩, fun S' hS HZ fZ oZ => hR _ _ ?_, fun hn HZ dd fZ oZ ed => ?_⟩
          · subst hS
            exact fin t0 HZ _ fZ oZ (rpW (keepT_off f1 oZ _ _ (sM _ _ upd_same)))
          · subst hn
            refine ⟨dd, bmF (.ref tm'), rfl, rfl, ed, ⟨_, rfl⟩, fun HG t1 v sG hv e1 => ?_⟩
            cases bm_inj hv
            have em := sG _ _ (keepT_off f1 oZ _ _ (show (upd (upd HE t0 (.tup [.str "", .non])) tm' (.tup [.str "merge", .int ii, .int (1 - ii)])) tm' = some (.tup [.str "merge", .int ii, .int (1 - ii)]) from upd_same))
            exact fin t1 HG _ (fZ.same sG) (oZ.trans (Off.of_same sG)) (.tup e1 (by show 2 ≤ 100000; decide) (.cons (.str _ _) (.cons (.tup em (by show 3 ≤ 100000; decide) (.cons (.str _ _) (.cons (.int _ _) (.cons (.int _ _) (.nil _))))) (.nil _))))
        rintro σ HD ⟨tw, sd', qd', e', rfl, DD, TD, fD, rD, eD, mD, optD⟩
        rw [merge_two hii, mrg_sc row0.reps row1.reps k0] at hrr
        -- like
        refine ⟨fun σ H' => ∃ y2 y4 y5 y6 y7 y8 y9 y10 y11 y12 y13 y14 y15 y16 y17 y18, σ = [some (.ref a), some (.ref d), y2, some (.int b), y4, y5, y6, y7, y8, y9, y10, y11, y12, y13, y14, y15, y16, y17, y18] ∧ Draw H' d l ∧ LamX.Tabs (lamT Pt) H', ?_, ?_⟩
        · obtain ⟨dx', ea⟩ := fD.at_a
          cases hz : mrg x0 x1 with
          | none =>
            rw [hz] at hrr
            subst hrr
            have hbv := optD.1 hz
            subst hbv
            refine ⟨.non, rfl, rfl, _, rfl, iteT ?_⟩
            refine ⟨.ref tw, rfl, .ref x, rfl, x, dx', _, rfl, ea, put_no, x, sd', qd', e', _, [], rfl, fD, by show 2 < 60; decide, fun HL rl us' sL nrl erl lsl => ?_⟩
            refine ⟨by show 2 ≤ sizeLine; decide, fun La nLa => ?_⟩
            have s1 := same_upd (H := HL) (o := .lst [.ref tw, .ref rl]) nLa
            obtain ⟨f0, f1, rfl, ef0, ef1⟩ : ∃ f0 f1, fs = [f0, f1] ∧ HD f0 = some (t4 (scM b k x0)) ∧ HD f1 = some (t4 (scM b k x1)) := by
              cases mD with
              | cons h1 m2 =>
                cases m2 with
                | cons h2 m3 =>
                  cases m3
                  exact ⟨_, _, rfl, h1, h2⟩
            refine ⟨.int ii, rfl, .int ii, rfl, 1, ii, rfl, rfl, by show 3 ≤ sizeLine; decide, fun ta nta => ⟨by show 2 ≤ sizeLine; decide, fun tb ntb => ?_⟩⟩
            have s2 := same_upd (H := upd HL La (.lst [.ref tw, .ref rl])) (o := .tup [.str "merge", .int ii, .int (1 - ii)]) nta
            have s3 := same_upd (H := upd (upd HL La (.lst [.ref tw, .ref rl])) ta (.tup [.str "merge", .int ii, .int (1 - ii)])) (o := .tup [.str "BadMove", .ref ta]) ntb
            have e3 := (((sL.trans s1).trans s2).trans s3) _ _ eD
            refine ⟨.ref Lf, rfl, Lf, _, 0, .ref f0, rfl, rfl, SqL.of e3, atI_nat (j := 0) rfl, by show 2 ≤ sizeLine; decide, fun tc ntc => ?_⟩
            have s4 := same_upd (H := upd (upd (upd HL La (.lst [.ref tw, .ref rl])) ta (.tup [.str "merge", .int ii, .int (1 - ii)])) tb (.tup [.str "BadMove", .ref ta])) (o := .tup [.int 0, .ref f0]) ntc
            refine ⟨.ref Lf, rfl, Lf, _, 1, .ref f1, rfl, rfl, SqL.of (s4 _ _ e3), atI_nat (j := 1) rfl, by show 2 ≤ sizeLine; decide, fun td ntd' => ?_⟩
            have s5 := same_upd (H := upd (upd (upd (upd HL La (.lst [.ref tw, .ref rl])) ta (.tup [.str "merge", .int ii, .int (1 - ii)])) tb (.tup [.str "BadMove", .ref ta])) tc (.tup [.int 0, .ref f0])) (o := .tup [.int 1, .ref f1]) ntd'
            refine ⟨by show 2 ≤ sizeLine; decide, fun Lb nLb => ⟨by show 2 ≤ sizeLine; decide, fun Lc nLc => ?_⟩⟩
            have s6 := same_upd (o := .lst [.ref tc, .ref td]) nLb
            have s7 := same_upd (o := .lst [.ref tb, .ref Lb]) nLc
            have sA1 := (((s2.trans s3).trans s4).trans s5).trans (s6.trans s7)
            have sA0 := (sL.trans s1).trans sA1
            refine ⟨.ref La, .ref Lc, .list [whyD none [.str "merge", .int ii, .int (1 - ii)], .list (lsd [(0, scM b k x0), (1, scM b k x1)])], rfl, .lst (sA1 _ _ upd_same) (by show 2 ≤ 100000; decide) (.cons (rD.same sA0) (.cons (.lst ((s1.trans sA1) _ _ erl) (by rw [List.length_map, lsl.length]; show 2 ≤ 100000; decide) ((lsl.keep fun _ _ hb => (s1.trans sA1) _ _ hb).rp 0)) (.nil _))),
              .lst upd_same (by show 2 ≤ 100000; decide) (.cons (.tup ((((s4.trans s5).trans s6).trans s7) _ _ upd_same) (by show 2 ≤ 100000; decide) (.cons (.str _ _) (.cons (.tup (((((s3.trans s4).trans s5).trans s6).trans s7) _ _ upd_same) (by show 3 ≤ 100000; decide) (.cons (.str _ _) (.cons (.int _ _) (.cons (.int _ _) (.nil _))))) (.nil _)))) (.cons (.lst (s7 _ _ upd_same) (by show 2 ≤ 100000; decide) (.cons (.tup (((s5.trans s6).trans s7) _ _ upd_same) (by show 2 ≤ 100000; decide) (.cons (.int _ _) (.cons (rpM 0 (sA0 _ _ ef0)) (.nil _)))) (.cons (.tup ((s6.trans s7) _ _ upd_same) (by show 2 ≤ 100000; decide) (.cons (.int _ _) (.cons (rpM 0 (sA0 _ _ ef1)) (.nil _)))) (.nil _)))) (.nil _))), fun HZ sZ => ⟨true, rfl, iteF ?_⟩⟩
            exact ⟨_, _, _, _, _, _, _, _, _, _, _, _, _, _, _, _, rfl, DD.same (sA0.trans sZ), TD.ext (sA0.trans sZ)⟩
          | some z =>
            rw [hz] at hrr
            subst hrr
            obtain ⟨tz, rfl, etz⟩ := optD.2 z hz
            have zup : nrm (scM b k z) = scM b k z := nrm_id (by
              have h1 := mrg_up hz
              have h2 := Int.mul_le_mul_of_nonneg_right h1 (Int.le_of_lt k0)
              show b + z.1 * k ≤ b + z.2.1 * k
              omega)
            refine ⟨.ref tz, rfl, rfl, _, rfl, iteF ?_⟩
            refine ⟨.int b, rfl, .ref tz, rfl, tz, _, 0, .int z.1, rfl, rfl, SqT.of etz, at4_0, .int k, rfl, _, _, rfl, rfl, .inr ⟨by omega, by omega⟩, _, _, rfl, rfl, ?_⟩
            refine ⟨.int b, rfl, .ref tz, rfl, tz, _, 1, .int z.2.1, rfl, rfl, SqT.of etz, at4_1, .int k, rfl, _, _, rfl, rfl, .inr ⟨by omega, by omega⟩, _, _, rfl, rfl, ?_⟩
            refine ⟨.ref tz, rfl, tz, _, 2, .int z.2.2.1, rfl, rfl, SqT.of etz, at4_2, .int k, rfl, _, _, rfl, rfl, .inr ⟨by omega, by omega⟩, by show 4 ≤ sizeLine; decide, fun tq ntq => ?_⟩
            have sq := same_upd (H := HD) (o := t4 (scM b k z)) ntq
            have fQ := fD.same sq
            refine ⟨.ref tw, rfl, .ref x, rfl, x, dx', _, rfl, sq _ _ ea, put_no, x, sd', qd', e', _, [], rfl, fQ, by show 1 < 60; decide, fun HL rl us' sL nrl erl lsl => ?_⟩
            refine ⟨by show 2 ≤ sizeLine; decide, fun La nLa => ⟨by show 2 ≤ sizeLine; decide, fun ta nta => ?_⟩⟩
            have s1 := same_upd (H := HL) (o := .lst [.ref tw, .ref rl]) nLa
            have s2 := same_upd (o := .tup [.str "", .non]) nta
            refine ⟨.int ii, rfl, .ref tq, rfl, by show 2 ≤ sizeLine; decide, fun tb ntb => ⟨by show 1 ≤ sizeLine; decide, fun Lb nLb => ⟨by show 2 ≤ sizeLine; decide, fun Lc nLc => ?_⟩⟩⟩
            have s3 := same_upd (o := .tup [.int ii, .ref tq]) ntb
            have s4 := same_upd (o := .lst [.ref tb]) nLb
            have s5 := same_upd (o := .lst [.ref ta, .ref Lb]) nLc
            have sA1 := ((s2.trans s3).trans s4).trans s5
            have sA0 := sq.trans ((sL.trans s1).trans sA1)
            have lsl' : Ls HL us' [(ii, scM b k z)] := by
              have e := lsl
              rw [show (Option.map (fun z => [(ii, nrm z)]) (Option.map (scM b k) (some z))).getD [(0, scM b k x0), (1, scM b k x1)] = [(ii, nrm (scM b k z))] from rfl, zup] at e
              exact e
            refine ⟨.ref La, .ref Lc, .list [.tuple [.str "", .none], .list (lsd [(ii, scM b k z)])], rfl, .lst (sA1 _ _ upd_same) (by show 2 ≤ 100000; decide) (.cons (rD.same sA0) (.cons (.lst ((s1.trans sA1) _ _ erl) (by rw [List.length_map, lsl'.length]; show 1 ≤ 100000; decide) ((lsl'.keep fun _ _ hb => (s1.trans sA1) _ _ hb).rp 0)) (.nil _))),
              .lst upd_same (by show 2 ≤ 100000; decide) (.cons (rpW (((s3.trans s4).trans s5) _ _ upd_same)) (.cons (.lst (s5 _ _ upd_same) (by show 1 ≤ 100000; decide) (.cons (.tup ((s4.trans s5) _ _ upd_same) (by show 2 ≤ 100000; decide) (.cons (.int _ _) (.cons (rpM 0 (((sL.trans s1).trans sA1) _ _ upd_same)) (.nil _)))) (.nil _))) (.nil _))), fun HZ sZ => ⟨true, rfl, iteF ?_⟩⟩
            exact ⟨_, _, _, _, _, _, _, _, _, _, _, _, _, _, _, _, rfl, DD.same (sA0.trans sZ), TD.ext (sA0.trans sZ)⟩
        clear hrr rD optD mD eD fD TD DD
        rintro σ HE ⟨y2, y4, y5, y6, y7, y8, y9, y10, y11, y12, y13, y14, y15, y16, y17, y18, rfl, DE, TE⟩
        -- many, off
        refine ⟨.ref d, rfl, 10, 15, rfl, rfl, ⟨by decide, by decide, by decide⟩, d, l, _, rfl, DE, by decide, by decide, fun m' HF m0 m1 DF kF => ?_⟩
        refine ⟨1, m', rfl, rfl, .ref d, rfl, 10, 15, rfl, rfl, ⟨by decide, by decide, by decide⟩, d, l, _, rfl, DF, by decide, by decide, fun of HG of0 of1 DG kG => ⟨.int (1 + m'), .int of, rfl, ?_⟩⟩
        have m1' : m' < 1000000000000000 := m1
        have of1' : of < 1000000000000000 := of1
        have TG := tabs_keep (tabs_keep TE DE kF) DF kG
        obtain ⟨m, hm⟩ : ∃ m, 1 + m' = m := ⟨_, rfl⟩
        rw [hm]
        -- front
        refine ⟨10, 18, rfl, rfl, ⟨by decide, by decide, by decide⟩, .int b, rfl, .int b, rfl, .int of, rfl, b, of, rfl, rfl, .int m, rfl, by show 4 ≤ sizeLine; decide, fun t nt => ⟨by show 1 ≤ sizeLine; decide, fun L2' nL2 => fun x dx nx ndx nex => ?_⟩⟩
        have st := same_upd (H := HG) (o := t4 (b, b + of, m, 1)) nt
        have sl := same_upd (H := upd HG t (t4 (b, b + of, m, 1))) (o := .lst [.ref t]) nL2
        have sI : Same (upd (upd HG t (t4 (b, b + of, m, 1))) L2' (.lst [.ref t])) (upd (upd (upd (upd HG t (t4 (b, b + of, m, 1))) L2' (.lst [.ref t])) dx (.own x)) x (.ins C dx [])) := (same_upd ndx).trans (same_upd (by rw [upd_ne nex.symm]; exact nx))
        refine ⟨x, dx, L2', _, [t], [(b, b + of, m, 1)], rfl, upd_same, by decide, by decide, sI _ _ upd_same, .cons (sI _ _ (sl _ _ upd_same)) .nil, fun y hy => ?_, by show 1 ≤ 24; decide, fun HC sd qd faC nsd nqd offC => ⟨rfl, ?_⟩⟩
        · rw [List.mem_singleton.mp hy]
          refine ⟨.inr rfl, ?_, b0, ?_, ?_, ?_⟩
          · show 1 ≤ m
            omega
          · show 0 ≤ b + of
            omega
          · show b + m ≤ 1000000000000000000
            omega
          · show b + of + m ≤ 1000000000000000000
            omega
        have sC : Same (upd (upd HG t (t4 (b, b + of, m, 1))) L2' (.lst [.ref t])) HC := Same.made nx ndx offC
        have hen2 : en 0 [((b, b + of, m, 1) : M4)] = [(0, (b, b + of, m, 1))] := by
          show [(((0 : Nat) : Int), nrm (b, b + of, m, 1))] = _
          rw [nrm_id (by show b ≤ b + of; omega)]
          rfl
        rw [hen2] at faC
        have faC' := faC
        clear faC
        have sG := (st.trans sl).trans sC
        have DC := DG.same sG
        have TC := TG.ext sG
        have nq : qd ≠ d ∧ qd ≠ l := by
          obtain ⟨_, _, _, _, W⟩ := ((DG.same st).same sl).same sI
          exact ⟨(ne_of_none W.at_d nqd).symm, (ne_of_none W.at_l nqd).symm⟩
        -- why
        obtain ⟨rr, hrr⟩ : ∃ rr, halveS [(0, (b, b + of, m, 1))] 0 = rr := ⟨_, rfl⟩
        refine ⟨fun σ H' => ∃ tw s q e, σ = [some (.ref a), some (.ref d), y2, some (.int b), y4, y5, y6, y7, y8, y9, y10, some (.ref tw), y12, some (.int m), some (.int of), y15, some (.ref x), y17, y18] ∧ Draw H' d l ∧ LamX.Tabs (lamT Pt) H' ∧ FrAt C H' x s q e (rr.getD [(0, (b, b + of, m, 1))]) [] ∧ Rp H' 3 (.ref tw) (whyD rr [.str "halve", .int 0]), ?_, ?_⟩
        · refine ⟨TC, fun HE eN TE t0 n0 R hR => ?_⟩
          have s0 := same_upd (H := HE) (o := .tup [.str "", .non]) n0
          have f0 := (faC'.extN eN).same s0
          obtain ⟨dx', ea⟩ := f0.at_a
          refine ⟨.ref x, rfl, x, dx', _, rfl, ea, put_no, by show 2 ≤ sizeLine; decide, fun tm' ntm => ?_⟩
          have sM := same_upd (H := upd HE t0 (.tup [.str "", .non])) (o := .tup [.str "halve", .int 0]) ntm
          have f1 := f0.same sM
          have fin : ∀ (tw : Addr) (HZ : Hp) (e0 : Int), FrAt C HZ x sd qd e0 (rr.getD [(0, (b, b + of, m, 1))]) [] → Off x sd qd (upd (upd HE t0 (.tup [.str "", .non])) tm' (.tup [.str "halve", .int 0])) HZ → Rp HZ 3 (.ref tw) (whyD rr [.str "halve", .int 0]) →
              ∃ tw' s q e, ([some (.ref a), some (.ref d), y2, some (.int b), y4, y5, y6, y7, y8, y9, y10, some (.ref tw), y12, some (.int m), some (.int of), y15, some (.ref x), y17, y18] : List (Option V)) = [some (.ref a), some (.ref d), y2, some (.int b), y4, y5, y6, y7, y8, y9, y10, some (.ref tw'), y12, some (.int m), some (.int of), y15, some (.ref x), y17, y18] ∧ Draw HZ d l ∧ LamX.Tabs (lamT Pt) HZ ∧ FrAt C HZ x s q e (rr.getD [(0, (b, b + of, m, 1))]) [] ∧ Rp HZ 3 (.ref tw') (whyD rr [.str "halve", .int 0]) := fun tw HZ e0 fZ oZ rZ => by
            have sAll := s0.trans sM
            have DZ0 := (draw_extN DC eN).same sAll
            exact ⟨tw, sd, qd, _, rfl, draw_off DZ0 f1 oZ nq.1.symm nq.2.symm, tabs_off (TE.ext sAll) f1 oZ, fZ, rZ⟩
          refine ⟨x, sd, qd, tm', _, [(0, (b, b + of, m, 1))], [], _, rr, rfl, f1, upd_same, .inl ⟨0, rfl, hrr.symm, by decide⟩, fun S' hS HZ fZ oZ => hR _ _ ?_, fun hn HZ dd fZ oZ ed => ?_⟩
          · subst hS
            exact fin t0 HZ _ fZ oZ (rpW (keepT_off f1 oZ _ _ (sM _ _ upd_same)))
          · subst hn
            refine ⟨dd, bmF (.ref tm'), rfl, rfl, ed, ⟨_, rfl⟩, fun HG t1 v sG hv e1 => ?_⟩
            cases bm_inj hv
            have em := sG _ _ (keepT_off f1 oZ _ _ (show (upd (upd HE t0 (.tup [.str "", .non])) tm' (.tup [.str "halve", .int 0])) tm' = some (.tup [.str "halve", .int 0]) from upd_same))
            exact fin t1 HG _ (fZ.same sG) (oZ.trans (Off.of_same sG)) (.tup e1 (by show 2 ≤ 100000; decide) (.cons (.str _ _) (.cons (.tup em (by show 2 ≤ 100000; decide) (.cons (.str _ _) (.cons (.int _ _) (.nil _)))) (.nil _))))
        rintro σ HD ⟨tw, sd', qd', e', rfl, DD, TD, fD, rD⟩
        rw [halve_one b0 of0 (by omega)] at hrr
        -- half
        refine ⟨.int of, rfl, .int m, rfl, of, m, rfl, rfl, _, 2, rfl, rfl, wide_div (b := 10) (by decide) (by decide) (by decide) (by decide), ?_⟩
        obtain ⟨hf, hhf⟩ : ∃ hf, (of + m) / 2 = hf := ⟨_, rfl⟩
        show gName 15 (.int ((of + m) / 2)) _ _ _
        rw [hhf] at hrr ⊢
        have hf0 : 0 ≤ hf := by omega
        -- due
        refine ⟨fun σ H' => ∃ td, σ = [some (.ref a), some (.ref d), y2, some (.int b), y4, y5, y6, y7, y8, y9, y10, some (.ref tw), some (.ref td), some (.int m), some (.int of), some (.int hf), some (.ref x), y17, y18] ∧ Same HD H' ∧ Rp H' 4 (.ref td) (.list [.tuple [.str "", .none], .list (lsd (if hf = 0 then [] else [(0, (b, b + of + m - hf, hf, 1))]))]), ?_, ?_⟩
        · refine ⟨by show 2 ≤ sizeLine; decide, fun ta nta => ?_⟩
          have s1 := same_upd (H := HD) (o := .tup [.str "", .non]) nta
          refine ⟨.int hf, rfl, hf, 0, rfl, rfl, _, rfl, ite2 (fun h => ?_) (fun h => ?_)⟩
          · have h' : hf > 0 := of_decide_eq_true h
            rw [if_neg (show ¬ hf = 0 by omega)]
            refine ⟨.int b, rfl, .int b, rfl, .int of, rfl, b, of, rfl, rfl, .int m, rfl, _, _, rfl, rfl, .int hf, rfl, _, _, rfl, rfl, .int hf, rfl, by show 4 ≤ sizeLine; decide, fun tb ntb => ⟨by show 2 ≤ sizeLine; decide, fun tc ntc => ⟨by show 1 ≤ sizeLine; decide, fun La nLa => ⟨by show 2 ≤ sizeLine; decide, fun Lb nLb => ?_⟩⟩⟩⟩
            have s2 := same_upd (o := t4 (b, b + of + m - hf, hf, 1)) ntb
            have s3 := same_upd (o := .tup [.int 0, .ref tb]) ntc
            have s4 := same_upd (o := .lst [.ref tc]) nLa
            have s5 := same_upd (o := .lst [.ref ta, .ref La]) nLb
            exact ⟨Lb, rfl, (((s1.trans s2).trans s3).trans s4).trans s5, .lst upd_same (by show 2 ≤ 100000; decide) (.cons (rpW ((((s2.trans s3).trans s4).trans s5) _ _ upd_same)) (.cons (.lst (s5 _ _ upd_same) (by show 1 ≤ 100000; decide) (.cons (.tup ((s4.trans s5) _ _ upd_same) (by show 2 ≤ 100000; decide) (.cons (.int _ _) (.cons (rpM 0 (((s3.trans s4).trans s5) _ _ upd_same)) (.nil _)))) (.nil _))) (.nil _)))⟩
          · have h' : hf = 0 := by
              have : ¬ hf > 0 := fun z => h (decide_eq_true z)
              omega
            rw [if_pos h']
            refine ⟨Nat.zero_le _, fun La nLa => ⟨by show 2 ≤ sizeLine; decide, fun Lb nLb => ?_⟩⟩
            have s4 := same_upd (o := .lst []) nLa
            have s5 := same_upd (o := .lst [.ref ta, .ref La]) nLb
            exact ⟨Lb, rfl, (s1.trans s4).trans s5, .lst upd_same (by show 2 ≤ 100000; decide) (.cons (rpW ((s4.trans s5) _ _ upd_same)) (.cons (.lst (s5 _ _ upd_same) (Nat.zero_le _) (.nil _)) (.nil _)))⟩
        rintro σ HH ⟨td, rfl, sH, rH⟩
        -- due where it is refused
        refine ⟨fun σ H' => ∃ td, σ = [some (.ref a), some (.ref d), y2, some (.int b), y4, y5, y6, y7, y8, y9, y10, some (.ref tw), some (.ref td), some (.int m), some (.int of), some (.int hf), some (.ref x), y17, y18] ∧ Same HD H' ∧ Rp H' 4 (.ref td) (.list [whyD rr [.str "halve", .int 0], .list (lsd (rr.getD [(0, (b, b + of, m, 1))]))]), ?_, ?_⟩
        · refine ⟨.int of, rfl, .int m, rfl, of, m, rfl, rfl, _, rfl, ite2 (fun h => ?_) (fun h => ?_)⟩
          · have h' : m ≤ of := of_decide_eq_true h
            rw [if_pos h'] at hrr
            subst hrr
            refine ⟨by show 2 ≤ sizeLine; decide, fun ta nta => ⟨by show 2 ≤ sizeLine; decide, fun tb ntb => ?_⟩⟩
            refine ⟨.int b, rfl, .int b, rfl, .int of, rfl, b, of, rfl, rfl, .int m, rfl, by show 4 ≤ sizeLine; decide, fun tc ntc => ⟨by show 2 ≤ sizeLine; decide, fun te nte => ⟨by show 1 ≤ sizeLine; decide, fun La nLa => ⟨by show 2 ≤ sizeLine; decide, fun Lb nLb => ?_⟩⟩⟩⟩
            have s1 := same_upd (o := .tup [.str "halve", .int 0]) nta
            have s2 := same_upd (o := .tup [.str "BadMove", .ref ta]) ntb
            have s3 := same_upd (o := t4 (b, b + of, m, 1)) ntc
            have s4 := same_upd (o := .tup [.int 0, .ref tc]) nte
            have s5 := same_upd (o := .lst [.ref te]) nLa
            have s6 := same_upd (o := .lst [.ref tb, .ref La]) nLb
            exact ⟨Lb, rfl, sH.trans (((((s1.trans s2).trans s3).trans s4).trans s5).trans s6), .lst upd_same (by show 2 ≤ 100000; decide) (.cons (.tup ((((s3.trans s4).trans s5).trans s6) _ _ upd_same) (by show 2 ≤ 100000; decide) (.cons (.str _ _) (.cons (.tup (((((s2.trans s3).trans s4).trans s5).trans s6) _ _ upd_same) (by show 2 ≤ 100000; decide) (.cons (.str _ _) (.cons (.int _ _) (.nil _)))) (.nil _)))) (.cons (.lst (s6 _ _ upd_same) (by show 1 ≤ 100000; decide) (.cons (.tup ((s5.trans s6) _ _ upd_same) (by show 2 ≤ 100000; decide) (.cons (.int _ _) (.cons (rpM 0 (((s4.trans s5).trans s6) _ _ upd_same)) (.nil _)))) (.nil _))) (.nil _)))⟩
          · have h' : ¬ m ≤ of := fun z => h (decide_eq_true z)
            rw [if_neg h'] at hrr
            refine ⟨td, rfl, sH, ?_⟩
            by_cases c2 : hf = 0
            · rw [if_pos c2] at hrr rH
              subst hrr
              exact rH
            · rw [if_neg c2] at hrr rH
              subst hrr
              exact rH
        rintro σ HI ⟨td, rfl, sI', rI⟩
        have fI := fD.same sI'
        obtain ⟨dx', ea⟩ := fI.at_a
        have hsl : (rr.getD [(0, (b, b + of, m, 1))]).length < 60 := Nat.lt_of_le_of_lt (show (rr.getD [(0, (b, b + of, m, 1))]).length ≤ 1 by
          rw [← hrr]
          split
          · exact Nat.le_refl _
          · split
            · exact Nat.zero_le _
            · exact Nat.le_refl _) (by decide)
        refine ⟨.ref tw, rfl, .ref x, rfl, x, dx', _, rfl, ea, put_no, x, sd', qd', e', _, [], rfl, fI, hsl, fun HL rl us' sL nrl erl lsl => ?_⟩
        refine ⟨by show 2 ≤ sizeLine; decide, fun La nLa => ?_⟩
        have s1 := same_upd (H := HL) (o := .lst [.ref tw, .ref rl]) nLa
        refine ⟨.ref td, rfl, .ref La, .ref td, _, rfl, .lst upd_same (by show 2 ≤ 100000; decide) (.cons (rD.same ((sI'.trans sL).trans s1)) (.cons (.lst (s1 _ _ erl) (by rw [List.length_map, lsl.length]; omega) ((lsl.keep fun _ _ hb => s1 _ _ hb).rp 0)) (.nil _))), rI.same (sL.trans s1), fun HZ sZ => ⟨true, rfl, iteF ?_⟩⟩
        have sF := ((sI'.trans sL).trans s1).trans sZ
        exact ⟨_, _, _, _, _, _, _, _, _, _, _, _, _, _, _, _, _, rfl, DD.same sF, TD.ext sF⟩
    · rintro σ H4 ⟨y2, y3, y4, y5, y6, y7, y8, y9, y10, y11, y12, y13, y14, y15, y16, y17, y18, rfl, D4, _⟩
      exact q H4
end

/-! ### the head by a run: what the top leaves, told by names -/
theorem len1 {α : Type} {M : List α → Prop} (h : ∀ a, M [a]) : ∀ us : List α, us.length = 1 → M us
  | [a], _ => h a
theorem len2 {α : Type} {M : List α → Prop} (h : ∀ a b, M [a, b]) : ∀ us : List α, us.length = 2 → M us
  | [a, b], _ => h a b
theorem len3 {α : Type} {M : List α → Prop} (h : ∀ a b c, M [a, b, c]) : ∀ us : List α, us.length = 3 → M us
  | [a, b, c], _ => h a b c
theorem len4 {α : Type} {M : List α → Prop} (h : ∀ a b c d, M [a, b, c, d]) : ∀ us : List α, us.length = 4 → M us
  | [a, b, c, d], _ => h a b c d
def dD (x : Str) (st : Stmt) : He.DefD := { at_ := (x, none), name := x, qual := x, params := defArgs st, body := defBody st, scope := defScope st }
def dM (C m q : Str) (st : Stmt) : He.DefD := { at_ := (C, some m), name := m, qual := q, params := defArgs st, body := defBody st, scope := defScope st }
def dMs (C m q : Str) (st : Stmt) : He.DefD := { at_ := (C, some m), name := m, qual := q, params := defArgs st, body := defBody st, scope := defScope st, dfl := [.str ""] }
section
variable {K : PySem.W.Frag} {fas : List He.Fa} {fns : List He.DefD}
theorem raw_of {x q : Str} {ar : Arguments} {bd : List Stmt} {sc : Scope} {f : Addr} {fd : FuncData} (F : FunD K x q ar bd sc [] [] f fd) :
    ∃ oc od osl kV doc pm an cd ct, K.lookup f = some ⟨oc, od, .func (PySem.W.fnOf x q ar bd sc .none kV doc pm an cd ct), osl⟩ ∧ PySem.W.codeIn K cd q = true ∧ PySem.W.keepIn K (.ref f) = true := by
  obtain ⟨⟨oc, od, dV, kV, doc, pm, an, cd, ct, osl, rfl, hlk, hco, hdf, _⟩, hkp⟩ := F
  rcases hdf with ⟨_, hz⟩ | ⟨hne, _⟩
  · subst hz
    exact ⟨oc, od, osl, kV, doc, pm, an, cd, ct, hlk, hco, hkp⟩
  · exact absurd rfl hne
theorem say_def (c : He.SaysD fas fns K) (i : Nat) {x : Str} {st : Stmt} (e : fns[i]? = some (dD x st)) :
    ∃ oc od osl kV doc pm an cd ct, K.lookup (He.ga K x) = some ⟨oc, od, .func (PySem.W.fnOf x x (defArgs st) (defBody st) (defScope st) .none kV doc pm an cd ct), osl⟩ ∧ PySem.W.codeIn K cd x = true ∧ PySem.W.keepIn K (.ref (He.ga K x)) = true := by
  obtain ⟨fd, F⟩ := c.def_ i e
  exact raw_of F
theorem say_meth (c : He.SaysD fas fns K) (i : Nat) {C m q : Str} {st : Stmt} (e : fns[i]? = some (dM C m q st)) :
    ∃ oc od osl kV doc pm an cd ct, K.lookup (He.ma K (He.ga K C) m) = some ⟨oc, od, .func (PySem.W.fnOf m q (defArgs st) (defBody st) (defScope st) .none kV doc pm an cd ct), osl⟩ ∧ PySem.W.codeIn K cd q = true ∧ PySem.W.keepIn K (.ref (He.ma K (He.ga K C) m)) = true := by
  obtain ⟨fd, F⟩ := c.def_ i e
  exact raw_of F
theorem say_far (c : He.SaysD fas fns K) (i : Nat) {C m q : Str} {st : Stmt} (e : fns[i]? = some (dMs C m q st)) :
    ∃ fd, FunD K m q (defArgs st) (defBody st) (defScope st) [.str ""] [] (He.ma K (He.ga K C) m) fd := by
  obtain ⟨fd, F⟩ := c.def_ i e
  exact ⟨fd, F⟩
theorem say_law (c : He.SaysD fas fns K) (i : Nat) {x : Str} {st : Stmt} (e : fns[i]? = some (dD x st)) :
    ∃ oc od osl kV doc pm an ct, K.lookup (He.ga K x) = some ⟨oc, od, .func (PySem.W.fnOf x x (defArgs st) (defBody st) (defScope st) .none kV doc pm an (.ref (He.cT K (x, none)).1) ct), osl⟩ ∧ PySem.W.codeIn K (.ref (He.cT K (x, none)).1) x = true ∧ PySem.W.keepIn K (.ref (He.ga K x)) = true := by
  obtain ⟨oc, od, osl, kV, doc, pm, an, cd, ct, h1, h2, h3⟩ := say_def c i e
  obtain ⟨z, rfl⟩ := He.codeIn_ref h2
  have hz : He.codeOf K (x, none) = z := He.codeOf_eq (p := (x, none)) h1 rfl
  have hz2 : (He.cT K (x, none)).1 = z := hz
  rw [hz2]
  exact ⟨oc, od, osl, kV, doc, pm, an, ct, h1, h2, h3⟩
theorem say_int (c : He.SaysD fas fns K) (j : Nat) {x : Str} {i : Int} (e : fas[j]? = some (.int x i)) : ∃ t, PySem.W.nsIn K mainGlobals x = some (some (.int i t)) := by
  have q : (match PySem.W.nsIn K mainGlobals x with | some (some (.int u _)) => decide (u = i) | _ => false) = true := c.fact j e
  split at q
  · rename_i k t hk
    have hki := of_decide_eq_true q
    subst hki
    exact ⟨t, hk⟩
  · cases q
theorem say_str (c : He.SaysD fas fns K) (j : Nat) {x z : Str} (e : fas[j]? = some (.str x z)) : ∃ t, PySem.W.nsIn K mainGlobals x = some (some (.str z t)) := by
  have q : (match PySem.W.nsIn K mainGlobals x with | some (some (.str u _)) => decide (u = z) | _ => false) = true := c.fact j e
  split at q
  · rename_i k t hk
    have hki := of_decide_eq_true q
    subst hki
    exact ⟨t, hk⟩
  · cases q
theorem all_at {l : List Bool} (h : l.all (fun b => b) = true) (i : Nat) {b : Bool} (e : l[i]? = some b) : b = true := List.all_eq_true.mp h b (List.mem_of_getElem? e)
/-- what is looked at of an own error's class -/
def errB (K : PySem.W.Frag) (C : Addr) : Bool := (match K.lookup C with
    | some ⟨.type t, _, .cls cd, sl⟩ => decide (t = "type") && (cd.hasDict && (!cd.hasDel && (match cd.mro, sl.toList with
      | .ref D :: bm, [_, _, _, _, some (.builtin n), _] => decide (D = C) && (decide (n = "ValueError.__new__") && PySem.HandSPX.refsVE bm)
      | _, _ => false)))
    | _ => false) && (He.eqO (PySem.W.findIn K (.ref C) "__setattr__") (some (some (.builtin "object.__setattr__"))) && (decide (PySem.W.subIn K (.ref C) (.type "BaseException") = some true) &&
  (decide (PySem.W.typeIn K (.ref C) = some (.type "type")) && (PySem.W.keepIn K (.ref C) && He.eqO (PySem.W.findIn K (.ref C) "word") (some none)))))
theorem errB_ok {C : Addr} (h : errB K C = true) : ErrT K C := by
  obtain ⟨h0, h⟩ := He.ba h
  obtain ⟨h1, h⟩ := He.ba h
  obtain ⟨h2, h⟩ := He.ba h
  obtain ⟨h3, h⟩ := He.ba h
  obtain ⟨h4, h5⟩ := He.ba h
  refine ⟨⟨?_, He.eqO_ok h1, of_decide_eq_true h2, of_decide_eq_true h3, h4⟩, He.eqO_ok h5⟩
  split at h0
  · rename_i t dd cd sl hC
    obtain ⟨g1, g⟩ := He.ba h0
    obtain ⟨g2, g⟩ := He.ba g
    obtain ⟨g3, g⟩ := He.ba g
    have e1 : t = "type" := of_decide_eq_true g1
    subst e1
    split at g
    · rename_i D bm y0 y1 y2 y3 n y5 hm hs
      obtain ⟨e2, g⟩ := He.ba g
      obtain ⟨e3, e4⟩ := He.ba g
      have e2' := of_decide_eq_true e2
      have e3' := of_decide_eq_true e3
      subst e2' e3'
      obtain ⟨nm, bs, mro, ns, qn, hd, sn, sub, ab, col, del⟩ := cd
      obtain ⟨sll⟩ := sl
      have e5 : mro = .ref D :: bm := hm
      have e6 : hd = true := g2
      have e7 : del = false := by
        cases del with
        | false => rfl
        | true => cases g3
      have e8 : sll = [y0, y1, y2, y3, some (.builtin "ValueError.__new__"), y5] := hs
      subst e5 e6 e7 e8
      exact ⟨nm, qn, ns, bs, bm, sn, sub, ab, col, dd, y0, y1, y2, y3, y5, hC, e4⟩
    · cases g
  · cases h0
def excB (K : PySem.W.Frag) (C : Addr) : Bool := xfB K C && (He.eqO (PySem.W.findIn K (.ref C) "__class__") (some (some (.builtin "object.__class__"))) && (He.eqO (PySem.W.specialIn K (.builtin "object.__class__") "__get__") (some (some (.builtin "getset_descriptor.__get__"))) &&
  (decide (PySem.W.takesIn K (.builtin "object.__class__") = some true) && decide (PySem.W.mroIn K C (.type "object") = some true))))
theorem excB_ok {C : Addr} (h : excB K C = true) : ExcC K C := by
  obtain ⟨h0, h⟩ := He.ba h
  obtain ⟨h1, h⟩ := He.ba h
  obtain ⟨h2, h⟩ := He.ba h
  obtain ⟨h3, h4⟩ := He.ba h
  have x := xfB_ok h0
  exact ⟨x.ga, x.gg, x.exC, x.hdC, He.eqO_ok h1, He.eqO_ok h2, of_decide_eq_true h3, of_decide_eq_true h4⟩
def cfnB (K : PySem.W.Frag) (C : Addr) (m : Str) (f : Addr) : Bool := He.eqO (PySem.W.specialIn K (.ref C) "__getattribute__") (some (some (.builtin "type.__getattribute__"))) && (PySem.W.readsIn K C (.type "type") && ((match PySem.W.findCls K (.ref C) (.type "type") m with
    | some (.val (.ref g)) => decide (g = f)
    | _ => false) && PySem.W.keepIn K (.ref f)))
theorem cfnB_ok {C f : Addr} {m : Str} (h : cfnB K C m f = true) : ClsFn K C m f := by
  obtain ⟨h0, h⟩ := He.ba h
  obtain ⟨h1, h⟩ := He.ba h
  obtain ⟨h2, h3⟩ := He.ba h
  refine ⟨He.eqO_ok h0, h1, ?_, h3⟩
  split at h2
  · rename_i g hg
    have e := of_decide_eq_true h2
    subst e
    exact hg
  · cases h2
def bltB (K : PySem.W.Frag) (T m b : String) : Bool := match PySem.W.findCls K (.type T) (.type "type") m with
  | some (.val (.builtin g)) => decide (g = b)
  | _ => false
theorem bltB_ok {T m b : String} (h : bltB K T m b = true) : PySem.W.findCls K (.type T) (.type "type") m = some (.val (.builtin b)) := by
  unfold bltB at h
  split at h
  · rename_i g hg
    have e := of_decide_eq_true h
    subst e
    exact hg
  · cases h
theorem far_binds {f : Addr} {fd : FuncData} (F : FunD K "__init__" "FarError.__init__" (defArgs s_farinit) (defBody s_farinit) (defScope s_farinit) [.str ""] [] f fd) : Binds K fd N_farinit [] := by
  obtain ⟨ds, v, b⟩ := F.binds1 (ps := N_farinit) 2 1 (by simp) rfl fun T kV doc pm an cdv ct us its hu hi => match us, hu, its, hi with | [_, _], _, [_], _ => ⟨_, rfl, rfl⟩
  cases v
  exact b
end
/-! ### the hook: what the names reach, and the statics -/
def lawAt : He.Defn := ("law", none)
def seenY (g : Addr → Option Obj) : PySem.W.Frag := He.frT g (cStatics :: He.asD g 5)
def tabY (g : Addr → Option Obj) (K : PySem.W.Frag) : Bool := PySem.W.codeHdIn K (He.cT K lawAt).1 (He.cT K lawAt).2 && (g (He.cT K lawAt).2).any He.emptyTab
structure SaysY (fas : List He.Fa) (fns : List He.DefD) (ex : PySem.W.Frag → List Bool) (h : Heap) (K : PySem.W.Frag) : Prop where
  d : He.SaysD fas fns K
  more : (ex K).all (fun b => b) = true
  hd : PySem.W.codeHdIn K (He.cT K lawAt).1 (He.cT K lawAt).2 = true
  out : K.lookup (He.cT K lawAt).2 = none
  mt : h.get? (He.cT K lawAt).2 = some (PySem.W.tabObj #[])
abbrev AlY : Type := He.AlD × Bool
def obsY (fas : List He.Fa) (fns : List He.DefD) (ex : PySem.W.Frag → List Bool) (g : Addr → Option Obj) : AlY := (He.obsD fas fns (seenY g), (ex (seenY g)).all (fun b => b) && tabY g (seenY g))
theorem saysY_of {fas : List He.Fa} {fns : List He.DefD} {ex : PySem.W.Frag → List Bool} {h : Heap} (e : obsY fas fns ex h.get? = (He.valD fns, true)) : SaysY fas fns ex h (seenY h.get?) := by
  have e1 : He.obsD fas fns (seenY h.get?) = He.valD fns := congrArg (fun z : AlY => z.1) e
  have e2 : ((ex (seenY h.get?)).all (fun b => b) && tabY h.get? (seenY h.get?)) = true := congrArg (fun z : AlY => z.2) e
  obtain ⟨m1, m2⟩ := He.ba e2
  obtain ⟨m3, m4⟩ := He.ba m2
  have m5 : ∃ u, h.get? (He.cT (seenY h.get?) lawAt).2 = some u ∧ He.emptyTab u = true := by
    cases q : h.get? (He.cT (seenY h.get?) lawAt).2 with
    | none =>
      rw [q] at m4
      cases m4
    | some u =>
      rw [q] at m4
      exact ⟨u, rfl, m4⟩
  obtain ⟨u, hu, hv⟩ := m5
  exact ⟨e1, m1, m3, He.frT_none hu hv, hu.trans (congrArg some (He.emptyTab_eq hv))⟩
def hookY (fas : List He.Fa) (fns : List He.DefD) (ex : PySem.W.Frag → List Bool) : PySem.W.Hook where
  α := AlY
  obs := fun s => obsY fas fns ex s.heap.get?
  val := fun _ => (He.valD fns, true)
  says := fun _ h => ∃ K : PySem.W.Frag, K.In h ∧ SaysY fas fns ex h K
  of := fun _ _ e => ⟨_, He.frT_in, saysY_of e⟩
  keeps := fun _ _ _ ⟨K, a, b⟩ k => ⟨K, PySem.W.Frag.In.keeps a k, b.d, b.more, b.hd, b.out, k _ _ b.mt⟩
theorem obsY_eq {fas : List He.Fa} {fns : List He.DefD} {ex : PySem.W.Frag → List Bool} (s : PySem.W.SharedT) : obsY fas fns ex (HandSHeadRun.getT s) = (hookY fas fns ex).obs s.abs := by
  have e : HandSHeadRun.getT s = s.abs.heap.get? := funext (HandSHeadRun.getT_eq s)
  rw [e]
  rfl
theorem all_mk {l : PySem.W.OpenLaw} {w : World} {K : PySem.W.Frag} {h : Heap} {mg : Str → Option Value} {fa : Addr}
    {f0 : Addr} {od0 an0 : Option Addr} {sl0 : Array (Option Value)} {oc0 kV0 dc0 pm0 ct0 cd0 : Value}
    {f1 : Addr} {od1 an1 : Option Addr} {sl1 : Array (Option Value)} {oc1 kV1 dc1 pm1 ct1 cd1 : Value}
    {f2 : Addr} {od2 an2 : Option Addr} {sl2 : Array (Option Value)} {oc2 kV2 dc2 pm2 ct2 cd2 : Value}
    {f3 : Addr} {od3 an3 : Option Addr} {sl3 : Array (Option Value)} {oc3 kV3 dc3 pm3 ct3 cd3 : Value}
    {f4 : Addr} {od4 an4 : Option Addr} {sl4 : Array (Option Value)} {oc4 kV4 dc4 pm4 ct4 cd4 : Value}
    {f5 : Addr} {od5 an5 : Option Addr} {sl5 : Array (Option Value)} {oc5 kV5 dc5 pm5 ct5 cd5 : Value}
    {f6 : Addr} {od6 an6 : Option Addr} {sl6 : Array (Option Value)} {oc6 kV6 dc6 pm6 ct6 cd6 : Value}
    {f7 : Addr} {od7 an7 : Option Addr} {sl7 : Array (Option Value)} {oc7 kV7 dc7 pm7 ct7 cd7 : Value}
    {f8 : Addr} {od8 an8 : Option Addr} {sl8 : Array (Option Value)} {oc8 kV8 dc8 pm8 ct8 cd8 : Value}
    {f9 : Addr} {od9 an9 : Option Addr} {sl9 : Array (Option Value)} {oc9 kV9 dc9 pm9 ct9 cd9 : Value}
    {f10 : Addr} {od10 an10 : Option Addr} {sl10 : Array (Option Value)} {oc10 kV10 dc10 pm10 ct10 cd10 : Value}
    {f11 : Addr} {od11 an11 : Option Addr} {sl11 : Array (Option Value)} {oc11 kV11 dc11 pm11 ct11 cd11 : Value}
    {f12 : Addr} {od12 an12 : Option Addr} {sl12 : Array (Option Value)} {oc12 kV12 dc12 pm12 ct12 cd12 : Value}
    {f13 : Addr} {od13 an13 : Option Addr} {sl13 : Array (Option Value)} {oc13 kV13 dc13 pm13 ct13 cd13 : Value}
    {f14 : Addr} {od14 an14 : Option Addr} {sl14 : Array (Option Value)} {oc14 kV14 dc14 pm14 ct14 cd14 : Value}
    {f15 : Addr} {od15 an15 : Option Addr} {sl15 : Array (Option Value)} {oc15 kV15 dc15 pm15 ct15 cd15 : Value}
    {f16 : Addr} {od16 an16 : Option Addr} {sl16 : Array (Option Value)} {oc16 kV16 dc16 pm16 ct16 cd16 : Value}
    {f17 : Addr} {od17 an17 : Option Addr} {sl17 : Array (Option Value)} {oc17 kV17 dc17 pm17 ct17 cd17 : Value}
    {f18 : Addr} {od18 an18 : Option Addr} {sl18 : Array (Option Value)} {oc18 kV18 dc18 pm18 ct18 cd18 : Value}
    {f19 : Addr} {od19 an19 : Option Addr} {sl19 : Array (Option Value)} {oc19 kV19 dc19 pm19 ct19 cd19 : Value}
    {f20 : Addr} {od20 an20 : Option Addr} {sl20 : Array (Option Value)} {oc20 kV20 dc20 pm20 ct20 cd20 : Value}
    {f21 c Pt : Addr} {od21 an21 : Option Addr} {sl21 : Array (Option Value)} {oc21 kV21 dc21 pm21 ct21 : Value}
    {C_FarError f_FarError : Addr} {fdF : FuncData}
    {C_BadMove f_BadMove : Addr} {od_BadMove an_BadMove : Option Addr} {sl_BadMove : Array (Option Value)} {oc_BadMove kV_BadMove dc_BadMove pm_BadMove cd_BadMove ct_BadMove : Value}
    {C_BadNumber C_NoMating C_NoFamily C_TooMuch C_BadName C_Taken C_NoRoad C_BadMating C_BadPlace C_BadStretch : Addr}
    {C_Front : Addr}
    {fm___init__ : Addr} {odm___init__ anm___init__ : Option Addr} {slm___init__ : Array (Option Value)} {ocm___init__ kVm___init__ dcm___init__ pmm___init__ cdm___init__ ctm___init__ : Value}
    {fm_make : Addr} {odm_make anm_make : Option Addr} {slm_make : Array (Option Value)} {ocm_make kVm_make dcm_make pmm_make cdm_make ctm_make : Value}
    {fm_made : Addr} {odm_made anm_made : Option Addr} {slm_made : Array (Option Value)} {ocm_made kVm_made dcm_made pmm_made cdm_made ctm_made : Value}
    {fm_halve : Addr} {odm_halve anm_halve : Option Addr} {slm_halve : Array (Option Value)} {ocm_halve kVm_halve dcm_halve pmm_halve cdm_halve ctm_halve : Value}
    {fm_merge : Addr} {odm_merge anm_merge : Option Addr} {slm_merge : Array (Option Value)} {ocm_merge kVm_merge dcm_merge pmm_merge cdm_merge ctm_merge : Value}
    {fm_put : Addr} {odm_put anm_put : Option Addr} {slm_put : Array (Option Value)} {ocm_put kVm_put dcm_put pmm_put cdm_put ctm_put : Value}
    {fm_left : Addr} {odm_left anm_left : Option Addr} {slm_left : Array (Option Value)} {ocm_left kVm_left dcm_left pmm_left cdm_left ctm_left : Value}
    {tk_FAR : Tok}
    {tk_MOST : Tok}
    (X : K.In h) (G : h.Ns mainGlobals mg) (hfa : mg "law" = some (.ref fa)) (hT : h.get? Pt = some (PySem.W.tabObj #[]))
    (a0 : PySem.W.nsIn K mainGlobals "_law_open" = some (some (.ref f0))) (l0 : K.lookup f0 = some ⟨oc0, od0, .func (PySem.W.fnOf "_law_open" "_law_open" (defArgs s_open) (defBody s_open) (defScope s_open) .none kV0 dc0 pm0 an0 cd0 ct0), sl0⟩) (c0 : PySem.W.codeIn K cd0 "_law_open" = true) (k0 : PySem.W.keepIn K (.ref f0) = true)
    (a1 : PySem.W.nsIn K mainGlobals "_law_pull" = some (some (.ref f1))) (l1 : K.lookup f1 = some ⟨oc1, od1, .func (PySem.W.fnOf "_law_pull" "_law_pull" (defArgs s_pull) (defBody s_pull) (defScope s_pull) .none kV1 dc1 pm1 an1 cd1 ct1), sl1⟩) (c1 : PySem.W.codeIn K cd1 "_law_pull" = true) (k1 : PySem.W.keepIn K (.ref f1) = true)
    (a2 : PySem.W.nsIn K mainGlobals "_law_like" = some (some (.ref f2))) (l2 : K.lookup f2 = some ⟨oc2, od2, .func (PySem.W.fnOf "_law_like" "_law_like" (defArgs s_like) (defBody s_like) (defScope s_like) .none kV2 dc2 pm2 an2 cd2 ct2), sl2⟩) (c2 : PySem.W.codeIn K cd2 "_law_like" = true) (k2 : PySem.W.keepIn K (.ref f2) = true)
    (a3 : PySem.W.nsIn K mainGlobals "_law_join_two" = some (some (.ref f3))) (l3 : K.lookup f3 = some ⟨oc3, od3, .func (PySem.W.fnOf "_law_join_two" "_law_join_two" (defArgs s_join_two) (defBody s_join_two) (defScope s_join_two) .none kV3 dc3 pm3 an3 cd3 ct3), sl3⟩) (c3 : PySem.W.codeIn K cd3 "_law_join_two" = true) (k3 : PySem.W.keepIn K (.ref f3) = true)
    (a4 : PySem.W.nsIn K mainGlobals "need_from" = some (some (.ref f4))) (l4 : K.lookup f4 = some ⟨oc4, od4, .func (PySem.W.fnOf "need_from" "need_from" (defArgs s_need_from) (defBody s_need_from) (defScope s_need_from) .none kV4 dc4 pm4 an4 cd4 ct4), sl4⟩) (c4 : PySem.W.codeIn K cd4 "need_from" = true) (k4 : PySem.W.keepIn K (.ref f4) = true)
    (a5 : PySem.W.nsIn K mainGlobals "need_within" = some (some (.ref f5))) (l5 : K.lookup f5 = some ⟨oc5, od5, .func (PySem.W.fnOf "need_within" "need_within" (defArgs s_need_within) (defBody s_need_within) (defScope s_need_within) .none kV5 dc5 pm5 an5 cd5 ct5), sl5⟩) (c5 : PySem.W.codeIn K cd5 "need_within" = true) (k5 : PySem.W.keepIn K (.ref f5) = true)
    (a6 : PySem.W.nsIn K mainGlobals "need_length" = some (some (.ref f6))) (l6 : K.lookup f6 = some ⟨oc6, od6, .func (PySem.W.fnOf "need_length" "need_length" (defArgs s_need_length) (defBody s_need_length) (defScope s_need_length) .none kV6 dc6 pm6 an6 cd6 ct6), sl6⟩) (c6 : PySem.W.codeIn K cd6 "need_length" = true) (k6 : PySem.W.keepIn K (.ref f6) = true)
    (a7 : PySem.W.nsIn K mainGlobals "need_mating" = some (some (.ref f7))) (l7 : K.lookup f7 = some ⟨oc7, od7, .func (PySem.W.fnOf "need_mating" "need_mating" (defArgs s_need_mating) (defBody s_need_mating) (defScope s_need_mating) .none kV7 dc7 pm7 an7 cd7 ct7), sl7⟩) (c7 : PySem.W.codeIn K cd7 "need_mating" = true) (k7 : PySem.W.keepIn K (.ref f7) = true)
    (a8 : PySem.W.nsIn K mainGlobals "need_road" = some (some (.ref f8))) (l8 : K.lookup f8 = some ⟨oc8, od8, .func (PySem.W.fnOf "need_road" "need_road" (defArgs s_need_road) (defBody s_need_road) (defScope s_need_road) .none kV8 dc8 pm8 an8 cd8 ct8), sl8⟩) (c8 : PySem.W.codeIn K cd8 "need_road" = true) (k8 : PySem.W.keepIn K (.ref f8) = true)
    (a9 : PySem.W.nsIn K mainGlobals "is_mating" = some (some (.ref f9))) (l9 : K.lookup f9 = some ⟨oc9, od9, .func (PySem.W.fnOf "is_mating" "is_mating" (defArgs s_is_mating) (defBody s_is_mating) (defScope s_is_mating) .none kV9 dc9 pm9 an9 cd9 ct9), sl9⟩) (c9 : PySem.W.codeIn K cd9 "is_mating" = true) (k9 : PySem.W.keepIn K (.ref f9) = true)
    (a10 : PySem.W.nsIn K mainGlobals "normal" = some (some (.ref f10))) (l10 : K.lookup f10 = some ⟨oc10, od10, .func (PySem.W.fnOf "normal" "normal" (defArgs s_normal) (defBody s_normal) (defScope s_normal) .none kV10 dc10 pm10 an10 cd10 ct10), sl10⟩) (c10 : PySem.W.codeIn K cd10 "normal" = true) (k10 : PySem.W.keepIn K (.ref f10) = true)
    (a11 : PySem.W.nsIn K mainGlobals "back" = some (some (.ref f11))) (l11 : K.lookup f11 = some ⟨oc11, od11, .func (PySem.W.fnOf "back" "back" (defArgs s_back) (defBody s_back) (defScope s_back) .none kV11 dc11 pm11 an11 cd11 ct11), sl11⟩) (c11 : PySem.W.codeIn K cd11 "back" = true) (k11 : PySem.W.keepIn K (.ref f11) = true)
    (a12 : PySem.W.nsIn K mainGlobals "halved" = some (some (.ref f12))) (l12 : K.lookup f12 = some ⟨oc12, od12, .func (PySem.W.fnOf "halved" "halved" (defArgs s_halved) (defBody s_halved) (defScope s_halved) .none kV12 dc12 pm12 an12 cd12 ct12), sl12⟩) (c12 : PySem.W.codeIn K cd12 "halved" = true) (k12 : PySem.W.keepIn K (.ref f12) = true)
    (a13 : PySem.W.nsIn K mainGlobals "is_leader" = some (some (.ref f13))) (l13 : K.lookup f13 = some ⟨oc13, od13, .func (PySem.W.fnOf "is_leader" "is_leader" (defArgs s_is_leader) (defBody s_is_leader) (defScope s_is_leader) .none kV13 dc13 pm13 an13 cd13 ct13), sl13⟩) (c13 : PySem.W.codeIn K cd13 "is_leader" = true) (k13 : PySem.W.keepIn K (.ref f13) = true)
    (a14 : PySem.W.nsIn K mainGlobals "step_of" = some (some (.ref f14))) (l14 : K.lookup f14 = some ⟨oc14, od14, .func (PySem.W.fnOf "step_of" "step_of" (defArgs s_step_of) (defBody s_step_of) (defScope s_step_of) .none kV14 dc14 pm14 an14 cd14 ct14), sl14⟩) (c14 : PySem.W.codeIn K cd14 "step_of" = true) (k14 : PySem.W.keepIn K (.ref f14) = true)
    (a15 : PySem.W.nsIn K mainGlobals "end_of" = some (some (.ref f15))) (l15 : K.lookup f15 = some ⟨oc15, od15, .func (PySem.W.fnOf "end_of" "end_of" (defArgs s_end_of) (defBody s_end_of) (defScope s_end_of) .none kV15 dc15 pm15 an15 cd15 ct15), sl15⟩) (c15 : PySem.W.codeIn K cd15 "end_of" = true) (k15 : PySem.W.keepIn K (.ref f15) = true)
    (a16 : PySem.W.nsIn K mainGlobals "is_repeat" = some (some (.ref f16))) (l16 : K.lookup f16 = some ⟨oc16, od16, .func (PySem.W.fnOf "is_repeat" "is_repeat" (defArgs s_is_repeat) (defBody s_is_repeat) (defScope s_is_repeat) .none kV16 dc16 pm16 an16 cd16 ct16), sl16⟩) (c16 : PySem.W.codeIn K cd16 "is_repeat" = true) (k16 : PySem.W.keepIn K (.ref f16) = true)
    (a17 : PySem.W.nsIn K mainGlobals "common" = some (some (.ref f17))) (l17 : K.lookup f17 = some ⟨oc17, od17, .func (PySem.W.fnOf "common" "common" (defArgs s_common) (defBody s_common) (defScope s_common) .none kV17 dc17 pm17 an17 cd17 ct17), sl17⟩) (c17 : PySem.W.codeIn K cd17 "common" = true) (k17 : PySem.W.keepIn K (.ref f17) = true)
    (a18 : PySem.W.nsIn K mainGlobals "merged" = some (some (.ref f18))) (l18 : K.lookup f18 = some ⟨oc18, od18, .func (PySem.W.fnOf "merged" "merged" (defArgs s_merged) (defBody s_merged) (defScope s_merged) .none kV18 dc18 pm18 an18 cd18 ct18), sl18⟩) (c18 : PySem.W.codeIn K cd18 "merged" = true) (k18 : PySem.W.keepIn K (.ref f18) = true)
    (a19 : PySem.W.nsIn K mainGlobals "_law_why" = some (some (.ref f19))) (l19 : K.lookup f19 = some ⟨oc19, od19, .func (PySem.W.fnOf "_law_why" "_law_why" (defArgs s_why) (defBody s_why) (defScope s_why) .none kV19 dc19 pm19 an19 cd19 ct19), sl19⟩) (c19 : PySem.W.codeIn K cd19 "_law_why" = true) (k19 : PySem.W.keepIn K (.ref f19) = true)
    (a20 : PySem.W.nsIn K mainGlobals "_law_fields" = some (some (.ref f20))) (l20 : K.lookup f20 = some ⟨oc20, od20, .func (PySem.W.fnOf "_law_fields" "_law_fields" (defArgs s_fields) (defBody s_fields) (defScope s_fields) .none kV20 dc20 pm20 an20 cd20 ct20), sl20⟩) (c20 : PySem.W.codeIn K cd20 "_law_fields" = true) (k20 : PySem.W.keepIn K (.ref f20) = true)
    (a21 : PySem.W.nsIn K mainGlobals "law" = some (some (.ref f21))) (l21 : K.lookup f21 = some ⟨oc21, od21, .func (PySem.W.fnOf "law" "law" (defArgs s_law) (defBody s_law) (defScope s_law) .none kV21 dc21 pm21 an21 (.ref c) ct21), sl21⟩) (c21 : PySem.W.codeIn K (.ref c) "law" = true) (k21 : PySem.W.keepIn K (.ref f21) = true)
    (z0 : PySem.W.nsIn K mainGlobals "len" = some none) (z1 : PySem.W.nsIn K mainGlobals "list" = some none) (z2 : PySem.W.nsIn K mainGlobals "tuple" = some none) (z3 : PySem.W.nsIn K mainGlobals "bool" = some none)
    (z4 : PySem.W.nsIn K mainGlobals "int" = some none) (z5 : PySem.W.nsIn K mainGlobals "str" = some none) (z6 : PySem.W.nsIn K mainGlobals "isinstance" = some none) (z7 : PySem.W.nsIn K mainGlobals "all" = some none)
    (z8 : PySem.W.nsIn K mainGlobals "any" = some none) (z9 : PySem.W.nsIn K mainGlobals "range" = some none) (z10 : PySem.W.nsIn K mainGlobals "max" = some none) (z11 : PySem.W.nsIn K mainGlobals "min" = some none)
    (z12 : PySem.W.nsIn K mainGlobals "dict" = some none) (z13 : PySem.W.nsIn K mainGlobals "sorted" = some none) (zV : PySem.W.nsIn K mainGlobals "ValueError" = some none) (hP : PySem.W.codeHdIn K c Pt = true)
    (nP : K.lookup Pt = none) (gF : PySem.W.nsIn K mainGlobals "FarError" = some (some (.ref C_FarError))) (TF : ClsFn K C_FarError "__init__" f_FarError) (FF : FunD K "__init__" "FarError.__init__" (defArgs s_farinit) (defBody s_farinit) (defScope s_farinit) [.str ""] [] f_FarError fdF)
    (fF8 : PySem.W.findCls K (.type "ValueError") (.type "type") "__init__" = some (.val (.builtin "ValueError.__init__"))) (g_BadMove : PySem.W.nsIn K mainGlobals "BadMove" = some (some (.ref C_BadMove))) (E_BadMove : ErrT K C_BadMove) (XF_BadMove : XfC K C_BadMove)
    (EC_BadMove : ExcC K C_BadMove) (M_BadMove : PySem.W.exmOne K (.ref C_BadMove) (.ref C_FarError) = some true) (n_BadMove_move : PySem.W.findIn K (.ref C_BadMove) "move" = some none) (i_BadMove : PySem.W.findIn K (.ref C_BadMove) "__init__" = some (some (.ref f_BadMove)))
    (t_BadMove : PySem.W.typeIn K (.ref f_BadMove) = some (.type "function")) (l_BadMove : K.lookup f_BadMove = some ⟨oc_BadMove, od_BadMove, .func (PySem.W.fnOf "__init__" "BadMove.__init__" (defArgs s_bminit) (defBody s_bminit) (defScope s_bminit) .none kV_BadMove dc_BadMove pm_BadMove an_BadMove cd_BadMove ct_BadMove), sl_BadMove⟩) (c_BadMove : PySem.W.codeIn K cd_BadMove "BadMove.__init__" = true) (k_BadMove : PySem.W.keepIn K (.ref f_BadMove) = true)
    (g_BadNumber : PySem.W.nsIn K mainGlobals "BadNumber" = some (some (.ref C_BadNumber))) (g_NoMating : PySem.W.nsIn K mainGlobals "NoMating" = some (some (.ref C_NoMating))) (g_NoFamily : PySem.W.nsIn K mainGlobals "NoFamily" = some (some (.ref C_NoFamily))) (g_TooMuch : PySem.W.nsIn K mainGlobals "TooMuch" = some (some (.ref C_TooMuch)))
    (g_BadName : PySem.W.nsIn K mainGlobals "BadName" = some (some (.ref C_BadName))) (g_Taken : PySem.W.nsIn K mainGlobals "Taken" = some (some (.ref C_Taken))) (g_NoRoad : PySem.W.nsIn K mainGlobals "NoRoad" = some (some (.ref C_NoRoad))) (g_BadMating : PySem.W.nsIn K mainGlobals "BadMating" = some (some (.ref C_BadMating)))
    (g_BadPlace : PySem.W.nsIn K mainGlobals "BadPlace" = some (some (.ref C_BadPlace))) (g_BadStretch : PySem.W.nsIn K mainGlobals "BadStretch" = some (some (.ref C_BadStretch))) (zf_enumerate : PySem.W.nsIn K mainGlobals "enumerate" = some none) (g_Front : PySem.W.nsIn K mainGlobals "Front" = some (some (.ref C_Front)))
    (clC : Cls K C_Front) (mkC : PySem.W.makesIn K C_Front = true) (kcC : PySem.W.keepIn K (.ref C_Front) = true) (na_edge : PySem.W.findIn K (.ref C_Front) "edge" = some none)
    (na_standing : PySem.W.findIn K (.ref C_Front) "standing" = some none) (na_past : PySem.W.findIn K (.ref C_Front) "past" = some none) (ma___init__ : PySem.W.findIn K (.ref C_Front) "__init__" = some (some (.ref fm___init__))) (mi___init__ : PySem.W.isFn K (.ref fm___init__) = true)
    (ml___init__ : K.lookup fm___init__ = some ⟨ocm___init__, odm___init__, .func (PySem.W.fnOf "__init__" "Front.__init__" (defArgs s_Finit) (defBody s_Finit) (defScope s_Finit) .none kVm___init__ dcm___init__ pmm___init__ anm___init__ cdm___init__ ctm___init__), slm___init__⟩) (mc___init__ : PySem.W.codeIn K cdm___init__ "Front.__init__" = true) (mp___init__ : PySem.W.keepIn K (.ref fm___init__) = true) (ma_make : PySem.W.findIn K (.ref C_Front) "make" = some (some (.ref fm_make)))
    (mi_make : PySem.W.isFn K (.ref fm_make) = true) (ml_make : K.lookup fm_make = some ⟨ocm_make, odm_make, .func (PySem.W.fnOf "make" "Front.make" (defArgs s_Fmake) (defBody s_Fmake) (defScope s_Fmake) .none kVm_make dcm_make pmm_make anm_make cdm_make ctm_make), slm_make⟩) (mc_make : PySem.W.codeIn K cdm_make "Front.make" = true) (mp_make : PySem.W.keepIn K (.ref fm_make) = true)
    (ma_made : PySem.W.findIn K (.ref C_Front) "made" = some (some (.ref fm_made))) (mi_made : PySem.W.isFn K (.ref fm_made) = true) (ml_made : K.lookup fm_made = some ⟨ocm_made, odm_made, .func (PySem.W.fnOf "made" "Front.made" (defArgs s_Fmade) (defBody s_Fmade) (defScope s_Fmade) .none kVm_made dcm_made pmm_made anm_made cdm_made ctm_made), slm_made⟩) (mc_made : PySem.W.codeIn K cdm_made "Front.made" = true)
    (mp_made : PySem.W.keepIn K (.ref fm_made) = true) (ma_halve : PySem.W.findIn K (.ref C_Front) "halve" = some (some (.ref fm_halve))) (mi_halve : PySem.W.isFn K (.ref fm_halve) = true) (ml_halve : K.lookup fm_halve = some ⟨ocm_halve, odm_halve, .func (PySem.W.fnOf "halve" "Front.halve" (defArgs s_Fhalve) (defBody s_Fhalve) (defScope s_Fhalve) .none kVm_halve dcm_halve pmm_halve anm_halve cdm_halve ctm_halve), slm_halve⟩)
    (mc_halve : PySem.W.codeIn K cdm_halve "Front.halve" = true) (mp_halve : PySem.W.keepIn K (.ref fm_halve) = true) (ma_merge : PySem.W.findIn K (.ref C_Front) "merge" = some (some (.ref fm_merge))) (mi_merge : PySem.W.isFn K (.ref fm_merge) = true)
    (ml_merge : K.lookup fm_merge = some ⟨ocm_merge, odm_merge, .func (PySem.W.fnOf "merge" "Front.merge" (defArgs s_Fmerge) (defBody s_Fmerge) (defScope s_Fmerge) .none kVm_merge dcm_merge pmm_merge anm_merge cdm_merge ctm_merge), slm_merge⟩) (mc_merge : PySem.W.codeIn K cdm_merge "Front.merge" = true) (mp_merge : PySem.W.keepIn K (.ref fm_merge) = true) (ma_put : PySem.W.findIn K (.ref C_Front) "put" = some (some (.ref fm_put)))
    (mi_put : PySem.W.isFn K (.ref fm_put) = true) (ml_put : K.lookup fm_put = some ⟨ocm_put, odm_put, .func (PySem.W.fnOf "put" "Front.put" (defArgs s_Fput) (defBody s_Fput) (defScope s_Fput) .none kVm_put dcm_put pmm_put anm_put cdm_put ctm_put), slm_put⟩) (mc_put : PySem.W.codeIn K cdm_put "Front.put" = true) (mp_put : PySem.W.keepIn K (.ref fm_put) = true)
    (ma_left : PySem.W.findIn K (.ref C_Front) "left" = some (some (.ref fm_left))) (mi_left : PySem.W.isFn K (.ref fm_left) = true) (ml_left : K.lookup fm_left = some ⟨ocm_left, odm_left, .func (PySem.W.fnOf "left" "Front.left" (defArgs s_Fleft) (defBody s_Fleft) (defScope s_Fleft) .none kVm_left dcm_left pmm_left anm_left cdm_left ctm_left), slm_left⟩) (mc_left : PySem.W.codeIn K cdm_left "Front.left" = true)
    (mp_left : PySem.W.keepIn K (.ref fm_left) = true) (self_BadMove : PySem.W.subIn K (.ref C_BadMove) (.ref C_BadMove) = some true) (ns_BadNumber : PySem.W.subIn K (.ref C_BadMove) (.ref C_BadNumber) = some false) (nc_BadNumber : PySem.W.isClsIn K C_BadNumber = true)
    (nt_BadNumber : PySem.W.typeIn K (.ref C_BadNumber) = some (.type "type")) (ns_NoMating : PySem.W.subIn K (.ref C_BadMove) (.ref C_NoMating) = some false) (nc_NoMating : PySem.W.isClsIn K C_NoMating = true) (nt_NoMating : PySem.W.typeIn K (.ref C_NoMating) = some (.type "type"))
    (ns_NoFamily : PySem.W.subIn K (.ref C_BadMove) (.ref C_NoFamily) = some false) (nc_NoFamily : PySem.W.isClsIn K C_NoFamily = true) (nt_NoFamily : PySem.W.typeIn K (.ref C_NoFamily) = some (.type "type")) (ns_TooMuch : PySem.W.subIn K (.ref C_BadMove) (.ref C_TooMuch) = some false)
    (nc_TooMuch : PySem.W.isClsIn K C_TooMuch = true) (nt_TooMuch : PySem.W.typeIn K (.ref C_TooMuch) = some (.type "type")) (ns_BadName : PySem.W.subIn K (.ref C_BadMove) (.ref C_BadName) = some false) (nc_BadName : PySem.W.isClsIn K C_BadName = true)
    (nt_BadName : PySem.W.typeIn K (.ref C_BadName) = some (.type "type")) (ns_Taken : PySem.W.subIn K (.ref C_BadMove) (.ref C_Taken) = some false) (nc_Taken : PySem.W.isClsIn K C_Taken = true) (nt_Taken : PySem.W.typeIn K (.ref C_Taken) = some (.type "type"))
    (ns_NoRoad : PySem.W.subIn K (.ref C_BadMove) (.ref C_NoRoad) = some false) (nc_NoRoad : PySem.W.isClsIn K C_NoRoad = true) (nt_NoRoad : PySem.W.typeIn K (.ref C_NoRoad) = some (.type "type")) (ns_BadMating : PySem.W.subIn K (.ref C_BadMove) (.ref C_BadMating) = some false)
    (nc_BadMating : PySem.W.isClsIn K C_BadMating = true) (nt_BadMating : PySem.W.typeIn K (.ref C_BadMating) = some (.type "type")) (ns_BadPlace : PySem.W.subIn K (.ref C_BadMove) (.ref C_BadPlace) = some false) (nc_BadPlace : PySem.W.isClsIn K C_BadPlace = true)
    (nt_BadPlace : PySem.W.typeIn K (.ref C_BadPlace) = some (.type "type")) (ns_BadStretch : PySem.W.subIn K (.ref C_BadMove) (.ref C_BadStretch) = some false) (nc_BadStretch : PySem.W.isClsIn K C_BadStretch = true) (nt_BadStretch : PySem.W.typeIn K (.ref C_BadStretch) = some (.type "type"))
    (g_FAR : PySem.W.nsIn K mainGlobals "FAR" = some (some (.int 1000000000000000000 tk_FAR))) (g_MOST : PySem.W.nsIn K mainGlobals "MOST" = some (some (.int 24 tk_MOST))) :
    LamX.LawAtS l w K CX0 9 63 "_law_script" mg fa h := by
  have e := hfa.symm.trans (PySem.W.mg_of X G a21)
  cases e
  have B : Bn mg := ⟨PySem.W.mg_none_of X G z0, PySem.W.mg_none_of X G z1, PySem.W.mg_none_of X G z2, PySem.W.mg_none_of X G z3, PySem.W.mg_none_of X G z4, PySem.W.mg_none_of X G z5, PySem.W.mg_none_of X G z6, PySem.W.mg_none_of X G z7, PySem.W.mg_none_of X G z8, PySem.W.mg_none_of X G z9, PySem.W.mg_none_of X G z10, PySem.W.mg_none_of X G z11, PySem.W.mg_none_of X G z12, PySem.W.mg_none_of X G z13⟩
  have F0 := fun_mk (st := s_open) l0 c0 k0
  have D_open : DefAt K mg "_law_open" s_open P_open _ _ := ⟨F0, F0.binds (ps := P_open) fun _ _ _ _ _ _ => by exact len1 (fun _ => rfl), PySem.W.mg_of X G a0⟩
  have F1 := fun_mk (st := s_pull) l1 c1 k1
  have D_pull : DefAt K mg "_law_pull" s_pull P_pull _ _ := ⟨F1, F1.binds (ps := P_pull) fun _ _ _ _ _ _ => by exact len2 (fun _ _ => rfl), PySem.W.mg_of X G a1⟩
  have F2 := fun_mk (st := s_like) l2 c2 k2
  have D_like : DefAt K mg "_law_like" s_like P_like _ _ := ⟨F2, F2.binds (ps := P_like) fun _ _ _ _ _ _ => by exact len2 (fun _ _ => rfl), PySem.W.mg_of X G a2⟩
  have F3 := fun_mk (st := s_join_two) l3 c3 k3
  have D_join_two : DefAt K mg "_law_join_two" s_join_two P_join_two _ _ := ⟨F3, F3.binds (ps := P_join_two) fun _ _ _ _ _ _ => by exact len2 (fun _ _ => rfl), PySem.W.mg_of X G a3⟩
  have F4 := fun_mk (st := s_need_from) l4 c4 k4
  have D_need_from : DefAt K mg "need_from" s_need_from P_need_from _ _ := ⟨F4, F4.binds (ps := P_need_from) fun _ _ _ _ _ _ => by exact len2 (fun _ _ => rfl), PySem.W.mg_of X G a4⟩
  have F5 := fun_mk (st := s_need_within) l5 c5 k5
  have D_need_within : DefAt K mg "need_within" s_need_within P_need_within _ _ := ⟨F5, F5.binds (ps := P_need_within) fun _ _ _ _ _ _ => by exact len3 (fun _ _ _ => rfl), PySem.W.mg_of X G a5⟩
  have F6 := fun_mk (st := s_need_length) l6 c6 k6
  have D_need_length : DefAt K mg "need_length" s_need_length P_need_length _ _ := ⟨F6, F6.binds (ps := P_need_length) fun _ _ _ _ _ _ => by exact len1 (fun _ => rfl), PySem.W.mg_of X G a6⟩
  have F7 := fun_mk (st := s_need_mating) l7 c7 k7
  have D_need_mating : DefAt K mg "need_mating" s_need_mating P_need_mating _ _ := ⟨F7, F7.binds (ps := P_need_mating) fun _ _ _ _ _ _ => by exact len2 (fun _ _ => rfl), PySem.W.mg_of X G a7⟩
  have F8 := fun_mk (st := s_need_road) l8 c8 k8
  have D_need_road : DefAt K mg "need_road" s_need_road P_need_road _ _ := ⟨F8, F8.binds (ps := P_need_road) fun _ _ _ _ _ _ => by exact len2 (fun _ _ => rfl), PySem.W.mg_of X G a8⟩
  have F9 := fun_mk (st := s_is_mating) l9 c9 k9
  have D_is_mating : DefAt K mg "is_mating" s_is_mating P_is_mating _ _ := ⟨F9, F9.binds (ps := P_is_mating) fun _ _ _ _ _ _ => by exact len2 (fun _ _ => rfl), PySem.W.mg_of X G a9⟩
  have F10 := fun_mk (st := s_normal) l10 c10 k10
  have D_normal : DefAt K mg "normal" s_normal P_normal _ _ := ⟨F10, F10.binds (ps := P_normal) fun _ _ _ _ _ _ => by exact len1 (fun _ => rfl), PySem.W.mg_of X G a10⟩
  have F11 := fun_mk (st := s_back) l11 c11 k11
  have D_back : DefAt K mg "back" s_back P_back _ _ := ⟨F11, F11.binds (ps := P_back) fun _ _ _ _ _ _ => by exact len1 (fun _ => rfl), PySem.W.mg_of X G a11⟩
  have F12 := fun_mk (st := s_halved) l12 c12 k12
  have D_halved : DefAt K mg "halved" s_halved P_halved _ _ := ⟨F12, F12.binds (ps := P_halved) fun _ _ _ _ _ _ => by exact len1 (fun _ => rfl), PySem.W.mg_of X G a12⟩
  have F13 := fun_mk (st := s_is_leader) l13 c13 k13
  have D_is_leader : DefAt K mg "is_leader" s_is_leader P_is_leader _ _ := ⟨F13, F13.binds (ps := P_is_leader) fun _ _ _ _ _ _ => by exact len1 (fun _ => rfl), PySem.W.mg_of X G a13⟩
  have F14 := fun_mk (st := s_step_of) l14 c14 k14
  have D_step_of : DefAt K mg "step_of" s_step_of P_step_of _ _ := ⟨F14, F14.binds (ps := P_step_of) fun _ _ _ _ _ _ => by exact len1 (fun _ => rfl), PySem.W.mg_of X G a14⟩
  have F15 := fun_mk (st := s_end_of) l15 c15 k15
  have D_end_of : DefAt K mg "end_of" s_end_of P_end_of _ _ := ⟨F15, F15.binds (ps := P_end_of) fun _ _ _ _ _ _ => by exact len1 (fun _ => rfl), PySem.W.mg_of X G a15⟩
  have F16 := fun_mk (st := s_is_repeat) l16 c16 k16
  have D_is_repeat : DefAt K mg "is_repeat" s_is_repeat P_is_repeat _ _ := ⟨F16, F16.binds (ps := P_is_repeat) fun _ _ _ _ _ _ => by exact len1 (fun _ => rfl), PySem.W.mg_of X G a16⟩
  have F17 := fun_mk (st := s_common) l17 c17 k17
  have D_common : DefAt K mg "common" s_common P_common _ _ := ⟨F17, F17.binds (ps := P_common) fun _ _ _ _ _ _ => by exact len2 (fun _ _ => rfl), PySem.W.mg_of X G a17⟩
  have F18 := fun_mk (st := s_merged) l18 c18 k18
  have D_merged : DefAt K mg "merged" s_merged P_merged _ _ := ⟨F18, F18.binds (ps := P_merged) fun _ _ _ _ _ _ => by exact len2 (fun _ _ => rfl), PySem.W.mg_of X G a18⟩
  have F19 := fun_mk (st := s_why) l19 c19 k19
  have D_why : DefAt K mg "_law_why" s_why P_why _ _ := ⟨F19, F19.binds (ps := P_why) fun _ _ _ _ _ _ => by exact len1 (fun _ => rfl), PySem.W.mg_of X G a19⟩
  have F20 := fun_mk (st := s_fields) l20 c20 k20
  have D_fields : DefAt K mg "_law_fields" s_fields P_fields _ _ := ⟨F20, F20.binds (ps := P_fields) fun _ _ _ _ _ _ => by exact len1 (fun _ => rfl), PySem.W.mg_of X G a20⟩
  have GF : ∀ base : Heap, FnOk l.prog w K mg base CX0 1 f_FarError _ N_farinit (spFarInit K) := fun base => ok_farinit FF (PySem.W.mg_none_of X G zV) fF8
  have FI_BadMove := fun_mk (x := "__init__") (qual := "BadMove.__init__") (st := s_bminit) l_BadMove c_BadMove k_BadMove
  have bI_BadMove := FI_BadMove.binds (ps := N_bminit) fun _ _ _ _ _ _ => by exact len2 (fun _ _ => rfl)
  have F_init := fun_mk (x := "__init__") (qual := "Front.__init__") (st := s_Finit) ml___init__ mc___init__ mp___init__
  have b_init := F_init.binds (ps := P_Finit) fun _ _ _ _ _ _ => by exact len3 (fun _ _ _ => rfl)
  have mkF : Mk K C_Front fm___init__ := ⟨mkC, ma___init__, mi___init__, kcC⟩
  have F_make := fun_mk (x := "make") (qual := "Front.make") (st := s_Fmake) ml_make mc_make mp_make
  have b_make := F_make.binds (ps := P_Fmake) fun _ _ _ _ _ _ => by exact len2 (fun _ _ => rfl)
  have M_make : Meth K C_Front "make" fm_make := ⟨ma_make, mi_make, mp_make⟩
  have F_made := fun_mk (x := "made") (qual := "Front.made") (st := s_Fmade) ml_made mc_made mp_made
  have b_made := F_made.binds (ps := P_Fmade) fun _ _ _ _ _ _ => by exact len2 (fun _ _ => rfl)
  have M_made : Meth K C_Front "made" fm_made := ⟨ma_made, mi_made, mp_made⟩
  have F_halve := fun_mk (x := "halve") (qual := "Front.halve") (st := s_Fhalve) ml_halve mc_halve mp_halve
  have b_halve := F_halve.binds (ps := P_Fhalve) fun _ _ _ _ _ _ => by exact len2 (fun _ _ => rfl)
  have M_halve : Meth K C_Front "halve" fm_halve := ⟨ma_halve, mi_halve, mp_halve⟩
  have F_merge := fun_mk (x := "merge") (qual := "Front.merge") (st := s_Fmerge) ml_merge mc_merge mp_merge
  have b_merge := F_merge.binds (ps := P_Fmerge) fun _ _ _ _ _ _ => by exact len3 (fun _ _ _ => rfl)
  have M_merge : Meth K C_Front "merge" fm_merge := ⟨ma_merge, mi_merge, mp_merge⟩
  have F_put := fun_mk (x := "put") (qual := "Front.put") (st := s_Fput) ml_put mc_put mp_put
  have b_put := F_put.binds (ps := P_Fput) fun _ _ _ _ _ _ => by exact len3 (fun _ _ _ => rfl)
  have M_put : Meth K C_Front "put" fm_put := ⟨ma_put, mi_put, mp_put⟩
  have F_left := fun_mk (x := "left") (qual := "Front.left") (st := s_Fleft) ml_left mc_left mp_left
  have b_left := F_left.binds (ps := P_Fleft) fun _ _ _ _ _ _ => by exact len1 (fun _ => rfl)
  have M_left : Meth K C_Front "left" fm_left := ⟨ma_left, mi_left, mp_left⟩
  have T : FrT K mg C_Front := ⟨PySem.W.mg_of X G g_Front, clC, na_edge, na_standing, na_past⟩
  have Te : ErT K mg C_FarError C_BadMove f_BadMove _ "BadMove" N_bminit := ⟨PySem.W.mg_of X G gF, PySem.W.mg_of X G g_BadMove, E_BadMove, XF_BadMove, EC_BadMove, i_BadMove, t_BadMove, bI_BadMove, M_BadMove⟩
  have no1 : ∀ D, PySem.W.subIn K (.ref C_BadMove) (.ref D) = some false → PySem.W.isClsIn K D = true → PySem.W.typeIn K (.ref D) = some (.type "type") → PySem.W.kitOne K (.ref C_BadMove) (.ref D) = some false := fun D h1 h2 h3 => kit_no self_BadMove h1 h2 h3
  have Ot : OthT K mg C_BadMove C_BadNumber C_NoMating C_NoFamily C_TooMuch C_BadName C_Taken C_NoRoad C_BadMating C_BadPlace := ⟨PySem.W.mg_of X G g_BadNumber, PySem.W.mg_of X G g_NoMating, PySem.W.mg_of X G g_NoFamily, PySem.W.mg_of X G g_TooMuch, PySem.W.mg_of X G g_BadName, PySem.W.mg_of X G g_Taken, PySem.W.mg_of X G g_NoRoad, PySem.W.mg_of X G g_BadMating, PySem.W.mg_of X G g_BadPlace, List.forall_mem_cons.mpr ⟨no1 _ ns_BadNumber nc_BadNumber nt_BadNumber, List.forall_mem_cons.mpr ⟨no1 _ ns_NoMating nc_NoMating nt_NoMating, List.forall_mem_cons.mpr ⟨no1 _ ns_NoFamily nc_NoFamily nt_NoFamily, List.forall_mem_cons.mpr ⟨no1 _ ns_TooMuch nc_TooMuch nt_TooMuch, List.forall_mem_cons.mpr ⟨no1 _ ns_BadName nc_BadName nt_BadName, List.forall_mem_cons.mpr ⟨no1 _ ns_Taken nc_Taken nt_Taken, List.forall_mem_cons.mpr ⟨no1 _ ns_NoRoad nc_NoRoad nt_NoRoad, List.forall_mem_cons.mpr ⟨no1 _ ns_BadMating nc_BadMating nt_BadMating, List.forall_mem_cons.mpr ⟨no1 _ ns_BadPlace nc_BadPlace nt_BadPlace, fun _ h => (by cases h)⟩⟩⟩⟩⟩⟩⟩⟩⟩⟩
  refine ⟨PySem.W.fnOf "law" "law" (defArgs s_law) (defBody s_law) (defScope s_law) .none kV21 dc21 pm21 an21 (.ref c) ct21, [(c, Pt)], spLawT K Pt, fun p hp => ?_, fun p hp => ?_, fun p hp => ?_, fun s u => ?b, fun H a ns hl _ hH hS => ⟨a, ns, rfl, hS, hl, hH _ List.mem_cons_self, fun _ => rfl⟩, fun base KB GB TB => ?ok⟩
  case ok =>
    exact ok_law l21 c21 (TB _ List.mem_cons_self) D_open D_pull D_like D_join_two D_why D_fields Te n_BadMove_move Ot (PySem.W.mg_of X G g_BadStretch) (no1 _ ns_BadStretch nc_BadStretch nt_BadStretch) T mkF (ok_Finit F_init T D_need_road D_need_from D_need_within D_need_length D_need_mating D_is_mating D_normal D_back (PySem.W.mg_of X G g_FAR) (PySem.W.mg_of X G g_MOST) (PySem.W.mg_none_of X G zf_enumerate) B) b_init M_make (ok_make F_make T M_made (ok_made F_made T M_halve (ok_halve F_halve T M_put (ok_put F_put T D_normal D_back) b_put D_halved D_is_leader D_step_of) b_halve M_merge (ok_merge F_merge T M_put (ok_put F_put T D_normal D_back) b_put D_merged D_step_of D_end_of D_is_repeat D_common B) b_merge) b_made B Te n_BadMove_move (ok_bminit FI_BadMove (PySem.W.mg_of X G gF) TF (far_binds FF) (GF base))) b_make M_left (ok_left F_left T B) b_left B
  case b => exact .of_eq rfl
  · rw [List.mem_singleton.mp hp]; exact hT
  · rw [List.mem_singleton.mp hp]; exact nP
  · rw [List.mem_singleton.mp hp]; exact PySem.W.codeHd_of_K X hP
def fnL0 : List He.DefD := [dD "_law_open" s_open, dD "_law_pull" s_pull, dD "_law_like" s_like, dD "_law_join_two" s_join_two, dD "need_from" s_need_from, dD "need_within" s_need_within, dD "need_length" s_need_length, dD "need_mating" s_need_mating, dD "need_road" s_need_road, dD "is_mating" s_is_mating, dD "normal" s_normal, dD "back" s_back, dD "halved" s_halved, dD "is_leader" s_is_leader, dD "step_of" s_step_of, dD "end_of" s_end_of, dD "is_repeat" s_is_repeat, dD "common" s_common, dD "merged" s_merged, dD "_law_why" s_why, dD "_law_fields" s_fields, dD "law" s_law, dMs "FarError" "__init__" "FarError.__init__" s_farinit, dM "BadMove" "__init__" "BadMove.__init__" s_bminit, dM "Front" "__init__" "Front.__init__" s_Finit, dM "Front" "make" "Front.make" s_Fmake, dM "Front" "made" "Front.made" s_Fmade, dM "Front" "halve" "Front.halve" s_Fhalve, dM "Front" "merge" "Front.merge" s_Fmerge, dM "Front" "put" "Front.put" s_Fput]
def fnL1 : List He.DefD := [dM "Front" "left" "Front.left" s_Fleft]
def fnL : List He.DefD := fnL0 ++ fnL1
def faL0 : List He.Fa := [.glo "_law_open", .glo "_law_pull", .glo "_law_like", .glo "_law_join_two", .glo "need_from", .glo "need_within", .glo "need_length", .glo "need_mating", .glo "need_road", .glo "is_mating", .glo "normal", .glo "back", .glo "halved", .glo "is_leader", .glo "step_of", .glo "end_of", .glo "is_repeat", .glo "common", .glo "merged", .glo "_law_why", .glo "_law_fields", .glo "law", .free "len", .free "list", .free "tuple", .free "bool", .free "int", .free "str", .free "isinstance", .free "all"]
def faL1 : List He.Fa := [.free "any", .free "range", .free "max", .free "min", .free "dict", .free "sorted", .free "ValueError", .glo "FarError", .glo "BadMove", .noat "BadMove" "move", .glo "BadNumber", .glo "NoMating", .glo "NoFamily", .glo "TooMuch", .glo "BadName", .glo "Taken", .glo "NoRoad", .glo "BadMating", .glo "BadPlace", .glo "BadStretch", .free "enumerate", .glo "Front", .cls "Front", .noat "Front" "edge", .noat "Front" "standing", .noat "Front" "past", .int "FAR" 1000000000000000000, .int "MOST" 24]
def faL : List He.Fa := faL0 ++ faL1
def exL0 (K : PySem.W.Frag) : List Bool := [cfnB K (He.ga K "FarError") "__init__" (He.ma K (He.ga K "FarError") "__init__"), bltB K "ValueError" "__init__" "ValueError.__init__", errB K (He.ga K "BadMove"), xfB K (He.ga K "BadMove"), excB K (He.ga K "BadMove"), decide (PySem.W.exmOne K (.ref (He.ga K "BadMove")) (.ref (He.ga K "FarError")) = some true), He.eqO (PySem.W.findIn K (.ref (He.ga K "BadMove")) "__init__") (some (some (.ref (He.ma K (He.ga K "BadMove") "__init__")))), decide (PySem.W.typeIn K (.ref (He.ma K (He.ga K "BadMove") "__init__")) = some (.type "function")), PySem.W.makesIn K (He.ga K "Front"), PySem.W.keepIn K (.ref (He.ga K "Front")), He.eqO (PySem.W.findIn K (.ref (He.ga K "Front")) "__init__") (some (some (.ref (He.ma K (He.ga K "Front") "__init__")))), PySem.W.isFn K (.ref (He.ma K (He.ga K "Front") "__init__")), He.eqO (PySem.W.findIn K (.ref (He.ga K "Front")) "make") (some (some (.ref (He.ma K (He.ga K "Front") "make")))), PySem.W.isFn K (.ref (He.ma K (He.ga K "Front") "make")), He.eqO (PySem.W.findIn K (.ref (He.ga K "Front")) "made") (some (some (.ref (He.ma K (He.ga K "Front") "made")))), PySem.W.isFn K (.ref (He.ma K (He.ga K "Front") "made")), He.eqO (PySem.W.findIn K (.ref (He.ga K "Front")) "halve") (some (some (.ref (He.ma K (He.ga K "Front") "halve")))), PySem.W.isFn K (.ref (He.ma K (He.ga K "Front") "halve")), He.eqO (PySem.W.findIn K (.ref (He.ga K "Front")) "merge") (some (some (.ref (He.ma K (He.ga K "Front") "merge")))), PySem.W.isFn K (.ref (He.ma K (He.ga K "Front") "merge")), He.eqO (PySem.W.findIn K (.ref (He.ga K "Front")) "put") (some (some (.ref (He.ma K (He.ga K "Front") "put")))), PySem.W.isFn K (.ref (He.ma K (He.ga K "Front") "put")), He.eqO (PySem.W.findIn K (.ref (He.ga K "Front")) "left") (some (some (.ref (He.ma K (He.ga K "Front") "left")))), PySem.W.isFn K (.ref (He.ma K (He.ga K "Front") "left")), decide (PySem.W.subIn K (.ref (He.ga K "BadMove")) (.ref (He.ga K "BadMove")) = some true), decide (PySem.W.subIn K (.ref (He.ga K "BadMove")) (.ref (He.ga K "BadNumber")) = some false), PySem.W.isClsIn K (He.ga K "BadNumber"), decide (PySem.W.typeIn K (.ref (He.ga K "BadNumber")) = some (.type "type")), decide (PySem.W.subIn K (.ref (He.ga K "BadMove")) (.ref (He.ga K "NoMating")) = some false), PySem.W.isClsIn K (He.ga K "NoMating")]
def exL1 (K : PySem.W.Frag) : List Bool := [decide (PySem.W.typeIn K (.ref (He.ga K "NoMating")) = some (.type "type")), decide (PySem.W.subIn K (.ref (He.ga K "BadMove")) (.ref (He.ga K "NoFamily")) = some false), PySem.W.isClsIn K (He.ga K "NoFamily"), decide (PySem.W.typeIn K (.ref (He.ga K "NoFamily")) = some (.type "type")), decide (PySem.W.subIn K (.ref (He.ga K "BadMove")) (.ref (He.ga K "TooMuch")) = some false), PySem.W.isClsIn K (He.ga K "TooMuch"), decide (PySem.W.typeIn K (.ref (He.ga K "TooMuch")) = some (.type "type")), decide (PySem.W.subIn K (.ref (He.ga K "BadMove")) (.ref (He.ga K "BadName")) = some false), PySem.W.isClsIn K (He.ga K "BadName"), decide (PySem.W.typeIn K (.ref (He.ga K "BadName")) = some (.type "type")), decide (PySem.W.subIn K (.ref (He.ga K "BadMove")) (.ref (He.ga K "Taken")) = some false), PySem.W.isClsIn K (He.ga K "Taken"), decide (PySem.W.typeIn K (.ref (He.ga K "Taken")) = some (.type "type")), decide (PySem.W.subIn K (.ref (He.ga K "BadMove")) (.ref (He.ga K "NoRoad")) = some false), PySem.W.isClsIn K (He.ga K "NoRoad"), decide (PySem.W.typeIn K (.ref (He.ga K "NoRoad")) = some (.type "type")), decide (PySem.W.subIn K (.ref (He.ga K "BadMove")) (.ref (He.ga K "BadMating")) = some false), PySem.W.isClsIn K (He.ga K "BadMating"), decide (PySem.W.typeIn K (.ref (He.ga K "BadMating")) = some (.type "type")), decide (PySem.W.subIn K (.ref (He.ga K "BadMove")) (.ref (He.ga K "BadPlace")) = some false), PySem.W.isClsIn K (He.ga K "BadPlace"), decide (PySem.W.typeIn K (.ref (He.ga K "BadPlace")) = some (.type "type")), decide (PySem.W.subIn K (.ref (He.ga K "BadMove")) (.ref (He.ga K "BadStretch")) = some false), PySem.W.isClsIn K (He.ga K "BadStretch"), decide (PySem.W.typeIn K (.ref (He.ga K "BadStretch")) = some (.type "type"))]
def exL (K : PySem.W.Frag) : List Bool := exL0 K ++ exL1 K
def looseL0 : List Str := ["_wall", "FarError", "BadNumber", "BadName", "BadMating", "BadPlace", "BadStretch", "BadMove", "BadMoves", "BadBoard", "BadCounts", "BadSide", "TooMuch", "BadText", "Taken", "Full", "Missing", "NoMating", "NoRoad", "NoSide", "NoFamily", "NothingLeft", "FAR", "MOST", "need_from", "need_within", "need_length", "is_mating", "need_mating", "common"]
def looseL1 : List Str := ["normal", "back", "part", "holds", "clipped", "need_road", "step_of", "end_of", "is_leader", "is_repeat", "halved", "merged", "led_back", "Front", "_law_open", "_law_pull", "_law_like", "_law_fields", "_law_why", "_law_join_two"]
def looseL : List Str := looseL0 ++ looseL1
abbrev RowL : PySem.W.OpenRow := PySem.W.OpenLaw.row PySem.Challenge.rw_farmates_k10_merging_and_halving_seen
abbrev hkL : PySem.W.Hook := hookY faL fnL exL
def obL (s : PySem.W.SharedT) : AlY := obsY faL fnL exL (HandSHeadRun.getT s)
theorem obL_eq (s : PySem.W.SharedT) : obL s = hkL.obs s.abs := obsY_eq s
theorem all_of {w : World} {K : PySem.W.Frag} {h : Heap} {mg : Str → Option Value} {fa : Addr} (X : K.In h) (G : h.Ns mainGlobals mg) (hfa : mg "law" = some (.ref fa)) (c : SaysY faL fnL exL h K) :
    LamX.LawAtS PySem.Challenge.rw_farmates_k10_merging_and_halving_seen w K CX0 9 63 "_law_script" mg fa h := by
  obtain ⟨oc0, od0, sl0, kV0, dc0, pm0, an0, cd0, ct0, l0, c0, k0⟩ := say_def c.d 0 (x := "_law_open") (st := s_open) rfl
  obtain ⟨oc1, od1, sl1, kV1, dc1, pm1, an1, cd1, ct1, l1, c1, k1⟩ := say_def c.d 1 (x := "_law_pull") (st := s_pull) rfl
  obtain ⟨oc2, od2, sl2, kV2, dc2, pm2, an2, cd2, ct2, l2, c2, k2⟩ := say_def c.d 2 (x := "_law_like") (st := s_like) rfl
  obtain ⟨oc3, od3, sl3, kV3, dc3, pm3, an3, cd3, ct3, l3, c3, k3⟩ := say_def c.d 3 (x := "_law_join_two") (st := s_join_two) rfl
  obtain ⟨oc4, od4, sl4, kV4, dc4, pm4, an4, cd4, ct4, l4, c4, k4⟩ := say_def c.d 4 (x := "need_from") (st := s_need_from) rfl
  obtain ⟨oc5, od5, sl5, kV5, dc5, pm5, an5, cd5, ct5, l5, c5, k5⟩ := say_def c.d 5 (x := "need_within") (st := s_need_within) rfl
  obtain ⟨oc6, od6, sl6, kV6, dc6, pm6, an6, cd6, ct6, l6, c6, k6⟩ := say_def c.d 6 (x := "need_length") (st := s_need_length) rfl
  obtain ⟨oc7, od7, sl7, kV7, dc7, pm7, an7, cd7, ct7, l7, c7, k7⟩ := say_def c.d 7 (x := "need_mating") (st := s_need_mating) rfl
  obtain ⟨oc8, od8, sl8, kV8, dc8, pm8, an8, cd8, ct8, l8, c8, k8⟩ := say_def c.d 8 (x := "need_road") (st := s_need_road) rfl
  obtain ⟨oc9, od9, sl9, kV9, dc9, pm9, an9, cd9, ct9, l9, c9, k9⟩ := say_def c.d 9 (x := "is_mating") (st := s_is_mating) rfl
  obtain ⟨oc10, od10, sl10, kV10, dc10, pm10, an10, cd10, ct10, l10, c10, k10⟩ := say_def c.d 10 (x := "normal") (st := s_normal) rfl
  obtain ⟨oc11, od11, sl11, kV11, dc11, pm11, an11, cd11, ct11, l11, c11, k11⟩ := say_def c.d 11 (x := "back") (st := s_back) rfl
  obtain ⟨oc12, od12, sl12, kV12, dc12, pm12, an12, cd12, ct12, l12, c12, k12⟩ := say_def c.d 12 (x := "halved") (st := s_halved) rfl
  obtain ⟨oc13, od13, sl13, kV13, dc13, pm13, an13, cd13, ct13, l13, c13, k13⟩ := say_def c.d 13 (x := "is_leader") (st := s_is_leader) rfl
  obtain ⟨oc14, od14, sl14, kV14, dc14, pm14, an14, cd14, ct14, l14, c14, k14⟩ := say_def c.d 14 (x := "step_of") (st := s_step_of) rfl
  obtain ⟨oc15, od15, sl15, kV15, dc15, pm15, an15, cd15, ct15, l15, c15, k15⟩ := say_def c.d 15 (x := "end_of") (st := s_end_of) rfl
  obtain ⟨oc16, od16, sl16, kV16, dc16, pm16, an16, cd16, ct16, l16, c16, k16⟩ := say_def c.d 16 (x := "is_repeat") (st := s_is_repeat) rfl
  obtain ⟨oc17, od17, sl17, kV17, dc17, pm17, an17, cd17, ct17, l17, c17, k17⟩ := say_def c.d 17 (x := "common") (st := s_common) rfl
  obtain ⟨oc18, od18, sl18, kV18, dc18, pm18, an18, cd18, ct18, l18, c18, k18⟩ := say_def c.d 18 (x := "merged") (st := s_merged) rfl
  obtain ⟨oc19, od19, sl19, kV19, dc19, pm19, an19, cd19, ct19, l19, c19, k19⟩ := say_def c.d 19 (x := "_law_why") (st := s_why) rfl
  obtain ⟨oc20, od20, sl20, kV20, dc20, pm20, an20, cd20, ct20, l20, c20, k20⟩ := say_def c.d 20 (x := "_law_fields") (st := s_fields) rfl
  obtain ⟨oc21, od21, sl21, kV21, dc21, pm21, an21, ct21, l21, c21, k21⟩ := say_law c.d 21 (x := "law") (st := s_law) rfl
  obtain ⟨fdF, FF⟩ := say_far c.d 22 (C := "FarError") (m := "__init__") (q := "FarError.__init__") (st := s_farinit) rfl
  obtain ⟨oc_BadMove, od_BadMove, sl_BadMove, kV_BadMove, dc_BadMove, pm_BadMove, an_BadMove, cd_BadMove, ct_BadMove, l_BadMove, c_BadMove, k_BadMove⟩ := say_meth c.d 23 (C := "BadMove") (m := "__init__") (q := "BadMove.__init__") (st := s_bminit) rfl
  obtain ⟨ocm___init__, odm___init__, slm___init__, kVm___init__, dcm___init__, pmm___init__, anm___init__, cdm___init__, ctm___init__, ml___init__, mc___init__, mp___init__⟩ := say_meth c.d 24 (C := "Front") (m := "__init__") (q := "Front.__init__") (st := s_Finit) rfl
  obtain ⟨ocm_make, odm_make, slm_make, kVm_make, dcm_make, pmm_make, anm_make, cdm_make, ctm_make, ml_make, mc_make, mp_make⟩ := say_meth c.d 25 (C := "Front") (m := "make") (q := "Front.make") (st := s_Fmake) rfl
  obtain ⟨ocm_made, odm_made, slm_made, kVm_made, dcm_made, pmm_made, anm_made, cdm_made, ctm_made, ml_made, mc_made, mp_made⟩ := say_meth c.d 26 (C := "Front") (m := "made") (q := "Front.made") (st := s_Fmade) rfl
  obtain ⟨ocm_halve, odm_halve, slm_halve, kVm_halve, dcm_halve, pmm_halve, anm_halve, cdm_halve, ctm_halve, ml_halve, mc_halve, mp_halve⟩ := say_meth c.d 27 (C := "Front") (m := "halve") (q := "Front.halve") (st := s_Fhalve) rfl
  obtain ⟨ocm_merge, odm_merge, slm_merge, kVm_merge, dcm_merge, pmm_merge, anm_merge, cdm_merge, ctm_merge, ml_merge, mc_merge, mp_merge⟩ := say_meth c.d 28 (C := "Front") (m := "merge") (q := "Front.merge") (st := s_Fmerge) rfl
  obtain ⟨ocm_put, odm_put, slm_put, kVm_put, dcm_put, pmm_put, anm_put, cdm_put, ctm_put, ml_put, mc_put, mp_put⟩ := say_meth c.d 29 (C := "Front") (m := "put") (q := "Front.put") (st := s_Fput) rfl
  obtain ⟨ocm_left, odm_left, slm_left, kVm_left, dcm_left, pmm_left, anm_left, cdm_left, ctm_left, ml_left, mc_left, mp_left⟩ := say_meth c.d 30 (C := "Front") (m := "left") (q := "Front.left") (st := s_Fleft) rfl
  obtain ⟨tk_FAR, g_FAR⟩ := say_int c.d 56 (x := "FAR") (i := 1000000000000000000) rfl
  obtain ⟨tk_MOST, g_MOST⟩ := say_int c.d 57 (x := "MOST") (i := 24) rfl
  exact all_mk X G hfa c.mt
    (He.eqO_ok (c.d.fact 0 rfl)) l0 c0 k0 (He.eqO_ok (c.d.fact 1 rfl)) l1 c1 k1
    (He.eqO_ok (c.d.fact 2 rfl)) l2 c2 k2 (He.eqO_ok (c.d.fact 3 rfl)) l3 c3 k3
    (He.eqO_ok (c.d.fact 4 rfl)) l4 c4 k4 (He.eqO_ok (c.d.fact 5 rfl)) l5 c5 k5
    (He.eqO_ok (c.d.fact 6 rfl)) l6 c6 k6 (He.eqO_ok (c.d.fact 7 rfl)) l7 c7 k7
    (He.eqO_ok (c.d.fact 8 rfl)) l8 c8 k8 (He.eqO_ok (c.d.fact 9 rfl)) l9 c9 k9
    (He.eqO_ok (c.d.fact 10 rfl)) l10 c10 k10 (He.eqO_ok (c.d.fact 11 rfl)) l11 c11 k11
    (He.eqO_ok (c.d.fact 12 rfl)) l12 c12 k12 (He.eqO_ok (c.d.fact 13 rfl)) l13 c13 k13
    (He.eqO_ok (c.d.fact 14 rfl)) l14 c14 k14 (He.eqO_ok (c.d.fact 15 rfl)) l15 c15 k15
    (He.eqO_ok (c.d.fact 16 rfl)) l16 c16 k16 (He.eqO_ok (c.d.fact 17 rfl)) l17 c17 k17
    (He.eqO_ok (c.d.fact 18 rfl)) l18 c18 k18 (He.eqO_ok (c.d.fact 19 rfl)) l19 c19 k19
    (He.eqO_ok (c.d.fact 20 rfl)) l20 c20 k20 (He.eqO_ok (c.d.fact 21 rfl)) l21 c21 k21
    (He.eqO_ok (c.d.fact 22 rfl)) (He.eqO_ok (c.d.fact 23 rfl)) (He.eqO_ok (c.d.fact 24 rfl)) (He.eqO_ok (c.d.fact 25 rfl)) (He.eqO_ok (c.d.fact 26 rfl)) (He.eqO_ok (c.d.fact 27 rfl)) (He.eqO_ok (c.d.fact 28 rfl)) (He.eqO_ok (c.d.fact 29 rfl))
    (He.eqO_ok (c.d.fact 30 rfl)) (He.eqO_ok (c.d.fact 31 rfl)) (He.eqO_ok (c.d.fact 32 rfl)) (He.eqO_ok (c.d.fact 33 rfl)) (He.eqO_ok (c.d.fact 34 rfl)) (He.eqO_ok (c.d.fact 35 rfl)) (He.eqO_ok (c.d.fact 36 rfl)) c.hd
    c.out (He.eqO_ok (c.d.fact 37 rfl)) (cfnB_ok (all_at c.more 0 rfl)) FF (bltB_ok (all_at c.more 1 rfl)) (He.eqO_ok (c.d.fact 38 rfl)) (errB_ok (all_at c.more 2 rfl)) (xfB_ok (all_at c.more 3 rfl))
    (excB_ok (all_at c.more 4 rfl)) (of_decide_eq_true (all_at c.more 5 rfl)) (He.eqO_ok (c.d.fact 39 rfl)) (He.eqO_ok (all_at c.more 6 rfl)) (of_decide_eq_true (all_at c.more 7 rfl)) l_BadMove c_BadMove k_BadMove
    (He.eqO_ok (c.d.fact 40 rfl)) (He.eqO_ok (c.d.fact 41 rfl)) (He.eqO_ok (c.d.fact 42 rfl)) (He.eqO_ok (c.d.fact 43 rfl)) (He.eqO_ok (c.d.fact 44 rfl)) (He.eqO_ok (c.d.fact 45 rfl)) (He.eqO_ok (c.d.fact 46 rfl)) (He.eqO_ok (c.d.fact 47 rfl))
    (He.eqO_ok (c.d.fact 48 rfl)) (He.eqO_ok (c.d.fact 49 rfl)) (He.eqO_ok (c.d.fact 50 rfl)) (He.eqO_ok (c.d.fact 51 rfl)) (He.cls_ok (c.d.fact 52 rfl)) (all_at c.more 8 rfl) (all_at c.more 9 rfl) (He.eqO_ok (c.d.fact 53 rfl))
    (He.eqO_ok (c.d.fact 54 rfl)) (He.eqO_ok (c.d.fact 55 rfl)) (He.eqO_ok (all_at c.more 10 rfl)) (all_at c.more 11 rfl) ml___init__ mc___init__ mp___init__ (He.eqO_ok (all_at c.more 12 rfl))
    (all_at c.more 13 rfl) ml_make mc_make mp_make (He.eqO_ok (all_at c.more 14 rfl)) (all_at c.more 15 rfl) ml_made mc_made
    mp_made (He.eqO_ok (all_at c.more 16 rfl)) (all_at c.more 17 rfl) ml_halve mc_halve mp_halve (He.eqO_ok (all_at c.more 18 rfl)) (all_at c.more 19 rfl)
    ml_merge mc_merge mp_merge (He.eqO_ok (all_at c.more 20 rfl)) (all_at c.more 21 rfl) ml_put mc_put mp_put
    (He.eqO_ok (all_at c.more 22 rfl)) (all_at c.more 23 rfl) ml_left mc_left mp_left (of_decide_eq_true (all_at c.more 24 rfl)) (of_decide_eq_true (all_at c.more 25 rfl)) (all_at c.more 26 rfl)
    (of_decide_eq_true (all_at c.more 27 rfl)) (of_decide_eq_true (all_at c.more 28 rfl)) (all_at c.more 29 rfl) (of_decide_eq_true (all_at c.more 30 rfl)) (of_decide_eq_true (all_at c.more 31 rfl)) (all_at c.more 32 rfl) (of_decide_eq_true (all_at c.more 33 rfl)) (of_decide_eq_true (all_at c.more 34 rfl))
    (all_at c.more 35 rfl) (of_decide_eq_true (all_at c.more 36 rfl)) (of_decide_eq_true (all_at c.more 37 rfl)) (all_at c.more 38 rfl) (of_decide_eq_true (all_at c.more 39 rfl)) (of_decide_eq_true (all_at c.more 40 rfl)) (all_at c.more 41 rfl) (of_decide_eq_true (all_at c.more 42 rfl))
    (of_decide_eq_true (all_at c.more 43 rfl)) (all_at c.more 44 rfl) (of_decide_eq_true (all_at c.more 45 rfl)) (of_decide_eq_true (all_at c.more 46 rfl)) (all_at c.more 47 rfl) (of_decide_eq_true (all_at c.more 48 rfl)) (of_decide_eq_true (all_at c.more 49 rfl)) (all_at c.more 50 rfl)
    (of_decide_eq_true (all_at c.more 51 rfl)) (of_decide_eq_true (all_at c.more 52 rfl)) (all_at c.more 53 rfl) (of_decide_eq_true (all_at c.more 54 rfl)) g_FAR g_MOST
-- SPLIT
theorem runL (w : World) : HandSHeadRun.RunEq RowL (PySem.W.view RowL.prog [54]) hkL obL 40000 looseL w := by
  intro os
  kernel_rfl
end Fm
open PySem PySem.W PySem.Calls PyProof.Rows
set_option maxRecDepth 100000 in
set_option maxHeartbeats 0 in
theorem PySem.Challenge.cw_farmates_k10_merging_and_halving_seen_holds : PySem.Challenge.rw_farmates_k10_merging_and_halving_seen.Holds := by
  w_on; o_law
  refine HandSHeadRun.head_any (r := OpenLaw.row PySem.Challenge.rw_farmates_k10_merging_and_halving_seen) (q := view (OpenLaw.row PySem.Challenge.rw_farmates_k10_merging_and_halving_seen).prog [54]) (H := Fm.hkL) (ob := Fm.obL) (M := 40000) (loose := Fm.looseL) (d := HandSHeadRun.topDef (OpenLaw.row PySem.Challenge.rw_farmates_k10_merging_and_halving_seen).prog 54) (kwd := []) Fm.obL_eq
    (by kernel_rfl) (fun s => by kernel_rfl) Fm.runL (by kernel_rfl) (by kernel_rfl) (by kernel_rfl) (by rfl) (by first | assumption | decide +kernel) (by decide +kernel) ⟨rfl, rfl, rfl, rfl, rfl, by decide +kernel⟩ ?hw ?hc
  case hw => w_witness2
  case hc =>
    refine LamX.walk_ofTsE (l := PySem.Challenge.rw_farmates_k10_merging_and_halving_seen) (n := 63) (k := 9) (x := "_law_script") (CX := fun _ => L2.CX0) rfl (by decide) (by kernel_rfl) ⟨rfl, by decide, by decide⟩ ?F (fun _ _ _ _ _ z => z)
    intro w mg fa h Y G hm0
    obtain ⟨K, KX, c⟩ := Y
    have hm : mg ("law" : PySem.Str) = some (.ref fa) := by
      have en : (HandSHeadRun.topDef (OpenLaw.row PySem.Challenge.rw_farmates_k10_merging_and_halving_seen).prog 54).name = ("law" : PySem.Str) := by kernel_rfl
      rw [← en]
      exact hm0
    exact ⟨K, KX, Fm.all_of KX G hm c⟩
