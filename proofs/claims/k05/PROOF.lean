import PyProof.Rows.All
import Wide.All
import OpenK.AllK
import Wide.FinOn
import HandS.ForMost
import HandS.Codes
import HandS.IsInst
import HandS.Wide
import HandS.Style
import HandS.ForExc
import HandS.ExcInit
import HandS.ExcIs
import HandS.ExcField
import HandS.FStr
import HandS.Defaults
import HandS.Lambda
import HandS.EndTab
import HandS.HotCalls
import PySem.Challenge.RW_farmates_k05_parts_of_matings
set_option Elab.async false
set_option linter.all false
set_option maxRecDepth 100000
set_option maxHeartbeats 4000000
namespace Fm
open PySem L2
def top (i : Nat) : Stmt := PySem.Challenge.pw_farmates_k05_parts_of_matings.main.body.getD i (.Pass ⟨0, 0, 0, 0⟩)

/-! ### what stands behind the top -/
structure DefAt (K : PySem.W.Frag) (mg : Str → Option Value) (x : Str) (st : Stmt) (ps : List Str) (f : Addr) (fd : FuncData) : Prop where
  F : Fun K x x st f fd
  b : Binds K fd ps []
  g : mg x = some (.ref f)
structure Bn (mg : Str → Option Value) : Prop where
  len : mg "len" = none
  list : mg "list" = none
  tuple : mg "tuple" = none
  bool : mg "bool" = none
  int : mg "int" = none
  str : mg "str" = none
  isinstance : mg "isinstance" = none
  all : mg "all" = none
  any : mg "any" = none
  range : mg "range" = none
  max : mg "max" = none
  min : mg "min" = none
  dict : mg "dict" = none
  sorted : mg "sorted" = none
/-! ### heaps -/
theorem same_upd {H : Hp} {p : Addr} {o : HO} (h : H p = none) : Same H (upd H p o) := fun b x e => by
  rw [upd_ne (ne_of_none e h)]
  exact e
theorem sameU {H H' : Hp} {p : Addr} {o : HO} (e : Same H H') (h : H p = none) : Same H (upd H' p o) := fun b x q => by
  rw [upd_ne (ne_of_none q h)]
  exact e b x q
/-- all but d stands as it stood -/
def Keep (d : Addr) (H H' : Hp) : Prop := ∀ b o, b ≠ d → H b = some o → H' b = some o
theorem Keep.refl (d : Addr) (H : Hp) : Keep d H H := fun _ _ _ h => h
theorem Keep.trans {d : Addr} {H H1 H2 : Hp} (a : Keep d H H1) (b : Keep d H1 H2) : Keep d H H2 := fun c o n h => b c o n (a c o n h)
theorem Keep.upd {d : Addr} {H : Hp} {o : HO} : Keep d H (upd H d o) := fun b x n h => by
  rw [upd_ne n]
  exact h
theorem keepS {d : Addr} {H H' : Hp} (a : Same H H') : Keep d H H' := fun b o _ h => a b o h
/-! ### the drawing -/
structure Drawn (H : Hp) (d l : Addr) (ns : List Int) (i z s : Int) : Prop where
  at_d : H d = some (.lst [.ref l, .int i, .int z, .int s])
  at_l : H l = some (.lst (ns.map V.int))
  len : ns.length ≤ 63
  i0 : 0 ≤ i
  z0 : 0 ≤ z
  s0 : 0 ≤ s
  s1 : s < 2147483629
def Draw (H : Hp) (d l : Addr) : Prop := ∃ ns i z s, Drawn H d l ns i z s
theorem Drawn.ne {H : Hp} {d l : Addr} {ns : List Int} {i z s : Int} (h : Drawn H d l ns i z s) : l ≠ d := by
  refine ne_of h.at_l h.at_d fun e => ?_
  cases ns with
  | nil => cases e
  | cons x r => cases e
theorem Drawn.same {H H' : Hp} {d l : Addr} {ns : List Int} {i z s : Int} (h : Drawn H d l ns i z s) (e : Same H H') : Drawn H' d l ns i z s := { h with at_d := e _ _ h.at_d, at_l := e _ _ h.at_l }
theorem Draw.same {H H' : Hp} {d l : Addr} (h : Draw H d l) (e : Same H H') : Draw H' d l := by
  obtain ⟨ns, i, z, s, h⟩ := h
  exact ⟨ns, i, z, s, h.same e⟩
/-- the drawing list stored anew -/
theorem Drawn.put {H : Hp} {d l : Addr} {ns : List Int} {i z s i' z' s' : Int} (h : Drawn H d l ns i z s) (hi : 0 ≤ i') (hz : 0 ≤ z') (h0 : 0 ≤ s') (h1 : s' < 2147483629) :
    Drawn (upd H d (.lst [.ref l, .int i', .int z', .int s'])) d l ns i' z' s' :=
  ⟨upd_same, (by rw [upd_ne h.ne]; exact h.at_l), h.len, hi, hz, h0, h1⟩
def spOpen (K : PySem.W.Frag) : Sp := fun vs H Q _ => ∃ (a : Addr) (ns : List Int), vs = [.ref a] ∧ SqL K H a (ns.map V.int) ∧ ns.length ≤ 63 ∧
  ∀ H' d l, Same H H' → H d = none → H l = none → Draw H' d l → Q (.ref d) H'
def spPull : Sp := fun vs H Q _ => ∃ (d l : Addr) (c : Int), vs = [.ref d, .int c] ∧ Draw H d l ∧ 1 ≤ c ∧ c < 2 ^ 100 ∧
  ∀ (v : Int) (H' : Hp), 0 ≤ v → v < c → Draw H' d l → Keep d H H' → Q (.int v) H'
def spLaw (K : PySem.W.Frag) : Sp := fun vs H Q _ => ∃ (a : Addr) (ns : List Int), vs = [.ref a] ∧ SqL K H a (ns.map V.int) ∧ ns.length ≤ 63 ∧ ∀ H', Q (.bl true) H'
/-! ### data that is compared, at most n deep -/
mutual
inductive Rp (H : Hp) : Nat → V → PyData → Prop
  | non (n : Nat) : Rp H n .non .none
  | bl (n : Nat) (b : Bool) : Rp H n (.bl b) (.bool b)
  | int (n : Nat) (i : Int) : Rp H n (.int i) (.int i)
  | str (n : Nat) (x : Str) : Rp H n (.str x) (.str x)
  | lst {n : Nat} {a : Addr} {xs : List V} {ds : List PyData} : H a = some (.lst xs) → xs.length ≤ 100000 → RpAll H n xs ds → Rp H (n + 1) (.ref a) (.list ds)
  | tup {n : Nat} {a : Addr} {xs : List V} {ds : List PyData} : H a = some (.tup xs) → xs.length ≤ 100000 → RpAll H n xs ds → Rp H (n + 1) (.ref a) (.tuple ds)
inductive RpAll (H : Hp) : Nat → List V → List PyData → Prop
  | nil (n : Nat) : RpAll H n [] []
  | cons {n : Nat} {v : V} {vs : List V} {d : PyData} {ds : List PyData} : Rp H n v d → RpAll H n vs ds → RpAll H n (v :: vs) (d :: ds)
end
mutual
theorem Rp.same {H H' : Hp} (e : Same H H') : ∀ {n : Nat} {v : V} {d : PyData}, Rp H n v d → Rp H' n v d
  | _, _, _, .non n => .non n
  | _, _, _, .bl n b => .bl n b
  | _, _, _, .int n i => .int n i
  | _, _, _, .str n x => .str n x
  | _, _, _, .lst h l r => .lst (e _ _ h) l (RpAll.same e r)
  | _, _, _, .tup h l r => .tup (e _ _ h) l (RpAll.same e r)
theorem RpAll.same {H H' : Hp} (e : Same H H') : ∀ {n : Nat} {vs : List V} {ds : List PyData}, RpAll H n vs ds → RpAll H' n vs ds
  | _, _, _, .nil n => .nil n
  | _, _, _, .cons h r => .cons (Rp.same e h) (RpAll.same e r)
end
theorem RpAll.length {H : Hp} : ∀ {n : Nat} {vs : List V} {ds : List PyData}, RpAll H n vs ds → vs.length = ds.length
  | _, _, _, .nil _ => rfl
  | _, _, _, .cons _ r => congrArg (· + 1) (RpAll.length r)
theorem RpAll.get {H : Hp} : ∀ {n : Nat} {vs : List V} {ds : List PyData}, RpAll H n vs ds → ∀ (i : Nat), i < ds.length → ∃ v d, vs[i]? = some v ∧ ds[i]? = some d ∧ Rp H n v d
  | _, _, _, .nil _, i, h => absurd h (Nat.not_lt_zero i)
  | _, _, _, .cons (v := v) (d := d) h r, 0, _ => ⟨v, d, rfl, rfl, h⟩
  | _, _, _, .cons h r, i + 1, hi => by
    obtain ⟨v, d, a, b, c⟩ := RpAll.get r i (Nat.lt_of_succ_lt_succ hi)
    exact ⟨v, d, a, b, c⟩
def spLike (n : Nat) : Sp := fun vs H Q _ => ∃ (a b : V) (d : PyData), vs = [a, b] ∧ Rp H n a d ∧ Rp H n b d ∧ ∀ H', Same H H' → Q (.bl true) H'
def spBot : Sp := fun _ _ _ _ => False
section
variable {P : Program} {w : World} {K : PySem.W.Frag} {mg : Str → Option Value} {base : Heap}
theorem ok_bot {f : Addr} {fd : FuncData} {ps : List Str} : FnOk P w K mg base CX0 0 f fd ps spBot := ⟨fun _ _ _ _ h => h.elim, fun _ _ _ _ _ _ _ _ _ _ _ _ _ h => h.elim⟩
end
theorem Draw.ne_new {H : Hp} {d l p : Addr} (h : Draw H d l) (n : H p = none) : p ≠ d := by
  obtain ⟨ns, i, z, s, h⟩ := h
  exact (ne_of_none h.at_d n).symm
theorem Keep.of {d : Addr} {H H' : Hp} (k : Keep d H H') {b : Addr} {o : HO} (h : H b = some o) (n : b ≠ d) : H' b = some o := k b o n h
theorem sz_lt {n : Nat} (h : n < 100000) : n < sizeLine := Nat.lt_of_lt_of_le h (by decide)

/-! ### _law_open -/
abbrev s_open : Stmt := top 26
abbrev N_open : List Str := ["_law_script", "_law_seed", "_law_cell"]
abbrev P_open : List Str := ["_law_script"]
theorem sc_open : FnScope N_open P_open (defScope s_open) := ⟨rfl, rfl, rfl, by decide +kernel, rfl, by decide +kernel, by decide +kernel⟩
theorem cut63 (xs : List V) (h : xs.length ≤ 63) : cutV xs none (some 63) = xs := by
  unfold cutV
  rw [show HT.sIx xs.length xs.length (some 63) = min 63 xs.length from HT.sIx_nat xs.length xs.length 63, HT.sIx_none, Nat.min_eq_right h]
  show (xs.drop 0).take (xs.length - 0) = xs
  rw [List.drop_zero, Nat.sub_zero, List.take_length]
section
variable {P : Program} {w : World} {K : PySem.W.Frag} {mg : Str → Option Value} {base : Heap}
theorem ok_open {f : Addr} {fd : FuncData} (D : DefAt K mg "_law_open" s_open P_open f fd) (B : Bn mg) : FnOk P w K mg base CX0 1 f fd P_open (spOpen K) := by
  refine D.F.ok sc_open (fun vs H Q E h => ?_) (fun cdv A outer s H vs Q E hr h => ?_)
  · obtain ⟨a, ns, rfl, _⟩ := h
    rfl
  · obtain ⟨a, ns, rfl, hS, hlen, q⟩ := h
    refine ⟨_, (pss_cons (ps_set (i := 1) sc_open.nd rfl (.inl rfl) pe_int)
      (pss_cons (ps_for PassesOwn.never rfl (pi_list (pe_slice sl_list (pv 0) po_none (po_some pe_int))) (pg_name (i := 2) sc_open.nd rfl (.inl rfl)) (pss_one (ps_set (i := 1) sc_open.nd rfl (.inl rfl) (pe_op op_mod (pe_op op_add (pe_op op_add (pe_op op_mul (pv 1) pe_int) (pe_op op_mod (pv 2) pe_int)) pe_int) pe_int))))
      (pss_one (ps_ret (pe_lst (pa_cons (pe_callTy call_list_of (by rfl) B.list (by decide +kernel) (pa_cons (pe_slice sl_list (pv 0) po_none (po_some pe_int)) pa_nil)) (pa_cons pe_int (pa_cons pe_int (pa_cons (pv 1) pa_nil))))))))), ?_⟩
    refine ⟨.ref a, rfl, 63, rfl, a, ns.map V.int, rfl, hS, fun c nc => ?_⟩
    rw [cut63 _ (by rw [List.length_map]; exact hlen)]
    have s1 : Same H (upd H c (.lst (ns.map V.int))) := same_upd nc
    refine ⟨c, rfl, ⟨_, SqL.of upd_same⟩, for_list (K := K) (a := c) (xs := ns.map V.int) (fun i σ H2 => ∃ (sd : Int) (v : Option V), σ = [some (.ref a), some (.int sd), v] ∧ H2 = upd H c (.lst (ns.map V.int)) ∧ 0 ≤ sd ∧ sd < 2147483629)
      ⟨9134, none, rfl, rfl, by decide, by decide⟩ (fun i σ H2 _ ⟨_, _, _, e2, _⟩ => e2 ▸ SqL.of upd_same) ?_ ?_⟩
    · rintro i y σ H2 hi ⟨sd, v, rfl, rfl, h0, h1⟩
      obtain ⟨z, rfl⟩ : ∃ z, y = V.int z := by
        rw [List.getElem?_map] at hi
        cases e : ns[i]? with
        | none =>
          rw [e] at hi
          cases hi
        | some z =>
          rw [e] at hi
          exact ⟨z, (Option.some.inj hi).symm⟩
      refine ⟨_, rfl, _, _, rfl, rfl, .inl ⟨by omega, by omega⟩, _, rfl, _, _, rfl, rfl, (by show (0 : Int) < 2147483587; decide), _, _, rfl, rfl, _, _, rfl, rfl, _, _, rfl, rfl, (by show (0 : Int) < 2147483629; decide), ?_⟩
      exact ⟨_, _, rfl, rfl, Int.emod_nonneg _ (by decide), Int.emod_lt_of_pos _ (by decide)⟩
    · rintro σ H2 ⟨sd, v, rfl, rfl, h0, h1⟩
      refine ⟨.ref a, rfl, 63, rfl, a, ns.map V.int, rfl, s1.seq hS, fun p np => ?_⟩
      rw [cut63 _ (by rw [List.length_map]; exact hlen)]
      have s2 : Same H (upd (upd H c (.lst (ns.map V.int))) p (.lst (ns.map V.int))) := s1.trans (same_upd np)
      refine ⟨p, _, rfl, .inl (SqL.of upd_same), fun l nl => ?_⟩
      refine ⟨_, rfl, by show 4 ≤ sizeLine; decide, fun d nd => ?_⟩
      have s3 : Same H (upd (upd (upd H c (.lst (ns.map V.int))) p (.lst (ns.map V.int))) l (.lst (ns.map V.int))) := s2.trans (same_upd nl)
      refine q _ d l (s3.trans (same_upd nd)) (s3.free nd) (s2.free nl) ⟨ns, 0, 0, sd, upd_same, ?_, hlen, by decide, by decide, h0, h1⟩
      have nld : l ≠ d := fun e => by
        rw [← e, upd_same] at nd
        cases nd
      rw [upd_ne nld, upd_same]
end

/-! ### _law_pull -/
abbrev s_pull : Stmt := top 27
abbrev N_pull : List Str := ["_law_draw", "_law_cap", "_law_cell", "_law_got", "_law_seed"]
abbrev P_pull : List Str := ["_law_draw", "_law_cap"]
theorem sc_pull : FnScope N_pull P_pull (defScope s_pull) := ⟨rfl, rfl, rfl, by decide +kernel, rfl, by decide +kernel, by decide +kernel⟩
section
variable {P : Program} {w : World} {K : PySem.W.Frag} {mg : Str → Option Value} {base : Heap}
theorem ok_pull {f : Addr} {fd : FuncData} (D : DefAt K mg "_law_pull" s_pull P_pull f fd) (B : Bn mg) : FnOk P w K mg base CX0 1 f fd P_pull spPull := by
  refine D.F.ok sc_pull (fun vs H Q E h => ?_) (fun cdv A outer s H vs Q E hr h => ?_)
  · obtain ⟨d, l, c, rfl, _⟩ := h
    rfl
  · obtain ⟨d, l, c, rfl, hD, hc1, hc2, q⟩ := h
    refine ⟨_, (C8.pss_cut (ps_if (PW.pt (pw_and (pt_cmpR op_lt (pe_ix ix_list (pv 0) pe_int (fun _ _ => rfl)) (pv 1) (nomark _)) (pw_and1 (pt_cmpR op_lt (pe_ix ix_list (pv 0) pe_int (fun _ _ => rfl)) (pe_callB call_len_seq (by rfl) B.len (by decide +kernel) (pa_cons (pe_ix ix_list (pv 0) pe_int (fun _ _ => rfl)) pa_nil)) (nomark _))))) (pss_cons (ps_set (i := 2) sc_pull.nd rfl (.inl rfl) (pe_ix ix_list (pe_ix ix_list (pv 0) pe_int (fun _ _ => rfl)) (pe_ix ix_list (pv 0) pe_int (fun _ _ => rfl)) (fun _ _ => rfl)))
      (pss_cons (ps_asg (pe_op op_add (pe_ix ix_list (pv 0) pe_int (fun _ _ => rfl)) pe_int) (pg_sub (pv 0) pe_int set_list))
      (pss_cons (ps_asg pe_int (pg_sub (pv 0) pe_int set_list))
      (pss_one (ps_if (pt_cmpR op_ge (pv 2) (pe_op op_pow pe_int pe_int) (nomark _)) (pss_one (ps_asg (pv 2) (pg_sub (pv 0) pe_int set_list))) (pss_one (ps_asg (pe_op op_mod (pe_op op_add (pe_op op_add (pe_op op_mul (pe_ix ix_list (pv 0) pe_int (fun _ _ => rfl)) pe_int) (pe_op op_mul (pe_op op_mod (pv 2) pe_int) pe_int)) pe_int) pe_int) (pg_sub (pv 0) pe_int set_list)))))))) pss_nil)
      (C8.pss_cut (ps_if (pt_cmpR op_ge (pe_ix ix_list (pv 0) pe_int (fun _ _ => rfl)) (pv 1) (nomark _)) (pss_cons (ps_set (i := 3) sc_pull.nd rfl (.inl rfl) (pe_op op_mod (pe_ix ix_list (pv 0) pe_int (fun _ _ => rfl)) (pv 1)))
      (pss_cons (ps_asg (pe_op op_fdivW (pe_ix ix_list (pv 0) pe_int (fun _ _ => rfl)) (pv 1)) (pg_sub (pv 0) pe_int set_list))
      (pss_one (ps_ret (pv 3))))) pss_nil)
      (pss_cons (ps_set (i := 4) sc_pull.nd rfl (.inl rfl) (pe_ix ix_list (pv 0) pe_int (fun _ _ => rfl)))
      (pss_cons (ps_asg (pe_op op_mod (pe_op op_add (pe_op op_add (pe_op op_mul (pe_op op_mod (pe_op op_mul (pv 4) (pv 4)) pe_int) pe_int) (pe_op op_mul (pv 4) pe_int)) pe_int) pe_int) (pg_sub (pv 0) pe_int set_list))
      (pss_cons (ps_if (pt_cmpR op_lt (pv 1) (pe_op op_pow pe_int pe_int) (nomark _)) (pss_one (ps_ret (pe_op op_mod (pe_op op_add (pe_op op_fdivW (pe_ix ix_list (pv 0) pe_int (fun _ _ => rfl)) pe_int) (pe_op op_mul (pe_op op_mod (pe_ix ix_list (pv 0) pe_int (fun _ _ => rfl)) pe_int) pe_int)) (pv 1)))) pss_nil)
      (pss_one (ps_ret (pe_op op_mod (pe_op op_add (pe_op op_fdivW (pe_op op_pow (pe_ix ix_list (pv 0) pe_int (fun _ _ => rfl)) pe_int) pe_int) (pe_ix ix_list (pv 0) pe_int (fun _ _ => rfl))) (pv 1))))))))), ?_⟩
    have hpow : CPow 10 18 := ⟨by decide, by decide, by decide⟩
    have hpow8 : CPow 10 8 := ⟨by decide, by decide, by decide⟩
    have ix0 : ∀ {a b e g : V}, atI [a, b, e, g] 0 = some a := fun {_ _ _ _} => atI_nat (j := 0) rfl
    have ix1 : ∀ {a b e g : V}, atI [a, b, e, g] 1 = some b := fun {_ _ _ _} => atI_nat (j := 1) rfl
    have ix2 : ∀ {a b e g : V}, atI [a, b, e, g] 2 = some e := fun {_ _ _ _} => atI_nat (j := 2) rfl
    have ix3 : ∀ {a b e g : V}, atI [a, b, e, g] 3 = some g := fun {_ _ _ _} => atI_nat (j := 3) rfl
    -- the first if
    refine ⟨fun σ H1 => ∃ y : Option V, σ = [some (.ref d), some (.int c), y, none, none] ∧ Draw H1 d l ∧ Keep d H H1, ?_, ?_⟩
    · obtain ⟨ns, i, z, sd, hW⟩ := hD
      refine ⟨.ref d, rfl, d, _, 2, .int z, rfl, rfl, SqL.of hW.at_d, ix2, .int c, rfl, z, c, rfl, rfl, _, rfl, ?_⟩
      refine ite2 (fun _ => ?_) (fun _ => iteF ⟨none, rfl, ⟨ns, i, z, sd, hW⟩, Keep.refl _ _⟩)
      refine ⟨.ref d, rfl, d, _, 1, .int i, rfl, rfl, SqL.of hW.at_d, ix1, .ref d, rfl, d, _, 0, .ref l, rfl, rfl, SqL.of hW.at_d, ix0, l, _, rfl, .inl (SqL.of hW.at_l), i, _, rfl, rfl, _, rfl, ?_⟩
      refine ite2 (fun hb => ?_) (fun _ => ⟨none, rfl, ⟨ns, i, z, sd, hW⟩, Keep.refl _ _⟩)
      have hil : i < ((ns.map V.int).length : Int) := of_decide_eq_true hb
      rw [List.length_map] at hil
      have hi0 := hW.i0
      obtain ⟨j, rfl⟩ : ∃ j : Nat, i = (j : Int) := ⟨i.toNat, by omega⟩
      have hj : j < ns.length := by omega
      have gj : (ns.map V.int)[j]? = some (.int ns[j]) := by
        rw [List.getElem?_map, List.getElem?_eq_getElem hj]
        rfl
      -- cell = draw[0][draw[1]]
      refine ⟨.ref d, rfl, d, _, 0, .ref l, rfl, rfl, SqL.of hW.at_d, ix0, .ref d, rfl, d, _, 1, .int (j : Int), rfl, rfl, SqL.of hW.at_d, ix1, l, _, (j : Int), .int ns[j], rfl, rfl, SqL.of hW.at_l, atI_nat gj, ?_⟩
      -- draw[1] = draw[1] + 1
      refine ⟨.ref d, rfl, d, _, 1, .int (j : Int), rfl, rfl, SqL.of hW.at_d, ix1, _, _, rfl, rfl, .ref d, rfl, d, _, 1, 1, rfl, rfl, hW.at_d, rfl, ?_⟩
      have W1 := hW.put (i' := (j : Int) + 1) (z' := z) (s' := sd) (by omega) hW.z0 hW.s0 hW.s1
      -- draw[2] = 0
      refine ⟨.ref d, rfl, d, _, 2, 2, rfl, rfl, upd_same, rfl, ?_⟩
      have W2 := W1.put (i' := (j : Int) + 1) (z' := 0) (s' := sd) (by omega) (by decide) hW.s0 hW.s1
      -- if cell >= 10 ** 18
      refine ⟨_, rfl, _, _, rfl, rfl, hpow, _, _, rfl, rfl, _, rfl, ?_⟩
      refine ite2 (fun hg => ?_) (fun _ => ?_)
      · have hg' : (10 : Int) ^ 18 ≤ ns[j] := of_decide_eq_true hg
        refine ⟨_, rfl, .ref d, rfl, d, _, 2, 2, rfl, rfl, upd_same, rfl, ?_⟩
        exact ⟨_, rfl, ⟨_, _, _, _, W2.put (i' := (j : Int) + 1) (z' := ns[j]) (s' := sd) (by omega) (by omega) hW.s0 hW.s1⟩, (Keep.upd.trans Keep.upd).trans Keep.upd⟩
      · refine ⟨.ref d, rfl, d, _, 3, .int sd, rfl, rfl, SqL.of upd_same, ix3, _, _, rfl, rfl, .inr ⟨by decide, by decide⟩, _, rfl, _, _, rfl, rfl, (by show (0 : Int) < 2147483647; decide), _, _, rfl, rfl, .inr ⟨by decide, by decide⟩, _, _, rfl, rfl, _, _, rfl, rfl, _, _, rfl, rfl, (by show (0 : Int) < 2147483629; decide), ?_⟩
        refine ⟨.ref d, rfl, d, _, 3, 3, rfl, rfl, upd_same, rfl, ?_⟩
        exact ⟨_, rfl, ⟨_, _, _, _, W2.put (i' := (j : Int) + 1) (z' := 0) (s' := _) (by omega) (by decide) (Int.emod_nonneg _ (by decide)) (Int.emod_lt_of_pos _ (by decide))⟩, (Keep.upd.trans Keep.upd).trans Keep.upd⟩
    · rintro σ H1 ⟨y, rfl, ⟨ns, i, z, sd, hW⟩, kp⟩
      -- the second if
      refine ⟨fun σ H2 => H2 = H1 ∧ ∃ y' : Option V, σ = [some (.ref d), some (.int c), y, y', none], ?_, ?_⟩
      · refine ⟨.ref d, rfl, d, _, 2, .int z, rfl, rfl, SqL.of hW.at_d, ix2, .int c, rfl, z, c, rfl, rfl, _, rfl, ?_⟩
        refine ite2 (fun hg => ?_) (fun _ => ⟨rfl, none, rfl⟩)
        refine ⟨.ref d, rfl, d, _, 2, .int z, rfl, rfl, SqL.of hW.at_d, ix2, .int c, rfl, _, _, rfl, rfl, (by omega), ?_⟩
        have hwd : CDivW z c := wide_div (b := 100) (by omega) (by omega) (by decide) (by decide)
        refine ⟨.ref d, rfl, d, _, 2, .int z, rfl, rfl, SqL.of hW.at_d, ix2, .int c, rfl, _, _, rfl, rfl, hwd, .ref d, rfl, d, _, 2, 2, rfl, rfl, hW.at_d, rfl, _, rfl, ?_⟩
        exact q _ _ (Int.emod_nonneg _ (by omega)) (Int.emod_lt_of_pos _ (by omega)) ⟨_, _, _, _, hW.put (i' := i) (z' := z / c) (s' := sd) hW.i0 (Int.ediv_nonneg hW.z0 (by omega)) hW.s0 hW.s1⟩ (kp.trans Keep.upd)
      · rintro σ H2 ⟨rfl, y', rfl⟩
        have hs0 := hW.s0
        have hs1 := hW.s1
        have hm : CMul sd sd := .inl ⟨by omega, by omega⟩
        -- seed = draw[3]; draw[3] = ..
        refine ⟨.ref d, rfl, d, _, 3, .int sd, rfl, rfl, SqL.of hW.at_d, ix3, ?_⟩
        refine ⟨_, rfl, _, rfl, _, _, rfl, rfl, hm, _, _, rfl, rfl, (by show (0 : Int) < 2147483647; decide), _, _, rfl, rfl, .inr ⟨by decide, by decide⟩, _, rfl, _, _, rfl, rfl, .inr ⟨by decide, by decide⟩, _, _, rfl, rfl, _, _, rfl, rfl, _, _, rfl, rfl, (by show (0 : Int) < 2147483629; decide), ?_⟩
        refine ⟨.ref d, rfl, d, _, 3, 3, rfl, rfl, hW.at_d, rfl, ?_⟩
        have n0 : 0 ≤ (sd * sd % 2147483647 * 3 + sd * 45991 + 746773) % 2147483629 := Int.emod_nonneg _ (by decide)
        have n1 : (sd * sd % 2147483647 * 3 + sd * 45991 + 746773) % 2147483629 < 2147483629 := Int.emod_lt_of_pos _ (by decide)
        have W1 := hW.put (i' := i) (z' := z) (s' := (sd * sd % 2147483647 * 3 + sd * 45991 + 746773) % 2147483629) hW.i0 hW.z0 n0 n1
        have na : ((sd * sd % 2147483647 * 3 + sd * 45991 + 746773) % 2147483629).natAbs < 2 ^ 64 := by omega
        -- if cap < 10 ** 8
        refine ⟨_, rfl, _, _, rfl, rfl, hpow8, _, _, rfl, rfl, _, rfl, ?_⟩
        refine ite2 (fun _ => ?_) (fun _ => ?_)
        · refine ⟨.ref d, rfl, d, _, 3, .int _, rfl, rfl, SqL.of W1.at_d, ix3, _, _, rfl, rfl, wide_div (b := 10) (by decide) (by decide) (by decide) (by decide), .ref d, rfl, d, _, 3, .int _, rfl, rfl, SqL.of W1.at_d, ix3, _, _, rfl, rfl, (by show (0 : Int) < 6151; decide), _, _, rfl, rfl, .inr ⟨by decide, by decide⟩, _, _, rfl, rfl, .int c, rfl, _, _, rfl, rfl, (by omega), ?_⟩
          exact q _ _ (Int.emod_nonneg _ (by omega)) (Int.emod_lt_of_pos _ (by omega)) ⟨_, _, _, _, W1⟩ (kp.trans Keep.upd)
        · refine ⟨.ref d, rfl, d, _, 3, .int _, rfl, rfl, SqL.of W1.at_d, ix3, _, _, rfl, rfl, ⟨by decide, by decide, na⟩, _, _, rfl, rfl, wide_div (b := 10) (by decide) (by decide) (by decide) (by decide), .ref d, rfl, d, _, 3, .int _, rfl, rfl, SqL.of W1.at_d, ix3, _, _, rfl, rfl, .int c, rfl, _, _, rfl, rfl, (by omega), ?_⟩
          exact q _ _ (Int.emod_nonneg _ (by omega)) (Int.emod_lt_of_pos _ (by omega)) ⟨_, _, _, _, W1⟩ (kp.trans Keep.upd)
end

/-! ### _law_like -/
abbrev s_like : Stmt := top 28
abbrev N_like : List Str := ["_law_found", "_law_due", "_law_j"]
abbrev P_like : List Str := ["_law_found", "_law_due"]
theorem sc_like : FnScope N_like P_like (defScope s_like) := ⟨rfl, rfl, rfl, by decide +kernel, rfl, by decide +kernel, by decide +kernel⟩
section
variable {P : Program} {w : World} {K : PySem.W.Frag} {mg : Str → Option Value} {base : Heap}
theorem isn_no {v : V} {A B : Prop} (h : v ≠ .non) (b : B) : if decide (v = V.non) = true then A else B := by
  rw [decide_eq_false h]
  exact iteF b
theorem like_step {k n : Nat} {f : Addr} {fd : FuncData} {spR : Sp} (D_like : DefAt K mg "_law_like" s_like P_like f fd) (B : Bn mg) (G_like : FnOk P w K mg base CX0 k f fd P_like spR)
    (hR : ∀ m, n = m + 1 → ∀ vs H Q E, spLike m vs H Q E → spR vs H Q E) : FnOk P w K mg base CX0 (k + 1) f fd P_like (spLike n) := by
  refine D_like.F.ok sc_like (fun vs H Q E h => ?_) (fun cdv A outer s H vs Q E hr h => ?_)
  · obtain ⟨a, b, d, rfl, _⟩ := h
    rfl
  · obtain ⟨a, b, d, rfl, ha, hb, q⟩ := h
    refine ⟨_, (pss_cons (ps_if (pt_cmpR op_isN (pv 1) pe_non (nomark _)) (pss_one (ps_ret (pe_cmpR op_isN (pv 0) pe_non (nomark _)))) pss_nil)
      (pss_cons (ps_if (pt_val (pe_callB call_isi (by rfl) B.isinstance (by decide +kernel) (pa_cons (pv 1) (pa_cons (pe_bltn (v := .ty "bool") (by rfl) B.bool (by decide +kernel) rfl) pa_nil)))) (pss_one (ps_ret (pe_and (pe_callB call_isi (by rfl) B.isinstance (by decide +kernel) (pa_cons (pv 0) (pa_cons (pe_bltn (v := .ty "bool") (by rfl) B.bool (by decide +kernel) rfl) pa_nil))) (pe_one (pe_cmpR op_eq (pv 0) (pv 1) (nomark _)))))) pss_nil)
      (pss_cons (ps_if (pt_val (pe_callB call_isi (by rfl) B.isinstance (by decide +kernel) (pa_cons (pv 1) (pa_cons (pe_bltn (v := .ty "int") (by rfl) B.int (by decide +kernel) rfl) pa_nil)))) (pss_one (ps_ret (pe_and (pe_callB call_isi (by rfl) B.isinstance (by decide +kernel) (pa_cons (pv 0) (pa_cons (pe_bltn (v := .ty "int") (by rfl) B.int (by decide +kernel) rfl) pa_nil))) (pe_and (pe_not (pe_callB call_isi (by rfl) B.isinstance (by decide +kernel) (pa_cons (pv 0) (pa_cons (pe_bltn (v := .ty "bool") (by rfl) B.bool (by decide +kernel) rfl) pa_nil)))) (pe_one (pe_cmpR op_eq (pv 0) (pv 1) (nomark _))))))) pss_nil)
      (pss_cons (ps_if (pt_val (pe_callB call_isi (by rfl) B.isinstance (by decide +kernel) (pa_cons (pv 1) (pa_cons (pe_bltn (v := .ty "str") (by rfl) B.str (by decide +kernel) rfl) pa_nil)))) (pss_one (ps_ret (pe_and (pe_callB call_isi (by rfl) B.isinstance (by decide +kernel) (pa_cons (pv 0) (pa_cons (pe_bltn (v := .ty "str") (by rfl) B.str (by decide +kernel) rfl) pa_nil))) (pe_one (pe_cmpR op_eq (pv 0) (pv 1) (nomark _)))))) pss_nil)
      (pss_cons (ps_if (PW.pt (pw_or (pt_cmpR op_ne (pe_callB call_isi (by rfl) B.isinstance (by decide +kernel) (pa_cons (pv 1) (pa_cons (pe_bltn (v := .ty "tuple") (by rfl) B.tuple (by decide +kernel) rfl) pa_nil))) (pe_callB call_isi (by rfl) B.isinstance (by decide +kernel) (pa_cons (pv 0) (pa_cons (pe_bltn (v := .ty "tuple") (by rfl) B.tuple (by decide +kernel) rfl) pa_nil))) (nomark _)) (pw_or1 (pt_cmpR op_ne (pe_callB call_isi (by rfl) B.isinstance (by decide +kernel) (pa_cons (pv 1) (pa_cons (pe_bltn (v := .ty "list") (by rfl) B.list (by decide +kernel) rfl) pa_nil))) (pe_callB call_isi (by rfl) B.isinstance (by decide +kernel) (pa_cons (pv 0) (pa_cons (pe_bltn (v := .ty "list") (by rfl) B.list (by decide +kernel) rfl) pa_nil))) (nomark _))))) (pss_one (ps_ret pe_bl)) pss_nil)
      (pss_cons (ps_if (pt_cmpR op_ne (pe_callB call_len_seq (by rfl) B.len (by decide +kernel) (pa_cons (pv 0) pa_nil)) (pe_callB call_len_seq (by rfl) B.len (by decide +kernel) (pa_cons (pv 1) pa_nil)) (nomark _)) (pss_one (ps_ret pe_bl)) pss_nil)
      (pss_one (ps_ret (pe_callB (cr_all rfl) (by rfl) B.all (by decide +kernel) (pa_cons (pe_lc (own := [("_law_j", 2)]) (g := gName 2) (by rfl) sc_like.nd (pi_range1 (by rfl) B.range (pa_cons (pe_callB call_len_seq (by rfl) B.len (by decide +kernel) (pa_cons (pv 1) pa_nil)) pa_nil)) (blkOk_by (own := [("_law_j", 2)]) (N := N_like) (sc := defScope s_like) (by decide +kernel)) (fun _ _ _ _ _ => (pg_name (i := 2) sc_like.nd rfl (.inl rfl))) (fun _ _ _ _ _ => pts_nil) (fun _ _ _ _ _ => (pe_call G_like (hr.mono (by omega)) (by rfl) D_like.g D_like.F.kp D_like.b .nil pass0 (pa_cons (pe_ix (show IxR _ (rIx K) from ix_seq) (pv 0) (pv 2) (fun _ _ => rfl)) (pa_cons (pe_ix (show IxR _ (rIx K) from ix_seq) (pv 1) (pv 2) (fun _ _ => rfl)) pa_nil))))) pa_nil)))))))))), ?_⟩
    cases ha with
    | non =>
      cases hb
      exact ⟨.non, rfl, rfl, _, rfl, iteT ⟨.non, rfl, rfl, q H (Same.refl H)⟩⟩
    | bl _ x =>
      cases hb
      refine ⟨.bl x, rfl, rfl, _, rfl, isn_no (by intro z; cases z) ?_⟩
      refine ⟨.bl x, rfl, _, _, _, _, true, rfl, ClsV.ty _, TyX.base (TyOf.bl _), kit_ty (by decide +kernel), _, rfl, iteT ?_⟩
      refine ⟨.bl x, rfl, _, _, _, _, true, rfl, ClsV.ty _, TyX.base (TyOf.bl _), kit_ty (by decide +kernel), _, rfl, iteT ?_⟩
      refine ⟨.bl x, rfl, .bl x, rfl, rfl, ?_⟩
      rw [decide_eq_true rfl]
      exact q H (Same.refl H)
    | int _ x =>
      cases hb
      refine ⟨.int x, rfl, rfl, _, rfl, isn_no (by intro z; cases z) ?_⟩
      refine ⟨.int x, rfl, _, _, _, _, false, rfl, ClsV.ty _, TyX.base (TyOf.int _), kit_ty (by decide +kernel), _, rfl, iteF ?_⟩
      refine ⟨.int x, rfl, _, _, _, _, true, rfl, ClsV.ty _, TyX.base (TyOf.int _), kit_ty (by decide +kernel), _, rfl, iteT ?_⟩
      refine ⟨.int x, rfl, _, _, _, _, true, rfl, ClsV.ty _, TyX.base (TyOf.int _), kit_ty (by decide +kernel), _, rfl, iteT ?_⟩
      refine ⟨.int x, rfl, _, _, _, _, false, rfl, ClsV.ty _, TyX.base (TyOf.int _), kit_ty (by decide +kernel), _, rfl, _, rfl, iteT ?_⟩
      refine ⟨.int x, rfl, .int x, rfl, rfl, ?_⟩
      rw [decide_eq_true rfl]
      exact q H (Same.refl H)
    | str _ x =>
      cases hb
      refine ⟨.str x, rfl, rfl, _, rfl, isn_no (by intro z; cases z) ?_⟩
      refine ⟨.str x, rfl, _, _, _, _, false, rfl, ClsV.ty _, TyX.base (TyOf.str _), kit_ty (by decide +kernel), _, rfl, iteF ?_⟩
      refine ⟨.str x, rfl, _, _, _, _, false, rfl, ClsV.ty _, TyX.base (TyOf.str _), kit_ty (by decide +kernel), _, rfl, iteF ?_⟩
      refine ⟨.str x, rfl, _, _, _, _, true, rfl, ClsV.ty _, TyX.base (TyOf.str _), kit_ty (by decide +kernel), _, rfl, iteT ?_⟩
      refine ⟨.str x, rfl, _, _, _, _, true, rfl, ClsV.ty _, TyX.base (TyOf.str _), kit_ty (by decide +kernel), _, rfl, iteT ?_⟩
      refine ⟨.str x, rfl, .str x, rfl, rfl, ?_⟩
      rw [decide_eq_true rfl]
      exact q H (Same.refl H)
    | @lst m p xs ds hp lp rp =>
      cases hb with
      | @lst _ r ys _ hq lq rq =>
      have lx : xs.length = ds.length := rp.length
      have ly : ys.length = ds.length := rq.length
      refine ⟨.ref r, rfl, rfl, _, rfl, isn_no (by intro z; cases z) ?_⟩
      refine ⟨.ref r, rfl, _, _, _, _, false, rfl, ClsV.ty _, TyX.base (TyOf.lst hq), kit_ty (by decide +kernel), _, rfl, iteF ?_⟩
      refine ⟨.ref r, rfl, _, _, _, _, false, rfl, ClsV.ty _, TyX.base (TyOf.lst hq), kit_ty (by decide +kernel), _, rfl, iteF ?_⟩
      refine ⟨.ref r, rfl, _, _, _, _, false, rfl, ClsV.ty _, TyX.base (TyOf.lst hq), kit_ty (by decide +kernel), _, rfl, iteF ?_⟩
      refine ⟨.ref r, rfl, _, _, _, _, false, rfl, ClsV.ty _, TyX.base (TyOf.lst hq), kit_ty (by decide +kernel), .ref p, rfl, _, _, _, _, false, rfl, ClsV.ty _, TyX.base (TyOf.lst hp), kit_ty (by decide +kernel), rfl, _, rfl, iteNS rfl ?_⟩
      refine ⟨.ref r, rfl, _, _, _, _, true, rfl, ClsV.ty _, TyX.base (TyOf.lst hq), kit_ty (by decide +kernel), .ref p, rfl, _, _, _, _, true, rfl, ClsV.ty _, TyX.base (TyOf.lst hp), kit_ty (by decide +kernel), rfl, _, rfl, iteNS rfl ?_⟩
      refine ⟨.ref p, rfl, p, xs, rfl, .inl (SqL.of hp), .ref r, rfl, r, ys, rfl, .inl (SqL.of hq), rfl, _, rfl, iteNS (by rw [lx, ly]) ?_⟩
      refine ⟨.ref r, rfl, r, ys, rfl, .inl (SqL.of hq), _, rfl, (by have := lq; omega), (by have := lq; omega), fun D hD => lc_range (lo := 0) (n := ((ys.length : Int)).toNat) (fun i H2 => ∃ bs : List Bool, Same H H2 ∧ H2 D = some (.lst (bs.map V.bl)) ∧ bs.length = i ∧ bs.all id = true) ⟨[], same_upd hD, upd_same, rfl, rfl⟩ ?_ ?_⟩
      · rintro i H2 hi ⟨bs, sm, hDl, rfl, hal⟩
        have hi' : bs.length < ds.length := by omega
        obtain ⟨v1, d1, e1, e2, r1⟩ := rp.get bs.length hi'
        obtain ⟨v2, d2, e3, e4, r2⟩ := rq.get bs.length hi'
        have ed : d2 = d1 := Option.some.inj (e4.symm.trans e2)
        subst ed
        refine ⟨rfl, ?_⟩
        refine ⟨.ref p, rfl, .int (0 + (bs.length : Int)), rfl, .inl ⟨p, xs, _, v1, rfl, rfl, SqL.of (sm _ _ hp), at_of (by omega) e1, .ref r, rfl, .int (0 + (bs.length : Int)), rfl, .inl ⟨r, ys, _, v2, rfl, rfl, SqL.of (sm _ _ hq), at_of (by omega) e3, ?_⟩⟩⟩
        refine hR m rfl _ _ _ _ ⟨v1, v2, d2, rfl, r1.same sm, r2.same sm, fun H3 s3 => ?_⟩
        refine ⟨bs.map V.bl, s3 _ _ hDl, sz_lt (by rw [List.length_map]; omega), bs ++ [true], fun b o e => ?_, ?_, by rw [List.length_append]; rfl, by rw [List.all_append, hal]; rfl⟩
        · rw [upd_ne (ne_of_none e hD)]
          exact s3 _ _ (sm _ _ e)
        · rw [upd_same, List.map_append]
          rfl
      · rintro H2 ⟨bs, sm, hDl, _, hal⟩
        refine ⟨D, bs, rfl, SqL.of hDl, ?_⟩
        rw [hal]
        exact q H2 sm
    | @tup m p xs ds hp lp rp =>
      cases hb with
      | @tup _ r ys _ hq lq rq =>
      have lx : xs.length = ds.length := rp.length
      have ly : ys.length = ds.length := rq.length
      refine ⟨.ref r, rfl, rfl, _, rfl, isn_no (by intro z; cases z) ?_⟩
      refine ⟨.ref r, rfl, _, _, _, _, false, rfl, ClsV.ty _, TyX.base (TyOf.tup hq), kit_ty (by decide +kernel), _, rfl, iteF ?_⟩
      refine ⟨.ref r, rfl, _, _, _, _, false, rfl, ClsV.ty _, TyX.base (TyOf.tup hq), kit_ty (by decide +kernel), _, rfl, iteF ?_⟩
      refine ⟨.ref r, rfl, _, _, _, _, false, rfl, ClsV.ty _, TyX.base (TyOf.tup hq), kit_ty (by decide +kernel), _, rfl, iteF ?_⟩
      refine ⟨.ref r, rfl, _, _, _, _, true, rfl, ClsV.ty _, TyX.base (TyOf.tup hq), kit_ty (by decide +kernel), .ref p, rfl, _, _, _, _, true, rfl, ClsV.ty _, TyX.base (TyOf.tup hp), kit_ty (by decide +kernel), rfl, _, rfl, iteNS rfl ?_⟩
      refine ⟨.ref r, rfl, _, _, _, _, false, rfl, ClsV.ty _, TyX.base (TyOf.tup hq), kit_ty (by decide +kernel), .ref p, rfl, _, _, _, _, false, rfl, ClsV.ty _, TyX.base (TyOf.tup hp), kit_ty (by decide +kernel), rfl, _, rfl, iteNS rfl ?_⟩
      refine ⟨.ref p, rfl, p, xs, rfl, .inr (SqT.of hp), .ref r, rfl, r, ys, rfl, .inr (SqT.of hq), rfl, _, rfl, iteNS (by rw [lx, ly]) ?_⟩
      refine ⟨.ref r, rfl, r, ys, rfl, .inr (SqT.of hq), _, rfl, (by have := lq; omega), (by have := lq; omega), fun D hD => lc_range (lo := 0) (n := ((ys.length : Int)).toNat) (fun i H2 => ∃ bs : List Bool, Same H H2 ∧ H2 D = some (.lst (bs.map V.bl)) ∧ bs.length = i ∧ bs.all id = true) ⟨[], same_upd hD, upd_same, rfl, rfl⟩ ?_ ?_⟩
      · rintro i H2 hi ⟨bs, sm, hDl, rfl, hal⟩
        have hi' : bs.length < ds.length := by omega
        obtain ⟨v1, d1, e1, e2, r1⟩ := rp.get bs.length hi'
        obtain ⟨v2, d2, e3, e4, r2⟩ := rq.get bs.length hi'
        have ed : d2 = d1 := Option.some.inj (e4.symm.trans e2)
        subst ed
        refine ⟨rfl, ?_⟩
        refine ⟨.ref p, rfl, .int (0 + (bs.length : Int)), rfl, .inr <| .inl ⟨p, xs, _, v1, rfl, rfl, SqT.of (sm _ _ hp), at_of (by omega) e1, .ref r, rfl, .int (0 + (bs.length : Int)), rfl, .inr <| .inl ⟨r, ys, _, v2, rfl, rfl, SqT.of (sm _ _ hq), at_of (by omega) e3, ?_⟩⟩⟩
        refine hR m rfl _ _ _ _ ⟨v1, v2, d2, rfl, r1.same sm, r2.same sm, fun H3 s3 => ?_⟩
        refine ⟨bs.map V.bl, s3 _ _ hDl, sz_lt (by rw [List.length_map]; omega), bs ++ [true], fun b o e => ?_, ?_, by rw [List.length_append]; rfl, by rw [List.all_append, hal]; rfl⟩
        · rw [upd_ne (ne_of_none e hD)]
          exact s3 _ _ (sm _ _ e)
        · rw [upd_same, List.map_append]
          rfl
      · rintro H2 ⟨bs, sm, hDl, _, hal⟩
        refine ⟨D, bs, rfl, SqL.of hDl, ?_⟩
        rw [hal]
        exact q H2 sm
theorem ok_like {f : Addr} {fd : FuncData} (D : DefAt K mg "_law_like" s_like P_like f fd) (B : Bn mg) : ∀ n : Nat, FnOk P w K mg base CX0 (n + 1) f fd P_like (spLike n)
  | 0 => like_step D B ok_bot fun m e => absurd e (by omega)
  | n + 1 => like_step D B (ok_like D B n) fun m e vs H Q E h => by
    have e : m = n := by omega
    subst e
    exact h
end

/-! ### holds, part -/
def tup4 (o p m f : Int) : HO := .tup [.int o, .int p, .int m, .int f]
abbrev s_holds : Stmt := top 24
abbrev N_holds : List Str := ["mating", "at", "many"]
abbrev P_holds : List Str := ["mating", "at", "many"]
theorem sc_holds : FnScope N_holds P_holds (defScope s_holds) := ⟨rfl, rfl, rfl, by decide +kernel, rfl, by decide +kernel, by decide +kernel⟩
def spHolds : Sp := fun vs H Q _ => ∃ (t : Addr) (o p m f : Int) (x y : V), vs = [.ref t, x, y] ∧ H t = some (tup4 o p m f) ∧
  ((∃ b, x = .bl b ∧ Q (.bl false) H) ∨ (∃ i b, x = .int i ∧ y = .bl b ∧ Q (.bl false) H) ∨ ∃ i k, x = .int i ∧ y = .int k ∧ Q (.bl (decide (1 ≤ k ∧ o ≤ i ∧ i + k ≤ o + m))) H)
theorem at4_0 {a b c d : V} : atI [a, b, c, d] 0 = some a := atI_nat (j := 0) rfl
theorem at4_1 {a b c d : V} : atI [a, b, c, d] 1 = some b := atI_nat (j := 1) rfl
theorem at4_2 {a b c d : V} : atI [a, b, c, d] 2 = some c := atI_nat (j := 2) rfl
theorem at4_3 {a b c d : V} : atI [a, b, c, d] 3 = some d := atI_nat (j := 3) rfl
section
variable {P : Program} {w : World} {K : PySem.W.Frag} {mg : Str → Option Value} {base : Heap}
theorem ok_holds {f : Addr} {fd : FuncData} (D : DefAt K mg "holds" s_holds P_holds f fd) (B : Bn mg) : FnOk P w K mg base CX0 1 f fd P_holds spHolds := by
  refine D.F.ok sc_holds (fun vs H Q E h => ?_) (fun cdv A outer s H vs Q E hr h => ?_)
  · obtain ⟨t, o, p, m, f, x, y, rfl, _⟩ := h
    rfl
  · obtain ⟨t, o, p, m, f, x, y, rfl, ht, h⟩ := h
    refine ⟨_, (pss_cons (ps_if (PW.pt (pw_or (pt_val (pe_callB call_isi (by rfl) B.isinstance (by decide +kernel) (pa_cons (pv 1) (pa_cons (pe_bltn (v := .ty "bool") (by rfl) B.bool (by decide +kernel) rfl) pa_nil)))) (pw_or (pt_val (pe_callB call_isi (by rfl) B.isinstance (by decide +kernel) (pa_cons (pv 2) (pa_cons (pe_bltn (v := .ty "bool") (by rfl) B.bool (by decide +kernel) rfl) pa_nil)))) (pw_or1 (pt_cmpR op_lt (pv 2) pe_int (nomark _)))))) (pss_one (ps_ret pe_bl)) pss_nil)
      (pss_one (ps_ret (pe_and (pe_cmpR op_le (pe_ix ix_tup (pv 0) pe_int (fun _ _ => rfl)) (pv 1) (nomark _)) (pe_one (pe_cmpR op_le (pe_op op_add (pv 1) (pv 2)) (pe_op op_add (pe_ix ix_tup (pv 0) pe_int (fun _ _ => rfl)) (pe_ix ix_tup (pv 0) pe_int (fun _ _ => rfl))) (nomark _))))))), ?_⟩
    rcases h with ⟨b, rfl, q⟩ | ⟨i, b, rfl, rfl, q⟩ | ⟨i, k, rfl, rfl, q⟩
    · exact ⟨.bl b, rfl, _, _, _, _, true, rfl, ClsV.ty _, TyX.base (TyOf.bl _), kit_ty (by decide +kernel), _, rfl, q⟩
    · refine ⟨.int i, rfl, _, _, _, _, false, rfl, ClsV.ty _, TyX.base (TyOf.int _), kit_ty (by decide +kernel), _, rfl, ?_⟩
      exact ⟨.bl b, rfl, _, _, _, _, true, rfl, ClsV.ty _, TyX.base (TyOf.bl _), kit_ty (by decide +kernel), _, rfl, q⟩
    · refine ⟨.int i, rfl, _, _, _, _, false, rfl, ClsV.ty _, TyX.base (TyOf.int _), kit_ty (by decide +kernel), _, rfl, ?_⟩
      refine ⟨.int k, rfl, _, _, _, _, false, rfl, ClsV.ty _, TyX.base (TyOf.int _), kit_ty (by decide +kernel), _, rfl, ?_⟩
      refine ⟨.int k, rfl, k, 1, rfl, rfl, _, rfl, ?_⟩
      refine ite2 (fun hk => ?_) (fun hk => ?_)
      · have hk' : k < 1 := of_decide_eq_true hk
        have e : decide (1 ≤ k ∧ o ≤ i ∧ i + k ≤ o + m) = false := decide_eq_false (by omega)
        rw [e] at q
        exact q
      · have hk' : ¬ k < 1 := fun z => hk (decide_eq_true z)
        refine ⟨.ref t, rfl, t, _, 0, .int o, rfl, rfl, SqT.of ht, at4_0, .int i, rfl, o, i, rfl, rfl, _, rfl, ?_⟩
        refine ite2 (fun h1 => ?_) (fun h1 => ?_)
        · have h1' : o ≤ i := of_decide_eq_true h1
          refine ⟨.int i, rfl, .int k, rfl, i, k, rfl, rfl, .ref t, rfl, t, _, 0, .int o, rfl, rfl, SqT.of ht, at4_0, .ref t, rfl, t, _, 2, .int m, rfl, rfl, SqT.of ht, at4_2, o, m, rfl, rfl, _, _, rfl, rfl, ?_⟩
          have e : decide (1 ≤ k ∧ o ≤ i ∧ i + k ≤ o + m) = decide (i + k ≤ o + m) := decide_eq_decide.mpr ⟨fun z => z.2.2, fun z => ⟨by omega, h1', z⟩⟩
          rw [e] at q
          exact q
        · have h1' : ¬ o ≤ i := fun z => h1 (decide_eq_true z)
          have e : decide (1 ≤ k ∧ o ≤ i ∧ i + k ≤ o + m) = false := decide_eq_false (by omega)
          rw [e] at q
          exact q
end
abbrev s_part : Stmt := top 23
abbrev N_part : List Str := ["mating", "at", "many", "one", "other", "reach", "turned", "ahead"]
abbrev P_part : List Str := ["mating", "at", "many"]
theorem sc_part : FnScope N_part P_part (defScope s_part) := ⟨rfl, rfl, rfl, by decide +kernel, rfl, by decide +kernel, by decide +kernel⟩
def partP (o p m f i k : Int) : Int := if f = 1 then p + m - (i - o) - k else p + (i - o)
def spPart : Sp := fun vs H Q _ => ∃ (t : Addr) (o p m f i k : Int), vs = [.ref t, .int i, .int k] ∧ H t = some (tup4 o p m f) ∧ (f = 0 ∨ f = 1) ∧ 1 ≤ k ∧ o ≤ i ∧ i + k ≤ o + m ∧
  ∀ r, H r = none → Q (.ref r) (upd H r (tup4 i (partP o p m f i k) k f))
section
variable {P : Program} {w : World} {K : PySem.W.Frag} {mg : Str → Option Value} {base : Heap}
theorem ok_part {f fH : Addr} {fd fdH : FuncData} (D : DefAt K mg "part" s_part P_part f fd) (D_holds : DefAt K mg "holds" s_holds P_holds fH fdH) (B : Bn mg) : FnOk P w K mg base CX0 2 f fd P_part spPart := by
  have G_holds : FnOk P w K mg base CX0 1 fH fdH P_holds spHolds := ok_holds D_holds B
  refine D.F.ok sc_part (fun vs H Q E h => ?_) (fun cdv A outer s H vs Q E hr h => ?_)
  · obtain ⟨t, o, p, m, f, i, k, rfl, _⟩ := h
    rfl
  · obtain ⟨t, o, p, m, f, i, k, rfl, ht, hf, h1, h2, h3, q⟩ := h
    refine ⟨_, (pss_cons (ps_if (pt_not (pt_val (pe_call G_holds (hr.mono (by omega)) (by rfl) D_holds.g D_holds.F.kp D_holds.b .nil pass0 (pa_cons (pv 0) (pa_cons (pv 1) (pa_cons (pv 2) pa_nil)))))) (pss_one ps_never) pss_nil)
      (pss_cons (ps_asg (pv 0) (pg_tup (by rfl) (pgs_cons (pg_name (i := 3) sc_part.nd rfl (.inl rfl)) (pgs_cons (pg_name (i := 4) sc_part.nd rfl (.inl rfl)) (pgs_cons (pg_name (i := 5) sc_part.nd rfl (.inl rfl)) (pgs_cons (pg_name (i := 6) sc_part.nd rfl (.inl rfl)) pgs_nil))))))
      (pss_cons (ps_set (i := 7) sc_part.nd rfl (.inl rfl) (pe_op op_sub (pv 1) (pv 3)))
      (pss_cons (ps_if (pt_cmpR op_eq (pv 6) pe_int (nomark _)) (pss_one (ps_ret (pe_tup (pa_cons (pv 1) (pa_cons (pe_op op_sub (pe_op op_sub (pe_op op_add (pv 4) (pv 5)) (pv 7)) (pv 2)) (pa_cons (pv 2) (pa_cons pe_int pa_nil))))))) pss_nil)
      (pss_one (ps_ret (pe_tup (pa_cons (pv 1) (pa_cons (pe_op op_add (pv 4) (pv 7)) (pa_cons (pv 2) (pa_cons pe_int pa_nil))))))))))), ?_⟩
    refine ⟨.ref t, rfl, .int i, rfl, .int k, rfl, t, o, p, m, f, .int i, .int k, rfl, ht, .inr (.inr ⟨i, k, rfl, rfl, ?_⟩)⟩
    rw [decide_eq_true (show 1 ≤ k ∧ o ≤ i ∧ i + k ≤ o + m from ⟨h1, h2, h3⟩)]
    refine ⟨true, rfl, iteF ?_⟩
    refine ⟨.ref t, rfl, t, _, rfl, SqT.of ht, rfl, .int o, _, rfl, .int p, _, rfl, .int m, _, rfl, .int f, _, rfl, rfl, ?_⟩
    refine ⟨.int i, rfl, .int o, rfl, i, o, rfl, rfl, ?_⟩
    refine ⟨.int f, rfl, rfl, _, rfl, ?_⟩
    rcases hf with rfl | rfl
    · rw [decide_eq_false (show ¬ (V.int 0 = V.int 1) from fun z => by cases z)]
      refine iteF ?_
      refine ⟨.int i, rfl, .int p, rfl, .int (i - o), rfl, p, i - o, rfl, rfl, .int k, rfl, by show 4 ≤ sizeLine; decide, fun r hr' => ?_⟩
      exact q r hr'
    · rw [decide_eq_true (show (V.int 1 = V.int 1) from rfl)]
      refine iteT ?_
      refine ⟨.int i, rfl, .int p, rfl, .int m, rfl, p, m, rfl, rfl, .int (i - o), rfl, _, _, rfl, rfl, .int k, rfl, _, _, rfl, rfl, .int k, rfl, by show 4 ≤ sizeLine; decide, fun r hr' => ?_⟩
      exact q r hr'
end

/-! ### _law_mating -/
abbrev s_mating : Stmt := top 31
abbrev N_mating : List Str := ["_law_draw", "_law_length", "_law_many", "_law_room"]
abbrev P_mating : List Str := ["_law_draw", "_law_length"]
theorem sc_mating : FnScope N_mating P_mating (defScope s_mating) := ⟨rfl, rfl, rfl, by decide +kernel, rfl, by decide +kernel, by decide +kernel⟩
structure Mat (n o p m f : Int) : Prop where
  m1 : 1 ≤ m
  o0 : 0 ≤ o
  o1 : o + m ≤ n
  p0 : 0 ≤ p
  p1 : p + m ≤ n
  f01 : f = 0 ∨ f = 1
def spMating : Sp := fun vs H Q _ => ∃ (d l : Addr) (n : Int), vs = [.ref d, .int n] ∧ Draw H d l ∧ 1 ≤ n ∧ n < 2 ^ 60 ∧
  ∀ (H' : Hp) (t : Addr) (o p m f : Int), Draw H' d l → Keep d H H' → H' t = some (tup4 o p m f) → Mat n o p m f → Q (.ref t) H'
section
variable {P : Program} {w : World} {K : PySem.W.Frag} {mg : Str → Option Value} {base : Heap}
theorem ok_mating {f fP : Addr} {fd fdP : FuncData} (D : DefAt K mg "_law_mating" s_mating P_mating f fd) (D_pull : DefAt K mg "_law_pull" s_pull P_pull fP fdP) (B : Bn mg) : FnOk P w K mg base CX0 2 f fd P_mating spMating := by
  have G_pull : FnOk P w K mg base CX0 1 fP fdP P_pull spPull := ok_pull D_pull B
  refine D.F.ok sc_mating (fun vs H Q E h => ?_) (fun cdv A outer s H vs Q E hr h => ?_)
  · obtain ⟨d, l, n, rfl, _⟩ := h
    rfl
  · obtain ⟨d, l, n, rfl, hD, n1, n2, q⟩ := h
    refine ⟨_, (pss_cons (ps_set (i := 2) sc_mating.nd rfl (.inl rfl) (pe_op op_add pe_int (pe_call G_pull (hr.mono (by omega)) (by rfl) D_pull.g D_pull.F.kp D_pull.b .nil pass0 (pa_cons (pv 0) (pa_cons (pv 1) pa_nil)))))
      (C8.pss_cut (ps_if (pt_cmpR op_eq (pe_call G_pull (hr.mono (by omega)) (by rfl) D_pull.g D_pull.F.kp D_pull.b .nil pass0 (pa_cons (pv 0) (pa_cons pe_int pa_nil))) pe_int (nomark _)) (pss_one (ps_set (i := 2) sc_mating.nd rfl (.inl rfl) (pe_op op_add pe_int (pe_call G_pull (hr.mono (by omega)) (by rfl) D_pull.g D_pull.F.kp D_pull.b .nil pass0 (pa_cons (pv 0) (pa_cons (pe_callB (call_min2 rfl) (by rfl) B.min (by decide +kernel) (pa_cons (pv 2) (pa_cons pe_int pa_nil))) pa_nil)))))) pss_nil)
      (pss_cons (ps_set (i := 3) sc_mating.nd rfl (.inl rfl) (pe_op op_add (pe_op op_sub (pv 1) (pv 2)) pe_int))
      (pss_one (ps_ret (pe_tup (pa_cons (pe_call G_pull (hr.mono (by omega)) (by rfl) D_pull.g D_pull.F.kp D_pull.b .nil pass0 (pa_cons (pv 0) (pa_cons (pv 3) pa_nil))) (pa_cons (pe_call G_pull (hr.mono (by omega)) (by rfl) D_pull.g D_pull.F.kp D_pull.b .nil pass0 (pa_cons (pv 0) (pa_cons (pv 3) pa_nil))) (pa_cons (pv 2) (pa_cons (pe_call G_pull (hr.mono (by omega)) (by rfl) D_pull.g D_pull.F.kp D_pull.b .nil pass0 (pa_cons (pv 0) (pa_cons pe_int pa_nil))) pa_nil)))))))))), ?_⟩
    refine ⟨.ref d, rfl, .int n, rfl, d, l, n, rfl, hD, n1, by omega, fun a H1 a0 a1 D1 k1 => ?_⟩
    refine ⟨1, a, rfl, rfl, ?_⟩
    refine ⟨fun σ H' => ∃ m : Int, σ = [some (.ref d), some (.int n), some (.int m), none] ∧ Draw H' d l ∧ Keep d H H' ∧ 1 ≤ m ∧ m ≤ n, ?_, ?_⟩
    · refine ⟨.ref d, rfl, d, l, 2, rfl, D1, by decide, by decide, fun b H2 b0 b1 D2 k2 => ?_⟩
      refine ⟨rfl, _, rfl, ?_⟩
      refine ite2 (fun _ => ?_) (fun _ => ?_)
      · refine ⟨.ref d, rfl, .int (1 + a), rfl, 1 + a, 5, rfl, d, l, _, rfl, D2, ?_, ?_, fun c H3 c0 c1 D3 k3 => ?_⟩
        · split <;> omega
        · split <;> omega
        · refine ⟨1, c, rfl, rfl, 1 + c, rfl, D3, (k1.trans k2).trans k3, by omega, ?_⟩
          have c1' : c < (if (5 : Int) < 1 + a then 5 else 1 + a) := c1
          split at c1' <;> omega
      · exact ⟨1 + a, rfl, D2, k1.trans k2, by omega, by omega⟩
    · rintro σ H3 ⟨m, rfl, D3, k3, m1, m2⟩
      refine ⟨.int n, rfl, .int m, rfl, n, m, rfl, rfl, _, 1, rfl, rfl, ?_⟩
      refine ⟨.ref d, rfl, .int (n - m + 1), rfl, d, l, n - m + 1, rfl, D3, by omega, by omega, fun o H4 o0 o1 D4 k4 => ?_⟩
      refine ⟨.ref d, rfl, .int (n - m + 1), rfl, d, l, n - m + 1, rfl, D4, by omega, by omega, fun p H5 p0 p1 D5 k5 => ?_⟩
      refine ⟨.int m, rfl, .ref d, rfl, d, l, 2, rfl, D5, by decide, by decide, fun f H6 f0 f1 D6 k6 => ?_⟩
      refine ⟨by show 4 ≤ sizeLine; decide, fun t nt => ?_⟩
      exact q _ t o p m f (D6.same (same_upd nt)) ((((k3.trans k4).trans k5).trans k6).trans (keepS (same_upd nt))) upd_same ⟨m1, o0, by omega, p0, by omega, by omega⟩
end

/-! ### _law_ends -/
abbrev s_ends : Stmt := top 32
abbrev N_ends : List Str := ["_law_mating_here", "_law_one", "_law_other", "_law_many", "_law_flips", "_law_found", "_law_k"]
abbrev P_ends : List Str := ["_law_mating_here"]
theorem sc_ends : FnScope N_ends P_ends (defScope s_ends) := ⟨rfl, rfl, rfl, by decide +kernel, rfl, by decide +kernel, by decide +kernel⟩
def endQ (p m f k : Int) : Int := if f = 1 then p + m - 1 - k else p + k
def endL (o p m f : Int) (n : Nat) : List (Int × Int) := (List.range n).map fun (k : Nat) => (o + (k : Int), endQ p m f (k : Int))
/-- the pairs at these addresses -/
def Prs (H : Hp) (ps : List Addr) (xs : List (Int × Int)) : Prop := Paired (fun a x => H a = some (.tup [.int x.1, .int x.2])) ps xs
theorem Paired.same {H H' : Hp} (e : Same H H') : ∀ {ps : List Addr} {xs : List (Int × Int)}, Prs H ps xs → Prs H' ps xs
  | _, _, .nil => .nil
  | _, _, .cons h r => .cons (e _ _ h) (Paired.same e r)
theorem Prs.same {H H' : Hp} {ps : List Addr} {xs : List (Int × Int)} (h : Prs H ps xs) (e : Same H H') : Prs H' ps xs := Paired.same e h
theorem Prs.snoc {H : Hp} : ∀ {ps : List Addr} {xs : List (Int × Int)} {a : Addr} {x : Int × Int}, Prs H ps xs → H a = some (.tup [.int x.1, .int x.2]) → Prs H (ps ++ [a]) (xs ++ [x])
  | _, _, _, _, .nil, h => .cons h .nil
  | _, _, _, _, .cons h r, h2 => .cons h (Prs.snoc r h2)
theorem Prs.length {H : Hp} : ∀ {ps : List Addr} {xs : List (Int × Int)}, Prs H ps xs → ps.length = xs.length
  | _, _, .nil => rfl
  | _, _, .cons _ r => congrArg (· + 1) (Prs.length r)
theorem Prs.get {H : Hp} : ∀ {ps : List Addr} {xs : List (Int × Int)}, Prs H ps xs → ∀ (i : Nat) (x : Int × Int), xs[i]? = some x → ∃ a, ps[i]? = some a ∧ H a = some (.tup [.int x.1, .int x.2])
  | _, _, .nil, i, x, h => by simp at h
  | _, _, .cons (a := a) h r, 0, x, e => by
    cases e
    exact ⟨a, rfl, h⟩
  | _, _, .cons h r, i + 1, x, e => Prs.get r i x e
theorem Prs.rp {H : Hp} : ∀ {ps : List Addr} {xs : List (Int × Int)}, Prs H ps xs → ∀ n, RpAll H (n + 1) (ps.map V.ref) (xs.map fun x => .tuple [.int x.1, .int x.2])
  | _, _, .nil, n => .nil _
  | _, _, .cons h r, n => .cons (.tup h (by show 2 ≤ 100000; decide) (.cons (.int _ _) (.cons (.int _ _) (.nil _)))) (Prs.rp r n)
theorem endL_snoc (o p m f : Int) (n : Nat) : endL o p m f (n + 1) = endL o p m f n ++ [(o + (n : Int), endQ p m f (n : Int))] := by
  unfold endL
  rw [List.range_succ, List.map_append]
  rfl
theorem endL_length (o p m f : Int) (n : Nat) : (endL o p m f n).length = n := by
  unfold endL
  rw [List.length_map, List.length_range]
def spEnds : Sp := fun vs H Q _ => ∃ (t : Addr) (o p f : Int) (m : Nat), vs = [.ref t] ∧ H t = some (tup4 o p (m : Int) f) ∧ m ≤ 50000 ∧
  ∀ (H' : Hp) (r : Addr) (ps : List Addr), Same H H' → H r = none → H' r = some (.lst (ps.map V.ref)) → Prs H' ps (endL o p m f m) → Q (.ref r) H'
section
variable {P : Program} {w : World} {K : PySem.W.Frag} {mg : Str → Option Value} {base : Heap}
theorem ok_ends {f : Addr} {fd : FuncData} (D : DefAt K mg "_law_ends" s_ends P_ends f fd) (B : Bn mg) : FnOk P w K mg base CX0 1 f fd P_ends spEnds := by
  refine D.F.ok sc_ends (fun vs H Q E h => ?_) (fun cdv A outer s H vs Q E hr h => ?_)
  · obtain ⟨t, o, p, f, m, rfl, _⟩ := h
    rfl
  · obtain ⟨t, o, p, f, m, rfl, ht, hm, q⟩ := h
    refine ⟨_, (pss_cons (ps_asg (pv 0) (pg_tup (by rfl) (pgs_cons (pg_name (i := 1) sc_ends.nd rfl (.inl rfl)) (pgs_cons (pg_name (i := 2) sc_ends.nd rfl (.inl rfl)) (pgs_cons (pg_name (i := 3) sc_ends.nd rfl (.inl rfl)) (pgs_cons (pg_name (i := 4) sc_ends.nd rfl (.inl rfl)) pgs_nil))))))
      (pss_cons (ps_set (i := 5) sc_ends.nd rfl (.inl rfl) (pe_lst pa_nil))
      (pss_cons (ps_for PassesOwn.never rfl (pi_range1 (by rfl) B.range (pa_cons (pv 3) pa_nil)) (pg_name (i := 6) sc_ends.nd rfl (.inl rfl)) (pss_one (ps_expr (pe_bm PySem.F.plainAttrs_list PySem.F.slot_list_append PySem.F.type_list_append mt_append (pv 5) (pa_cons (pe_tup (pa_cons (pe_op op_add (pv 1) (pv 6)) (pa_cons (pe_ifExp (pt_cmpR op_eq (pv 4) pe_int (nomark _)) (pe_op op_sub (pe_op op_sub (pe_op op_add (pv 2) (pv 3)) pe_int) (pv 6)) (pe_op op_add (pv 2) (pv 6))) pa_nil))) pa_nil)))))
      (pss_one (ps_ret (pv 5)))))), ?_⟩
    refine ⟨.ref t, rfl, t, _, rfl, SqT.of ht, rfl, .int o, _, rfl, .int p, _, rfl, .int (m : Int), _, rfl, .int f, _, rfl, rfl, ?_⟩
    refine ⟨Nat.zero_le _, fun r nr => ?_⟩
    refine ⟨.int (m : Int), rfl, (m : Int), rfl, by omega, by omega, for_range (lo := 0) (n := ((m : Int)).toNat) (fun i σ H2 => ∃ (y : Option V) (ps : List Addr), σ = [some (.ref t), some (.int o), some (.int p), some (.int (m : Int)), some (.int f), some (.ref r), y] ∧ Same H H2 ∧ H2 r = some (.lst (ps.map V.ref)) ∧ Prs H2 ps (endL o p m f i))
      ⟨none, [], rfl, same_upd nr, upd_same, .nil⟩ ?_ ?_⟩
    · rintro i σ H2 hi ⟨y, ps, rfl, sm, e2, pr⟩
      have hl := pr.length
      rw [endL_length] at hl
      have hlt : (ps.map V.ref).length < sizeLine := sz_lt (by rw [List.length_map]; omega)
      have fin : ∀ (a : Addr) (z : Int), H2 a = none → z = endQ p m f (i : Int) → ∃ (y : Option V) (ps' : List Addr), ([some (.ref t), some (.int o), some (.int p), some (.int (m : Int)), some (.int f), some (.ref r), some (.int (0 + (i : Int)))] : List (Option V)) = [some (.ref t), some (.int o), some (.int p), some (.int (m : Int)), some (.int f), some (.ref r), y] ∧ Same H (upd (upd H2 a (.tup [.int (o + (0 + (i : Int))), .int z])) r (.lst ((ps.map V.ref) ++ [.ref a]))) ∧
          (upd (upd H2 a (.tup [.int (o + (0 + (i : Int))), .int z])) r (.lst ((ps.map V.ref) ++ [.ref a]))) r = some (.lst (ps'.map V.ref)) ∧ Prs (upd (upd H2 a (.tup [.int (o + (0 + (i : Int))), .int z])) r (.lst ((ps.map V.ref) ++ [.ref a]))) ps' (endL o p m f (i + 1)) := fun a z na ez => by
        have nar : a ≠ r := (ne_of_none e2 na).symm
        refine ⟨_, ps ++ [a], rfl, fun b o' hb => ?_, ?_, ?_⟩
        · rw [upd_ne (ne_of_none hb nr), upd_ne (ne_of_none (sm _ _ hb) na)]
          exact sm _ _ hb
        · rw [upd_same, List.map_append]
          rfl
        · rw [endL_snoc]
          refine Prs.snoc (Paired.mapP pr fun b x hb => ?_) ?_
          · have nbr : b ≠ r := ne_of hb e2 (fun z => by cases z)
            rw [upd_ne nbr, upd_ne (ne_of_none hb na)]
            exact hb
          · rw [upd_ne nar, upd_same, ez, show o + (0 + (i : Int)) = o + (i : Int) by omega]
      -- found.append((one + k, ..))
      refine ⟨.ref r, rfl, .inl ⟨rfl, _, SqL.of e2⟩, .int o, rfl, .int (0 + (i : Int)), rfl, o, _, rfl, rfl, .int f, rfl, rfl, _, rfl, ?_⟩
      refine ite2 (fun hf => ?_) (fun hf => ?_)
      · have hf' : f = 1 := V.int.inj (of_decide_eq_true hf)
        refine ⟨.int p, rfl, .int (m : Int), rfl, p, _, rfl, rfl, _, 1, rfl, rfl, .int (0 + (i : Int)), rfl, _, _, rfl, rfl, by show 2 ≤ sizeLine; decide, fun a na => ?_⟩
        exact ⟨r, _, _, rfl, rfl, (by rw [upd_ne (ne_of_none e2 na)]; exact e2), hlt, fin a _ na (by unfold endQ; rw [if_pos hf']; omega)⟩
      · have hf' : ¬ f = 1 := fun z => hf (decide_eq_true (congrArg V.int z))
        refine ⟨.int p, rfl, .int (0 + (i : Int)), rfl, p, _, rfl, rfl, by show 2 ≤ sizeLine; decide, fun a na => ?_⟩
        exact ⟨r, _, _, rfl, rfl, (by rw [upd_ne (ne_of_none e2 na)]; exact e2), hlt, fin a _ na (by unfold endQ; rw [if_neg hf']; omega)⟩
    · rintro σ H2 ⟨y, ps, rfl, sm, e2, pr⟩
      exact ⟨.ref r, rfl, q H2 r ps sm nr e2 (by rw [Int.toNat_natCast] at pr; exact pr)⟩
end

/-! ### lists of pairs as data -/
def pd (x : Int × Int) : PyData := .tuple [.int x.1, .int x.2]
theorem lay_pairs : ∀ xs : List (Int × Int), PyData.canLayAll0 (xs.map pd) = true
  | [] => rfl
  | x :: r => by
    show (PyData.canLay0 (pd x) && PyData.canLayAll0 (r.map pd)) = true
    rw [lay_pairs r]
    rfl
theorem depth_pairs : ∀ xs : List (Int × Int), PyData.depthAll (xs.map pd) ≤ 1
  | [] => Nat.zero_le _
  | x :: r => Nat.max_le.mpr ⟨Nat.le_refl 1, depth_pairs r⟩
theorem shaped_pairs (xs : List (Int × Int)) : SeqAt.shaped (.list (xs.map pd)) = true := by
  unfold SeqAt.shaped
  rw [show PyData.canLay0 (.list (xs.map pd)) = true from lay_pairs xs, Bool.true_and, decide_eq_true_eq]
  have := depth_pairs xs
  show PyData.depthAll (xs.map pd) + 1 ≤ 64
  omega
theorem eqv_nil : ∀ xs : List (Int × Int), PyData.eqv (.list (xs.map pd)) (.list []) = xs.isEmpty
  | [] => rfl
  | x :: r => rfl
theorem Prs.dp {H : Hp} {K : PySem.W.Frag} : ∀ {ps : List Addr} {xs : List (Int × Int)}, Prs H ps xs → DpAll K H (ps.map V.ref) (xs.map pd)
  | _, _, .nil => .nil
  | _, _, .cons h r => .cons (.tup (SqT.of h) (.cons (.int _) (.cons (.int _) .nil))) (Prs.dp r)
theorem Prs.rpd {H : Hp} {ps : List Addr} {xs : List (Int × Int)} (h : Prs H ps xs) (n : Nat) : RpAll H (n + 1) (ps.map V.ref) (xs.map pd) := h.rp n
/-- a list of pairs that grows by one -/
theorem Prs.grow {H : Hp} {r a : Addr} {ps : List Addr} {xs : List (Int × Int)} {x : Int × Int} {o : HO} (h : Prs H ps xs) (hr : H r = some (.lst (ps.map V.ref))) (ha : H a = some (.tup [.int x.1, .int x.2])) :
    Prs (upd H r (.lst ((ps.map V.ref) ++ [.ref a]))) (ps ++ [a]) (xs ++ [x]) := by
  have ne : ∀ {b : Addr} {y : Int × Int}, H b = some (.tup [.int y.1, .int y.2]) → b ≠ r := fun hb => ne_of hb hr (fun z => by cases z)
  refine Prs.snoc (Paired.mapP h fun b y hb => ?_) ?_
  · rw [upd_ne (ne hb)]
    exact hb
  · rw [upd_ne (ne ha)]
    exact ha

/-! ### _law_scaled -/
abbrev s_scaled : Stmt := top 33
abbrev N_scaled : List Str := ["_law_matings", "_law_times", "_law_one", "_law_other", "_law_many", "_law_flips"]
abbrev P_scaled : List Str := ["_law_matings", "_law_times"]
theorem sc_scaled : FnScope N_scaled P_scaled (defScope s_scaled) := ⟨rfl, rfl, rfl, by decide +kernel, rfl, by decide +kernel, by decide +kernel⟩
def spScaled : Sp := fun vs H Q _ => ∃ (L t : Addr) (o p m f k : Int), vs = [.ref L, .int k] ∧ H L = some (.lst [.ref t]) ∧ H t = some (tup4 o p m f) ∧ (-(2 ^ 64) < k ∧ k < 2 ^ 64) ∧
  ∀ (H' : Hp) (r u : Addr), Same H H' → H' r = some (.lst [.ref u]) → H' u = some (tup4 (o * k) (p * k) (m * k) f) → Q (.ref r) H'
section
variable {P : Program} {w : World} {K : PySem.W.Frag} {mg : Str → Option Value} {base : Heap}
theorem ok_scaled {f : Addr} {fd : FuncData} (D : DefAt K mg "_law_scaled" s_scaled P_scaled f fd) : FnOk P w K mg base CX0 1 f fd P_scaled spScaled := by
  refine D.F.ok sc_scaled (fun vs H Q E h => ?_) (fun cdv A outer s H vs Q E hr h => ?_)
  · obtain ⟨L, t, o, p, m, f, k, rfl, _⟩ := h
    rfl
  · obtain ⟨L, t, o, p, m, f, k, rfl, hL, ht, hk, q⟩ := h
    refine ⟨_, (pss_one (ps_ret (pe_lc (own := [("_law_one", 2), ("_law_other", 3), ("_law_many", 4), ("_law_flips", 5)]) (g := gTup K 4 (gCons (gName 2) (gCons (gName 3) (gCons (gName 4) (gCons (gName 5) gNil))))) (by rfl) sc_scaled.nd (pi_list (pv 0)) (blkOk_by (own := [("_law_one", 2), ("_law_other", 3), ("_law_many", 4), ("_law_flips", 5)]) (N := N_scaled) (sc := defScope s_scaled) (by decide +kernel)) (fun _ _ _ _ _ => (pg_tup (by rfl) (pgs_cons (pg_name (i := 2) sc_scaled.nd rfl (.inl rfl)) (pgs_cons (pg_name (i := 3) sc_scaled.nd rfl (.inl rfl)) (pgs_cons (pg_name (i := 4) sc_scaled.nd rfl (.inl rfl)) (pgs_cons (pg_name (i := 5) sc_scaled.nd rfl (.inl rfl)) pgs_nil)))))) (fun _ _ _ _ _ => pts_nil) (fun _ _ _ _ _ => (pe_tup (pa_cons (pe_op op_mul (pv 2) (pv 1)) (pa_cons (pe_op op_mul (pv 3) (pv 1)) (pa_cons (pe_op op_mul (pv 4) (pv 1)) (pa_cons (pv 5) pa_nil))))))))), ?_⟩
    refine ⟨.ref L, rfl, L, rfl, ⟨_, SqL.of hL⟩, fun D hD => lc_list (K := K) (a := L) (xs := [.ref t]) (fun i H2 => Same H H2 ∧ ((i = 0 ∧ H2 D = some (.lst [])) ∨ (i = 1 ∧ ∃ u, H2 D = some (.lst [.ref u]) ∧ H2 u = some (tup4 (o * k) (p * k) (m * k) f))))
      ⟨same_upd hD, .inl ⟨rfl, upd_same⟩⟩ (fun i H2 _ ⟨sm, _⟩ => SqL.of (sm _ _ hL)) ?_ ?_⟩
    · rintro i x H2 hx ⟨sm, h⟩
      have i0 : i = 0 := by
        have := (List.getElem?_eq_some_iff.mp hx).1
        have : i < 1 := this
        omega
      subst i0
      cases hx
      rcases h with ⟨_, eD⟩ | ⟨z, _⟩
      · refine ⟨t, _, rfl, SqT.of (sm _ _ ht), rfl, .int o, _, rfl, .int p, _, rfl, .int m, _, rfl, .int f, _, rfl, rfl, rfl, ?_⟩
        refine ⟨.int o, rfl, .int k, rfl, o, k, rfl, rfl, .inr hk, .int p, rfl, .int k, rfl, p, k, rfl, rfl, .inr hk, .int m, rfl, .int k, rfl, m, k, rfl, rfl, .inr hk, .int f, rfl, by show 4 ≤ sizeLine; decide, fun u nu => ?_⟩
        have nuD : u ≠ D := (ne_of_none eD nu).symm
        refine ⟨[], same_upd nu _ _ eD, by decide, fun b o' hb => ?_, .inr ⟨rfl, u, upd_same, ?_⟩⟩
        · rw [upd_ne (ne_of_none hb hD), upd_ne (ne_of_none (sm _ _ hb) nu)]
          exact sm _ _ hb
        · rw [upd_ne nuD]
          exact upd_same
      · omega
    · rintro H2 ⟨sm, h⟩
      rcases h with ⟨z, _⟩ | ⟨_, u, e1, e2⟩
      · exact absurd (show (1 : Nat) = 0 from z) (by decide)
      · exact q H2 D u sm e1 e2
end

/-! ### rules of my own: a value in an f-string, a def read off its class -/
section
open PySem.Spec PyProof.Rows
variable {X : Cx}
def tFmtV (te : TE) : TE := fun σ H Q => te σ H fun x H1 => (∃ i : Int, x = .int i ∧ i.natAbs.log2 < 1920 ∧ Q (.str (toString i)) H1) ∨ (∃ b : Bool, x = .bl b ∧ Q (.str (if b then "True" else "False")) H1)
theorem pe_fmtV {e : Expr} {te : TE} {pos : Pos} (he : PE X e te) : PE X (.FormattedValue e (-1) none pos) (tFmtV te) := by
  refine ⟨fun pins s σ H Q I h => ?_⟩
  refine wpAny_FormattedValue_plain (thn (he.run pins s σ H _ I h) fun v s1 hv => ?_)
  obtain ⟨x, H1, I1, r1, q⟩ := hv
  rcases q with ⟨i, rfl, hz, q⟩ | ⟨b, rfl, q⟩
  · obtain ⟨t, rfl⟩ := r1
    exact wpAny_formatField_int hz ⟨.str (toString i), H1, I1.tok _, ⟨_, rfl⟩, q⟩
  · cases (show v = Value.bool b from r1)
    exact wpAny_formatField_bool ⟨.str (if b then "True" else "False"), H1, I1.tok _, ⟨_, rfl⟩, q⟩
/-- what the written part says of a class's own def, read off the class -/
structure ClsFn (K : PySem.W.Frag) (C : Addr) (m : Str) (f : Addr) : Prop where
  sp : PySem.W.specialIn K (.ref C) "__getattribute__" = some (some (.builtin "type.__getattribute__"))
  rd : PySem.W.readsIn K C (.type "type") = true
  fc : PySem.W.findCls K (.ref C) (.type "type") m = some (.val (.ref f))
  kp : PySem.W.keepIn K (.ref f) = true
theorem pe_clsfn {CX : CXT} {k : Nat} {f C : Addr} {fd : FuncData} {ps : List Str} {sp : Sp} {E : XK} {x m : Str} {p1 p2 pos : Pos} {e : Expr} {es : List Expr} {t : TA} {pl : Sem Bool} (hg : Gl X x) (hm : X.mg x = some (.ref C)) (T : ClsFn X.K C m f)
    (F : FnOk X.prog X.w X.K X.mg X.base CX k f fd ps sp) (hr : Room k X.A) (hb : Binds X.K fd ps []) (hx : Passes CX X E) (ha : PA X (e :: es) t)
    (hc : eval (.Call (.Attribute (.Name x p1) m p2) (e :: es) [] pos) X.env = (do
      let ov ← eval (.Name x p1) X.env
      standAt p2.atName
      let (f, first) ← holding [ov] (getMethod ov m pl)
      callWith pos f first (backTo pos (starEach (e :: es) X.env)) (backToKw pos (keywordEach [] X.env))) := by rfl)
    (hdb : (x == ("__debug__" : Str)) = false := by decide) (he : starEach (e :: es) X.env = (false, eval e X.env) :: starEach es X.env := by rfl) (hpl : (backTo pos (starEach es X.env)).any (·.1) = false := by rfl) :
    PE X (.Call (.Attribute (.Name x p1) m p2) (e :: es) [] pos) (tCall sp [] E t) := by
  refine ⟨fun pins s σ H Q I h => ?_⟩
  refine PySem.W.methodCall_KW (ld_glob I hg hm ?_ hdb) hc
  refine PySem.W.method_cls I.kIn T.sp (PySem.W.cls_value I.kIn T.rd T.fc rfl ?_)
  show wpAny _ _ (callWith pos (Value.ref f) [] (backTo pos (starEach (e :: es) X.env)) []) _ _ _
  refine PySem.W.callWith_K (h₀ := X.base) I.ok.mod.kin T.kp (thn (ha.run pos pins _ σ H _ (I.tok _) h) fun us s1 ⟨vs, H1, I1, r, q⟩ => ⟨I1.kIn, ?_⟩) he hpl
  exact run_fn F hr hb (.nil) hx I1 r q
end

/-! ### FarError.__init__ -/
def FV (x : V) : Prop := (∃ i : Int, x = .int i ∧ i.natAbs.log2 < 1920) ∨ ∃ b : Bool, x = .bl b
theorem FV.go {x : V} {H : Hp} {Q : V → Hp → Prop} (h : FV x) (q : ∀ y : Str, y.length ≤ 1921 → Q (.str y) H) : (∃ i : Int, x = .int i ∧ i.natAbs.log2 < 1920 ∧ Q (.str (toString i)) H) ∨ (∃ b : Bool, x = .bl b ∧ Q (.str (if b then "True" else "False")) H) := by
  rcases h with ⟨i, e, hi⟩ | ⟨b, e⟩
  · exact .inl ⟨i, e, hi, q _ (PyProof.Rows.int_text_len_1921 hi)⟩
  · exact .inr ⟨b, e, q _ (by cases b <;> decide +kernel)⟩
theorem fmtV_at {i : Nat} {x : V} {σ : L2.St} {H : Hp} {Q : VK} (hs : σ[i]? = some (some x)) (h : FV x) (q : ∀ y : Str, y.length ≤ 1921 → Q (.str y) H) : tFmtV (tVar i) σ H Q := ⟨x, hs, FV.go (Q := Q) h q⟩
theorem app_fits {a b : Str} {n m : Nat} (ha : a.length ≤ n) (hb : b.length ≤ m) : (a ++ b).length ≤ n + m := by
  rw [Str.length_append]
  omega
theorem fits_of {a : Str} {n : Nat} (ha : a.length ≤ n) (h : n ≤ 100000) : a.length ≤ sizeLine := Nat.le_trans ha (Nat.le_trans h (by decide))
abbrev s_farinit : Stmt := inClass (top 1) 0
abbrev N_farinit : List Str := ["self", "why"]
theorem sc_farinit : FnScope N_farinit N_farinit (defScope s_farinit) := ⟨rfl, rfl, rfl, by decide +kernel, rfl, by decide +kernel, by decide +kernel⟩
def spFarInit (K : PySem.W.Frag) : Sp := fun vs H Q _ => ∃ (a C : Addr) (y : Str), vs = [.ref a, .str y] ∧ OexC K C ∧ PySem.W.findIn K (.ref C) "word" = some none ∧ H a = some (exo a C none) ∧
  ∀ dx, H dx = none → dx ≠ a → Q .non (upd (upd H dx (exd dx [("word", .str "FarError")])) a (exo a C (some dx)))
section
variable {P : Program} {w : World} {K : PySem.W.Frag} {mg : Str → Option Value} {base : Heap}
theorem ok_farinit {f : Addr} {fd : FuncData} (F : FunD K "__init__" "FarError.__init__" (defArgs s_farinit) (defBody s_farinit) (defScope s_farinit) [.str ""] [] f fd) (mV : mg "ValueError" = none)
    (vV : PySem.W.findCls K (.type "ValueError") (.type "type") "__init__" = some (.val (.builtin "ValueError.__init__"))) : FnOk P w K mg base CX0 1 f fd N_farinit (spFarInit K) := by
  refine F.ok sc_farinit (fun vs H Q E h => ?_) (fun cdv A outer s H vs Q E hr h => ?_)
  · obtain ⟨a, C, y, rfl, _⟩ := h
    rfl
  · obtain ⟨a, C, y, rfl, T, hw, ha, q⟩ := h
    refine ⟨_, pss_cons (ps_expr (pe_veinit (by rfl) mV vV (pa_cons (pv 0) (pa_cons (pv 1) pa_nil)))) (pss_one (ps_ost (pv 0) pe_str)), ?_⟩
    refine ⟨.ref a, rfl, .str y, rfl, a, C, [.str y], rfl, by show 1 ≤ 1000; decide, T, ha, ?_⟩
    exact ⟨.ref a, rfl, a, C, rfl, T, hw, .inl ⟨ha, fun dx n ne => q dx n ne⟩⟩
end
/-! ### an own error's __init__ of one field -/
/-- what the written part says of an error's class -/
structure ErrT (K : PySem.W.Frag) (C : Addr) : Prop where
  o : OexC K C
  w : PySem.W.findIn K (.ref C) "word" = some none

abbrev s_bninit : Stmt := inClass (top 2) 0
abbrev N_bninit : List Str := ["self", "number"]
theorem sc_bninit : FnScope N_bninit N_bninit (defScope s_bninit) := ⟨rfl, rfl, rfl, by decide +kernel, rfl, by decide +kernel, by decide +kernel⟩
def bnF (n : V) : List (Str × V) := [("word", .str "BadNumber"), ("number", n), ("word", .str "FarError")]
def spBnInit (K : PySem.W.Frag) : Sp := fun vs H Q _ => ∃ (a C : Addr) (n : V), vs = [.ref a, n] ∧ FV n ∧ ErrT K C ∧ PySem.W.findIn K (.ref C) "number" = some none ∧ H a = some (exo a C none) ∧
  ∀ (H' : Hp) (dx : Addr), H dx = none → H' a = some (exo a C (some dx)) → H' dx = some (exd dx (bnF n)) → (∀ b o, b ≠ a → H b = some o → H' b = some o) → Q .non H'
section
variable {P : Program} {w : World} {K : PySem.W.Frag} {mg : Str → Option Value} {base : Heap}
theorem ok_bninit {f fF CF : Addr} {fd fdF : FuncData} (F : Fun K "__init__" "BadNumber.__init__" s_bninit f fd) (gF : mg "FarError" = some (.ref CF)) (TF : ClsFn K CF "__init__" fF) (bF : Binds K fdF N_farinit [])
    (GF : FnOk P w K mg base CX0 1 fF fdF N_farinit (spFarInit K)) : FnOk P w K mg base CX0 2 f fd N_bninit (spBnInit K) := by
  refine F.ok sc_bninit (fun vs H Q E h => ?_) (fun cdv A outer s H vs Q E hr h => ?_)
  · obtain ⟨a, C, n, rfl, _⟩ := h
    rfl
  · obtain ⟨a, C, n, rfl, hn, T, hno, ha, q⟩ := h
    refine ⟨_, pss_cons (ps_expr (pe_clsfn (by rfl) gF TF GF hr bF pass0 (pa_cons (pv 0) (pa_cons (pe_joined (.cons pe_str (.cons (pe_fmtV (pv 1)) .nil))) pa_nil))))
      (pss_cons (ps_ost (pv 0) (pv 1)) (pss_one (ps_ost (pv 0) pe_str))), ?_⟩
    refine ⟨.ref a, rfl, _, rfl, fits_of (n := 100) (by decide +kernel) (by decide), ?_⟩
    refine fmtV_at (i := 1) rfl hn fun y hy => ?_
    refine ⟨y, rfl, fits_of (app_fits (n := 100) (by decide +kernel) hy) (by decide), ?_⟩
    refine ⟨a, C, _, rfl, T.o, T.w, ha, fun dx ndx ne => ?_⟩
    have e1 : (upd (upd H dx (exd dx [("word", .str "FarError")])) a (exo a C (some dx))) a = some (exo a C (some dx)) := upd_same
    have e2 : (upd (upd H dx (exd dx [("word", .str "FarError")])) a (exo a C (some dx))) dx = some (exd dx [("word", .str "FarError")]) := by rw [upd_ne ne, upd_same]
    refine ⟨n, rfl, .ref a, rfl, a, C, rfl, T.o, hno, .inr ⟨dx, _, e1, e2, by show 1 ≤ 900; decide, ?_⟩⟩
    refine ⟨.ref a, rfl, a, C, rfl, T.o, T.w, .inr ⟨dx, _, by rw [upd_ne ne.symm]; exact e1, upd_same, by show 2 ≤ 900; decide, ?_⟩⟩
    refine q _ dx ndx (by rw [upd_ne ne.symm, upd_ne ne.symm]; exact e1) upd_same fun b o nb hb => ?_
    have nbd : b ≠ dx := ne_of_none hb ndx
    rw [upd_ne nbd, upd_ne nbd, upd_ne nb, upd_ne nbd]
    exact hb
end

/-! ### try, the first of several named clauses takes the error -/
section
open PySem.Spec PyProof.Rows
def wFirst (K : PySem.W.Frag) (c : Value) (i : Nat) (ts : Addr → Value → Option Addr → TS) (D : Ends) : WX := fun k dd τ G =>
  PySem.W.exmOne K k c = some true ∧ ∀ z, G z = none → ts z k dd ⟨fun τ' G' => D.nx (τ'.set i none) G', D.rt, fun τ' G' => D.bk (τ'.set i none) G', fun τ' G' => D.ct (τ'.set i none) G'⟩ (τ.set i (some (.ref z))) G
variable {X : Cx}
theorem ps_try_first {x n : Str} {c : Value} {i : Nat} {bd su : List Stmt} {s0 : Stmt} {np q1 q2 : Pos} {more : List ExceptHandler} {tb : WX → TS} {ts : Addr → Value → Option Addr → TS}
    (stk : X.stack = X.env :: X.outer) (frm : X.env.frame = some X.env.locals) (nod : X.N.Nodup) (slot : X.N[i]? = some n) (loc : X.env.kindOf n = some .local) (nam : Names X x c)
    (run : ∀ (W : WX) (pn : List (Addr × Obj)) (xe : Value → Shared → Prop), L2.Takes (X.tr pn xe) W → PassesOwn (model X.prog X.w) X.A X.env xe → PSs (X.tr pn xe) bd (tb W))
    (sui : ∀ (z : Addr) (oz : Obj) (k : Value) (dd : Option Addr) (pn : List (Addr × Obj)), Zc k dd oz → (∃ vs, oz.data = .fields vs) → PSs (X.suite z ((z, oz) :: pn)) (s0 :: su) (ts z k dd)) :
    PS X (.Try bd (.ExceptHandler (some (.Name x np)) (some n) (s0 :: su) q2 :: more) [] [] q1) (fun D τ G => tb (wFirst X.K c i ts D) D τ G) := by
  refine ⟨fun pins st τ G D I want => ?_⟩
  have okX := I.ok
  have frames : X.A.frames = some (X.env :: X.outer) := (okX.frames).trans (congrArg some stk)
  refine wpAny_Try_except (wpAny_mono ((run (wFirst X.K c i ts D) (X.pn ++ pins) (fun er s1 => wpAny (model X.prog X.w) X.A (noteFrame er X.env) (fun _ s2 => wpAny (model X.prog X.w) X.A (setFlight er none)
    (fun _ s3 => wpAny (model X.prog X.w) X.A (handleBy er X.env (.ExceptHandler (some (.Name x np)) (some n) (s0 :: su) q2 :: more)) (SP X pins D) X.xe s3) X.xe s2) X.xe s1) (fun er s' flown => ?_) PassesOwn.looking).run [] st τ G D (I.toTry _) want) (fun fl s1 done => ?_) (fun _ _ z => z))
  · obtain ⟨z, Bq, sI, pins', τ', G', k, dd, rfl, Jt, nb, up, sky, nz, osq, bare, hit, go⟩ := flown
    have J : Inv X pins τ' G' sI := Jt.ofTry okX
    have sky2 : Sky Bq (X.env :: X.outer) z (Zc k dd) X.env.locals s'.heap := stk ▸ sky
    show wpAny (model X.prog X.w) X.A (noteFrame (.ref z) X.env) _ _ _
    refine Sky.land Zc.steady frames frm sky2 fun g3 fly3 up3 => ?_
    have J3 : Inv X pins τ' G' { s' with heap := g3 } := J.landed nb fly3.1 (up.trans up3) osq bare
    obtain ⟨o3, v3, get3, zc3, dat3⟩ := fly3.there
    have offFr : z ∉ frs (X.env :: X.outer) := fun mem => by
      obtain ⟨_, o', got, nof⟩ := fly3.2.2.1.mem mem
      rw [get3] at got
      cases got
      exact nof _ dat3
    have offL : z ≠ X.env.locals := fun e => offFr (List.mem_filterMap.mpr ⟨X.env, List.mem_cons_self, frm.trans (congrArg some e.symm)⟩)
    have offF : z ∉ X.fs := fun mem => by
      obtain ⟨ev, hev, qe⟩ := List.mem_filterMap.mp mem
      exact offFr (List.mem_filterMap.mpr ⟨ev, List.mem_cons_of_mem _ hev, qe⟩)
    have S3 := J3.suite get3 dat3 nz offL offF
    have ty : PySem.W.Looks (model X.prog X.w) g3 (typeOf (.ref z)) k := fun A' Q' E' sx kx qx => wpAny_typeOf_ref (kx _ _ get3) (zc3.1.symm ▸ qx)
    have mat := PySem.W.exm_one (M := model X.prog X.w) J3.kIn ty hit
    have named : ∀ {Q' : Value → Shared → Prop} {E' : Value → Shared → Prop}, Q' c { s' with heap := g3 } → wpAny (model X.prog X.w) (X.A.mark (some (.ref z))) (eval (.Name x np) X.env) Q' E' { s' with heap := g3 } := fun qc => by
      obtain ⟨g0, dbg, m0 | ⟨m0, v0, n0⟩⟩ := nam
      · exact ld_glob (X := X.suite z ((z, o3) :: (X.pn ++ pins))) S3 g0 m0 qc dbg
      · exact ld_blt (X := X.suite z ((z, o3) :: (X.pn ++ pins))) S3 g0 m0 v0 qc n0 dbg
    refine wpAny_handleBy_cons (codeAny_handlers_test (named (mat.here ?_))) (fun qq => by cases qq)
    refine codeAny_handlers_suite_as (HandSPX.lands_againZ fly3 fun g4 fly4 up4 => ?_)
    have J4 : Inv X pins τ' G' { s' with heap := g4 } := J.landed nb fly4.1 ((up.trans up3).trans up4) osq bare
    obtain ⟨o4, v4, get4, zc4, dat4⟩ := fly4.there
    have S4 := J4.suite get4 dat4 nz offL offF
    refine store_ok (X := X.suite z ((z, o4) :: (X.pn ++ pins))) (v := .ref z) S4 nod slot (.inl loc) rfl (fun s5 S5 => ?_) (.inr loc)
    refine wpAny_mono ((sui z o4 k dd (X.pn ++ pins) zc4 ⟨_, dat4⟩).run [] s5 _ G' _ S5 (go z nz)) (fun fl s6 done => ?_) (fun _ _ bad => bad.elim)
    have gone : ∀ {τ6 : L2.St} {G6 : Hp} {R : Shared → Prop}, Inv (X.suite z ((z, o4) :: (X.pn ++ pins))) [] τ6 G6 s6 → (∀ s7, Inv X pins (τ6.set i none) G6 s7 → R s7) →
        wpAny (model X.prog X.w) X.A (do bindName X.env n .none; unbindBehindTheSuite X.env n q2) (fun _ s7 => R s7) X.xe s6 := fun S6 hq => gone_ok (S6.unsuite okX) nod slot loc hq
    cases fl with
    | next =>
      obtain ⟨τ6, G6, S6, q6⟩ := done
      exact gone S6 fun s7 J7 => ⟨_, _, J7, q6⟩
    | brk =>
      obtain ⟨τ6, G6, S6, q6⟩ := done
      exact gone S6 fun s7 J7 => ⟨_, _, J7, q6⟩
    | cont =>
      obtain ⟨τ6, G6, S6, q6⟩ := done
      exact gone S6 fun s7 J7 => ⟨_, _, J7, q6⟩
    | ret u =>
      obtain ⟨v6, τ6, G6, S6, r6, q6⟩ := done
      exact gone S6 fun s7 J7 => ⟨_, _, _, J7, r6, q6⟩
  · cases fl with
    | next =>
      obtain ⟨τ1, G1, J1, q⟩ := done
      exact wpAny_execs_nil ⟨τ1, G1, J1.ofTry okX, q⟩
    | brk =>
      obtain ⟨τ1, G1, J1, q⟩ := done
      exact ⟨τ1, G1, J1.ofTry okX, q⟩
    | cont =>
      obtain ⟨τ1, G1, J1, q⟩ := done
      exact ⟨τ1, G1, J1.ofTry okX, q⟩
    | ret u =>
      obtain ⟨v1, τ1, G1, J1, r, q⟩ := done
      exact ⟨v1, τ1, G1, J1.ofTry okX, r, q⟩
end

/-! ### an error that is held, looked at by a def -/
section
open PySem.Spec PyProof.Rows PySem.W PySem.Calls
variable {prog : Program} {w : World} {A : Around} {E : Value → Shared → Prop} {st : Shared} {K : Frag} {z C : Addr} {oz : Obj} {oo : Option Obj}
theorem own_class {Q : Option Value → Shared → Prop} (T : ExcC K C) (KI : K.In st.heap) (I : InstAt st.heap z oz C oo) (want : Q (some (.ref C)) { st with toks := st.toks + 1 }) : wpAny (model prog w) A (getAttr? (.ref z) "__class__") Q E st := by
  obtain ⟨cdx, hcdx, _⟩ := any_some T.hd
  have found : findObj K C oo "__class__" = some (.bind (.builtin "getset_descriptor.__get__") (.builtin "object.__class__")) := by
    unfold findObj
    rw [hcdx, Option.bind_some, T.ha, Option.bind_some]
    simp [T.hn, T.ht]
  obtain ⟨hq, gq, dq, tq, oq⟩ := st
  have k0 := I.type (M := model prog w)
  have k1 := looks_findIn (M := model prog w) KI T.hg
  have k2 := looks_findIn (M := model prog w) KI T.hk
  have k3 := looks_find (M := model prog w) KI I found
  have kb : Looks (model prog w) hq (isInstance (.ref z) (.type "BaseException")) true := k0.andThen (looks_subIn KI T.hs)
  have not2 : (Value.builtin "BaseException.__getattribute__" == Value.builtin "object.__getattribute__") = false := by decide +kernel
  have not1 : (onTheHeap (Value.ref C) && Value.builtin "BaseException.__getattribute__" == Value.builtin "object.__getattribute__") = false := by rw [not2] <;> rfl
  unfold getAttr? getAttrBy? getAttrBy
  refine wpAny_bind (wpAny_mkText (wpAny_bind (wpAny_attempt (wpAny_holding (wpAny_bind (k0.at (wpAny_bind (k1.at ?_))))))))
  show wpAny _ _ (if (onTheHeap (Value.ref C) && Value.builtin "BaseException.__getattribute__" == Value.builtin "object.__getattribute__") = true then _ else _) _ _ _
  rw [not1, if_neg Bool.false_ne_true]
  unfold getAttrByItsOwn hookBefore
  refine wpAny_bind ?_
  rw [if_pos (show onTheHeap (Value.ref C) = true from rfl)]
  refine k2.at (wpAny_bind (wpAny_attempt (wpAny_holding ?_)))
  unfold callGetattribute
  rw [show (false && onTheHeap (Value.builtin "BaseException.__getattribute__")) = false from rfl, if_neg Bool.false_ne_true]
  unfold boundAndCalled
  rw [PySem.F.excAttr_ValueError.ga.bind (.ref z)]
  refine wpAny_bind (wpAny_pure ?_)
  show wpAny _ _ (call (.builtin "BaseException.__getattribute__") [.ref z, .str "__class__" tq]) _ _ _
  refine wpAny_call (codeAny_call_builtin PySem.F.excAttr_ValueError.ga.plain PySem.F.entry_bexc_ga ?_)
  refine @check_slot (model prog w) _ _ ⟨hq, gq, dq, tq + 1, oq⟩ "BaseException.__getattribute__" "BaseException" "__getattribute__" (.ref z) [.str "__class__" tq] [] _ (by decide +kernel) (by decide +kernel) kb (PySem.F.args_bexc_ga (.ref z) (.str "__class__" tq)) ?_
  unfold Builtin.«object.__getattribute__»
  refine wpAny_bind (wpAny_of_eq (a := ((Value.ref z : Value), [Value.str "__class__" tq])) (by first | rfl | (simp only [slotArgs]; rfl)) ?_)
  refine wpAny_bind (wpAny_pure (wpAny_bind (k0.at (wpAny_bind (k3.at ?_)))))
  show wpAny _ _ (holding [Value.builtin "object.__class__"] (call (.builtin "getset_descriptor.__get__") [.builtin "object.__class__", .ref z, .ref C]) >>= ret) _ _ _
  refine wpAny_bind (wpAny_holding (wpAny_call (class_get (s := ⟨hq, gq, dq, tq + 1, oq⟩) (ox := oz) (od := oo) KI I T.hm (wpAny_pure ?_))))
  show wpAny _ _ (handedOut (.ref C)) _ _ _
  rw [handedOut_of (v := .ref C) rfl]
  first
    | exact wpAny_pure (wpAny_pure want)
    | exact wpAny_pure want
    | exact wpAny_pure (wpAny_bind (wpAny_pure (wpAny_pure want)))
theorem own_kit (T : ExcC K C) : KitX K (.ref z) (.ref C) (fun h => InstAt h z oz C oo) where
  ty := fun _ _ _ I => I.type
  it := fun _ _ KI _ => by
    obtain ⟨cdx, hcdx, _⟩ := any_some T.hd
    unfold clsIn at hcdx
    split at hcdx
    · rename_i c1 d1 cd1 sl1 got
      intro A' Q' E' s' kp qq
      unfold isType loadHead
      exact wpAny_bind (wpAny_loadPart (kp _ _ (KI _ _ got)) (wpAny_pure qq))
    · cases hcdx
  ne := fun h tp dd its n sl KI htp => by
    obtain ⟨cdx, hcdx, _⟩ := any_some T.hd
    refine Bool.eq_false_iff.mpr fun same => ?_
    have e : C = tp := Value.ref.inj (beq_iff_eq.mp same)
    subst e
    unfold clsIn at hcdx
    split at hcdx
    · rename_i c1 d1 cd1 sl1 got
      have two := (KI _ _ got).symm.trans htp
      cases two
    · cases hcdx
  ca := fun KI I k => own_class T KI I k
end
/-- the error at p.1 is one of the class at C, its dict stands at dd with the fields fs -/
structure Held (p : Addr × Obj) (C dd : Addr) : Prop where
  z : Zc (.ref C) (some dd) p.2
  f : ∃ vs, p.2.data = .fields vs
section
open PySem.Spec PyProof.Rows
variable {X : Cx} {p : Addr × Obj} {C dd : Addr}
theorem Held.inst {pins : List (Addr × Obj)} {σ : L2.St} {H : Hp} {s : Shared} {fs : List (Str × V)} (h : Held p C dd) (hp : p ∈ X.pn) (I : Inv X pins σ H s) (hd : H dd = some (.xd fs)) :
    ∃ (od : Obj) (mA : Str → Option Value), PySem.W.InstAt s.heap p.1 p.2 C (some od) ∧ (∀ n, PySem.W.lookIn n od = some (mA n)) ∧ ∀ f, RelO (fs.lookup f) (mA f) := by
  obtain ⟨got, _⟩ := I.pin p (List.mem_append_left _ hp)
  obtain ⟨vs, dat⟩ := h.f
  obtain ⟨mA, hns, rel⟩ := (show ObjOk X.prog X.w H s.heap dd (.xd fs) from I.hok dd _ hd)
  obtain ⟨od, ho, hl⟩ := lookIn_ns hns
  exact ⟨od, mA, ⟨got, h.z.1, by unfold PySem.W.notCls; rw [dat] <;> rfl, by rw [h.z.2]; exact ho⟩, hl, rel⟩
/-- e.f, e the held error -/
def tHeldF (p : Addr × Obj) (dd : Addr) (f : Str) (te : TE) : TE := fun σ H Q => te σ H fun x H1 => x = .ref p.1 ∧ ∃ (fs : List (Str × V)) (v : V), H1 dd = some (.xd fs) ∧ fs.lookup f = some v ∧ Q v H1
theorem pe_heldf {e : Expr} {te : TE} {pos : Pos} {n : Str} (h : Held p C dd) (hp : p ∈ X.pn) (T : XfC X.K C) (hno : PySem.W.findIn X.K (.ref C) n = some none) (he : PE X e te) (hb : attributeBase e n X.env (eval e X.env) = eval e X.env := by rfl) :
    PE X (.Attribute e n pos) (tHeldF p dd n te) := by
  refine ⟨fun pins s σ H Q I q => ?_⟩
  refine attr_of hb (thn (he.run pins s σ H _ I q) fun u s1 got => ?_)
  obtain ⟨x, H1, I1, rx, rfl, fs, v, hd, l, q1⟩ := got
  obtain rfl : u = Value.ref p.1 := rx
  obtain ⟨od, mA, J, hl, rel⟩ := h.inst hp I1 hd
  obtain ⟨y, hy, ry⟩ := RelO.some_of (v := v) (o := mA n) (by rw [← l]; exact rel n)
  exact HandSPX.exc_get I1.kIn J T.ga T.gg T.exC (PySem.W.findObj_own T.hdC hno rfl (by rw [hl, hy])) (handed_of ry) ⟨v, H1, I1.tok _, ry, q1⟩
/-- isinstance(e, (c, ..)) and isinstance(e, c), e the held error -/
def rHeldT (K : PySem.W.Frag) (p : Addr × Obj) (C dd : Addr) : List V → Hp → VK → Prop := fun xs H Q => ∃ (tp : Addr) (cs : List V) (us : List Value) (b : Bool) (fs : List (Str × V)), xs = [.ref p.1, .ref tp] ∧ H tp = some (.tup cs) ∧ Paired ClsV cs us ∧ PySem.W.kitAny K (.ref C) us = some b ∧ H dd = some (.xd fs) ∧ Q (.bl b) H
theorem call_heldT (h : Held p C dd) (hp : p ∈ X.pn) (T : ExcC X.K C) : CallR X (.builtin "isinstance") (rHeldT X.K p C dd) := by
  intro pins s σ H xs us Q I r q
  obtain ⟨tp, cs, ws, b, fs, rfl, hT, pr, ka, hd, q1⟩ := q
  obtain ⟨u1, u2, rfl, r1, r2⟩ := vals2 r
  cases (show u1 = Value.ref p.1 from r1)
  cases (show u2 = Value.ref tp from r2)
  obtain ⟨od, mA, J, _, _⟩ := h.inst hp I hd
  obtain ⟨_, its, rv, o, h1, h2, n, h3⟩ := (show ObjOk X.prog X.w H s.heap tp (.tup cs) from I.hok tp _ hT)
  have e3 := ClsV.all pr rv
  subst e3
  obtain ⟨oc, od', dt, sl⟩ := o
  simp only at h2 h3
  subst h2 h3
  exact PySem.W.kia_tup (own_kit (oz := p.2) (oo := some od) T) I.kIn J h1 ka (fun e => nomatch e) fun tk => ⟨.bl b, H, I.tok tk, rfl, q1⟩
def rHeld1 (K : PySem.W.Frag) (p : Addr × Obj) (C dd : Addr) : List V → Hp → VK → Prop := fun xs H Q => ∃ (D : Addr) (b : Bool) (fs : List (Str × V)), xs = [.ref p.1, .ref D] ∧ PySem.W.kitOne K (.ref C) (.ref D) = some b ∧ H dd = some (.xd fs) ∧ Q (.bl b) H
theorem call_held1 (h : Held p C dd) (hp : p ∈ X.pn) (T : ExcC X.K C) : CallR X (.builtin "isinstance") (rHeld1 X.K p C dd) := by
  intro pins s σ H xs us Q I r q
  obtain ⟨D, b, fs, rfl, ka, hd, q1⟩ := q
  obtain ⟨u1, u2, rfl, r1, r2⟩ := vals2 r
  cases (show u1 = Value.ref p.1 from r1)
  cases (show u2 = Value.ref D from r2)
  obtain ⟨od, mA, J, _, _⟩ := h.inst hp I hd
  exact PySem.W.kia_one (own_kit (oz := p.2) (oo := some od) T) I.kIn J ka (fun e => nomatch e) fun tk => ⟨.bl b, H, I.tok tk, rfl, q1⟩
end
/-! ### a def called on a held error -/
structure FnP (P : Program) (w : World) (K : PySem.W.Frag) (mg : Str → Option Value) (base : Heap) (p : Addr × Obj) (k : Nat) (f : Addr) (fd : FuncData) (ps : List Str) (sp : Sp) : Prop where
  len : ∀ vs H Q E, sp vs H Q E → vs.length = ps.length
  go : ∀ (A : Around) (outer : List Env) (s : Shared) (H : Hp) (args : Args) (us : List Value) (vs : List V) (Q : VK) (E : XK), L2H.RoomH k A → L2H.PinOk outer H s p → Env0 P w K mg base A outer s H → BindsTo s fd args (ps.zip us) → Vals vs us → sp vs H Q E →
    codeAny (model P w) A (.call (.ref f) args) (CR CX0 outer P w H s Q E) s
section
open PySem.Spec PyProof.Rows
variable {P : Program} {w : World} {K : PySem.W.Frag} {mg : Str → Option Value} {base : Heap}
theorem Fun.okP {x qual : Str} {st : Stmt} {f : Addr} {fd : FuncData} {N ps : List Str} {k : Nat} {sp : Sp} {p : Addr × Obj} (F : Fun K x qual st f fd) (S : FnScope N ps (defScope st)) (len : ∀ vs H Q E, sp vs H Q E → vs.length = ps.length)
    (hbody : ∀ (cdv : Value) (A : Around) (outer : List Env) (s : Shared) (H : Hp) (vs : List V) (Q : VK) (E : XK), L2H.RoomH k (A.deeper (envOfC qual (defScope st) s.heap.objs.size f cdv)) → sp vs H Q E →
      ∃ t, PSs (L2H.cxH CX0 P w K mg base N qual (defScope st) f cdv A outer s H E p) (defBody st) t ∧ t { nx := fun _ H' => Q .non H', rt := Q } (L2.start N vs) H) : FnP P w K mg base p (k + 1) f fd ps sp := by
  obtain ⟨oc, od, kV, doc, pm, an, cdv, ct, osl, rfl, lk, hcd⟩ := F.ex
  refine ⟨len, fun A outer s H args us vs Q E hr hpin e0 hb r hsp => ?_⟩
  have hlen := len _ _ _ _ hsp
  have keepB : ∀ b o, base.get? b = some o → s.heap.get? b = some o := fun b o e => (e0.bs b o e).1
  have KI : K.In s.heap := e0.mod.kin.keeps keepB
  have noLim : s.heap.NoLimit := e0.mod.nolimit.keeps keepB
  have kinds : ∀ y ∈ ps.zip us, (defScope st).names.lookup y.1 = some .local ∨ ((defScope st).names.lookup y.1 = some .cell ∧ ((cellsFrom (s.heap.objs.size + 1) (defScope st).names []).lookup y.1).isSome = true) := fun y hy =>
    (S.par y.1 (List.of_mem_zip (show (y.1, y.2) ∈ _ from hy)).1).imp id fun q => ⟨q, PySem.W.cellsFrom_some _ _ _ (.inl q)⟩
  refine codeAny_call_function hr.depth (KI _ _ lk) rfl S.co S.gen rfl (PySem.W.codeRec_of KI hcd) (hb _ _ _ _ (wpAny_newFunctionEnv_cells S.kind kinds fun env he s1 x1 => ?_))
  subst he
  refine ⟨noLim.keeps x1.toInCall.keep, codeAny_func ?_⟩
  obtain ⟨t, ht, hq⟩ := hbody cdv A outer s H vs Q E (hr.deeper _) hsp
  have I := L2H.inv_startH (CX := CX0) (P := P) (w := w) (K := K) (mg := mg) (base := base) (N := N) (qual := qual) (f := f) (cd := cdv) (E := E) S hpin e0 hlen r x1
  refine wpAny_mono (ht.run [] s1 _ H _ I hq) (fun fl s2 done => ?_) fun _ _ bad => bad
  cases fl with
  | ret u =>
    obtain ⟨v, τ, G, J, rv, q⟩ := done
    exact ⟨v, G, J.os, J.bare, J.base, J.hok, rv, q⟩
  | next =>
    obtain ⟨τ, G, J, q⟩ := done
    exact ⟨.non, G, J.os, J.bare, J.base, J.hok, rfl, q⟩
  | brk =>
    obtain ⟨_, _, _, q⟩ := done
    exact q.elim
  | cont =>
    obtain ⟨_, _, _, q⟩ := done
    exact q.elim
theorem pe_callP {X : Cx} {k : Nat} {f : Addr} {fd : FuncData} {ps : List Str} {sp : Sp} {p : Addr × Obj} {x : Str} {q pos : Pos} {e : Expr} {es : List Expr} {t : TA} (F : FnP X.prog X.w X.K X.mg X.base p k f fd ps sp) (hr : L2H.RoomH k X.A) (hp : p ∈ X.pn)
    (hg : Gl X x) (hm : X.mg x = some (.ref f)) (hk : PySem.W.keepIn X.K (.ref f) = true) (hb : Binds X.K fd ps []) (ha : PA X (e :: es) t)
    (hdb : (x == ("__debug__" : Str)) = false := by decide) (he : starEach (e :: es) X.env = (false, eval e X.env) :: starEach es X.env := by rfl) (hpl : (backTo pos (starEach es X.env)).any (·.1) = false := by rfl) :
    PE X (.Call (.Name x q) (e :: es) [] pos) (tCall sp [] E0 t) := by
  refine ⟨fun pins s σ H Q I h => ?_⟩
  refine wpAny_Call_Name_kw (ld_glob I hg hm ?_ hdb)
  refine PySem.W.callWith_K (h₀ := X.base) I.ok.mod.kin hk (thn (ha.run pos pins s σ H _ I h) fun us s1 got => ?_) he hpl
  obtain ⟨vs, H1, I1, r, want⟩ := got
  rw [List.append_nil] at want
  refine ⟨I1.kIn, ?_⟩
  have hl : us.length = ps.length := (r.length).symm.trans (F.len _ _ _ _ want)
  have bs := hb s1 us I1.kIn (by rw [List.append_nil]; exact hl)
  rw [List.append_nil] at bs
  obtain ⟨p1, p2, p3, p4, p5⟩ := I1.pin p (List.mem_append_left _ hp)
  refine wpAny_call (codeAny_mono (F.go X.A X.stack s1 H1 ⟨us, []⟩ us vs Q E0 hr ⟨p1, p2, fun mem => (List.mem_cons.mp (I1.stkSub p.1 mem)).elim p3 p4, p5⟩ I1.env0 bs r want) fun res s2 hq => ?_)
  cases res with
  | error er => exact (show False from hq).elim
  | ok fl =>
    cases fl with
    | ret u => exact I1.after hq
    | next => exact hq.elim
    | brk => exact hq.elim
    | cont => exact hq.elim
end

/-! ### ints and bools -/
def IB (x : V) : Prop := (∃ i : Int, x = .int i ∧ i.natAbs < 2 ^ 200) ∨ ∃ b : Bool, x = .bl b
theorem IB.fv {x : V} (h : IB x) : FV x := by
  rcases h with ⟨i, e, hi⟩ | ⟨b, e⟩
  · exact .inl ⟨i, e, Nat.lt_of_lt_of_le (PySem.Flt.log2_lt_of (by decide) hi) (by decide)⟩
  · exact .inr ⟨b, e⟩
def isB : V → Bool
  | .bl _ => true
  | _ => false
theorem IB.ty {K : PySem.W.Frag} {H : Hp} {x : V} (h : IB x) : ∃ t, TyX K H x t ∧ PySem.W.kitOne K t (.type "bool") = some (isB x) := by
  rcases h with ⟨i, rfl, hi⟩ | ⟨b, rfl⟩
  · exact ⟨_, TyX.base (TyOf.int _), kit_ty (r := false) (by decide +kernel)⟩
  · exact ⟨_, TyX.base (TyOf.bl _), kit_ty (r := true) (by decide +kernel)⟩
theorem IB.int {i : Int} (h : i.natAbs < 2 ^ 200) : IB (.int i) := .inl ⟨i, rfl, h⟩
section
open PySem.Spec PyProof.Rows
def rSubV : R2 := fun x y H Q => ∃ i : Int, x = .int i ∧ ((∃ j : Int, y = .int j ∧ Q (.int (i - j)) H) ∨ ∃ b : Bool, y = .bl b ∧ Q (.int (i - b2i b)) H)
theorem op_subV {X : Cx} : OpR X (binaryOp .Sub) rSubV := by
  intro pins s σ H x y v u Q I rx ry h
  obtain ⟨i, rfl, ⟨j, rfl, q⟩ | ⟨b, rfl, q⟩⟩ := h
  · exact op_sub pins s σ H _ _ v u Q I rx ry ⟨i, j, rfl, rfl, q⟩
  · obtain ⟨t, rfl⟩ := rx
    cases (show u = Value.bool b from ry)
    exact IntBool.sub_int_bool ⟨.int (i - b2i b), H, I.tok _, ⟨_, rfl⟩, q⟩
end

/-! ### the law's table of code objects -/
theorem tabs_keep {T : List (Addr × Str)} {H H' : Hp} {d l : Addr} (t : LamX.Tabs T H) (D : Draw H d l) (k : Keep d H H') : LamX.Tabs T H' := fun p hp => by
  obtain ⟨ps, h1, h2, h3⟩ := t p hp
  obtain ⟨ns, i, z, s, W⟩ := D
  refine ⟨ps, k.of h1 (ne_of h1 W.at_d (fun e => by cases e)), h2, fun pos cv hc => ?_⟩
  obtain ⟨c, e1, e2⟩ := h3 pos cv hc
  exact ⟨c, e1, k.of e2 (ne_of e2 W.at_d (fun e => by unfold LamX.CodeO at e; cases e))⟩
theorem draw_extN {H H' : Hp} {d l : Addr} (D : Draw H d l) (e : LamX.ExtN H H') : Draw H' d l := by
  obtain ⟨ns, i, z, s, W⟩ := D
  exact ⟨ns, i, z, s, { W with at_d := e _ _ W.at_d (fun _ q => by cases q), at_l := e _ _ W.at_l (fun _ q => by cases q) }⟩
def spLawT (K : PySem.W.Frag) (Pt : Addr) : Sp := fun vs H Q _ => ∃ (a : Addr) (ns : List Int), vs = [.ref a] ∧ SqL K H a (ns.map V.int) ∧ ns.length ≤ 63 ∧ H Pt = some (.tbl #[]) ∧ ∀ H', Q (.bl true) H'
abbrev lamQ : Str := (("law" : Str) ++ ".<locals>.") ++ "<lambda>"
abbrev lamT (Pt : Addr) : List (Addr × Str) := [(Pt, lamQ)]
/-- xs.append(e) inside a lambda: the reading must not speak of the lambda's own frame -/
theorem pe_appK {X : Cx} {K : PySem.W.Frag} {o e : Expr} {to : TE} {t : TA} {apos cpos : Pos} (hK : X.K = K) (ho : PE X o to) (ha : PA X [e] t)
    (hbase : attributeBase o "append" X.env (eval o X.env) = eval o X.env := by rfl)
    (hfew : ((backTo cpos (starEach [e] X.env)).all (fun x => !x.1) && (backToKw cpos (keywordEach [] X.env)).all (fun x => x.1.isSome)
      && decide ([e].length + ([] : List Keyword).length + (if ([] : List Keyword).isEmpty then 0 else 1) < 30)) = true := by rfl)
    (hline : (apos.endLine == cpos.line) = true := by rfl) (hs : starEach [e] X.env = (false, eval e X.env) :: starEach [] X.env := by rfl) (hplain : (backTo cpos (starEach [] X.env)).any (·.1) = false := by rfl) :
    PE X (.Call (.Attribute o "append" apos) [e] [] cpos) (tBM K "list" rAppend to t) := by
  subst hK
  exact pe_bm PySem.F.plainAttrs_list PySem.F.slot_list_append PySem.F.type_list_append mt_append ho ha hbase hfew hline hs hplain

/-! ### own errors in general, and _law_why of what refuses with one of them -/
structure ErT (K : PySem.W.Frag) (mg : Str → Option Value) (CF C fI : Addr) (fdI : FuncData) (word : Str) (N : List Str) : Prop where
  gF : mg "FarError" = some (.ref CF)
  gC : mg word = some (.ref C)
  e : ErrT K C
  x : XfC K C
  c : ExcC K C
  iC : PySem.W.findIn K (.ref C) "__init__" = some (some (.ref fI))
  tI : PySem.W.typeIn K (.ref fI) = some (.type "function")
  bI : Binds K fdI N []
  m : PySem.W.exmOne K (.ref C) (.ref CF) = some true
abbrev Fds := List (Str × V)
def spFieldsG (p : Addr × Obj) (dd : Addr) (FS : Fds → Prop) (Fld : Fds → V → Hp → Prop) : Sp := fun vs H Q _ => ∃ fs : Fds, vs = [.ref p.1] ∧ H dd = some (.xd fs) ∧ FS fs ∧ ∀ H' v, Same H H' → Fld fs v H' → Q v H'
abbrev s_why : Stmt := top 30
abbrev N_why : List Str := ["_law_ask", "_law_found", "_law_e"]
abbrev P_why : List Str := ["_law_ask"]
theorem sc_why : FnScope N_why P_why (defScope s_why) := ⟨rfl, rfl, rfl, by decide +kernel, rfl, by decide +kernel, by decide +kernel⟩
abbrev s_fields : Stmt := top 29
abbrev N_fields : List Str := ["_law_e"]
abbrev P_fields : List Str := ["_law_e"]
theorem sc_fields : FnScope N_fields P_fields (defScope s_fields) := ⟨rfl, rfl, rfl, by decide +kernel, rfl, by decide +kernel, by decide +kernel⟩
def EWhyG (C : Addr) (word : Str) (FS : Fds → Prop) (Fld : Fds → V → Hp → Prop) (Q : VK) : XK := fun cls d H' => ∃ (dd : Addr) (fs : Fds), cls = .ref C ∧ d = some dd ∧ H' dd = some (.xd fs) ∧ FS fs ∧
  ∀ (H'' : Hp) (t1 : Addr) (v : V), Same H' H'' → Fld fs v H'' → H'' t1 = some (.tup [.str word, v]) → Q (.ref t1) H''
def TWhyG (C : Addr) (word : Str) (FS : Fds → Prop) (Fld : Fds → V → Hp → Prop) : (XK → Hp → VK → Prop) → Hp → VK → Prop := fun tl H Q => ∀ t0, H t0 = none → ∀ R : VK, (∀ v H1, Q (.ref t0) H1 → R v H1) → tl (EWhyG C word FS Fld Q) (upd H t0 (.tup [.str "", .non])) R
section
open PySem.Spec PyProof.Rows
theorem takes_len {X : Cx} {W : WX} (tk : L2.Takes X W) : L2.Takes X (fun cls d σ H => σ.length = X.N.length → W cls d σ H) := fun u s' ⟨a, B, sI, pins, σ, H, cls, d, e, I, nb, up, sky, na, os, ag, w⟩ =>
  tk u s' ⟨a, B, sI, pins, σ, H, cls, d, e, I, nb, up, sky, na, os, ag, w I.len⟩
theorem pss_of {X : Cx} {sts : List Stmt} {t' : TS} (h : ∀ D σ H, t' D σ H → ∃ t, PSs X sts t ∧ t D σ H) : PSs X sts t' := ⟨fun pins s σ H D I ht => by
  obtain ⟨t, h1, h2⟩ := h D σ H ht
  exact h1.run pins s σ H D I h2⟩
theorem three {σ : L2.St} (h : σ.length = 3) : ∃ a b c, σ = [a, b, c] := by
  match σ, h with
  | [a, b, c], _ => exact ⟨a, b, c, rfl⟩
theorem why_givesG {X : Cx} {g CF C fI fF : Addr} {fdI fdF : FuncData} {cdg : Value} {q : Str} {k : Nat} {word : Str} {N : List Str} {FS : Fds → Prop} {Fld : Fds → V → Hp → Prop} (hr : Room (k + 3) X.A) (T : ErT X.K X.mg CF C fI fdI word N)
    (D_fields : DefAt X.K X.mg "_law_fields" s_fields P_fields fF fdF) (hw : ∀ fs, FS fs → fs.lookup ("word" : Str) = some (V.str word)) (st : ∀ fs v H H', Same H H' → Fld fs v H → Fld fs v H')
    (GF : ∀ (p : Addr × Obj) (dd : Addr), Held p C dd → FnP X.prog X.w X.K X.mg X.base p 1 fF fdF P_fields (spFieldsG p dd FS Fld)) :
    LamX.GivesTo X N_why "_law_why" (defScope s_why) g cdg (defBody s_why) "_law_ask" q (TWhyG C word FS Fld) := by
  intro f c' s H Q tl act hc h
  have hr1 : Room (k + 2) (X.A.deeper (envOfC "_law_why" (defScope s_why) s.heap.objs.size g cdg)) := hr.deeper _
  refine ⟨_, pss_cons (ps_set (i := 1) sc_why.nd rfl (.inl rfl) (pe_tup (pa_cons pe_str (pa_cons pe_non pa_nil))))
    (pss_cons (ps_try_first (i := 2) (c := .ref CF)
      (tb := fun W D σ H => ∃ Ech : XK, (∀ cls d σ' H', Ech cls d H' → σ'.length = 3 → W cls d σ' H') ∧ σ[0]? = some (some (.ref f)) ∧ H c' = some (LamX.CodeO c' q) ∧ tl Ech H fun _ H1 => D.nx σ H1)
      (ts := fun z k d D σ H => ∃ d0, k = .ref C ∧ d = some d0 ∧ ∃ fs : Fds, H d0 = some (.xd fs) ∧ FS fs ∧ σ[2]? = some (some (.ref z)) ∧ ∀ (H' : Hp) (t1 : Addr) (v : V), Same H H' → Fld fs v H' → H' t1 = some (.tup [.str word, v]) → D.nx (σ.set 1 (some (.ref t1))) H')
      rfl rfl sc_why.nd rfl rfl ⟨by rfl, by decide, .inl T.gF⟩ (fun W pn xe tk _ => ?_) (fun z oz k d pn hz hf => ?_)) (pss_one (ps_ret (pv 1)))), ?_⟩
  · refine pss_of fun D σ H' h' => ?_
    obtain ⟨Ech, hW, h1, h2, h3⟩ := h'
    exact ⟨_, pss_one (ps_expr (act (fun cls d σ H => σ.length = 3 → W cls d σ H) pn xe Ech _ _ (takes_len tk) (fun cls d σ' H' e l => hW cls d σ' H' e l))), h1, h2, h3⟩
  · refine pss_of fun D σ H' h' => ?_
    obtain ⟨d0, rfl, rfl, fs, hd, hfs, h2, go⟩ := h'
    have hH : Held (z, oz) C d0 := ⟨hz, hf⟩
    have G_fields := GF (z, oz) d0 hH
    have hrm : L2H.RoomH 1 (X.A.deeper (envOfC "_law_why" (defScope s_why) s.heap.objs.size g cdg)) := (L2H.roomH_of hr1).mono (by omega)
    refine ⟨_, pss_one (ps_set (i := 1) sc_why.nd rfl (.inl rfl) (pe_tup (pa_cons (pe_heldf hH List.mem_cons_self T.x T.e.w (pv 2)) (pa_cons (pe_callP G_fields ⟨hrm.dp, hrm.un⟩ List.mem_cons_self (by rfl) D_fields.g D_fields.F.kp D_fields.b (pa_cons (pv 2) pa_nil)) pa_nil)))), ?_⟩
    refine ⟨.ref z, h2, rfl, fs, _, hd, hw fs hfs, .ref z, h2, fs, rfl, hd, hfs, fun H2 v s2 e2 => ?_⟩
    exact ⟨by show 2 ≤ sizeLine; decide, fun t1 n1 => go _ t1 v (s2.trans (same_upd n1)) (st _ _ _ _ (same_upd n1) e2) upd_same⟩
  · refine ⟨by show 2 ≤ sizeLine; decide, fun t0 n0 => ?_⟩
    refine ⟨EWhyG C word FS Fld Q, fun cls d σ' H' hE hl => ?_, rfl, same_upd n0 _ _ hc, ?_⟩
    · obtain ⟨dd, fs, rfl, rfl, hd, hfs, go⟩ := hE
      obtain ⟨x0, x1, x2, rfl⟩ := three hl
      refine ⟨T.m, fun z hz => ⟨dd, rfl, rfl, fs, hd, hfs, rfl, fun H2 t1 v s2 e2 e3 => ?_⟩⟩
      exact ⟨.ref t1, rfl, go H2 t1 v s2 e2 e3⟩
    · exact h t0 n0 _ fun v H1 hq => ⟨.ref t0, rfl, hq⟩
end
/-! ### an error that is none of these -/
section
variable {K : PySem.W.Frag}
theorem kit_no {C D : Addr} (h0 : PySem.W.subIn K (.ref C) (.ref C) = some true) (h1 : PySem.W.subIn K (.ref C) (.ref D) = some false) (h2 : PySem.W.isClsIn K D = true) (h3 : PySem.W.typeIn K (.ref D) = some (.type "type")) : PySem.W.kitOne K (.ref C) (.ref D) = some false := by
  have ne : (Value.ref C == Value.ref D) = false := by
    refine Bool.eq_false_iff.mpr fun same => ?_
    have e : C = D := Value.ref.inj (beq_iff_eq.mp same)
    subst e
    rw [h0] at h1
    cases h1
  have e2 : ((PySem.W.clsIn K D).isSome && PySem.W.typeIn K (.ref D) == some (.type "type")) = true := by
    have q : (PySem.W.clsIn K D).isSome = true := h2
    rw [q, h3] <;> rfl
  unfold PySem.W.kitOne
  rw [ne, if_neg Bool.false_ne_true]
  show (if ((PySem.W.clsIn K D).isSome && PySem.W.typeIn K (.ref D) == some (.type "type")) = true then PySem.W.subIn K (.ref C) (.ref D) else none) = some false
  rw [if_pos e2, h1]
theorem any_no {C : Addr} : ∀ {ds : List Addr}, (∀ D ∈ ds, PySem.W.kitOne K (.ref C) (.ref D) = some false) → PySem.W.kitAny K (.ref C) (ds.map Value.ref) = some false
  | [], _ => rfl
  | D :: r, h => by
    show (match PySem.W.kitOne K (.ref C) (.ref D) with | some true => some true | some false => PySem.W.kitAny K (.ref C) (r.map Value.ref) | none => none) = some false
    rw [h D List.mem_cons_self]
    exact any_no fun E hE => h E (List.mem_cons_of_mem _ hE)
end
/-- the errors that _law_fields looks for ahead of BadStretch -/
structure OthT (K : PySem.W.Frag) (mg : Str → Option Value) (C c0 c1 c2 c3 c4 c5 c6 c7 c8 : Addr) : Prop where
  g0 : mg "BadNumber" = some (.ref c0)
  g1 : mg "NoMating" = some (.ref c1)
  g2 : mg "NoFamily" = some (.ref c2)
  g3 : mg "TooMuch" = some (.ref c3)
  g4 : mg "BadName" = some (.ref c4)
  g5 : mg "Taken" = some (.ref c5)
  g6 : mg "NoRoad" = some (.ref c6)
  g7 : mg "BadMating" = some (.ref c7)
  g8 : mg "BadPlace" = some (.ref c8)
  no : ∀ D ∈ [c0, c1, c2, c3, c4, c5, c6, c7, c8], PySem.W.kitOne K (.ref C) (.ref D) = some false

/-! ### BadStretch -/
abbrev s_bsinit : Stmt := inClass (top 6) 0
abbrev N_bsinit : List Str := ["self", "at", "many"]
theorem sc_bsinit : FnScope N_bsinit N_bsinit (defScope s_bsinit) := ⟨rfl, rfl, rfl, by decide +kernel, rfl, by decide +kernel, by decide +kernel⟩
def bsF (x y : V) : Fds := [("word", .str "BadStretch"), ("many", y), ("at", x), ("word", .str "FarError")]
def spBsInit (K : PySem.W.Frag) : Sp := fun vs H Q _ => ∃ (a C : Addr) (x y : V), vs = [.ref a, x, y] ∧ FV x ∧ FV y ∧ ErrT K C ∧ PySem.W.findIn K (.ref C) "at" = some none ∧ PySem.W.findIn K (.ref C) "many" = some none ∧ H a = some (exo a C none) ∧
  ∀ (H' : Hp) (dx : Addr), H dx = none → H' a = some (exo a C (some dx)) → H' dx = some (exd dx (bsF x y)) → (∀ b o, b ≠ a → H b = some o → H' b = some o) → Q .non H'
section
variable {P : Program} {w : World} {K : PySem.W.Frag} {mg : Str → Option Value} {base : Heap}
theorem ok_bsinit {f fF CF : Addr} {fd fdF : FuncData} (F : Fun K "__init__" "BadStretch.__init__" s_bsinit f fd) (gF : mg "FarError" = some (.ref CF)) (TF : ClsFn K CF "__init__" fF) (bF : Binds K fdF N_farinit [])
    (GF : FnOk P w K mg base CX0 1 fF fdF N_farinit (spFarInit K)) : FnOk P w K mg base CX0 2 f fd N_bsinit (spBsInit K) := by
  refine F.ok sc_bsinit (fun vs H Q E h => ?_) (fun cdv A outer s H vs Q E hr h => ?_)
  · obtain ⟨a, C, x, y, rfl, _⟩ := h
    rfl
  · obtain ⟨a, C, x, y, rfl, hx, hy, T, n1, n2, ha, q⟩ := h
    refine ⟨_, pss_cons (ps_expr (pe_clsfn (by rfl) gF TF GF hr bF pass0 (pa_cons (pv 0) (pa_cons (pe_joined (.cons pe_str (.cons (pe_fmtV (pv 2)) (.cons pe_str (.cons (pe_fmtV (pv 1)) (.cons pe_str .nil)))))) pa_nil))))
      (pss_cons (ps_ost (pv 0) (pv 1)) (pss_cons (ps_ost (pv 0) (pv 2)) (pss_one (ps_ost (pv 0) pe_str)))), ?_⟩
    refine ⟨.ref a, rfl, _, rfl, fits_of (n := 100) (by decide +kernel) (by decide), ?_⟩
    refine fmtV_at (i := 2) rfl hy fun z hz => ?_
    refine ⟨z, rfl, fits_of (app_fits (n := 100) (by decide +kernel) hz) (by decide), ?_⟩
    refine ⟨_, rfl, fits_of (app_fits (app_fits (n := 100) (by decide +kernel) hz) (m := 100) (by decide +kernel)) (by decide), ?_⟩
    refine fmtV_at (i := 1) rfl hx fun z2 hz2 => ?_
    refine ⟨z2, rfl, fits_of (app_fits (app_fits (app_fits (n := 100) (by decide +kernel) hz) (m := 100) (by decide +kernel)) hz2) (by decide), ?_⟩
    refine ⟨_, rfl, fits_of (app_fits (app_fits (app_fits (app_fits (n := 100) (by decide +kernel) hz) (m := 100) (by decide +kernel)) hz2) (m := 100) (by decide +kernel)) (by decide), ?_⟩
    refine ⟨a, C, _, rfl, T.o, T.w, ha, fun dx ndx ne => ?_⟩
    have e1 : (upd (upd H dx (exd dx [("word", .str "FarError")])) a (exo a C (some dx))) a = some (exo a C (some dx)) := upd_same
    have e2 : (upd (upd H dx (exd dx [("word", .str "FarError")])) a (exo a C (some dx))) dx = some (exd dx [("word", .str "FarError")]) := by rw [upd_ne ne, upd_same]
    refine ⟨x, rfl, .ref a, rfl, a, C, rfl, T.o, n1, .inr ⟨dx, _, e1, e2, by show 1 ≤ 900; decide, ?_⟩⟩
    refine ⟨y, rfl, .ref a, rfl, a, C, rfl, T.o, n2, .inr ⟨dx, _, by rw [upd_ne ne.symm]; exact e1, upd_same, by show 2 ≤ 900; decide, ?_⟩⟩
    refine ⟨.ref a, rfl, a, C, rfl, T.o, T.w, .inr ⟨dx, _, by rw [upd_ne ne.symm, upd_ne ne.symm]; exact e1, upd_same, by show 3 ≤ 900; decide, ?_⟩⟩
    refine q _ dx ndx (by rw [upd_ne ne.symm, upd_ne ne.symm, upd_ne ne.symm]; exact e1) upd_same fun b o nb hb => ?_
    have nbd : b ≠ dx := ne_of_none hb ndx
    rw [upd_ne nbd, upd_ne nbd, upd_ne nbd, upd_ne nb, upd_ne nbd]
    exact hb
end
/-! ### _law_fields of a BadStretch -/
def FSbs : Fds → Prop := fun fs => ∃ x y, fs = bsF x y
def Fbs : Fds → V → Hp → Prop := fun fs v H => ∃ (x y : V) (r : Addr), fs = bsF x y ∧ v = .ref r ∧ H r = some (.tup [x, y])
theorem bs_word (x y : V) : (bsF x y).lookup ("word" : Str) = some (.str "BadStretch") := by
  unfold bsF
  rw [lookup_put, if_pos rfl]
theorem bs_many (x y : V) : (bsF x y).lookup ("many" : Str) = some y := by
  unfold bsF
  rw [lookup_put, if_neg (by decide +kernel), lookup_put, if_pos rfl]
theorem bs_at (x y : V) : (bsF x y).lookup ("at" : Str) = some x := by
  unfold bsF
  rw [lookup_put, if_neg (by decide +kernel), lookup_put, if_neg (by decide +kernel), lookup_put, if_pos rfl]
theorem Fbs.st : ∀ fs v H H', Same H H' → Fbs fs v H → Fbs fs v H' := fun _ _ _ _ s ⟨x, y, r, e1, e2, e3⟩ => ⟨x, y, r, e1, e2, s _ _ e3⟩
section
variable {P : Program} {w : World} {K : PySem.W.Frag} {mg : Str → Option Value} {base : Heap}
theorem ok_fieldsBs {f CF C fI c0 c1 c2 c3 c4 c5 c6 c7 c8 dd : Addr} {fd fdI : FuncData} {p : Addr × Obj} {N : List Str} (D : DefAt K mg "_law_fields" s_fields P_fields f fd) (B : Bn mg) (T : ErT K mg CF C fI fdI "BadStretch" N) (O : OthT K mg C c0 c1 c2 c3 c4 c5 c6 c7 c8)
    (n1 : PySem.W.findIn K (.ref C) "at" = some none) (n2 : PySem.W.findIn K (.ref C) "many" = some none) (hH : Held p C dd) : FnP P w K mg base p 1 f fd P_fields (spFieldsG p dd FSbs Fbs) := by
  refine Fun.okP D.F sc_fields (fun vs H Q E h => ?_) (fun cdv A outer s H vs Q E hr h => ?_)
  · obtain ⟨fs, rfl, _⟩ := h
    rfl
  · obtain ⟨fs, rfl, hd, ⟨x, y, rfl⟩, q⟩ := h
    refine ⟨_, pss_cons (ps_if (pt_val (pe_callB (call_heldT hH List.mem_cons_self T.c) (by rfl) B.isinstance (by decide +kernel) (pa_cons (pv 0) (pa_cons (pe_tup (pa_cons (pe_glob (v := .ref c0) (by rfl) O.g0 rfl) (pa_cons (pe_glob (v := .ref c1) (by rfl) O.g1 rfl) (pa_cons (pe_glob (v := .ref c2) (by rfl) O.g2 rfl) (pa_cons (pe_glob (v := .ref c3) (by rfl) O.g3 rfl) pa_nil))))) pa_nil)))) (pss_one ps_never) pss_nil)
      (pss_cons (ps_if (pt_val (pe_callB (call_heldT hH List.mem_cons_self T.c) (by rfl) B.isinstance (by decide +kernel) (pa_cons (pv 0) (pa_cons (pe_tup (pa_cons (pe_glob (v := .ref c4) (by rfl) O.g4 rfl) (pa_cons (pe_glob (v := .ref c5) (by rfl) O.g5 rfl) (pa_cons (pe_glob (v := .ref c6) (by rfl) O.g6 rfl) pa_nil)))) pa_nil)))) (pss_one ps_never) pss_nil)
      (pss_cons (ps_if (pt_val (pe_callB (call_held1 hH List.mem_cons_self T.c) (by rfl) B.isinstance (by decide +kernel) (pa_cons (pv 0) (pa_cons (pe_glob (v := .ref c7) (by rfl) O.g7 rfl) pa_nil)))) (pss_one ps_never) pss_nil)
      (pss_cons (ps_if (pt_val (pe_callB (call_held1 hH List.mem_cons_self T.c) (by rfl) B.isinstance (by decide +kernel) (pa_cons (pv 0) (pa_cons (pe_glob (v := .ref c8) (by rfl) O.g8 rfl) pa_nil)))) (pss_one ps_never) pss_nil)
      (pss_cons (ps_if (pt_val (pe_callB (call_held1 hH List.mem_cons_self T.c) (by rfl) B.isinstance (by decide +kernel) (pa_cons (pv 0) (pa_cons (pe_glob (v := .ref C) (by rfl) T.gC rfl) pa_nil))))
        (pss_one (ps_ret (pe_tup (pa_cons (pe_heldf hH List.mem_cons_self T.x n1 (pv 0)) (pa_cons (pe_heldf hH List.mem_cons_self T.x n2 (pv 0)) pa_nil))))) pss_nil) pss_never)))), ?_⟩
    refine ⟨.ref p.1, rfl, by show 4 ≤ sizeLine; decide, fun tp ntp => ?_⟩
    have s1 : Same H (upd H tp (.tup [.ref c0, .ref c1, .ref c2, .ref c3])) := same_upd ntp
    refine ⟨tp, _, [.ref c0, .ref c1, .ref c2, .ref c3], false, bsF x y, rfl, upd_same, .cons (.own _) (.cons (.own _) (.cons (.own _) (.cons (.own _) .nil))), any_no (ds := [c0, c1, c2, c3]) fun D hD => O.no D (by revert hD; simp only [List.mem_cons, List.not_mem_nil, or_false]; intro hD; rcases hD with h | h | h | h <;> simp [h]), s1 _ _ hd, _, rfl, iteF ?_⟩
    refine ⟨.ref p.1, rfl, by show 3 ≤ sizeLine; decide, fun tq ntq => ?_⟩
    have s2 := s1.trans (same_upd (o := .tup [.ref c4, .ref c5, .ref c6]) ntq)
    refine ⟨tq, _, [.ref c4, .ref c5, .ref c6], false, bsF x y, rfl, upd_same, .cons (.own _) (.cons (.own _) (.cons (.own _) .nil)), any_no (ds := [c4, c5, c6]) fun D hD => O.no D (by revert hD; simp only [List.mem_cons, List.not_mem_nil, or_false]; intro hD; rcases hD with h | h | h <;> simp [h]), s2 _ _ hd, _, rfl, iteF ?_⟩
    refine ⟨.ref p.1, rfl, c7, false, bsF x y, rfl, O.no c7 (by simp), s2 _ _ hd, _, rfl, iteF ?_⟩
    refine ⟨.ref p.1, rfl, c8, false, bsF x y, rfl, O.no c8 (by simp), s2 _ _ hd, _, rfl, iteF ?_⟩
    refine ⟨.ref p.1, rfl, C, true, bsF x y, rfl, by simp [PySem.W.kitOne], s2 _ _ hd, _, rfl, iteT ?_⟩
    refine ⟨.ref p.1, rfl, rfl, bsF x y, x, s2 _ _ hd, bs_at x y, .ref p.1, rfl, rfl, bsF x y, y, s2 _ _ hd, bs_many x y, by show 2 ≤ sizeLine; decide, fun r nr => ?_⟩
    exact q _ _ (s2.trans (same_upd nr)) ⟨x, y, r, rfl, rfl, upd_same⟩
end

/-! ### part, refused too -/
def goodPart (o m : Int) (x y : V) : Prop := ∃ i k : Int, x = .int i ∧ y = .int k ∧ 1 ≤ k ∧ o ≤ i ∧ i + k ≤ o + m
def spPartX (CS : Addr) : Sp := fun vs H Q E => ∃ (t : Addr) (o p m f : Int) (x y : V), vs = [.ref t, x, y] ∧ H t = some (tup4 o p m f) ∧ (f = 0 ∨ f = 1) ∧ FV x ∧ FV y ∧
  (∀ i k : Int, x = .int i → y = .int k → 1 ≤ k → o ≤ i → i + k ≤ o + m → ∀ r, H r = none → Q (.ref r) (upd H r (tup4 i (partP o p m f i k) k f))) ∧
  (¬ goodPart o m x y → ∀ (H' : Hp) (d : Addr), Same H H' → H d = none → H' d = some (.xd (bsF x y)) → E (.ref CS) (some d) H')
section
variable {P : Program} {w : World} {K : PySem.W.Frag} {mg : Str → Option Value} {base : Heap}
theorem ok_partX {f fH CF CS fI : Addr} {fd fdH fdI : FuncData} (D : DefAt K mg "part" s_part P_part f fd) (D_holds : DefAt K mg "holds" s_holds P_holds fH fdH) (B : Bn mg) (T : ErT K mg CF CS fI fdI "BadStretch" N_bsinit)
    (n1 : PySem.W.findIn K (.ref CS) "at" = some none) (n2 : PySem.W.findIn K (.ref CS) "many" = some none) (GI : FnOk P w K mg base CX0 2 fI fdI N_bsinit (spBsInit K)) : FnOk P w K mg base (L2.CX P w) 4 f fd P_part (spPartX CS) := by
  have G_holds : FnOk P w K mg base CX0 1 fH fdH P_holds spHolds := ok_holds D_holds B
  refine D.F.okX sc_part (fun vs H Q E h => ?_) (fun cdv A outer s H vs Q E hr h => ?_)
  · obtain ⟨t, o, p, m, f, x, y, rfl, _⟩ := h
    rfl
  · obtain ⟨t, o, p, m, f, x, y, rfl, ht, hf, hx, hy, q1, q2⟩ := h
    refine ⟨_, (pss_cons (ps_if (pt_not (pt_val (pe_call G_holds (hr.mono (by omega)) (by rfl) D_holds.g D_holds.F.kp D_holds.b .nil pass0 (pa_cons (pv 0) (pa_cons (pv 1) (pa_cons (pv 2) pa_nil)))))) (pss_one (ps_raise rfl (takes_of rfl rfl rfl rfl) (pmk_oex T.e.o T.iC T.tI GI (hr.mono (by omega)) T.bI .nil pass0 (by rfl) T.gC (pa_cons (pv 1) (pa_cons (pv 2) pa_nil))))) pss_nil)
      (pss_cons (ps_asg (pv 0) (pg_tup (by rfl) (pgs_cons (pg_name (i := 3) sc_part.nd rfl (.inl rfl)) (pgs_cons (pg_name (i := 4) sc_part.nd rfl (.inl rfl)) (pgs_cons (pg_name (i := 5) sc_part.nd rfl (.inl rfl)) (pgs_cons (pg_name (i := 6) sc_part.nd rfl (.inl rfl)) pgs_nil))))))
      (pss_cons (ps_set (i := 7) sc_part.nd rfl (.inl rfl) (pe_op op_sub (pv 1) (pv 3)))
      (pss_cons (ps_if (pt_cmpR op_eq (pv 6) pe_int (nomark _)) (pss_one (ps_ret (pe_tup (pa_cons (pv 1) (pa_cons (pe_op op_sub (pe_op op_sub (pe_op op_add (pv 4) (pv 5)) (pv 7)) (pv 2)) (pa_cons (pv 2) (pa_cons pe_int pa_nil))))))) pss_nil)
      (pss_one (ps_ret (pe_tup (pa_cons (pv 1) (pa_cons (pe_op op_add (pv 4) (pv 7)) (pa_cons (pv 2) (pa_cons pe_int pa_nil))))))))))), ?_⟩
    have bad : ∀ σ : L2.St, σ[1]? = some (some x) → σ[2]? = some (some y) → ¬ goodPart o m x y → (tMkO CS (spBsInit K) [] (tCons (tVar 1) (tCons (tVar 2) tNil))) σ H (fun cls d H' => E cls d H') := fun σ h1 h2 hb => by
      refine ⟨x, h1, y, h2, by show 2 ≤ 1000; decide, fun a na => ?_⟩
      refine ⟨a, CS, x, y, rfl, hx, hy, T.e, n1, n2, upd_same, fun H' dx ndx ea ed kp => ⟨rfl, dx, bsF x y, ea, ed, ?_, ?_⟩⟩
      · exact (same_upd na).free ndx
      · refine q2 hb _ dx (fun b o hb' => ?_) ((same_upd na).free ndx) upd_same
        have nba : b ≠ a := ne_of_none hb' na
        have nbd : b ≠ dx := ne_of_none hb' ((same_upd na).free ndx)
        rw [upd_ne nbd, del_ne nba]
        exact kp b o nba (by rw [upd_ne nba]; exact hb')
    refine ⟨.ref t, rfl, x, rfl, y, rfl, t, o, p, m, f, x, y, rfl, ht, ?_⟩
    rcases id hx with ⟨i, rfl, hi⟩ | ⟨b, rfl⟩
    · rcases id hy with ⟨k, rfl, hk⟩ | ⟨b, rfl⟩
      · refine .inr (.inr ⟨i, k, rfl, rfl, ?_⟩)
        by_cases hg : 1 ≤ k ∧ o ≤ i ∧ i + k ≤ o + m
        · rw [decide_eq_true hg]
          have q := q1 i k rfl rfl hg.1 hg.2.1 hg.2.2
          refine ⟨true, rfl, iteF ?_⟩
          refine ⟨.ref t, rfl, t, _, rfl, SqT.of ht, rfl, .int o, _, rfl, .int p, _, rfl, .int m, _, rfl, .int f, _, rfl, rfl, ?_⟩
          refine ⟨.int i, rfl, .int o, rfl, i, o, rfl, rfl, ?_⟩
          refine ⟨.int f, rfl, rfl, _, rfl, ?_⟩
          rcases hf with rfl | rfl
          · rw [decide_eq_false (show ¬ (V.int 0 = V.int 1) from fun z => by cases z)]
            refine iteF ?_
            refine ⟨.int i, rfl, .int p, rfl, .int (i - o), rfl, p, i - o, rfl, rfl, .int k, rfl, by show 4 ≤ sizeLine; decide, fun r hr' => ?_⟩
            exact q r hr'
          · rw [decide_eq_true (show (V.int 1 = V.int 1) from rfl)]
            refine iteT ?_
            refine ⟨.int i, rfl, .int p, rfl, .int m, rfl, p, m, rfl, rfl, .int (i - o), rfl, _, _, rfl, rfl, .int k, rfl, _, _, rfl, rfl, .int k, rfl, by show 4 ≤ sizeLine; decide, fun r hr' => ?_⟩
            exact q r hr'
        · rw [decide_eq_false hg]
          refine ⟨false, rfl, iteT ?_⟩
          exact bad _ rfl rfl fun ⟨i', k', e1, e2, h⟩ => by
            cases e1
            cases e2
            exact hg h
      · exact .inr (.inl ⟨i, b, rfl, rfl, false, rfl, iteT (bad _ rfl rfl fun ⟨i', k', e1, e2, h⟩ => by cases e2)⟩)
    · exact .inl ⟨b, rfl, false, rfl, iteT (bad _ rfl rfl fun ⟨i', k', e1, e2, h⟩ => by cases e1)⟩
end

/-! ### _law_part_far -/
abbrev s_part_far : Stmt := top 34
abbrev N_part_far : List Str := ["_law_draw", "_law_mating_here", "_law_times", "_law_one", "_law_other", "_law_many", "_law_flips", "_law_low", "_law_much", "_law_there"]
abbrev P_part_far : List Str := ["_law_draw", "_law_mating_here"]
theorem sc_part_far : FnScope N_part_far P_part_far (defScope s_part_far) := ⟨rfl, rfl, rfl, by decide +kernel, rfl, by decide +kernel, by decide +kernel⟩
theorem rp4 {H : Hp} {t : Addr} {o p m f : Int} (n : Nat) (h : H t = some (tup4 o p m f)) : Rp H (n + 1) (.ref t) (.tuple [.int o, .int p, .int m, .int f]) :=
  .tup h (by show 4 ≤ 100000; decide) (.cons (.int _ _) (.cons (.int _ _) (.cons (.int _ _) (.cons (.int _ _) (.nil _)))))
def spPartFar : Sp := fun vs H Q _ => ∃ (d l t : Addr) (o p m f n : Int), vs = [.ref d, .ref t] ∧ Draw H d l ∧ H t = some (tup4 o p m f) ∧ Mat n o p m f ∧ n ≤ 100 ∧
  ∀ H', Draw H' d l → Keep d H H' → Q (.bl true) H'
section
variable {P : Program} {w : World} {K : PySem.W.Frag} {mg : Str → Option Value} {base : Heap}
theorem ok_part_far {f fP fL fS fQ fH : Addr} {fd fdP fdL fdS fdQ fdH : FuncData} (D : DefAt K mg "_law_part_far" s_part_far P_part_far f fd) (D_pull : DefAt K mg "_law_pull" s_pull P_pull fP fdP)
    (D_like : DefAt K mg "_law_like" s_like P_like fL fdL) (D_scaled : DefAt K mg "_law_scaled" s_scaled P_scaled fS fdS) (D_part : DefAt K mg "part" s_part P_part fQ fdQ) (D_holds : DefAt K mg "holds" s_holds P_holds fH fdH) (B : Bn mg) : FnOk P w K mg base CX0 3 f fd P_part_far spPartFar := by
  have G_pull : FnOk P w K mg base CX0 1 fP fdP P_pull spPull := ok_pull D_pull B
  have G_like : FnOk P w K mg base CX0 2 fL fdL P_like (spLike 1) := ok_like D_like B 1
  have G_scaled : FnOk P w K mg base CX0 1 fS fdS P_scaled spScaled := ok_scaled D_scaled
  have G_part : FnOk P w K mg base CX0 2 fQ fdQ P_part spPart := ok_part D_part D_holds B
  refine D.F.ok sc_part_far (fun vs H Q E h => ?_) (fun cdv A outer s H vs Q E hr h => ?_)
  · obtain ⟨d, l, t, o, p, m, f, n, rfl, _⟩ := h
    rfl
  · obtain ⟨d, l, t, o, p, m, f, n, rfl, hD, ht, M, hn, q⟩ := h
    refine ⟨_, (pss_cons (ps_set (i := 2) sc_part_far.nd rfl (.inl rfl) (pe_op op_add pe_int (pe_call G_pull (hr.mono (by omega)) (by rfl) D_pull.g D_pull.F.kp D_pull.b .nil pass0 (pa_cons (pv 0) (pa_cons (pe_op op_pow pe_int pe_int) pa_nil)))))
      (pss_cons (ps_asg (pe_ix ix_list (pe_call G_scaled (hr.mono (by omega)) (by rfl) D_scaled.g D_scaled.F.kp D_scaled.b .nil pass0 (pa_cons (pe_lst (pa_cons (pv 1) pa_nil)) (pa_cons (pv 2) pa_nil))) pe_int (fun _ _ => rfl)) (pg_tup (by rfl) (pgs_cons (pg_name (i := 3) sc_part_far.nd rfl (.inl rfl)) (pgs_cons (pg_name (i := 4) sc_part_far.nd rfl (.inl rfl)) (pgs_cons (pg_name (i := 5) sc_part_far.nd rfl (.inl rfl)) (pgs_cons (pg_name (i := 6) sc_part_far.nd rfl (.inl rfl)) pgs_nil))))))
      (pss_cons (ps_set (i := 7) sc_part_far.nd rfl (.inl rfl) (pe_call G_pull (hr.mono (by omega)) (by rfl) D_pull.g D_pull.F.kp D_pull.b .nil pass0 (pa_cons (pv 0) (pa_cons (pv 5) pa_nil))))
      (pss_cons (ps_set (i := 8) sc_part_far.nd rfl (.inl rfl) (pe_op op_add pe_int (pe_call G_pull (hr.mono (by omega)) (by rfl) D_pull.g D_pull.F.kp D_pull.b .nil pass0 (pa_cons (pv 0) (pa_cons (pe_op op_sub (pv 5) (pv 7)) pa_nil)))))
      (pss_cons (ps_set (i := 9) sc_part_far.nd rfl (.inl rfl) (pe_ifExp (pt_cmpR op_eq (pv 6) pe_int (nomark _)) (pe_op op_sub (pe_op op_sub (pe_op op_add (pv 4) (pv 5)) (pv 7)) (pv 8)) (pe_op op_add (pv 4) (pv 7))))
      (pss_one (ps_ret (pe_call G_like (hr.mono (by omega)) (by rfl) D_like.g D_like.F.kp D_like.b .nil pass0 (pa_cons (pe_call G_part (hr.mono (by omega)) (by rfl) D_part.g D_part.F.kp D_part.b .nil pass0 (pa_cons (pe_tup (pa_cons (pv 3) (pa_cons (pv 4) (pa_cons (pv 5) (pa_cons (pv 6) pa_nil))))) (pa_cons (pe_op op_add (pv 3) (pv 7)) (pa_cons (pv 8) pa_nil)))) (pa_cons (pe_tup (pa_cons (pe_op op_add (pv 3) (pv 7)) (pa_cons (pv 9) (pa_cons (pv 8) (pa_cons (pv 6) pa_nil))))) pa_nil)))))))))), ?_⟩
    have ntd : t ≠ d := by
      obtain ⟨_, _, _, _, W⟩ := hD
      exact ne_of ht W.at_d (fun z => by cases z)
    refine ⟨.ref d, rfl, 10, 15, rfl, rfl, ⟨by decide, by decide, by decide⟩, d, l, _, rfl, hD, by decide, by decide, fun k' H1 k0 k1 D1 kp1 => ?_⟩
    have k1' : k' < 1000000000000000 := k1
    refine ⟨1, k', rfl, rfl, ?_⟩
    have t1 := kp1.of ht ntd
    refine ⟨.ref t, rfl, by show 1 ≤ sizeLine; decide, fun L nL => ?_⟩
    refine ⟨.int (1 + k'), rfl, L, t, o, p, m, f, 1 + k', rfl, upd_same, same_upd nL _ _ t1, ⟨by omega, by omega⟩, fun H2 r u s2 e2 u2 => ?_⟩
    have D2 := (D1.same (same_upd nL)).same s2
    have k2 : Keep d H H2 := (kp1.trans (keepS (same_upd nL))).trans (keepS s2)
    refine ⟨r, _, 0, .ref u, rfl, rfl, SqL.of e2, atI_nat (j := 0) rfl, ?_⟩
    have u2' : H2 u = some (.tup [.int (o * (1 + k')), .int (p * (1 + k')), .int (m * (1 + k')), .int f]) := u2
    refine ⟨u, _, rfl, SqT.of u2', rfl, .int (o * (1 + k')), _, rfl, .int (p * (1 + k')), _, rfl, .int (m * (1 + k')), _, rfl, .int f, _, rfl, rfl, ?_⟩
    have m1 := M.m1
    have mn : m ≤ 100 := by
      have := M.o0
      have := M.o1
      omega
    have N1 : 1 * 1 ≤ m * (1 + k') := Int.mul_le_mul m1 (by omega) (by decide) (by omega)
    have N2 : m * (1 + k') ≤ 100 * 1000000000000000 := Int.mul_le_mul mn (by omega) (by omega) (by omega)
    generalize o * (1 + k') = O
    generalize p * (1 + k') = T
    generalize m * (1 + k') = N at N1 N2
    have hf := M.f01
    refine ⟨.ref d, rfl, .int N, rfl, d, l, N, rfl, D2, by omega, by omega, fun lo H3 lo0 lo1 D3 kp3 => ?_⟩
    refine ⟨.ref d, rfl, .int N, rfl, .int lo, rfl, N, lo, rfl, rfl, d, l, _, rfl, D3, by omega, by omega, fun c H4 c0 c1 D4 kp4 => ?_⟩
    refine ⟨1, c, rfl, rfl, ?_⟩
    have k4 : Keep d H H4 := (k2.trans kp3).trans kp4
    have fin : ∀ th : Int, th = partP O T N f (O + lo) (1 + c) → ∀ t6 r t9 H5, H4 t6 = none → H5 = upd (upd (upd H4 t6 (tup4 O T N f)) r (tup4 (O + lo) (partP O T N f (O + lo) (1 + c)) (1 + c) f)) t9 (tup4 (O + lo) th (1 + c) f) → (upd H4 t6 (tup4 O T N f)) r = none → (upd (upd H4 t6 (tup4 O T N f)) r (tup4 (O + lo) (partP O T N f (O + lo) (1 + c)) (1 + c) f)) t9 = none →
        spLike 1 [.ref r, .ref t9] H5 Q E := by
      rintro th rfl t6 r t9 H5 n6 rfl nr n9
      have sA : Same H4 (upd (upd (upd H4 t6 (tup4 O T N f)) r (tup4 (O + lo) (partP O T N f (O + lo) (1 + c)) (1 + c) f)) t9 (tup4 (O + lo) (partP O T N f (O + lo) (1 + c)) (1 + c) f)) := ((same_upd n6).trans (same_upd nr)).trans (same_upd n9)
      exact ⟨.ref r, .ref t9, _, rfl, rp4 _ (same_upd n9 _ _ upd_same), rp4 _ upd_same, fun H9 s9 => q H9 ((D4.same sA).same s9) (k4.trans (keepS (sA.trans s9)))⟩
    refine ⟨.int f, rfl, rfl, _, rfl, ?_⟩
    refine ite2 (fun h => ?_) (fun h => ?_)
    · have hf1 : f = 1 := V.int.inj (of_decide_eq_true h)
      refine ⟨.int T, rfl, .int N, rfl, T, N, rfl, rfl, .int lo, rfl, _, _, rfl, rfl, .int (1 + c), rfl, _, _, rfl, rfl, ?_⟩
      refine ⟨.int O, rfl, .int T, rfl, .int N, rfl, .int f, rfl, by show 4 ≤ sizeLine; decide, fun t6 n6 => ?_⟩
      refine ⟨.int O, rfl, .int lo, rfl, O, lo, rfl, rfl, .int (1 + c), rfl, t6, O, T, N, f, O + lo, 1 + c, rfl, upd_same, hf, by omega, by omega, by omega, fun r nr => ?_⟩
      refine ⟨.int O, rfl, .int lo, rfl, O, lo, rfl, rfl, .int _, rfl, .int (1 + c), rfl, .int f, rfl, by show 4 ≤ sizeLine; decide, fun t9 n9 => ?_⟩
      exact fin _ (by unfold partP; rw [if_pos hf1]; omega) t6 r t9 _ n6 rfl nr n9
    · have hf1 : ¬ f = 1 := fun z => h (decide_eq_true (congrArg V.int z))
      refine ⟨.int T, rfl, .int lo, rfl, T, lo, rfl, rfl, ?_⟩
      refine ⟨.int O, rfl, .int T, rfl, .int N, rfl, .int f, rfl, by show 4 ≤ sizeLine; decide, fun t6 n6 => ?_⟩
      refine ⟨.int O, rfl, .int lo, rfl, O, lo, rfl, rfl, .int (1 + c), rfl, t6, O, T, N, f, O + lo, 1 + c, rfl, upd_same, hf, by omega, by omega, by omega, fun r nr => ?_⟩
      refine ⟨.int O, rfl, .int lo, rfl, O, lo, rfl, rfl, .int _, rfl, .int (1 + c), rfl, .int f, rfl, by show 4 ≤ sizeLine; decide, fun t9 n9 => ?_⟩
      exact fin _ (by unfold partP; rw [if_neg hf1]; omega) t6 r t9 _ n6 rfl nr n9
end
/-! ### the part's ends, by the list -/
theorem filter_range (a b : Nat) (g : Nat → Bool) (hg : ∀ k, g k = decide (a ≤ k ∧ k < b)) : ∀ m : Nat, (List.range m).filter g = (List.range (min b m - a)).map (a + ·)
  | 0 => by
    rw [Nat.min_zero, Nat.zero_sub]
    rfl
  | m + 1 => by
    rw [List.range_succ, List.filter_append, filter_range a b g hg m]
    by_cases h : a ≤ m ∧ m < b
    · rw [List.filter_cons_of_pos (by rw [hg]; exact decide_eq_true h), show min b (m + 1) - a = (min b m - a) + 1 by omega, List.range_succ, List.map_append, List.filter_nil]
      congr 1
      show [m] = [a + (min b m - a)]
      rw [show a + (min b m - a) = m by omega]
    · rw [List.filter_cons_of_neg (by rw [hg, decide_eq_false h]; exact Bool.false_ne_true), List.filter_nil, List.append_nil]
      congr 2
      omega
def within (i k : Int) (x : Int × Int) : Bool := decide (i ≤ x.1 ∧ x.1 < i + k)
theorem within_is {o p f i : Int} {m k : Nat} (h1 : o ≤ i) (h2 : i + k ≤ o + m) : (endL o p m f m).filter (within i k) = endL i (partP o p m f i k) k f k := by
  obtain ⟨a, ha⟩ : ∃ a : Nat, i - o = (a : Int) := ⟨(i - o).toNat, by omega⟩
  have hg : ∀ j : Nat, (within i k ∘ fun (j : Nat) => (o + (j : Int), endQ p m f (j : Int))) j = decide (a ≤ j ∧ j < a + k) := fun j => by
    show decide (i ≤ o + (j : Int) ∧ o + (j : Int) < i + k) = _
    exact decide_eq_decide.mpr ⟨fun h => by omega, fun h => by omega⟩
  have e : (endL o p m f m).filter (within i k) = ((List.range m).filter fun j => decide (a ≤ j ∧ j < a + k)).map fun (j : Nat) => (o + (j : Int), endQ p m f (j : Int)) := by
    unfold endL
    rw [List.filter_map]
    congr 1
    exact List.filter_congr fun j _ => hg j
  rw [e, filter_range a (a + k) _ (fun _ => rfl), List.map_map, Nat.min_eq_left (by omega), Nat.add_sub_cancel_left]
  unfold endL
  refine List.map_congr_left fun j hj => ?_
  have hj' := List.mem_range.mp hj
  refine Prod.ext ?_ ?_
  · show o + ((a + j : Nat) : Int) = i + (j : Int)
    omega
  · show endQ p m f ((a + j : Nat) : Int) = endQ (partP o p m f i k) k f (j : Int)
    unfold endQ partP
    split <;> omega

/-! ### law -/
-- LAMHEAD: (T := lamT Pt) (TT := TWhyG CS "BadStretch" FSbs Fbs) (k := 4) (by rfl) D_why.g D_why.F.kp lkW hcW D_why.b sc_why rfl (.inl rfl) (why_givesG (k := 3) (hr.mono (by omega)) Te D_fields (fun fs ⟨x, y, e⟩ => by rw [e]; exact bs_word x y) Fbs.st (fun p dd hH => ok_fieldsBs D_fields B Te Ot n1 n2 hH)) TB rfl List.mem_cons_self huT (hr.mono (by omega)) (show LamX.LamS (defScope s_law) _ from LamX.lamS_by (by decide +kernel)) rfl (fun _ _ _ _ _ => rfl)
abbrev s_law : Stmt := top 35
abbrev N_law : List Str := ["_law_script", "_law_draw", "_law_turn", "_law_good", "_law_why_here", "_law_due", "_law_at", "_law_many", "_law_mating_here", "_law_told", "_law_number", "_law_ends_here"]
abbrev P_law : List Str := ["_law_script"]
theorem sc_law : FnScope N_law P_law (defScope s_law) := ⟨rfl, rfl, rfl, by decide +kernel, rfl, by decide +kernel, by decide +kernel⟩
/-- a small int or a truth -/
def IBs (x : V) : Prop := (∃ i : Int, x = .int i ∧ -1000 < i ∧ i < 1000) ∨ ∃ b : Bool, x = .bl b
theorem IBs.ib {x : V} (h : IBs x) : IB x := by
  rcases h with ⟨i, rfl, h1, h2⟩ | ⟨b, rfl⟩
  · exact .int (by omega)
  · exact .inr ⟨_, rfl⟩
theorem tabs_keepU {T : List (Addr × Str)} {H : Hp} {r : Addr} {xs : List V} {o : HO} (t : LamX.Tabs T H) (hr : H r = some (.lst xs)) : LamX.Tabs T (upd H r o) := fun p hp => by
  obtain ⟨ps, h1, h2, h3⟩ := t p hp
  refine ⟨ps, (by rw [upd_ne (ne_of h1 hr (fun e => by cases e))]; exact h1), h2, fun pos cv hc => ?_⟩
  obtain ⟨c, e1, e2⟩ := h3 pos cv hc
  exact ⟨c, e1, by rw [upd_ne (ne_of e2 hr (fun e => by unfold LamX.CodeO at e; cases e))]; exact e2⟩
theorem draw_upd {H : Hp} {d l r : Addr} {o : HO} (D : Draw H d l) (h1 : d ≠ r) (h2 : l ≠ r) : Draw (upd H r o) d l := by
  obtain ⟨ns, i, z, s, W⟩ := D
  exact ⟨ns, i, z, s, { W with at_d := by rw [upd_ne h1]; exact W.at_d, at_l := by rw [upd_ne h2]; exact W.at_l }⟩
section
open PySem.Spec PyProof.Rows
variable {P : Program} {w : World} {K : PySem.W.Frag} {mg : Str → Option Value} {base : Heap}
theorem ok_law {f fO fP fL fM fE fS fQ fH fR fW fF fI CF CS c Pt c0 c1 c2 c3 c4 c5 c6 c7 c8 : Addr} {fdO fdP fdL fdM fdE fdS fdQ fdH fdR fdW fdF fdI : FuncData} {kV doc pm ct oc : Value} {an od : Option Addr} {osl : Array (Option Value)}
    (lk : K.lookup f = some ⟨oc, od, .func (PySem.W.fnOf "law" "law" (defArgs s_law) (defBody s_law) (defScope s_law) .none kV doc pm an (.ref c) ct), osl⟩) (hcd : PySem.W.codeIn K (.ref c) "law" = true) (TB : LamX.TabB base mg c Pt)
    (D_open : DefAt K mg "_law_open" s_open P_open fO fdO) (D_pull : DefAt K mg "_law_pull" s_pull P_pull fP fdP) (D_like : DefAt K mg "_law_like" s_like P_like fL fdL) (D_mating : DefAt K mg "_law_mating" s_mating P_mating fM fdM) (D_ends : DefAt K mg "_law_ends" s_ends P_ends fE fdE)
    (D_scaled : DefAt K mg "_law_scaled" s_scaled P_scaled fS fdS) (D_part : DefAt K mg "part" s_part P_part fQ fdQ) (D_holds : DefAt K mg "holds" s_holds P_holds fH fdH) (D_part_far : DefAt K mg "_law_part_far" s_part_far P_part_far fR fdR)
    (D_why : DefAt K mg "_law_why" s_why P_why fW fdW) (D_fields : DefAt K mg "_law_fields" s_fields P_fields fF fdF)
    (Te : ErT K mg CF CS fI fdI "BadStretch" N_bsinit) (n1 : PySem.W.findIn K (.ref CS) "at" = some none) (n2 : PySem.W.findIn K (.ref CS) "many" = some none) (GI : FnOk P w K mg base CX0 2 fI fdI N_bsinit (spBsInit K)) (Ot : OthT K mg CS c0 c1 c2 c3 c4 c5 c6 c7 c8) (B : Bn mg) :
    FnOk P w K mg base CX0 9 f (PySem.W.fnOf "law" "law" (defArgs s_law) (defBody s_law) (defScope s_law) .none kV doc pm an (.ref c) ct) P_law (spLawT K Pt) := by
  have G_open : FnOk P w K mg base CX0 1 fO fdO P_open (spOpen K) := ok_open D_open B
  have G_pull : FnOk P w K mg base CX0 1 fP fdP P_pull spPull := ok_pull D_pull B
  have G_like : FnOk P w K mg base CX0 3 fL fdL P_like (spLike 2) := ok_like D_like B 2
  have G_mating : FnOk P w K mg base CX0 2 fM fdM P_mating spMating := ok_mating D_mating D_pull B
  have G_ends : FnOk P w K mg base CX0 1 fE fdE P_ends spEnds := ok_ends D_ends B
  have G_part_far : FnOk P w K mg base CX0 3 fR fdR P_part_far spPartFar := ok_part_far D_part_far D_pull D_like D_scaled D_part D_holds B
  have G_part : FnOk P w K mg base (L2.CX P w) 4 fQ fdQ P_part (spPartX CS) := ok_partX D_part D_holds B Te n1 n2 GI
  obtain ⟨ocW, odW, kVW, docW, pmW, anW, cdvW, ctW, oslW, rfl, lkW, hcW⟩ := D_why.F.ex
  refine fn_of lk hcd sc_law (fun vs H Q E h => ?_) (fun A outer s H vs Q E hr h => ?_)
  · obtain ⟨a, ns, rfl, _⟩ := h
    rfl
  · obtain ⟨a, ns, rfl, hS, hlen, hPt, q⟩ := h
    suffices hh : ∃ t, PSs (cxOf CX0 P w K mg base N_law "law" (defScope s_law) f (.ref c) A outer s H E).nox (defBody s_law) t ∧ t { nx := fun _ H' => Q .non H', rt := Q } (L2.start N_law [.ref a]) H by
      obtain ⟨t, h1, h2⟩ := hh
      exact ⟨t, h1.nox, h2⟩
    have huT : ∀ p ∈ lamT Pt, p.1 = Pt → p.2 = lamQ := fun p hp _ => by rw [List.mem_singleton.mp hp]
    refine ⟨_, (pss_cons (ps_set (i := 1) sc_law.nd rfl (.inl rfl) (pe_call G_open (hr.mono (by omega)) (by rfl) D_open.g D_open.F.kp D_open.b .nil pass0 (pa_cons (pv 0) pa_nil)))
      (pss_cons (ps_for PassesOwn.never rfl (pi_range1 (by rfl) B.range (pa_cons pe_int pa_nil)) (pg_name (i := 2) sc_law.nd rfl (.inl rfl)) (pss_cons (ps_if (pt_not (pt_val (pe_call G_part_far (hr.mono (by omega)) (by rfl) D_part_far.g D_part_far.F.kp D_part_far.b .nil pass0 (pa_cons (pv 1) (pa_cons (pe_call G_mating (hr.mono (by omega)) (by rfl) D_mating.g D_mating.F.kp D_mating.b .nil pass0 (pa_cons (pv 1) (pa_cons pe_int pa_nil))) pa_nil))))) (pss_one (ps_ret pe_bl)) pss_nil)
      (pss_cons (ps_set (i := 8) sc_law.nd rfl (.inr rfl) (pe_call G_mating (hr.mono (by omega)) (by rfl) D_mating.g D_mating.F.kp D_mating.b .nil pass0 (pa_cons (pv 1) (pa_cons (pe_op op_add pe_int (pe_call G_pull (hr.mono (by omega)) (by rfl) D_pull.g D_pull.F.kp D_pull.b .nil pass0 (pa_cons (pv 1) (pa_cons pe_int pa_nil)))) pa_nil))))
      (pss_cons (ps_set (i := 6) sc_law.nd rfl (.inr rfl) (pe_op op_add (pe_op op_subV (pe_ix ix_tup (pv 8) pe_int (fun _ _ => rfl)) pe_int) (pe_call G_pull (hr.mono (by omega)) (by rfl) D_pull.g D_pull.F.kp D_pull.b .nil pass0 (pa_cons (pv 1) (pa_cons (pe_op op_add (pe_ix ix_tup (pv 8) pe_int (fun _ _ => rfl)) pe_int) pa_nil)))))
      (C8.pss_cut (ps_set (i := 6) sc_law.nd rfl (.inr rfl) (pe_ifExp (PW.pt (pw_and (pt_cmpR op_in_seq (pv 6) (pe_tup (pa_cons pe_int (pa_cons pe_int pa_nil))) (by rfl)) (pw_and1 (pt_cmpR op_eq (pe_call G_pull (hr.mono (by omega)) (by rfl) D_pull.g D_pull.F.kp D_pull.b .nil pass0 (pa_cons (pv 1) (pa_cons pe_int pa_nil))) pe_int (nomark _))))) (pe_cmpR op_eq (pv 6) pe_int (nomark _)) (pv 6)))
      (pss_cons (ps_set (i := 7) sc_law.nd rfl (.inr rfl) (pe_ix ix_list (pe_lst (pa_cons pe_int (pa_cons (pe_un un_neg pe_int) (pa_cons (pe_op op_subV (pe_op op_add (pe_ix ix_tup (pv 8) pe_int (fun _ _ => rfl)) (pe_ix ix_tup (pv 8) pe_int (fun _ _ => rfl))) (pv 6)) (pa_cons (pe_op op_add pe_int (pe_call G_pull (hr.mono (by omega)) (by rfl) D_pull.g D_pull.F.kp D_pull.b .nil pass0 (pa_cons (pv 1) (pa_cons pe_int pa_nil)))) (pa_cons pe_int (pa_cons pe_bl pa_nil))))))) (pe_call G_pull (hr.mono (by omega)) (by rfl) D_pull.g D_pull.F.kp D_pull.b .nil pass0 (pa_cons (pv 1) (pa_cons pe_int pa_nil))) (fun _ _ => rfl)))
      (C8.pss_cut (ps_set (i := 3) sc_law.nd rfl (.inl rfl) (pe_and (pe_not (pe_callB (cr_any rfl) (by rfl) B.any (by decide +kernel) (pa_cons (pe_lc (own := [("_law_number", 10)]) (g := gName 10) (by rfl) sc_law.nd (pi_tup (pe_tup (pa_cons (pv 6) (pa_cons (pv 7) pa_nil)))) (blkOk_by (own := [("_law_number", 10)]) (N := N_law) (sc := defScope s_law) (by decide +kernel)) (fun _ _ _ _ _ => (pg_name (i := 10) sc_law.nd rfl (.inl rfl))) (fun _ _ _ _ _ => pts_nil) (fun _ _ _ _ _ => (pe_callB (show CallR _ _ (rIsi K) from call_isi) (by rfl) B.isinstance (by decide +kernel) (pa_cons (pv 10) (pa_cons (pe_bltn (v := .ty "bool") (by rfl) B.bool (by decide +kernel) rfl) pa_nil))))) pa_nil))) (pe_one (pe_cmpR op_ge (pv 7) pe_int (nomark _)))))
      (C8.pss_cut (ps_set (i := 3) sc_law.nd rfl (.inl rfl) (pe_and (pv 3) (pe_and (pe_cmpR op_le (pe_ix ix_tup (pv 8) pe_int (fun _ _ => rfl)) (pv 6) (nomark _)) (pe_one (pe_cmpR op_le (pe_op op_add (pv 6) (pv 7)) (pe_op op_add (pe_ix ix_tup (pv 8) pe_int (fun _ _ => rfl)) (pe_ix ix_tup (pv 8) pe_int (fun _ _ => rfl))) (nomark _))))))
      (pss_cons (ps_set (i := 9) sc_law.nd rfl (.inr rfl) (pe_lst pa_nil))
      (pss_cons (ps_set (i := 4) sc_law.nd rfl (.inl rfl) (LamX.pe_lamcall (T := lamT Pt) (TT := TWhyG CS "BadStretch" FSbs Fbs) (k := 4) (by rfl) D_why.g D_why.F.kp lkW hcW D_why.b sc_why rfl (.inl rfl) (why_givesG (k := 3) (hr.mono (by omega)) Te D_fields (fun fs ⟨x, y, e⟩ => by rw [e]; exact bs_word x y) Fbs.st (fun p dd hH => ok_fieldsBs D_fields B Te Ot n1 n2 hH)) TB rfl List.mem_cons_self huT (hr.mono (by omega)) (show LamX.LamS (defScope s_law) _ from LamX.lamS_by (by decide +kernel)) rfl (fun _ _ _ _ _ => rfl) (fun A1 outer1 s1 H1 E1 f1 c1 hr1 => (pe_appK (K := K) rfl (pv 9) (pa_cons (pe_call G_part (hr1.mono (by omega)) (by rfl) D_part.g D_part.F.kp D_part.b .nil (passes_call (takes_of rfl rfl rfl rfl) fun _ _ _ _ h => h) (pa_cons (pv 8) (pa_cons (pv 6) (pa_cons (pv 7) pa_nil)))) pa_nil)))))
      (pss_cons (ps_if (pt_not (pt_val (pe_call G_like (hr.mono (by omega)) (by rfl) D_like.g D_like.F.kp D_like.b .nil pass0 (pa_cons (pv 4) (pa_cons (pe_ifExp (pt_val (pv 3)) (pe_tup (pa_cons pe_str (pa_cons pe_non pa_nil))) (pe_tup (pa_cons pe_str (pa_cons (pe_tup (pa_cons (pv 6) (pa_cons (pv 7) pa_nil))) pa_nil)))) pa_nil))))) (pss_one (ps_ret pe_bl)) pss_nil)
      (pss_one (ps_if (pt_val (pv 3)) (pss_cons (ps_setLc (i := 5) (own := [("_law_ends_here", 11)]) (g := gName 11) (by rfl) sc_law.nd rfl rfl (sw_true rfl rfl rfl (by decide +kernel)) (pi_list (pe_call G_ends (hr.mono (by omega)) (by rfl) D_ends.g D_ends.F.kp D_ends.b .nil pass0 (pa_cons (pv 8) pa_nil))) (blkOk_by (own := [("_law_ends_here", 11)]) (N := N_law) (sc := defScope s_law) (by decide +kernel)) (fun _ _ _ _ _ => (pg_name (i := 11) sc_law.nd rfl (.inl rfl))) (fun _ _ _ _ _ => (pts_one (pt_chain op_le op_lt (pv 6) (pe_ix (show IxR _ (rIxT K) from ix_tup) (pv 11) pe_int (fun _ _ => rfl)) (pe_op op_add (pv 6) (pv 7))))) (fun _ _ _ _ _ => (pv 11)))
      (pss_one (ps_if (PW.pt (pw_or (pt_not (pt_val (pe_callB call_isi (by rfl) B.isinstance (by decide +kernel) (pa_cons (pe_ix ix_list (pv 9) pe_int (fun _ _ => rfl)) (pa_cons (pe_bltn (v := .ty "tuple") (by rfl) B.tuple (by decide +kernel) rfl) pa_nil))))) (pw_or (pt_not (pt_val (pe_call G_like (hr.mono (by omega)) (by rfl) D_like.g D_like.F.kp D_like.b .nil pass0 (pa_cons (pe_call G_ends (hr.mono (by omega)) (by rfl) D_ends.g D_ends.F.kp D_ends.b .nil pass0 (pa_cons (pe_ix ix_list (pv 9) pe_int (fun _ _ => rfl)) pa_nil)) (pa_cons (pv 5) pa_nil))))) (pw_or1 (pt_cmpR op_ne (pe_ix ix_tup (pe_ix ix_list (pv 9) pe_int (fun _ _ => rfl)) pe_int (fun _ _ => rfl)) (pe_ix ix_tup (pv 8) pe_int (fun _ _ => rfl)) (nomark _)))))) (pss_one (ps_ret pe_bl)) pss_nil))) pss_nil)))))))))))))
      (pss_one (ps_ret pe_bl)))), ?_⟩
    refine ⟨.ref a, rfl, a, ns, rfl, hS, hlen, fun H1 d l sm nd nl hD => ?_⟩
    have T1 : LamX.Tabs (lamT Pt) H1 := fun p hp => by
      rw [List.mem_singleton.mp hp]
      exact LamX.TabS.nil (sm _ _ hPt)
    refine ⟨6, rfl, by decide, by decide, for_range (lo := 0) (n := 6) (fun i σ H3 => ∃ y2 y3 y4 y5 y6 y7 y8 y9 y10 y11, σ = [some (.ref a), some (.ref d), y2, y3, y4, y5, y6, y7, y8, y9, y10, y11] ∧ Draw H3 d l ∧ LamX.Tabs (lamT Pt) H3)
      ⟨_, _, _, _, _, _, _, _, _, _, rfl, hD, T1⟩ ?_ ?_⟩
    · rintro i_ σ H3 hi ⟨y2, y3, y4, y5, y6, y7, y8, y9, y10, y11, rfl, D3, T3⟩
      -- the far one
      refine ⟨.ref d, rfl, .ref d, rfl, d, l, 20, rfl, D3, by decide, by decide, fun H4 t' o' p' m' f' D4 k4 e4 M' => ?_⟩
      refine ⟨d, l, t', o', p', m', f', 20, rfl, D4, e4, M', by decide, fun H5 D5 k5 => ⟨true, rfl, iteF ?_⟩⟩
      have T5 := tabs_keep (tabs_keep T3 D3 k4) D4 k5
      -- mating_here
      refine ⟨.ref d, rfl, .ref d, rfl, d, l, 20, rfl, D5, by decide, by decide, fun v H6 v0 v1 D6 k6 => ?_⟩
      refine ⟨1, v, rfl, rfl, d, l, 1 + v, rfl, D6, by omega, by omega, fun H7 t o p m f D7 k7 e7 M => ?_⟩
      have T7 := tabs_keep (tabs_keep T5 D5 k6) D6 k7
      obtain ⟨m1, o0, o1, p0, p1, hf⟩ := M
      have ntd : ∀ {H : Hp}, Draw H d l → H t = some (tup4 o p m f) → t ≠ d := fun ⟨_, _, _, _, W⟩ e => ne_of e W.at_d (fun z => by cases z)
      -- at
      refine ⟨.ref t, rfl, t, _, 0, .int o, rfl, rfl, SqT.of e7, at4_0, o, rfl, .inl ⟨2, rfl, .ref d, rfl, .ref t, rfl, t, _, 2, .int m, rfl, rfl, SqT.of e7, at4_2, m, 4, rfl, rfl, d, l, m + 4, rfl, D7, by omega, by omega, fun v2 H8 v20 v21 D8 k8 => ⟨o - 2, v2, rfl, rfl, ?_⟩⟩⟩
      have e8 := k8.of e7 (ntd D7 e7)
      have T8 := tabs_keep T7 D7 k8
      refine ⟨fun σ H' => ∃ xa, IBs xa ∧ σ = [some (.ref a), some (.ref d), some (.int (0 + (i_ : Int))), y3, y4, y5, some xa, y7, some (.ref t), y9, y10, y11] ∧ Draw H' d l ∧ LamX.Tabs (lamT Pt) H' ∧ H' t = some (tup4 o p m f), ?_, ?_⟩
      · refine ⟨.int (o - 2 + v2), rfl, by show 2 ≤ sizeLine; decide, fun t2 n2 => ?_⟩
        have s8 := same_upd (H := H8) (o := .tup [.int 0, .int 1]) n2
        have ibA : IBs (.int (o - 2 + v2)) := .inl ⟨_, rfl, by omega, by omega⟩
        refine ⟨t2, _, rfl, .inr (SqT.of upd_same), rfl, rfl, _, rfl, ite2 (fun _ => ?_) (fun _ => ?_)⟩
        · refine ⟨.ref d, rfl, d, l, 3, rfl, D8.same s8, by decide, by decide, fun v3 H9 v30 v31 D9 k9 => ?_⟩
          have T9 := tabs_keep (T8.ext s8) (D8.same s8) k9
          have e9 := k9.of (s8 _ _ e8) (ntd (D8.same s8) (s8 _ _ e8))
          refine ⟨rfl, _, rfl, ite2 (fun _ => ?_) (fun _ => ?_)⟩
          · exact ⟨.int (o - 2 + v2), rfl, rfl, _, .inr ⟨_, rfl⟩, rfl, D9, T9, e9⟩
          · exact ⟨.int (o - 2 + v2), rfl, _, ibA, rfl, D9, T9, e9⟩
        · exact ⟨.int (o - 2 + v2), rfl, _, ibA, rfl, D8.same s8, T8.ext s8, s8 _ _ e8⟩
      · rintro σ H9 ⟨xa, iba, rfl, D9, T9, e9⟩
        -- many
        obtain ⟨df, hdf, hdb⟩ : ∃ df : Int, (∀ (H : Hp) (Q : VK), Q (.int df) H → rSubV (.int (o + m)) xa H Q) ∧ (-1100 < df ∧ df < 1100) := by
          rcases id iba with ⟨i, rfl, h1, h2⟩ | ⟨b, rfl⟩
          · exact ⟨o + m - i, fun H Q h => ⟨o + m, rfl, .inl ⟨i, rfl, h⟩⟩, by omega⟩
          · refine ⟨o + m - b2i b, fun H Q h => ⟨o + m, rfl, .inr ⟨b, rfl, h⟩⟩, ?_⟩
            cases b
            · show -1100 < o + m - 0 ∧ o + m - 0 < 1100
              omega
            · show -1100 < o + m - 1 ∧ o + m - 1 < 1100
              omega
        refine ⟨1, rfl, .ref t, rfl, t, _, 0, .int o, rfl, rfl, SqT.of e9, at4_0, .ref t, rfl, t, _, 2, .int m, rfl, rfl, SqT.of e9, at4_2, o, m, rfl, rfl, xa, rfl, hdf _ _ ⟨.ref d, rfl, d, l, 6, rfl, D9, by decide, by decide, fun v4 HA v40 v41 DA kA => ?_⟩⟩
        refine ⟨1, v4, rfl, rfl, by show 6 ≤ sizeLine; decide, fun L nL => ?_⟩
        refine ⟨.ref d, rfl, d, l, 6, rfl, DA.same (same_upd nL), by decide, by decide, fun w HB w0 w1 DB kB => ?_⟩
        have TA := tabs_keep T9 D9 kA
        have TB' := tabs_keep (TA.ext (same_upd nL)) (DA.same (same_upd nL)) kB
        have eA := kA.of e9 (ntd D9 e9)
        have eB := kB.of (same_upd nL _ _ eA) (ntd DA eA)
        obtain ⟨xm, hxm, ibm⟩ : ∃ xm : V, atI [V.int 0, V.int (-1), V.int df, V.int (1 + v4), V.int 1, V.bl true] w = some xm ∧ IB xm := by
          rcases (show w = 0 ∨ w = 1 ∨ w = 2 ∨ w = 3 ∨ w = 4 ∨ w = 5 by omega) with rfl | rfl | rfl | rfl | rfl | rfl
          · exact ⟨_, atI_nat (j := 0) rfl, .int (by decide)⟩
          · exact ⟨_, atI_nat (j := 1) rfl, .int (by decide)⟩
          · exact ⟨_, atI_nat (j := 2) rfl, .int (by omega)⟩
          · exact ⟨_, atI_nat (j := 3) rfl, .int (by omega)⟩
          · exact ⟨_, atI_nat (j := 4) rfl, .int (by decide)⟩
          · exact ⟨_, atI_nat (j := 5) rfl, .inr ⟨_, rfl⟩⟩
        refine ⟨L, _, w, xm, rfl, rfl, SqL.of (kB.of upd_same (DA.ne_new nL)), hxm, ?_⟩
        have ibaB := iba.ib
        -- good, the first row
        refine ⟨fun σ H' => ∃ g : Bool, (g = true ↔ ∃ i k : Int, xa = .int i ∧ xm = .int k ∧ 1 ≤ k) ∧ σ = [some (.ref a), some (.ref d), some (.int (0 + (i_ : Int))), some (.bl g), y4, y5, some xa, some xm, some (.ref t), y9, y10, y11] ∧ Draw H' d l ∧ LamX.Tabs (lamT Pt) H' ∧ H' t = some (tup4 o p m f), ?_, ?_⟩
        · refine ⟨xa, rfl, xm, rfl, by show 2 ≤ sizeLine; decide, fun tp ntp => ?_⟩
          refine ⟨tp, rfl, ⟨_, SqT.of upd_same⟩, fun L6 nL6 => lc_tup (K := K) (a := tp) (xs := [xa, xm]) (fun i H2 => Same (upd HB tp (.tup [xa, xm])) H2 ∧ H2 L6 = some (.lst ((([xa, xm].map isB).take i).map V.bl)))
            ⟨same_upd nL6, upd_same⟩ (fun i H2 _ ⟨sm, _⟩ => SqT.of (sm _ _ upd_same)) ?_ ?_⟩
          · rintro i x H2 hx ⟨sm, e2⟩
            have hi : i < 2 := (List.getElem?_eq_some_iff.mp hx).1
            have hib : IB x := by
              have hm := List.mem_of_getElem? hx
              simp only [List.mem_cons, List.not_mem_nil, or_false] at hm
              rcases hm with rfl | rfl
              · exact ibaB
              · exact ibm
            obtain ⟨ty, h1, h2⟩ := hib.ty (K := K) (H := H2)
            refine ⟨rfl, ?_⟩
            refine ⟨x, rfl, _, _, _, _, isB x, rfl, ClsV.ty _, h1, h2, ?_⟩
            refine ⟨_, e2, sz_lt (by rw [List.length_map, List.length_take]; omega), fun b o' hb => ?_, ?_⟩
            · rw [upd_ne (ne_of_none hb nL6)]
              exact sm _ _ hb
            · rw [upd_same, List.take_add_one, List.getElem?_map, hx, List.map_append]
              rfl
          · rintro H2 ⟨sm, e2⟩
            have e2' : H2 L6 = some (.lst (([xa, xm].map isB).map V.bl)) := e2
            have sC : Same HB H2 := (same_upd ntp).trans sm
            have fin : ∀ g : Bool, (g = true ↔ ∃ i k : Int, xa = .int i ∧ xm = .int k ∧ 1 ≤ k) → ∃ g' : Bool, (g' = true ↔ ∃ i k : Int, xa = .int i ∧ xm = .int k ∧ 1 ≤ k) ∧ ([some (.ref a), some (.ref d), some (.int (0 + (i_ : Int))), some (.bl g), y4, y5, some xa, some xm, some (.ref t), y9, y10, y11] : List (Option V)) = [some (.ref a), some (.ref d), some (.int (0 + (i_ : Int))), some (.bl g'), y4, y5, some xa, some xm, some (.ref t), y9, y10, y11] ∧ Draw H2 d l ∧ LamX.Tabs (lamT Pt) H2 ∧ H2 t = some (tup4 o p m f) := fun g hg => ⟨g, hg, rfl, DB.same sC, TB'.ext sC, sC _ _ eB⟩
            refine ⟨L6, _, rfl, SqL.of e2', _, rfl, _, rfl, ?_⟩
            rcases id iba with ⟨i, rfl, hi1, hi2⟩ | ⟨b, rfl⟩
            · rcases id ibm with ⟨k, rfl, hk⟩ | ⟨b, rfl⟩
              · refine ⟨.int k, rfl, k, 1, rfl, rfl, fin _ ⟨fun h => ⟨i, k, rfl, rfl, of_decide_eq_true h⟩, fun ⟨i', k', e1, e2, h⟩ => ?_⟩⟩
                cases e2
                exact decide_eq_true h
              · exact fin false ⟨fun h => (by cases h), fun ⟨i', k', e1, e2, h⟩ => (by cases e2)⟩
            · exact fin false ⟨fun h => (by cases h), fun ⟨i', k', e1, e2, h⟩ => (by cases e1)⟩
        · rintro σ HC ⟨g1, hg1, rfl, DC, TC, eC⟩
          -- good, the second row
          refine ⟨fun σ H' => ∃ g : Bool, (g = true ↔ goodPart o m xa xm) ∧ σ = [some (.ref a), some (.ref d), some (.int (0 + (i_ : Int))), some (.bl g), y4, y5, some xa, some xm, some (.ref t), y9, y10, y11] ∧ H' = HC, ?_, ?_⟩
          · refine ⟨.bl g1, rfl, g1, rfl, ?_⟩
            refine ite2 (fun h => ?_) (fun h => ?_)
            · obtain ⟨i, k, rfl, rfl, hk⟩ := hg1.mp h
              refine ⟨.ref t, rfl, t, _, 0, .int o, rfl, rfl, SqT.of eC, at4_0, .int i, rfl, o, i, rfl, rfl, _, rfl, ?_⟩
              refine ite2 (fun h2 => ?_) (fun h2 => ?_)
              · have h2' : o ≤ i := of_decide_eq_true h2
                refine ⟨.int i, rfl, .int k, rfl, i, k, rfl, rfl, .ref t, rfl, t, _, 0, .int o, rfl, rfl, SqT.of eC, at4_0, .ref t, rfl, t, _, 2, .int m, rfl, rfl, SqT.of eC, at4_2, o, m, rfl, rfl, _, _, rfl, rfl, _, ⟨fun h3 => ⟨i, k, rfl, rfl, hk, h2', of_decide_eq_true h3⟩, fun ⟨i', k', e1, e2, h4⟩ => ?_⟩, rfl, rfl⟩
                cases e1
                cases e2
                exact decide_eq_true h4.2.2
              · refine ⟨false, ⟨fun h3 => (by cases h3), fun ⟨i', k', e1, e2, h4⟩ => ?_⟩, ?_, rfl⟩
                · cases e1
                  exact absurd (decide_eq_true h4.2.1) h2
                · rfl
            · have hg : g1 = false := Bool.eq_false_iff.mpr h
              subst hg
              exact ⟨false, ⟨fun h3 => (by cases h3), fun ⟨i', k', e1, e2, h4⟩ => hg1.mpr ⟨i', k', e1, e2, h4.1⟩⟩, rfl, rfl⟩
          · rintro σ H' ⟨g, hg, rfl, rfl⟩
            -- told
            refine ⟨Nat.zero_le _, fun r nr => ?_⟩
            have sD := same_upd (H := H') (o := .lst []) nr
            have DD := DC.same sD
            have eD := sD _ _ eC
            have rD : (upd H' r (.lst [])) r = some (.lst []) := upd_same
            have ner : d ≠ r ∧ l ≠ r := by
              obtain ⟨_, _, _, _, W⟩ := DC
              exact ⟨ne_of_none W.at_d nr, ne_of_none W.at_l nr⟩
            -- why
            refine ⟨TC.ext sD, fun HE eN TE t0 n0 R hR => ?_⟩
            have DE := draw_extN DD eN
            have eE : HE t = some (tup4 o p m f) := eN _ _ eD (fun _ q => by cases q)
            have rE : HE r = some (.lst []) := eN _ _ rD (fun _ q => by cases q)
            have s0 := same_upd (H := HE) (o := .tup [.str "", .non]) n0
            obtain ⟨dxa, rxa⟩ : ∃ dx : PyData, ∀ (H : Hp) (n : Nat), Rp H n xa dx := by
              rcases id iba with ⟨i, rfl, _⟩ | ⟨b, rfl⟩
              · exact ⟨_, fun H n => .int n i⟩
              · exact ⟨_, fun H n => .bl n b⟩
            obtain ⟨dxm, rxm⟩ : ∃ dx : PyData, ∀ (H : Hp) (n : Nat), Rp H n xm dx := by
              rcases id ibm with ⟨i, rfl, _⟩ | ⟨b, rfl⟩
              · exact ⟨_, fun H n => .int n i⟩
              · exact ⟨_, fun H n => .bl n b⟩
            refine ⟨.ref r, rfl, .inl ⟨rfl, _, SqL.of (s0 _ _ rE)⟩, .ref t, rfl, xa, rfl, xm, rfl, t, o, p, m, f, xa, xm, rfl, s0 _ _ eE, hf, ibaB.fv, ibm.fv, fun i k ei ek h1 h2 h3 u nu => ?_, fun hbad HF dd sF ndd eF => ?_⟩
            · -- a part
              subst ei
              subst ek
              have hgt : g = true := hg.mpr ⟨i, k, rfl, rfl, h1, h2, h3⟩
              subst hgt
              have su := same_upd (H := upd HE t0 (.tup [.str "", .non])) (o := tup4 i (partP o p m f i k) k f) nu
              refine ⟨r, [], _, rfl, rfl, su _ _ (s0 _ _ rE), by decide, hR _ _ ?_⟩
              have ntr : t ≠ r := ne_of eE rE (fun z => by cases z)
              have n0r : t0 ≠ r := (ne_of_none rE n0).symm
              have nur : u ≠ r := (ne_of_none (s0 _ _ rE) nu).symm
              have D0 : Draw (upd (upd (upd HE t0 (.tup [.str "", .non])) u (tup4 i (partP o p m f i k) k f)) r (.lst ([] ++ [.ref u]))) d l := draw_upd ((DE.same s0).same su) ner.1 ner.2
              have TF : LamX.Tabs (lamT Pt) (upd (upd (upd HE t0 (.tup [.str "", .non])) u (tup4 i (partP o p m f i k) k f)) r (.lst ([] ++ [.ref u]))) := tabs_keepU ((TE.ext s0).ext su) (su _ _ (s0 _ _ rE))
              have eF : (upd (upd (upd HE t0 (.tup [.str "", .non])) u (tup4 i (partP o p m f i k) k f)) r (.lst ([] ++ [.ref u]))) t = some (tup4 o p m f) := by rw [upd_ne ntr]; exact su _ _ (s0 _ _ eE)
              have uF : (upd (upd (upd HE t0 (.tup [.str "", .non])) u (tup4 i (partP o p m f i k) k f)) r (.lst ([] ++ [.ref u]))) u = some (tup4 i (partP o p m f i k) k f) := by rw [upd_ne nur]; exact upd_same
              have rF : (upd (upd (upd HE t0 (.tup [.str "", .non])) u (tup4 i (partP o p m f i k) k f)) r (.lst ([] ++ [.ref u]))) r = some (.lst [.ref u]) := upd_same
              have zF : (upd (upd (upd HE t0 (.tup [.str "", .non])) u (tup4 i (partP o p m f i k) k f)) r (.lst ([] ++ [.ref u]))) t0 = some (.tup [.str "", .non]) := by rw [upd_ne n0r]; exact su _ _ upd_same
              generalize upd (upd (upd HE t0 (.tup [.str "", .non])) u (tup4 i (partP o p m f i k) k f)) r (.lst ([] ++ [.ref u])) = HF at *
              refine ⟨.ref t0, rfl, .bl true, rfl, true, rfl, iteT ?_⟩
              refine ⟨by show 2 ≤ sizeLine; decide, fun t2 n2' => ?_⟩
              refine ⟨.ref t0, .ref t2, .tuple [.str "", .none], rfl, .tup (same_upd n2' _ _ zF) (by show 2 ≤ 100000; decide) (.cons (.str _ _) (.cons (.non _) (.nil _))), .tup upd_same (by show 2 ≤ 100000; decide) (.cons (.str _ _) (.cons (.non _) (.nil _))), fun HG sG => ⟨true, rfl, iteF ?_⟩⟩
              have sFG : Same HF HG := (same_upd n2').trans sG
              have eG := sFG _ _ eF
              have uG := sFG _ _ uF
              have rG := sFG _ _ rF
              refine ⟨.bl true, rfl, true, rfl, iteT ?_⟩
              obtain ⟨mn, rfl⟩ : ∃ mn : Nat, m = (mn : Int) := ⟨m.toNat, by omega⟩
              obtain ⟨kn, rfl⟩ : ∃ kn : Nat, k = (kn : Int) := ⟨k.toNat, by omega⟩
              -- due
              refine ⟨.ref t, rfl, t, o, p, f, mn, rfl, eG, by omega, fun H9 r9 ps9 s9 nr9 e9 pr9 => ?_⟩
              have hpl := pr9.length
              rw [endL_length] at hpl
              refine ⟨r9, rfl, ⟨_, SqL.of e9⟩, fun L nL => lc_list (K := K) (a := r9) (xs := ps9.map V.ref) (fun j HA => ∃ qs : List Addr, Same H9 HA ∧ HA L = some (.lst (qs.map V.ref)) ∧ Prs HA qs (((endL o p mn f mn).take j).filter (within i kn)))
                ⟨[], same_upd nL, upd_same, .nil⟩ (fun j HA _ ⟨_, sB, _⟩ => SqL.of (sB _ _ e9)) ?_ ?_⟩
              · rintro j y HA hy ⟨qs, sB, eA, prA⟩
                have hil : j < (ps9.map V.ref).length := (List.getElem?_eq_some_iff.mp hy).1
                rw [List.length_map] at hil
                obtain ⟨x, hx⟩ : ∃ x, (endL o p mn f mn)[j]? = some x := ⟨_, List.getElem?_eq_getElem (by rw [endL_length]; omega)⟩
                obtain ⟨c', hb1, hb2⟩ := pr9.get j x hx
                have ey : y = .ref c' := by
                  rw [List.getElem?_map, hb1] at hy
                  exact (Option.some.inj hy).symm
                subst ey
                have hlen2 := prA.length
                have hlen3 := List.length_filter_le (within i kn) ((endL o p mn f mn).take j)
                rw [List.length_take, endL_length] at hlen3
                have hc : HA c' = some (.tup [.int x.1, .int x.2]) := sB _ _ hb2
                refine ⟨rfl, .int i, rfl, .ref c', rfl, c', _, 0, .int x.1, rfl, rfl, SqT.of hc, atI_nat (j := 0) rfl, i, x.1, rfl, rfl, _, rfl, ?_⟩
                refine ite2 (fun h => ?_) (fun h => ?_)
                · refine ⟨.int i, rfl, .int (kn : Int), rfl, i, _, rfl, rfl, x.1, _, rfl, rfl, _, rfl, ?_⟩
                  refine ite2 (fun h' => ?_) (fun h' => ?_)
                  · have hb : within i kn x = true := decide_eq_true ⟨of_decide_eq_true h, of_decide_eq_true h'⟩
                    refine ⟨.ref c', rfl, qs.map V.ref, eA, sz_lt (by rw [List.length_map]; omega), qs ++ [c'], fun b' o' hb' => ?_, by rw [upd_same, List.map_append]; rfl, ?_⟩
                    · rw [upd_ne (ne_of_none hb' nL)]
                      exact sB _ _ hb'
                    · rw [List.take_add_one, hx, List.filter_append, show ((some x).toList.filter (within i kn)) = [x] by show [x].filter _ = [x]; rw [List.filter_cons_of_pos hb, List.filter_nil]]
                      exact Prs.grow (o := .lst []) prA eA hc
                  · have hb : within i kn x = false := decide_eq_false (fun z => h' (decide_eq_true z.2))
                    refine ⟨qs, sB, eA, ?_⟩
                    rw [List.take_add_one, hx, List.filter_append, show ((some x).toList.filter (within i kn)) = [] by show [x].filter _ = []; rw [List.filter_cons_of_neg (by rw [hb]; exact Bool.false_ne_true), List.filter_nil], List.append_nil]
                    exact prA
                · have hb : within i kn x = false := decide_eq_false (fun z => h (decide_eq_true z.1))
                  refine ⟨_, rfl, ite2 (fun h' => absurd h' (by decide)) (fun _ => ?_)⟩
                  refine ⟨qs, sB, eA, ?_⟩
                  rw [List.take_add_one, hx, List.filter_append, show ((some x).toList.filter (within i kn)) = [] by show [x].filter _ = []; rw [List.filter_cons_of_neg (by rw [hb]; exact Bool.false_ne_true), List.filter_nil], List.append_nil]
                  exact prA
              · rintro HA ⟨qs, sB, eA, prA⟩
                rw [List.length_map, hpl, List.take_of_length_le (by rw [endL_length]; exact Nat.le_refl _), within_is h2 h3] at prA
                have sH : Same HG HA := s9.trans sB
                have tA := sH _ _ eG
                have uA := sH _ _ uG
                have rA := sH _ _ rG
                have uA' : HA u = some (.tup [.int i, .int (partP o p mn f i kn), .int (kn : Int), .int f]) := uA
                have hql := prA.length
                rw [endL_length] at hql
                -- isinstance(told[0], tuple)
                refine ⟨.ref r, rfl, r, _, 0, .ref u, rfl, rfl, SqL.of rA, atI_nat (j := 0) rfl, _, _, _, _, true, rfl, ClsV.ty _, TyX.base (TyOf.tup uA'), kit_ty (by decide +kernel), _, rfl, ?_⟩
                refine iteF ?_
                -- like(ends(told[0]), due)
                refine ⟨.ref r, rfl, r, _, 0, .ref u, rfl, rfl, SqL.of rA, atI_nat (j := 0) rfl, u, i, partP o p mn f i kn, f, kn, rfl, uA, by omega, fun HI r4 ps4 sI nr4 e4' pr4 => ?_⟩
                have hpl4 := pr4.length
                rw [endL_length] at hpl4
                refine ⟨.ref L, rfl, .ref r4, .ref L, .list ((endL i (partP o p mn f i kn) kn f kn).map pd), rfl, .lst e4' (by rw [List.length_map]; omega) (pr4.rpd 0), .lst (sI _ _ eA) (by rw [List.length_map]; omega) ((prA.same sI).rpd 0), fun HJ sJ => ⟨true, rfl, iteF ?_⟩⟩
                have sK : Same HF HJ := ((sFG.trans sH).trans sI).trans sJ
                have uJ' : HJ u = some (.tup [.int i, .int (partP o p mn f i kn), .int (kn : Int), .int f]) := sK _ _ uF
                refine ⟨.ref r, rfl, r, _, 0, .ref u, rfl, rfl, SqL.of (sK _ _ rF), atI_nat (j := 0) rfl, u, _, 3, .int f, rfl, rfl, SqT.of uJ', at4_3, .ref t, rfl, t, _, 3, .int f, rfl, rfl, SqT.of (sK _ _ eF), at4_3, rfl, _, rfl, ?_⟩
                rw [decide_eq_true (show V.int f = V.int f from rfl)]
                refine iteF ?_
                exact ⟨_, _, _, _, _, _, _, _, _, _, rfl, D0.same sK, TF.ext sK⟩
            · -- none
              have hgf : g = false := by
                cases e : g with
                | false => rfl
                | true => exact absurd (hg.mp e) hbad
              subst hgf
              refine ⟨dd, bsF xa xm, rfl, rfl, eF, ⟨xa, xm, rfl⟩, fun HG t1 v sG hv e1 => ?_⟩
              obtain ⟨x', y', r', exy, rfl, er'⟩ := hv
              obtain ⟨rfl, rfl⟩ : x' = xa ∧ y' = xm := by
                unfold bsF at exy
                simp only [List.cons.injEq, Prod.mk.injEq, true_and, and_true] at exy
                exact ⟨exy.2.symm, exy.1.symm⟩
              refine ⟨.ref t1, rfl, .bl false, rfl, false, rfl, iteF ?_⟩
              refine ⟨x', rfl, y', rfl, by show 2 ≤ sizeLine; decide, fun t2 n2' => ⟨by show 2 ≤ sizeLine; decide, fun t3 n3' => ?_⟩⟩
              have s3 : Same HG (upd (upd HG t2 (.tup [x', y'])) t3 (.tup [.str "BadStretch", .ref t2])) := (same_upd n2').trans (same_upd n3')
              refine ⟨.ref t1, .ref t3, .tuple [.str "BadStretch", .tuple [dxa, dxm]], rfl, .tup (s3 _ _ e1) (by show 2 ≤ 100000; decide) (.cons (.str _ _) (.cons (.tup (s3 _ _ er') (by show 2 ≤ 100000; decide) (.cons (rxa _ _) (.cons (rxm _ _) (.nil _)))) (.nil _))), .tup upd_same (by show 2 ≤ 100000; decide) (.cons (.str _ _) (.cons (.tup (same_upd n3' _ _ upd_same) (by show 2 ≤ 100000; decide) (.cons (rxa _ _) (.cons (rxm _ _) (.nil _)))) (.nil _))), fun H9 s9 => ⟨true, rfl, iteF ?_⟩⟩
              refine ⟨.bl false, rfl, false, rfl, iteF ?_⟩
              have sZ := ((s0.trans sF).trans (sG.trans s3)).trans s9
              exact ⟨_, _, _, _, _, _, _, _, _, _, rfl, DE.same sZ, TE.ext sZ⟩
    · rintro σ H4 ⟨y2, y3, y4, y5, y6, y7, y8, y9, y10, y11, rfl, D4, _⟩
      exact q H4
end

/-! ### what the top says of FarError and of an own error -/
section
variable {K : PySem.W.Frag}
theorem far_fun {f T : Addr} {oc kV doc pm cdv ct ocT : Value} {od an odT : Option Addr} {osl slT : Array (Option Value)} {tk : Tok} {nT : Nat}
    (l : K.lookup f = some ⟨oc, od, .func (PySem.W.fnOf "__init__" "FarError.__init__" (defArgs s_farinit) (defBody s_farinit) (defScope s_farinit) (.ref T) kV doc pm an cdv ct), osl⟩) (c : PySem.W.codeIn K cdv "FarError.__init__" = true) (k : PySem.W.keepIn K (.ref f) = true)
    (lT : K.lookup T = some ⟨ocT, odT, .seq #[.str "" tk] nT, slT⟩) : FunD K "__init__" "FarError.__init__" (defArgs s_farinit) (defBody s_farinit) (defScope s_farinit) [.str ""] [] f (PySem.W.fnOf "__init__" "FarError.__init__" (defArgs s_farinit) (defBody s_farinit) (defScope s_farinit) (.ref T) kV doc pm an cdv ct) :=
  ⟨⟨oc, od, .ref T, kV, doc, pm, an, cdv, ct, osl, rfl, l, c, .inr ⟨by simp, T, _, [.str "" tk], nT, rfl, lT, rfl, .cons ⟨tk, rfl⟩ .nil⟩, .inl rfl⟩, k⟩
theorem far_binds {f : Addr} {fd : FuncData} (F : FunD K "__init__" "FarError.__init__" (defArgs s_farinit) (defBody s_farinit) (defScope s_farinit) [.str ""] [] f fd) : Binds K fd N_farinit [] := by
  obtain ⟨ds, v, b⟩ := F.binds1 (ps := N_farinit) 2 1 (by simp) rfl fun T kV doc pm an cdv ct us its hu hi => match us, hu, its, hi with | [_, _], _, [_], _ => ⟨_, rfl, rfl⟩
  cases v
  exact b
theorem exm_sub {C S : Addr} (h1 : PySem.W.subIn K (.ref S) (.type "BaseException") = some true) (h2 : PySem.W.isClsIn K S = true) (h3 : PySem.W.typeIn K (.ref S) = some (.type "type")) (h4 : PySem.W.subIn K (.ref C) (.ref S) = some true) : PySem.W.exmOne K (.ref C) (.ref S) = some true := by
  have e1 : (PySem.W.subIn K (.ref S) (.type "BaseException") == some true) = true := by rw [h1] <;> rfl
  have e2 : ((PySem.W.clsIn K S).isSome && PySem.W.typeIn K (.ref S) == some (.type "type")) = true := by
    have q : (PySem.W.clsIn K S).isSome = true := h2
    rw [q, h3] <;> rfl
  show (if _ = true then (if ((PySem.W.clsIn K S).isSome && PySem.W.typeIn K (.ref S) == some (.type "type")) = true then PySem.W.subIn K (.ref C) (.ref S) else none) else none) = some true
  rw [if_pos e1, if_pos e2, h4]
end
theorem all_mk {l : PySem.W.OpenLaw} {w : World} {K : PySem.W.Frag} {h : Heap} {mg : Str → Option Value} {fa c Pt C_FarError f_FarError T_FarError f0 f1 f2 f3 f4 f5 f6 f7 f8 f9 f10 f11 C_BadStretch f_BadStretch C_BadNumber C_NoMating C_NoFamily C_TooMuch C_BadName C_Taken C_NoRoad C_BadMating C_BadPlace : Addr} (X : K.In h) (G : h.Ns mainGlobals mg) (hfa : mg "law" = some (.ref fa)) (hT : ∀ P ∈ [Pt], h.get? P = some (PySem.W.tabObj #[]))
    {od0 an0 od1 an1 od2 an2 od3 an3 od4 an4 od5 an5 od6 an6 od7 an7 od8 an8 od9 an9 od10 an10 od11 an11 odF anF odT od_BadStretch an_BadStretch dd_BadStretch : Option Addr} {sl0 sl1 sl2 sl3 sl4 sl5 sl6 sl7 sl8 sl9 sl10 sl11 slF slT sl_BadStretch : Array (Option Value)} {oc0 kV0 dc0 pm0 ct0 cd0 oc1 kV1 dc1 pm1 ct1 cd1 oc2 kV2 dc2 pm2 ct2 cd2 oc3 kV3 dc3 pm3 ct3 cd3 oc4 kV4 dc4 pm4 ct4 cd4 oc5 kV5 dc5 pm5 ct5 cd5 oc6 kV6 dc6 pm6 ct6 cd6 oc7 kV7 dc7 pm7 ct7 cd7 oc8 kV8 dc8 pm8 ct8 cd8 oc9 kV9 dc9 pm9 ct9 cd9 oc10 kV10 dc10 pm10 ct10 cd10 oc11 kV11 dc11 pm11 ct11 ocF kVF dcF pmF cdF ctF ocT oc_BadStretch kV_BadStretch dc_BadStretch pm_BadStretch cd_BadStretch ct_BadStretch : Value} {tkF  : Tok} {nT : Nat}
    {nm_BadStretch q_BadStretch : Str} {N_BadStretch_ : Addr} {bs_BadStretch : List Value} {sn_BadStretch : List Str} {sub_BadStretch : List Value} {ab_BadStretch : Bool} {col_BadStretch : Option Bool} {m0_BadStretch m1_BadStretch m2_BadStretch m3_BadStretch m5_BadStretch : Option Value}
    (a0 : PySem.W.nsIn K mainGlobals "_law_open" = some (some (.ref f0))) (l0 : K.lookup f0 = some ⟨oc0, od0, .func (PySem.W.fnOf "_law_open" "_law_open" (defArgs s_open) (defBody s_open) (defScope s_open) .none kV0 dc0 pm0 an0 cd0 ct0), sl0⟩) (c0 : PySem.W.codeIn K cd0 "_law_open" = true) (k0 : PySem.W.keepIn K (.ref f0) = true)
    (a1 : PySem.W.nsIn K mainGlobals "_law_pull" = some (some (.ref f1))) (l1 : K.lookup f1 = some ⟨oc1, od1, .func (PySem.W.fnOf "_law_pull" "_law_pull" (defArgs s_pull) (defBody s_pull) (defScope s_pull) .none kV1 dc1 pm1 an1 cd1 ct1), sl1⟩) (c1 : PySem.W.codeIn K cd1 "_law_pull" = true) (k1 : PySem.W.keepIn K (.ref f1) = true)
    (a2 : PySem.W.nsIn K mainGlobals "_law_like" = some (some (.ref f2))) (l2 : K.lookup f2 = some ⟨oc2, od2, .func (PySem.W.fnOf "_law_like" "_law_like" (defArgs s_like) (defBody s_like) (defScope s_like) .none kV2 dc2 pm2 an2 cd2 ct2), sl2⟩) (c2 : PySem.W.codeIn K cd2 "_law_like" = true) (k2 : PySem.W.keepIn K (.ref f2) = true)
    (a3 : PySem.W.nsIn K mainGlobals "_law_mating" = some (some (.ref f3))) (l3 : K.lookup f3 = some ⟨oc3, od3, .func (PySem.W.fnOf "_law_mating" "_law_mating" (defArgs s_mating) (defBody s_mating) (defScope s_mating) .none kV3 dc3 pm3 an3 cd3 ct3), sl3⟩) (c3 : PySem.W.codeIn K cd3 "_law_mating" = true) (k3 : PySem.W.keepIn K (.ref f3) = true)
    (a4 : PySem.W.nsIn K mainGlobals "_law_ends" = some (some (.ref f4))) (l4 : K.lookup f4 = some ⟨oc4, od4, .func (PySem.W.fnOf "_law_ends" "_law_ends" (defArgs s_ends) (defBody s_ends) (defScope s_ends) .none kV4 dc4 pm4 an4 cd4 ct4), sl4⟩) (c4 : PySem.W.codeIn K cd4 "_law_ends" = true) (k4 : PySem.W.keepIn K (.ref f4) = true)
    (a5 : PySem.W.nsIn K mainGlobals "_law_scaled" = some (some (.ref f5))) (l5 : K.lookup f5 = some ⟨oc5, od5, .func (PySem.W.fnOf "_law_scaled" "_law_scaled" (defArgs s_scaled) (defBody s_scaled) (defScope s_scaled) .none kV5 dc5 pm5 an5 cd5 ct5), sl5⟩) (c5 : PySem.W.codeIn K cd5 "_law_scaled" = true) (k5 : PySem.W.keepIn K (.ref f5) = true)
    (a6 : PySem.W.nsIn K mainGlobals "part" = some (some (.ref f6))) (l6 : K.lookup f6 = some ⟨oc6, od6, .func (PySem.W.fnOf "part" "part" (defArgs s_part) (defBody s_part) (defScope s_part) .none kV6 dc6 pm6 an6 cd6 ct6), sl6⟩) (c6 : PySem.W.codeIn K cd6 "part" = true) (k6 : PySem.W.keepIn K (.ref f6) = true)
    (a7 : PySem.W.nsIn K mainGlobals "holds" = some (some (.ref f7))) (l7 : K.lookup f7 = some ⟨oc7, od7, .func (PySem.W.fnOf "holds" "holds" (defArgs s_holds) (defBody s_holds) (defScope s_holds) .none kV7 dc7 pm7 an7 cd7 ct7), sl7⟩) (c7 : PySem.W.codeIn K cd7 "holds" = true) (k7 : PySem.W.keepIn K (.ref f7) = true)
    (a8 : PySem.W.nsIn K mainGlobals "_law_part_far" = some (some (.ref f8))) (l8 : K.lookup f8 = some ⟨oc8, od8, .func (PySem.W.fnOf "_law_part_far" "_law_part_far" (defArgs s_part_far) (defBody s_part_far) (defScope s_part_far) .none kV8 dc8 pm8 an8 cd8 ct8), sl8⟩) (c8 : PySem.W.codeIn K cd8 "_law_part_far" = true) (k8 : PySem.W.keepIn K (.ref f8) = true)
    (a9 : PySem.W.nsIn K mainGlobals "_law_why" = some (some (.ref f9))) (l9 : K.lookup f9 = some ⟨oc9, od9, .func (PySem.W.fnOf "_law_why" "_law_why" (defArgs s_why) (defBody s_why) (defScope s_why) .none kV9 dc9 pm9 an9 cd9 ct9), sl9⟩) (c9 : PySem.W.codeIn K cd9 "_law_why" = true) (k9 : PySem.W.keepIn K (.ref f9) = true)
    (a10 : PySem.W.nsIn K mainGlobals "_law_fields" = some (some (.ref f10))) (l10 : K.lookup f10 = some ⟨oc10, od10, .func (PySem.W.fnOf "_law_fields" "_law_fields" (defArgs s_fields) (defBody s_fields) (defScope s_fields) .none kV10 dc10 pm10 an10 cd10 ct10), sl10⟩) (c10 : PySem.W.codeIn K cd10 "_law_fields" = true) (k10 : PySem.W.keepIn K (.ref f10) = true)
    (a11 : PySem.W.nsIn K mainGlobals "law" = some (some (.ref f11))) (l11 : K.lookup f11 = some ⟨oc11, od11, .func (PySem.W.fnOf "law" "law" (defArgs s_law) (defBody s_law) (defScope s_law) .none kV11 dc11 pm11 an11 (.ref c) ct11), sl11⟩) (c11 : PySem.W.codeIn K (.ref c) "law" = true) (k11 : PySem.W.keepIn K (.ref f11) = true)
    (z0 : PySem.W.nsIn K mainGlobals "len" = some none) (z1 : PySem.W.nsIn K mainGlobals "list" = some none) (z2 : PySem.W.nsIn K mainGlobals "tuple" = some none) (z3 : PySem.W.nsIn K mainGlobals "bool" = some none) (z4 : PySem.W.nsIn K mainGlobals "int" = some none) (z5 : PySem.W.nsIn K mainGlobals "str" = some none) (z6 : PySem.W.nsIn K mainGlobals "isinstance" = some none) (z7 : PySem.W.nsIn K mainGlobals "all" = some none) (z8 : PySem.W.nsIn K mainGlobals "any" = some none) (z9 : PySem.W.nsIn K mainGlobals "range" = some none) (z10 : PySem.W.nsIn K mainGlobals "max" = some none) (z11 : PySem.W.nsIn K mainGlobals "min" = some none) (z12 : PySem.W.nsIn K mainGlobals "dict" = some none) (z13 : PySem.W.nsIn K mainGlobals "sorted" = some none) (zV : PySem.W.nsIn K mainGlobals "ValueError" = some none)
    (hP : PySem.W.codeHdIn K c Pt = true) (nP : K.lookup Pt = none)
    (gF : PySem.W.nsIn K mainGlobals "FarError" = some (some (.ref C_FarError))) (fF1 : PySem.W.specialIn K (.ref C_FarError) "__getattribute__" = some (some (.builtin "type.__getattribute__"))) (fF2 : PySem.W.readsIn K C_FarError (.type "type") = true) (fF3 : PySem.W.findCls K (.ref C_FarError) (.type "type") "__init__" = some (.val (.ref f_FarError))) (fF4 : PySem.W.keepIn K (.ref f_FarError) = true) (fF5 : K.lookup f_FarError = some ⟨ocF, odF, .func (PySem.W.fnOf "__init__" "FarError.__init__" (defArgs s_farinit) (defBody s_farinit) (defScope s_farinit) (.ref T_FarError) kVF dcF pmF anF cdF ctF), slF⟩) (fF6 : PySem.W.codeIn K cdF "FarError.__init__" = true) (fF7 : K.lookup T_FarError = some ⟨ocT, odT, .seq #[.str "" tkF] nT, slT⟩) (fF9 : PySem.W.subIn K (.ref C_FarError) (.type "BaseException") = some true) (fF10 : PySem.W.isClsIn K C_FarError = true) (fF11 : PySem.W.typeIn K (.ref C_FarError) = some (.type "type")) (fF8 : PySem.W.findCls K (.type "ValueError") (.type "type") "__init__" = some (.val (.builtin "ValueError.__init__")))
    (g_BadStretch : PySem.W.nsIn K mainGlobals "BadStretch" = some (some (.ref C_BadStretch))) (x_BadStretch : K.lookup C_BadStretch = some (excClassObj nm_BadStretch q_BadStretch C_BadStretch N_BadStretch_ bs_BadStretch [.ref C_FarError, .type "ValueError", .type "Exception", .type "BaseException", .type "object"] true sn_BadStretch sub_BadStretch ab_BadStretch col_BadStretch dd_BadStretch m0_BadStretch m1_BadStretch m2_BadStretch m3_BadStretch m5_BadStretch "ValueError.__new__")) (sa_BadStretch : PySem.W.findIn K (.ref C_BadStretch) "__setattr__" = some (some (.builtin "object.__setattr__"))) (ex_BadStretch : PySem.W.subIn K (.ref C_BadStretch) (.type "BaseException") = some true) (ty_BadStretch : PySem.W.typeIn K (.ref C_BadStretch) = some (.type "type")) (kp_BadStretch : PySem.W.keepIn K (.ref C_BadStretch) = true) (ga_BadStretch : PySem.W.findIn K (.ref C_BadStretch) "__getattribute__" = some (some (.builtin "BaseException.__getattribute__"))) (gg_BadStretch : PySem.W.findIn K (.ref C_BadStretch) "__getattr__" = some none) (hd_BadStretch : PySem.W.hasDictIn K C_BadStretch = true) (ha_BadStretch : PySem.W.findIn K (.ref C_BadStretch) "__class__" = some (some (.builtin "object.__class__"))) (hn_BadStretch : PySem.W.specialIn K (.builtin "object.__class__") "__get__" = some (some (.builtin "getset_descriptor.__get__"))) (ht_BadStretch : PySem.W.takesIn K (.builtin "object.__class__") = some true) (hm_BadStretch : PySem.W.mroIn K C_BadStretch (.type "object") = some true) (w_BadStretch : PySem.W.findIn K (.ref C_BadStretch) "word" = some none) (n_BadStretch_at : PySem.W.findIn K (.ref C_BadStretch) "at" = some none) (n_BadStretch_many : PySem.W.findIn K (.ref C_BadStretch) "many" = some none) (i_BadStretch : PySem.W.findIn K (.ref C_BadStretch) "__init__" = some (some (.ref f_BadStretch))) (t_BadStretch : PySem.W.typeIn K (.ref f_BadStretch) = some (.type "function")) (m_BadStretch : PySem.W.subIn K (.ref C_BadStretch) (.ref C_FarError) = some true) (l_BadStretch : K.lookup f_BadStretch = some ⟨oc_BadStretch, od_BadStretch, .func (PySem.W.fnOf "__init__" "BadStretch.__init__" (defArgs s_bsinit) (defBody s_bsinit) (defScope s_bsinit) .none kV_BadStretch dc_BadStretch pm_BadStretch an_BadStretch cd_BadStretch ct_BadStretch), sl_BadStretch⟩) (c_BadStretch : PySem.W.codeIn K cd_BadStretch "BadStretch.__init__" = true) (k_BadStretch : PySem.W.keepIn K (.ref f_BadStretch) = true)
    (g_BadNumber : PySem.W.nsIn K mainGlobals "BadNumber" = some (some (.ref C_BadNumber))) (g_NoMating : PySem.W.nsIn K mainGlobals "NoMating" = some (some (.ref C_NoMating))) (g_NoFamily : PySem.W.nsIn K mainGlobals "NoFamily" = some (some (.ref C_NoFamily))) (g_TooMuch : PySem.W.nsIn K mainGlobals "TooMuch" = some (some (.ref C_TooMuch))) (g_BadName : PySem.W.nsIn K mainGlobals "BadName" = some (some (.ref C_BadName))) (g_Taken : PySem.W.nsIn K mainGlobals "Taken" = some (some (.ref C_Taken))) (g_NoRoad : PySem.W.nsIn K mainGlobals "NoRoad" = some (some (.ref C_NoRoad))) (g_BadMating : PySem.W.nsIn K mainGlobals "BadMating" = some (some (.ref C_BadMating))) (g_BadPlace : PySem.W.nsIn K mainGlobals "BadPlace" = some (some (.ref C_BadPlace)))
    (self_BadStretch : PySem.W.subIn K (.ref C_BadStretch) (.ref C_BadStretch) = some true) (ns_BadNumber : PySem.W.subIn K (.ref C_BadStretch) (.ref C_BadNumber) = some false) (nc_BadNumber : PySem.W.isClsIn K C_BadNumber = true) (nt_BadNumber : PySem.W.typeIn K (.ref C_BadNumber) = some (.type "type")) (ns_NoMating : PySem.W.subIn K (.ref C_BadStretch) (.ref C_NoMating) = some false) (nc_NoMating : PySem.W.isClsIn K C_NoMating = true) (nt_NoMating : PySem.W.typeIn K (.ref C_NoMating) = some (.type "type")) (ns_NoFamily : PySem.W.subIn K (.ref C_BadStretch) (.ref C_NoFamily) = some false) (nc_NoFamily : PySem.W.isClsIn K C_NoFamily = true) (nt_NoFamily : PySem.W.typeIn K (.ref C_NoFamily) = some (.type "type")) (ns_TooMuch : PySem.W.subIn K (.ref C_BadStretch) (.ref C_TooMuch) = some false) (nc_TooMuch : PySem.W.isClsIn K C_TooMuch = true) (nt_TooMuch : PySem.W.typeIn K (.ref C_TooMuch) = some (.type "type")) (ns_BadName : PySem.W.subIn K (.ref C_BadStretch) (.ref C_BadName) = some false) (nc_BadName : PySem.W.isClsIn K C_BadName = true) (nt_BadName : PySem.W.typeIn K (.ref C_BadName) = some (.type "type")) (ns_Taken : PySem.W.subIn K (.ref C_BadStretch) (.ref C_Taken) = some false) (nc_Taken : PySem.W.isClsIn K C_Taken = true) (nt_Taken : PySem.W.typeIn K (.ref C_Taken) = some (.type "type")) (ns_NoRoad : PySem.W.subIn K (.ref C_BadStretch) (.ref C_NoRoad) = some false) (nc_NoRoad : PySem.W.isClsIn K C_NoRoad = true) (nt_NoRoad : PySem.W.typeIn K (.ref C_NoRoad) = some (.type "type")) (ns_BadMating : PySem.W.subIn K (.ref C_BadStretch) (.ref C_BadMating) = some false) (nc_BadMating : PySem.W.isClsIn K C_BadMating = true) (nt_BadMating : PySem.W.typeIn K (.ref C_BadMating) = some (.type "type")) (ns_BadPlace : PySem.W.subIn K (.ref C_BadStretch) (.ref C_BadPlace) = some false) (nc_BadPlace : PySem.W.isClsIn K C_BadPlace = true) (nt_BadPlace : PySem.W.typeIn K (.ref C_BadPlace) = some (.type "type"))
     :
    LamX.LawAtS l w K CX0 9 63 "_law_script" mg fa h := by
  have e := hfa.symm.trans (PySem.W.mg_of X G a11)
  cases e
  have B : Bn mg := ⟨PySem.W.mg_none_of X G z0, PySem.W.mg_none_of X G z1, PySem.W.mg_none_of X G z2, PySem.W.mg_none_of X G z3, PySem.W.mg_none_of X G z4, PySem.W.mg_none_of X G z5, PySem.W.mg_none_of X G z6, PySem.W.mg_none_of X G z7, PySem.W.mg_none_of X G z8, PySem.W.mg_none_of X G z9, PySem.W.mg_none_of X G z10, PySem.W.mg_none_of X G z11, PySem.W.mg_none_of X G z12, PySem.W.mg_none_of X G z13⟩
  have F0 := fun_mk (st := s_open) l0 c0 k0
  have D_open : DefAt K mg "_law_open" s_open P_open _ _ := ⟨F0, F0.binds (ps := P_open) fun _ _ _ _ _ _ us hl => match us, hl with | [_], _ => rfl, PySem.W.mg_of X G a0⟩
  have F1 := fun_mk (st := s_pull) l1 c1 k1
  have D_pull : DefAt K mg "_law_pull" s_pull P_pull _ _ := ⟨F1, F1.binds (ps := P_pull) fun _ _ _ _ _ _ us hl => match us, hl with | [_, _], _ => rfl, PySem.W.mg_of X G a1⟩
  have F2 := fun_mk (st := s_like) l2 c2 k2
  have D_like : DefAt K mg "_law_like" s_like P_like _ _ := ⟨F2, F2.binds (ps := P_like) fun _ _ _ _ _ _ us hl => match us, hl with | [_, _], _ => rfl, PySem.W.mg_of X G a2⟩
  have F3 := fun_mk (st := s_mating) l3 c3 k3
  have D_mating : DefAt K mg "_law_mating" s_mating P_mating _ _ := ⟨F3, F3.binds (ps := P_mating) fun _ _ _ _ _ _ us hl => match us, hl with | [_, _], _ => rfl, PySem.W.mg_of X G a3⟩
  have F4 := fun_mk (st := s_ends) l4 c4 k4
  have D_ends : DefAt K mg "_law_ends" s_ends P_ends _ _ := ⟨F4, F4.binds (ps := P_ends) fun _ _ _ _ _ _ us hl => match us, hl with | [_], _ => rfl, PySem.W.mg_of X G a4⟩
  have F5 := fun_mk (st := s_scaled) l5 c5 k5
  have D_scaled : DefAt K mg "_law_scaled" s_scaled P_scaled _ _ := ⟨F5, F5.binds (ps := P_scaled) fun _ _ _ _ _ _ us hl => match us, hl with | [_, _], _ => rfl, PySem.W.mg_of X G a5⟩
  have F6 := fun_mk (st := s_part) l6 c6 k6
  have D_part : DefAt K mg "part" s_part P_part _ _ := ⟨F6, F6.binds (ps := P_part) fun _ _ _ _ _ _ us hl => match us, hl with | [_, _, _], _ => rfl, PySem.W.mg_of X G a6⟩
  have F7 := fun_mk (st := s_holds) l7 c7 k7
  have D_holds : DefAt K mg "holds" s_holds P_holds _ _ := ⟨F7, F7.binds (ps := P_holds) fun _ _ _ _ _ _ us hl => match us, hl with | [_, _, _], _ => rfl, PySem.W.mg_of X G a7⟩
  have F8 := fun_mk (st := s_part_far) l8 c8 k8
  have D_part_far : DefAt K mg "_law_part_far" s_part_far P_part_far _ _ := ⟨F8, F8.binds (ps := P_part_far) fun _ _ _ _ _ _ us hl => match us, hl with | [_, _], _ => rfl, PySem.W.mg_of X G a8⟩
  have F9 := fun_mk (st := s_why) l9 c9 k9
  have D_why : DefAt K mg "_law_why" s_why P_why _ _ := ⟨F9, F9.binds (ps := P_why) fun _ _ _ _ _ _ us hl => match us, hl with | [_], _ => rfl, PySem.W.mg_of X G a9⟩
  have F10 := fun_mk (st := s_fields) l10 c10 k10
  have D_fields : DefAt K mg "_law_fields" s_fields P_fields _ _ := ⟨F10, F10.binds (ps := P_fields) fun _ _ _ _ _ _ us hl => match us, hl with | [_], _ => rfl, PySem.W.mg_of X G a10⟩
  have FF := far_fun fF5 fF6 fF4 fF7
  have GF : ∀ base : Heap, FnOk l.prog w K mg base CX0 1 f_FarError _ N_farinit (spFarInit K) := fun base => ok_farinit FF (PySem.W.mg_none_of X G zV) fF8
  have TF : ClsFn K C_FarError "__init__" f_FarError := ⟨fF1, fF2, fF3, fF4⟩
  have FI_BadStretch := fun_mk (x := "__init__") (qual := "BadStretch.__init__") (st := s_bsinit) l_BadStretch c_BadStretch k_BadStretch
  have bI_BadStretch := FI_BadStretch.binds (ps := N_bsinit) fun _ _ _ _ _ _ us hl => match us, hl with | [_, _, _], _ => rfl
  have E_BadStretch : ErrT K C_BadStretch := ⟨⟨⟨nm_BadStretch, q_BadStretch, N_BadStretch_, bs_BadStretch, _, sn_BadStretch, sub_BadStretch, ab_BadStretch, col_BadStretch, dd_BadStretch, m0_BadStretch, m1_BadStretch, m2_BadStretch, m3_BadStretch, m5_BadStretch, x_BadStretch, rfl⟩, sa_BadStretch, ex_BadStretch, ty_BadStretch, kp_BadStretch⟩, w_BadStretch⟩
  have M_BadStretch : PySem.W.exmOne K (.ref C_BadStretch) (.ref C_FarError) = some true := exm_sub fF9 fF10 fF11 m_BadStretch
  have XF_BadStretch : XfC K C_BadStretch := ⟨ga_BadStretch, gg_BadStretch, ex_BadStretch, hd_BadStretch⟩
  have EC_BadStretch : ExcC K C_BadStretch := ⟨ga_BadStretch, gg_BadStretch, ex_BadStretch, hd_BadStretch, ha_BadStretch, hn_BadStretch, ht_BadStretch, hm_BadStretch⟩
  have Te : ErT K mg C_FarError C_BadStretch f_BadStretch _ "BadStretch" N_bsinit := ⟨PySem.W.mg_of X G gF, PySem.W.mg_of X G g_BadStretch, E_BadStretch, XF_BadStretch, EC_BadStretch, i_BadStretch, t_BadStretch, bI_BadStretch, M_BadStretch⟩
  have no1 : ∀ D, PySem.W.subIn K (.ref C_BadStretch) (.ref D) = some false → PySem.W.isClsIn K D = true → PySem.W.typeIn K (.ref D) = some (.type "type") → PySem.W.kitOne K (.ref C_BadStretch) (.ref D) = some false := fun D h1 h2 h3 => kit_no self_BadStretch h1 h2 h3
  have Ot : OthT K mg C_BadStretch C_BadNumber C_NoMating C_NoFamily C_TooMuch C_BadName C_Taken C_NoRoad C_BadMating C_BadPlace := ⟨PySem.W.mg_of X G g_BadNumber, PySem.W.mg_of X G g_NoMating, PySem.W.mg_of X G g_NoFamily, PySem.W.mg_of X G g_TooMuch, PySem.W.mg_of X G g_BadName, PySem.W.mg_of X G g_Taken, PySem.W.mg_of X G g_NoRoad, PySem.W.mg_of X G g_BadMating, PySem.W.mg_of X G g_BadPlace, List.forall_mem_cons.mpr ⟨no1 _ ns_BadNumber nc_BadNumber nt_BadNumber, List.forall_mem_cons.mpr ⟨no1 _ ns_NoMating nc_NoMating nt_NoMating, List.forall_mem_cons.mpr ⟨no1 _ ns_NoFamily nc_NoFamily nt_NoFamily, List.forall_mem_cons.mpr ⟨no1 _ ns_TooMuch nc_TooMuch nt_TooMuch, List.forall_mem_cons.mpr ⟨no1 _ ns_BadName nc_BadName nt_BadName, List.forall_mem_cons.mpr ⟨no1 _ ns_Taken nc_Taken nt_Taken, List.forall_mem_cons.mpr ⟨no1 _ ns_NoRoad nc_NoRoad nt_NoRoad, List.forall_mem_cons.mpr ⟨no1 _ ns_BadMating nc_BadMating nt_BadMating, List.forall_mem_cons.mpr ⟨no1 _ ns_BadPlace nc_BadPlace nt_BadPlace, fun _ h => (by cases h)⟩⟩⟩⟩⟩⟩⟩⟩⟩⟩
  refine ⟨PySem.W.fnOf "law" "law" (defArgs s_law) (defBody s_law) (defScope s_law) .none kV11 dc11 pm11 an11 (.ref c) ct11, [(c, Pt)], spLawT K Pt, fun p hp => ?_, fun p hp => ?_, fun p hp => ?_, fun s u => ?b, fun H a ns hl _ hH hS => ⟨a, ns, rfl, hS, hl, hH _ List.mem_cons_self, fun _ => rfl⟩, fun base KB GB TB => ?ok⟩
  case ok =>
    exact ok_law l11 c11 (TB _ List.mem_cons_self) D_open D_pull D_like D_mating D_ends D_scaled D_part D_holds D_part_far D_why D_fields Te n_BadStretch_at n_BadStretch_many (ok_bsinit FI_BadStretch (PySem.W.mg_of X G gF) TF (far_binds FF) (GF base)) Ot B
  case b => exact .of_eq rfl
  · rw [List.mem_singleton.mp hp]; exact hT Pt List.mem_cons_self
  · rw [List.mem_singleton.mp hp]; exact nP
  · rw [List.mem_singleton.mp hp]; exact PySem.W.codeHd_of_K X hP
end Fm
open PySem PySem.W PyProof.Rows
set_option maxRecDepth 100000 in
set_option maxHeartbeats 0 in
theorem PySem.Challenge.cw_farmates_k05_parts_of_matings_holds : PySem.Challenge.rw_farmates_k05_parts_of_matings.Holds := by
  w_on; o_law; k_head; (case hw => w_witness2)
  k_fill
  refine LamX.walk_ofTs (l := PySem.Challenge.rw_farmates_k05_parts_of_matings) (n := 63) (k := 9) (x := "_law_script") (CX := fun _ => L2.CX0) rfl (by decide) rfl ⟨rfl, by decide, by decide⟩ (fun w h Y => PySem.W.km_in_of Y) ?F (fun _ _ _ _ _ h => h)
  case F =>
    intro w mg fa h Y KX G hmg
    refine' Fm.all_mk KX G hmg (PySem.W.km_tabs_of Y) ?a0 ?l0 ?c0 ?k0 ?a1 ?l1 ?c1 ?k1 ?a2 ?l2 ?c2 ?k2 ?a3 ?l3 ?c3 ?k3 ?a4 ?l4 ?c4 ?k4 ?a5 ?l5 ?c5 ?k5 ?a6 ?l6 ?c6 ?k6 ?a7 ?l7 ?c7 ?k7 ?a8 ?l8 ?c8 ?k8 ?a9 ?l9 ?c9 ?k9 ?a10 ?l10 ?c10 ?k10 ?a11 ?l11 ?c11 ?k11 ?z0 ?z1 ?z2 ?z3 ?z4 ?z5 ?z6 ?z7 ?z8 ?z9 ?z10 ?z11 ?z12 ?z13 ?zV ?hP ?nP ?gF ?fF1 ?fF2 ?fF3 ?fF4 ?fF5 ?fF6 ?fF7 ?fF9 ?fF10 ?fF11 ?fF8 ?g_BadStretch ?x_BadStretch ?sa_BadStretch ?ex_BadStretch ?ty_BadStretch ?kp_BadStretch ?ga_BadStretch ?gg_BadStretch ?hd_BadStretch ?ha_BadStretch ?hn_BadStretch ?ht_BadStretch ?hm_BadStretch ?w_BadStretch ?n_BadStretch_at ?n_BadStretch_many ?i_BadStretch ?t_BadStretch ?m_BadStretch ?l_BadStretch ?c_BadStretch ?k_BadStretch ?g_BadNumber ?g_NoMating ?g_NoFamily ?g_TooMuch ?g_BadName ?g_Taken ?g_NoRoad ?g_BadMating ?g_BadPlace ?self_BadStretch ?ns_BadNumber ?nc_BadNumber ?nt_BadNumber ?ns_NoMating ?nc_NoMating ?nt_NoMating ?ns_NoFamily ?nc_NoFamily ?nt_NoFamily ?ns_TooMuch ?nc_TooMuch ?nt_TooMuch ?ns_BadName ?nc_BadName ?nt_BadName ?ns_Taken ?nc_Taken ?nt_Taken ?ns_NoRoad ?nc_NoRoad ?nt_NoRoad ?ns_BadMating ?nc_BadMating ?nt_BadMating ?ns_BadPlace ?nc_BadPlace ?nt_BadPlace
    (case a0 => k_is); (case l0 => k_is); (case c0 => k_is); (case k0 => k_is)
    (case a1 => k_is); (case l1 => k_is); (case c1 => k_is); (case k1 => k_is)
    (case a2 => k_is); (case l2 => k_is); (case c2 => k_is); (case k2 => k_is)
    (case a3 => k_is); (case l3 => k_is); (case c3 => k_is); (case k3 => k_is)
    (case a4 => k_is); (case l4 => k_is); (case c4 => k_is); (case k4 => k_is)
    (case a5 => k_is); (case l5 => k_is); (case c5 => k_is); (case k5 => k_is)
    (case a6 => k_is); (case l6 => k_is); (case c6 => k_is); (case k6 => k_is)
    (case a7 => k_is); (case l7 => k_is); (case c7 => k_is); (case k7 => k_is)
    (case a8 => k_is); (case l8 => k_is); (case c8 => k_is); (case k8 => k_is)
    (case a9 => k_is); (case l9 => k_is); (case c9 => k_is); (case k9 => k_is)
    (case a10 => k_is); (case l10 => k_is); (case c10 => k_is); (case k10 => k_is)
    (case a11 => k_is); (case l11 => k_is); (case c11 => k_is); (case k11 => k_is)
    (case z0 => k_is); (case z1 => k_is); (case z2 => k_is); (case z3 => k_is)
    (case z4 => k_is); (case z5 => k_is); (case z6 => k_is); (case z7 => k_is)
    (case z8 => k_is); (case z9 => k_is); (case z10 => k_is); (case z11 => k_is)
    (case z12 => k_is); (case z13 => k_is); (case zV => k_is); (case hP => kernel_rfl)
    (case nP => kernel_rfl); (case gF => k_is); (case fF1 => k_is); (case fF2 => k_is)
    (case fF3 => k_is); (case fF4 => k_is); (case fF5 => k_is); (case fF6 => k_is)
    (case fF7 => k_is); (case fF9 => k_is); (case fF10 => k_is); (case fF11 => k_is)
    (case fF8 => k_is); (case g_BadStretch => k_is); (case x_BadStretch => k_is); (case sa_BadStretch => k_is)
    (case ex_BadStretch => k_is); (case ty_BadStretch => k_is); (case kp_BadStretch => k_is); (case ga_BadStretch => k_is)
    (case gg_BadStretch => k_is); (case hd_BadStretch => k_is); (case ha_BadStretch => k_is); (case hn_BadStretch => k_is)
    (case ht_BadStretch => k_is); (case hm_BadStretch => k_is); (case w_BadStretch => k_is); (case n_BadStretch_at => k_is)
    (case n_BadStretch_many => k_is); (case i_BadStretch => k_is); (case t_BadStretch => k_is); (case m_BadStretch => k_is)
    (case l_BadStretch => k_is); (case c_BadStretch => k_is); (case k_BadStretch => k_is); (case g_BadNumber => k_is)
    (case g_NoMating => k_is); (case g_NoFamily => k_is); (case g_TooMuch => k_is); (case g_BadName => k_is)
    (case g_Taken => k_is); (case g_NoRoad => k_is); (case g_BadMating => k_is); (case g_BadPlace => k_is)
    (case self_BadStretch => first | rfl | k_is); (case ns_BadNumber => k_is); (case nc_BadNumber => k_is); (case nt_BadNumber => k_is)
    (case ns_NoMating => k_is); (case nc_NoMating => k_is); (case nt_NoMating => k_is); (case ns_NoFamily => k_is)
    (case nc_NoFamily => k_is); (case nt_NoFamily => k_is); (case ns_TooMuch => k_is); (case nc_TooMuch => k_is)
    (case nt_TooMuch => k_is); (case ns_BadName => k_is); (case nc_BadName => k_is); (case nt_BadName => k_is)
    (case ns_Taken => k_is); (case nc_Taken => k_is); (case nt_Taken => k_is); (case ns_NoRoad => k_is)
    (case nc_NoRoad => k_is); (case nt_NoRoad => k_is); (case ns_BadMating => k_is); (case nc_BadMating => k_is)
    (case nt_BadMating => k_is); (case ns_BadPlace => k_is); (case nc_BadPlace => k_is); (case nt_BadPlace => k_is)
