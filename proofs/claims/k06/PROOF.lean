import PyProof.Rows.All
import Wide.All
import OpenK.AllK
import Wide.FinOn
import HandS.ForMost
import HandS.Codes
import HandS.IsInst
import HandS.Wide
import HandS.Style
import HandS.NoneIn
import HandS.SortRule
import HandS.Text
import PySem.Challenge.RW_farmates_k06_one_mating_after_another
set_option Elab.async false
set_option linter.all false
set_option maxRecDepth 100000
set_option maxHeartbeats 4000000
namespace Fm
open PySem L2
def top (i : Nat) : Stmt := PySem.Challenge.pw_farmates_k06_one_mating_after_another.main.body.getD i (.Pass ⟨0, 0, 0, 0⟩)

/-! ### what stands behind the top -/
structure DefAt (K : PySem.W.Frag) (mg : Str → Option Value) (x : Str) (st : Stmt) (ps : List Str) (f : Addr) (fd : FuncData) : Prop where
  F : Fun K x x st f fd
  b : Binds K fd ps []
  g : mg x = some (.ref f)
structure Bn (mg : Str → Option Value) : Prop where
  len : mg "len" = none
  list : mg "list" = none
  tuple : mg "tuple" = none
  bool : mg "bool" = none
  int : mg "int" = none
  str : mg "str" = none
  isinstance : mg "isinstance" = none
  all : mg "all" = none
  any : mg "any" = none
  range : mg "range" = none
  max : mg "max" = none
  min : mg "min" = none
  dict : mg "dict" = none
  sorted : mg "sorted" = none
/-! ### heaps -/
theorem same_upd {H : Hp} {p : Addr} {o : HO} (h : H p = none) : Same H (upd H p o) := fun b x e => by
  rw [upd_ne (ne_of_none e h)]
  exact e
theorem sameU {H H' : Hp} {p : Addr} {o : HO} (e : Same H H') (h : H p = none) : Same H (upd H' p o) := fun b x q => by
  rw [upd_ne (ne_of_none q h)]
  exact e b x q
/-- all but d stands as it stood -/
def Keep (d : Addr) (H H' : Hp) : Prop := ∀ b o, b ≠ d → H b = some o → H' b = some o
theorem Keep.refl (d : Addr) (H : Hp) : Keep d H H := fun _ _ _ h => h
theorem Keep.trans {d : Addr} {H H1 H2 : Hp} (a : Keep d H H1) (b : Keep d H1 H2) : Keep d H H2 := fun c o n h => b c o n (a c o n h)
theorem Keep.upd {d : Addr} {H : Hp} {o : HO} : Keep d H (upd H d o) := fun b x n h => by
  rw [upd_ne n]
  exact h
theorem keepS {d : Addr} {H H' : Hp} (a : Same H H') : Keep d H H' := fun b o _ h => a b o h
/-! ### the drawing -/
structure Drawn (H : Hp) (d l : Addr) (ns : List Int) (i z s : Int) : Prop where
  at_d : H d = some (.lst [.ref l, .int i, .int z, .int s])
  at_l : H l = some (.lst (ns.map V.int))
  len : ns.length ≤ 63
  i0 : 0 ≤ i
  z0 : 0 ≤ z
  s0 : 0 ≤ s
  s1 : s < 2147483629
def Draw (H : Hp) (d l : Addr) : Prop := ∃ ns i z s, Drawn H d l ns i z s
theorem Drawn.ne {H : Hp} {d l : Addr} {ns : List Int} {i z s : Int} (h : Drawn H d l ns i z s) : l ≠ d := by
  refine ne_of h.at_l h.at_d fun e => ?_
  cases ns with
  | nil => cases e
  | cons x r => cases e
theorem Drawn.same {H H' : Hp} {d l : Addr} {ns : List Int} {i z s : Int} (h : Drawn H d l ns i z s) (e : Same H H') : Drawn H' d l ns i z s := { h with at_d := e _ _ h.at_d, at_l := e _ _ h.at_l }
theorem Draw.same {H H' : Hp} {d l : Addr} (h : Draw H d l) (e : Same H H') : Draw H' d l := by
  obtain ⟨ns, i, z, s, h⟩ := h
  exact ⟨ns, i, z, s, h.same e⟩
/-- the drawing list stored anew -/
theorem Drawn.put {H : Hp} {d l : Addr} {ns : List Int} {i z s i' z' s' : Int} (h : Drawn H d l ns i z s) (hi : 0 ≤ i') (hz : 0 ≤ z') (h0 : 0 ≤ s') (h1 : s' < 2147483629) :
    Drawn (upd H d (.lst [.ref l, .int i', .int z', .int s'])) d l ns i' z' s' :=
  ⟨upd_same, (by rw [upd_ne h.ne]; exact h.at_l), h.len, hi, hz, h0, h1⟩
def spOpen (K : PySem.W.Frag) : Sp := fun vs H Q _ => ∃ (a : Addr) (ns : List Int), vs = [.ref a] ∧ SqL K H a (ns.map V.int) ∧ ns.length ≤ 63 ∧
  ∀ H' d l, Same H H' → H d = none → H l = none → Draw H' d l → Q (.ref d) H'
def spPull : Sp := fun vs H Q _ => ∃ (d l : Addr) (c : Int), vs = [.ref d, .int c] ∧ Draw H d l ∧ 1 ≤ c ∧ c < 2 ^ 100 ∧
  ∀ (v : Int) (H' : Hp), 0 ≤ v → v < c → Draw H' d l → Keep d H H' → Q (.int v) H'
def spLaw (K : PySem.W.Frag) : Sp := fun vs H Q _ => ∃ (a : Addr) (ns : List Int), vs = [.ref a] ∧ SqL K H a (ns.map V.int) ∧ ns.length ≤ 63 ∧ ∀ H', Q (.bl true) H'
/-! ### data that is compared, at most n deep -/
mutual
inductive Rp (H : Hp) : Nat → V → PyData → Prop
  | non (n : Nat) : Rp H n .non .none
  | bl (n : Nat) (b : Bool) : Rp H n (.bl b) (.bool b)
  | int (n : Nat) (i : Int) : Rp H n (.int i) (.int i)
  | str (n : Nat) (x : Str) : Rp H n (.str x) (.str x)
  | lst {n : Nat} {a : Addr} {xs : List V} {ds : List PyData} : H a = some (.lst xs) → xs.length ≤ 100000 → RpAll H n xs ds → Rp H (n + 1) (.ref a) (.list ds)
  | tup {n : Nat} {a : Addr} {xs : List V} {ds : List PyData} : H a = some (.tup xs) → xs.length ≤ 100000 → RpAll H n xs ds → Rp H (n + 1) (.ref a) (.tuple ds)
inductive RpAll (H : Hp) : Nat → List V → List PyData → Prop
  | nil (n : Nat) : RpAll H n [] []
  | cons {n : Nat} {v : V} {vs : List V} {d : PyData} {ds : List PyData} : Rp H n v d → RpAll H n vs ds → RpAll H n (v :: vs) (d :: ds)
end
mutual
theorem Rp.same {H H' : Hp} (e : Same H H') : ∀ {n : Nat} {v : V} {d : PyData}, Rp H n v d → Rp H' n v d
  | _, _, _, .non n => .non n
  | _, _, _, .bl n b => .bl n b
  | _, _, _, .int n i => .int n i
  | _, _, _, .str n x => .str n x
  | _, _, _, .lst h l r => .lst (e _ _ h) l (RpAll.same e r)
  | _, _, _, .tup h l r => .tup (e _ _ h) l (RpAll.same e r)
theorem RpAll.same {H H' : Hp} (e : Same H H') : ∀ {n : Nat} {vs : List V} {ds : List PyData}, RpAll H n vs ds → RpAll H' n vs ds
  | _, _, _, .nil n => .nil n
  | _, _, _, .cons h r => .cons (Rp.same e h) (RpAll.same e r)
end
theorem RpAll.length {H : Hp} : ∀ {n : Nat} {vs : List V} {ds : List PyData}, RpAll H n vs ds → vs.length = ds.length
  | _, _, _, .nil _ => rfl
  | _, _, _, .cons _ r => congrArg (· + 1) (RpAll.length r)
theorem RpAll.get {H : Hp} : ∀ {n : Nat} {vs : List V} {ds : List PyData}, RpAll H n vs ds → ∀ (i : Nat), i < ds.length → ∃ v d, vs[i]? = some v ∧ ds[i]? = some d ∧ Rp H n v d
  | _, _, _, .nil _, i, h => absurd h (Nat.not_lt_zero i)
  | _, _, _, .cons (v := v) (d := d) h r, 0, _ => ⟨v, d, rfl, rfl, h⟩
  | _, _, _, .cons h r, i + 1, hi => by
    obtain ⟨v, d, a, b, c⟩ := RpAll.get r i (Nat.lt_of_succ_lt_succ hi)
    exact ⟨v, d, a, b, c⟩
def spLike (n : Nat) : Sp := fun vs H Q _ => ∃ (a b : V) (d : PyData), vs = [a, b] ∧ Rp H n a d ∧ Rp H n b d ∧ ∀ H', Same H H' → Q (.bl true) H'
def spBot : Sp := fun _ _ _ _ => False
section
variable {P : Program} {w : World} {K : PySem.W.Frag} {mg : Str → Option Value} {base : Heap}
theorem ok_bot {f : Addr} {fd : FuncData} {ps : List Str} : FnOk P w K mg base CX0 0 f fd ps spBot := ⟨fun _ _ _ _ h => h.elim, fun _ _ _ _ _ _ _ _ _ _ _ _ _ h => h.elim⟩
end
theorem Draw.ne_new {H : Hp} {d l p : Addr} (h : Draw H d l) (n : H p = none) : p ≠ d := by
  obtain ⟨ns, i, z, s, h⟩ := h
  exact (ne_of_none h.at_d n).symm
theorem Keep.of {d : Addr} {H H' : Hp} (k : Keep d H H') {b : Addr} {o : HO} (h : H b = some o) (n : b ≠ d) : H' b = some o := k b o n h
theorem sz_lt {n : Nat} (h : n < 100000) : n < sizeLine := Nat.lt_of_lt_of_le h (by decide)

/-! ### _law_open -/
abbrev s_open : Stmt := top 9
abbrev N_open : List Str := ["_law_script", "_law_seed", "_law_cell"]
abbrev P_open : List Str := ["_law_script"]
theorem sc_open : FnScope N_open P_open (defScope s_open) := ⟨rfl, rfl, rfl, by decide +kernel, rfl, by decide +kernel, by decide +kernel⟩
theorem cut63 (xs : List V) (h : xs.length ≤ 63) : cutV xs none (some 63) = xs := by
  unfold cutV
  rw [show HT.sIx xs.length xs.length (some 63) = min 63 xs.length from HT.sIx_nat xs.length xs.length 63, HT.sIx_none, Nat.min_eq_right h]
  show (xs.drop 0).take (xs.length - 0) = xs
  rw [List.drop_zero, Nat.sub_zero, List.take_length]
section
variable {P : Program} {w : World} {K : PySem.W.Frag} {mg : Str → Option Value} {base : Heap}
theorem ok_open {f : Addr} {fd : FuncData} (D : DefAt K mg "_law_open" s_open P_open f fd) (B : Bn mg) : FnOk P w K mg base CX0 1 f fd P_open (spOpen K) := by
  refine D.F.ok sc_open (fun vs H Q E h => ?_) (fun cdv A outer s H vs Q E hr h => ?_)
  · obtain ⟨a, ns, rfl, _⟩ := h
    rfl
  · obtain ⟨a, ns, rfl, hS, hlen, q⟩ := h
    refine ⟨_, (pss_cons (ps_set (i := 1) sc_open.nd rfl (.inl rfl) pe_int)
      (pss_cons (ps_for PassesOwn.never rfl (pi_list (pe_slice sl_list (pv 0) po_none (po_some pe_int))) (pg_name (i := 2) sc_open.nd rfl (.inl rfl)) (pss_one (ps_set (i := 1) sc_open.nd rfl (.inl rfl) (pe_op op_mod (pe_op op_add (pe_op op_add (pe_op op_mul (pv 1) pe_int) (pe_op op_mod (pv 2) pe_int)) pe_int) pe_int))))
      (pss_one (ps_ret (pe_lst (pa_cons (pe_callTy call_list_of (by rfl) B.list (by decide +kernel) (pa_cons (pe_slice sl_list (pv 0) po_none (po_some pe_int)) pa_nil)) (pa_cons pe_int (pa_cons pe_int (pa_cons (pv 1) pa_nil))))))))), ?_⟩
    refine ⟨.ref a, rfl, 63, rfl, a, ns.map V.int, rfl, hS, fun c nc => ?_⟩
    rw [cut63 _ (by rw [List.length_map]; exact hlen)]
    have s1 : Same H (upd H c (.lst (ns.map V.int))) := same_upd nc
    refine ⟨c, rfl, ⟨_, SqL.of upd_same⟩, for_list (K := K) (a := c) (xs := ns.map V.int) (fun i σ H2 => ∃ (sd : Int) (v : Option V), σ = [some (.ref a), some (.int sd), v] ∧ H2 = upd H c (.lst (ns.map V.int)) ∧ 0 ≤ sd ∧ sd < 2147483629)
      ⟨9134, none, rfl, rfl, by decide, by decide⟩ (fun i σ H2 _ ⟨_, _, _, e2, _⟩ => e2 ▸ SqL.of upd_same) ?_ ?_⟩
    · rintro i y σ H2 hi ⟨sd, v, rfl, rfl, h0, h1⟩
      obtain ⟨z, rfl⟩ : ∃ z, y = V.int z := by
        rw [List.getElem?_map] at hi
        cases e : ns[i]? with
        | none =>
          rw [e] at hi
          cases hi
        | some z =>
          rw [e] at hi
          exact ⟨z, (Option.some.inj hi).symm⟩
      refine ⟨_, rfl, _, _, rfl, rfl, .inl ⟨by omega, by omega⟩, _, rfl, _, _, rfl, rfl, (by show (0 : Int) < 2147483587; decide), _, _, rfl, rfl, _, _, rfl, rfl, _, _, rfl, rfl, (by show (0 : Int) < 2147483629; decide), ?_⟩
      exact ⟨_, _, rfl, rfl, Int.emod_nonneg _ (by decide), Int.emod_lt_of_pos _ (by decide)⟩
    · rintro σ H2 ⟨sd, v, rfl, rfl, h0, h1⟩
      refine ⟨.ref a, rfl, 63, rfl, a, ns.map V.int, rfl, s1.seq hS, fun p np => ?_⟩
      rw [cut63 _ (by rw [List.length_map]; exact hlen)]
      have s2 : Same H (upd (upd H c (.lst (ns.map V.int))) p (.lst (ns.map V.int))) := s1.trans (same_upd np)
      refine ⟨p, _, rfl, .inl (SqL.of upd_same), fun l nl => ?_⟩
      refine ⟨_, rfl, by show 4 ≤ sizeLine; decide, fun d nd => ?_⟩
      have s3 : Same H (upd (upd (upd H c (.lst (ns.map V.int))) p (.lst (ns.map V.int))) l (.lst (ns.map V.int))) := s2.trans (same_upd nl)
      refine q _ d l (s3.trans (same_upd nd)) (s3.free nd) (s2.free nl) ⟨ns, 0, 0, sd, upd_same, ?_, hlen, by decide, by decide, h0, h1⟩
      have nld : l ≠ d := fun e => by
        rw [← e, upd_same] at nd
        cases nd
      rw [upd_ne nld, upd_same]
end

/-! ### _law_pull -/
abbrev s_pull : Stmt := top 10
abbrev N_pull : List Str := ["_law_draw", "_law_cap", "_law_cell", "_law_got", "_law_seed"]
abbrev P_pull : List Str := ["_law_draw", "_law_cap"]
theorem sc_pull : FnScope N_pull P_pull (defScope s_pull) := ⟨rfl, rfl, rfl, by decide +kernel, rfl, by decide +kernel, by decide +kernel⟩
section
variable {P : Program} {w : World} {K : PySem.W.Frag} {mg : Str → Option Value} {base : Heap}
theorem ok_pull {f : Addr} {fd : FuncData} (D : DefAt K mg "_law_pull" s_pull P_pull f fd) (B : Bn mg) : FnOk P w K mg base CX0 1 f fd P_pull spPull := by
  refine D.F.ok sc_pull (fun vs H Q E h => ?_) (fun cdv A outer s H vs Q E hr h => ?_)
  · obtain ⟨d, l, c, rfl, _⟩ := h
    rfl
  · obtain ⟨d, l, c, rfl, hD, hc1, hc2, q⟩ := h
    refine ⟨_, (C8.pss_cut (ps_if (PW.pt (pw_and (pt_cmpR op_lt (pe_ix ix_list (pv 0) pe_int (fun _ _ => rfl)) (pv 1) (nomark _)) (pw_and1 (pt_cmpR op_lt (pe_ix ix_list (pv 0) pe_int (fun _ _ => rfl)) (pe_callB call_len_seq (by rfl) B.len (by decide +kernel) (pa_cons (pe_ix ix_list (pv 0) pe_int (fun _ _ => rfl)) pa_nil)) (nomark _))))) (pss_cons (ps_set (i := 2) sc_pull.nd rfl (.inl rfl) (pe_ix ix_list (pe_ix ix_list (pv 0) pe_int (fun _ _ => rfl)) (pe_ix ix_list (pv 0) pe_int (fun _ _ => rfl)) (fun _ _ => rfl)))
      (pss_cons (ps_asg (pe_op op_add (pe_ix ix_list (pv 0) pe_int (fun _ _ => rfl)) pe_int) (pg_sub (pv 0) pe_int set_list))
      (pss_cons (ps_asg pe_int (pg_sub (pv 0) pe_int set_list))
      (pss_one (ps_if (pt_cmpR op_ge (pv 2) (pe_op op_pow pe_int pe_int) (nomark _)) (pss_one (ps_asg (pv 2) (pg_sub (pv 0) pe_int set_list))) (pss_one (ps_asg (pe_op op_mod (pe_op op_add (pe_op op_add (pe_op op_mul (pe_ix ix_list (pv 0) pe_int (fun _ _ => rfl)) pe_int) (pe_op op_mul (pe_op op_mod (pv 2) pe_int) pe_int)) pe_int) pe_int) (pg_sub (pv 0) pe_int set_list)))))))) pss_nil)
      (C8.pss_cut (ps_if (pt_cmpR op_ge (pe_ix ix_list (pv 0) pe_int (fun _ _ => rfl)) (pv 1) (nomark _)) (pss_cons (ps_set (i := 3) sc_pull.nd rfl (.inl rfl) (pe_op op_mod (pe_ix ix_list (pv 0) pe_int (fun _ _ => rfl)) (pv 1)))
      (pss_cons (ps_asg (pe_op op_fdivW (pe_ix ix_list (pv 0) pe_int (fun _ _ => rfl)) (pv 1)) (pg_sub (pv 0) pe_int set_list))
      (pss_one (ps_ret (pv 3))))) pss_nil)
      (pss_cons (ps_set (i := 4) sc_pull.nd rfl (.inl rfl) (pe_ix ix_list (pv 0) pe_int (fun _ _ => rfl)))
      (pss_cons (ps_asg (pe_op op_mod (pe_op op_add (pe_op op_add (pe_op op_mul (pe_op op_mod (pe_op op_mul (pv 4) (pv 4)) pe_int) pe_int) (pe_op op_mul (pv 4) pe_int)) pe_int) pe_int) (pg_sub (pv 0) pe_int set_list))
      (pss_cons (ps_if (pt_cmpR op_lt (pv 1) (pe_op op_pow pe_int pe_int) (nomark _)) (pss_one (ps_ret (pe_op op_mod (pe_op op_add (pe_op op_fdivW (pe_ix ix_list (pv 0) pe_int (fun _ _ => rfl)) pe_int) (pe_op op_mul (pe_op op_mod (pe_ix ix_list (pv 0) pe_int (fun _ _ => rfl)) pe_int) pe_int)) (pv 1)))) pss_nil)
      (pss_one (ps_ret (pe_op op_mod (pe_op op_add (pe_op op_fdivW (pe_op op_pow (pe_ix ix_list (pv 0) pe_int (fun _ _ => rfl)) pe_int) pe_int) (pe_ix ix_list (pv 0) pe_int (fun _ _ => rfl))) (pv 1))))))))), ?_⟩
    have hpow : CPow 10 18 := ⟨by decide, by decide, by decide⟩
    have hpow8 : CPow 10 8 := ⟨by decide, by decide, by decide⟩
    have ix0 : ∀ {a b e g : V}, atI [a, b, e, g] 0 = some a := fun {_ _ _ _} => atI_nat (j := 0) rfl
    have ix1 : ∀ {a b e g : V}, atI [a, b, e, g] 1 = some b := fun {_ _ _ _} => atI_nat (j := 1) rfl
    have ix2 : ∀ {a b e g : V}, atI [a, b, e, g] 2 = some e := fun {_ _ _ _} => atI_nat (j := 2) rfl
    have ix3 : ∀ {a b e g : V}, atI [a, b, e, g] 3 = some g := fun {_ _ _ _} => atI_nat (j := 3) rfl
    -- the first if
    refine ⟨fun σ H1 => ∃ y : Option V, σ = [some (.ref d), some (.int c), y, none, none] ∧ Draw H1 d l ∧ Keep d H H1, ?_, ?_⟩
    · obtain ⟨ns, i, z, sd, hW⟩ := hD
      refine ⟨.ref d, rfl, d, _, 2, .int z, rfl, rfl, SqL.of hW.at_d, ix2, .int c, rfl, z, c, rfl, rfl, _, rfl, ?_⟩
      refine ite2 (fun _ => ?_) (fun _ => iteF ⟨none, rfl, ⟨ns, i, z, sd, hW⟩, Keep.refl _ _⟩)
      refine ⟨.ref d, rfl, d, _, 1, .int i, rfl, rfl, SqL.of hW.at_d, ix1, .ref d, rfl, d, _, 0, .ref l, rfl, rfl, SqL.of hW.at_d, ix0, l, _, rfl, .inl (SqL.of hW.at_l), i, _, rfl, rfl, _, rfl, ?_⟩
      refine ite2 (fun hb => ?_) (fun _ => ⟨none, rfl, ⟨ns, i, z, sd, hW⟩, Keep.refl _ _⟩)
      have hil : i < ((ns.map V.int).length : Int) := of_decide_eq_true hb
      rw [List.length_map] at hil
      have hi0 := hW.i0
      obtain ⟨j, rfl⟩ : ∃ j : Nat, i = (j : Int) := ⟨i.toNat, by omega⟩
      have hj : j < ns.length := by omega
      have gj : (ns.map V.int)[j]? = some (.int ns[j]) := by
        rw [List.getElem?_map, List.getElem?_eq_getElem hj]
        rfl
      -- cell = draw[0][draw[1]]
      refine ⟨.ref d, rfl, d, _, 0, .ref l, rfl, rfl, SqL.of hW.at_d, ix0, .ref d, rfl, d, _, 1, .int (j : Int), rfl, rfl, SqL.of hW.at_d, ix1, l, _, (j : Int), .int ns[j], rfl, rfl, SqL.of hW.at_l, atI_nat gj, ?_⟩
      -- draw[1] = draw[1] + 1
      refine ⟨.ref d, rfl, d, _, 1, .int (j : Int), rfl, rfl, SqL.of hW.at_d, ix1, _, _, rfl, rfl, .ref d, rfl, d, _, 1, 1, rfl, rfl, hW.at_d, rfl, ?_⟩
      have W1 := hW.put (i' := (j : Int) + 1) (z' := z) (s' := sd) (by omega) hW.z0 hW.s0 hW.s1
      -- draw[2] = 0
      refine ⟨.ref d, rfl, d, _, 2, 2, rfl, rfl, upd_same, rfl, ?_⟩
      have W2 := W1.put (i' := (j : Int) + 1) (z' := 0) (s' := sd) (by omega) (by decide) hW.s0 hW.s1
      -- if cell >= 10 ** 18
      refine ⟨_, rfl, _, _, rfl, rfl, hpow, _, _, rfl, rfl, _, rfl, ?_⟩
      refine ite2 (fun hg => ?_) (fun _ => ?_)
      · have hg' : (10 : Int) ^ 18 ≤ ns[j] := of_decide_eq_true hg
        refine ⟨_, rfl, .ref d, rfl, d, _, 2, 2, rfl, rfl, upd_same, rfl, ?_⟩
        exact ⟨_, rfl, ⟨_, _, _, _, W2.put (i' := (j : Int) + 1) (z' := ns[j]) (s' := sd) (by omega) (by omega) hW.s0 hW.s1⟩, (Keep.upd.trans Keep.upd).trans Keep.upd⟩
      · refine ⟨.ref d, rfl, d, _, 3, .int sd, rfl, rfl, SqL.of upd_same, ix3, _, _, rfl, rfl, .inr ⟨by decide, by decide⟩, _, rfl, _, _, rfl, rfl, (by show (0 : Int) < 2147483647; decide), _, _, rfl, rfl, .inr ⟨by decide, by decide⟩, _, _, rfl, rfl, _, _, rfl, rfl, _, _, rfl, rfl, (by show (0 : Int) < 2147483629; decide), ?_⟩
        refine ⟨.ref d, rfl, d, _, 3, 3, rfl, rfl, upd_same, rfl, ?_⟩
        exact ⟨_, rfl, ⟨_, _, _, _, W2.put (i' := (j : Int) + 1) (z' := 0) (s' := _) (by omega) (by decide) (Int.emod_nonneg _ (by decide)) (Int.emod_lt_of_pos _ (by decide))⟩, (Keep.upd.trans Keep.upd).trans Keep.upd⟩
    · rintro σ H1 ⟨y, rfl, ⟨ns, i, z, sd, hW⟩, kp⟩
      -- the second if
      refine ⟨fun σ H2 => H2 = H1 ∧ ∃ y' : Option V, σ = [some (.ref d), some (.int c), y, y', none], ?_, ?_⟩
      · refine ⟨.ref d, rfl, d, _, 2, .int z, rfl, rfl, SqL.of hW.at_d, ix2, .int c, rfl, z, c, rfl, rfl, _, rfl, ?_⟩
        refine ite2 (fun hg => ?_) (fun _ => ⟨rfl, none, rfl⟩)
        refine ⟨.ref d, rfl, d, _, 2, .int z, rfl, rfl, SqL.of hW.at_d, ix2, .int c, rfl, _, _, rfl, rfl, (by omega), ?_⟩
        have hwd : CDivW z c := wide_div (b := 100) (by omega) (by omega) (by decide) (by decide)
        refine ⟨.ref d, rfl, d, _, 2, .int z, rfl, rfl, SqL.of hW.at_d, ix2, .int c, rfl, _, _, rfl, rfl, hwd, .ref d, rfl, d, _, 2, 2, rfl, rfl, hW.at_d, rfl, _, rfl, ?_⟩
        exact q _ _ (Int.emod_nonneg _ (by omega)) (Int.emod_lt_of_pos _ (by omega)) ⟨_, _, _, _, hW.put (i' := i) (z' := z / c) (s' := sd) hW.i0 (Int.ediv_nonneg hW.z0 (by omega)) hW.s0 hW.s1⟩ (kp.trans Keep.upd)
      · rintro σ H2 ⟨rfl, y', rfl⟩
        have hs0 := hW.s0
        have hs1 := hW.s1
        have hm : CMul sd sd := .inl ⟨by omega, by omega⟩
        -- seed = draw[3]; draw[3] = ..
        refine ⟨.ref d, rfl, d, _, 3, .int sd, rfl, rfl, SqL.of hW.at_d, ix3, ?_⟩
        refine ⟨_, rfl, _, rfl, _, _, rfl, rfl, hm, _, _, rfl, rfl, (by show (0 : Int) < 2147483647; decide), _, _, rfl, rfl, .inr ⟨by decide, by decide⟩, _, rfl, _, _, rfl, rfl, .inr ⟨by decide, by decide⟩, _, _, rfl, rfl, _, _, rfl, rfl, _, _, rfl, rfl, (by show (0 : Int) < 2147483629; decide), ?_⟩
        refine ⟨.ref d, rfl, d, _, 3, 3, rfl, rfl, hW.at_d, rfl, ?_⟩
        have n0 : 0 ≤ (sd * sd % 2147483647 * 3 + sd * 45991 + 746773) % 2147483629 := Int.emod_nonneg _ (by decide)
        have n1 : (sd * sd % 2147483647 * 3 + sd * 45991 + 746773) % 2147483629 < 2147483629 := Int.emod_lt_of_pos _ (by decide)
        have W1 := hW.put (i' := i) (z' := z) (s' := (sd * sd % 2147483647 * 3 + sd * 45991 + 746773) % 2147483629) hW.i0 hW.z0 n0 n1
        have na : ((sd * sd % 2147483647 * 3 + sd * 45991 + 746773) % 2147483629).natAbs < 2 ^ 64 := by omega
        -- if cap < 10 ** 8
        refine ⟨_, rfl, _, _, rfl, rfl, hpow8, _, _, rfl, rfl, _, rfl, ?_⟩
        refine ite2 (fun _ => ?_) (fun _ => ?_)
        · refine ⟨.ref d, rfl, d, _, 3, .int _, rfl, rfl, SqL.of W1.at_d, ix3, _, _, rfl, rfl, wide_div (b := 10) (by decide) (by decide) (by decide) (by decide), .ref d, rfl, d, _, 3, .int _, rfl, rfl, SqL.of W1.at_d, ix3, _, _, rfl, rfl, (by show (0 : Int) < 6151; decide), _, _, rfl, rfl, .inr ⟨by decide, by decide⟩, _, _, rfl, rfl, .int c, rfl, _, _, rfl, rfl, (by omega), ?_⟩
          exact q _ _ (Int.emod_nonneg _ (by omega)) (Int.emod_lt_of_pos _ (by omega)) ⟨_, _, _, _, W1⟩ (kp.trans Keep.upd)
        · refine ⟨.ref d, rfl, d, _, 3, .int _, rfl, rfl, SqL.of W1.at_d, ix3, _, _, rfl, rfl, ⟨by decide, by decide, na⟩, _, _, rfl, rfl, wide_div (b := 10) (by decide) (by decide) (by decide) (by decide), .ref d, rfl, d, _, 3, .int _, rfl, rfl, SqL.of W1.at_d, ix3, _, _, rfl, rfl, .int c, rfl, _, _, rfl, rfl, (by omega), ?_⟩
          exact q _ _ (Int.emod_nonneg _ (by omega)) (Int.emod_lt_of_pos _ (by omega)) ⟨_, _, _, _, W1⟩ (kp.trans Keep.upd)
end

/-! ### _law_like -/
abbrev s_like : Stmt := top 11
abbrev N_like : List Str := ["_law_found", "_law_due", "_law_j"]
abbrev P_like : List Str := ["_law_found", "_law_due"]
theorem sc_like : FnScope N_like P_like (defScope s_like) := ⟨rfl, rfl, rfl, by decide +kernel, rfl, by decide +kernel, by decide +kernel⟩
section
variable {P : Program} {w : World} {K : PySem.W.Frag} {mg : Str → Option Value} {base : Heap}
theorem isn_no {v : V} {A B : Prop} (h : v ≠ .non) (b : B) : if decide (v = V.non) = true then A else B := by
  rw [decide_eq_false h]
  exact iteF b
theorem like_step {k n : Nat} {f : Addr} {fd : FuncData} {spR : Sp} (D_like : DefAt K mg "_law_like" s_like P_like f fd) (B : Bn mg) (G_like : FnOk P w K mg base CX0 k f fd P_like spR)
    (hR : ∀ m, n = m + 1 → ∀ vs H Q E, spLike m vs H Q E → spR vs H Q E) : FnOk P w K mg base CX0 (k + 1) f fd P_like (spLike n) := by
  refine D_like.F.ok sc_like (fun vs H Q E h => ?_) (fun cdv A outer s H vs Q E hr h => ?_)
  · obtain ⟨a, b, d, rfl, _⟩ := h
    rfl
  · obtain ⟨a, b, d, rfl, ha, hb, q⟩ := h
    refine ⟨_, (pss_cons (ps_if (pt_cmpR op_isN (pv 1) pe_non (nomark _)) (pss_one (ps_ret (pe_cmpR op_isN (pv 0) pe_non (nomark _)))) pss_nil)
      (pss_cons (ps_if (pt_val (pe_callB call_isi (by rfl) B.isinstance (by decide +kernel) (pa_cons (pv 1) (pa_cons (pe_bltn (v := .ty "bool") (by rfl) B.bool (by decide +kernel) rfl) pa_nil)))) (pss_one (ps_ret (pe_and (pe_callB call_isi (by rfl) B.isinstance (by decide +kernel) (pa_cons (pv 0) (pa_cons (pe_bltn (v := .ty "bool") (by rfl) B.bool (by decide +kernel) rfl) pa_nil))) (pe_one (pe_cmpR op_eq (pv 0) (pv 1) (nomark _)))))) pss_nil)
      (pss_cons (ps_if (pt_val (pe_callB call_isi (by rfl) B.isinstance (by decide +kernel) (pa_cons (pv 1) (pa_cons (pe_bltn (v := .ty "int") (by rfl) B.int (by decide +kernel) rfl) pa_nil)))) (pss_one (ps_ret (pe_and (pe_callB call_isi (by rfl) B.isinstance (by decide +kernel) (pa_cons (pv 0) (pa_cons (pe_bltn (v := .ty "int") (by rfl) B.int (by decide +kernel) rfl) pa_nil))) (pe_and (pe_not (pe_callB call_isi (by rfl) B.isinstance (by decide +kernel) (pa_cons (pv 0) (pa_cons (pe_bltn (v := .ty "bool") (by rfl) B.bool (by decide +kernel) rfl) pa_nil)))) (pe_one (pe_cmpR op_eq (pv 0) (pv 1) (nomark _))))))) pss_nil)
      (pss_cons (ps_if (pt_val (pe_callB call_isi (by rfl) B.isinstance (by decide +kernel) (pa_cons (pv 1) (pa_cons (pe_bltn (v := .ty "str") (by rfl) B.str (by decide +kernel) rfl) pa_nil)))) (pss_one (ps_ret (pe_and (pe_callB call_isi (by rfl) B.isinstance (by decide +kernel) (pa_cons (pv 0) (pa_cons (pe_bltn (v := .ty "str") (by rfl) B.str (by decide +kernel) rfl) pa_nil))) (pe_one (pe_cmpR op_eq (pv 0) (pv 1) (nomark _)))))) pss_nil)
      (pss_cons (ps_if (PW.pt (pw_or (pt_cmpR op_ne (pe_callB call_isi (by rfl) B.isinstance (by decide +kernel) (pa_cons (pv 1) (pa_cons (pe_bltn (v := .ty "tuple") (by rfl) B.tuple (by decide +kernel) rfl) pa_nil))) (pe_callB call_isi (by rfl) B.isinstance (by decide +kernel) (pa_cons (pv 0) (pa_cons (pe_bltn (v := .ty "tuple") (by rfl) B.tuple (by decide +kernel) rfl) pa_nil))) (nomark _)) (pw_or1 (pt_cmpR op_ne (pe_callB call_isi (by rfl) B.isinstance (by decide +kernel) (pa_cons (pv 1) (pa_cons (pe_bltn (v := .ty "list") (by rfl) B.list (by decide +kernel) rfl) pa_nil))) (pe_callB call_isi (by rfl) B.isinstance (by decide +kernel) (pa_cons (pv 0) (pa_cons (pe_bltn (v := .ty "list") (by rfl) B.list (by decide +kernel) rfl) pa_nil))) (nomark _))))) (pss_one (ps_ret pe_bl)) pss_nil)
      (pss_cons (ps_if (pt_cmpR op_ne (pe_callB call_len_seq (by rfl) B.len (by decide +kernel) (pa_cons (pv 0) pa_nil)) (pe_callB call_len_seq (by rfl) B.len (by decide +kernel) (pa_cons (pv 1) pa_nil)) (nomark _)) (pss_one (ps_ret pe_bl)) pss_nil)
      (pss_one (ps_ret (pe_callB (cr_all rfl) (by rfl) B.all (by decide +kernel) (pa_cons (pe_lc (own := [("_law_j", 2)]) (g := gName 2) (by rfl) sc_like.nd (pi_range1 (by rfl) B.range (pa_cons (pe_callB call_len_seq (by rfl) B.len (by decide +kernel) (pa_cons (pv 1) pa_nil)) pa_nil)) (blkOk_by (own := [("_law_j", 2)]) (N := N_like) (sc := defScope s_like) (by decide +kernel)) (fun _ _ _ _ _ => (pg_name (i := 2) sc_like.nd rfl (.inl rfl))) (fun _ _ _ _ _ => pts_nil) (fun _ _ _ _ _ => (pe_call G_like (hr.mono (by omega)) (by rfl) D_like.g D_like.F.kp D_like.b .nil pass0 (pa_cons (pe_ix (show IxR _ (rIx K) from ix_seq) (pv 0) (pv 2) (fun _ _ => rfl)) (pa_cons (pe_ix (show IxR _ (rIx K) from ix_seq) (pv 1) (pv 2) (fun _ _ => rfl)) pa_nil))))) pa_nil)))))))))), ?_⟩
    cases ha with
    | non =>
      cases hb
      exact ⟨.non, rfl, rfl, _, rfl, iteT ⟨.non, rfl, rfl, q H (Same.refl H)⟩⟩
    | bl _ x =>
      cases hb
      refine ⟨.bl x, rfl, rfl, _, rfl, isn_no (by intro z; cases z) ?_⟩
      refine ⟨.bl x, rfl, _, _, _, _, true, rfl, ClsV.ty _, TyX.base (TyOf.bl _), kit_ty (by decide +kernel), _, rfl, iteT ?_⟩
      refine ⟨.bl x, rfl, _, _, _, _, true, rfl, ClsV.ty _, TyX.base (TyOf.bl _), kit_ty (by decide +kernel), _, rfl, iteT ?_⟩
      refine ⟨.bl x, rfl, .bl x, rfl, rfl, ?_⟩
      rw [decide_eq_true rfl]
      exact q H (Same.refl H)
    | int _ x =>
      cases hb
      refine ⟨.int x, rfl, rfl, _, rfl, isn_no (by intro z; cases z) ?_⟩
      refine ⟨.int x, rfl, _, _, _, _, false, rfl, ClsV.ty _, TyX.base (TyOf.int _), kit_ty (by decide +kernel), _, rfl, iteF ?_⟩
      refine ⟨.int x, rfl, _, _, _, _, true, rfl, ClsV.ty _, TyX.base (TyOf.int _), kit_ty (by decide +kernel), _, rfl, iteT ?_⟩
      refine ⟨.int x, rfl, _, _, _, _, true, rfl, ClsV.ty _, TyX.base (TyOf.int _), kit_ty (by decide +kernel), _, rfl, iteT ?_⟩
      refine ⟨.int x, rfl, _, _, _, _, false, rfl, ClsV.ty _, TyX.base (TyOf.int _), kit_ty (by decide +kernel), _, rfl, _, rfl, iteT ?_⟩
      refine ⟨.int x, rfl, .int x, rfl, rfl, ?_⟩
      rw [decide_eq_true rfl]
      exact q H (Same.refl H)
    | str _ x =>
      cases hb
      refine ⟨.str x, rfl, rfl, _, rfl, isn_no (by intro z; cases z) ?_⟩
      refine ⟨.str x, rfl, _, _, _, _, false, rfl, ClsV.ty _, TyX.base (TyOf.str _), kit_ty (by decide +kernel), _, rfl, iteF ?_⟩
      refine ⟨.str x, rfl, _, _, _, _, false, rfl, ClsV.ty _, TyX.base (TyOf.str _), kit_ty (by decide +kernel), _, rfl, iteF ?_⟩
      refine ⟨.str x, rfl, _, _, _, _, true, rfl, ClsV.ty _, TyX.base (TyOf.str _), kit_ty (by decide +kernel), _, rfl, iteT ?_⟩
      refine ⟨.str x, rfl, _, _, _, _, true, rfl, ClsV.ty _, TyX.base (TyOf.str _), kit_ty (by decide +kernel), _, rfl, iteT ?_⟩
      refine ⟨.str x, rfl, .str x, rfl, rfl, ?_⟩
      rw [decide_eq_true rfl]
      exact q H (Same.refl H)
    | @lst m p xs ds hp lp rp =>
      cases hb with
      | @lst _ r ys _ hq lq rq =>
      have lx : xs.length = ds.length := rp.length
      have ly : ys.length = ds.length := rq.length
      refine ⟨.ref r, rfl, rfl, _, rfl, isn_no (by intro z; cases z) ?_⟩
      refine ⟨.ref r, rfl, _, _, _, _, false, rfl, ClsV.ty _, TyX.base (TyOf.lst hq), kit_ty (by decide +kernel), _, rfl, iteF ?_⟩
      refine ⟨.ref r, rfl, _, _, _, _, false, rfl, ClsV.ty _, TyX.base (TyOf.lst hq), kit_ty (by decide +kernel), _, rfl, iteF ?_⟩
      refine ⟨.ref r, rfl, _, _, _, _, false, rfl, ClsV.ty _, TyX.base (TyOf.lst hq), kit_ty (by decide +kernel), _, rfl, iteF ?_⟩
      refine ⟨.ref r, rfl, _, _, _, _, false, rfl, ClsV.ty _, TyX.base (TyOf.lst hq), kit_ty (by decide +kernel), .ref p, rfl, _, _, _, _, false, rfl, ClsV.ty _, TyX.base (TyOf.lst hp), kit_ty (by decide +kernel), rfl, _, rfl, iteNS rfl ?_⟩
      refine ⟨.ref r, rfl, _, _, _, _, true, rfl, ClsV.ty _, TyX.base (TyOf.lst hq), kit_ty (by decide +kernel), .ref p, rfl, _, _, _, _, true, rfl, ClsV.ty _, TyX.base (TyOf.lst hp), kit_ty (by decide +kernel), rfl, _, rfl, iteNS rfl ?_⟩
      refine ⟨.ref p, rfl, p, xs, rfl, .inl (SqL.of hp), .ref r, rfl, r, ys, rfl, .inl (SqL.of hq), rfl, _, rfl, iteNS (by rw [lx, ly]) ?_⟩
      refine ⟨.ref r, rfl, r, ys, rfl, .inl (SqL.of hq), _, rfl, (by have := lq; omega), (by have := lq; omega), fun D hD => lc_range (lo := 0) (n := ((ys.length : Int)).toNat) (fun i H2 => ∃ bs : List Bool, Same H H2 ∧ H2 D = some (.lst (bs.map V.bl)) ∧ bs.length = i ∧ bs.all id = true) ⟨[], same_upd hD, upd_same, rfl, rfl⟩ ?_ ?_⟩
      · rintro i H2 hi ⟨bs, sm, hDl, rfl, hal⟩
        have hi' : bs.length < ds.length := by omega
        obtain ⟨v1, d1, e1, e2, r1⟩ := rp.get bs.length hi'
        obtain ⟨v2, d2, e3, e4, r2⟩ := rq.get bs.length hi'
        have ed : d2 = d1 := Option.some.inj (e4.symm.trans e2)
        subst ed
        refine ⟨rfl, ?_⟩
        refine ⟨.ref p, rfl, .int (0 + (bs.length : Int)), rfl, .inl ⟨p, xs, _, v1, rfl, rfl, SqL.of (sm _ _ hp), at_of (by omega) e1, .ref r, rfl, .int (0 + (bs.length : Int)), rfl, .inl ⟨r, ys, _, v2, rfl, rfl, SqL.of (sm _ _ hq), at_of (by omega) e3, ?_⟩⟩⟩
        refine hR m rfl _ _ _ _ ⟨v1, v2, d2, rfl, r1.same sm, r2.same sm, fun H3 s3 => ?_⟩
        refine ⟨bs.map V.bl, s3 _ _ hDl, sz_lt (by rw [List.length_map]; omega), bs ++ [true], fun b o e => ?_, ?_, by rw [List.length_append]; rfl, by rw [List.all_append, hal]; rfl⟩
        · rw [upd_ne (ne_of_none e hD)]
          exact s3 _ _ (sm _ _ e)
        · rw [upd_same, List.map_append]
          rfl
      · rintro H2 ⟨bs, sm, hDl, _, hal⟩
        refine ⟨D, bs, rfl, SqL.of hDl, ?_⟩
        rw [hal]
        exact q H2 sm
    | @tup m p xs ds hp lp rp =>
      cases hb with
      | @tup _ r ys _ hq lq rq =>
      have lx : xs.length = ds.length := rp.length
      have ly : ys.length = ds.length := rq.length
      refine ⟨.ref r, rfl, rfl, _, rfl, isn_no (by intro z; cases z) ?_⟩
      refine ⟨.ref r, rfl, _, _, _, _, false, rfl, ClsV.ty _, TyX.base (TyOf.tup hq), kit_ty (by decide +kernel), _, rfl, iteF ?_⟩
      refine ⟨.ref r, rfl, _, _, _, _, false, rfl, ClsV.ty _, TyX.base (TyOf.tup hq), kit_ty (by decide +kernel), _, rfl, iteF ?_⟩
      refine ⟨.ref r, rfl, _, _, _, _, false, rfl, ClsV.ty _, TyX.base (TyOf.tup hq), kit_ty (by decide +kernel), _, rfl, iteF ?_⟩
      refine ⟨.ref r, rfl, _, _, _, _, true, rfl, ClsV.ty _, TyX.base (TyOf.tup hq), kit_ty (by decide +kernel), .ref p, rfl, _, _, _, _, true, rfl, ClsV.ty _, TyX.base (TyOf.tup hp), kit_ty (by decide +kernel), rfl, _, rfl, iteNS rfl ?_⟩
      refine ⟨.ref r, rfl, _, _, _, _, false, rfl, ClsV.ty _, TyX.base (TyOf.tup hq), kit_ty (by decide +kernel), .ref p, rfl, _, _, _, _, false, rfl, ClsV.ty _, TyX.base (TyOf.tup hp), kit_ty (by decide +kernel), rfl, _, rfl, iteNS rfl ?_⟩
      refine ⟨.ref p, rfl, p, xs, rfl, .inr (SqT.of hp), .ref r, rfl, r, ys, rfl, .inr (SqT.of hq), rfl, _, rfl, iteNS (by rw [lx, ly]) ?_⟩
      refine ⟨.ref r, rfl, r, ys, rfl, .inr (SqT.of hq), _, rfl, (by have := lq; omega), (by have := lq; omega), fun D hD => lc_range (lo := 0) (n := ((ys.length : Int)).toNat) (fun i H2 => ∃ bs : List Bool, Same H H2 ∧ H2 D = some (.lst (bs.map V.bl)) ∧ bs.length = i ∧ bs.all id = true) ⟨[], same_upd hD, upd_same, rfl, rfl⟩ ?_ ?_⟩
      · rintro i H2 hi ⟨bs, sm, hDl, rfl, hal⟩
        have hi' : bs.length < ds.length := by omega
        obtain ⟨v1, d1, e1, e2, r1⟩ := rp.get bs.length hi'
        obtain ⟨v2, d2, e3, e4, r2⟩ := rq.get bs.length hi'
        have ed : d2 = d1 := Option.some.inj (e4.symm.trans e2)
        subst ed
        refine ⟨rfl, ?_⟩
        refine ⟨.ref p, rfl, .int (0 + (bs.length : Int)), rfl, .inr <| .inl ⟨p, xs, _, v1, rfl, rfl, SqT.of (sm _ _ hp), at_of (by omega) e1, .ref r, rfl, .int (0 + (bs.length : Int)), rfl, .inr <| .inl ⟨r, ys, _, v2, rfl, rfl, SqT.of (sm _ _ hq), at_of (by omega) e3, ?_⟩⟩⟩
        refine hR m rfl _ _ _ _ ⟨v1, v2, d2, rfl, r1.same sm, r2.same sm, fun H3 s3 => ?_⟩
        refine ⟨bs.map V.bl, s3 _ _ hDl, sz_lt (by rw [List.length_map]; omega), bs ++ [true], fun b o e => ?_, ?_, by rw [List.length_append]; rfl, by rw [List.all_append, hal]; rfl⟩
        · rw [upd_ne (ne_of_none e hD)]
          exact s3 _ _ (sm _ _ e)
        · rw [upd_same, List.map_append]
          rfl
      · rintro H2 ⟨bs, sm, hDl, _, hal⟩
        refine ⟨D, bs, rfl, SqL.of hDl, ?_⟩
        rw [hal]
        exact q H2 sm
theorem ok_like {f : Addr} {fd : FuncData} (D : DefAt K mg "_law_like" s_like P_like f fd) (B : Bn mg) : ∀ n : Nat, FnOk P w K mg base CX0 (n + 1) f fd P_like (spLike n)
  | 0 => like_step D B ok_bot fun m e => absurd e (by omega)
  | n + 1 => like_step D B (ok_like D B n) fun m e vs H Q E h => by
    have e : m = n := by omega
    subst e
    exact h
end

/-! ### holds, part -/
def tup4 (o p m f : Int) : HO := .tup [.int o, .int p, .int m, .int f]
abbrev s_holds : Stmt := top 6
abbrev N_holds : List Str := ["mating", "at", "many"]
abbrev P_holds : List Str := ["mating", "at", "many"]
theorem sc_holds : FnScope N_holds P_holds (defScope s_holds) := ⟨rfl, rfl, rfl, by decide +kernel, rfl, by decide +kernel, by decide +kernel⟩
def spHolds : Sp := fun vs H Q _ => ∃ (t : Addr) (o p m f : Int) (x y : V), vs = [.ref t, x, y] ∧ H t = some (tup4 o p m f) ∧
  ((∃ b, x = .bl b ∧ Q (.bl false) H) ∨ (∃ i b, x = .int i ∧ y = .bl b ∧ Q (.bl false) H) ∨ ∃ i k, x = .int i ∧ y = .int k ∧ Q (.bl (decide (1 ≤ k ∧ o ≤ i ∧ i + k ≤ o + m))) H)
theorem at4_0 {a b c d : V} : atI [a, b, c, d] 0 = some a := atI_nat (j := 0) rfl
theorem at4_1 {a b c d : V} : atI [a, b, c, d] 1 = some b := atI_nat (j := 1) rfl
theorem at4_2 {a b c d : V} : atI [a, b, c, d] 2 = some c := atI_nat (j := 2) rfl
theorem at4_3 {a b c d : V} : atI [a, b, c, d] 3 = some d := atI_nat (j := 3) rfl
section
variable {P : Program} {w : World} {K : PySem.W.Frag} {mg : Str → Option Value} {base : Heap}
theorem ok_holds {f : Addr} {fd : FuncData} (D : DefAt K mg "holds" s_holds P_holds f fd) (B : Bn mg) : FnOk P w K mg base CX0 1 f fd P_holds spHolds := by
  refine D.F.ok sc_holds (fun vs H Q E h => ?_) (fun cdv A outer s H vs Q E hr h => ?_)
  · obtain ⟨t, o, p, m, f, x, y, rfl, _⟩ := h
    rfl
  · obtain ⟨t, o, p, m, f, x, y, rfl, ht, h⟩ := h
    refine ⟨_, (pss_cons (ps_if (PW.pt (pw_or (pt_val (pe_callB call_isi (by rfl) B.isinstance (by decide +kernel) (pa_cons (pv 1) (pa_cons (pe_bltn (v := .ty "bool") (by rfl) B.bool (by decide +kernel) rfl) pa_nil)))) (pw_or (pt_val (pe_callB call_isi (by rfl) B.isinstance (by decide +kernel) (pa_cons (pv 2) (pa_cons (pe_bltn (v := .ty "bool") (by rfl) B.bool (by decide +kernel) rfl) pa_nil)))) (pw_or1 (pt_cmpR op_lt (pv 2) pe_int (nomark _)))))) (pss_one (ps_ret pe_bl)) pss_nil)
      (pss_one (ps_ret (pe_and (pe_cmpR op_le (pe_ix ix_tup (pv 0) pe_int (fun _ _ => rfl)) (pv 1) (nomark _)) (pe_one (pe_cmpR op_le (pe_op op_add (pv 1) (pv 2)) (pe_op op_add (pe_ix ix_tup (pv 0) pe_int (fun _ _ => rfl)) (pe_ix ix_tup (pv 0) pe_int (fun _ _ => rfl))) (nomark _))))))), ?_⟩
    rcases h with ⟨b, rfl, q⟩ | ⟨i, b, rfl, rfl, q⟩ | ⟨i, k, rfl, rfl, q⟩
    · exact ⟨.bl b, rfl, _, _, _, _, true, rfl, ClsV.ty _, TyX.base (TyOf.bl _), kit_ty (by decide +kernel), _, rfl, q⟩
    · refine ⟨.int i, rfl, _, _, _, _, false, rfl, ClsV.ty _, TyX.base (TyOf.int _), kit_ty (by decide +kernel), _, rfl, ?_⟩
      exact ⟨.bl b, rfl, _, _, _, _, true, rfl, ClsV.ty _, TyX.base (TyOf.bl _), kit_ty (by decide +kernel), _, rfl, q⟩
    · refine ⟨.int i, rfl, _, _, _, _, false, rfl, ClsV.ty _, TyX.base (TyOf.int _), kit_ty (by decide +kernel), _, rfl, ?_⟩
      refine ⟨.int k, rfl, _, _, _, _, false, rfl, ClsV.ty _, TyX.base (TyOf.int _), kit_ty (by decide +kernel), _, rfl, ?_⟩
      refine ⟨.int k, rfl, k, 1, rfl, rfl, _, rfl, ?_⟩
      refine ite2 (fun hk => ?_) (fun hk => ?_)
      · have hk' : k < 1 := of_decide_eq_true hk
        have e : decide (1 ≤ k ∧ o ≤ i ∧ i + k ≤ o + m) = false := decide_eq_false (by omega)
        rw [e] at q
        exact q
      · have hk' : ¬ k < 1 := fun z => hk (decide_eq_true z)
        refine ⟨.ref t, rfl, t, _, 0, .int o, rfl, rfl, SqT.of ht, at4_0, .int i, rfl, o, i, rfl, rfl, _, rfl, ?_⟩
        refine ite2 (fun h1 => ?_) (fun h1 => ?_)
        · have h1' : o ≤ i := of_decide_eq_true h1
          refine ⟨.int i, rfl, .int k, rfl, i, k, rfl, rfl, .ref t, rfl, t, _, 0, .int o, rfl, rfl, SqT.of ht, at4_0, .ref t, rfl, t, _, 2, .int m, rfl, rfl, SqT.of ht, at4_2, o, m, rfl, rfl, _, _, rfl, rfl, ?_⟩
          have e : decide (1 ≤ k ∧ o ≤ i ∧ i + k ≤ o + m) = decide (i + k ≤ o + m) := decide_eq_decide.mpr ⟨fun z => z.2.2, fun z => ⟨by omega, h1', z⟩⟩
          rw [e] at q
          exact q
        · have h1' : ¬ o ≤ i := fun z => h1 (decide_eq_true z)
          have e : decide (1 ≤ k ∧ o ≤ i ∧ i + k ≤ o + m) = false := decide_eq_false (by omega)
          rw [e] at q
          exact q
end
abbrev s_part : Stmt := top 5
abbrev N_part : List Str := ["mating", "at", "many", "one", "other", "reach", "turned", "ahead"]
abbrev P_part : List Str := ["mating", "at", "many"]
theorem sc_part : FnScope N_part P_part (defScope s_part) := ⟨rfl, rfl, rfl, by decide +kernel, rfl, by decide +kernel, by decide +kernel⟩
def partP (o p m f i k : Int) : Int := if f = 1 then p + m - (i - o) - k else p + (i - o)
def spPart : Sp := fun vs H Q _ => ∃ (t : Addr) (o p m f i k : Int), vs = [.ref t, .int i, .int k] ∧ H t = some (tup4 o p m f) ∧ (f = 0 ∨ f = 1) ∧ 1 ≤ k ∧ o ≤ i ∧ i + k ≤ o + m ∧
  ∀ r, H r = none → Q (.ref r) (upd H r (tup4 i (partP o p m f i k) k f))
section
variable {P : Program} {w : World} {K : PySem.W.Frag} {mg : Str → Option Value} {base : Heap}
theorem ok_part {f fH : Addr} {fd fdH : FuncData} (D : DefAt K mg "part" s_part P_part f fd) (D_holds : DefAt K mg "holds" s_holds P_holds fH fdH) (B : Bn mg) : FnOk P w K mg base CX0 2 f fd P_part spPart := by
  have G_holds : FnOk P w K mg base CX0 1 fH fdH P_holds spHolds := ok_holds D_holds B
  refine D.F.ok sc_part (fun vs H Q E h => ?_) (fun cdv A outer s H vs Q E hr h => ?_)
  · obtain ⟨t, o, p, m, f, i, k, rfl, _⟩ := h
    rfl
  · obtain ⟨t, o, p, m, f, i, k, rfl, ht, hf, h1, h2, h3, q⟩ := h
    refine ⟨_, (pss_cons (ps_if (pt_not (pt_val (pe_call G_holds (hr.mono (by omega)) (by rfl) D_holds.g D_holds.F.kp D_holds.b .nil pass0 (pa_cons (pv 0) (pa_cons (pv 1) (pa_cons (pv 2) pa_nil)))))) (pss_one ps_never) pss_nil)
      (pss_cons (ps_asg (pv 0) (pg_tup (by rfl) (pgs_cons (pg_name (i := 3) sc_part.nd rfl (.inl rfl)) (pgs_cons (pg_name (i := 4) sc_part.nd rfl (.inl rfl)) (pgs_cons (pg_name (i := 5) sc_part.nd rfl (.inl rfl)) (pgs_cons (pg_name (i := 6) sc_part.nd rfl (.inl rfl)) pgs_nil))))))
      (pss_cons (ps_set (i := 7) sc_part.nd rfl (.inl rfl) (pe_op op_sub (pv 1) (pv 3)))
      (pss_cons (ps_if (pt_cmpR op_eq (pv 6) pe_int (nomark _)) (pss_one (ps_ret (pe_tup (pa_cons (pv 1) (pa_cons (pe_op op_sub (pe_op op_sub (pe_op op_add (pv 4) (pv 5)) (pv 7)) (pv 2)) (pa_cons (pv 2) (pa_cons pe_int pa_nil))))))) pss_nil)
      (pss_one (ps_ret (pe_tup (pa_cons (pv 1) (pa_cons (pe_op op_add (pv 4) (pv 7)) (pa_cons (pv 2) (pa_cons pe_int pa_nil))))))))))), ?_⟩
    refine ⟨.ref t, rfl, .int i, rfl, .int k, rfl, t, o, p, m, f, .int i, .int k, rfl, ht, .inr (.inr ⟨i, k, rfl, rfl, ?_⟩)⟩
    rw [decide_eq_true (show 1 ≤ k ∧ o ≤ i ∧ i + k ≤ o + m from ⟨h1, h2, h3⟩)]
    refine ⟨true, rfl, iteF ?_⟩
    refine ⟨.ref t, rfl, t, _, rfl, SqT.of ht, rfl, .int o, _, rfl, .int p, _, rfl, .int m, _, rfl, .int f, _, rfl, rfl, ?_⟩
    refine ⟨.int i, rfl, .int o, rfl, i, o, rfl, rfl, ?_⟩
    refine ⟨.int f, rfl, rfl, _, rfl, ?_⟩
    rcases hf with rfl | rfl
    · rw [decide_eq_false (show ¬ (V.int 0 = V.int 1) from fun z => by cases z)]
      refine iteF ?_
      refine ⟨.int i, rfl, .int p, rfl, .int (i - o), rfl, p, i - o, rfl, rfl, .int k, rfl, by show 4 ≤ sizeLine; decide, fun r hr' => ?_⟩
      exact q r hr'
    · rw [decide_eq_true (show (V.int 1 = V.int 1) from rfl)]
      refine iteT ?_
      refine ⟨.int i, rfl, .int p, rfl, .int m, rfl, p, m, rfl, rfl, .int (i - o), rfl, _, _, rfl, rfl, .int k, rfl, _, _, rfl, rfl, .int k, rfl, by show 4 ≤ sizeLine; decide, fun r hr' => ?_⟩
      exact q r hr'
end

/-! ### back -/
abbrev s_back : Stmt := top 4
abbrev N_back : List Str := ["mating", "one", "other", "many", "turned"]
abbrev P_back : List Str := ["mating"]
theorem sc_back : FnScope N_back P_back (defScope s_back) := ⟨rfl, rfl, rfl, by decide +kernel, rfl, by decide +kernel, by decide +kernel⟩
def spBack : Sp := fun vs H Q _ => ∃ (t : Addr) (o p m f : Int), vs = [.ref t] ∧ H t = some (tup4 o p m f) ∧ ∀ r, H r = none → Q (.ref r) (upd H r (tup4 p o m f))
section
variable {P : Program} {w : World} {K : PySem.W.Frag} {mg : Str → Option Value} {base : Heap}
theorem ok_back {f : Addr} {fd : FuncData} (D : DefAt K mg "back" s_back P_back f fd) : FnOk P w K mg base CX0 1 f fd P_back spBack := by
  refine D.F.ok sc_back (fun vs H Q E h => ?_) (fun cdv A outer s H vs Q E hr h => ?_)
  · obtain ⟨t, o, p, m, f, rfl, _⟩ := h
    rfl
  · obtain ⟨t, o, p, m, f, rfl, ht, q⟩ := h
    refine ⟨_, (pss_cons (ps_asg (pv 0) (pg_tup (by rfl) (pgs_cons (pg_name (i := 1) sc_back.nd rfl (.inl rfl)) (pgs_cons (pg_name (i := 2) sc_back.nd rfl (.inl rfl)) (pgs_cons (pg_name (i := 3) sc_back.nd rfl (.inl rfl)) (pgs_cons (pg_name (i := 4) sc_back.nd rfl (.inl rfl)) pgs_nil))))))
      (pss_one (ps_ret (pe_tup (pa_cons (pv 2) (pa_cons (pv 1) (pa_cons (pv 3) (pa_cons (pv 4) pa_nil)))))))), ?_⟩
    refine ⟨.ref t, rfl, t, _, rfl, SqT.of ht, rfl, .int o, _, rfl, .int p, _, rfl, .int m, _, rfl, .int f, _, rfl, rfl, ?_⟩
    exact ⟨.int p, rfl, .int o, rfl, .int m, rfl, .int f, rfl, by show 4 ≤ sizeLine; decide, fun r hr' => q r hr'⟩
end

/-! ### _law_mating -/
abbrev s_mating : Stmt := top 12
abbrev N_mating : List Str := ["_law_draw", "_law_length", "_law_many", "_law_room"]
abbrev P_mating : List Str := ["_law_draw", "_law_length"]
theorem sc_mating : FnScope N_mating P_mating (defScope s_mating) := ⟨rfl, rfl, rfl, by decide +kernel, rfl, by decide +kernel, by decide +kernel⟩
structure Mat (n o p m f : Int) : Prop where
  m1 : 1 ≤ m
  o0 : 0 ≤ o
  o1 : o + m ≤ n
  p0 : 0 ≤ p
  p1 : p + m ≤ n
  f01 : f = 0 ∨ f = 1
def spMating : Sp := fun vs H Q _ => ∃ (d l : Addr) (n : Int), vs = [.ref d, .int n] ∧ Draw H d l ∧ 1 ≤ n ∧ n < 2 ^ 60 ∧
  ∀ (H' : Hp) (t : Addr) (o p m f : Int), Draw H' d l → Keep d H H' → H' t = some (tup4 o p m f) → Mat n o p m f → Q (.ref t) H'
section
variable {P : Program} {w : World} {K : PySem.W.Frag} {mg : Str → Option Value} {base : Heap}
theorem ok_mating {f fP : Addr} {fd fdP : FuncData} (D : DefAt K mg "_law_mating" s_mating P_mating f fd) (D_pull : DefAt K mg "_law_pull" s_pull P_pull fP fdP) (B : Bn mg) : FnOk P w K mg base CX0 2 f fd P_mating spMating := by
  have G_pull : FnOk P w K mg base CX0 1 fP fdP P_pull spPull := ok_pull D_pull B
  refine D.F.ok sc_mating (fun vs H Q E h => ?_) (fun cdv A outer s H vs Q E hr h => ?_)
  · obtain ⟨d, l, n, rfl, _⟩ := h
    rfl
  · obtain ⟨d, l, n, rfl, hD, n1, n2, q⟩ := h
    refine ⟨_, (pss_cons (ps_set (i := 2) sc_mating.nd rfl (.inl rfl) (pe_op op_add pe_int (pe_call G_pull (hr.mono (by omega)) (by rfl) D_pull.g D_pull.F.kp D_pull.b .nil pass0 (pa_cons (pv 0) (pa_cons (pv 1) pa_nil)))))
      (C8.pss_cut (ps_if (pt_cmpR op_eq (pe_call G_pull (hr.mono (by omega)) (by rfl) D_pull.g D_pull.F.kp D_pull.b .nil pass0 (pa_cons (pv 0) (pa_cons pe_int pa_nil))) pe_int (nomark _)) (pss_one (ps_set (i := 2) sc_mating.nd rfl (.inl rfl) (pe_op op_add pe_int (pe_call G_pull (hr.mono (by omega)) (by rfl) D_pull.g D_pull.F.kp D_pull.b .nil pass0 (pa_cons (pv 0) (pa_cons (pe_callB (call_min2 rfl) (by rfl) B.min (by decide +kernel) (pa_cons (pv 2) (pa_cons pe_int pa_nil))) pa_nil)))))) pss_nil)
      (pss_cons (ps_set (i := 3) sc_mating.nd rfl (.inl rfl) (pe_op op_add (pe_op op_sub (pv 1) (pv 2)) pe_int))
      (pss_one (ps_ret (pe_tup (pa_cons (pe_call G_pull (hr.mono (by omega)) (by rfl) D_pull.g D_pull.F.kp D_pull.b .nil pass0 (pa_cons (pv 0) (pa_cons (pv 3) pa_nil))) (pa_cons (pe_call G_pull (hr.mono (by omega)) (by rfl) D_pull.g D_pull.F.kp D_pull.b .nil pass0 (pa_cons (pv 0) (pa_cons (pv 3) pa_nil))) (pa_cons (pv 2) (pa_cons (pe_call G_pull (hr.mono (by omega)) (by rfl) D_pull.g D_pull.F.kp D_pull.b .nil pass0 (pa_cons (pv 0) (pa_cons pe_int pa_nil))) pa_nil)))))))))), ?_⟩
    refine ⟨.ref d, rfl, .int n, rfl, d, l, n, rfl, hD, n1, by omega, fun a H1 a0 a1 D1 k1 => ?_⟩
    refine ⟨1, a, rfl, rfl, ?_⟩
    refine ⟨fun σ H' => ∃ m : Int, σ = [some (.ref d), some (.int n), some (.int m), none] ∧ Draw H' d l ∧ Keep d H H' ∧ 1 ≤ m ∧ m ≤ n, ?_, ?_⟩
    · refine ⟨.ref d, rfl, d, l, 2, rfl, D1, by decide, by decide, fun b H2 b0 b1 D2 k2 => ?_⟩
      refine ⟨rfl, _, rfl, ?_⟩
      refine ite2 (fun _ => ?_) (fun _ => ?_)
      · refine ⟨.ref d, rfl, .int (1 + a), rfl, 1 + a, 5, rfl, d, l, _, rfl, D2, ?_, ?_, fun c H3 c0 c1 D3 k3 => ?_⟩
        · split <;> omega
        · split <;> omega
        · refine ⟨1, c, rfl, rfl, 1 + c, rfl, D3, (k1.trans k2).trans k3, by omega, ?_⟩
          have c1' : c < (if (5 : Int) < 1 + a then 5 else 1 + a) := c1
          split at c1' <;> omega
      · exact ⟨1 + a, rfl, D2, k1.trans k2, by omega, by omega⟩
    · rintro σ H3 ⟨m, rfl, D3, k3, m1, m2⟩
      refine ⟨.int n, rfl, .int m, rfl, n, m, rfl, rfl, _, 1, rfl, rfl, ?_⟩
      refine ⟨.ref d, rfl, .int (n - m + 1), rfl, d, l, n - m + 1, rfl, D3, by omega, by omega, fun o H4 o0 o1 D4 k4 => ?_⟩
      refine ⟨.ref d, rfl, .int (n - m + 1), rfl, d, l, n - m + 1, rfl, D4, by omega, by omega, fun p H5 p0 p1 D5 k5 => ?_⟩
      refine ⟨.int m, rfl, .ref d, rfl, d, l, 2, rfl, D5, by decide, by decide, fun f H6 f0 f1 D6 k6 => ?_⟩
      refine ⟨by show 4 ≤ sizeLine; decide, fun t nt => ?_⟩
      exact q _ t o p m f (D6.same (same_upd nt)) ((((k3.trans k4).trans k5).trans k6).trans (keepS (same_upd nt))) upd_same ⟨m1, o0, by omega, p0, by omega, by omega⟩
end

/-! ### _law_ends -/
abbrev s_ends : Stmt := top 13
abbrev N_ends : List Str := ["_law_mating_here", "_law_one", "_law_other", "_law_many", "_law_flips", "_law_found", "_law_k"]
abbrev P_ends : List Str := ["_law_mating_here"]
theorem sc_ends : FnScope N_ends P_ends (defScope s_ends) := ⟨rfl, rfl, rfl, by decide +kernel, rfl, by decide +kernel, by decide +kernel⟩
def endQ (p m f k : Int) : Int := if f = 1 then p + m - 1 - k else p + k
def endL (o p m f : Int) (n : Nat) : List (Int × Int) := (List.range n).map fun (k : Nat) => (o + (k : Int), endQ p m f (k : Int))
/-- the pairs at these addresses -/
def Prs (H : Hp) (ps : List Addr) (xs : List (Int × Int)) : Prop := Paired (fun a x => H a = some (.tup [.int x.1, .int x.2])) ps xs
theorem Paired.same {H H' : Hp} (e : Same H H') : ∀ {ps : List Addr} {xs : List (Int × Int)}, Prs H ps xs → Prs H' ps xs
  | _, _, .nil => .nil
  | _, _, .cons h r => .cons (e _ _ h) (Paired.same e r)
theorem Prs.same {H H' : Hp} {ps : List Addr} {xs : List (Int × Int)} (h : Prs H ps xs) (e : Same H H') : Prs H' ps xs := Paired.same e h
theorem Prs.snoc {H : Hp} : ∀ {ps : List Addr} {xs : List (Int × Int)} {a : Addr} {x : Int × Int}, Prs H ps xs → H a = some (.tup [.int x.1, .int x.2]) → Prs H (ps ++ [a]) (xs ++ [x])
  | _, _, _, _, .nil, h => .cons h .nil
  | _, _, _, _, .cons h r, h2 => .cons h (Prs.snoc r h2)
theorem Prs.length {H : Hp} : ∀ {ps : List Addr} {xs : List (Int × Int)}, Prs H ps xs → ps.length = xs.length
  | _, _, .nil => rfl
  | _, _, .cons _ r => congrArg (· + 1) (Prs.length r)
theorem Prs.get {H : Hp} : ∀ {ps : List Addr} {xs : List (Int × Int)}, Prs H ps xs → ∀ (i : Nat) (x : Int × Int), xs[i]? = some x → ∃ a, ps[i]? = some a ∧ H a = some (.tup [.int x.1, .int x.2])
  | _, _, .nil, i, x, h => by simp at h
  | _, _, .cons (a := a) h r, 0, x, e => by
    cases e
    exact ⟨a, rfl, h⟩
  | _, _, .cons h r, i + 1, x, e => Prs.get r i x e
theorem Prs.rp {H : Hp} : ∀ {ps : List Addr} {xs : List (Int × Int)}, Prs H ps xs → ∀ n, RpAll H (n + 1) (ps.map V.ref) (xs.map fun x => .tuple [.int x.1, .int x.2])
  | _, _, .nil, n => .nil _
  | _, _, .cons h r, n => .cons (.tup h (by show 2 ≤ 100000; decide) (.cons (.int _ _) (.cons (.int _ _) (.nil _)))) (Prs.rp r n)
theorem endL_snoc (o p m f : Int) (n : Nat) : endL o p m f (n + 1) = endL o p m f n ++ [(o + (n : Int), endQ p m f (n : Int))] := by
  unfold endL
  rw [List.range_succ, List.map_append]
  rfl
theorem endL_length (o p m f : Int) (n : Nat) : (endL o p m f n).length = n := by
  unfold endL
  rw [List.length_map, List.length_range]
def spEnds : Sp := fun vs H Q _ => ∃ (t : Addr) (o p f : Int) (m : Nat), vs = [.ref t] ∧ H t = some (tup4 o p (m : Int) f) ∧ m ≤ 50000 ∧
  ∀ (H' : Hp) (r : Addr) (ps : List Addr), Same H H' → H r = none → H' r = some (.lst (ps.map V.ref)) → Prs H' ps (endL o p m f m) → Q (.ref r) H'
section
variable {P : Program} {w : World} {K : PySem.W.Frag} {mg : Str → Option Value} {base : Heap}
theorem ok_ends {f : Addr} {fd : FuncData} (D : DefAt K mg "_law_ends" s_ends P_ends f fd) (B : Bn mg) : FnOk P w K mg base CX0 1 f fd P_ends spEnds := by
  refine D.F.ok sc_ends (fun vs H Q E h => ?_) (fun cdv A outer s H vs Q E hr h => ?_)
  · obtain ⟨t, o, p, f, m, rfl, _⟩ := h
    rfl
  · obtain ⟨t, o, p, f, m, rfl, ht, hm, q⟩ := h
    refine ⟨_, (pss_cons (ps_asg (pv 0) (pg_tup (by rfl) (pgs_cons (pg_name (i := 1) sc_ends.nd rfl (.inl rfl)) (pgs_cons (pg_name (i := 2) sc_ends.nd rfl (.inl rfl)) (pgs_cons (pg_name (i := 3) sc_ends.nd rfl (.inl rfl)) (pgs_cons (pg_name (i := 4) sc_ends.nd rfl (.inl rfl)) pgs_nil))))))
      (pss_cons (ps_set (i := 5) sc_ends.nd rfl (.inl rfl) (pe_lst pa_nil))
      (pss_cons (ps_for PassesOwn.never rfl (pi_range1 (by rfl) B.range (pa_cons (pv 3) pa_nil)) (pg_name (i := 6) sc_ends.nd rfl (.inl rfl)) (pss_one (ps_expr (pe_bm PySem.F.plainAttrs_list PySem.F.slot_list_append PySem.F.type_list_append mt_append (pv 5) (pa_cons (pe_tup (pa_cons (pe_op op_add (pv 1) (pv 6)) (pa_cons (pe_ifExp (pt_cmpR op_eq (pv 4) pe_int (nomark _)) (pe_op op_sub (pe_op op_sub (pe_op op_add (pv 2) (pv 3)) pe_int) (pv 6)) (pe_op op_add (pv 2) (pv 6))) pa_nil))) pa_nil)))))
      (pss_one (ps_ret (pv 5)))))), ?_⟩
    refine ⟨.ref t, rfl, t, _, rfl, SqT.of ht, rfl, .int o, _, rfl, .int p, _, rfl, .int (m : Int), _, rfl, .int f, _, rfl, rfl, ?_⟩
    refine ⟨Nat.zero_le _, fun r nr => ?_⟩
    refine ⟨.int (m : Int), rfl, (m : Int), rfl, by omega, by omega, for_range (lo := 0) (n := ((m : Int)).toNat) (fun i σ H2 => ∃ (y : Option V) (ps : List Addr), σ = [some (.ref t), some (.int o), some (.int p), some (.int (m : Int)), some (.int f), some (.ref r), y] ∧ Same H H2 ∧ H2 r = some (.lst (ps.map V.ref)) ∧ Prs H2 ps (endL o p m f i))
      ⟨none, [], rfl, same_upd nr, upd_same, .nil⟩ ?_ ?_⟩
    · rintro i σ H2 hi ⟨y, ps, rfl, sm, e2, pr⟩
      have hl := pr.length
      rw [endL_length] at hl
      have hlt : (ps.map V.ref).length < sizeLine := sz_lt (by rw [List.length_map]; omega)
      have fin : ∀ (a : Addr) (z : Int), H2 a = none → z = endQ p m f (i : Int) → ∃ (y : Option V) (ps' : List Addr), ([some (.ref t), some (.int o), some (.int p), some (.int (m : Int)), some (.int f), some (.ref r), some (.int (0 + (i : Int)))] : List (Option V)) = [some (.ref t), some (.int o), some (.int p), some (.int (m : Int)), some (.int f), some (.ref r), y] ∧ Same H (upd (upd H2 a (.tup [.int (o + (0 + (i : Int))), .int z])) r (.lst ((ps.map V.ref) ++ [.ref a]))) ∧
          (upd (upd H2 a (.tup [.int (o + (0 + (i : Int))), .int z])) r (.lst ((ps.map V.ref) ++ [.ref a]))) r = some (.lst (ps'.map V.ref)) ∧ Prs (upd (upd H2 a (.tup [.int (o + (0 + (i : Int))), .int z])) r (.lst ((ps.map V.ref) ++ [.ref a]))) ps' (endL o p m f (i + 1)) := fun a z na ez => by
        have nar : a ≠ r := (ne_of_none e2 na).symm
        refine ⟨_, ps ++ [a], rfl, fun b o' hb => ?_, ?_, ?_⟩
        · rw [upd_ne (ne_of_none hb nr), upd_ne (ne_of_none (sm _ _ hb) na)]
          exact sm _ _ hb
        · rw [upd_same, List.map_append]
          rfl
        · rw [endL_snoc]
          refine Prs.snoc (Paired.mapP pr fun b x hb => ?_) ?_
          · have nbr : b ≠ r := ne_of hb e2 (fun z => by cases z)
            rw [upd_ne nbr, upd_ne (ne_of_none hb na)]
            exact hb
          · rw [upd_ne nar, upd_same, ez, show o + (0 + (i : Int)) = o + (i : Int) by omega]
      -- found.append((one + k, ..))
      refine ⟨.ref r, rfl, .inl ⟨rfl, _, SqL.of e2⟩, .int o, rfl, .int (0 + (i : Int)), rfl, o, _, rfl, rfl, .int f, rfl, rfl, _, rfl, ?_⟩
      refine ite2 (fun hf => ?_) (fun hf => ?_)
      · have hf' : f = 1 := V.int.inj (of_decide_eq_true hf)
        refine ⟨.int p, rfl, .int (m : Int), rfl, p, _, rfl, rfl, _, 1, rfl, rfl, .int (0 + (i : Int)), rfl, _, _, rfl, rfl, by show 2 ≤ sizeLine; decide, fun a na => ?_⟩
        exact ⟨r, _, _, rfl, rfl, (by rw [upd_ne (ne_of_none e2 na)]; exact e2), hlt, fin a _ na (by unfold endQ; rw [if_pos hf']; omega)⟩
      · have hf' : ¬ f = 1 := fun z => hf (decide_eq_true (congrArg V.int z))
        refine ⟨.int p, rfl, .int (0 + (i : Int)), rfl, p, _, rfl, rfl, by show 2 ≤ sizeLine; decide, fun a na => ?_⟩
        exact ⟨r, _, _, rfl, rfl, (by rw [upd_ne (ne_of_none e2 na)]; exact e2), hlt, fin a _ na (by unfold endQ; rw [if_neg hf']; omega)⟩
    · rintro σ H2 ⟨y, ps, rfl, sm, e2, pr⟩
      exact ⟨.ref r, rfl, q H2 r ps sm nr e2 (by rw [Int.toNat_natCast] at pr; exact pr)⟩
end

/-! ### dicts of pairs -/
def kvp (x : Int × Int) : Key × V := (Sum.inl x.1, V.int x.2)
theorem merge_none (x : Int) : ∀ (xs : List (Int × Int)) (acc : List (Key × V)), (∀ q ∈ xs, q.1 ≠ x) → valV (mergeK acc (xs.map kvp)) (Sum.inl x : Key) = valV acc (Sum.inl x : Key)
  | [], acc, _ => rfl
  | q :: r, acc, h => by
    show valV (mergeK (putK acc (kvp q).1 (kvp q).2) (r.map kvp)) _ = _
    rw [merge_none x r _ fun z hz => h z (List.mem_cons_of_mem _ hz), valV_put, if_neg]
    intro e
    exact h q (List.mem_cons_self ..) (Sum.inl.inj e).symm
theorem merge_some (x y : Int) : ∀ (xs : List (Int × Int)) (acc : List (Key × V)), (x, y) ∈ xs → (∀ q ∈ xs, q.1 = x → q.2 = y) → valV (mergeK acc (xs.map kvp)) (Sum.inl x : Key) = some (.int y)
  | [], acc, hm, _ => absurd hm List.not_mem_nil
  | q :: r, acc, hm, h => by
    show valV (mergeK (putK acc (kvp q).1 (kvp q).2) (r.map kvp)) _ = _
    by_cases hr : ∃ z ∈ r, z.1 = x
    · obtain ⟨z, hz, e⟩ := hr
      have e2 := h z (List.mem_cons_of_mem _ hz) e
      refine merge_some x y r _ ?_ fun z hz => h z (List.mem_cons_of_mem _ hz)
      have : z = (x, y) := Prod.ext e e2
      rw [← this]
      exact hz
    · rw [merge_none x r _ fun z hz e => hr ⟨z, hz, e⟩]
      have eq : q = (x, y) := by
        rcases List.mem_cons.mp hm with e | e
        · exact e.symm
        · exact absurd ⟨_, e, rfl⟩ hr
      subst eq
      rw [valV_put]
      exact if_pos rfl
theorem mem_endL {o p m f : Int} {n : Nat} {x : Int × Int} : x ∈ endL o p m f n ↔ ∃ k : Nat, k < n ∧ x = (o + (k : Int), endQ p m f (k : Int)) := by
  unfold endL
  rw [List.mem_map]
  constructor
  · rintro ⟨k, hk, e⟩
    exact ⟨k, List.mem_range.mp hk, e.symm⟩
  · rintro ⟨k, hk, e⟩
    exact ⟨k, List.mem_range.mpr hk, e.symm⟩
theorem Prs.dict {H : Hp} {K : PySem.W.Frag} : ∀ {ps : List Addr} {xs : List (Int × Int)}, Prs H ps xs → Paired (fun p (kv : Key × V) => SqT K H p [kV kv.1, kv.2]) ps (xs.map kvp)
  | _, _, .nil => .nil
  | _, _, .cons h r => .cons (SqT.of h) (Prs.dict r)
/-- what the dict of the ends tells -/
theorem kept_is (o p f : Int) (m : Nat) (i : Int) : valV (mergeK [] ((endL o p m f m).map kvp)) (Sum.inl i : Key) = if o ≤ i ∧ i + 1 ≤ o + m then some (.int (partP o p m f i 1)) else none := by
  by_cases hi : o ≤ i ∧ i + 1 ≤ o + m
  · rw [if_pos hi]
    obtain ⟨k, hk⟩ : ∃ k : Nat, i = o + (k : Int) := ⟨(i - o).toNat, by omega⟩
    subst hk
    refine merge_some _ _ _ _ (mem_endL.mpr ⟨k, by omega, ?_⟩) fun q hq e => ?_
    · refine Prod.ext rfl ?_
      show partP o p m f (o + (k : Int)) 1 = endQ p m f (k : Int)
      unfold partP endQ
      split <;> omega
    · obtain ⟨j, hj, rfl⟩ := mem_endL.mp hq
      have e' : o + (j : Int) = o + (k : Int) := e
      have ej : j = k := by omega
      subst ej
      show endQ p m f (j : Int) = partP o p m f (o + (j : Int)) 1
      unfold partP endQ
      split <;> omega
  · rw [if_neg hi, merge_none]
    · rfl
    · intro q hq e
      obtain ⟨j, hj, rfl⟩ := mem_endL.mp hq
      have e' : o + (j : Int) = i := e
      exact hi ⟨by omega, by omega⟩
theorem turned_is (o p f : Int) (m : Nat) (i : Int) : valV (mergeK [] (((endL o p m f m).map fun x => (x.2, x.1)).map kvp)) (Sum.inl i : Key) = if p ≤ i ∧ i + 1 ≤ p + m then some (.int (partP p o m f i 1)) else none := by
  have mem : ∀ q, q ∈ ((endL o p m f m).map fun x => (x.2, x.1)) ↔ ∃ k : Nat, k < m ∧ q = (endQ p m f (k : Int), o + (k : Int)) := fun q => by
    rw [List.mem_map]
    constructor
    · rintro ⟨x, hx, rfl⟩
      obtain ⟨k, hk, rfl⟩ := mem_endL.mp hx
      exact ⟨k, hk, rfl⟩
    · rintro ⟨k, hk, rfl⟩
      exact ⟨_, mem_endL.mpr ⟨k, hk, rfl⟩, rfl⟩
  by_cases hi : p ≤ i ∧ i + 1 ≤ p + m
  · rw [if_pos hi]
    by_cases hf : f = 1
    · obtain ⟨k, hk⟩ : ∃ k : Nat, p + m - 1 - i = (k : Int) := ⟨(p + m - 1 - i).toNat, by omega⟩
      refine merge_some _ _ _ _ ((mem _).mpr ⟨k, by omega, Prod.ext ?_ ?_⟩) fun q hq e => ?_
      · show i = endQ p m f (k : Int)
        unfold endQ
        rw [if_pos hf]
        omega
      · show partP p o m f i 1 = o + (k : Int)
        unfold partP
        rw [if_pos hf]
        omega
      · obtain ⟨j, hj, rfl⟩ := (mem q).mp hq
        have e' : endQ p m f (j : Int) = i := e
        unfold endQ at e'
        rw [if_pos hf] at e'
        show o + (j : Int) = partP p o m f i 1
        unfold partP
        rw [if_pos hf]
        omega
    · obtain ⟨k, hk⟩ : ∃ k : Nat, i - p = (k : Int) := ⟨(i - p).toNat, by omega⟩
      refine merge_some _ _ _ _ ((mem _).mpr ⟨k, by omega, Prod.ext ?_ ?_⟩) fun q hq e => ?_
      · show i = endQ p m f (k : Int)
        unfold endQ
        rw [if_neg hf]
        omega
      · show partP p o m f i 1 = o + (k : Int)
        unfold partP
        rw [if_neg hf]
        omega
      · obtain ⟨j, hj, rfl⟩ := (mem q).mp hq
        have e' : endQ p m f (j : Int) = i := e
        unfold endQ at e'
        rw [if_neg hf] at e'
        show o + (j : Int) = partP p o m f i 1
        unfold partP
        rw [if_neg hf]
        omega
  · rw [if_neg hi, merge_none]
    · rfl
    · intro q hq e
      obtain ⟨j, hj, rfl⟩ := (mem q).mp hq
      have e' : endQ p m f (j : Int) = i := e
      unfold endQ at e'
      split at e' <;> exact hi ⟨by omega, by omega⟩

/-! ### lists of pairs as data -/
def pd (x : Int × Int) : PyData := .tuple [.int x.1, .int x.2]
theorem lay_pairs : ∀ xs : List (Int × Int), PyData.canLayAll0 (xs.map pd) = true
  | [] => rfl
  | x :: r => by
    show (PyData.canLay0 (pd x) && PyData.canLayAll0 (r.map pd)) = true
    rw [lay_pairs r]
    rfl
theorem depth_pairs : ∀ xs : List (Int × Int), PyData.depthAll (xs.map pd) ≤ 1
  | [] => Nat.zero_le _
  | x :: r => Nat.max_le.mpr ⟨Nat.le_refl 1, depth_pairs r⟩
theorem shaped_pairs (xs : List (Int × Int)) : SeqAt.shaped (.list (xs.map pd)) = true := by
  unfold SeqAt.shaped
  rw [show PyData.canLay0 (.list (xs.map pd)) = true from lay_pairs xs, Bool.true_and, decide_eq_true_eq]
  have := depth_pairs xs
  show PyData.depthAll (xs.map pd) + 1 ≤ 64
  omega
theorem eqv_nil : ∀ xs : List (Int × Int), PyData.eqv (.list (xs.map pd)) (.list []) = xs.isEmpty
  | [] => rfl
  | x :: r => rfl
theorem Prs.dp {H : Hp} {K : PySem.W.Frag} : ∀ {ps : List Addr} {xs : List (Int × Int)}, Prs H ps xs → DpAll K H (ps.map V.ref) (xs.map pd)
  | _, _, .nil => .nil
  | _, _, .cons h r => .cons (.tup (SqT.of h) (.cons (.int _) (.cons (.int _) .nil))) (Prs.dp r)
theorem Prs.rpd {H : Hp} {ps : List Addr} {xs : List (Int × Int)} (h : Prs H ps xs) (n : Nat) : RpAll H (n + 1) (ps.map V.ref) (xs.map pd) := h.rp n
/-- a list of pairs that grows by one -/
theorem Prs.grow {H : Hp} {r a : Addr} {ps : List Addr} {xs : List (Int × Int)} {x : Int × Int} {o : HO} (h : Prs H ps xs) (hr : H r = some (.lst (ps.map V.ref))) (ha : H a = some (.tup [.int x.1, .int x.2])) :
    Prs (upd H r (.lst ((ps.map V.ref) ++ [.ref a]))) (ps ++ [a]) (xs ++ [x]) := by
  have ne : ∀ {b : Addr} {y : Int × Int}, H b = some (.tup [.int y.1, .int y.2]) → b ≠ r := fun hb => ne_of hb hr (fun z => by cases z)
  refine Prs.snoc (Paired.mapP h fun b y hb => ?_) ?_
  · rw [upd_ne (ne hb)]
    exact hb
  · rw [upd_ne (ne ha)]
    exact ha

/-! ### _law_scaled -/
abbrev s_scaled : Stmt := top 14
abbrev N_scaled : List Str := ["_law_matings", "_law_times", "_law_one", "_law_other", "_law_many", "_law_flips"]
abbrev P_scaled : List Str := ["_law_matings", "_law_times"]
theorem sc_scaled : FnScope N_scaled P_scaled (defScope s_scaled) := ⟨rfl, rfl, rfl, by decide +kernel, rfl, by decide +kernel, by decide +kernel⟩
def spScaled : Sp := fun vs H Q _ => ∃ (L t : Addr) (o p m f k : Int), vs = [.ref L, .int k] ∧ H L = some (.lst [.ref t]) ∧ H t = some (tup4 o p m f) ∧ (-(2 ^ 64) < k ∧ k < 2 ^ 64) ∧
  ∀ (H' : Hp) (r u : Addr), Same H H' → H' r = some (.lst [.ref u]) → H' u = some (tup4 (o * k) (p * k) (m * k) f) → Q (.ref r) H'
section
variable {P : Program} {w : World} {K : PySem.W.Frag} {mg : Str → Option Value} {base : Heap}
theorem ok_scaled {f : Addr} {fd : FuncData} (D : DefAt K mg "_law_scaled" s_scaled P_scaled f fd) : FnOk P w K mg base CX0 1 f fd P_scaled spScaled := by
  refine D.F.ok sc_scaled (fun vs H Q E h => ?_) (fun cdv A outer s H vs Q E hr h => ?_)
  · obtain ⟨L, t, o, p, m, f, k, rfl, _⟩ := h
    rfl
  · obtain ⟨L, t, o, p, m, f, k, rfl, hL, ht, hk, q⟩ := h
    refine ⟨_, (pss_one (ps_ret (pe_lc (own := [("_law_one", 2), ("_law_other", 3), ("_law_many", 4), ("_law_flips", 5)]) (g := gTup K 4 (gCons (gName 2) (gCons (gName 3) (gCons (gName 4) (gCons (gName 5) gNil))))) (by rfl) sc_scaled.nd (pi_list (pv 0)) (blkOk_by (own := [("_law_one", 2), ("_law_other", 3), ("_law_many", 4), ("_law_flips", 5)]) (N := N_scaled) (sc := defScope s_scaled) (by decide +kernel)) (fun _ _ _ _ _ => (pg_tup (by rfl) (pgs_cons (pg_name (i := 2) sc_scaled.nd rfl (.inl rfl)) (pgs_cons (pg_name (i := 3) sc_scaled.nd rfl (.inl rfl)) (pgs_cons (pg_name (i := 4) sc_scaled.nd rfl (.inl rfl)) (pgs_cons (pg_name (i := 5) sc_scaled.nd rfl (.inl rfl)) pgs_nil)))))) (fun _ _ _ _ _ => pts_nil) (fun _ _ _ _ _ => (pe_tup (pa_cons (pe_op op_mul (pv 2) (pv 1)) (pa_cons (pe_op op_mul (pv 3) (pv 1)) (pa_cons (pe_op op_mul (pv 4) (pv 1)) (pa_cons (pv 5) pa_nil))))))))), ?_⟩
    refine ⟨.ref L, rfl, L, rfl, ⟨_, SqL.of hL⟩, fun D hD => lc_list (K := K) (a := L) (xs := [.ref t]) (fun i H2 => Same H H2 ∧ ((i = 0 ∧ H2 D = some (.lst [])) ∨ (i = 1 ∧ ∃ u, H2 D = some (.lst [.ref u]) ∧ H2 u = some (tup4 (o * k) (p * k) (m * k) f))))
      ⟨same_upd hD, .inl ⟨rfl, upd_same⟩⟩ (fun i H2 _ ⟨sm, _⟩ => SqL.of (sm _ _ hL)) ?_ ?_⟩
    · rintro i x H2 hx ⟨sm, h⟩
      have i0 : i = 0 := by
        have := (List.getElem?_eq_some_iff.mp hx).1
        have : i < 1 := this
        omega
      subst i0
      cases hx
      rcases h with ⟨_, eD⟩ | ⟨z, _⟩
      · refine ⟨t, _, rfl, SqT.of (sm _ _ ht), rfl, .int o, _, rfl, .int p, _, rfl, .int m, _, rfl, .int f, _, rfl, rfl, rfl, ?_⟩
        refine ⟨.int o, rfl, .int k, rfl, o, k, rfl, rfl, .inr hk, .int p, rfl, .int k, rfl, p, k, rfl, rfl, .inr hk, .int m, rfl, .int k, rfl, m, k, rfl, rfl, .inr hk, .int f, rfl, by show 4 ≤ sizeLine; decide, fun u nu => ?_⟩
        have nuD : u ≠ D := (ne_of_none eD nu).symm
        refine ⟨[], same_upd nu _ _ eD, by decide, fun b o' hb => ?_, .inr ⟨rfl, u, upd_same, ?_⟩⟩
        · rw [upd_ne (ne_of_none hb hD), upd_ne (ne_of_none (sm _ _ hb) nu)]
          exact sm _ _ hb
        · rw [upd_ne nuD]
          exact upd_same
      · omega
    · rintro H2 ⟨sm, h⟩
      rcases h with ⟨z, _⟩ | ⟨_, u, e1, e2⟩
      · exact absurd (show (1 : Nat) = 0 from z) (by decide)
      · exact q H2 D u sm e1 e2
end

/-! ### after -/
abbrev s_after : Stmt := top 7
abbrev N_after : List Str := ["first", "second", "low", "many", "start", "goal"]
abbrev P_after : List Str := ["first", "second"]
theorem sc_after : FnScope N_after P_after (defScope s_after) := ⟨rfl, rfl, rfl, by decide +kernel, rfl, by decide +kernel, by decide +kernel⟩
def aftLo (p q : Int) : Int := if q > p then q else p
def aftHi (p m q n : Int) : Int := if q + n < p + m then q + n else p + m
def xorP (f g : Int) : Int := if f = g then 0 else 1
theorem xor_is {f g : Int} (hf : f = 0 ∨ f = 1) (hg : g = 0 ∨ g = 1) : Builtin.bitXor f g = xorP f g := by
  rcases hf with rfl | rfl <;> rcases hg with rfl | rfl <;> decide
def spAfter : Sp := fun vs H Q _ => ∃ (t u : Addr) (o p m f q r n g : Int), vs = [.ref t, .ref u] ∧ H t = some (tup4 o p m f) ∧ H u = some (tup4 q r n g) ∧ (f = 0 ∨ f = 1) ∧ (g = 0 ∨ g = 1) ∧
  (aftHi p m q n - aftLo p q < 1 → Q .non H) ∧ (1 ≤ aftHi p m q n - aftLo p q → ∀ (H' : Hp) (x : Addr), Same H H' → H' x = some (tup4 (partP p o m f (aftLo p q) (aftHi p m q n - aftLo p q)) (partP q r n g (aftLo p q) (aftHi p m q n - aftLo p q)) (aftHi p m q n - aftLo p q) (xorP f g)) → Q (.ref x) H')
theorem aft_b (p m q n : Int) : p ≤ aftLo p q ∧ q ≤ aftLo p q ∧ aftHi p m q n ≤ p + m ∧ aftHi p m q n ≤ q + n := by
  unfold aftLo aftHi
  split <;> split <;> omega
theorem rp4 {H : Hp} {t : Addr} {o p m f : Int} (n : Nat) (h : H t = some (tup4 o p m f)) : Rp H (n + 1) (.ref t) (.tuple [.int o, .int p, .int m, .int f]) :=
  .tup h (by show 4 ≤ 100000; decide) (.cons (.int _ _) (.cons (.int _ _) (.cons (.int _ _) (.cons (.int _ _) (.nil _)))))
section
variable {P : Program} {w : World} {K : PySem.W.Frag} {mg : Str → Option Value} {base : Heap}
theorem ok_after {f fB fH fP : Addr} {fd fdB fdH fdP : FuncData} (D : DefAt K mg "after" s_after P_after f fd) (D_back : DefAt K mg "back" s_back P_back fB fdB) (D_part : DefAt K mg "part" s_part P_part fP fdP) (D_holds : DefAt K mg "holds" s_holds P_holds fH fdH) (B : Bn mg) : FnOk P w K mg base CX0 3 f fd P_after spAfter := by
  have G_back : FnOk P w K mg base CX0 1 fB fdB P_back spBack := ok_back D_back
  have G_part : FnOk P w K mg base CX0 2 fP fdP P_part spPart := ok_part D_part D_holds B
  refine D.F.ok sc_after (fun vs H Q E h => ?_) (fun cdv A outer s H vs Q E hr h => ?_)
  · obtain ⟨t, u, o, p, m, f, q, r, n, g, rfl, _⟩ := h
    rfl
  · obtain ⟨t, u, o, p, m, f, q, r, n, g, rfl, ht, hu', hf, hg, q1, q2⟩ := h
    refine ⟨_, (pss_cons (ps_set (i := 2) sc_after.nd rfl (.inl rfl) (pe_callB (call_max2 rfl) (by rfl) B.max (by decide +kernel) (pa_cons (pe_ix ix_tup (pv 0) pe_int (fun _ _ => rfl)) (pa_cons (pe_ix ix_tup (pv 1) pe_int (fun _ _ => rfl)) pa_nil))))
      (pss_cons (ps_set (i := 3) sc_after.nd rfl (.inl rfl) (pe_op op_sub (pe_callB (call_min2 rfl) (by rfl) B.min (by decide +kernel) (pa_cons (pe_op op_add (pe_ix ix_tup (pv 0) pe_int (fun _ _ => rfl)) (pe_ix ix_tup (pv 0) pe_int (fun _ _ => rfl))) (pa_cons (pe_op op_add (pe_ix ix_tup (pv 1) pe_int (fun _ _ => rfl)) (pe_ix ix_tup (pv 1) pe_int (fun _ _ => rfl))) pa_nil))) (pv 2)))
      (pss_cons (ps_if (pt_cmpR op_lt (pv 3) pe_int (nomark _)) (pss_one (ps_ret pe_non)) pss_nil)
      (pss_cons (ps_set (i := 4) sc_after.nd rfl (.inl rfl) (pe_call G_part (hr.mono (by omega)) (by rfl) D_part.g D_part.F.kp D_part.b .nil pass0 (pa_cons (pe_call G_back (hr.mono (by omega)) (by rfl) D_back.g D_back.F.kp D_back.b .nil pass0 (pa_cons (pv 0) pa_nil)) (pa_cons (pv 2) (pa_cons (pv 3) pa_nil)))))
      (pss_cons (ps_set (i := 5) sc_after.nd rfl (.inl rfl) (pe_call G_part (hr.mono (by omega)) (by rfl) D_part.g D_part.F.kp D_part.b .nil pass0 (pa_cons (pv 1) (pa_cons (pv 2) (pa_cons (pv 3) pa_nil)))))
      (pss_one (ps_ret (pe_tup (pa_cons (pe_ix ix_tup (pv 4) pe_int (fun _ _ => rfl)) (pa_cons (pe_ix ix_tup (pv 5) pe_int (fun _ _ => rfl)) (pa_cons (pv 3) (pa_cons (pe_op op_xor (pe_ix ix_tup (pv 4) pe_int (fun _ _ => rfl)) (pe_ix ix_tup (pv 5) pe_int (fun _ _ => rfl))) pa_nil)))))))))))), ?_⟩
    refine ⟨.ref t, rfl, t, _, 1, .int p, rfl, rfl, SqT.of ht, at4_1, .ref u, rfl, u, _, 0, .int q, rfl, rfl, SqT.of hu', at4_0, p, q, rfl, ?_⟩
    refine ⟨.ref t, rfl, t, _, 1, .int p, rfl, rfl, SqT.of ht, at4_1, .ref t, rfl, t, _, 2, .int m, rfl, rfl, SqT.of ht, at4_2, p, m, rfl, rfl, .ref u, rfl, u, _, 0, .int q, rfl, rfl, SqT.of hu', at4_0, .ref u, rfl, u, _, 2, .int n, rfl, rfl, SqT.of hu', at4_2, q, n, rfl, rfl, _, _, rfl, _, rfl, aftHi p m q n, aftLo p q, rfl, rfl, ?_⟩
    obtain ⟨b1, b2, b3, b4⟩ := aft_b p m q n
    refine ⟨.int (aftHi p m q n - aftLo p q), rfl, _, 1, rfl, rfl, _, rfl, ?_⟩
    refine ite2 (fun h => ?_) (fun h => ?_)
    · exact q1 (of_decide_eq_true h)
    · have hm : 1 ≤ aftHi p m q n - aftLo p q := by
        have : ¬ aftHi p m q n - aftLo p q < 1 := fun z => h (decide_eq_true z)
        omega
      refine ⟨.ref t, rfl, t, o, p, m, f, rfl, ht, fun x1 n1 => ?_⟩
      refine ⟨.int (aftLo p q), rfl, .int (aftHi p m q n - aftLo p q), rfl, x1, p, o, m, f, _, _, rfl, upd_same, hf, hm, b1, by omega, fun x2 n2 => ?_⟩
      have s2 : Same H (upd (upd H x1 (tup4 p o m f)) x2 (tup4 (aftLo p q) (partP p o m f (aftLo p q) (aftHi p m q n - aftLo p q)) (aftHi p m q n - aftLo p q) f)) := (same_upd n1).trans (same_upd n2)
      refine ⟨.ref u, rfl, .int (aftLo p q), rfl, .int (aftHi p m q n - aftLo p q), rfl, u, q, r, n, g, _, _, rfl, s2 _ _ hu', hg, hm, b2, by omega, fun x3 n3 => ?_⟩
      have e2 := same_upd (o := tup4 (aftLo p q) (partP q r n g (aftLo p q) (aftHi p m q n - aftLo p q)) (aftHi p m q n - aftLo p q) g) n3 x2 _ upd_same
      refine ⟨.ref x2, rfl, x2, _, 1, _, rfl, rfl, SqT.of e2, at4_1, .ref x3, rfl, x3, _, 1, _, rfl, rfl, SqT.of upd_same, at4_1, .int (aftHi p m q n - aftLo p q), rfl, .ref x2, rfl, x2, _, 3, .int f, rfl, rfl, SqT.of e2, at4_3, .ref x3, rfl, x3, _, 3, .int g, rfl, rfl, SqT.of upd_same, at4_3, f, g, rfl, rfl, by show 4 ≤ sizeLine; decide, fun x4 n4 => ?_⟩
      refine q2 hm _ x4 ((s2.trans (same_upd n3)).trans (same_upd n4)) ?_
      rw [upd_same]
      show some (tup4 _ _ _ (Builtin.bitXor f g)) = _
      rw [xor_is hf hg]
end
/-! ### _law_after_far -/
abbrev s_after_far : Stmt := top 15
abbrev N_after_far : List Str := ["_law_draw", "_law_times", "_law_first", "_law_second", "_law_one", "_law_other", "_law_many", "_law_flips", "_law_low", "_law_high", "_law_begin", "_law_end", "_law_k"]
abbrev P_after_far : List Str := ["_law_draw"]
theorem sc_after_far : FnScope N_after_far P_after_far (defScope s_after_far) := ⟨rfl, rfl, rfl, by decide +kernel, rfl, by decide +kernel, by decide +kernel⟩
def spAfterFar : Sp := fun vs H Q _ => ∃ d l : Addr, vs = [.ref d] ∧ Draw H d l ∧ ∀ H', Draw H' d l → Q (.bl true) H'
theorem aft_begin (p o m f lo hi : Int) : partP p o m f lo (hi - lo) = if f = 1 then o + m - (hi - p) else o + lo - p := by
  unfold partP
  split <;> omega
theorem mod2_is {f g : Int} (hf : f = 0 ∨ f = 1) (hg : g = 0 ∨ g = 1) : (f + g) % 2 = xorP f g := by
  rcases hf with rfl | rfl <;> rcases hg with rfl | rfl <;> decide
section
variable {P : Program} {w : World} {K : PySem.W.Frag} {mg : Str → Option Value} {base : Heap}
theorem ok_after_far {f fL fS fP fM fA fB fQ fH : Addr} {fd fdL fdS fdP fdM fdA fdB fdQ fdH : FuncData} (D : DefAt K mg "_law_after_far" s_after_far P_after_far f fd) (D_pull : DefAt K mg "_law_pull" s_pull P_pull fP fdP)
    (D_like : DefAt K mg "_law_like" s_like P_like fL fdL) (D_scaled : DefAt K mg "_law_scaled" s_scaled P_scaled fS fdS) (D_mating : DefAt K mg "_law_mating" s_mating P_mating fM fdM) (D_after : DefAt K mg "after" s_after P_after fA fdA)
    (D_back : DefAt K mg "back" s_back P_back fB fdB) (D_part : DefAt K mg "part" s_part P_part fQ fdQ) (D_holds : DefAt K mg "holds" s_holds P_holds fH fdH) (B : Bn mg) : FnOk P w K mg base CX0 4 f fd P_after_far spAfterFar := by
  have G_pull : FnOk P w K mg base CX0 1 fP fdP P_pull spPull := ok_pull D_pull B
  have G_like : FnOk P w K mg base CX0 2 fL fdL P_like (spLike 1) := ok_like D_like B 1
  have G_scaled : FnOk P w K mg base CX0 1 fS fdS P_scaled spScaled := ok_scaled D_scaled
  have G_mating : FnOk P w K mg base CX0 2 fM fdM P_mating spMating := ok_mating D_mating D_pull B
  have G_after : FnOk P w K mg base CX0 3 fA fdA P_after spAfter := ok_after D_after D_back D_part D_holds B
  refine D.F.ok sc_after_far (fun vs H Q E h => ?_) (fun cdv A outer s H vs Q E hr h => ?_)
  · obtain ⟨d, l, rfl, _⟩ := h
    rfl
  · obtain ⟨d, l, rfl, hD, q⟩ := h
    refine ⟨_, (pss_cons (ps_set (i := 1) sc_after_far.nd rfl (.inr rfl) (pe_op op_add pe_int (pe_call G_pull (hr.mono (by omega)) (by rfl) D_pull.g D_pull.F.kp D_pull.b .nil pass0 (pa_cons (pv 0) (pa_cons (pe_op op_pow pe_int pe_int) pa_nil)))))
      (pss_cons (ps_asg (pe_lc (own := [("_law_k", 12)]) (g := gName 12) (by rfl) sc_after_far.nd (pi_range1 (by rfl) B.range (pa_cons pe_int pa_nil)) (blkOk_by (own := [("_law_k", 12)]) (N := N_after_far) (sc := defScope s_after_far) (by decide +kernel)) (fun _ _ _ _ _ => (pg_name (i := 12) sc_after_far.nd rfl (.inl rfl))) (fun _ _ _ _ _ => pts_nil) (fun _ _ _ _ _ => (pe_ix (show IxR _ (rIxL K) from ix_list) (pe_call G_scaled (hr.mono (by omega)) (by rfl) D_scaled.g D_scaled.F.kp D_scaled.b .nil pass0 (pa_cons (pe_lst (pa_cons (pe_call G_mating (hr.mono (by omega)) (by rfl) D_mating.g D_mating.F.kp D_mating.b .nil pass0 (pa_cons (pv 0) (pa_cons pe_int pa_nil))) pa_nil)) (pa_cons (pv 1) pa_nil))) pe_int (fun _ _ => rfl)))) (pg_unl (by rfl) (pgs_cons (pg_name (i := 2) sc_after_far.nd rfl (.inl rfl)) (pgs_cons (pg_name (i := 3) sc_after_far.nd rfl (.inl rfl)) pgs_nil))))
      (pss_cons (ps_asg (pv 2) (pg_tup (by rfl) (pgs_cons (pg_name (i := 4) sc_after_far.nd rfl (.inl rfl)) (pgs_cons (pg_name (i := 5) sc_after_far.nd rfl (.inl rfl)) (pgs_cons (pg_name (i := 6) sc_after_far.nd rfl (.inl rfl)) (pgs_cons (pg_name (i := 7) sc_after_far.nd rfl (.inl rfl)) pgs_nil))))))
      (pss_cons (ps_par (i := 8) (j := 9) (by rfl) sc_after_far.nd rfl rfl (by decide) rfl rfl (pa_cons (pe_callB (call_max2 rfl) (by rfl) B.max (by decide +kernel) (pa_cons (pv 5) (pa_cons (pe_ix ix_tup (pv 3) pe_int (fun _ _ => rfl)) pa_nil))) (pa_cons (pe_callB (call_min2 rfl) (by rfl) B.min (by decide +kernel) (pa_cons (pe_op op_add (pv 5) (pv 6)) (pa_cons (pe_op op_add (pe_ix ix_tup (pv 3) pe_int (fun _ _ => rfl)) (pe_ix ix_tup (pv 3) pe_int (fun _ _ => rfl))) pa_nil))) pa_nil)) (by rfl))
      (pss_cons (ps_if (pt_cmpR op_ge (pv 8) (pv 9) (nomark _)) (pss_one (ps_ret (pe_cmpR op_isN (pe_call G_after (hr.mono (by omega)) (by rfl) D_after.g D_after.F.kp D_after.b .nil pass0 (pa_cons (pv 2) (pa_cons (pv 3) pa_nil))) pe_non (nomark _)))) pss_nil)
      (C8.pss_cut (ps_set (i := 10) sc_after_far.nd rfl (.inl rfl) (pe_ifExp (pt_cmpR op_eq (pv 7) pe_int (nomark _)) (pe_op op_sub (pe_op op_add (pv 4) (pv 6)) (pe_op op_sub (pv 9) (pv 5))) (pe_op op_sub (pe_op op_add (pv 4) (pv 8)) (pv 5))))
      (C8.pss_cut (ps_set (i := 11) sc_after_far.nd rfl (.inl rfl) (pe_ifExp (pt_cmpR op_eq (pe_ix ix_tup (pv 3) pe_int (fun _ _ => rfl)) pe_int (nomark _)) (pe_op op_sub (pe_op op_add (pe_ix ix_tup (pv 3) pe_int (fun _ _ => rfl)) (pe_ix ix_tup (pv 3) pe_int (fun _ _ => rfl))) (pe_op op_sub (pv 9) (pe_ix ix_tup (pv 3) pe_int (fun _ _ => rfl)))) (pe_op op_sub (pe_op op_add (pe_ix ix_tup (pv 3) pe_int (fun _ _ => rfl)) (pv 8)) (pe_ix ix_tup (pv 3) pe_int (fun _ _ => rfl)))))
      (pss_one (ps_ret (pe_call G_like (hr.mono (by omega)) (by rfl) D_like.g D_like.F.kp D_like.b .nil pass0 (pa_cons (pe_call G_after (hr.mono (by omega)) (by rfl) D_after.g D_after.F.kp D_after.b .nil pass0 (pa_cons (pv 2) (pa_cons (pv 3) pa_nil))) (pa_cons (pe_tup (pa_cons (pv 10) (pa_cons (pv 11) (pa_cons (pe_op op_sub (pv 9) (pv 8)) (pa_cons (pe_op op_mod (pe_op op_add (pv 7) (pe_ix ix_tup (pv 3) pe_int (fun _ _ => rfl))) pe_int) pa_nil))))) pa_nil)))))))))))), ?_⟩
    have ntd : ∀ {H : Hp} {t : Addr} {o p m f : Int}, Draw H d l → H t = some (tup4 o p m f) → t ≠ d := fun ⟨_, _, _, _, W⟩ e => ne_of e W.at_d (fun z => by cases z)
    refine ⟨.ref d, rfl, 10, 15, rfl, rfl, ⟨by decide, by decide, by decide⟩, d, l, _, rfl, hD, by decide, by decide, fun k H1 k0 k1 D1 kp1 => ?_⟩
    have k1' : k < 1000000000000000 := k1
    refine ⟨1, k, rfl, rfl, ?_⟩
    refine ⟨2, rfl, by decide, by decide, fun L nL => lc_range (lo := 0) (n := 2) (fun i H2 => Draw H2 d l ∧ ∃ ts : List Addr, ts.length = i ∧ H2 L = some (.lst (ts.map V.ref)) ∧ ∀ t ∈ ts, ∃ o p m f, H2 t = some (tup4 o p m f) ∧ (f = 0 ∨ f = 1))
      ⟨D1.same (same_upd nL), [], rfl, upd_same, fun t h => absurd h List.not_mem_nil⟩ ?_ ?_⟩
    · rintro i H2 hi ⟨D2, ts, hts, eL, all⟩
      have nLd : L ≠ d := D1.ne_new nL
      have nLl : l ≠ L := by
        obtain ⟨_, _, _, _, W⟩ := D1
        exact ne_of_none W.at_l nL
      refine ⟨rfl, ?_⟩
      refine ⟨.ref d, rfl, d, l, 20, rfl, D2, by decide, by decide, fun H3 t o p m f D3 k3 e3 M => ?_⟩
      refine ⟨by show 1 ≤ sizeLine; decide, fun L3 nL3 => ?_⟩
      refine ⟨.int (1 + k), rfl, L3, t, o, p, m, f, 1 + k, rfl, upd_same, same_upd nL3 _ _ e3, ⟨by omega, by omega⟩, fun H4 r u s4 e4 u4 => ?_⟩
      have s34 : Same H3 H4 := (same_upd nL3).trans s4
      have D4 := D3.same s34
      refine ⟨r, _, 0, .ref u, rfl, rfl, SqL.of e4, atI_nat (j := 0) rfl, ?_⟩
      have eL4 := s34 _ _ (k3.of eL nLd)
      refine ⟨ts.map V.ref, eL4, sz_lt (by rw [List.length_map]; omega), ?_, ts ++ [u], by rw [List.length_append, hts]; rfl, by rw [upd_same, List.map_append]; rfl, fun t' ht' => ?_⟩
      · obtain ⟨ns', i', z', s', W⟩ := D4
        exact ⟨ns', i', z', s', by rw [upd_ne nLd.symm]; exact W.at_d, by rw [upd_ne nLl]; exact W.at_l, W.len, W.i0, W.z0, W.s0, W.s1⟩
      · rcases List.mem_append.mp ht' with h | h
        · obtain ⟨o', p', m', f', e, hf⟩ := all t' h
          have e' := s34 _ _ (k3.of e (ntd D2 e))
          exact ⟨o', p', m', f', by rw [upd_ne (ne_of e' eL4 (fun z => by cases z))]; exact e', hf⟩
        · rw [List.mem_singleton.mp h]
          exact ⟨_, _, _, _, by rw [upd_ne (ne_of u4 eL4 (fun z => by cases z))]; exact u4, M.f01⟩
    · rintro H2 ⟨D2, ts, hts, eL, all⟩
      obtain ⟨t, u, rfl⟩ : ∃ t u, ts = [t, u] := by
        match ts, hts with
        | [t, u], _ => exact ⟨t, u, rfl⟩
      obtain ⟨o, p, m, f, et, hf⟩ := all t (List.mem_cons_self ..)
      obtain ⟨q', r, n, g, eu, hg⟩ := all u (List.mem_cons_of_mem _ (List.mem_cons_self ..))
      refine ⟨L, _, rfl, SqL.of eL, rfl, .ref t, _, rfl, .ref u, _, rfl, rfl, ?_⟩
      refine ⟨.ref t, rfl, t, _, rfl, SqT.of et, rfl, .int o, _, rfl, .int p, _, rfl, .int m, _, rfl, .int f, _, rfl, rfl, ?_⟩
      refine ⟨.int p, rfl, .ref u, rfl, u, _, 0, .int q', rfl, rfl, SqT.of eu, at4_0, p, q', rfl, .int p, rfl, .int m, rfl, p, m, rfl, rfl, .ref u, rfl, u, _, 0, .int q', rfl, rfl, SqT.of eu, at4_0, .ref u, rfl, u, _, 2, .int n, rfl, rfl, SqT.of eu, at4_2, q', n, rfl, rfl, _, _, rfl, .int (aftLo p q'), .int (aftHi p m q' n), rfl, ?_⟩
      refine ⟨.int (aftLo p q'), rfl, .int (aftHi p m q' n), rfl, _, _, rfl, rfl, _, rfl, ?_⟩
      refine ite2 (fun h => ?_) (fun h => ?_)
      · have hle : aftHi p m q' n ≤ aftLo p q' := of_decide_eq_true h
        exact ⟨.ref t, rfl, .ref u, rfl, t, u, o, p, m, f, q', r, n, g, rfl, et, eu, hf, hg, fun _ => ⟨rfl, q H2 D2⟩, fun z => absurd z (by omega)⟩
      · have hlt : ¬ aftHi p m q' n ≤ aftLo p q' := fun z => h (decide_eq_true z)
        generalize hlo : aftLo p q' = lo
        generalize hhi : aftHi p m q' n = hi
        rw [hlo, hhi] at hlt
        -- begin
        refine ⟨fun σ H3 => H3 = H2 ∧ σ = [some (.ref d), some (.int (1 + k)), some (.ref t), some (.ref u), some (.int o), some (.int p), some (.int m), some (.int f), some (.int lo), some (.int hi), some (.int (partP p o m f lo (hi - lo))), none, none], ?_, ?_⟩
        · refine ⟨.int f, rfl, rfl, _, rfl, ?_⟩
          rw [aft_begin]
          refine ite2 (fun h => ?_) (fun h => ?_)
          · have hf1 : f = 1 := V.int.inj (of_decide_eq_true h)
            rw [if_pos hf1]
            exact ⟨.int o, rfl, .int m, rfl, o, m, rfl, rfl, .int hi, rfl, .int p, rfl, hi, p, rfl, rfl, _, _, rfl, rfl, rfl, rfl⟩
          · have hf1 : ¬ f = 1 := fun z => h (decide_eq_true (congrArg V.int z))
            rw [if_neg hf1]
            exact ⟨.int o, rfl, .int lo, rfl, o, lo, rfl, rfl, .int p, rfl, _, _, rfl, rfl, rfl, rfl⟩
        · rintro σ H3 ⟨rfl, rfl⟩
          -- end
          refine ⟨fun σ H4 => H4 = H3 ∧ σ = [some (.ref d), some (.int (1 + k)), some (.ref t), some (.ref u), some (.int o), some (.int p), some (.int m), some (.int f), some (.int lo), some (.int hi), some (.int (partP p o m f lo (hi - lo))), some (.int (partP q' r n g lo (hi - lo))), none], ?_, ?_⟩
          · refine ⟨.ref u, rfl, u, _, 3, .int g, rfl, rfl, SqT.of eu, at4_3, rfl, _, rfl, ?_⟩
            rw [aft_begin q' r n g]
            refine ite2 (fun h => ?_) (fun h => ?_)
            · have hf1 : g = 1 := V.int.inj (of_decide_eq_true h)
              rw [if_pos hf1]
              exact ⟨.ref u, rfl, u, _, 1, .int r, rfl, rfl, SqT.of eu, at4_1, .ref u, rfl, u, _, 2, .int n, rfl, rfl, SqT.of eu, at4_2, r, n, rfl, rfl, .int hi, rfl, .ref u, rfl, u, _, 0, .int q', rfl, rfl, SqT.of eu, at4_0, hi, q', rfl, rfl, _, _, rfl, rfl, rfl, rfl⟩
            · have hf1 : ¬ g = 1 := fun z => h (decide_eq_true (congrArg V.int z))
              rw [if_neg hf1]
              exact ⟨.ref u, rfl, u, _, 1, .int r, rfl, rfl, SqT.of eu, at4_1, .int lo, rfl, r, lo, rfl, rfl, .ref u, rfl, u, _, 0, .int q', rfl, rfl, SqT.of eu, at4_0, _, _, rfl, rfl, rfl, rfl⟩
          · rintro σ H4 ⟨rfl, rfl⟩
            refine ⟨.ref t, rfl, .ref u, rfl, t, u, o, p, m, f, q', r, n, g, rfl, et, eu, hf, hg, fun z => absurd z (by rw [hlo, hhi]; omega), fun _ H5 x s5 e5 => ?_⟩
            rw [hlo, hhi] at e5
            refine ⟨.int (partP p o m f lo (hi - lo)), rfl, .int (partP q' r n g lo (hi - lo)), rfl, .int hi, rfl, .int lo, rfl, hi, lo, rfl, rfl, .int f, rfl, .ref u, rfl, u, _, 3, .int g, rfl, rfl, SqT.of (s5 _ _ eu), at4_3, f, g, rfl, rfl, _, 2, rfl, rfl, (by show (0 : Int) < 2; decide), by show 4 ≤ sizeLine; decide, fun y ny => ?_⟩
            have ey : (upd H5 y (.tup [.int (partP p o m f lo (hi - lo)), .int (partP q' r n g lo (hi - lo)), .int (hi - lo), .int ((f + g) % 2)])) y = some (tup4 (partP p o m f lo (hi - lo)) (partP q' r n g lo (hi - lo)) (hi - lo) (xorP f g)) := by
              rw [upd_same, mod2_is hf hg]
              rfl
            exact ⟨.ref x, .ref y, _, rfl, rp4 _ (same_upd ny _ _ e5), rp4 _ ey, fun H6 s6 => q H6 ((D2.same s5).same ((same_upd ny).trans s6))⟩
end

/-! ### the law's lists -/
theorem fm_congr {α β : Type} {f g : α → Option β} : ∀ {l : List α}, (∀ x ∈ l, f x = g x) → l.filterMap f = l.filterMap g
  | [], _ => rfl
  | x :: r, h => by
    rw [List.filterMap_cons, List.filterMap_cons, h x (List.mem_cons_self ..), fm_congr fun y hy => h y (List.mem_cons_of_mem _ hy)]
theorem fm_range {α : Type} (a b : Nat) (h : Nat → α) : ∀ m : Nat, (List.range m).filterMap (fun k => if a ≤ k ∧ k < b then some (h k) else none) = (List.range (min b m - a)).map fun j => h (a + j)
  | 0 => by
    rw [Nat.min_zero, Nat.zero_sub]
    rfl
  | m + 1 => by
    rw [List.range_succ, List.filterMap_append, fm_range a b h m]
    by_cases c : a ≤ m ∧ m < b
    · rw [show ([m].filterMap fun k => if a ≤ k ∧ k < b then some (h k) else none) = [h m] by simp only [List.filterMap_cons, List.filterMap_nil, if_pos c], show min b (m + 1) - a = (min b m - a) + 1 by omega, List.range_succ, List.map_append]
      congr 1
      show [h m] = [h (a + (min b m - a))]
      rw [show a + (min b m - a) = m by omega]
    · rw [show ([m].filterMap fun k => if a ≤ k ∧ k < b then some (h k) else none) = [] by simp only [List.filterMap_cons, List.filterMap_nil, if_neg c], List.append_nil]
      congr 2
      omega
def dueF (q r n g : Int) (x : Int × Int) : Option (Int × Int) := if q ≤ x.2 ∧ x.2 + 1 ≤ q + n then some (x.1, partP q r n g x.2 1) else none
theorem due_is {o p f q r n g : Int} {m : Nat} (n1 : 1 ≤ n) (hf : f = 0 ∨ f = 1) (hg : g = 0 ∨ g = 1) : (endL o p m f m).filterMap (dueF q r n g) =
    if 1 ≤ aftHi p m q n - aftLo p q then endL (partP p o m f (aftLo p q) (aftHi p m q n - aftLo p q)) (partP q r n g (aftLo p q) (aftHi p m q n - aftLo p q)) (aftHi p m q n - aftLo p q) (xorP f g) (aftHi p m q n - aftLo p q).toNat else [] := by
  obtain ⟨b1, b2, b3, b4⟩ := aft_b p m q n
  have lo_is : aftLo p q = p ∨ aftLo p q = q := by
    unfold aftLo
    split
    · exact .inr rfl
    · exact .inl rfl
  have hi_is : aftHi p m q n = p + m ∨ aftHi p m q n = q + n := by
    unfold aftHi
    split
    · exact .inr rfl
    · exact .inl rfl
  generalize aftLo p q = lo at *
  generalize aftHi p m q n = hi at *
  obtain ⟨a, ha⟩ : ∃ a : Nat, (if f = 1 then p + m - hi else lo - p) = (a : Int) := ⟨(if f = 1 then p + m - hi else lo - p).toNat, by split <;> omega⟩
  obtain ⟨b, hb⟩ : ∃ b : Nat, (if f = 1 then (if p + m < lo then 0 else p + m - lo) else (if hi < p then 0 else hi - p)) = (b : Int) := ⟨(if f = 1 then (if p + m < lo then 0 else p + m - lo) else (if hi < p then 0 else hi - p)).toNat, by split <;> split <;> omega⟩
  have hbm : b ≤ m := by
    split at hb <;> split at hb <;> omega
  have e : (endL o p m f m).filterMap (dueF q r n g) = (List.range m).filterMap fun k => if a ≤ k ∧ k < b then some ((o + (k : Int), partP q r n g (endQ p m f (k : Int)) 1) : Int × Int) else none := by
    unfold endL
    rw [List.filterMap_map]
    refine fm_congr fun k hk => ?_
    have hk' := List.mem_range.mp hk
    show (if q ≤ endQ p m f (k : Int) ∧ endQ p m f (k : Int) + 1 ≤ q + n then some ((o + (k : Int), partP q r n g (endQ p m f (k : Int)) 1) : Int × Int) else none) = _
    have c : (q ≤ endQ p m f (k : Int) ∧ endQ p m f (k : Int) + 1 ≤ q + n) ↔ (a ≤ k ∧ k < b) := by
      unfold endQ
      rcases hf with rfl | rfl
      · rw [if_neg (by decide)] at ha hb ⊢
        split at hb <;> constructor <;> intro h <;> omega
      · rw [if_pos rfl] at ha hb ⊢
        split at hb <;> constructor <;> intro h <;> omega
    by_cases h : a ≤ k ∧ k < b
    · rw [if_pos h, if_pos (c.mpr h)]
    · rw [if_neg h, if_neg (fun z => h (c.mp z))]
  rw [e, fm_range, Nat.min_eq_left hbm]
  by_cases h : 1 ≤ hi - lo
  · rw [if_pos h]
    have en : (hi - lo).toNat = b - a := by
      split at ha <;> split at hb <;> omega
    rw [en]
    unfold endL
    refine List.map_congr_left fun k hk => ?_
    have hk' := List.mem_range.mp hk
    refine Prod.ext ?_ ?_
    · show o + ((a + k : Nat) : Int) = partP p o m f lo (hi - lo) + (k : Int)
      unfold partP
      rcases hf with rfl | rfl
      · rw [if_neg (by decide)] at ha ⊢
        omega
      · rw [if_pos rfl] at ha ⊢
        omega
    · show partP q r n g (endQ p m f ((a + k : Nat) : Int)) 1 = endQ (partP q r n g lo (hi - lo)) (hi - lo) (xorP f g) (k : Int)
      unfold partP endQ xorP
      rcases hf with rfl | rfl <;> rcases hg with rfl | rfl
      · simp only [↓reduceIte, Int.reduceEq] at ha ⊢
        omega
      · simp only [↓reduceIte, Int.reduceEq] at ha ⊢
        omega
      · simp only [↓reduceIte, Int.reduceEq] at ha ⊢
        omega
      · simp only [↓reduceIte, Int.reduceEq] at ha ⊢
        omega
  · rw [if_neg h]
    have : b - a = 0 := by
      split at ha <;> split at hb <;> split at hb <;> omega
    rw [this]
    rfl
def kOf (H : Hp) : V → Int × Int
  | .ref a => match H a with
    | some (.tup [.int x, .int y]) => (x, y)
    | _ => (0, 0)
  | _ => (0, 0)
theorem kOf_is {H : Hp} {a : Addr} {x y : Int} (h : H a = some (.tup [.int x, .int y])) : kOf H (.ref a) = (x, y) := by
  simp only [kOf, h]
theorem sorted_same {H : Hp} {ps : List Addr} {A C M e : Int} {n : Nat} (pr : Prs H ps (endL A C M e n)) {ys : List V} (h1 : SrtO.Srtd (ltP (kOf H)) ys) (h2 : ys.Perm (ps.map V.ref)) : ys = ps.map V.ref := by
  have hl := pr.length
  rw [endL_length] at hl
  have at_ : ∀ i, i < n → ∃ a, ps[i]? = some a ∧ kOf H (.ref a) = (A + (i : Int), endQ C M e (i : Int)) := fun i hi => by
    have hx : (endL A C M e n)[i]? = some (A + (i : Int), endQ C M e (i : Int)) := by
      unfold endL
      rw [List.getElem?_map, List.getElem?_range hi]
      rfl
    obtain ⟨a, ha, hb⟩ := pr.get i _ hx
    exact ⟨a, ha, kOf_is hb⟩
  have mem : ∀ v ∈ ps.map V.ref, ∃ i : Nat, i < n ∧ (ps.map V.ref)[i]? = some v ∧ kOf H v = (A + (i : Int), endQ C M e (i : Int)) := fun v hv => by
    obtain ⟨i, hi, e1⟩ := List.getElem_of_mem hv
    have hi' : i < n := by
      rw [List.length_map] at hi
      omega
    obtain ⟨a, ha, hk⟩ := at_ i hi'
    have e2 : (ps.map V.ref)[i]? = some (.ref a) := by
      rw [List.getElem?_map, ha]
      rfl
    have e3 : v = .ref a := by
      rw [List.getElem?_eq_getElem hi, e1] at e2
      exact Option.some.inj e2
    exact ⟨i, hi', e3 ▸ e2, e3 ▸ hk⟩
  refine h2.eq_of_pairwise (le := fun x y => ltP (kOf H) y x = false) (fun x y hx hy a1 a2 => ?_) h1 ?_
  · obtain ⟨i, hi, ei, ki⟩ := mem x (h2.mem_iff.mp hx)
    obtain ⟨j, hj, ej, kj⟩ := mem y hy
    have n1 := SrtO.lexB_no.mp a1
    have n2 := SrtO.lexB_no.mp a2
    rw [ki, kj] at n1 n2
    have n1' : ¬ (A + (j : Int) < A + (i : Int) ∨ _) := n1
    have n2' : ¬ (A + (i : Int) < A + (j : Int) ∨ _) := n2
    have : i = j := by omega
    subst this
    rw [ei] at ej
    exact Option.some.inj ej
  · refine List.pairwise_iff_getElem.mpr fun i j hi hj hij => ?_
    obtain ⟨i', hi', ei, ki⟩ := mem _ (List.getElem_mem hi)
    obtain ⟨j', hj', ej, kj⟩ := mem _ (List.getElem_mem hj)
    rw [List.length_map] at hi hj
    obtain ⟨x, hx, kx⟩ := at_ i (by omega)
    obtain ⟨y, hy, ky⟩ := at_ j (by omega)
    have ex : (ps.map V.ref)[i]'(by rw [List.length_map]; exact hi) = .ref x := by
      rw [List.getElem_map]
      rw [List.getElem?_eq_getElem hi] at hx
      rw [Option.some.inj hx]
    have ey : (ps.map V.ref)[j]'(by rw [List.length_map]; exact hj) = .ref y := by
      rw [List.getElem_map]
      rw [List.getElem?_eq_getElem hj] at hy
      rw [Option.some.inj hy]
    show SrtO.lexB (kOf H _) (kOf H _) = false
    rw [ex, ey, kx, ky]
    refine SrtO.lexB_no.mpr ?_
    show ¬ (A + (j : Int) < A + (i : Int) ∨ (A + (j : Int) = A + (i : Int) ∧ _))
    omega

/-! ### law -/
abbrev s_law : Stmt := top 16
abbrev N_law : List Str := ["_law_script", "_law_draw", "_law_turn", "_law_length", "_law_first", "_law_second", "_law_further", "_law_due", "_law_told", "_law_one", "_law_other"]
abbrev P_law : List Str := ["_law_script"]
theorem sc_law : FnScope N_law P_law (defScope s_law) := ⟨rfl, rfl, rfl, by decide +kernel, rfl, by decide +kernel, by decide +kernel⟩
section
variable {P : Program} {w : World} {K : PySem.W.Frag} {mg : Str → Option Value} {base : Heap}
theorem ok_law {f fO fP fL fM fE fS fF fA fB fQ fH : Addr} {fd fdO fdP fdL fdM fdE fdS fdF fdA fdB fdQ fdH : FuncData} (D : DefAt K mg "law" s_law P_law f fd) (D_open : DefAt K mg "_law_open" s_open P_open fO fdO) (D_pull : DefAt K mg "_law_pull" s_pull P_pull fP fdP)
    (D_like : DefAt K mg "_law_like" s_like P_like fL fdL) (D_mating : DefAt K mg "_law_mating" s_mating P_mating fM fdM) (D_ends : DefAt K mg "_law_ends" s_ends P_ends fE fdE) (D_scaled : DefAt K mg "_law_scaled" s_scaled P_scaled fS fdS)
    (D_after_far : DefAt K mg "_law_after_far" s_after_far P_after_far fF fdF) (D_after : DefAt K mg "after" s_after P_after fA fdA) (D_back : DefAt K mg "back" s_back P_back fB fdB)
    (D_part : DefAt K mg "part" s_part P_part fQ fdQ) (D_holds : DefAt K mg "holds" s_holds P_holds fH fdH) (B : Bn mg) :
    FnOk P w K mg base CX0 6 f fd P_law (spLaw K) := by
  have G_open : FnOk P w K mg base CX0 1 fO fdO P_open (spOpen K) := ok_open D_open B
  have G_pull : FnOk P w K mg base CX0 1 fP fdP P_pull spPull := ok_pull D_pull B
  have G_like : FnOk P w K mg base CX0 3 fL fdL P_like (spLike 2) := ok_like D_like B 2
  have G_mating : FnOk P w K mg base CX0 2 fM fdM P_mating spMating := ok_mating D_mating D_pull B
  have G_ends : FnOk P w K mg base CX0 1 fE fdE P_ends spEnds := ok_ends D_ends B
  have G_after : FnOk P w K mg base CX0 3 fA fdA P_after spAfter := ok_after D_after D_back D_part D_holds B
  have G_after_far : FnOk P w K mg base CX0 4 fF fdF P_after_far spAfterFar := ok_after_far D_after_far D_pull D_like D_scaled D_mating D_after D_back D_part D_holds B
  refine D.F.ok sc_law (fun vs H Q E h => ?_) (fun cdv A outer s H vs Q E hr h => ?_)
  · obtain ⟨a, ns, rfl, _⟩ := h
    rfl
  · obtain ⟨a, ns, rfl, hS, hlen, q⟩ := h
    have hu := hu_of hr
    refine ⟨_, (pss_cons (ps_set (i := 1) sc_law.nd rfl (.inl rfl) (pe_call G_open (hr.mono (by omega)) (by rfl) D_open.g D_open.F.kp D_open.b .nil pass0 (pa_cons (pv 0) pa_nil)))
      (pss_cons (ps_for PassesOwn.never rfl (pi_range1 (by rfl) B.range (pa_cons pe_int pa_nil)) (pg_name (i := 2) sc_law.nd rfl (.inl rfl)) (pss_cons (ps_if (pt_not (pt_val (pe_call G_after_far (hr.mono (by omega)) (by rfl) D_after_far.g D_after_far.F.kp D_after_far.b .nil pass0 (pa_cons (pv 1) pa_nil)))) (pss_one (ps_ret pe_bl)) pss_nil)
      (pss_cons (ps_set (i := 3) sc_law.nd rfl (.inl rfl) (pe_op op_add pe_int (pe_call G_pull (hr.mono (by omega)) (by rfl) D_pull.g D_pull.F.kp D_pull.b .nil pass0 (pa_cons (pv 1) (pa_cons pe_int pa_nil)))))
      (pss_cons (ps_par (i := 4) (j := 5) (by rfl) sc_law.nd rfl rfl (by decide) rfl rfl (pa_cons (pe_call G_mating (hr.mono (by omega)) (by rfl) D_mating.g D_mating.F.kp D_mating.b .nil pass0 (pa_cons (pv 1) (pa_cons (pv 3) pa_nil))) (pa_cons (pe_call G_mating (hr.mono (by omega)) (by rfl) D_mating.g D_mating.F.kp D_mating.b .nil pass0 (pa_cons (pv 1) (pa_cons (pv 3) pa_nil))) pa_nil)) (by rfl))
      (pss_cons (ps_set (i := 6) sc_law.nd rfl (.inr rfl) (pe_callTy (call_dictP rfl) (by rfl) B.dict (by decide +kernel) (pa_cons (pe_call G_ends (hr.mono (by omega)) (by rfl) D_ends.g D_ends.F.kp D_ends.b .nil pass0 (pa_cons (pv 5) pa_nil)) pa_nil)))
      (pss_cons (ps_setLc (i := 7) (own := [("_law_one", 9), ("_law_other", 10)]) (g := gTup K 2 (gCons (gName 9) (gCons (gName 10) gNil))) (by rfl) sc_law.nd rfl rfl (sw_true rfl rfl rfl (by decide +kernel)) (pi_list (pe_call G_ends (hr.mono (by omega)) (by rfl) D_ends.g D_ends.F.kp D_ends.b .nil pass0 (pa_cons (pv 4) pa_nil))) (blkOk_by (own := [("_law_one", 9), ("_law_other", 10)]) (N := N_law) (sc := defScope s_law) (by decide +kernel)) (fun _ _ _ _ _ => (pg_tup (by rfl) (pgs_cons (pg_name (i := 9) sc_law.nd rfl (.inl rfl)) (pgs_cons (pg_name (i := 10) sc_law.nd rfl (.inl rfl)) pgs_nil)))) (fun _ _ _ _ _ => (pts_one (pt_cmp (pc_din hu (pv 10) (pv 6))))) (fun _ _ _ _ _ => (pe_tup (pa_cons (pv 9) (pa_cons (pe_dget hu (pv 6) (pv 10) (fun _ _ => rfl)) pa_nil)))))
      (pss_cons (ps_set (i := 8) sc_law.nd rfl (.inl rfl) (pe_call G_after (hr.mono (by omega)) (by rfl) D_after.g D_after.F.kp D_after.b .nil pass0 (pa_cons (pv 4) (pa_cons (pv 5) pa_nil))))
      (pss_one (ps_if (pt_cmpR (op_eqD hr.units) (pv 7) (pe_lst pa_nil) (nomark _)) (pss_one (ps_if (pt_cmpR op_notN (pv 8) pe_non (nomark _)) (pss_one (ps_ret pe_bl)) pss_nil)) (pss_one (ps_if (PW.pt (pw_or (pt_not (pt_val (pe_callB call_isi (by rfl) B.isinstance (by decide +kernel) (pa_cons (pv 8) (pa_cons (pe_bltn (v := .ty "tuple") (by rfl) B.tuple (by decide +kernel) rfl) pa_nil))))) (pw_or1 (pt_not (pt_val (pe_call G_like (hr.mono (by omega)) (by rfl) D_like.g D_like.F.kp D_like.b .nil pass0 (pa_cons (pe_callB cr_sortedPO (by rfl) B.sorted (by decide +kernel) (pa_cons (pe_call G_ends (hr.mono (by omega)) (by rfl) D_ends.g D_ends.F.kp D_ends.b .nil pass0 (pa_cons (pv 8) pa_nil)) pa_nil)) (pa_cons (pv 7) pa_nil)))))))) (pss_one (ps_ret pe_bl)) (pss_one (ps_if (pt_not (pt_val (pe_call G_like (hr.mono (by omega)) (by rfl) D_like.g D_like.F.kp D_like.b .nil pass0 (pa_cons (pe_ix ix_tup (pv 8) pe_int (fun _ _ => rfl)) (pa_cons (pe_op op_mod (pe_op op_add (pe_ix ix_tup (pv 4) pe_int (fun _ _ => rfl)) (pe_ix ix_tup (pv 5) pe_int (fun _ _ => rfl))) pe_int) pa_nil))))) (pss_one (ps_ret pe_bl)) pss_nil)))))))))))))
      (pss_one (ps_ret pe_bl)))), ?_⟩
    refine ⟨.ref a, rfl, a, ns, rfl, hS, hlen, fun H1 d l sm nd nl hD => ?_⟩
    refine ⟨6, rfl, by decide, by decide, for_range (lo := 0) (n := 6) (fun i σ H2 => ∃ y2 y3 y4 y5 y6 y7 y8 y9 y10, σ = [some (.ref a), some (.ref d), y2, y3, y4, y5, y6, y7, y8, y9, y10] ∧ Draw H2 d l)
      ⟨_, _, _, _, _, _, _, _, _, rfl, hD⟩ ?_ ?_⟩
    · rintro i_ σ H2 hi ⟨y2, y3, y4, y5, y6, y7, y8, y9, y10, rfl, D2⟩
      refine ⟨.ref d, rfl, d, l, rfl, D2, fun H3 D3 => ⟨true, rfl, iteF ?_⟩⟩
      -- length
      refine ⟨.ref d, rfl, d, l, 20, rfl, D3, by decide, by decide, fun n0 H4 n00 n01 D4 k4 => ?_⟩
      refine ⟨1, n0, rfl, rfl, ?_⟩
      -- first, second
      refine ⟨.ref d, rfl, .int (1 + n0), rfl, d, l, 1 + n0, rfl, D4, by omega, by omega, fun H5 t o p m f D5 k5 e5 M => ?_⟩
      refine ⟨.ref d, rfl, .int (1 + n0), rfl, d, l, 1 + n0, rfl, D5, by omega, by omega, fun H6 u q' r n g D6 k6 u6 N => ?_⟩
      have ntd : t ≠ d := by
        obtain ⟨_, _, _, _, W⟩ := D5
        exact ne_of e5 W.at_d (fun z => by cases z)
      have t6 := k6.of e5 ntd
      have hf := M.f01
      have hg := N.f01
      have m1 := M.m1
      have n1 := N.m1
      have o0 := M.o0
      have o1 := M.o1
      have q0 := N.o0
      have q1 := N.o1
      have p0 := M.p0
      have p1 := M.p1
      obtain ⟨mn, rfl⟩ : ∃ mn : Nat, m = (mn : Int) := ⟨m.toNat, by omega⟩
      obtain ⟨nn, rfl⟩ : ∃ nn : Nat, n = (nn : Int) := ⟨n.toNat, by omega⟩
      refine ⟨.ref t, .ref u, rfl, ?_⟩
      -- further
      refine ⟨.ref u, rfl, u, q', r, g, nn, rfl, u6, by omega, fun H7 r7 ps7 s7 nr7 e7 pr7 => ?_⟩
      refine ⟨r7, ps7, (endL q' r nn g nn).map kvp, rfl, SqL.of e7, pr7.dict, fun kd nkd => ?_⟩
      have s8 : Same H6 (upd H7 kd (.dK (mergeK [] ((endL q' r nn g nn).map kvp)))) := s7.trans (same_upd nkd)
      have k8 : (upd H7 kd (.dK (mergeK [] ((endL q' r nn g nn).map kvp)))) kd = some (.dK (mergeK [] ((endL q' r nn g nn).map kvp))) := upd_same
      generalize upd H7 kd (.dK (mergeK [] ((endL q' r nn g nn).map kvp))) = H8 at s8 k8
      have t8 := s8 _ _ t6
      have u8 := s8 _ _ u6
      have D8 := D6.same s8
      -- due
      refine ⟨.ref t, rfl, t, o, p, f, mn, rfl, t8, by omega, fun H9 r9 ps9 s9 nr9 e9 pr9 => ?_⟩
      have hpl := pr9.length
      rw [endL_length] at hpl
      refine ⟨r9, rfl, ⟨_, SqL.of e9⟩, fun L nL => lc_list (K := K) (a := r9) (xs := ps9.map V.ref) (fun i HA => ∃ qs : List Addr, Same H9 HA ∧ HA L = some (.lst (qs.map V.ref)) ∧ Prs HA qs (((endL o p mn f mn).take i).filterMap (dueF q' r nn g)))
        ⟨[], same_upd nL, upd_same, .nil⟩ (fun i HA _ ⟨_, sB, _⟩ => SqL.of (sB _ _ e9)) ?_ ?_⟩
      · rintro i y HA hy ⟨qs, sB, eA, prA⟩
        have hil : i < (ps9.map V.ref).length := (List.getElem?_eq_some_iff.mp hy).1
        rw [List.length_map] at hil
        obtain ⟨x, hx⟩ : ∃ x, (endL o p mn f mn)[i]? = some x := ⟨_, List.getElem?_eq_getElem (by rw [endL_length]; omega)⟩
        obtain ⟨c, hb1, hb2⟩ := pr9.get i x hx
        have ey : y = .ref c := by
          rw [List.getElem?_map, hb1] at hy
          exact (Option.some.inj hy).symm
        subst ey
        have hlen2 := prA.length
        have hlen3 := List.length_filterMap_le (dueF q' r nn g) ((endL o p mn f mn).take i)
        rw [List.length_take, endL_length] at hlen3
        have kA := sB _ _ (s9 _ _ k8)
        have gA := DGet.k (k := Sum.inl x.2) kA
        rw [kept_is] at gA
        refine ⟨c, _, rfl, SqT.of (sB _ _ hb2), rfl, .int x.1, _, rfl, .int x.2, _, rfl, rfl, rfl, ?_⟩
        refine ⟨.int x.2, rfl, .ref kd, rfl, kd, _, rfl, gA, _, rfl, ?_⟩
        by_cases hin : q' ≤ x.2 ∧ x.2 + 1 ≤ q' + nn
        · rw [if_pos hin] at gA ⊢
          refine iteT ?_
          refine ⟨.int x.1, rfl, .ref kd, rfl, .int x.2, rfl, kd, _, rfl, gA, by show 2 ≤ sizeLine; decide, fun v nv => ?_⟩
          refine ⟨qs.map V.ref, same_upd nv _ _ eA, sz_lt (by rw [List.length_map]; omega), qs ++ [v], fun b' o' hb' => ?_, by rw [upd_same, List.map_append]; rfl, ?_⟩
          · rw [upd_ne (ne_of_none hb' nL), upd_ne (ne_of_none (sB _ _ hb') nv)]
            exact sB _ _ hb'
          · rw [List.take_add_one, hx, List.filterMap_append, show ((some x).toList.filterMap (dueF q' r nn g)) = [(x.1, partP q' r nn g x.2 1)] by show [x].filterMap _ = _; simp only [List.filterMap_cons, List.filterMap_nil, dueF, if_pos hin]]
            exact Prs.grow (o := .lst []) (prA.same (same_upd nv)) (same_upd nv _ _ eA) upd_same
        · rw [if_neg hin]
          refine iteF ?_
          refine ⟨qs, sB, eA, ?_⟩
          rw [List.take_add_one, hx, List.filterMap_append, show ((some x).toList.filterMap (dueF q' r nn g)) = [] by show [x].filterMap _ = _; simp only [List.filterMap_cons, List.filterMap_nil, dueF, if_neg hin], List.append_nil]
          exact prA
      · rintro HA ⟨qs, sB, eA, prA⟩
        rw [List.length_map, hpl, List.take_of_length_le (by rw [endL_length]; exact Nat.le_refl _), due_is n1 hf hg] at prA
        have tA := sB _ _ (s9 _ _ t8)
        have uA := sB _ _ (s9 _ _ u8)
        have DA := (D8.same s9).same sB
        -- told
        refine ⟨.ref t, rfl, .ref u, rfl, t, u, o, p, mn, f, q', r, nn, g, rfl, tA, uA, hf, hg, fun hno => ?_, fun hyes HB x sC eX => ?_⟩
        · rw [if_neg (by omega)] at prA
          have hq : qs = [] := by
            cases prA
            rfl
          subst hq
          refine ⟨.ref L, rfl, Nat.zero_le _, fun L4 nL4 => ?_⟩
          refine ⟨.list [], .list [], .lst (SqL.of (same_upd nL4 _ _ eA)) .nil, .lst (SqL.of upd_same) .nil, rfl, rfl, _, rfl, ?_⟩
          refine ⟨.non, rfl, rfl, _, rfl, ?_⟩
          exact ⟨_, _, _, _, _, _, _, _, _, rfl, DA.same (same_upd nL4)⟩
        · rw [if_pos hyes] at prA
          obtain ⟨ab1, ab2, ab3, ab4⟩ := aft_b p mn q' nn
          obtain ⟨kn, hkn⟩ : ∃ kn : Nat, aftHi p mn q' nn - aftLo p q' = (kn : Int) := ⟨(aftHi p mn q' nn - aftLo p q').toNat, by omega⟩
          rw [hkn] at eX
          rw [hkn, Int.toNat_natCast] at prA
          generalize partP p o mn f (aftLo p q') kn = pa at *
          generalize partP q' r nn g (aftLo p q') kn = pb at *
          have hql := prA.length
          rw [endL_length] at hql
          have hxg : xorP f g = 0 ∨ xorP f g = 1 := by
            unfold xorP
            split
            · exact .inl rfl
            · exact .inr rfl
          refine ⟨.ref L, rfl, Nat.zero_le _, fun L4 nL4 => ?_⟩
          have sJ : Same HB (upd HB L4 (.lst [])) := same_upd nL4
          refine ⟨.list ((endL pa pb kn (xorP f g) kn).map pd), .list [], .lst (SqL.of (sJ _ _ (sC _ _ eA))) ((prA.same (sC.trans sJ)).dp), .lst (SqL.of upd_same) .nil, shaped_pairs _, rfl, _, rfl, ?_⟩
          have hne : PyData.eqv (.list ((endL pa pb kn (xorP f g) kn).map pd)) (.list []) = false := by
            rw [eqv_nil]
            cases e : endL pa pb kn (xorP f g) kn with
            | nil =>
              have := endL_length pa pb kn (xorP f g) kn
              rw [e] at this
              have : 0 = kn := this
              omega
            | cons x r => rfl
          rw [hne]
          refine iteF ?_
          have xJ := sJ _ _ eX
          refine ⟨.ref x, rfl, _, _, _, _, true, rfl, ClsV.ty _, TyX.base (TyOf.tup xJ), kit_ty (by decide +kernel), _, rfl, ?_⟩
          refine ⟨.ref x, rfl, x, pa, pb, xorP f g, kn, rfl, xJ, by omega, fun HK r5 ps5 sK nr5 e5' pr5 => ?_⟩
          have hl5 := pr5.length
          rw [endL_length] at hl5
          refine ⟨r5, ps5.map V.ref, kOf HK, rfl, SqL.of e5', fun v hv => ?_, fun ys L5 hs1 hs2 nL5 => ?_⟩
          · obtain ⟨i, hi', ei⟩ := List.getElem_of_mem hv
            rw [List.length_map] at hi'
            obtain ⟨y, hy⟩ : ∃ y, (endL pa pb kn (xorP f g) kn)[i]? = some y := ⟨_, List.getElem?_eq_getElem (by rw [endL_length]; omega)⟩
            obtain ⟨c, hc1, hc2⟩ := pr5.get i y hy
            rw [List.getElem_map] at ei
            rw [List.getElem?_eq_getElem hi'] at hc1
            have : v = .ref c := by
              rw [← ei, Option.some.inj hc1]
            subst this
            exact ⟨c, rfl, by rw [kOf_is hc2]; exact hc2⟩
          · have eys := sorted_same pr5 hs1 hs2.perm
            subst eys
            have sL5 : Same HK (upd HK L5 (.lst (ps5.map V.ref))) := same_upd nL5
            refine ⟨.ref L, rfl, .ref L5, .ref L, .list ((endL pa pb kn (xorP f g) kn).map pd), rfl, .lst upd_same (by rw [List.length_map]; omega) ((pr5.same sL5).rpd 0), .lst (sL5 _ _ (sK _ _ (sJ _ _ (sC _ _ eA)))) (by rw [List.length_map]; omega) ((prA.same (((sC.trans sJ).trans sK).trans sL5)).rpd 0), fun HL sL => ⟨true, rfl, ?_⟩⟩
            have sM : Same HA HL := (((sC.trans sJ).trans sK).trans sL5).trans sL
            have xL := sL _ _ (sL5 _ _ (sK _ _ xJ))
            refine ⟨.ref x, rfl, x, _, 3, .int (xorP f g), rfl, rfl, SqT.of xL, at4_3, .ref t, rfl, t, _, 3, .int f, rfl, rfl, SqT.of (sM _ _ tA), at4_3, .ref u, rfl, u, _, 3, .int g, rfl, rfl, SqT.of (sM _ _ uA), at4_3, f, g, rfl, rfl, _, 2, rfl, rfl, (by show (0 : Int) < 2; decide), .int (xorP f g), .int ((f + g) % 2), .int (xorP f g), rfl, .int _ _, by rw [mod2_is hf hg]; exact .int _ _, fun HN sN => ⟨true, rfl, iteF ?_⟩⟩
            exact ⟨_, _, _, _, _, _, _, _, _, rfl, DA.same (sM.trans sN)⟩
    · rintro σ H2 ⟨y2, y3, y4, y5, y6, y7, y8, y9, y10, rfl, D2⟩
      exact q H2
end

theorem all_mk {l : PySem.W.OpenLaw} {w : World} {K : PySem.W.Frag} {h : Heap} {mg : Str → Option Value} {fa f0 f1 f2 f3 f4 f5 f6 f7 f8 f9 f10 f11 : Addr} (X : K.In h) (G : h.Ns mainGlobals mg) (hfa : mg "law" = some (.ref fa))
    {od0 an0 od1 an1 od2 an2 od3 an3 od4 an4 od5 an5 od6 an6 od7 an7 od8 an8 od9 an9 od10 an10 od11 an11 : Option Addr} {sl0 sl1 sl2 sl3 sl4 sl5 sl6 sl7 sl8 sl9 sl10 sl11 : Array (Option Value)} {oc0 kV0 dc0 pm0 cd0 ct0 oc1 kV1 dc1 pm1 cd1 ct1 oc2 kV2 dc2 pm2 cd2 ct2 oc3 kV3 dc3 pm3 cd3 ct3 oc4 kV4 dc4 pm4 cd4 ct4 oc5 kV5 dc5 pm5 cd5 ct5 oc6 kV6 dc6 pm6 cd6 ct6 oc7 kV7 dc7 pm7 cd7 ct7 oc8 kV8 dc8 pm8 cd8 ct8 oc9 kV9 dc9 pm9 cd9 ct9 oc10 kV10 dc10 pm10 cd10 ct10 oc11 kV11 dc11 pm11 cd11 ct11 : Value}
    (a0 : PySem.W.nsIn K mainGlobals "back" = some (some (.ref f0))) (l0 : K.lookup f0 = some ⟨oc0, od0, .func (PySem.W.fnOf "back" "back" (defArgs s_back) (defBody s_back) (defScope s_back) .none kV0 dc0 pm0 an0 cd0 ct0), sl0⟩) (c0 : PySem.W.codeIn K cd0 "back" = true) (k0 : PySem.W.keepIn K (.ref f0) = true)
    (a1 : PySem.W.nsIn K mainGlobals "part" = some (some (.ref f1))) (l1 : K.lookup f1 = some ⟨oc1, od1, .func (PySem.W.fnOf "part" "part" (defArgs s_part) (defBody s_part) (defScope s_part) .none kV1 dc1 pm1 an1 cd1 ct1), sl1⟩) (c1 : PySem.W.codeIn K cd1 "part" = true) (k1 : PySem.W.keepIn K (.ref f1) = true)
    (a2 : PySem.W.nsIn K mainGlobals "holds" = some (some (.ref f2))) (l2 : K.lookup f2 = some ⟨oc2, od2, .func (PySem.W.fnOf "holds" "holds" (defArgs s_holds) (defBody s_holds) (defScope s_holds) .none kV2 dc2 pm2 an2 cd2 ct2), sl2⟩) (c2 : PySem.W.codeIn K cd2 "holds" = true) (k2 : PySem.W.keepIn K (.ref f2) = true)
    (a3 : PySem.W.nsIn K mainGlobals "after" = some (some (.ref f3))) (l3 : K.lookup f3 = some ⟨oc3, od3, .func (PySem.W.fnOf "after" "after" (defArgs s_after) (defBody s_after) (defScope s_after) .none kV3 dc3 pm3 an3 cd3 ct3), sl3⟩) (c3 : PySem.W.codeIn K cd3 "after" = true) (k3 : PySem.W.keepIn K (.ref f3) = true)
    (a4 : PySem.W.nsIn K mainGlobals "_law_open" = some (some (.ref f4))) (l4 : K.lookup f4 = some ⟨oc4, od4, .func (PySem.W.fnOf "_law_open" "_law_open" (defArgs s_open) (defBody s_open) (defScope s_open) .none kV4 dc4 pm4 an4 cd4 ct4), sl4⟩) (c4 : PySem.W.codeIn K cd4 "_law_open" = true) (k4 : PySem.W.keepIn K (.ref f4) = true)
    (a5 : PySem.W.nsIn K mainGlobals "_law_pull" = some (some (.ref f5))) (l5 : K.lookup f5 = some ⟨oc5, od5, .func (PySem.W.fnOf "_law_pull" "_law_pull" (defArgs s_pull) (defBody s_pull) (defScope s_pull) .none kV5 dc5 pm5 an5 cd5 ct5), sl5⟩) (c5 : PySem.W.codeIn K cd5 "_law_pull" = true) (k5 : PySem.W.keepIn K (.ref f5) = true)
    (a6 : PySem.W.nsIn K mainGlobals "_law_like" = some (some (.ref f6))) (l6 : K.lookup f6 = some ⟨oc6, od6, .func (PySem.W.fnOf "_law_like" "_law_like" (defArgs s_like) (defBody s_like) (defScope s_like) .none kV6 dc6 pm6 an6 cd6 ct6), sl6⟩) (c6 : PySem.W.codeIn K cd6 "_law_like" = true) (k6 : PySem.W.keepIn K (.ref f6) = true)
    (a7 : PySem.W.nsIn K mainGlobals "_law_mating" = some (some (.ref f7))) (l7 : K.lookup f7 = some ⟨oc7, od7, .func (PySem.W.fnOf "_law_mating" "_law_mating" (defArgs s_mating) (defBody s_mating) (defScope s_mating) .none kV7 dc7 pm7 an7 cd7 ct7), sl7⟩) (c7 : PySem.W.codeIn K cd7 "_law_mating" = true) (k7 : PySem.W.keepIn K (.ref f7) = true)
    (a8 : PySem.W.nsIn K mainGlobals "_law_ends" = some (some (.ref f8))) (l8 : K.lookup f8 = some ⟨oc8, od8, .func (PySem.W.fnOf "_law_ends" "_law_ends" (defArgs s_ends) (defBody s_ends) (defScope s_ends) .none kV8 dc8 pm8 an8 cd8 ct8), sl8⟩) (c8 : PySem.W.codeIn K cd8 "_law_ends" = true) (k8 : PySem.W.keepIn K (.ref f8) = true)
    (a9 : PySem.W.nsIn K mainGlobals "_law_scaled" = some (some (.ref f9))) (l9 : K.lookup f9 = some ⟨oc9, od9, .func (PySem.W.fnOf "_law_scaled" "_law_scaled" (defArgs s_scaled) (defBody s_scaled) (defScope s_scaled) .none kV9 dc9 pm9 an9 cd9 ct9), sl9⟩) (c9 : PySem.W.codeIn K cd9 "_law_scaled" = true) (k9 : PySem.W.keepIn K (.ref f9) = true)
    (a10 : PySem.W.nsIn K mainGlobals "_law_after_far" = some (some (.ref f10))) (l10 : K.lookup f10 = some ⟨oc10, od10, .func (PySem.W.fnOf "_law_after_far" "_law_after_far" (defArgs s_after_far) (defBody s_after_far) (defScope s_after_far) .none kV10 dc10 pm10 an10 cd10 ct10), sl10⟩) (c10 : PySem.W.codeIn K cd10 "_law_after_far" = true) (k10 : PySem.W.keepIn K (.ref f10) = true)
    (a11 : PySem.W.nsIn K mainGlobals "law" = some (some (.ref f11))) (l11 : K.lookup f11 = some ⟨oc11, od11, .func (PySem.W.fnOf "law" "law" (defArgs s_law) (defBody s_law) (defScope s_law) .none kV11 dc11 pm11 an11 cd11 ct11), sl11⟩) (c11 : PySem.W.codeIn K cd11 "law" = true) (k11 : PySem.W.keepIn K (.ref f11) = true)
    (z0 : PySem.W.nsIn K mainGlobals "len" = some none) (z1 : PySem.W.nsIn K mainGlobals "list" = some none) (z2 : PySem.W.nsIn K mainGlobals "tuple" = some none) (z3 : PySem.W.nsIn K mainGlobals "bool" = some none) (z4 : PySem.W.nsIn K mainGlobals "int" = some none) (z5 : PySem.W.nsIn K mainGlobals "str" = some none) (z6 : PySem.W.nsIn K mainGlobals "isinstance" = some none) (z7 : PySem.W.nsIn K mainGlobals "all" = some none) (z8 : PySem.W.nsIn K mainGlobals "any" = some none) (z9 : PySem.W.nsIn K mainGlobals "range" = some none) (z10 : PySem.W.nsIn K mainGlobals "max" = some none) (z11 : PySem.W.nsIn K mainGlobals "min" = some none) (z12 : PySem.W.nsIn K mainGlobals "dict" = some none) (z13 : PySem.W.nsIn K mainGlobals "sorted" = some none) :
    ∃ fd : FuncData, (∀ (s : Shared) (v : Value), BindsTo s fd ⟨[v], []⟩ [("_law_script", v)]) ∧ ∀ base : Heap, K.In base → base.Ns mainGlobals mg → FnOk l.prog w K mg base CX0 6 fa fd P_law (spLaw K) := by
  have e := hfa.symm.trans (PySem.W.mg_of X G a11)
  cases e
  have B : Bn mg := ⟨PySem.W.mg_none_of X G z0, PySem.W.mg_none_of X G z1, PySem.W.mg_none_of X G z2, PySem.W.mg_none_of X G z3, PySem.W.mg_none_of X G z4, PySem.W.mg_none_of X G z5, PySem.W.mg_none_of X G z6, PySem.W.mg_none_of X G z7, PySem.W.mg_none_of X G z8, PySem.W.mg_none_of X G z9, PySem.W.mg_none_of X G z10, PySem.W.mg_none_of X G z11, PySem.W.mg_none_of X G z12, PySem.W.mg_none_of X G z13⟩
  have F0 := fun_mk (st := s_back) l0 c0 k0
  have D_back : DefAt K mg "back" s_back P_back _ _ := ⟨F0, F0.binds (ps := P_back) fun _ _ _ _ _ _ us hl => match us, hl with | [_], _ => rfl, PySem.W.mg_of X G a0⟩
  have F1 := fun_mk (st := s_part) l1 c1 k1
  have D_part : DefAt K mg "part" s_part P_part _ _ := ⟨F1, F1.binds (ps := P_part) fun _ _ _ _ _ _ us hl => match us, hl with | [_, _, _], _ => rfl, PySem.W.mg_of X G a1⟩
  have F2 := fun_mk (st := s_holds) l2 c2 k2
  have D_holds : DefAt K mg "holds" s_holds P_holds _ _ := ⟨F2, F2.binds (ps := P_holds) fun _ _ _ _ _ _ us hl => match us, hl with | [_, _, _], _ => rfl, PySem.W.mg_of X G a2⟩
  have F3 := fun_mk (st := s_after) l3 c3 k3
  have D_after : DefAt K mg "after" s_after P_after _ _ := ⟨F3, F3.binds (ps := P_after) fun _ _ _ _ _ _ us hl => match us, hl with | [_, _], _ => rfl, PySem.W.mg_of X G a3⟩
  have F4 := fun_mk (st := s_open) l4 c4 k4
  have D_open : DefAt K mg "_law_open" s_open P_open _ _ := ⟨F4, F4.binds (ps := P_open) fun _ _ _ _ _ _ us hl => match us, hl with | [_], _ => rfl, PySem.W.mg_of X G a4⟩
  have F5 := fun_mk (st := s_pull) l5 c5 k5
  have D_pull : DefAt K mg "_law_pull" s_pull P_pull _ _ := ⟨F5, F5.binds (ps := P_pull) fun _ _ _ _ _ _ us hl => match us, hl with | [_, _], _ => rfl, PySem.W.mg_of X G a5⟩
  have F6 := fun_mk (st := s_like) l6 c6 k6
  have D_like : DefAt K mg "_law_like" s_like P_like _ _ := ⟨F6, F6.binds (ps := P_like) fun _ _ _ _ _ _ us hl => match us, hl with | [_, _], _ => rfl, PySem.W.mg_of X G a6⟩
  have F7 := fun_mk (st := s_mating) l7 c7 k7
  have D_mating : DefAt K mg "_law_mating" s_mating P_mating _ _ := ⟨F7, F7.binds (ps := P_mating) fun _ _ _ _ _ _ us hl => match us, hl with | [_, _], _ => rfl, PySem.W.mg_of X G a7⟩
  have F8 := fun_mk (st := s_ends) l8 c8 k8
  have D_ends : DefAt K mg "_law_ends" s_ends P_ends _ _ := ⟨F8, F8.binds (ps := P_ends) fun _ _ _ _ _ _ us hl => match us, hl with | [_], _ => rfl, PySem.W.mg_of X G a8⟩
  have F9 := fun_mk (st := s_scaled) l9 c9 k9
  have D_scaled : DefAt K mg "_law_scaled" s_scaled P_scaled _ _ := ⟨F9, F9.binds (ps := P_scaled) fun _ _ _ _ _ _ us hl => match us, hl with | [_, _], _ => rfl, PySem.W.mg_of X G a9⟩
  have F10 := fun_mk (st := s_after_far) l10 c10 k10
  have D_after_far : DefAt K mg "_law_after_far" s_after_far P_after_far _ _ := ⟨F10, F10.binds (ps := P_after_far) fun _ _ _ _ _ _ us hl => match us, hl with | [_], _ => rfl, PySem.W.mg_of X G a10⟩
  have F11 := fun_mk (st := s_law) l11 c11 k11
  have D_law : DefAt K mg "law" s_law P_law _ _ := ⟨F11, F11.binds (ps := P_law) fun _ _ _ _ _ _ us hl => match us, hl with | [_], _ => rfl, PySem.W.mg_of X G a11⟩
  exact ⟨PySem.W.fnOf "law" "law" (defArgs s_law) (defBody s_law) (defScope s_law) .none kV11 dc11 pm11 an11 cd11 ct11, fun s v => .of_eq rfl, fun base _ _ => ok_law D_law D_open D_pull D_like D_mating D_ends D_scaled D_after_far D_after D_back D_part D_holds B⟩
end Fm
open PySem PySem.W PyProof.Rows
set_option maxRecDepth 100000 in
set_option maxHeartbeats 0 in
theorem PySem.Challenge.cw_farmates_k06_one_mating_after_another_holds : PySem.Challenge.rw_farmates_k06_one_mating_after_another.Holds := by
  w_on; o_law; k_head; (case hw => w_witness2)
  k_fill
  refine L2.walk_of (l := PySem.Challenge.rw_farmates_k06_one_mating_after_another) (n := 63) (k := 6) (x := "_law_script") (CX := fun _ => L2.CX0) (sp := fun w => Fm.spLaw _) rfl (by decide) rfl ⟨rfl, by decide, by decide⟩ (fun w h Y => PySem.W.kIn_of Y) ?F (fun _ _ a ns hl _ hS => ⟨a, ns, rfl, hS, hl, fun _ => rfl⟩) (fun _ _ _ _ _ h => h)
  case F =>
    intro w mg fa h KX G hmg
    refine' Fm.all_mk KX G hmg ?a0 ?l0 ?c0 ?k0 ?a1 ?l1 ?c1 ?k1 ?a2 ?l2 ?c2 ?k2 ?a3 ?l3 ?c3 ?k3 ?a4 ?l4 ?c4 ?k4 ?a5 ?l5 ?c5 ?k5 ?a6 ?l6 ?c6 ?k6 ?a7 ?l7 ?c7 ?k7 ?a8 ?l8 ?c8 ?k8 ?a9 ?l9 ?c9 ?k9 ?a10 ?l10 ?c10 ?k10 ?a11 ?l11 ?c11 ?k11 ?z0 ?z1 ?z2 ?z3 ?z4 ?z5 ?z6 ?z7 ?z8 ?z9 ?z10 ?z11 ?z12 ?z13
    (case a0 => k_is); (case l0 => k_is); (case c0 => k_is); (case k0 => k_is); (case a1 => k_is); (case l1 => k_is); (case c1 => k_is); (case k1 => k_is); (case a2 => k_is); (case l2 => k_is); (case c2 => k_is); (case k2 => k_is); (case a3 => k_is); (case l3 => k_is); (case c3 => k_is); (case k3 => k_is); (case a4 => k_is); (case l4 => k_is); (case c4 => k_is); (case k4 => k_is); (case a5 => k_is); (case l5 => k_is); (case c5 => k_is); (case k5 => k_is); (case a6 => k_is); (case l6 => k_is); (case c6 => k_is); (case k6 => k_is); (case a7 => k_is); (case l7 => k_is); (case c7 => k_is); (case k7 => k_is); (case a8 => k_is); (case l8 => k_is); (case c8 => k_is); (case k8 => k_is); (case a9 => k_is); (case l9 => k_is); (case c9 => k_is); (case k9 => k_is); (case a10 => k_is); (case l10 => k_is); (case c10 => k_is); (case k10 => k_is); (case a11 => k_is); (case l11 => k_is); (case c11 => k_is); (case k11 => k_is); (case z0 => k_is); (case z1 => k_is); (case z2 => k_is); (case z3 => k_is); (case z4 => k_is); (case z5 => k_is); (case z6 => k_is); (case z7 => k_is); (case z8 => k_is); (case z9 => k_is); (case z10 => k_is); (case z11 => k_is); (case z12 => k_is); (case z13 => k_is)
