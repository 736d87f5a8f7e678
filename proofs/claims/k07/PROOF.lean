import PyProof.Rows.All
import Wide.All
import OpenK.AllK
import Wide.FinOn
import HandS.ForMost
import HandS.Codes
import HandS.IsInst
import HandS.Wide
import HandS.Style
import PySem.Challenge.RW_farmates_k07_matings_moved_swelled_clipp
set_option Elab.async false
set_option linter.all false
set_option maxRecDepth 100000
set_option maxHeartbeats 4000000
namespace Fm
open PySem L2
def top (i : Nat) : Stmt := PySem.Challenge.pw_farmates_k07_matings_moved_swelled_clipp.main.body.getD i (.Pass ⟨0, 0, 0, 0⟩)

/-! ### what stands behind the top -/
structure DefAt (K : PySem.W.Frag) (mg : Str → Option Value) (x : Str) (st : Stmt) (ps : List Str) (f : Addr) (fd : FuncData) : Prop where
  F : Fun K x x st f fd
  b : Binds K fd ps []
  g : mg x = some (.ref f)
structure Bn (mg : Str → Option Value) : Prop where
  len : mg "len" = none
  list : mg "list" = none
  tuple : mg "tuple" = none
  bool : mg "bool" = none
  int : mg "int" = none
  str : mg "str" = none
  isinstance : mg "isinstance" = none
  all : mg "all" = none
  any : mg "any" = none
  range : mg "range" = none
  max : mg "max" = none
  min : mg "min" = none
  dict : mg "dict" = none
  sorted : mg "sorted" = none
/-! ### heaps -/
theorem same_upd {H : Hp} {p : Addr} {o : HO} (h : H p = none) : Same H (upd H p o) := fun b x e => by
  rw [upd_ne (ne_of_none e h)]
  exact e
theorem sameU {H H' : Hp} {p : Addr} {o : HO} (e : Same H H') (h : H p = none) : Same H (upd H' p o) := fun b x q => by
  rw [upd_ne (ne_of_none q h)]
  exact e b x q
/-- all but d stands as it stood -/
def Keep (d : Addr) (H H' : Hp) : Prop := ∀ b o, b ≠ d → H b = some o → H' b = some o
theorem Keep.refl (d : Addr) (H : Hp) : Keep d H H := fun _ _ _ h => h
theorem Keep.trans {d : Addr} {H H1 H2 : Hp} (a : Keep d H H1) (b : Keep d H1 H2) : Keep d H H2 := fun c o n h => b c o n (a c o n h)
theorem Keep.upd {d : Addr} {H : Hp} {o : HO} : Keep d H (upd H d o) := fun b x n h => by
  rw [upd_ne n]
  exact h
theorem keepS {d : Addr} {H H' : Hp} (a : Same H H') : Keep d H H' := fun b o _ h => a b o h
/-! ### the drawing -/
structure Drawn (H : Hp) (d l : Addr) (ns : List Int) (i z s : Int) : Prop where
  at_d : H d = some (.lst [.ref l, .int i, .int z, .int s])
  at_l : H l = some (.lst (ns.map V.int))
  len : ns.length ≤ 63
  i0 : 0 ≤ i
  z0 : 0 ≤ z
  s0 : 0 ≤ s
  s1 : s < 2147483629
def Draw (H : Hp) (d l : Addr) : Prop := ∃ ns i z s, Drawn H d l ns i z s
theorem Drawn.ne {H : Hp} {d l : Addr} {ns : List Int} {i z s : Int} (h : Drawn H d l ns i z s) : l ≠ d := by
  refine ne_of h.at_l h.at_d fun e => ?_
  cases ns with
  | nil => cases e
  | cons x r => cases e
theorem Drawn.same {H H' : Hp} {d l : Addr} {ns : List Int} {i z s : Int} (h : Drawn H d l ns i z s) (e : Same H H') : Drawn H' d l ns i z s := { h with at_d := e _ _ h.at_d, at_l := e _ _ h.at_l }
theorem Draw.same {H H' : Hp} {d l : Addr} (h : Draw H d l) (e : Same H H') : Draw H' d l := by
  obtain ⟨ns, i, z, s, h⟩ := h
  exact ⟨ns, i, z, s, h.same e⟩
/-- the drawing list stored anew -/
theorem Drawn.put {H : Hp} {d l : Addr} {ns : List Int} {i z s i' z' s' : Int} (h : Drawn H d l ns i z s) (hi : 0 ≤ i') (hz : 0 ≤ z') (h0 : 0 ≤ s') (h1 : s' < 2147483629) :
    Drawn (upd H d (.lst [.ref l, .int i', .int z', .int s'])) d l ns i' z' s' :=
  ⟨upd_same, (by rw [upd_ne h.ne]; exact h.at_l), h.len, hi, hz, h0, h1⟩
def spOpen (K : PySem.W.Frag) : Sp := fun vs H Q _ => ∃ (a : Addr) (ns : List Int), vs = [.ref a] ∧ SqL K H a (ns.map V.int) ∧ ns.length ≤ 63 ∧
  ∀ H' d l, Same H H' → H d = none → H l = none → Draw H' d l → Q (.ref d) H'
def spPull : Sp := fun vs H Q _ => ∃ (d l : Addr) (c : Int), vs = [.ref d, .int c] ∧ Draw H d l ∧ 1 ≤ c ∧ c < 2 ^ 100 ∧
  ∀ (v : Int) (H' : Hp), 0 ≤ v → v < c → Draw H' d l → Keep d H H' → Q (.int v) H'
def spLaw (K : PySem.W.Frag) : Sp := fun vs H Q _ => ∃ (a : Addr) (ns : List Int), vs = [.ref a] ∧ SqL K H a (ns.map V.int) ∧ ns.length ≤ 63 ∧ ∀ H', Q (.bl true) H'
/-! ### data that is compared, at most n deep -/
mutual
inductive Rp (H : Hp) : Nat → V → PyData → Prop
  | non (n : Nat) : Rp H n .non .none
  | bl (n : Nat) (b : Bool) : Rp H n (.bl b) (.bool b)
  | int (n : Nat) (i : Int) : Rp H n (.int i) (.int i)
  | str (n : Nat) (x : Str) : Rp H n (.str x) (.str x)
  | lst {n : Nat} {a : Addr} {xs : List V} {ds : List PyData} : H a = some (.lst xs) → xs.length ≤ 100000 → RpAll H n xs ds → Rp H (n + 1) (.ref a) (.list ds)
  | tup {n : Nat} {a : Addr} {xs : List V} {ds : List PyData} : H a = some (.tup xs) → xs.length ≤ 100000 → RpAll H n xs ds → Rp H (n + 1) (.ref a) (.tuple ds)
inductive RpAll (H : Hp) : Nat → List V → List PyData → Prop
  | nil (n : Nat) : RpAll H n [] []
  | cons {n : Nat} {v : V} {vs : List V} {d : PyData} {ds : List PyData} : Rp H n v d → RpAll H n vs ds → RpAll H n (v :: vs) (d :: ds)
end
mutual
theorem Rp.same {H H' : Hp} (e : Same H H') : ∀ {n : Nat} {v : V} {d : PyData}, Rp H n v d → Rp H' n v d
  | _, _, _, .non n => .non n
  | _, _, _, .bl n b => .bl n b
  | _, _, _, .int n i => .int n i
  | _, _, _, .str n x => .str n x
  | _, _, _, .lst h l r => .lst (e _ _ h) l (RpAll.same e r)
  | _, _, _, .tup h l r => .tup (e _ _ h) l (RpAll.same e r)
theorem RpAll.same {H H' : Hp} (e : Same H H') : ∀ {n : Nat} {vs : List V} {ds : List PyData}, RpAll H n vs ds → RpAll H' n vs ds
  | _, _, _, .nil n => .nil n
  | _, _, _, .cons h r => .cons (Rp.same e h) (RpAll.same e r)
end
theorem RpAll.length {H : Hp} : ∀ {n : Nat} {vs : List V} {ds : List PyData}, RpAll H n vs ds → vs.length = ds.length
  | _, _, _, .nil _ => rfl
  | _, _, _, .cons _ r => congrArg (· + 1) (RpAll.length r)
theorem RpAll.get {H : Hp} : ∀ {n : Nat} {vs : List V} {ds : List PyData}, RpAll H n vs ds → ∀ (i : Nat), i < ds.length → ∃ v d, vs[i]? = some v ∧ ds[i]? = some d ∧ Rp H n v d
  | _, _, _, .nil _, i, h => absurd h (Nat.not_lt_zero i)
  | _, _, _, .cons (v := v) (d := d) h r, 0, _ => ⟨v, d, rfl, rfl, h⟩
  | _, _, _, .cons h r, i + 1, hi => by
    obtain ⟨v, d, a, b, c⟩ := RpAll.get r i (Nat.lt_of_succ_lt_succ hi)
    exact ⟨v, d, a, b, c⟩
def spLike (n : Nat) : Sp := fun vs H Q _ => ∃ (a b : V) (d : PyData), vs = [a, b] ∧ Rp H n a d ∧ Rp H n b d ∧ ∀ H', Same H H' → Q (.bl true) H'
def spBot : Sp := fun _ _ _ _ => False
section
variable {P : Program} {w : World} {K : PySem.W.Frag} {mg : Str → Option Value} {base : Heap}
theorem ok_bot {f : Addr} {fd : FuncData} {ps : List Str} : FnOk P w K mg base CX0 0 f fd ps spBot := ⟨fun _ _ _ _ h => h.elim, fun _ _ _ _ _ _ _ _ _ _ _ _ _ h => h.elim⟩
end
theorem Draw.ne_new {H : Hp} {d l p : Addr} (h : Draw H d l) (n : H p = none) : p ≠ d := by
  obtain ⟨ns, i, z, s, h⟩ := h
  exact (ne_of_none h.at_d n).symm
theorem Keep.of {d : Addr} {H H' : Hp} (k : Keep d H H') {b : Addr} {o : HO} (h : H b = some o) (n : b ≠ d) : H' b = some o := k b o n h
theorem sz_lt {n : Nat} (h : n < 100000) : n < sizeLine := Nat.lt_of_lt_of_le h (by decide)

/-! ### _law_open -/
abbrev s_open : Stmt := top 10
abbrev N_open : List Str := ["_law_script", "_law_seed", "_law_cell"]
abbrev P_open : List Str := ["_law_script"]
theorem sc_open : FnScope N_open P_open (defScope s_open) := ⟨rfl, rfl, rfl, by decide +kernel, rfl, by decide +kernel, by decide +kernel⟩
theorem cut63 (xs : List V) (h : xs.length ≤ 63) : cutV xs none (some 63) = xs := by
  unfold cutV
  rw [show HT.sIx xs.length xs.length (some 63) = min 63 xs.length from HT.sIx_nat xs.length xs.length 63, HT.sIx_none, Nat.min_eq_right h]
  show (xs.drop 0).take (xs.length - 0) = xs
  rw [List.drop_zero, Nat.sub_zero, List.take_length]
section
variable {P : Program} {w : World} {K : PySem.W.Frag} {mg : Str → Option Value} {base : Heap}
theorem ok_open {f : Addr} {fd : FuncData} (D : DefAt K mg "_law_open" s_open P_open f fd) (B : Bn mg) : FnOk P w K mg base CX0 1 f fd P_open (spOpen K) := by
  refine D.F.ok sc_open (fun vs H Q E h => ?_) (fun cdv A outer s H vs Q E hr h => ?_)
  · obtain ⟨a, ns, rfl, _⟩ := h
    rfl
  · obtain ⟨a, ns, rfl, hS, hlen, q⟩ := h
    refine ⟨_, (pss_cons (ps_set (i := 1) sc_open.nd rfl (.inl rfl) pe_int)
      (pss_cons (ps_for PassesOwn.never rfl (pi_list (pe_slice sl_list (pv 0) po_none (po_some pe_int))) (pg_name (i := 2) sc_open.nd rfl (.inl rfl)) (pss_one (ps_set (i := 1) sc_open.nd rfl (.inl rfl) (pe_op op_mod (pe_op op_add (pe_op op_add (pe_op op_mul (pv 1) pe_int) (pe_op op_mod (pv 2) pe_int)) pe_int) pe_int))))
      (pss_one (ps_ret (pe_lst (pa_cons (pe_callTy call_list_of (by rfl) B.list (by decide +kernel) (pa_cons (pe_slice sl_list (pv 0) po_none (po_some pe_int)) pa_nil)) (pa_cons pe_int (pa_cons pe_int (pa_cons (pv 1) pa_nil))))))))), ?_⟩
    refine ⟨.ref a, rfl, 63, rfl, a, ns.map V.int, rfl, hS, fun c nc => ?_⟩
    rw [cut63 _ (by rw [List.length_map]; exact hlen)]
    have s1 : Same H (upd H c (.lst (ns.map V.int))) := same_upd nc
    refine ⟨c, rfl, ⟨_, SqL.of upd_same⟩, for_list (K := K) (a := c) (xs := ns.map V.int) (fun i σ H2 => ∃ (sd : Int) (v : Option V), σ = [some (.ref a), some (.int sd), v] ∧ H2 = upd H c (.lst (ns.map V.int)) ∧ 0 ≤ sd ∧ sd < 2147483629)
      ⟨9134, none, rfl, rfl, by decide, by decide⟩ (fun i σ H2 _ ⟨_, _, _, e2, _⟩ => e2 ▸ SqL.of upd_same) ?_ ?_⟩
    · rintro i y σ H2 hi ⟨sd, v, rfl, rfl, h0, h1⟩
      obtain ⟨z, rfl⟩ : ∃ z, y = V.int z := by
        rw [List.getElem?_map] at hi
        cases e : ns[i]? with
        | none =>
          rw [e] at hi
          cases hi
        | some z =>
          rw [e] at hi
          exact ⟨z, (Option.some.inj hi).symm⟩
      refine ⟨_, rfl, _, _, rfl, rfl, .inl ⟨by omega, by omega⟩, _, rfl, _, _, rfl, rfl, (by show (0 : Int) < 2147483587; decide), _, _, rfl, rfl, _, _, rfl, rfl, _, _, rfl, rfl, (by show (0 : Int) < 2147483629; decide), ?_⟩
      exact ⟨_, _, rfl, rfl, Int.emod_nonneg _ (by decide), Int.emod_lt_of_pos _ (by decide)⟩
    · rintro σ H2 ⟨sd, v, rfl, rfl, h0, h1⟩
      refine ⟨.ref a, rfl, 63, rfl, a, ns.map V.int, rfl, s1.seq hS, fun p np => ?_⟩
      rw [cut63 _ (by rw [List.length_map]; exact hlen)]
      have s2 : Same H (upd (upd H c (.lst (ns.map V.int))) p (.lst (ns.map V.int))) := s1.trans (same_upd np)
      refine ⟨p, _, rfl, .inl (SqL.of upd_same), fun l nl => ?_⟩
      refine ⟨_, rfl, by show 4 ≤ sizeLine; decide, fun d nd => ?_⟩
      have s3 : Same H (upd (upd (upd H c (.lst (ns.map V.int))) p (.lst (ns.map V.int))) l (.lst (ns.map V.int))) := s2.trans (same_upd nl)
      refine q _ d l (s3.trans (same_upd nd)) (s3.free nd) (s2.free nl) ⟨ns, 0, 0, sd, upd_same, ?_, hlen, by decide, by decide, h0, h1⟩
      have nld : l ≠ d := fun e => by
        rw [← e, upd_same] at nd
        cases nd
      rw [upd_ne nld, upd_same]
end

/-! ### _law_pull -/
abbrev s_pull : Stmt := top 11
abbrev N_pull : List Str := ["_law_draw", "_law_cap", "_law_cell", "_law_got", "_law_seed"]
abbrev P_pull : List Str := ["_law_draw", "_law_cap"]
theorem sc_pull : FnScope N_pull P_pull (defScope s_pull) := ⟨rfl, rfl, rfl, by decide +kernel, rfl, by decide +kernel, by decide +kernel⟩
section
variable {P : Program} {w : World} {K : PySem.W.Frag} {mg : Str → Option Value} {base : Heap}
theorem ok_pull {f : Addr} {fd : FuncData} (D : DefAt K mg "_law_pull" s_pull P_pull f fd) (B : Bn mg) : FnOk P w K mg base CX0 1 f fd P_pull spPull := by
  refine D.F.ok sc_pull (fun vs H Q E h => ?_) (fun cdv A outer s H vs Q E hr h => ?_)
  · obtain ⟨d, l, c, rfl, _⟩ := h
    rfl
  · obtain ⟨d, l, c, rfl, hD, hc1, hc2, q⟩ := h
    refine ⟨_, (C8.pss_cut (ps_if (PW.pt (pw_and (pt_cmpR op_lt (pe_ix ix_list (pv 0) pe_int (fun _ _ => rfl)) (pv 1) (nomark _)) (pw_and1 (pt_cmpR op_lt (pe_ix ix_list (pv 0) pe_int (fun _ _ => rfl)) (pe_callB call_len_seq (by rfl) B.len (by decide +kernel) (pa_cons (pe_ix ix_list (pv 0) pe_int (fun _ _ => rfl)) pa_nil)) (nomark _))))) (pss_cons (ps_set (i := 2) sc_pull.nd rfl (.inl rfl) (pe_ix ix_list (pe_ix ix_list (pv 0) pe_int (fun _ _ => rfl)) (pe_ix ix_list (pv 0) pe_int (fun _ _ => rfl)) (fun _ _ => rfl)))
      (pss_cons (ps_asg (pe_op op_add (pe_ix ix_list (pv 0) pe_int (fun _ _ => rfl)) pe_int) (pg_sub (pv 0) pe_int set_list))
      (pss_cons (ps_asg pe_int (pg_sub (pv 0) pe_int set_list))
      (pss_one (ps_if (pt_cmpR op_ge (pv 2) (pe_op op_pow pe_int pe_int) (nomark _)) (pss_one (ps_asg (pv 2) (pg_sub (pv 0) pe_int set_list))) (pss_one (ps_asg (pe_op op_mod (pe_op op_add (pe_op op_add (pe_op op_mul (pe_ix ix_list (pv 0) pe_int (fun _ _ => rfl)) pe_int) (pe_op op_mul (pe_op op_mod (pv 2) pe_int) pe_int)) pe_int) pe_int) (pg_sub (pv 0) pe_int set_list)))))))) pss_nil)
      (C8.pss_cut (ps_if (pt_cmpR op_ge (pe_ix ix_list (pv 0) pe_int (fun _ _ => rfl)) (pv 1) (nomark _)) (pss_cons (ps_set (i := 3) sc_pull.nd rfl (.inl rfl) (pe_op op_mod (pe_ix ix_list (pv 0) pe_int (fun _ _ => rfl)) (pv 1)))
      (pss_cons (ps_asg (pe_op op_fdivW (pe_ix ix_list (pv 0) pe_int (fun _ _ => rfl)) (pv 1)) (pg_sub (pv 0) pe_int set_list))
      (pss_one (ps_ret (pv 3))))) pss_nil)
      (pss_cons (ps_set (i := 4) sc_pull.nd rfl (.inl rfl) (pe_ix ix_list (pv 0) pe_int (fun _ _ => rfl)))
      (pss_cons (ps_asg (pe_op op_mod (pe_op op_add (pe_op op_add (pe_op op_mul (pe_op op_mod (pe_op op_mul (pv 4) (pv 4)) pe_int) pe_int) (pe_op op_mul (pv 4) pe_int)) pe_int) pe_int) (pg_sub (pv 0) pe_int set_list))
      (pss_cons (ps_if (pt_cmpR op_lt (pv 1) (pe_op op_pow pe_int pe_int) (nomark _)) (pss_one (ps_ret (pe_op op_mod (pe_op op_add (pe_op op_fdivW (pe_ix ix_list (pv 0) pe_int (fun _ _ => rfl)) pe_int) (pe_op op_mul (pe_op op_mod (pe_ix ix_list (pv 0) pe_int (fun _ _ => rfl)) pe_int) pe_int)) (pv 1)))) pss_nil)
      (pss_one (ps_ret (pe_op op_mod (pe_op op_add (pe_op op_fdivW (pe_op op_pow (pe_ix ix_list (pv 0) pe_int (fun _ _ => rfl)) pe_int) pe_int) (pe_ix ix_list (pv 0) pe_int (fun _ _ => rfl))) (pv 1))))))))), ?_⟩
    have hpow : CPow 10 18 := ⟨by decide, by decide, by decide⟩
    have hpow8 : CPow 10 8 := ⟨by decide, by decide, by decide⟩
    have ix0 : ∀ {a b e g : V}, atI [a, b, e, g] 0 = some a := fun {_ _ _ _} => atI_nat (j := 0) rfl
    have ix1 : ∀ {a b e g : V}, atI [a, b, e, g] 1 = some b := fun {_ _ _ _} => atI_nat (j := 1) rfl
    have ix2 : ∀ {a b e g : V}, atI [a, b, e, g] 2 = some e := fun {_ _ _ _} => atI_nat (j := 2) rfl
    have ix3 : ∀ {a b e g : V}, atI [a, b, e, g] 3 = some g := fun {_ _ _ _} => atI_nat (j := 3) rfl
    -- the first if
    refine ⟨fun σ H1 => ∃ y : Option V, σ = [some (.ref d), some (.int c), y, none, none] ∧ Draw H1 d l ∧ Keep d H H1, ?_, ?_⟩
    · obtain ⟨ns, i, z, sd, hW⟩ := hD
      refine ⟨.ref d, rfl, d, _, 2, .int z, rfl, rfl, SqL.of hW.at_d, ix2, .int c, rfl, z, c, rfl, rfl, _, rfl, ?_⟩
      refine ite2 (fun _ => ?_) (fun _ => iteF ⟨none, rfl, ⟨ns, i, z, sd, hW⟩, Keep.refl _ _⟩)
      refine ⟨.ref d, rfl, d, _, 1, .int i, rfl, rfl, SqL.of hW.at_d, ix1, .ref d, rfl, d, _, 0, .ref l, rfl, rfl, SqL.of hW.at_d, ix0, l, _, rfl, .inl (SqL.of hW.at_l), i, _, rfl, rfl, _, rfl, ?_⟩
      refine ite2 (fun hb => ?_) (fun _ => ⟨none, rfl, ⟨ns, i, z, sd, hW⟩, Keep.refl _ _⟩)
      have hil : i < ((ns.map V.int).length : Int) := of_decide_eq_true hb
      rw [List.length_map] at hil
      have hi0 := hW.i0
      obtain ⟨j, rfl⟩ : ∃ j : Nat, i = (j : Int) := ⟨i.toNat, by omega⟩
      have hj : j < ns.length := by omega
      have gj : (ns.map V.int)[j]? = some (.int ns[j]) := by
        rw [List.getElem?_map, List.getElem?_eq_getElem hj]
        rfl
      -- cell = draw[0][draw[1]]
      refine ⟨.ref d, rfl, d, _, 0, .ref l, rfl, rfl, SqL.of hW.at_d, ix0, .ref d, rfl, d, _, 1, .int (j : Int), rfl, rfl, SqL.of hW.at_d, ix1, l, _, (j : Int), .int ns[j], rfl, rfl, SqL.of hW.at_l, atI_nat gj, ?_⟩
      -- draw[1] = draw[1] + 1
      refine ⟨.ref d, rfl, d, _, 1, .int (j : Int), rfl, rfl, SqL.of hW.at_d, ix1, _, _, rfl, rfl, .ref d, rfl, d, _, 1, 1, rfl, rfl, hW.at_d, rfl, ?_⟩
      have W1 := hW.put (i' := (j : Int) + 1) (z' := z) (s' := sd) (by omega) hW.z0 hW.s0 hW.s1
      -- draw[2] = 0
      refine ⟨.ref d, rfl, d, _, 2, 2, rfl, rfl, upd_same, rfl, ?_⟩
      have W2 := W1.put (i' := (j : Int) + 1) (z' := 0) (s' := sd) (by omega) (by decide) hW.s0 hW.s1
      -- if cell >= 10 ** 18
      refine ⟨_, rfl, _, _, rfl, rfl, hpow, _, _, rfl, rfl, _, rfl, ?_⟩
      refine ite2 (fun hg => ?_) (fun _ => ?_)
      · have hg' : (10 : Int) ^ 18 ≤ ns[j] := of_decide_eq_true hg
        refine ⟨_, rfl, .ref d, rfl, d, _, 2, 2, rfl, rfl, upd_same, rfl, ?_⟩
        exact ⟨_, rfl, ⟨_, _, _, _, W2.put (i' := (j : Int) + 1) (z' := ns[j]) (s' := sd) (by omega) (by omega) hW.s0 hW.s1⟩, (Keep.upd.trans Keep.upd).trans Keep.upd⟩
      · refine ⟨.ref d, rfl, d, _, 3, .int sd, rfl, rfl, SqL.of upd_same, ix3, _, _, rfl, rfl, .inr ⟨by decide, by decide⟩, _, rfl, _, _, rfl, rfl, (by show (0 : Int) < 2147483647; decide), _, _, rfl, rfl, .inr ⟨by decide, by decide⟩, _, _, rfl, rfl, _, _, rfl, rfl, _, _, rfl, rfl, (by show (0 : Int) < 2147483629; decide), ?_⟩
        refine ⟨.ref d, rfl, d, _, 3, 3, rfl, rfl, upd_same, rfl, ?_⟩
        exact ⟨_, rfl, ⟨_, _, _, _, W2.put (i' := (j : Int) + 1) (z' := 0) (s' := _) (by omega) (by decide) (Int.emod_nonneg _ (by decide)) (Int.emod_lt_of_pos _ (by decide))⟩, (Keep.upd.trans Keep.upd).trans Keep.upd⟩
    · rintro σ H1 ⟨y, rfl, ⟨ns, i, z, sd, hW⟩, kp⟩
      -- the second if
      refine ⟨fun σ H2 => H2 = H1 ∧ ∃ y' : Option V, σ = [some (.ref d), some (.int c), y, y', none], ?_, ?_⟩
      · refine ⟨.ref d, rfl, d, _, 2, .int z, rfl, rfl, SqL.of hW.at_d, ix2, .int c, rfl, z, c, rfl, rfl, _, rfl, ?_⟩
        refine ite2 (fun hg => ?_) (fun _ => ⟨rfl, none, rfl⟩)
        refine ⟨.ref d, rfl, d, _, 2, .int z, rfl, rfl, SqL.of hW.at_d, ix2, .int c, rfl, _, _, rfl, rfl, (by omega), ?_⟩
        have hwd : CDivW z c := wide_div (b := 100) (by omega) (by omega) (by decide) (by decide)
        refine ⟨.ref d, rfl, d, _, 2, .int z, rfl, rfl, SqL.of hW.at_d, ix2, .int c, rfl, _, _, rfl, rfl, hwd, .ref d, rfl, d, _, 2, 2, rfl, rfl, hW.at_d, rfl, _, rfl, ?_⟩
        exact q _ _ (Int.emod_nonneg _ (by omega)) (Int.emod_lt_of_pos _ (by omega)) ⟨_, _, _, _, hW.put (i' := i) (z' := z / c) (s' := sd) hW.i0 (Int.ediv_nonneg hW.z0 (by omega)) hW.s0 hW.s1⟩ (kp.trans Keep.upd)
      · rintro σ H2 ⟨rfl, y', rfl⟩
        have hs0 := hW.s0
        have hs1 := hW.s1
        have hm : CMul sd sd := .inl ⟨by omega, by omega⟩
        -- seed = draw[3]; draw[3] = ..
        refine ⟨.ref d, rfl, d, _, 3, .int sd, rfl, rfl, SqL.of hW.at_d, ix3, ?_⟩
        refine ⟨_, rfl, _, rfl, _, _, rfl, rfl, hm, _, _, rfl, rfl, (by show (0 : Int) < 2147483647; decide), _, _, rfl, rfl, .inr ⟨by decide, by decide⟩, _, rfl, _, _, rfl, rfl, .inr ⟨by decide, by decide⟩, _, _, rfl, rfl, _, _, rfl, rfl, _, _, rfl, rfl, (by show (0 : Int) < 2147483629; decide), ?_⟩
        refine ⟨.ref d, rfl, d, _, 3, 3, rfl, rfl, hW.at_d, rfl, ?_⟩
        have n0 : 0 ≤ (sd * sd % 2147483647 * 3 + sd * 45991 + 746773) % 2147483629 := Int.emod_nonneg _ (by decide)
        have n1 : (sd * sd % 2147483647 * 3 + sd * 45991 + 746773) % 2147483629 < 2147483629 := Int.emod_lt_of_pos _ (by decide)
        have W1 := hW.put (i' := i) (z' := z) (s' := (sd * sd % 2147483647 * 3 + sd * 45991 + 746773) % 2147483629) hW.i0 hW.z0 n0 n1
        have na : ((sd * sd % 2147483647 * 3 + sd * 45991 + 746773) % 2147483629).natAbs < 2 ^ 64 := by omega
        -- if cap < 10 ** 8
        refine ⟨_, rfl, _, _, rfl, rfl, hpow8, _, _, rfl, rfl, _, rfl, ?_⟩
        refine ite2 (fun _ => ?_) (fun _ => ?_)
        · refine ⟨.ref d, rfl, d, _, 3, .int _, rfl, rfl, SqL.of W1.at_d, ix3, _, _, rfl, rfl, wide_div (b := 10) (by decide) (by decide) (by decide) (by decide), .ref d, rfl, d, _, 3, .int _, rfl, rfl, SqL.of W1.at_d, ix3, _, _, rfl, rfl, (by show (0 : Int) < 6151; decide), _, _, rfl, rfl, .inr ⟨by decide, by decide⟩, _, _, rfl, rfl, .int c, rfl, _, _, rfl, rfl, (by omega), ?_⟩
          exact q _ _ (Int.emod_nonneg _ (by omega)) (Int.emod_lt_of_pos _ (by omega)) ⟨_, _, _, _, W1⟩ (kp.trans Keep.upd)
        · refine ⟨.ref d, rfl, d, _, 3, .int _, rfl, rfl, SqL.of W1.at_d, ix3, _, _, rfl, rfl, ⟨by decide, by decide, na⟩, _, _, rfl, rfl, wide_div (b := 10) (by decide) (by decide) (by decide) (by decide), .ref d, rfl, d, _, 3, .int _, rfl, rfl, SqL.of W1.at_d, ix3, _, _, rfl, rfl, .int c, rfl, _, _, rfl, rfl, (by omega), ?_⟩
          exact q _ _ (Int.emod_nonneg _ (by omega)) (Int.emod_lt_of_pos _ (by omega)) ⟨_, _, _, _, W1⟩ (kp.trans Keep.upd)
end

/-! ### _law_like -/
abbrev s_like : Stmt := top 12
abbrev N_like : List Str := ["_law_found", "_law_due", "_law_j"]
abbrev P_like : List Str := ["_law_found", "_law_due"]
theorem sc_like : FnScope N_like P_like (defScope s_like) := ⟨rfl, rfl, rfl, by decide +kernel, rfl, by decide +kernel, by decide +kernel⟩
section
variable {P : Program} {w : World} {K : PySem.W.Frag} {mg : Str → Option Value} {base : Heap}
theorem isn_no {v : V} {A B : Prop} (h : v ≠ .non) (b : B) : if decide (v = V.non) = true then A else B := by
  rw [decide_eq_false h]
  exact iteF b
theorem like_step {k n : Nat} {f : Addr} {fd : FuncData} {spR : Sp} (D_like : DefAt K mg "_law_like" s_like P_like f fd) (B : Bn mg) (G_like : FnOk P w K mg base CX0 k f fd P_like spR)
    (hR : ∀ m, n = m + 1 → ∀ vs H Q E, spLike m vs H Q E → spR vs H Q E) : FnOk P w K mg base CX0 (k + 1) f fd P_like (spLike n) := by
  refine D_like.F.ok sc_like (fun vs H Q E h => ?_) (fun cdv A outer s H vs Q E hr h => ?_)
  · obtain ⟨a, b, d, rfl, _⟩ := h
    rfl
  · obtain ⟨a, b, d, rfl, ha, hb, q⟩ := h
    refine ⟨_, (pss_cons (ps_if (pt_cmpR op_isN (pv 1) pe_non (nomark _)) (pss_one (ps_ret (pe_cmpR op_isN (pv 0) pe_non (nomark _)))) pss_nil)
      (pss_cons (ps_if (pt_val (pe_callB call_isi (by rfl) B.isinstance (by decide +kernel) (pa_cons (pv 1) (pa_cons (pe_bltn (v := .ty "bool") (by rfl) B.bool (by decide +kernel) rfl) pa_nil)))) (pss_one (ps_ret (pe_and (pe_callB call_isi (by rfl) B.isinstance (by decide +kernel) (pa_cons (pv 0) (pa_cons (pe_bltn (v := .ty "bool") (by rfl) B.bool (by decide +kernel) rfl) pa_nil))) (pe_one (pe_cmpR op_eq (pv 0) (pv 1) (nomark _)))))) pss_nil)
      (pss_cons (ps_if (pt_val (pe_callB call_isi (by rfl) B.isinstance (by decide +kernel) (pa_cons (pv 1) (pa_cons (pe_bltn (v := .ty "int") (by rfl) B.int (by decide +kernel) rfl) pa_nil)))) (pss_one (ps_ret (pe_and (pe_callB call_isi (by rfl) B.isinstance (by decide +kernel) (pa_cons (pv 0) (pa_cons (pe_bltn (v := .ty "int") (by rfl) B.int (by decide +kernel) rfl) pa_nil))) (pe_and (pe_not (pe_callB call_isi (by rfl) B.isinstance (by decide +kernel) (pa_cons (pv 0) (pa_cons (pe_bltn (v := .ty "bool") (by rfl) B.bool (by decide +kernel) rfl) pa_nil)))) (pe_one (pe_cmpR op_eq (pv 0) (pv 1) (nomark _))))))) pss_nil)
      (pss_cons (ps_if (pt_val (pe_callB call_isi (by rfl) B.isinstance (by decide +kernel) (pa_cons (pv 1) (pa_cons (pe_bltn (v := .ty "str") (by rfl) B.str (by decide +kernel) rfl) pa_nil)))) (pss_one (ps_ret (pe_and (pe_callB call_isi (by rfl) B.isinstance (by decide +kernel) (pa_cons (pv 0) (pa_cons (pe_bltn (v := .ty "str") (by rfl) B.str (by decide +kernel) rfl) pa_nil))) (pe_one (pe_cmpR op_eq (pv 0) (pv 1) (nomark _)))))) pss_nil)
      (pss_cons (ps_if (PW.pt (pw_or (pt_cmpR op_ne (pe_callB call_isi (by rfl) B.isinstance (by decide +kernel) (pa_cons (pv 1) (pa_cons (pe_bltn (v := .ty "tuple") (by rfl) B.tuple (by decide +kernel) rfl) pa_nil))) (pe_callB call_isi (by rfl) B.isinstance (by decide +kernel) (pa_cons (pv 0) (pa_cons (pe_bltn (v := .ty "tuple") (by rfl) B.tuple (by decide +kernel) rfl) pa_nil))) (nomark _)) (pw_or1 (pt_cmpR op_ne (pe_callB call_isi (by rfl) B.isinstance (by decide +kernel) (pa_cons (pv 1) (pa_cons (pe_bltn (v := .ty "list") (by rfl) B.list (by decide +kernel) rfl) pa_nil))) (pe_callB call_isi (by rfl) B.isinstance (by decide +kernel) (pa_cons (pv 0) (pa_cons (pe_bltn (v := .ty "list") (by rfl) B.list (by decide +kernel) rfl) pa_nil))) (nomark _))))) (pss_one (ps_ret pe_bl)) pss_nil)
      (pss_cons (ps_if (pt_cmpR op_ne (pe_callB call_len_seq (by rfl) B.len (by decide +kernel) (pa_cons (pv 0) pa_nil)) (pe_callB call_len_seq (by rfl) B.len (by decide +kernel) (pa_cons (pv 1) pa_nil)) (nomark _)) (pss_one (ps_ret pe_bl)) pss_nil)
      (pss_one (ps_ret (pe_callB (cr_all rfl) (by rfl) B.all (by decide +kernel) (pa_cons (pe_lc (own := [("_law_j", 2)]) (g := gName 2) (by rfl) sc_like.nd (pi_range1 (by rfl) B.range (pa_cons (pe_callB call_len_seq (by rfl) B.len (by decide +kernel) (pa_cons (pv 1) pa_nil)) pa_nil)) (blkOk_by (own := [("_law_j", 2)]) (N := N_like) (sc := defScope s_like) (by decide +kernel)) (fun _ _ _ _ _ => (pg_name (i := 2) sc_like.nd rfl (.inl rfl))) (fun _ _ _ _ _ => pts_nil) (fun _ _ _ _ _ => (pe_call G_like (hr.mono (by omega)) (by rfl) D_like.g D_like.F.kp D_like.b .nil pass0 (pa_cons (pe_ix (show IxR _ (rIx K) from ix_seq) (pv 0) (pv 2) (fun _ _ => rfl)) (pa_cons (pe_ix (show IxR _ (rIx K) from ix_seq) (pv 1) (pv 2) (fun _ _ => rfl)) pa_nil))))) pa_nil)))))))))), ?_⟩
    cases ha with
    | non =>
      cases hb
      exact ⟨.non, rfl, rfl, _, rfl, iteT ⟨.non, rfl, rfl, q H (Same.refl H)⟩⟩
    | bl _ x =>
      cases hb
      refine ⟨.bl x, rfl, rfl, _, rfl, isn_no (by intro z; cases z) ?_⟩
      refine ⟨.bl x, rfl, _, _, _, _, true, rfl, ClsV.ty _, TyX.base (TyOf.bl _), kit_ty (by decide +kernel), _, rfl, iteT ?_⟩
      refine ⟨.bl x, rfl, _, _, _, _, true, rfl, ClsV.ty _, TyX.base (TyOf.bl _), kit_ty (by decide +kernel), _, rfl, iteT ?_⟩
      refine ⟨.bl x, rfl, .bl x, rfl, rfl, ?_⟩
      rw [decide_eq_true rfl]
      exact q H (Same.refl H)
    | int _ x =>
      cases hb
      refine ⟨.int x, rfl, rfl, _, rfl, isn_no (by intro z; cases z) ?_⟩
      refine ⟨.int x, rfl, _, _, _, _, false, rfl, ClsV.ty _, TyX.base (TyOf.int _), kit_ty (by decide +kernel), _, rfl, iteF ?_⟩
      refine ⟨.int x, rfl, _, _, _, _, true, rfl, ClsV.ty _, TyX.base (TyOf.int _), kit_ty (by decide +kernel), _, rfl, iteT ?_⟩
      refine ⟨.int x, rfl, _, _, _, _, true, rfl, ClsV.ty _, TyX.base (TyOf.int _), kit_ty (by decide +kernel), _, rfl, iteT ?_⟩
      refine ⟨.int x, rfl, _, _, _, _, false, rfl, ClsV.ty _, TyX.base (TyOf.int _), kit_ty (by decide +kernel), _, rfl, _, rfl, iteT ?_⟩
      refine ⟨.int x, rfl, .int x, rfl, rfl, ?_⟩
      rw [decide_eq_true rfl]
      exact q H (Same.refl H)
    | str _ x =>
      cases hb
      refine ⟨.str x, rfl, rfl, _, rfl, isn_no (by intro z; cases z) ?_⟩
      refine ⟨.str x, rfl, _, _, _, _, false, rfl, ClsV.ty _, TyX.base (TyOf.str _), kit_ty (by decide +kernel), _, rfl, iteF ?_⟩
      refine ⟨.str x, rfl, _, _, _, _, false, rfl, ClsV.ty _, TyX.base (TyOf.str _), kit_ty (by decide +kernel), _, rfl, iteF ?_⟩
      refine ⟨.str x, rfl, _, _, _, _, true, rfl, ClsV.ty _, TyX.base (TyOf.str _), kit_ty (by decide +kernel), _, rfl, iteT ?_⟩
      refine ⟨.str x, rfl, _, _, _, _, true, rfl, ClsV.ty _, TyX.base (TyOf.str _), kit_ty (by decide +kernel), _, rfl, iteT ?_⟩
      refine ⟨.str x, rfl, .str x, rfl, rfl, ?_⟩
      rw [decide_eq_true rfl]
      exact q H (Same.refl H)
    | @lst m p xs ds hp lp rp =>
      cases hb with
      | @lst _ r ys _ hq lq rq =>
      have lx : xs.length = ds.length := rp.length
      have ly : ys.length = ds.length := rq.length
      refine ⟨.ref r, rfl, rfl, _, rfl, isn_no (by intro z; cases z) ?_⟩
      refine ⟨.ref r, rfl, _, _, _, _, false, rfl, ClsV.ty _, TyX.base (TyOf.lst hq), kit_ty (by decide +kernel), _, rfl, iteF ?_⟩
      refine ⟨.ref r, rfl, _, _, _, _, false, rfl, ClsV.ty _, TyX.base (TyOf.lst hq), kit_ty (by decide +kernel), _, rfl, iteF ?_⟩
      refine ⟨.ref r, rfl, _, _, _, _, false, rfl, ClsV.ty _, TyX.base (TyOf.lst hq), kit_ty (by decide +kernel), _, rfl, iteF ?_⟩
      refine ⟨.ref r, rfl, _, _, _, _, false, rfl, ClsV.ty _, TyX.base (TyOf.lst hq), kit_ty (by decide +kernel), .ref p, rfl, _, _, _, _, false, rfl, ClsV.ty _, TyX.base (TyOf.lst hp), kit_ty (by decide +kernel), rfl, _, rfl, iteNS rfl ?_⟩
      refine ⟨.ref r, rfl, _, _, _, _, true, rfl, ClsV.ty _, TyX.base (TyOf.lst hq), kit_ty (by decide +kernel), .ref p, rfl, _, _, _, _, true, rfl, ClsV.ty _, TyX.base (TyOf.lst hp), kit_ty (by decide +kernel), rfl, _, rfl, iteNS rfl ?_⟩
      refine ⟨.ref p, rfl, p, xs, rfl, .inl (SqL.of hp), .ref r, rfl, r, ys, rfl, .inl (SqL.of hq), rfl, _, rfl, iteNS (by rw [lx, ly]) ?_⟩
      refine ⟨.ref r, rfl, r, ys, rfl, .inl (SqL.of hq), _, rfl, (by have := lq; omega), (by have := lq; omega), fun D hD => lc_range (lo := 0) (n := ((ys.length : Int)).toNat) (fun i H2 => ∃ bs : List Bool, Same H H2 ∧ H2 D = some (.lst (bs.map V.bl)) ∧ bs.length = i ∧ bs.all id = true) ⟨[], same_upd hD, upd_same, rfl, rfl⟩ ?_ ?_⟩
      · rintro i H2 hi ⟨bs, sm, hDl, rfl, hal⟩
        have hi' : bs.length < ds.length := by omega
        obtain ⟨v1, d1, e1, e2, r1⟩ := rp.get bs.length hi'
        obtain ⟨v2, d2, e3, e4, r2⟩ := rq.get bs.length hi'
        have ed : d2 = d1 := Option.some.inj (e4.symm.trans e2)
        subst ed
        refine ⟨rfl, ?_⟩
        refine ⟨.ref p, rfl, .int (0 + (bs.length : Int)), rfl, .inl ⟨p, xs, _, v1, rfl, rfl, SqL.of (sm _ _ hp), at_of (by omega) e1, .ref r, rfl, .int (0 + (bs.length : Int)), rfl, .inl ⟨r, ys, _, v2, rfl, rfl, SqL.of (sm _ _ hq), at_of (by omega) e3, ?_⟩⟩⟩
        refine hR m rfl _ _ _ _ ⟨v1, v2, d2, rfl, r1.same sm, r2.same sm, fun H3 s3 => ?_⟩
        refine ⟨bs.map V.bl, s3 _ _ hDl, sz_lt (by rw [List.length_map]; omega), bs ++ [true], fun b o e => ?_, ?_, by rw [List.length_append]; rfl, by rw [List.all_append, hal]; rfl⟩
        · rw [upd_ne (ne_of_none e hD)]
          exact s3 _ _ (sm _ _ e)
        · rw [upd_same, List.map_append]
          rfl
      · rintro H2 ⟨bs, sm, hDl, _, hal⟩
        refine ⟨D, bs, rfl, SqL.of hDl, ?_⟩
        rw [hal]
        exact q H2 sm
    | @tup m p xs ds hp lp rp =>
      cases hb with
      | @tup _ r ys _ hq lq rq =>
      have lx : xs.length = ds.length := rp.length
      have ly : ys.length = ds.length := rq.length
      refine ⟨.ref r, rfl, rfl, _, rfl, isn_no (by intro z; cases z) ?_⟩
      refine ⟨.ref r, rfl, _, _, _, _, false, rfl, ClsV.ty _, TyX.base (TyOf.tup hq), kit_ty (by decide +kernel), _, rfl, iteF ?_⟩
      refine ⟨.ref r, rfl, _, _, _, _, false, rfl, ClsV.ty _, TyX.base (TyOf.tup hq), kit_ty (by decide +kernel), _, rfl, iteF ?_⟩
      refine ⟨.ref r, rfl, _, _, _, _, false, rfl, ClsV.ty _, TyX.base (TyOf.tup hq), kit_ty (by decide +kernel), _, rfl, iteF ?_⟩
      refine ⟨.ref r, rfl, _, _, _, _, true, rfl, ClsV.ty _, TyX.base (TyOf.tup hq), kit_ty (by decide +kernel), .ref p, rfl, _, _, _, _, true, rfl, ClsV.ty _, TyX.base (TyOf.tup hp), kit_ty (by decide +kernel), rfl, _, rfl, iteNS rfl ?_⟩
      refine ⟨.ref r, rfl, _, _, _, _, false, rfl, ClsV.ty _, TyX.base (TyOf.tup hq), kit_ty (by decide +kernel), .ref p, rfl, _, _, _, _, false, rfl, ClsV.ty _, TyX.base (TyOf.tup hp), kit_ty (by decide +kernel), rfl, _, rfl, iteNS rfl ?_⟩
      refine ⟨.ref p, rfl, p, xs, rfl, .inr (SqT.of hp), .ref r, rfl, r, ys, rfl, .inr (SqT.of hq), rfl, _, rfl, iteNS (by rw [lx, ly]) ?_⟩
      refine ⟨.ref r, rfl, r, ys, rfl, .inr (SqT.of hq), _, rfl, (by have := lq; omega), (by have := lq; omega), fun D hD => lc_range (lo := 0) (n := ((ys.length : Int)).toNat) (fun i H2 => ∃ bs : List Bool, Same H H2 ∧ H2 D = some (.lst (bs.map V.bl)) ∧ bs.length = i ∧ bs.all id = true) ⟨[], same_upd hD, upd_same, rfl, rfl⟩ ?_ ?_⟩
      · rintro i H2 hi ⟨bs, sm, hDl, rfl, hal⟩
        have hi' : bs.length < ds.length := by omega
        obtain ⟨v1, d1, e1, e2, r1⟩ := rp.get bs.length hi'
        obtain ⟨v2, d2, e3, e4, r2⟩ := rq.get bs.length hi'
        have ed : d2 = d1 := Option.some.inj (e4.symm.trans e2)
        subst ed
        refine ⟨rfl, ?_⟩
        refine ⟨.ref p, rfl, .int (0 + (bs.length : Int)), rfl, .inr <| .inl ⟨p, xs, _, v1, rfl, rfl, SqT.of (sm _ _ hp), at_of (by omega) e1, .ref r, rfl, .int (0 + (bs.length : Int)), rfl, .inr <| .inl ⟨r, ys, _, v2, rfl, rfl, SqT.of (sm _ _ hq), at_of (by omega) e3, ?_⟩⟩⟩
        refine hR m rfl _ _ _ _ ⟨v1, v2, d2, rfl, r1.same sm, r2.same sm, fun H3 s3 => ?_⟩
        refine ⟨bs.map V.bl, s3 _ _ hDl, sz_lt (by rw [List.length_map]; omega), bs ++ [true], fun b o e => ?_, ?_, by rw [List.length_append]; rfl, by rw [List.all_append, hal]; rfl⟩
        · rw [upd_ne (ne_of_none e hD)]
          exact s3 _ _ (sm _ _ e)
        · rw [upd_same, List.map_append]
          rfl
      · rintro H2 ⟨bs, sm, hDl, _, hal⟩
        refine ⟨D, bs, rfl, SqL.of hDl, ?_⟩
        rw [hal]
        exact q H2 sm
theorem ok_like {f : Addr} {fd : FuncData} (D : DefAt K mg "_law_like" s_like P_like f fd) (B : Bn mg) : ∀ n : Nat, FnOk P w K mg base CX0 (n + 1) f fd P_like (spLike n)
  | 0 => like_step D B ok_bot fun m e => absurd e (by omega)
  | n + 1 => like_step D B (ok_like D B n) fun m e vs H Q E h => by
    have e : m = n := by omega
    subst e
    exact h
end

/-! ### holds, part -/
def tup4 (o p m f : Int) : HO := .tup [.int o, .int p, .int m, .int f]
abbrev s_holds : Stmt := top 5
abbrev N_holds : List Str := ["mating", "at", "many"]
abbrev P_holds : List Str := ["mating", "at", "many"]
theorem sc_holds : FnScope N_holds P_holds (defScope s_holds) := ⟨rfl, rfl, rfl, by decide +kernel, rfl, by decide +kernel, by decide +kernel⟩
def spHolds : Sp := fun vs H Q _ => ∃ (t : Addr) (o p m f : Int) (x y : V), vs = [.ref t, x, y] ∧ H t = some (tup4 o p m f) ∧
  ((∃ b, x = .bl b ∧ Q (.bl false) H) ∨ (∃ i b, x = .int i ∧ y = .bl b ∧ Q (.bl false) H) ∨ ∃ i k, x = .int i ∧ y = .int k ∧ Q (.bl (decide (1 ≤ k ∧ o ≤ i ∧ i + k ≤ o + m))) H)
theorem at4_0 {a b c d : V} : atI [a, b, c, d] 0 = some a := atI_nat (j := 0) rfl
theorem at4_1 {a b c d : V} : atI [a, b, c, d] 1 = some b := atI_nat (j := 1) rfl
theorem at4_2 {a b c d : V} : atI [a, b, c, d] 2 = some c := atI_nat (j := 2) rfl
theorem at4_3 {a b c d : V} : atI [a, b, c, d] 3 = some d := atI_nat (j := 3) rfl
section
variable {P : Program} {w : World} {K : PySem.W.Frag} {mg : Str → Option Value} {base : Heap}
theorem ok_holds {f : Addr} {fd : FuncData} (D : DefAt K mg "holds" s_holds P_holds f fd) (B : Bn mg) : FnOk P w K mg base CX0 1 f fd P_holds spHolds := by
  refine D.F.ok sc_holds (fun vs H Q E h => ?_) (fun cdv A outer s H vs Q E hr h => ?_)
  · obtain ⟨t, o, p, m, f, x, y, rfl, _⟩ := h
    rfl
  · obtain ⟨t, o, p, m, f, x, y, rfl, ht, h⟩ := h
    refine ⟨_, (pss_cons (ps_if (PW.pt (pw_or (pt_val (pe_callB call_isi (by rfl) B.isinstance (by decide +kernel) (pa_cons (pv 1) (pa_cons (pe_bltn (v := .ty "bool") (by rfl) B.bool (by decide +kernel) rfl) pa_nil)))) (pw_or (pt_val (pe_callB call_isi (by rfl) B.isinstance (by decide +kernel) (pa_cons (pv 2) (pa_cons (pe_bltn (v := .ty "bool") (by rfl) B.bool (by decide +kernel) rfl) pa_nil)))) (pw_or1 (pt_cmpR op_lt (pv 2) pe_int (nomark _)))))) (pss_one (ps_ret pe_bl)) pss_nil)
      (pss_one (ps_ret (pe_and (pe_cmpR op_le (pe_ix ix_tup (pv 0) pe_int (fun _ _ => rfl)) (pv 1) (nomark _)) (pe_one (pe_cmpR op_le (pe_op op_add (pv 1) (pv 2)) (pe_op op_add (pe_ix ix_tup (pv 0) pe_int (fun _ _ => rfl)) (pe_ix ix_tup (pv 0) pe_int (fun _ _ => rfl))) (nomark _))))))), ?_⟩
    rcases h with ⟨b, rfl, q⟩ | ⟨i, b, rfl, rfl, q⟩ | ⟨i, k, rfl, rfl, q⟩
    · exact ⟨.bl b, rfl, _, _, _, _, true, rfl, ClsV.ty _, TyX.base (TyOf.bl _), kit_ty (by decide +kernel), _, rfl, q⟩
    · refine ⟨.int i, rfl, _, _, _, _, false, rfl, ClsV.ty _, TyX.base (TyOf.int _), kit_ty (by decide +kernel), _, rfl, ?_⟩
      exact ⟨.bl b, rfl, _, _, _, _, true, rfl, ClsV.ty _, TyX.base (TyOf.bl _), kit_ty (by decide +kernel), _, rfl, q⟩
    · refine ⟨.int i, rfl, _, _, _, _, false, rfl, ClsV.ty _, TyX.base (TyOf.int _), kit_ty (by decide +kernel), _, rfl, ?_⟩
      refine ⟨.int k, rfl, _, _, _, _, false, rfl, ClsV.ty _, TyX.base (TyOf.int _), kit_ty (by decide +kernel), _, rfl, ?_⟩
      refine ⟨.int k, rfl, k, 1, rfl, rfl, _, rfl, ?_⟩
      refine ite2 (fun hk => ?_) (fun hk => ?_)
      · have hk' : k < 1 := of_decide_eq_true hk
        have e : decide (1 ≤ k ∧ o ≤ i ∧ i + k ≤ o + m) = false := decide_eq_false (by omega)
        rw [e] at q
        exact q
      · have hk' : ¬ k < 1 := fun z => hk (decide_eq_true z)
        refine ⟨.ref t, rfl, t, _, 0, .int o, rfl, rfl, SqT.of ht, at4_0, .int i, rfl, o, i, rfl, rfl, _, rfl, ?_⟩
        refine ite2 (fun h1 => ?_) (fun h1 => ?_)
        · have h1' : o ≤ i := of_decide_eq_true h1
          refine ⟨.int i, rfl, .int k, rfl, i, k, rfl, rfl, .ref t, rfl, t, _, 0, .int o, rfl, rfl, SqT.of ht, at4_0, .ref t, rfl, t, _, 2, .int m, rfl, rfl, SqT.of ht, at4_2, o, m, rfl, rfl, _, _, rfl, rfl, ?_⟩
          have e : decide (1 ≤ k ∧ o ≤ i ∧ i + k ≤ o + m) = decide (i + k ≤ o + m) := decide_eq_decide.mpr ⟨fun z => z.2.2, fun z => ⟨by omega, h1', z⟩⟩
          rw [e] at q
          exact q
        · have h1' : ¬ o ≤ i := fun z => h1 (decide_eq_true z)
          have e : decide (1 ≤ k ∧ o ≤ i ∧ i + k ≤ o + m) = false := decide_eq_false (by omega)
          rw [e] at q
          exact q
end
abbrev s_part : Stmt := top 4
abbrev N_part : List Str := ["mating", "at", "many", "one", "other", "reach", "turned", "ahead"]
abbrev P_part : List Str := ["mating", "at", "many"]
theorem sc_part : FnScope N_part P_part (defScope s_part) := ⟨rfl, rfl, rfl, by decide +kernel, rfl, by decide +kernel, by decide +kernel⟩
def partP (o p m f i k : Int) : Int := if f = 1 then p + m - (i - o) - k else p + (i - o)
def spPart : Sp := fun vs H Q _ => ∃ (t : Addr) (o p m f i k : Int), vs = [.ref t, .int i, .int k] ∧ H t = some (tup4 o p m f) ∧ (f = 0 ∨ f = 1) ∧ 1 ≤ k ∧ o ≤ i ∧ i + k ≤ o + m ∧
  ∀ r, H r = none → Q (.ref r) (upd H r (tup4 i (partP o p m f i k) k f))
section
variable {P : Program} {w : World} {K : PySem.W.Frag} {mg : Str → Option Value} {base : Heap}
theorem ok_part {f fH : Addr} {fd fdH : FuncData} (D : DefAt K mg "part" s_part P_part f fd) (D_holds : DefAt K mg "holds" s_holds P_holds fH fdH) (B : Bn mg) : FnOk P w K mg base CX0 2 f fd P_part spPart := by
  have G_holds : FnOk P w K mg base CX0 1 fH fdH P_holds spHolds := ok_holds D_holds B
  refine D.F.ok sc_part (fun vs H Q E h => ?_) (fun cdv A outer s H vs Q E hr h => ?_)
  · obtain ⟨t, o, p, m, f, i, k, rfl, _⟩ := h
    rfl
  · obtain ⟨t, o, p, m, f, i, k, rfl, ht, hf, h1, h2, h3, q⟩ := h
    refine ⟨_, (pss_cons (ps_if (pt_not (pt_val (pe_call G_holds (hr.mono (by omega)) (by rfl) D_holds.g D_holds.F.kp D_holds.b .nil pass0 (pa_cons (pv 0) (pa_cons (pv 1) (pa_cons (pv 2) pa_nil)))))) (pss_one ps_never) pss_nil)
      (pss_cons (ps_asg (pv 0) (pg_tup (by rfl) (pgs_cons (pg_name (i := 3) sc_part.nd rfl (.inl rfl)) (pgs_cons (pg_name (i := 4) sc_part.nd rfl (.inl rfl)) (pgs_cons (pg_name (i := 5) sc_part.nd rfl (.inl rfl)) (pgs_cons (pg_name (i := 6) sc_part.nd rfl (.inl rfl)) pgs_nil))))))
      (pss_cons (ps_set (i := 7) sc_part.nd rfl (.inl rfl) (pe_op op_sub (pv 1) (pv 3)))
      (pss_cons (ps_if (pt_cmpR op_eq (pv 6) pe_int (nomark _)) (pss_one (ps_ret (pe_tup (pa_cons (pv 1) (pa_cons (pe_op op_sub (pe_op op_sub (pe_op op_add (pv 4) (pv 5)) (pv 7)) (pv 2)) (pa_cons (pv 2) (pa_cons pe_int pa_nil))))))) pss_nil)
      (pss_one (ps_ret (pe_tup (pa_cons (pv 1) (pa_cons (pe_op op_add (pv 4) (pv 7)) (pa_cons (pv 2) (pa_cons pe_int pa_nil))))))))))), ?_⟩
    refine ⟨.ref t, rfl, .int i, rfl, .int k, rfl, t, o, p, m, f, .int i, .int k, rfl, ht, .inr (.inr ⟨i, k, rfl, rfl, ?_⟩)⟩
    rw [decide_eq_true (show 1 ≤ k ∧ o ≤ i ∧ i + k ≤ o + m from ⟨h1, h2, h3⟩)]
    refine ⟨true, rfl, iteF ?_⟩
    refine ⟨.ref t, rfl, t, _, rfl, SqT.of ht, rfl, .int o, _, rfl, .int p, _, rfl, .int m, _, rfl, .int f, _, rfl, rfl, ?_⟩
    refine ⟨.int i, rfl, .int o, rfl, i, o, rfl, rfl, ?_⟩
    refine ⟨.int f, rfl, rfl, _, rfl, ?_⟩
    rcases hf with rfl | rfl
    · rw [decide_eq_false (show ¬ (V.int 0 = V.int 1) from fun z => by cases z)]
      refine iteF ?_
      refine ⟨.int i, rfl, .int p, rfl, .int (i - o), rfl, p, i - o, rfl, rfl, .int k, rfl, by show 4 ≤ sizeLine; decide, fun r hr' => ?_⟩
      exact q r hr'
    · rw [decide_eq_true (show (V.int 1 = V.int 1) from rfl)]
      refine iteT ?_
      refine ⟨.int i, rfl, .int p, rfl, .int m, rfl, p, m, rfl, rfl, .int (i - o), rfl, _, _, rfl, rfl, .int k, rfl, _, _, rfl, rfl, .int k, rfl, by show 4 ≤ sizeLine; decide, fun r hr' => ?_⟩
      exact q r hr'
end

/-! ### _law_mating -/
abbrev s_mating : Stmt := top 13
abbrev N_mating : List Str := ["_law_draw", "_law_length", "_law_many", "_law_room"]
abbrev P_mating : List Str := ["_law_draw", "_law_length"]
theorem sc_mating : FnScope N_mating P_mating (defScope s_mating) := ⟨rfl, rfl, rfl, by decide +kernel, rfl, by decide +kernel, by decide +kernel⟩
structure Mat (n o p m f : Int) : Prop where
  m1 : 1 ≤ m
  o0 : 0 ≤ o
  o1 : o + m ≤ n
  p0 : 0 ≤ p
  p1 : p + m ≤ n
  f01 : f = 0 ∨ f = 1
def spMating : Sp := fun vs H Q _ => ∃ (d l : Addr) (n : Int), vs = [.ref d, .int n] ∧ Draw H d l ∧ 1 ≤ n ∧ n < 2 ^ 60 ∧
  ∀ (H' : Hp) (t : Addr) (o p m f : Int), Draw H' d l → Keep d H H' → H' t = some (tup4 o p m f) → Mat n o p m f → Q (.ref t) H'
section
variable {P : Program} {w : World} {K : PySem.W.Frag} {mg : Str → Option Value} {base : Heap}
theorem ok_mating {f fP : Addr} {fd fdP : FuncData} (D : DefAt K mg "_law_mating" s_mating P_mating f fd) (D_pull : DefAt K mg "_law_pull" s_pull P_pull fP fdP) (B : Bn mg) : FnOk P w K mg base CX0 2 f fd P_mating spMating := by
  have G_pull : FnOk P w K mg base CX0 1 fP fdP P_pull spPull := ok_pull D_pull B
  refine D.F.ok sc_mating (fun vs H Q E h => ?_) (fun cdv A outer s H vs Q E hr h => ?_)
  · obtain ⟨d, l, n, rfl, _⟩ := h
    rfl
  · obtain ⟨d, l, n, rfl, hD, n1, n2, q⟩ := h
    refine ⟨_, (pss_cons (ps_set (i := 2) sc_mating.nd rfl (.inl rfl) (pe_op op_add pe_int (pe_call G_pull (hr.mono (by omega)) (by rfl) D_pull.g D_pull.F.kp D_pull.b .nil pass0 (pa_cons (pv 0) (pa_cons (pv 1) pa_nil)))))
      (C8.pss_cut (ps_if (pt_cmpR op_eq (pe_call G_pull (hr.mono (by omega)) (by rfl) D_pull.g D_pull.F.kp D_pull.b .nil pass0 (pa_cons (pv 0) (pa_cons pe_int pa_nil))) pe_int (nomark _)) (pss_one (ps_set (i := 2) sc_mating.nd rfl (.inl rfl) (pe_op op_add pe_int (pe_call G_pull (hr.mono (by omega)) (by rfl) D_pull.g D_pull.F.kp D_pull.b .nil pass0 (pa_cons (pv 0) (pa_cons (pe_callB (call_min2 rfl) (by rfl) B.min (by decide +kernel) (pa_cons (pv 2) (pa_cons pe_int pa_nil))) pa_nil)))))) pss_nil)
      (pss_cons (ps_set (i := 3) sc_mating.nd rfl (.inl rfl) (pe_op op_add (pe_op op_sub (pv 1) (pv 2)) pe_int))
      (pss_one (ps_ret (pe_tup (pa_cons (pe_call G_pull (hr.mono (by omega)) (by rfl) D_pull.g D_pull.F.kp D_pull.b .nil pass0 (pa_cons (pv 0) (pa_cons (pv 3) pa_nil))) (pa_cons (pe_call G_pull (hr.mono (by omega)) (by rfl) D_pull.g D_pull.F.kp D_pull.b .nil pass0 (pa_cons (pv 0) (pa_cons (pv 3) pa_nil))) (pa_cons (pv 2) (pa_cons (pe_call G_pull (hr.mono (by omega)) (by rfl) D_pull.g D_pull.F.kp D_pull.b .nil pass0 (pa_cons (pv 0) (pa_cons pe_int pa_nil))) pa_nil)))))))))), ?_⟩
    refine ⟨.ref d, rfl, .int n, rfl, d, l, n, rfl, hD, n1, by omega, fun a H1 a0 a1 D1 k1 => ?_⟩
    refine ⟨1, a, rfl, rfl, ?_⟩
    refine ⟨fun σ H' => ∃ m : Int, σ = [some (.ref d), some (.int n), some (.int m), none] ∧ Draw H' d l ∧ Keep d H H' ∧ 1 ≤ m ∧ m ≤ n, ?_, ?_⟩
    · refine ⟨.ref d, rfl, d, l, 2, rfl, D1, by decide, by decide, fun b H2 b0 b1 D2 k2 => ?_⟩
      refine ⟨rfl, _, rfl, ?_⟩
      refine ite2 (fun _ => ?_) (fun _ => ?_)
      · refine ⟨.ref d, rfl, .int (1 + a), rfl, 1 + a, 5, rfl, d, l, _, rfl, D2, ?_, ?_, fun c H3 c0 c1 D3 k3 => ?_⟩
        · split <;> omega
        · split <;> omega
        · refine ⟨1, c, rfl, rfl, 1 + c, rfl, D3, (k1.trans k2).trans k3, by omega, ?_⟩
          have c1' : c < (if (5 : Int) < 1 + a then 5 else 1 + a) := c1
          split at c1' <;> omega
      · exact ⟨1 + a, rfl, D2, k1.trans k2, by omega, by omega⟩
    · rintro σ H3 ⟨m, rfl, D3, k3, m1, m2⟩
      refine ⟨.int n, rfl, .int m, rfl, n, m, rfl, rfl, _, 1, rfl, rfl, ?_⟩
      refine ⟨.ref d, rfl, .int (n - m + 1), rfl, d, l, n - m + 1, rfl, D3, by omega, by omega, fun o H4 o0 o1 D4 k4 => ?_⟩
      refine ⟨.ref d, rfl, .int (n - m + 1), rfl, d, l, n - m + 1, rfl, D4, by omega, by omega, fun p H5 p0 p1 D5 k5 => ?_⟩
      refine ⟨.int m, rfl, .ref d, rfl, d, l, 2, rfl, D5, by decide, by decide, fun f H6 f0 f1 D6 k6 => ?_⟩
      refine ⟨by show 4 ≤ sizeLine; decide, fun t nt => ?_⟩
      exact q _ t o p m f (D6.same (same_upd nt)) ((((k3.trans k4).trans k5).trans k6).trans (keepS (same_upd nt))) upd_same ⟨m1, o0, by omega, p0, by omega, by omega⟩
end

/-! ### _law_ends -/
abbrev s_ends : Stmt := top 14
abbrev N_ends : List Str := ["_law_mating_here", "_law_one", "_law_other", "_law_many", "_law_flips", "_law_found", "_law_k"]
abbrev P_ends : List Str := ["_law_mating_here"]
theorem sc_ends : FnScope N_ends P_ends (defScope s_ends) := ⟨rfl, rfl, rfl, by decide +kernel, rfl, by decide +kernel, by decide +kernel⟩
def endQ (p m f k : Int) : Int := if f = 1 then p + m - 1 - k else p + k
def endL (o p m f : Int) (n : Nat) : List (Int × Int) := (List.range n).map fun (k : Nat) => (o + (k : Int), endQ p m f (k : Int))
/-- the pairs at these addresses -/
def Prs (H : Hp) (ps : List Addr) (xs : List (Int × Int)) : Prop := Paired (fun a x => H a = some (.tup [.int x.1, .int x.2])) ps xs
theorem Paired.same {H H' : Hp} (e : Same H H') : ∀ {ps : List Addr} {xs : List (Int × Int)}, Prs H ps xs → Prs H' ps xs
  | _, _, .nil => .nil
  | _, _, .cons h r => .cons (e _ _ h) (Paired.same e r)
theorem Prs.same {H H' : Hp} {ps : List Addr} {xs : List (Int × Int)} (h : Prs H ps xs) (e : Same H H') : Prs H' ps xs := Paired.same e h
theorem Prs.snoc {H : Hp} : ∀ {ps : List Addr} {xs : List (Int × Int)} {a : Addr} {x : Int × Int}, Prs H ps xs → H a = some (.tup [.int x.1, .int x.2]) → Prs H (ps ++ [a]) (xs ++ [x])
  | _, _, _, _, .nil, h => .cons h .nil
  | _, _, _, _, .cons h r, h2 => .cons h (Prs.snoc r h2)
theorem Prs.length {H : Hp} : ∀ {ps : List Addr} {xs : List (Int × Int)}, Prs H ps xs → ps.length = xs.length
  | _, _, .nil => rfl
  | _, _, .cons _ r => congrArg (· + 1) (Prs.length r)
theorem Prs.get {H : Hp} : ∀ {ps : List Addr} {xs : List (Int × Int)}, Prs H ps xs → ∀ (i : Nat) (x : Int × Int), xs[i]? = some x → ∃ a, ps[i]? = some a ∧ H a = some (.tup [.int x.1, .int x.2])
  | _, _, .nil, i, x, h => by simp at h
  | _, _, .cons (a := a) h r, 0, x, e => by
    cases e
    exact ⟨a, rfl, h⟩
  | _, _, .cons h r, i + 1, x, e => Prs.get r i x e
theorem Prs.rp {H : Hp} : ∀ {ps : List Addr} {xs : List (Int × Int)}, Prs H ps xs → ∀ n, RpAll H (n + 1) (ps.map V.ref) (xs.map fun x => .tuple [.int x.1, .int x.2])
  | _, _, .nil, n => .nil _
  | _, _, .cons h r, n => .cons (.tup h (by show 2 ≤ 100000; decide) (.cons (.int _ _) (.cons (.int _ _) (.nil _)))) (Prs.rp r n)
theorem endL_snoc (o p m f : Int) (n : Nat) : endL o p m f (n + 1) = endL o p m f n ++ [(o + (n : Int), endQ p m f (n : Int))] := by
  unfold endL
  rw [List.range_succ, List.map_append]
  rfl
theorem endL_length (o p m f : Int) (n : Nat) : (endL o p m f n).length = n := by
  unfold endL
  rw [List.length_map, List.length_range]
def spEnds : Sp := fun vs H Q _ => ∃ (t : Addr) (o p f : Int) (m : Nat), vs = [.ref t] ∧ H t = some (tup4 o p (m : Int) f) ∧ m ≤ 50000 ∧
  ∀ (H' : Hp) (r : Addr) (ps : List Addr), Same H H' → H r = none → H' r = some (.lst (ps.map V.ref)) → Prs H' ps (endL o p m f m) → Q (.ref r) H'
section
variable {P : Program} {w : World} {K : PySem.W.Frag} {mg : Str → Option Value} {base : Heap}
theorem ok_ends {f : Addr} {fd : FuncData} (D : DefAt K mg "_law_ends" s_ends P_ends f fd) (B : Bn mg) : FnOk P w K mg base CX0 1 f fd P_ends spEnds := by
  refine D.F.ok sc_ends (fun vs H Q E h => ?_) (fun cdv A outer s H vs Q E hr h => ?_)
  · obtain ⟨t, o, p, f, m, rfl, _⟩ := h
    rfl
  · obtain ⟨t, o, p, f, m, rfl, ht, hm, q⟩ := h
    refine ⟨_, (pss_cons (ps_asg (pv 0) (pg_tup (by rfl) (pgs_cons (pg_name (i := 1) sc_ends.nd rfl (.inl rfl)) (pgs_cons (pg_name (i := 2) sc_ends.nd rfl (.inl rfl)) (pgs_cons (pg_name (i := 3) sc_ends.nd rfl (.inl rfl)) (pgs_cons (pg_name (i := 4) sc_ends.nd rfl (.inl rfl)) pgs_nil))))))
      (pss_cons (ps_set (i := 5) sc_ends.nd rfl (.inl rfl) (pe_lst pa_nil))
      (pss_cons (ps_for PassesOwn.never rfl (pi_range1 (by rfl) B.range (pa_cons (pv 3) pa_nil)) (pg_name (i := 6) sc_ends.nd rfl (.inl rfl)) (pss_one (ps_expr (pe_bm PySem.F.plainAttrs_list PySem.F.slot_list_append PySem.F.type_list_append mt_append (pv 5) (pa_cons (pe_tup (pa_cons (pe_op op_add (pv 1) (pv 6)) (pa_cons (pe_ifExp (pt_cmpR op_eq (pv 4) pe_int (nomark _)) (pe_op op_sub (pe_op op_sub (pe_op op_add (pv 2) (pv 3)) pe_int) (pv 6)) (pe_op op_add (pv 2) (pv 6))) pa_nil))) pa_nil)))))
      (pss_one (ps_ret (pv 5)))))), ?_⟩
    refine ⟨.ref t, rfl, t, _, rfl, SqT.of ht, rfl, .int o, _, rfl, .int p, _, rfl, .int (m : Int), _, rfl, .int f, _, rfl, rfl, ?_⟩
    refine ⟨Nat.zero_le _, fun r nr => ?_⟩
    refine ⟨.int (m : Int), rfl, (m : Int), rfl, by omega, by omega, for_range (lo := 0) (n := ((m : Int)).toNat) (fun i σ H2 => ∃ (y : Option V) (ps : List Addr), σ = [some (.ref t), some (.int o), some (.int p), some (.int (m : Int)), some (.int f), some (.ref r), y] ∧ Same H H2 ∧ H2 r = some (.lst (ps.map V.ref)) ∧ Prs H2 ps (endL o p m f i))
      ⟨none, [], rfl, same_upd nr, upd_same, .nil⟩ ?_ ?_⟩
    · rintro i σ H2 hi ⟨y, ps, rfl, sm, e2, pr⟩
      have hl := pr.length
      rw [endL_length] at hl
      have hlt : (ps.map V.ref).length < sizeLine := sz_lt (by rw [List.length_map]; omega)
      have fin : ∀ (a : Addr) (z : Int), H2 a = none → z = endQ p m f (i : Int) → ∃ (y : Option V) (ps' : List Addr), ([some (.ref t), some (.int o), some (.int p), some (.int (m : Int)), some (.int f), some (.ref r), some (.int (0 + (i : Int)))] : List (Option V)) = [some (.ref t), some (.int o), some (.int p), some (.int (m : Int)), some (.int f), some (.ref r), y] ∧ Same H (upd (upd H2 a (.tup [.int (o + (0 + (i : Int))), .int z])) r (.lst ((ps.map V.ref) ++ [.ref a]))) ∧
          (upd (upd H2 a (.tup [.int (o + (0 + (i : Int))), .int z])) r (.lst ((ps.map V.ref) ++ [.ref a]))) r = some (.lst (ps'.map V.ref)) ∧ Prs (upd (upd H2 a (.tup [.int (o + (0 + (i : Int))), .int z])) r (.lst ((ps.map V.ref) ++ [.ref a]))) ps' (endL o p m f (i + 1)) := fun a z na ez => by
        have nar : a ≠ r := (ne_of_none e2 na).symm
        refine ⟨_, ps ++ [a], rfl, fun b o' hb => ?_, ?_, ?_⟩
        · rw [upd_ne (ne_of_none hb nr), upd_ne (ne_of_none (sm _ _ hb) na)]
          exact sm _ _ hb
        · rw [upd_same, List.map_append]
          rfl
        · rw [endL_snoc]
          refine Prs.snoc (Paired.mapP pr fun b x hb => ?_) ?_
          · have nbr : b ≠ r := ne_of hb e2 (fun z => by cases z)
            rw [upd_ne nbr, upd_ne (ne_of_none hb na)]
            exact hb
          · rw [upd_ne nar, upd_same, ez, show o + (0 + (i : Int)) = o + (i : Int) by omega]
      -- found.append((one + k, ..))
      refine ⟨.ref r, rfl, .inl ⟨rfl, _, SqL.of e2⟩, .int o, rfl, .int (0 + (i : Int)), rfl, o, _, rfl, rfl, .int f, rfl, rfl, _, rfl, ?_⟩
      refine ite2 (fun hf => ?_) (fun hf => ?_)
      · have hf' : f = 1 := V.int.inj (of_decide_eq_true hf)
        refine ⟨.int p, rfl, .int (m : Int), rfl, p, _, rfl, rfl, _, 1, rfl, rfl, .int (0 + (i : Int)), rfl, _, _, rfl, rfl, by show 2 ≤ sizeLine; decide, fun a na => ?_⟩
        exact ⟨r, _, _, rfl, rfl, (by rw [upd_ne (ne_of_none e2 na)]; exact e2), hlt, fin a _ na (by unfold endQ; rw [if_pos hf']; omega)⟩
      · have hf' : ¬ f = 1 := fun z => hf (decide_eq_true (congrArg V.int z))
        refine ⟨.int p, rfl, .int (0 + (i : Int)), rfl, p, _, rfl, rfl, by show 2 ≤ sizeLine; decide, fun a na => ?_⟩
        exact ⟨r, _, _, rfl, rfl, (by rw [upd_ne (ne_of_none e2 na)]; exact e2), hlt, fin a _ na (by unfold endQ; rw [if_neg hf']; omega)⟩
    · rintro σ H2 ⟨y, ps, rfl, sm, e2, pr⟩
      exact ⟨.ref r, rfl, q H2 r ps sm nr e2 (by rw [Int.toNat_natCast] at pr; exact pr)⟩
end

/-! ### max of a tuple of ints -/
section
open PySem.Spec PyProof.Rows
variable {prog : Program} {w : World} {A : Around} {E : Value → Shared → Prop} {s : Shared} {l : Addr}
theorem iter_tup {its : Array Value} {Q : Value → Shared → Prop} (hl : s.heap.IsTuple l its)
    (h : ∀ s₂ : Shared, s₂ = { s with heap := s.heap.push { cls := .type "tuple_iterator", data := .fields #[.ref l, .int 0 0] } } →
      (s₂.heap.IsTupleIter s.heap.objs.size l 0 ∧ s₂.heap.IsTuple l its) → (∀ b ∈ [s.heap.objs.size, l], b < s₂.heap.objs.size) → l ≠ s.heap.objs.size → Q (.ref s.heap.objs.size) s₂) :
    wpAny (model prog w) A (pyIter (.ref l)) Q E s := by
  have hlt : l < s.heap.objs.size := by obtain ⟨_, e, _⟩ := hl; exact Heap.lt_size e
  refine wpAny_pyIter_tuple hl (h _ rfl ⟨⟨_, Heap.get?_push_size _ rfl, rfl, rfl⟩, hl.push _⟩ (fun b hb => ?_) (Nat.ne_of_lt hlt))
  show b < (s.heap.push _).objs.size
  rw [Heap.size_push]
  rcases List.mem_cons.mp hb with rfl | hb
  · exact Nat.lt_succ_self _
  · rcases List.mem_cons.mp hb with rfl | hb
    · exact Nat.lt_succ_of_lt hlt
    · cases hb
theorem kept_old {ob : Obj} {h' : Heap} (hk : ∀ b o, b ∉ [s.heap.objs.size] → (s.heap.push ob).get? b = some o → h'.get? b = some o) :
    ∀ b o, s.heap.get? b = some o → h'.get? b = some o := fun b o e => by
  refine hk b o (fun hm => ?_) (Heap.get?_push_of_some _ e)
  rcases List.mem_cons.mp hm with e1 | hm
  · exact absurd (e1 ▸ Heap.lt_size e) (Nat.lt_irrefl _)
  · cases hm
theorem max_tupInts {xs : Array (Int × Tok)} {Q : Value → Shared → Prop} (hh : A.handled = none) (hl : s.heap.IsTuple l (intItems xs)) (hne : 0 < xs.size)
    (h : ∀ v h' tk, (intItems xs)[argBest (fun i j => decide (numAt xs i > numAt xs j)) (xs.size - 1)]? = some v → (∀ b o, s.heap.get? b = some o → h'.get? b = some o) → Q v { s with heap := h', toks := tk }) :
    wpAny (model prog w) A (call (.builtin "max") [.ref l]) Q E s := by
  refine call_max_walk (iter_tup hl fun s₂ e st hfp hlI => ?_)
  subst e
  refine ⟨_, _, _, _, _, _, _, rfl, Walks.tuple (A := A.in1) hh _ l hlI (intItems xs), st, hfp, by simpa [intItems] using hne, CmpOf.ints_gt (numAt xs) (fun _ _ => intItems_at), fun v h' tk hP hk => ?_⟩
  exact h v h' tk (by simpa [intItems] using hP) (kept_old hk)
theorem max_rawT {its : List Value} {ns : List Int} {Q : Value → Shared → Prop} (hh : A.handled = none) (hl : s.heap.IsTuple l its.toArray) (hi : IntsAre its ns) (hne : 0 < ns.length)
    (h : ∀ h' tk M t', (∀ b o, s.heap.get? b = some o → h'.get? b = some o) → M ∈ ns → (∀ a, a ∈ ns → a ≤ M) → Q (.int M t') { s with heap := h', toks := tk }) : wpAny (model prog w) A (call (.builtin "max") [.ref l]) Q E s := by
  obtain ⟨xs, e⟩ := hi.allInts.items
  have hn : numsOf (intItems xs).toList = ns := by rw [← e]; exact hi.numsOf
  rw [nums_intItems] at hn
  subst hn
  rw [e] at hl
  have hsz : 0 < xs.size := by simpa using hne
  refine max_tupInts hh hl hsz fun v h' tk hv hk => ?_
  obtain ⟨t, rfl⟩ := intItems_at hv
  obtain ⟨h1, h2⟩ := argBest_gt (numAt xs) (xs.size - 1)
  refine h h' tk _ t hk ?_ fun a ha => ?_
  · rw [numAt_eq]; exact PySem.getD_mem (by rw [List.length_map, Array.length_toList]; omega)
  · obtain ⟨j, hj, rfl⟩ := mem_getD ha
    rw [List.length_map, Array.length_toList] at hj
    rw [← numAt_eq]; exact h2 j (by omega)
end
def rMaxT (K : PySem.W.Frag) : List V → Hp → VK → Prop := fun vs H Q => ∃ (a : Addr) (ns : List Int), vs = [V.ref a] ∧ SqT K H a (ns.map V.int) ∧ 0 < ns.length ∧ ∀ m, m ∈ ns → (∀ y, y ∈ ns → y ≤ m) → Q (.int m) H
theorem cr_maxT {X : Cx} (hc : X.calm = true) : CallR X (.builtin "max") (rMaxT X.K) := by
  intro pins s σ H vs us Q I r h
  obtain ⟨a, ns, rfl, hs, hne, q⟩ := h
  obtain ⟨its, rv, hl, _⟩ := I.tuple hs
  rw [Vals.ref1 r]
  exact max_rawT (I.ok.hd hc) hl rv.ints hne fun h' tk m t' hk h1 h2 => ⟨.int _, H, I.kept hk, ⟨_, rfl⟩, q m h1 h2⟩

/-! ### lists of pairs as data -/
def pd (x : Int × Int) : PyData := .tuple [.int x.1, .int x.2]
theorem lay_pairs : ∀ xs : List (Int × Int), PyData.canLayAll0 (xs.map pd) = true
  | [] => rfl
  | x :: r => by
    show (PyData.canLay0 (pd x) && PyData.canLayAll0 (r.map pd)) = true
    rw [lay_pairs r]
    rfl
theorem depth_pairs : ∀ xs : List (Int × Int), PyData.depthAll (xs.map pd) ≤ 1
  | [] => Nat.zero_le _
  | x :: r => Nat.max_le.mpr ⟨Nat.le_refl 1, depth_pairs r⟩
theorem shaped_pairs (xs : List (Int × Int)) : SeqAt.shaped (.list (xs.map pd)) = true := by
  unfold SeqAt.shaped
  rw [show PyData.canLay0 (.list (xs.map pd)) = true from lay_pairs xs, Bool.true_and, decide_eq_true_eq]
  have := depth_pairs xs
  show PyData.depthAll (xs.map pd) + 1 ≤ 64
  omega
theorem eqv_nil : ∀ xs : List (Int × Int), PyData.eqv (.list (xs.map pd)) (.list []) = xs.isEmpty
  | [] => rfl
  | x :: r => rfl
theorem Prs.dp {H : Hp} {K : PySem.W.Frag} : ∀ {ps : List Addr} {xs : List (Int × Int)}, Prs H ps xs → DpAll K H (ps.map V.ref) (xs.map pd)
  | _, _, .nil => .nil
  | _, _, .cons h r => .cons (.tup (SqT.of h) (.cons (.int _) (.cons (.int _) .nil))) (Prs.dp r)
theorem Prs.rpd {H : Hp} {ps : List Addr} {xs : List (Int × Int)} (h : Prs H ps xs) (n : Nat) : RpAll H (n + 1) (ps.map V.ref) (xs.map pd) := h.rp n
/-- a list of pairs that grows by one -/
theorem Prs.grow {H : Hp} {r a : Addr} {ps : List Addr} {xs : List (Int × Int)} {x : Int × Int} {o : HO} (h : Prs H ps xs) (hr : H r = some (.lst (ps.map V.ref))) (ha : H a = some (.tup [.int x.1, .int x.2])) :
    Prs (upd H r (.lst ((ps.map V.ref) ++ [.ref a]))) (ps ++ [a]) (xs ++ [x]) := by
  have ne : ∀ {b : Addr} {y : Int × Int}, H b = some (.tup [.int y.1, .int y.2]) → b ≠ r := fun hb => ne_of hb hr (fun z => by cases z)
  refine Prs.snoc (Paired.mapP h fun b y hb => ?_) ?_
  · rw [upd_ne (ne hb)]
    exact hb
  · rw [upd_ne (ne ha)]
    exact ha

/-! ### moved, swelled, clipped -/
abbrev s_moved : Stmt := top 6
abbrev N_moved : List Str := ["mating", "by", "one", "other", "many", "turned"]
abbrev P_moved : List Str := ["mating", "by"]
theorem sc_moved : FnScope N_moved P_moved (defScope s_moved) := ⟨rfl, rfl, rfl, by decide +kernel, rfl, by decide +kernel, by decide +kernel⟩
def spMoved : Sp := fun vs H Q _ => ∃ (t : Addr) (o p m f b : Int), vs = [.ref t, .int b] ∧ H t = some (tup4 o p m f) ∧ ∀ r, H r = none → Q (.ref r) (upd H r (tup4 (o + b) (p + b) m f))
abbrev s_swelled : Stmt := top 7
abbrev N_swelled : List Str := ["mating", "times", "one", "other", "many", "turned"]
abbrev P_swelled : List Str := ["mating", "times"]
theorem sc_swelled : FnScope N_swelled P_swelled (defScope s_swelled) := ⟨rfl, rfl, rfl, by decide +kernel, rfl, by decide +kernel, by decide +kernel⟩
def spSwelled : Sp := fun vs H Q _ => ∃ (t : Addr) (o p m f k : Int), vs = [.ref t, .int k] ∧ H t = some (tup4 o p m f) ∧ (-(2 ^ 64) < k ∧ k < 2 ^ 64) ∧ ∀ r, H r = none → Q (.ref r) (upd H r (tup4 (k * o) (k * p) (k * m) f))
abbrev s_clipped : Stmt := top 8
abbrev N_clipped : List Str := ["mating", "length", "one", "other", "many", "turned", "low", "end"]
abbrev P_clipped : List Str := ["mating", "length"]
theorem sc_clipped : FnScope N_clipped P_clipped (defScope s_clipped) := ⟨rfl, rfl, rfl, by decide +kernel, rfl, by decide +kernel, by decide +kernel⟩
def clipLo (o p m f n : Int) : Int := if f = 1 then o + (if p + m - n > 0 then p + m - n else 0) else o
def clipHi (o p m f n : Int) : Int := if f = 1 then (if n < o + m then n else o + m) else (if o + n - p < (if n < o + m then n else o + m) then o + n - p else (if n < o + m then n else o + m))
def spClipped : Sp := fun vs H Q _ => ∃ (t : Addr) (o p m f n : Int), vs = [.ref t, .int n] ∧ H t = some (tup4 o p m f) ∧ (f = 0 ∨ f = 1) ∧
  (clipHi o p m f n ≤ clipLo o p m f n → Q .non H) ∧ (clipLo o p m f n < clipHi o p m f n → ∀ r, H r = none → Q (.ref r) (upd H r (tup4 (clipLo o p m f n) (partP o p m f (clipLo o p m f n) (clipHi o p m f n - clipLo o p m f n)) (clipHi o p m f n - clipLo o p m f n) f)))
theorem clip_lo (o p m f n : Int) : o ≤ clipLo o p m f n := by
  unfold clipLo
  split
  · split <;> omega
  · omega
theorem clip_hi (o p m f n : Int) : clipHi o p m f n ≤ o + m := by
  unfold clipHi
  split
  · split <;> omega
  · split
    · split at * <;> omega
    · split <;> omega
section
variable {P : Program} {w : World} {K : PySem.W.Frag} {mg : Str → Option Value} {base : Heap}
theorem ok_moved {f : Addr} {fd : FuncData} (D : DefAt K mg "moved" s_moved P_moved f fd) : FnOk P w K mg base CX0 1 f fd P_moved spMoved := by
  refine D.F.ok sc_moved (fun vs H Q E h => ?_) (fun cdv A outer s H vs Q E hr h => ?_)
  · obtain ⟨t, o, p, m, f, b, rfl, _⟩ := h
    rfl
  · obtain ⟨t, o, p, m, f, b, rfl, ht, q⟩ := h
    refine ⟨_, (pss_cons (ps_asg (pv 0) (pg_tup (by rfl) (pgs_cons (pg_name (i := 2) sc_moved.nd rfl (.inl rfl)) (pgs_cons (pg_name (i := 3) sc_moved.nd rfl (.inl rfl)) (pgs_cons (pg_name (i := 4) sc_moved.nd rfl (.inl rfl)) (pgs_cons (pg_name (i := 5) sc_moved.nd rfl (.inl rfl)) pgs_nil))))))
      (pss_one (ps_ret (pe_tup (pa_cons (pe_op op_add (pv 2) (pv 1)) (pa_cons (pe_op op_add (pv 3) (pv 1)) (pa_cons (pv 4) (pa_cons (pv 5) pa_nil)))))))), ?_⟩
    refine ⟨.ref t, rfl, t, _, rfl, SqT.of ht, rfl, .int o, _, rfl, .int p, _, rfl, .int m, _, rfl, .int f, _, rfl, rfl, ?_⟩
    exact ⟨.int o, rfl, .int b, rfl, o, b, rfl, rfl, .int p, rfl, .int b, rfl, p, b, rfl, rfl, .int m, rfl, .int f, rfl, by show 4 ≤ sizeLine; decide, fun r hr' => q r hr'⟩
theorem ok_swelled {f : Addr} {fd : FuncData} (D : DefAt K mg "swelled" s_swelled P_swelled f fd) : FnOk P w K mg base CX0 1 f fd P_swelled spSwelled := by
  refine D.F.ok sc_swelled (fun vs H Q E h => ?_) (fun cdv A outer s H vs Q E hr h => ?_)
  · obtain ⟨t, o, p, m, f, b, rfl, _⟩ := h
    rfl
  · obtain ⟨t, o, p, m, f, k, rfl, ht, hk, q⟩ := h
    refine ⟨_, (pss_cons (ps_asg (pv 0) (pg_tup (by rfl) (pgs_cons (pg_name (i := 2) sc_swelled.nd rfl (.inl rfl)) (pgs_cons (pg_name (i := 3) sc_swelled.nd rfl (.inl rfl)) (pgs_cons (pg_name (i := 4) sc_swelled.nd rfl (.inl rfl)) (pgs_cons (pg_name (i := 5) sc_swelled.nd rfl (.inl rfl)) pgs_nil))))))
      (pss_one (ps_ret (pe_tup (pa_cons (pe_op op_mul (pv 1) (pv 2)) (pa_cons (pe_op op_mul (pv 1) (pv 3)) (pa_cons (pe_op op_mul (pv 1) (pv 4)) (pa_cons (pv 5) pa_nil)))))))), ?_⟩
    refine ⟨.ref t, rfl, t, _, rfl, SqT.of ht, rfl, .int o, _, rfl, .int p, _, rfl, .int m, _, rfl, .int f, _, rfl, rfl, ?_⟩
    exact ⟨.int k, rfl, .int o, rfl, k, o, rfl, rfl, .inl hk, .int k, rfl, .int p, rfl, k, p, rfl, rfl, .inl hk, .int k, rfl, .int m, rfl, k, m, rfl, rfl, .inl hk, .int f, rfl, by show 4 ≤ sizeLine; decide, fun r hr' => q r hr'⟩
theorem ok_clipped {f fH fP : Addr} {fd fdH fdP : FuncData} (D : DefAt K mg "clipped" s_clipped P_clipped f fd) (D_part : DefAt K mg "part" s_part P_part fP fdP) (D_holds : DefAt K mg "holds" s_holds P_holds fH fdH) (B : Bn mg) : FnOk P w K mg base CX0 3 f fd P_clipped spClipped := by
  have G_part : FnOk P w K mg base CX0 2 fP fdP P_part spPart := ok_part D_part D_holds B
  refine D.F.ok sc_clipped (fun vs H Q E h => ?_) (fun cdv A outer s H vs Q E hr h => ?_)
  · obtain ⟨t, o, p, m, f, n, rfl, _⟩ := h
    rfl
  · obtain ⟨t, o, p, m, f, n, rfl, ht, hf, q1, q2⟩ := h
    refine ⟨_, (pss_cons (ps_asg (pv 0) (pg_tup (by rfl) (pgs_cons (pg_name (i := 2) sc_clipped.nd rfl (.inl rfl)) (pgs_cons (pg_name (i := 3) sc_clipped.nd rfl (.inl rfl)) (pgs_cons (pg_name (i := 4) sc_clipped.nd rfl (.inl rfl)) (pgs_cons (pg_name (i := 5) sc_clipped.nd rfl (.inl rfl)) pgs_nil))))))
      (pss_cons (ps_set (i := 6) sc_clipped.nd rfl (.inl rfl) (pv 2))
      (pss_cons (ps_set (i := 7) sc_clipped.nd rfl (.inl rfl) (pe_callB (call_min2 rfl) (by rfl) B.min (by decide +kernel) (pa_cons (pe_op op_add (pv 2) (pv 4)) (pa_cons (pv 1) pa_nil))))
      (C8.pss_cut (ps_if (pt_cmpR op_eq (pv 5) pe_int (nomark _)) (pss_one (ps_set (i := 6) sc_clipped.nd rfl (.inl rfl) (pe_op op_add (pv 2) (pe_callB (call_max2 rfl) (by rfl) B.max (by decide +kernel) (pa_cons pe_int (pa_cons (pe_op op_sub (pe_op op_add (pv 3) (pv 4)) (pv 1)) pa_nil)))))) (pss_one (ps_set (i := 7) sc_clipped.nd rfl (.inl rfl) (pe_callB (call_min2 rfl) (by rfl) B.min (by decide +kernel) (pa_cons (pv 7) (pa_cons (pe_op op_sub (pe_op op_add (pv 2) (pv 1)) (pv 3)) pa_nil))))))
      (pss_cons (ps_if (pt_cmpR op_le (pv 7) (pv 6) (nomark _)) (pss_one (ps_ret pe_non)) pss_nil)
      (pss_one (ps_ret (pe_call G_part (hr.mono (by omega)) (by rfl) D_part.g D_part.F.kp D_part.b .nil pass0 (pa_cons (pv 0) (pa_cons (pv 6) (pa_cons (pe_op op_sub (pv 7) (pv 6)) pa_nil))))))))))), ?_⟩
    refine ⟨.ref t, rfl, t, _, rfl, SqT.of ht, rfl, .int o, _, rfl, .int p, _, rfl, .int m, _, rfl, .int f, _, rfl, rfl, ?_⟩
    refine ⟨.int o, rfl, ?_⟩
    refine ⟨.int o, rfl, .int m, rfl, o, m, rfl, rfl, .int n, rfl, _, n, rfl, ?_⟩
    refine ⟨fun σ H' => σ = [some (.ref t), some (.int n), some (.int o), some (.int p), some (.int m), some (.int f), some (.int (clipLo o p m f n)), some (.int (clipHi o p m f n))] ∧ H' = H, ?_, ?_⟩
    · refine ⟨.int f, rfl, rfl, _, rfl, ?_⟩
      refine ite2 (fun h => ?_) (fun h => ?_)
      · have hf1 : f = 1 := V.int.inj (of_decide_eq_true h)
        refine ⟨.int o, rfl, .int p, rfl, .int m, rfl, p, m, rfl, rfl, .int n, rfl, _, n, rfl, rfl, 0, _, rfl, o, _, rfl, rfl, ?_, rfl⟩
        unfold clipLo clipHi
        rw [if_pos hf1, if_pos hf1]
        rfl
      · have hf1 : ¬ f = 1 := fun z => h (decide_eq_true (congrArg V.int z))
        refine ⟨_, rfl, .int o, rfl, .int n, rfl, o, n, rfl, rfl, .int p, rfl, _, p, rfl, rfl, _, _, rfl, ?_, rfl⟩
        unfold clipLo clipHi
        rw [if_neg hf1, if_neg hf1]
        rfl
    · rintro σ H' ⟨rfl, rfl⟩
      refine ⟨.int (clipHi o p m f n), rfl, .int (clipLo o p m f n), rfl, _, _, rfl, rfl, _, rfl, ?_⟩
      refine ite2 (fun h => ?_) (fun h => ?_)
      · exact q1 (of_decide_eq_true h)
      · have hlt : clipLo o p m f n < clipHi o p m f n := by
          have : ¬ clipHi o p m f n ≤ clipLo o p m f n := fun z => h (decide_eq_true z)
          omega
        have h1 := clip_lo o p m f n
        have h2 := clip_hi o p m f n
        refine ⟨.ref t, rfl, .int (clipLo o p m f n), rfl, .int (clipHi o p m f n), rfl, .int (clipLo o p m f n), rfl, _, _, rfl, rfl, t, o, p, m, f, _, _, rfl, ht, hf, by omega, h1, by omega, fun r hr' => ?_⟩
        exact q2 hlt r hr'
end

/-! ### _law_scaled -/
abbrev s_scaled : Stmt := top 15
abbrev N_scaled : List Str := ["_law_matings", "_law_times", "_law_one", "_law_other", "_law_many", "_law_flips"]
abbrev P_scaled : List Str := ["_law_matings", "_law_times"]
theorem sc_scaled : FnScope N_scaled P_scaled (defScope s_scaled) := ⟨rfl, rfl, rfl, by decide +kernel, rfl, by decide +kernel, by decide +kernel⟩
def spScaled : Sp := fun vs H Q _ => ∃ (L t : Addr) (o p m f k : Int), vs = [.ref L, .int k] ∧ H L = some (.lst [.ref t]) ∧ H t = some (tup4 o p m f) ∧ (-(2 ^ 64) < k ∧ k < 2 ^ 64) ∧
  ∀ (H' : Hp) (r u : Addr), Same H H' → H' r = some (.lst [.ref u]) → H' u = some (tup4 (o * k) (p * k) (m * k) f) → Q (.ref r) H'
section
variable {P : Program} {w : World} {K : PySem.W.Frag} {mg : Str → Option Value} {base : Heap}
theorem ok_scaled {f : Addr} {fd : FuncData} (D : DefAt K mg "_law_scaled" s_scaled P_scaled f fd) : FnOk P w K mg base CX0 1 f fd P_scaled spScaled := by
  refine D.F.ok sc_scaled (fun vs H Q E h => ?_) (fun cdv A outer s H vs Q E hr h => ?_)
  · obtain ⟨L, t, o, p, m, f, k, rfl, _⟩ := h
    rfl
  · obtain ⟨L, t, o, p, m, f, k, rfl, hL, ht, hk, q⟩ := h
    refine ⟨_, (pss_one (ps_ret (pe_lc (own := [("_law_one", 2), ("_law_other", 3), ("_law_many", 4), ("_law_flips", 5)]) (g := gTup K 4 (gCons (gName 2) (gCons (gName 3) (gCons (gName 4) (gCons (gName 5) gNil))))) (by rfl) sc_scaled.nd (pi_list (pv 0)) (blkOk_by (own := [("_law_one", 2), ("_law_other", 3), ("_law_many", 4), ("_law_flips", 5)]) (N := N_scaled) (sc := defScope s_scaled) (by decide +kernel)) (fun _ _ _ _ _ => (pg_tup (by rfl) (pgs_cons (pg_name (i := 2) sc_scaled.nd rfl (.inl rfl)) (pgs_cons (pg_name (i := 3) sc_scaled.nd rfl (.inl rfl)) (pgs_cons (pg_name (i := 4) sc_scaled.nd rfl (.inl rfl)) (pgs_cons (pg_name (i := 5) sc_scaled.nd rfl (.inl rfl)) pgs_nil)))))) (fun _ _ _ _ _ => pts_nil) (fun _ _ _ _ _ => (pe_tup (pa_cons (pe_op op_mul (pv 2) (pv 1)) (pa_cons (pe_op op_mul (pv 3) (pv 1)) (pa_cons (pe_op op_mul (pv 4) (pv 1)) (pa_cons (pv 5) pa_nil))))))))), ?_⟩
    refine ⟨.ref L, rfl, L, rfl, ⟨_, SqL.of hL⟩, fun D hD => lc_list (K := K) (a := L) (xs := [.ref t]) (fun i H2 => Same H H2 ∧ ((i = 0 ∧ H2 D = some (.lst [])) ∨ (i = 1 ∧ ∃ u, H2 D = some (.lst [.ref u]) ∧ H2 u = some (tup4 (o * k) (p * k) (m * k) f))))
      ⟨same_upd hD, .inl ⟨rfl, upd_same⟩⟩ (fun i H2 _ ⟨sm, _⟩ => SqL.of (sm _ _ hL)) ?_ ?_⟩
    · rintro i x H2 hx ⟨sm, h⟩
      have i0 : i = 0 := by
        have := (List.getElem?_eq_some_iff.mp hx).1
        have : i < 1 := this
        omega
      subst i0
      cases hx
      rcases h with ⟨_, eD⟩ | ⟨z, _⟩
      · refine ⟨t, _, rfl, SqT.of (sm _ _ ht), rfl, .int o, _, rfl, .int p, _, rfl, .int m, _, rfl, .int f, _, rfl, rfl, rfl, ?_⟩
        refine ⟨.int o, rfl, .int k, rfl, o, k, rfl, rfl, .inr hk, .int p, rfl, .int k, rfl, p, k, rfl, rfl, .inr hk, .int m, rfl, .int k, rfl, m, k, rfl, rfl, .inr hk, .int f, rfl, by show 4 ≤ sizeLine; decide, fun u nu => ?_⟩
        have nuD : u ≠ D := (ne_of_none eD nu).symm
        refine ⟨[], same_upd nu _ _ eD, by decide, fun b o' hb => ?_, .inr ⟨rfl, u, upd_same, ?_⟩⟩
        · rw [upd_ne (ne_of_none hb hD), upd_ne (ne_of_none (sm _ _ hb) nu)]
          exact sm _ _ hb
        · rw [upd_ne nuD]
          exact upd_same
      · omega
    · rintro H2 ⟨sm, h⟩
      rcases h with ⟨z, _⟩ | ⟨_, u, e1, e2⟩
      · exact absurd (show (1 : Nat) = 0 from z) (by decide)
      · exact q H2 D u sm e1 e2
end

/-! ### _law_cut_far -/
abbrev s_cut_far : Stmt := top 16
abbrev N_cut_far : List Str := ["_law_draw", "_law_mating_here", "_law_length", "_law_times", "_law_one", "_law_other", "_law_many", "_law_flips", "_law_cut", "_law_low", "_law_high", "_law_due"]
abbrev P_cut_far : List Str := ["_law_draw", "_law_mating_here", "_law_length"]
theorem sc_cut_far : FnScope N_cut_far P_cut_far (defScope s_cut_far) := ⟨rfl, rfl, rfl, by decide +kernel, rfl, by decide +kernel, by decide +kernel⟩
def spCutFar : Sp := fun vs H Q _ => ∃ (d l t : Addr) (o p m f n : Int), vs = [.ref d, .ref t, .int n] ∧ Draw H d l ∧ H t = some (tup4 o p m f) ∧ Mat n o p m f ∧ n ≤ 100 ∧
  ∀ H', Draw H' d l → Q (.bl true) H'
theorem rp4 {H : Hp} {t : Addr} {o p m f : Int} (n : Nat) (h : H t = some (tup4 o p m f)) : Rp H (n + 1) (.ref t) (.tuple [.int o, .int p, .int m, .int f]) :=
  .tup h (by show 4 ≤ 100000; decide) (.cons (.int _ _) (.cons (.int _ _) (.cons (.int _ _) (.cons (.int _ _) (.nil _)))))
def cutLo (p m f c : Int) : Int := if f = 1 then (if p + m - c > 0 then p + m - c else 0) else 0
def cutHi (o p m f c : Int) : Int := if f = 1 then (if c - o < m then c - o else m) else (if c - p < (if c - o < m then c - o else m) then c - p else (if c - o < m then c - o else m))
theorem cut_lo (o p m f c : Int) : clipLo o p m f c = o + cutLo p m f c := by
  unfold clipLo cutLo
  split <;> omega
theorem cut_hi (o p m f c : Int) : clipHi o p m f c = o + cutHi o p m f c := by
  unfold clipHi cutHi
  split
  · split <;> split <;> omega
  · by_cases h : c < o + m
    · rw [if_pos h, if_pos (show c - o < m by omega)]
      split <;> split <;> omega
    · rw [if_neg h, if_neg (show ¬ c - o < m by omega)]
      split <;> split <;> omega
theorem cut_part (o p m f lo hi : Int) : partP o p m f (o + lo) (o + hi - (o + lo)) = if f = 1 then p + m - hi else p + lo := by
  unfold partP
  split <;> omega
section
variable {P : Program} {w : World} {K : PySem.W.Frag} {mg : Str → Option Value} {base : Heap}
theorem ok_cut_far {f fP fL fS fC fW fQ fH : Addr} {fd fdP fdL fdS fdC fdW fdQ fdH : FuncData} (D : DefAt K mg "_law_cut_far" s_cut_far P_cut_far f fd) (D_pull : DefAt K mg "_law_pull" s_pull P_pull fP fdP)
    (D_like : DefAt K mg "_law_like" s_like P_like fL fdL) (D_scaled : DefAt K mg "_law_scaled" s_scaled P_scaled fS fdS) (D_clipped : DefAt K mg "clipped" s_clipped P_clipped fC fdC) (D_swelled : DefAt K mg "swelled" s_swelled P_swelled fW fdW)
    (D_part : DefAt K mg "part" s_part P_part fQ fdQ) (D_holds : DefAt K mg "holds" s_holds P_holds fH fdH) (B : Bn mg) : FnOk P w K mg base CX0 4 f fd P_cut_far spCutFar := by
  have G_pull : FnOk P w K mg base CX0 1 fP fdP P_pull spPull := ok_pull D_pull B
  have G_like : FnOk P w K mg base CX0 2 fL fdL P_like (spLike 1) := ok_like D_like B 1
  have G_scaled : FnOk P w K mg base CX0 1 fS fdS P_scaled spScaled := ok_scaled D_scaled
  have G_clipped : FnOk P w K mg base CX0 3 fC fdC P_clipped spClipped := ok_clipped D_clipped D_part D_holds B
  have G_swelled : FnOk P w K mg base CX0 1 fW fdW P_swelled spSwelled := ok_swelled D_swelled
  refine D.F.ok sc_cut_far (fun vs H Q E h => ?_) (fun cdv A outer s H vs Q E hr h => ?_)
  · obtain ⟨d, l, t, o, p, m, f, n, rfl, _⟩ := h
    rfl
  · obtain ⟨d, l, t, o, p, m, f, n, rfl, hD, ht, M, hn, q⟩ := h
    refine ⟨_, (pss_cons (ps_set (i := 3) sc_cut_far.nd rfl (.inl rfl) (pe_op op_add pe_int (pe_call G_pull (hr.mono (by omega)) (by rfl) D_pull.g D_pull.F.kp D_pull.b .nil pass0 (pa_cons (pv 0) (pa_cons (pe_op op_pow pe_int pe_int) pa_nil)))))
      (pss_cons (ps_asg (pe_ix ix_list (pe_call G_scaled (hr.mono (by omega)) (by rfl) D_scaled.g D_scaled.F.kp D_scaled.b .nil pass0 (pa_cons (pe_lst (pa_cons (pv 1) pa_nil)) (pa_cons (pv 3) pa_nil))) pe_int (fun _ _ => rfl)) (pg_tup (by rfl) (pgs_cons (pg_name (i := 4) sc_cut_far.nd rfl (.inl rfl)) (pgs_cons (pg_name (i := 5) sc_cut_far.nd rfl (.inl rfl)) (pgs_cons (pg_name (i := 6) sc_cut_far.nd rfl (.inl rfl)) (pgs_cons (pg_name (i := 7) sc_cut_far.nd rfl (.inl rfl)) pgs_nil))))))
      (pss_cons (ps_set (i := 8) sc_cut_far.nd rfl (.inl rfl) (pe_ix ix_list (pe_lst (pa_cons (pe_call G_pull (hr.mono (by omega)) (by rfl) D_pull.g D_pull.F.kp D_pull.b .nil pass0 (pa_cons (pv 0) (pa_cons (pe_op op_add (pe_op op_mul (pv 2) (pv 3)) pe_int) pa_nil))) (pa_cons (pe_op op_add (pv 4) (pv 6)) (pa_cons (pe_op op_add (pv 5) (pv 6)) (pa_cons (pe_op op_sub (pe_op op_add (pv 5) (pv 6)) pe_int) pa_nil))))) (pe_call G_pull (hr.mono (by omega)) (by rfl) D_pull.g D_pull.F.kp D_pull.b .nil pass0 (pa_cons (pv 0) (pa_cons pe_int pa_nil))) (fun _ _ => rfl)))
      (pss_cons (ps_par (i := 9) (j := 10) (by rfl) sc_cut_far.nd rfl rfl (by decide) rfl rfl (pa_cons pe_int (pa_cons (pe_callB (call_min2 rfl) (by rfl) B.min (by decide +kernel) (pa_cons (pv 6) (pa_cons (pe_op op_sub (pv 8) (pv 4)) pa_nil))) pa_nil)) (by rfl))
      (C8.pss_cut (ps_if (pt_cmpR op_eq (pv 7) pe_int (nomark _)) (pss_one (ps_set (i := 9) sc_cut_far.nd rfl (.inl rfl) (pe_callB (call_max2 rfl) (by rfl) B.max (by decide +kernel) (pa_cons pe_int (pa_cons (pe_op op_sub (pe_op op_add (pv 5) (pv 6)) (pv 8)) pa_nil))))) (pss_one (ps_set (i := 10) sc_cut_far.nd rfl (.inl rfl) (pe_callB (call_min2 rfl) (by rfl) B.min (by decide +kernel) (pa_cons (pv 10) (pa_cons (pe_op op_sub (pv 8) (pv 5)) pa_nil))))))
      (C8.pss_cut (ps_set (i := 11) sc_cut_far.nd rfl (.inl rfl) (pe_tup (pa_cons (pe_op op_add (pv 4) (pv 9)) (pa_cons (pe_ifExp (pt_cmpR op_eq (pv 7) pe_int (nomark _)) (pe_op op_sub (pe_op op_add (pv 5) (pv 6)) (pv 10)) (pe_op op_add (pv 5) (pv 9))) (pa_cons (pe_op op_sub (pv 10) (pv 9)) (pa_cons (pv 7) pa_nil))))))
      (pss_cons (ps_if (pt_not (pt_val (pe_call G_like (hr.mono (by omega)) (by rfl) D_like.g D_like.F.kp D_like.b .nil pass0 (pa_cons (pe_call G_clipped (hr.mono (by omega)) (by rfl) D_clipped.g D_clipped.F.kp D_clipped.b .nil pass0 (pa_cons (pe_tup (pa_cons (pv 4) (pa_cons (pv 5) (pa_cons (pv 6) (pa_cons (pv 7) pa_nil))))) (pa_cons (pv 8) pa_nil))) (pa_cons (pe_ifExp (pt_cmpR op_lt (pv 9) (pv 10) (nomark _)) (pv 11) pe_non) pa_nil))))) (pss_one (ps_ret pe_bl)) pss_nil)
      (pss_one (ps_ret (pe_call G_like (hr.mono (by omega)) (by rfl) D_like.g D_like.F.kp D_like.b .nil pass0 (pa_cons (pe_call G_swelled (hr.mono (by omega)) (by rfl) D_swelled.g D_swelled.F.kp D_swelled.b .nil pass0 (pa_cons (pv 1) (pa_cons (pv 3) pa_nil))) (pa_cons (pe_tup (pa_cons (pv 4) (pa_cons (pv 5) (pa_cons (pv 6) (pa_cons (pv 7) pa_nil))))) pa_nil)))))))))))), ?_⟩
    have ntd : ∀ {H : Hp} {t : Addr} {o p m f : Int}, Draw H d l → H t = some (tup4 o p m f) → t ≠ d := fun ⟨_, _, _, _, W⟩ e => ne_of e W.at_d (fun z => by cases z)
    -- times
    refine ⟨.ref d, rfl, 10, 15, rfl, rfl, ⟨by decide, by decide, by decide⟩, d, l, _, rfl, hD, by decide, by decide, fun k' H1 k0 k1 D1 kp1 => ?_⟩
    have k1' : k' < 1000000000000000 := k1
    refine ⟨1, k', rfl, rfl, ?_⟩
    obtain ⟨k, hk⟩ : ∃ k, 1 + k' = k := ⟨_, rfl⟩
    have t1 := kp1.of ht (ntd hD ht)
    -- scaled
    refine ⟨.ref t, rfl, by show 1 ≤ sizeLine; decide, fun L nL => ?_⟩
    refine ⟨.int (1 + k'), rfl, L, t, o, p, m, f, 1 + k', rfl, upd_same, same_upd nL _ _ t1, ⟨by omega, by omega⟩, fun H2 r u s2 e2 u2 => ?_⟩
    have D2 := (D1.same (same_upd nL)).same s2
    have t2 := s2 _ _ (same_upd nL _ _ t1)
    refine ⟨r, _, 0, .ref u, rfl, rfl, SqL.of e2, atI_nat (j := 0) rfl, ?_⟩
    have u2' : H2 u = some (.tup [.int (o * (1 + k')), .int (p * (1 + k')), .int (m * (1 + k')), .int f]) := u2
    refine ⟨u, _, rfl, SqT.of u2', rfl, .int (o * (1 + k')), _, rfl, .int (p * (1 + k')), _, rfl, .int (m * (1 + k')), _, rfl, .int f, _, rfl, rfl, ?_⟩
    obtain ⟨O, hO⟩ : ∃ O, o * (1 + k') = O := ⟨_, rfl⟩
    obtain ⟨T, hT⟩ : ∃ T, p * (1 + k') = T := ⟨_, rfl⟩
    obtain ⟨N, hN⟩ : ∃ N, m * (1 + k') = N := ⟨_, rfl⟩
    have hf := M.f01
    have cap1 : 1 ≤ n * (1 + k') + 1 := by
      have : 0 ≤ n * (1 + k') := Int.mul_nonneg (by have := M.m1; have := M.o0; have := M.o1; omega) (by omega)
      omega
    have cap2 : n * (1 + k') + 1 < 2 ^ 100 := by
      have : n * (1 + k') ≤ 100 * 1000000000000000 := Int.mul_le_mul hn (by omega) (by omega) (by omega)
      omega
    -- cut
    refine ⟨.ref d, rfl, .int n, rfl, .int (1 + k'), rfl, n, _, rfl, rfl, .inl ⟨by have := M.m1; have := M.o0; have := M.o1; omega, by omega⟩, _, 1, rfl, rfl, d, l, _, rfl, D2, cap1, cap2, fun c0 H3 c00 c01 D3 kp3 => ?_⟩
    refine ⟨.int (o * (1 + k')), rfl, .int (m * (1 + k')), rfl, _, _, rfl, rfl, .int (p * (1 + k')), rfl, .int (m * (1 + k')), rfl, _, _, rfl, rfl, .int (p * (1 + k')), rfl, .int (m * (1 + k')), rfl, _, _, rfl, rfl, _, 1, rfl, rfl, by show 4 ≤ sizeLine; decide, fun L2 nL2 => ?_⟩
    refine ⟨.ref d, rfl, d, l, 4, rfl, D3.same (same_upd nL2), by decide, by decide, fun v H4 v0 v1 D4 kp4 => ?_⟩
    have t4 := kp4.of (same_upd nL2 _ _ (kp3.of t2 (ntd D2 t2))) (ntd D2 t2)
    obtain ⟨c, hc⟩ : ∃ c : Int, atI [V.int c0, V.int (o * (1 + k') + m * (1 + k')), V.int (p * (1 + k') + m * (1 + k')), V.int (p * (1 + k') + m * (1 + k') - 1)] v = some (.int c) := by
      rcases (show v = 0 ∨ v = 1 ∨ v = 2 ∨ v = 3 by omega) with rfl | rfl | rfl | rfl
      · exact ⟨_, atI_nat (j := 0) rfl⟩
      · exact ⟨_, atI_nat (j := 1) rfl⟩
      · exact ⟨_, atI_nat (j := 2) rfl⟩
      · exact ⟨_, atI_nat (j := 3) rfl⟩
    refine ⟨L2, _, v, .int c, rfl, rfl, SqL.of (kp4.of upd_same (D3.ne_new nL2)), hc, ?_⟩
    -- low, high
    refine ⟨.int (m * (1 + k')), rfl, .int c, rfl, .int (o * (1 + k')), rfl, c, _, rfl, rfl, _, _, rfl, _, _, rfl, ?_⟩
    rw [hO, hT, hN]
    refine ⟨fun σ H' => σ = [some (.ref d), some (.ref t), some (.int n), some (.int (1 + k')), some (.int O), some (.int T), some (.int N), some (.int f), some (.int c), some (.int (cutLo T N f c)), some (.int (cutHi O T N f c)), none] ∧ H' = H4, ?_, ?_⟩
    · refine ⟨.int f, rfl, rfl, _, rfl, ?_⟩
      refine ite2 (fun h => ?_) (fun h => ?_)
      · have hf1 : f = 1 := V.int.inj (of_decide_eq_true h)
        refine ⟨.int T, rfl, .int N, rfl, T, N, rfl, rfl, .int c, rfl, _, c, rfl, rfl, 0, _, rfl, ?_, rfl⟩
        unfold cutLo cutHi
        rw [if_pos hf1, if_pos hf1]
        rfl
      · have hf1 : ¬ f = 1 := fun z => h (decide_eq_true (congrArg V.int z))
        refine ⟨_, rfl, .int c, rfl, .int T, rfl, c, T, rfl, rfl, _, _, rfl, ?_, rfl⟩
        unfold cutLo cutHi
        rw [if_neg hf1, if_neg hf1]
        rfl
    · rintro σ H' ⟨rfl, rfl⟩
      have hlo := cut_lo O T N f c
      have hhi := cut_hi O T N f c
      generalize cutLo T N f c = lo at hlo
      generalize cutHi O T N f c = hi at hhi
      -- due
      refine ⟨fun σ H5 => ∃ t3, σ = [some (.ref d), some (.ref t), some (.int n), some (.int (1 + k')), some (.int O), some (.int T), some (.int N), some (.int f), some (.int c), some (.int lo), some (.int hi), some (.ref t3)] ∧ Same H' H5 ∧ H5 t3 = some (tup4 (O + lo) (if f = 1 then T + N - hi else T + lo) (hi - lo) f), ?_, ?_⟩
      · refine ⟨.int O, rfl, .int lo, rfl, O, lo, rfl, rfl, .int f, rfl, rfl, _, rfl, ?_⟩
        refine ite2 (fun h => ?_) (fun h => ?_)
        · have hf1 : f = 1 := V.int.inj (of_decide_eq_true h)
          refine ⟨.int T, rfl, .int N, rfl, T, N, rfl, rfl, .int hi, rfl, _, hi, rfl, rfl, .int hi, rfl, .int lo, rfl, hi, lo, rfl, rfl, .int f, rfl, by show 4 ≤ sizeLine; decide, fun t3 n3 => ?_⟩
          exact ⟨t3, rfl, same_upd n3, by rw [if_pos hf1]; exact upd_same⟩
        · have hf1 : ¬ f = 1 := fun z => h (decide_eq_true (congrArg V.int z))
          refine ⟨.int T, rfl, .int lo, rfl, T, lo, rfl, rfl, .int hi, rfl, .int lo, rfl, hi, lo, rfl, rfl, .int f, rfl, by show 4 ≤ sizeLine; decide, fun t3 n3 => ?_⟩
          exact ⟨t3, rfl, same_upd n3, by rw [if_neg hf1]; exact upd_same⟩
      · rintro σ H5 ⟨t3, rfl, s5, e5⟩
        have D5 := D4.same s5
        have t5 := s5 _ _ t4
        -- like(clipped(..), due or None)
        refine ⟨.int O, rfl, .int T, rfl, .int N, rfl, .int f, rfl, by show 4 ≤ sizeLine; decide, fun t6 n6 => ?_⟩
        have s6 : Same H5 (upd H5 t6 (tup4 O T N f)) := same_upd n6
        refine ⟨.int c, rfl, t6, O, T, N, f, c, rfl, upd_same, hf, ?_, ?_⟩
        · intro hle
          have hno : ¬ lo < hi := by omega
          refine ⟨.int lo, rfl, .int hi, rfl, lo, hi, rfl, rfl, _, rfl, ?_⟩
          refine ite2 (fun h => absurd (of_decide_eq_true h) hno) (fun _ => ?_)
          refine ⟨.non, .non, .none, rfl, .non _, .non _, fun H7 s7 => ⟨true, rfl, iteF ?_⟩⟩
          have t7 := s7 _ _ (s6 _ _ t5)
          refine ⟨.ref t, rfl, .int (1 + k'), rfl, t, o, p, m, f, 1 + k', rfl, t7, ⟨by omega, by omega⟩, fun t8 n8 => ?_⟩
          refine ⟨.int O, rfl, .int T, rfl, .int N, rfl, .int f, rfl, by show 4 ≤ sizeLine; decide, fun t9 n9 => ?_⟩
          have e8 : ∀ {H : Hp}, H t8 = some (tup4 ((1 + k') * o) ((1 + k') * p) ((1 + k') * m) f) → H t8 = some (tup4 O T N f) := fun h => by
            rw [Int.mul_comm _ o, Int.mul_comm _ p, Int.mul_comm _ m, hO, hT, hN] at h
            exact h
          exact ⟨.ref t8, .ref t9, _, rfl, rp4 _ (e8 (same_upd n9 _ _ upd_same)), rp4 _ upd_same, fun H9 s9 => q H9 ((((D5.same s6).same s7).same ((same_upd n8).trans (same_upd n9))).same s9)⟩
        · intro hlt r nr
          have hyes : lo < hi := by omega
          rw [hlo, hhi, cut_part]
          have s7 : Same H5 (upd (upd H5 t6 (tup4 O T N f)) r (tup4 (O + lo) (if f = 1 then T + N - hi else T + lo) (O + hi - (O + lo)) f)) := s6.trans (same_upd nr)
          have e7 : (upd (upd H5 t6 (tup4 O T N f)) r (tup4 (O + lo) (if f = 1 then T + N - hi else T + lo) (O + hi - (O + lo)) f)) r = some (tup4 (O + lo) (if f = 1 then T + N - hi else T + lo) (hi - lo) f) := by
            rw [upd_same, show O + hi - (O + lo) = hi - lo by omega]
          refine ⟨.int lo, rfl, .int hi, rfl, lo, hi, rfl, rfl, _, rfl, ?_⟩
          refine ite2 (fun _ => ?_) (fun h => absurd (decide_eq_true hyes) h)
          refine ⟨.ref t3, rfl, .ref r, .ref t3, _, rfl, rp4 _ e7, rp4 _ (s7 _ _ e5), fun H8 s8 => ⟨true, rfl, iteF ?_⟩⟩
          have t8' := s8 _ _ (s7 _ _ t5)
          refine ⟨.ref t, rfl, .int (1 + k'), rfl, t, o, p, m, f, 1 + k', rfl, t8', ⟨by omega, by omega⟩, fun t8 n8 => ?_⟩
          refine ⟨.int O, rfl, .int T, rfl, .int N, rfl, .int f, rfl, by show 4 ≤ sizeLine; decide, fun t9 n9 => ?_⟩
          have e8 : ∀ {H : Hp}, H t8 = some (tup4 ((1 + k') * o) ((1 + k') * p) ((1 + k') * m) f) → H t8 = some (tup4 O T N f) := fun h => by
            rw [Int.mul_comm _ o, Int.mul_comm _ p, Int.mul_comm _ m, hO, hT, hN] at h
            exact h
          exact ⟨.ref t8, .ref t9, _, rfl, rp4 _ (e8 (same_upd n9 _ _ upd_same)), rp4 _ upd_same, fun H9 s9 => q H9 (((D5.same s7).same s8).same (((same_upd n8).trans (same_upd n9)).trans s9))⟩
end

/-! ### the law's lists -/
theorem endL_moved (o p m f b : Int) (n : Nat) : endL (o + b) (p + b) m f n = (endL o p m f n).map fun x => (x.1 + b, x.2 + b) := by
  unfold endL
  rw [List.map_map]
  refine List.map_congr_left fun k _ => ?_
  refine Prod.ext (by show o + b + (k : Int) = o + (k : Int) + b; omega) ?_
  show endQ (p + b) m f (k : Int) = endQ p m f (k : Int) + b
  unfold endQ
  split <;> omega
def wideOf (T : Nat) (f : Int) (x : Int × Int) (j : Nat) : List (Int × Int) := (List.range j).map fun (k : Nat) => (x.1 * (T : Int) + (k : Int), x.2 * (T : Int) + (if f = 1 then (T : Int) - 1 - (k : Int) else (k : Int)))
theorem wideOf_snoc (T : Nat) (f : Int) (x : Int × Int) (j : Nat) : wideOf T f x (j + 1) = wideOf T f x j ++ [(x.1 * (T : Int) + (j : Int), x.2 * (T : Int) + (if f = 1 then (T : Int) - 1 - (j : Int) else (j : Int)))] := by
  unfold wideOf
  rw [List.range_succ, List.map_append]
  rfl
theorem wideOf_length (T : Nat) (f : Int) (x : Int × Int) (j : Nat) : (wideOf T f x j).length = j := by
  unfold wideOf
  rw [List.length_map, List.length_range]
def wideL (T : Nat) (o p m f : Int) (n : Nat) : List (Int × Int) := (List.range n).flatMap fun (j : Nat) => wideOf T f (o + (j : Int), endQ p m f (j : Int)) T
theorem wideL_snoc (T : Nat) (o p m f : Int) (n : Nat) : wideL T o p m f (n + 1) = wideL T o p m f n ++ wideOf T f (o + (n : Int), endQ p m f (n : Int)) T := by
  unfold wideL
  rw [List.range_succ, List.flatMap_append]
  congr 1
  rw [List.flatMap_cons, List.flatMap_nil, List.append_nil]
theorem wideL_length (T : Nat) (o p m f : Int) : ∀ n, (wideL T o p m f n).length = n * T
  | 0 => by rw [Nat.zero_mul]; rfl
  | n + 1 => by rw [wideL_snoc, List.length_append, wideL_length T o p m f n, wideOf_length, Nat.succ_mul]
theorem wide_is (T : Nat) (o p m f : Int) : ∀ n : Nat, endL ((T : Int) * o) ((T : Int) * p) ((T : Int) * m) f (T * n) = wideL T o p m f n
  | 0 => by rw [Nat.mul_zero]; rfl
  | n + 1 => by
    rw [wideL_snoc, ← wide_is T o p m f n, Nat.mul_succ]
    unfold endL wideOf
    rw [List.range_add, List.map_append, List.map_map]
    congr 1
    refine List.map_congr_left fun k _ => ?_
    have e1 : ((T * n + k : Nat) : Int) = (T : Int) * (n : Int) + (k : Int) := by rw [Int.natCast_add, Int.natCast_mul]
    refine Prod.ext ?_ ?_
    · show (T : Int) * o + ((T * n + k : Nat) : Int) = (o + (n : Int)) * (T : Int) + (k : Int)
      rw [e1, Int.add_mul, Int.mul_comm o, Int.mul_comm (n : Int)]
      omega
    · show endQ ((T : Int) * p) ((T : Int) * m) f ((T * n + k : Nat) : Int) = endQ p m f (n : Int) * (T : Int) + (if f = 1 then (T : Int) - 1 - (k : Int) else (k : Int))
      rw [e1]
      unfold endQ
      split
      · rw [Int.sub_mul, Int.sub_mul, Int.add_mul, Int.mul_comm p, Int.mul_comm m, Int.mul_comm (n : Int), Int.one_mul]
        omega
      · rw [Int.add_mul, Int.mul_comm p, Int.mul_comm (n : Int)]
        omega
def below (s : Int) (x : Int × Int) : Bool := decide (x.1 < s ∧ x.2 < s)
theorem filter_range (a b : Nat) (g : Nat → Bool) (hg : ∀ k, g k = decide (a ≤ k ∧ k < b)) : ∀ m : Nat, (List.range m).filter g = (List.range (min b m - a)).map (a + ·)
  | 0 => by
    rw [Nat.min_zero, Nat.zero_sub]
    rfl
  | m + 1 => by
    rw [List.range_succ, List.filter_append, filter_range a b g hg m]
    by_cases h : a ≤ m ∧ m < b
    · rw [List.filter_cons_of_pos (by rw [hg]; exact decide_eq_true h), show min b (m + 1) - a = (min b m - a) + 1 by omega, List.range_succ, List.map_append, List.filter_nil]
      congr 1
      show [m] = [a + (min b m - a)]
      rw [show a + (min b m - a) = m by omega]
    · rw [List.filter_cons_of_neg (by rw [hg, decide_eq_false h]; exact Bool.false_ne_true), List.filter_nil, List.append_nil]
      congr 2
      omega
theorem below_is {o p f s : Int} {m : Nat} (o0 : 0 ≤ o) (p0 : 0 ≤ p) (hf : f = 0 ∨ f = 1) : (endL o p m f m).filter (below s) =
    if clipLo o p m f s < clipHi o p m f s then endL (clipLo o p m f s) (partP o p m f (clipLo o p m f s) (clipHi o p m f s - clipLo o p m f s)) (clipHi o p m f s - clipLo o p m f s) f (clipHi o p m f s - clipLo o p m f s).toNat else [] := by
  have hlo := clip_lo o p m f s
  have hhi := clip_hi o p m f s
  obtain ⟨a, ha⟩ : ∃ a : Nat, clipLo o p m f s - o = (a : Int) := ⟨(clipLo o p m f s - o).toNat, by omega⟩
  obtain ⟨b, hb⟩ : ∃ b : Nat, (if clipHi o p m f s < o then 0 else clipHi o p m f s - o) = (b : Int) := ⟨(if clipHi o p m f s < o then 0 else clipHi o p m f s - o).toNat, by split <;> omega⟩
  have hg : ∀ k : Nat, k < m → (below s ∘ fun (k : Nat) => (o + (k : Int), endQ p m f (k : Int))) k = decide (a ≤ k ∧ k < b) := fun k hk => by
    show decide (o + (k : Int) < s ∧ endQ p m f (k : Int) < s) = _
    refine decide_eq_decide.mpr ?_
    unfold endQ
    unfold clipLo at ha
    unfold clipHi at hb
    rcases hf with rfl | rfl
    · rw [if_neg (by decide)] at ha ⊢
      rw [if_neg (show ¬ (0 : Int) = 1 by decide)] at hb
      split at hb <;> split at hb <;> (try split at hb) <;> constructor <;> intro h <;> omega
    · rw [if_pos rfl] at ha ⊢
      rw [if_pos (show (1 : Int) = 1 from rfl)] at hb
      split at ha <;> split at hb <;> (try split at hb) <;> constructor <;> intro h <;> omega
  have e : (endL o p m f m).filter (below s) = ((List.range m).filter fun k => decide (a ≤ k ∧ k < b)).map fun (k : Nat) => (o + (k : Int), endQ p m f (k : Int)) := by
    unfold endL
    rw [List.filter_map]
    congr 1
    exact List.filter_congr fun k hk => hg k (List.mem_range.mp hk)
  rw [e, filter_range a b _ (fun _ => rfl), List.map_map]
  have hbm : b ≤ m := by
    split at hb <;> omega
  rw [Nat.min_eq_left hbm]
  by_cases h : clipLo o p m f s < clipHi o p m f s
  · rw [if_pos h]
    rw [if_neg (by omega)] at hb
    have en : (clipHi o p m f s - clipLo o p m f s).toNat = b - a := by omega
    rw [en]
    unfold endL
    refine List.map_congr_left fun k hk => ?_
    have hk' := List.mem_range.mp hk
    refine Prod.ext ?_ ?_
    · show o + ((a + k : Nat) : Int) = clipLo o p m f s + (k : Int)
      omega
    · show endQ p m f ((a + k : Nat) : Int) = endQ (partP o p m f (clipLo o p m f s) (clipHi o p m f s - clipLo o p m f s)) (clipHi o p m f s - clipLo o p m f s) f (k : Int)
      unfold endQ partP
      split <;> omega
  · rw [if_neg h]
    have : b - a = 0 := by
      split at hb <;> omega
    rw [this]
    rfl

/-! ### law -/
abbrev s_law : Stmt := top 17
abbrev N_law : List Str := ["_law_script", "_law_draw", "_law_turn", "_law_length", "_law_mating_here", "_law_by", "_law_times", "_law_ends_here", "_law_one", "_law_other", "_law_wide", "_law_k", "_law_short", "_law_due", "_law_told", "_law_pair"]
abbrev P_law : List Str := ["_law_script"]
theorem sc_law : FnScope N_law P_law (defScope s_law) := ⟨rfl, rfl, rfl, by decide +kernel, rfl, by decide +kernel, by decide +kernel⟩
section
variable {P : Program} {w : World} {K : PySem.W.Frag} {mg : Str → Option Value} {base : Heap}
theorem max_lt {x : Int × Int} {mx s : Int} (hm : mx ∈ [x.1, x.2]) (hle : ∀ y, y ∈ [x.1, x.2] → y ≤ mx) : (mx < s) ↔ (x.1 < s ∧ x.2 < s) := by
  have h1 := hle x.1 (List.mem_cons_self ..)
  have h2 := hle x.2 (List.mem_cons_of_mem _ (List.mem_cons_self ..))
  rcases List.mem_cons.mp hm with rfl | h
  · constructor
    · intro h
      exact ⟨h, by omega⟩
    · exact fun h => h.1
  · have e : mx = x.2 := List.mem_singleton.mp h
    constructor
    · intro h
      exact ⟨by omega, by omega⟩
    · intro h
      omega
theorem ok_law {f fO fP fL fM fE fS fF fV fW fC fQ fH : Addr} {fd fdO fdP fdL fdM fdE fdS fdF fdV fdW fdC fdQ fdH : FuncData} (D : DefAt K mg "law" s_law P_law f fd) (D_open : DefAt K mg "_law_open" s_open P_open fO fdO) (D_pull : DefAt K mg "_law_pull" s_pull P_pull fP fdP)
    (D_like : DefAt K mg "_law_like" s_like P_like fL fdL) (D_mating : DefAt K mg "_law_mating" s_mating P_mating fM fdM) (D_ends : DefAt K mg "_law_ends" s_ends P_ends fE fdE) (D_scaled : DefAt K mg "_law_scaled" s_scaled P_scaled fS fdS)
    (D_cut_far : DefAt K mg "_law_cut_far" s_cut_far P_cut_far fF fdF) (D_moved : DefAt K mg "moved" s_moved P_moved fV fdV) (D_swelled : DefAt K mg "swelled" s_swelled P_swelled fW fdW) (D_clipped : DefAt K mg "clipped" s_clipped P_clipped fC fdC)
    (D_part : DefAt K mg "part" s_part P_part fQ fdQ) (D_holds : DefAt K mg "holds" s_holds P_holds fH fdH) (B : Bn mg) :
    FnOk P w K mg base CX0 6 f fd P_law (spLaw K) := by
  have G_open : FnOk P w K mg base CX0 1 fO fdO P_open (spOpen K) := ok_open D_open B
  have G_pull : FnOk P w K mg base CX0 1 fP fdP P_pull spPull := ok_pull D_pull B
  have G_like : FnOk P w K mg base CX0 3 fL fdL P_like (spLike 2) := ok_like D_like B 2
  have G_mating : FnOk P w K mg base CX0 2 fM fdM P_mating spMating := ok_mating D_mating D_pull B
  have G_ends : FnOk P w K mg base CX0 1 fE fdE P_ends spEnds := ok_ends D_ends B
  have G_moved : FnOk P w K mg base CX0 1 fV fdV P_moved spMoved := ok_moved D_moved
  have G_swelled : FnOk P w K mg base CX0 1 fW fdW P_swelled spSwelled := ok_swelled D_swelled
  have G_clipped : FnOk P w K mg base CX0 3 fC fdC P_clipped spClipped := ok_clipped D_clipped D_part D_holds B
  have G_cut_far : FnOk P w K mg base CX0 4 fF fdF P_cut_far spCutFar := ok_cut_far D_cut_far D_pull D_like D_scaled D_clipped D_swelled D_part D_holds B
  refine D.F.ok sc_law (fun vs H Q E h => ?_) (fun cdv A outer s H vs Q E hr h => ?_)
  · obtain ⟨a, ns, rfl, _⟩ := h
    rfl
  · obtain ⟨a, ns, rfl, hS, hlen, q⟩ := h
    have hu := hu_of hr
    refine ⟨_, (pss_cons (ps_set (i := 1) sc_law.nd rfl (.inl rfl) (pe_call G_open (hr.mono (by omega)) (by rfl) D_open.g D_open.F.kp D_open.b .nil pass0 (pa_cons (pv 0) pa_nil)))
      (pss_cons (ps_for PassesOwn.never rfl (pi_range1 (by rfl) B.range (pa_cons pe_int pa_nil)) (pg_name (i := 2) sc_law.nd rfl (.inl rfl)) (pss_cons (ps_set (i := 3) sc_law.nd rfl (.inl rfl) (pe_op op_add pe_int (pe_call G_pull (hr.mono (by omega)) (by rfl) D_pull.g D_pull.F.kp D_pull.b .nil pass0 (pa_cons (pv 1) (pa_cons pe_int pa_nil)))))
      (pss_cons (ps_set (i := 4) sc_law.nd rfl (.inl rfl) (pe_call G_mating (hr.mono (by omega)) (by rfl) D_mating.g D_mating.F.kp D_mating.b .nil pass0 (pa_cons (pv 1) (pa_cons (pv 3) pa_nil))))
      (pss_cons (ps_asg (pe_tup (pa_cons (pe_call G_pull (hr.mono (by omega)) (by rfl) D_pull.g D_pull.F.kp D_pull.b .nil pass0 (pa_cons (pv 1) (pa_cons (pe_op op_pow pe_int pe_int) pa_nil))) (pa_cons (pe_op op_add pe_int (pe_call G_pull (hr.mono (by omega)) (by rfl) D_pull.g D_pull.F.kp D_pull.b .nil pass0 (pa_cons (pv 1) (pa_cons pe_int pa_nil)))) pa_nil))) (pg_tup (by rfl) (pgs_cons (pg_name (i := 5) sc_law.nd rfl (.inr rfl)) (pgs_cons (pg_name (i := 6) sc_law.nd rfl (.inl rfl)) pgs_nil))))
      (pss_cons (ps_set (i := 7) sc_law.nd rfl (.inl rfl) (pe_call G_ends (hr.mono (by omega)) (by rfl) D_ends.g D_ends.F.kp D_ends.b .nil pass0 (pa_cons (pv 4) pa_nil)))
      (pss_cons (ps_if (pt_not (pt_val (pe_call G_like (hr.mono (by omega)) (by rfl) D_like.g D_like.F.kp D_like.b .nil pass0 (pa_cons (pe_call G_ends (hr.mono (by omega)) (by rfl) D_ends.g D_ends.F.kp D_ends.b .nil pass0 (pa_cons (pe_call G_moved (hr.mono (by omega)) (by rfl) D_moved.g D_moved.F.kp D_moved.b .nil pass0 (pa_cons (pv 4) (pa_cons (pv 5) pa_nil))) pa_nil)) (pa_cons (pe_lc (own := [("_law_one", 8), ("_law_other", 9)]) (g := gTup K 2 (gCons (gName 8) (gCons (gName 9) gNil))) (by rfl) sc_law.nd (pi_list (pv 7)) (blkOk_by (own := [("_law_one", 8), ("_law_other", 9)]) (N := N_law) (sc := defScope s_law) (by decide +kernel)) (fun _ _ _ _ _ => (pg_tup (by rfl) (pgs_cons (pg_name (i := 8) sc_law.nd rfl (.inl rfl)) (pgs_cons (pg_name (i := 9) sc_law.nd rfl (.inl rfl)) pgs_nil)))) (fun _ _ _ _ _ => pts_nil) (fun _ _ _ _ _ => (pe_tup (pa_cons (pe_op op_add (pv 8) (pv 5)) (pa_cons (pe_op op_add (pv 9) (pv 5)) pa_nil))))) pa_nil))))) (pss_one (ps_ret pe_bl)) pss_nil)
      (pss_cons (ps_set (i := 10) sc_law.nd rfl (.inl rfl) (pe_lst pa_nil))
      (pss_cons (ps_for PassesOwn.never rfl (pi_list (pv 7)) (pg_tup (by rfl) (pgs_cons (pg_name (i := 8) sc_law.nd rfl (.inl rfl)) (pgs_cons (pg_name (i := 9) sc_law.nd rfl (.inl rfl)) pgs_nil))) (pss_one (ps_for PassesOwn.never rfl (pi_range1 (by rfl) B.range (pa_cons (pv 6) pa_nil)) (pg_name (i := 11) sc_law.nd rfl (.inl rfl)) (pss_one (ps_expr (pe_bm PySem.F.plainAttrs_list PySem.F.slot_list_append PySem.F.type_list_append mt_append (pv 10) (pa_cons (pe_tup (pa_cons (pe_op op_add (pe_op op_mul (pv 8) (pv 6)) (pv 11)) (pa_cons (pe_op op_add (pe_op op_mul (pv 9) (pv 6)) (pe_ifExp (pt_cmpR op_eq (pe_ix ix_tup (pv 4) pe_int (fun _ _ => rfl)) pe_int (nomark _)) (pe_op op_sub (pe_op op_sub (pv 6) pe_int) (pv 11)) (pv 11))) pa_nil))) pa_nil)))))))
      (pss_cons (ps_if (pt_not (pt_val (pe_call G_like (hr.mono (by omega)) (by rfl) D_like.g D_like.F.kp D_like.b .nil pass0 (pa_cons (pe_call G_ends (hr.mono (by omega)) (by rfl) D_ends.g D_ends.F.kp D_ends.b .nil pass0 (pa_cons (pe_call G_swelled (hr.mono (by omega)) (by rfl) D_swelled.g D_swelled.F.kp D_swelled.b .nil pass0 (pa_cons (pv 4) (pa_cons (pv 6) pa_nil))) pa_nil)) (pa_cons (pv 10) pa_nil))))) (pss_one (ps_ret pe_bl)) pss_nil)
      (pss_cons (ps_for PassesOwn.never rfl (pi_range1 (by rfl) B.range (pa_cons (pe_op op_add (pv 3) pe_int) pa_nil)) (pg_name (i := 12) sc_law.nd rfl (.inr rfl)) (pss_cons (ps_setLc (i := 13) (own := [("_law_pair", 15)]) (g := gName 15) (by rfl) sc_law.nd rfl rfl (sw_true rfl rfl rfl (by decide +kernel)) (pi_list (pv 7)) (blkOk_by (own := [("_law_pair", 15)]) (N := N_law) (sc := defScope s_law) (by decide +kernel)) (fun _ _ _ _ _ => (pg_name (i := 15) sc_law.nd rfl (.inl rfl))) (fun _ _ _ _ _ => (pts_one (pt_cmpR op_lt (pe_callB (show CallR _ _ (rMaxT K) from cr_maxT rfl) (by rfl) B.max (by decide +kernel) (pa_cons (pv 15) pa_nil)) (pv 12) (nomark _)))) (fun _ _ _ _ _ => (pv 15)))
      (pss_cons (ps_set (i := 14) sc_law.nd rfl (.inl rfl) (pe_call G_clipped (hr.mono (by omega)) (by rfl) D_clipped.g D_clipped.F.kp D_clipped.b .nil pass0 (pa_cons (pv 4) (pa_cons (pv 12) pa_nil))))
      (pss_one (ps_if (pt_cmpR (op_eqD hr.units) (pv 13) (pe_lst pa_nil) (nomark _)) (pss_one (ps_if (pt_cmpR op_notN (pv 14) pe_non (nomark _)) (pss_one (ps_ret pe_bl)) pss_nil)) (pss_one (ps_if (PW.pt (pw_or (pt_not (pt_val (pe_callB call_isi (by rfl) B.isinstance (by decide +kernel) (pa_cons (pv 14) (pa_cons (pe_bltn (v := .ty "tuple") (by rfl) B.tuple (by decide +kernel) rfl) pa_nil))))) (pw_or (pt_not (pt_val (pe_call G_like (hr.mono (by omega)) (by rfl) D_like.g D_like.F.kp D_like.b .nil pass0 (pa_cons (pe_call G_ends (hr.mono (by omega)) (by rfl) D_ends.g D_ends.F.kp D_ends.b .nil pass0 (pa_cons (pv 14) pa_nil)) (pa_cons (pv 13) pa_nil))))) (pw_or1 (pt_cmpR op_ne (pe_ix ix_tup (pv 14) pe_int (fun _ _ => rfl)) (pe_ix ix_tup (pv 4) pe_int (fun _ _ => rfl)) (nomark _)))))) (pss_one (ps_ret pe_bl)) pss_nil)))))))
      (pss_one (ps_if (pt_not (pt_val (pe_call G_cut_far (hr.mono (by omega)) (by rfl) D_cut_far.g D_cut_far.F.kp D_cut_far.b .nil pass0 (pa_cons (pv 1) (pa_cons (pv 4) (pa_cons (pv 3) pa_nil)))))) (pss_one (ps_ret pe_bl)) pss_nil))))))))))))
      (pss_one (ps_ret pe_bl)))), ?_⟩
    refine ⟨.ref a, rfl, a, ns, rfl, hS, hlen, fun H1 d l sm nd nl hD => ?_⟩
    refine ⟨4, rfl, by decide, by decide, for_range (lo := 0) (n := 4) (fun i σ H2 => ∃ y2 y3 y4 y5 y6 y7 y8 y9 y10 y11 y12 y13 y14 y15, σ = [some (.ref a), some (.ref d), y2, y3, y4, y5, y6, y7, y8, y9, y10, y11, y12, y13, y14, y15] ∧ Draw H2 d l)
      ⟨_, _, _, _, _, _, _, _, _, _, _, _, _, _, rfl, hD⟩ ?_ ?_⟩
    · rintro i_ σ H2 hi ⟨y2, y3, y4, y5, y6, y7, y8, y9, y10, y11, y12, y13, y14, y15, rfl, D2⟩
      -- length
      refine ⟨.ref d, rfl, d, l, 16, rfl, D2, by decide, by decide, fun n0 H3 n00 n01 D3 k3 => ?_⟩
      refine ⟨1, n0, rfl, rfl, ?_⟩
      -- mating
      refine ⟨.ref d, rfl, .int (1 + n0), rfl, d, l, 1 + n0, rfl, D3, by omega, by omega, fun H4 t o p m f D4 k4 e4 M => ?_⟩
      have hf := M.f01
      have m1 := M.m1
      have o0 := M.o0
      have o1 := M.o1
      have p0 := M.p0
      have p1 := M.p1
      obtain ⟨mn, rfl⟩ : ∃ mn : Nat, m = (mn : Int) := ⟨m.toNat, by omega⟩
      have ntd : ∀ {H : Hp}, Draw H d l → H t = some (tup4 o p mn f) → t ≠ d := fun ⟨_, _, _, _, W⟩ e => ne_of e W.at_d (fun z => by cases z)
      -- by, times
      refine ⟨.ref d, rfl, 10, 17, rfl, rfl, ⟨by decide, by decide, by decide⟩, d, l, _, rfl, D4, by decide, by decide, fun b H5 b0 b1 D5 k5 => ?_⟩
      have e5 := k5.of e4 (ntd D4 e4)
      refine ⟨.ref d, rfl, d, l, 4, rfl, D5, by decide, by decide, fun T0 H6 T00 T01 D6 k6 => ?_⟩
      have e6 := k6.of e5 (ntd D5 e5)
      refine ⟨1, T0, rfl, rfl, by show 2 ≤ sizeLine; decide, fun tt ntt => ?_⟩
      refine ⟨tt, _, rfl, SqT.of upd_same, rfl, .int b, _, rfl, .int (1 + T0), _, rfl, rfl, ?_⟩
      have D7 : Draw (upd H6 tt (.tup [.int b, .int (1 + T0)])) d l := D6.same (same_upd ntt)
      have e7 : (upd H6 tt (.tup [.int b, .int (1 + T0)])) t = some (tup4 o p mn f) := same_upd ntt _ _ e6
      obtain ⟨T, hT⟩ : ∃ T : Nat, 1 + T0 = (T : Int) := ⟨(1 + T0).toNat, by omega⟩
      -- ends_here
      refine ⟨.ref t, rfl, t, o, p, f, mn, rfl, e7, by omega, fun H8 r ps s8 nr e8 pr8 => ?_⟩
      have D8 := D7.same s8
      have t8 := s8 _ _ e7
      have hpl := pr8.length
      rw [endL_length] at hpl
      -- ends(moved)
      refine ⟨.ref t, rfl, .int b, rfl, t, o, p, mn, f, b, rfl, t8, fun u nu => ?_⟩
      refine ⟨u, o + b, p + b, f, mn, rfl, upd_same, by omega, fun H9 r2 ps2 s9 nr2 e9 pr9 => ?_⟩
      have sA : Same H8 H9 := (same_upd nu).trans s9
      -- the comprehension
      refine ⟨.ref r, rfl, r, rfl, ⟨_, SqL.of (sA _ _ e8)⟩, fun L2 nL2 => lc_list (K := K) (a := r) (xs := ps.map V.ref) (fun i HA => ∃ qs : List Addr, Same H9 HA ∧ HA L2 = some (.lst (qs.map V.ref)) ∧ Prs HA qs (((endL o p mn f mn).map fun x => (x.1 + b, x.2 + b)).take i))
        ⟨[], same_upd nL2, upd_same, .nil⟩ (fun i HA _ ⟨_, sB, _⟩ => SqL.of (sB _ _ (sA _ _ e8))) ?_ ?_⟩
      · rintro i y HA hy ⟨qs, sB, eA, prA⟩
        have hil : i < (ps.map V.ref).length := (List.getElem?_eq_some_iff.mp hy).1
        rw [List.length_map] at hil
        obtain ⟨x, hx⟩ : ∃ x, (endL o p mn f mn)[i]? = some x := ⟨_, List.getElem?_eq_getElem (by rw [endL_length]; omega)⟩
        obtain ⟨c, hb1, hb2⟩ := pr8.get i x hx
        have ey : y = .ref c := by
          rw [List.getElem?_map, hb1] at hy
          exact (Option.some.inj hy).symm
        subst ey
        have hlen2 := prA.length
        rw [List.length_take, List.length_map, endL_length] at hlen2
        refine ⟨c, _, rfl, SqT.of (sB _ _ (sA _ _ hb2)), rfl, .int x.1, _, rfl, .int x.2, _, rfl, rfl, rfl, ?_⟩
        refine ⟨.int x.1, rfl, .int b, rfl, _, _, rfl, rfl, .int x.2, rfl, .int b, rfl, _, _, rfl, rfl, by show 2 ≤ sizeLine; decide, fun v nv => ?_⟩
        have nvL : v ≠ L2 := (ne_of_none eA nv).symm
        refine ⟨qs.map V.ref, same_upd nv _ _ eA, sz_lt (by rw [List.length_map]; omega), qs ++ [v], fun b' o' hb' => ?_, ?_, ?_⟩
        · rw [upd_ne (ne_of_none hb' nL2), upd_ne (ne_of_none (sB _ _ hb') nv)]
          exact sB _ _ hb'
        · rw [upd_same, List.map_append]
          rfl
        · rw [List.take_add_one, List.getElem?_map, hx]
          exact Prs.grow (o := .lst []) (prA.same (same_upd nv)) (same_upd nv _ _ eA) upd_same
      · rintro HA ⟨qs, sB, eA, prA⟩
        rw [List.length_map, hpl, List.take_of_length_le (by rw [List.length_map, endL_length]; exact Nat.le_refl _), ← endL_moved] at prA
        have hql := prA.length
        have hql2 := pr9.length
        rw [endL_length] at hql hql2
        refine ⟨.ref r2, .ref L2, .list ((endL (o + b) (p + b) mn f mn).map pd), rfl, .lst (sB _ _ e9) (by rw [List.length_map]; omega) ((pr9.same sB).rpd 0), .lst eA (by rw [List.length_map]; omega) (prA.rpd 0), fun HB sC => ⟨true, rfl, iteF ?_⟩⟩
        have sAB : Same H8 HB := (sA.trans sB).trans sC
        -- wide = []
        refine ⟨Nat.zero_le _, fun wr nwr => ?_⟩
        have nwr8 : H8 wr = none := sAB.free nwr
        have sW : Same H8 (upd HB wr (.lst [])) := sAB.trans (same_upd nwr)
        -- the loops
        refine ⟨.ref r, rfl, r, rfl, ⟨_, SqL.of (sW _ _ e8)⟩, for_list (K := K) (a := r) (xs := ps.map V.ref) (fun i σ HC => ∃ (z8 z9 z11 : Option V) (ws : List Addr), σ = [some (.ref a), some (.ref d), some (.int (0 + (i_ : Int))), some (.int (1 + n0)), some (.ref t), some (.int b), some (.int (1 + T0)), some (.ref r), z8, z9, some (.ref wr), z11, y12, y13, y14, y15] ∧ Same H8 HC ∧ HC wr = some (.lst (ws.map V.ref)) ∧ Prs HC ws (wideL T o p mn f i))
          ⟨_, _, _, [], rfl, sW, upd_same, .nil⟩ (fun i σ HC _ ⟨_, _, _, _, _, sX, _⟩ => SqL.of (sX _ _ e8)) ?_ ?_⟩
        · rintro i y σ HC hy ⟨z8, z9, z11, ws, rfl, sX, eX, prX⟩
          have hil : i < (ps.map V.ref).length := (List.getElem?_eq_some_iff.mp hy).1
          rw [List.length_map] at hil
          have hx : (endL o p mn f mn)[i]? = some (o + (i : Int), endQ p mn f (i : Int)) := by
            unfold endL
            rw [List.getElem?_map, List.getElem?_range (by omega)]
            rfl
          obtain ⟨c, hb1, hb2⟩ := pr8.get i _ hx
          have ey : y = .ref c := by
            rw [List.getElem?_map, hb1] at hy
            exact (Option.some.inj hy).symm
          subst ey
          refine ⟨c, _, rfl, SqT.of (sX _ _ hb2), rfl, .int (o + (i : Int)), _, rfl, .int (endQ p mn f (i : Int)), _, rfl, rfl, ?_⟩
          refine ⟨.int (1 + T0), rfl, 1 + T0, rfl, by omega, by omega, for_range (lo := 0) (n := (1 + T0).toNat) (fun k σ HD => ∃ (z11 : Option V) (vs : List Addr), σ = [some (.ref a), some (.ref d), some (.int (0 + (i_ : Int))), some (.int (1 + n0)), some (.ref t), some (.int b), some (.int (1 + T0)), some (.ref r), some (.int (o + (i : Int))), some (.int (endQ p mn f (i : Int))), some (.ref wr), z11, y12, y13, y14, y15] ∧ Same H8 HD ∧ HD wr = some (.lst (vs.map V.ref)) ∧ Prs HD vs (wideL T o p mn f i ++ wideOf T f (o + (i : Int), endQ p mn f (i : Int)) k))
            ⟨_, ws, rfl, sX, eX, by show Prs HC ws (wideL T o p mn f i ++ []); rw [List.append_nil]; exact prX⟩ ?_ ?_⟩
          · rintro k σ HD hk ⟨w11, vs, rfl, sY, eY, prY⟩
            have hvl := prY.length
            rw [List.length_append, wideL_length, wideOf_length] at hvl
            have hsz : (vs.map V.ref).length < sizeLine := sz_lt (by
              rw [List.length_map, hvl]
              have : i * T ≤ 16 * 4 := Nat.mul_le_mul (by omega) (by omega)
              omega)
            have tY := sY _ _ t8
            have go : ∀ (v : Addr) (z : Int), HD v = none → z = (if f = 1 then (T : Int) - 1 - (k : Int) else (k : Int)) → ∃ (z11 : Option V) (vs' : List Addr), ([some (.ref a), some (.ref d), some (.int (0 + (i_ : Int))), some (.int (1 + n0)), some (.ref t), some (.int b), some (.int (1 + T0)), some (.ref r), some (.int (o + (i : Int))), some (.int (endQ p mn f (i : Int))), some (.ref wr), some (.int (0 + (k : Int))), y12, y13, y14, y15] : List (Option V)) = [some (.ref a), some (.ref d), some (.int (0 + (i_ : Int))), some (.int (1 + n0)), some (.ref t), some (.int b), some (.int (1 + T0)), some (.ref r), some (.int (o + (i : Int))), some (.int (endQ p mn f (i : Int))), some (.ref wr), z11, y12, y13, y14, y15] ∧
                Same H8 (upd (upd HD v (.tup [.int ((o + (i : Int)) * (1 + T0) + (0 + (k : Int))), .int (endQ p mn f (i : Int) * (1 + T0) + z)])) wr (.lst ((vs.map V.ref) ++ [.ref v]))) ∧
                (upd (upd HD v (.tup [.int ((o + (i : Int)) * (1 + T0) + (0 + (k : Int))), .int (endQ p mn f (i : Int) * (1 + T0) + z)])) wr (.lst ((vs.map V.ref) ++ [.ref v]))) wr = some (.lst (vs'.map V.ref)) ∧
                Prs (upd (upd HD v (.tup [.int ((o + (i : Int)) * (1 + T0) + (0 + (k : Int))), .int (endQ p mn f (i : Int) * (1 + T0) + z)])) wr (.lst ((vs.map V.ref) ++ [.ref v]))) vs' (wideL T o p mn f i ++ wideOf T f (o + (i : Int), endQ p mn f (i : Int)) (k + 1)) := fun v z nv ez => by
              refine ⟨_, vs ++ [v], rfl, fun b' o' hb' => ?_, by rw [upd_same, List.map_append]; rfl, ?_⟩
              · rw [upd_ne (ne_of_none hb' nwr8), upd_ne (ne_of_none (sY _ _ hb') nv)]
                exact sY _ _ hb'
              · rw [wideOf_snoc, ← List.append_assoc]
                refine Prs.grow (o := .lst []) (prY.same (same_upd nv)) (same_upd nv _ _ eY) ?_
                rw [upd_same, hT, ez, show (0 : Int) + (k : Int) = (k : Int) by omega]
            refine ⟨.ref wr, rfl, .inl ⟨rfl, _, SqL.of eY⟩, .int (o + (i : Int)), rfl, .int (1 + T0), rfl, _, _, rfl, rfl, .inr ⟨by omega, by omega⟩, .int (0 + (k : Int)), rfl, _, _, rfl, rfl, .int (endQ p mn f (i : Int)), rfl, .int (1 + T0), rfl, _, _, rfl, rfl, .inr ⟨by omega, by omega⟩, .ref t, rfl, t, _, 3, .int f, rfl, rfl, SqT.of tY, at4_3, rfl, _, rfl, ?_⟩
            refine ite2 (fun h => ?_) (fun h => ?_)
            · have hf1 : f = 1 := V.int.inj (of_decide_eq_true h)
              refine ⟨.int (1 + T0), rfl, _, 1, rfl, rfl, .int (0 + (k : Int)), rfl, _, _, rfl, rfl, _, _, rfl, rfl, by show 2 ≤ sizeLine; decide, fun v nv => ?_⟩
              exact ⟨wr, _, _, rfl, rfl, same_upd nv _ _ eY, hsz, go v _ nv (by rw [if_pos hf1]; omega)⟩
            · have hf1 : ¬ f = 1 := fun z => h (decide_eq_true (congrArg V.int z))
              refine ⟨.int (0 + (k : Int)), rfl, _, _, rfl, rfl, by show 2 ≤ sizeLine; decide, fun v nv => ?_⟩
              exact ⟨wr, _, _, rfl, rfl, same_upd nv _ _ eY, hsz, go v _ nv (by rw [if_neg hf1]; omega)⟩
          · rintro σ HD ⟨w11, vs, rfl, sY, eY, prY⟩
            refine ⟨_, _, _, vs, rfl, sY, eY, ?_⟩
            rw [wideL_snoc, show T = (1 + T0).toNat by omega]
            rw [show T = (1 + T0).toNat by omega] at prY
            exact prY
        · rintro σ HC ⟨z8, z9, z11, ws, rfl, sX, eX, prX⟩
          rw [List.length_map, hpl] at prX
          have tX := sX _ _ t8
          have hwl := prX.length
          rw [wideL_length] at hwl
          have hmT : mn * T ≤ 16 * 4 := Nat.mul_le_mul (by omega) (by omega)
          -- like(ends(swelled), wide)
          refine ⟨.ref t, rfl, .int (1 + T0), rfl, t, o, p, mn, f, 1 + T0, rfl, tX, ⟨by omega, by omega⟩, fun u2 nu2 => ?_⟩
          have eu2 : (upd HC u2 (tup4 ((1 + T0) * o) ((1 + T0) * p) ((1 + T0) * mn) f)) u2 = some (tup4 ((T : Int) * o) ((T : Int) * p) ((T * mn : Nat) : Int) f) := by
            rw [upd_same, hT, Int.natCast_mul]
          refine ⟨u2, (T : Int) * o, (T : Int) * p, f, T * mn, rfl, eu2, by rw [Nat.mul_comm]; omega, fun HD r3 ps3 sD nr3 e3 pr3 => ?_⟩
          have sXD : Same HC HD := (same_upd nu2).trans sD
          rw [Int.natCast_mul, wide_is] at pr3
          have hl3 := pr3.length
          rw [wideL_length] at hl3
          refine ⟨.ref wr, rfl, .ref r3, .ref wr, .list ((wideL T o p mn f mn).map pd), rfl, .lst e3 (by rw [List.length_map]; omega) (pr3.rpd 0), .lst (sXD _ _ eX) (by rw [List.length_map]; omega) ((prX.same sXD).rpd 0), fun HE sE => ⟨true, rfl, iteF ?_⟩⟩
          have sF : Same H8 HE := (sX.trans sXD).trans sE
          -- the short loop
          refine ⟨.int (1 + n0), rfl, _, 1, rfl, rfl, _, rfl, by omega, by omega, for_range (lo := 0) (n := (1 + n0 + 1).toNat) (fun i σ HF => ∃ (z12 z13 z14 z15 : Option V), σ = [some (.ref a), some (.ref d), some (.int (0 + (i_ : Int))), some (.int (1 + n0)), some (.ref t), some (.int b), some (.int (1 + T0)), some (.ref r), z8, z9, some (.ref wr), z11, z12, z13, z14, z15] ∧ Same H8 HF) ⟨_, _, _, _, rfl, sF⟩ ?_ ?_⟩
          · rintro i σ HF hi' ⟨z12, z13, z14, z15, rfl, sG⟩
            have tG := sG _ _ t8
            have eG := sG _ _ e8
            obtain ⟨sh, hsh⟩ : ∃ sh : Int, 0 + (i : Int) = sh := ⟨_, rfl⟩
            refine ⟨.ref r, rfl, r, rfl, ⟨_, SqL.of eG⟩, fun L3 nL3 => lc_list (K := K) (a := r) (xs := ps.map V.ref) (fun j HA => ∃ qs : List Addr, Same HF HA ∧ HA L3 = some (.lst (qs.map V.ref)) ∧ Prs HA qs (((endL o p mn f mn).take j).filter (below (0 + (i : Int)))))
              ⟨[], same_upd nL3, upd_same, .nil⟩ (fun j HA _ ⟨_, sB, _⟩ => SqL.of (sB _ _ eG)) ?_ ?_⟩
            · rintro j y HA hy ⟨qs, sB, eA, prA⟩
              have hil : j < (ps.map V.ref).length := (List.getElem?_eq_some_iff.mp hy).1
              rw [List.length_map] at hil
              obtain ⟨x, hx⟩ : ∃ x, (endL o p mn f mn)[j]? = some x := ⟨_, List.getElem?_eq_getElem (by rw [endL_length]; omega)⟩
              obtain ⟨c, hb1, hb2⟩ := pr8.get j x hx
              have ey : y = .ref c := by
                rw [List.getElem?_map, hb1] at hy
                exact (Option.some.inj hy).symm
              subst ey
              have hc : HA c = some (.tup [.int x.1, .int x.2]) := sB _ _ (sG _ _ hb2)
              have hlen2 := prA.length
              have hlen3 := List.length_filter_le (below (0 + (i : Int))) ((endL o p mn f mn).take j)
              rw [List.length_take, endL_length] at hlen3
              refine ⟨rfl, .ref c, rfl, c, [x.1, x.2], rfl, SqT.of hc, Nat.succ_pos _, fun mx hm hle => ?_⟩
              refine ⟨.int (0 + (i : Int)), rfl, mx, _, rfl, rfl, _, rfl, ?_⟩
              have hml := max_lt (s := 0 + (i : Int)) hm hle
              refine ite2 (fun h => ?_) (fun h => ?_)
              · have hb : below (0 + (i : Int)) x = true := decide_eq_true (hml.mp (of_decide_eq_true h))
                refine ⟨.ref c, rfl, qs.map V.ref, eA, sz_lt (by rw [List.length_map]; omega), qs ++ [c], fun b' o' hb' => ?_, by rw [upd_same, List.map_append]; rfl, ?_⟩
                · rw [upd_ne (ne_of_none hb' nL3)]
                  exact sB _ _ hb'
                · rw [List.take_add_one, hx, List.filter_append, show ((some x).toList.filter (below (0 + (i : Int)))) = [x] by show [x].filter _ = [x]; rw [List.filter_cons_of_pos hb, List.filter_nil]]
                  exact Prs.grow (o := .lst []) prA eA hc
              · have hb : below (0 + (i : Int)) x = false := decide_eq_false (fun z => h (decide_eq_true (hml.mpr z)))
                refine ⟨qs, sB, eA, ?_⟩
                rw [List.take_add_one, hx, List.filter_append, show ((some x).toList.filter (below (0 + (i : Int)))) = [] by show [x].filter _ = []; rw [List.filter_cons_of_neg (by rw [hb]; exact Bool.false_ne_true), List.filter_nil], List.append_nil]
                exact prA
            · rintro HA ⟨qs, sB, eA, prA⟩
              rw [List.length_map, hpl, List.take_of_length_le (by rw [endL_length]; exact Nat.le_refl _), below_is o0 p0 hf] at prA
              have sH : Same H8 HA := sG.trans sB
              have tA := sB _ _ tG
              -- told
              refine ⟨.ref t, rfl, .int (0 + (i : Int)), rfl, t, o, p, mn, f, 0 + (i : Int), rfl, tA, hf, fun hle => ?_, fun hlt v nv => ?_⟩
              · rw [if_neg (by omega)] at prA
                have hq : qs = [] := by
                  cases prA
                  rfl
                subst hq
                refine ⟨.ref L3, rfl, Nat.zero_le _, fun L4 nL4 => ?_⟩
                refine ⟨.list [], .list [], .lst (SqL.of (same_upd nL4 _ _ eA)) .nil, .lst (SqL.of upd_same) .nil, rfl, rfl, _, rfl, ?_⟩
                refine ⟨.non, rfl, rfl, _, rfl, ?_⟩
                exact ⟨_, _, _, _, rfl, sH.trans (same_upd nL4)⟩
              · rw [if_pos hlt] at prA
                obtain ⟨kn, hkn⟩ : ∃ kn : Nat, clipHi o p mn f (0 + (i : Int)) - clipLo o p mn f (0 + (i : Int)) = (kn : Int) := ⟨(clipHi o p mn f (0 + (i : Int)) - clipLo o p mn f (0 + (i : Int))).toNat, by omega⟩
                have hch := clip_hi o p mn f (0 + (i : Int))
                have hcl := clip_lo o p mn f (0 + (i : Int))
                rw [hkn]
                rw [hkn, Int.toNat_natCast] at prA
                generalize clipLo o p mn f (0 + (i : Int)) = lo at *
                generalize clipHi o p mn f (0 + (i : Int)) = hi at *
                generalize partP o p mn f lo kn = pq at *
                have sI : Same HA (upd HA v (tup4 lo pq kn f)) := same_upd nv
                have vI : (upd HA v (tup4 lo pq kn f)) v = some (tup4 lo pq kn f) := upd_same
                generalize upd HA v (tup4 lo pq kn f) = HI at sI vI
                have hql := prA.length
                rw [endL_length] at hql
                refine ⟨.ref L3, rfl, Nat.zero_le _, fun L4 nL4 => ?_⟩
                have sJ : Same HI (upd HI L4 (.lst [])) := same_upd nL4
                refine ⟨.list ((endL lo pq kn f kn).map pd), .list [], .lst (SqL.of (sJ _ _ (sI _ _ eA))) ((prA.same (sI.trans sJ)).dp), .lst (SqL.of upd_same) .nil, shaped_pairs _, rfl, _, rfl, ?_⟩
                have hne : PyData.eqv (.list ((endL lo pq kn f kn).map pd)) (.list []) = false := by
                  rw [eqv_nil]
                  cases e : endL lo pq kn f kn with
                  | nil =>
                    have := endL_length lo pq kn f kn
                    rw [e] at this
                    have : 0 = kn := this
                    omega
                  | cons x r => rfl
                rw [hne]
                refine iteF ?_
                have vJ := sJ _ _ vI
                refine ⟨.ref v, rfl, _, _, _, _, true, rfl, ClsV.ty _, TyX.base (TyOf.tup vJ), kit_ty (by decide +kernel), _, rfl, ?_⟩
                refine ⟨.ref v, rfl, v, lo, pq, f, kn, rfl, vJ, by omega, fun HK r5 ps5 sK nr5 e5' pr5 => ?_⟩
                have hl5 := pr5.length
                rw [endL_length] at hl5
                refine ⟨.ref L3, rfl, .ref r5, .ref L3, .list ((endL lo pq kn f kn).map pd), rfl, .lst e5' (by rw [List.length_map]; omega) (pr5.rpd 0), .lst (sK _ _ (sJ _ _ (sI _ _ eA))) (by rw [List.length_map]; omega) ((prA.same ((sI.trans sJ).trans sK)).rpd 0), fun HL sL => ⟨true, rfl, ?_⟩⟩
                have sM : Same HA HL := (sI.trans sJ).trans (sK.trans sL)
                refine ⟨.ref v, rfl, v, _, 3, .int f, rfl, rfl, SqT.of (sL _ _ (sK _ _ vJ)), at4_3, .ref t, rfl, t, _, 3, .int f, rfl, rfl, SqT.of (sM _ _ tA), at4_3, rfl, _, rfl, ?_⟩
                refine iteNS rfl ?_
                exact ⟨_, _, _, _, rfl, sH.trans sM⟩
          · rintro σ HF ⟨z12, z13, z14, z15, rfl, sG⟩
            -- cut_far
            refine ⟨.ref d, rfl, .ref t, rfl, .int (1 + n0), rfl, d, l, t, o, p, mn, f, 1 + n0, rfl, D8.same sG, sG _ _ t8, M, by omega, fun HG DG => ⟨true, rfl, iteF ?_⟩⟩
            exact ⟨_, _, _, _, _, _, _, _, _, _, _, _, _, _, rfl, DG⟩
    · rintro σ H2 ⟨y2, y3, y4, y5, y6, y7, y8, y9, y10, y11, y12, y13, y14, y15, rfl, D2⟩
      exact q H2
end

theorem all_mk {l : PySem.W.OpenLaw} {w : World} {K : PySem.W.Frag} {h : Heap} {mg : Str → Option Value} {fa f0 f1 f2 f3 f4 f5 f6 f7 f8 f9 f10 f11 f12 : Addr} (X : K.In h) (G : h.Ns mainGlobals mg) (hfa : mg "law" = some (.ref fa))
    {od0 an0 od1 an1 od2 an2 od3 an3 od4 an4 od5 an5 od6 an6 od7 an7 od8 an8 od9 an9 od10 an10 od11 an11 od12 an12 : Option Addr} {sl0 sl1 sl2 sl3 sl4 sl5 sl6 sl7 sl8 sl9 sl10 sl11 sl12 : Array (Option Value)} {oc0 kV0 dc0 pm0 cd0 ct0 oc1 kV1 dc1 pm1 cd1 ct1 oc2 kV2 dc2 pm2 cd2 ct2 oc3 kV3 dc3 pm3 cd3 ct3 oc4 kV4 dc4 pm4 cd4 ct4 oc5 kV5 dc5 pm5 cd5 ct5 oc6 kV6 dc6 pm6 cd6 ct6 oc7 kV7 dc7 pm7 cd7 ct7 oc8 kV8 dc8 pm8 cd8 ct8 oc9 kV9 dc9 pm9 cd9 ct9 oc10 kV10 dc10 pm10 cd10 ct10 oc11 kV11 dc11 pm11 cd11 ct11 oc12 kV12 dc12 pm12 cd12 ct12 : Value}
    (a0 : PySem.W.nsIn K mainGlobals "part" = some (some (.ref f0))) (l0 : K.lookup f0 = some ⟨oc0, od0, .func (PySem.W.fnOf "part" "part" (defArgs s_part) (defBody s_part) (defScope s_part) .none kV0 dc0 pm0 an0 cd0 ct0), sl0⟩) (c0 : PySem.W.codeIn K cd0 "part" = true) (k0 : PySem.W.keepIn K (.ref f0) = true)
    (a1 : PySem.W.nsIn K mainGlobals "holds" = some (some (.ref f1))) (l1 : K.lookup f1 = some ⟨oc1, od1, .func (PySem.W.fnOf "holds" "holds" (defArgs s_holds) (defBody s_holds) (defScope s_holds) .none kV1 dc1 pm1 an1 cd1 ct1), sl1⟩) (c1 : PySem.W.codeIn K cd1 "holds" = true) (k1 : PySem.W.keepIn K (.ref f1) = true)
    (a2 : PySem.W.nsIn K mainGlobals "moved" = some (some (.ref f2))) (l2 : K.lookup f2 = some ⟨oc2, od2, .func (PySem.W.fnOf "moved" "moved" (defArgs s_moved) (defBody s_moved) (defScope s_moved) .none kV2 dc2 pm2 an2 cd2 ct2), sl2⟩) (c2 : PySem.W.codeIn K cd2 "moved" = true) (k2 : PySem.W.keepIn K (.ref f2) = true)
    (a3 : PySem.W.nsIn K mainGlobals "swelled" = some (some (.ref f3))) (l3 : K.lookup f3 = some ⟨oc3, od3, .func (PySem.W.fnOf "swelled" "swelled" (defArgs s_swelled) (defBody s_swelled) (defScope s_swelled) .none kV3 dc3 pm3 an3 cd3 ct3), sl3⟩) (c3 : PySem.W.codeIn K cd3 "swelled" = true) (k3 : PySem.W.keepIn K (.ref f3) = true)
    (a4 : PySem.W.nsIn K mainGlobals "clipped" = some (some (.ref f4))) (l4 : K.lookup f4 = some ⟨oc4, od4, .func (PySem.W.fnOf "clipped" "clipped" (defArgs s_clipped) (defBody s_clipped) (defScope s_clipped) .none kV4 dc4 pm4 an4 cd4 ct4), sl4⟩) (c4 : PySem.W.codeIn K cd4 "clipped" = true) (k4 : PySem.W.keepIn K (.ref f4) = true)
    (a5 : PySem.W.nsIn K mainGlobals "_law_open" = some (some (.ref f5))) (l5 : K.lookup f5 = some ⟨oc5, od5, .func (PySem.W.fnOf "_law_open" "_law_open" (defArgs s_open) (defBody s_open) (defScope s_open) .none kV5 dc5 pm5 an5 cd5 ct5), sl5⟩) (c5 : PySem.W.codeIn K cd5 "_law_open" = true) (k5 : PySem.W.keepIn K (.ref f5) = true)
    (a6 : PySem.W.nsIn K mainGlobals "_law_pull" = some (some (.ref f6))) (l6 : K.lookup f6 = some ⟨oc6, od6, .func (PySem.W.fnOf "_law_pull" "_law_pull" (defArgs s_pull) (defBody s_pull) (defScope s_pull) .none kV6 dc6 pm6 an6 cd6 ct6), sl6⟩) (c6 : PySem.W.codeIn K cd6 "_law_pull" = true) (k6 : PySem.W.keepIn K (.ref f6) = true)
    (a7 : PySem.W.nsIn K mainGlobals "_law_like" = some (some (.ref f7))) (l7 : K.lookup f7 = some ⟨oc7, od7, .func (PySem.W.fnOf "_law_like" "_law_like" (defArgs s_like) (defBody s_like) (defScope s_like) .none kV7 dc7 pm7 an7 cd7 ct7), sl7⟩) (c7 : PySem.W.codeIn K cd7 "_law_like" = true) (k7 : PySem.W.keepIn K (.ref f7) = true)
    (a8 : PySem.W.nsIn K mainGlobals "_law_mating" = some (some (.ref f8))) (l8 : K.lookup f8 = some ⟨oc8, od8, .func (PySem.W.fnOf "_law_mating" "_law_mating" (defArgs s_mating) (defBody s_mating) (defScope s_mating) .none kV8 dc8 pm8 an8 cd8 ct8), sl8⟩) (c8 : PySem.W.codeIn K cd8 "_law_mating" = true) (k8 : PySem.W.keepIn K (.ref f8) = true)
    (a9 : PySem.W.nsIn K mainGlobals "_law_ends" = some (some (.ref f9))) (l9 : K.lookup f9 = some ⟨oc9, od9, .func (PySem.W.fnOf "_law_ends" "_law_ends" (defArgs s_ends) (defBody s_ends) (defScope s_ends) .none kV9 dc9 pm9 an9 cd9 ct9), sl9⟩) (c9 : PySem.W.codeIn K cd9 "_law_ends" = true) (k9 : PySem.W.keepIn K (.ref f9) = true)
    (a10 : PySem.W.nsIn K mainGlobals "_law_scaled" = some (some (.ref f10))) (l10 : K.lookup f10 = some ⟨oc10, od10, .func (PySem.W.fnOf "_law_scaled" "_law_scaled" (defArgs s_scaled) (defBody s_scaled) (defScope s_scaled) .none kV10 dc10 pm10 an10 cd10 ct10), sl10⟩) (c10 : PySem.W.codeIn K cd10 "_law_scaled" = true) (k10 : PySem.W.keepIn K (.ref f10) = true)
    (a11 : PySem.W.nsIn K mainGlobals "_law_cut_far" = some (some (.ref f11))) (l11 : K.lookup f11 = some ⟨oc11, od11, .func (PySem.W.fnOf "_law_cut_far" "_law_cut_far" (defArgs s_cut_far) (defBody s_cut_far) (defScope s_cut_far) .none kV11 dc11 pm11 an11 cd11 ct11), sl11⟩) (c11 : PySem.W.codeIn K cd11 "_law_cut_far" = true) (k11 : PySem.W.keepIn K (.ref f11) = true)
    (a12 : PySem.W.nsIn K mainGlobals "law" = some (some (.ref f12))) (l12 : K.lookup f12 = some ⟨oc12, od12, .func (PySem.W.fnOf "law" "law" (defArgs s_law) (defBody s_law) (defScope s_law) .none kV12 dc12 pm12 an12 cd12 ct12), sl12⟩) (c12 : PySem.W.codeIn K cd12 "law" = true) (k12 : PySem.W.keepIn K (.ref f12) = true)
    (z0 : PySem.W.nsIn K mainGlobals "len" = some none) (z1 : PySem.W.nsIn K mainGlobals "list" = some none) (z2 : PySem.W.nsIn K mainGlobals "tuple" = some none) (z3 : PySem.W.nsIn K mainGlobals "bool" = some none) (z4 : PySem.W.nsIn K mainGlobals "int" = some none) (z5 : PySem.W.nsIn K mainGlobals "str" = some none) (z6 : PySem.W.nsIn K mainGlobals "isinstance" = some none) (z7 : PySem.W.nsIn K mainGlobals "all" = some none) (z8 : PySem.W.nsIn K mainGlobals "any" = some none) (z9 : PySem.W.nsIn K mainGlobals "range" = some none) (z10 : PySem.W.nsIn K mainGlobals "max" = some none) (z11 : PySem.W.nsIn K mainGlobals "min" = some none) (z12 : PySem.W.nsIn K mainGlobals "dict" = some none) (z13 : PySem.W.nsIn K mainGlobals "sorted" = some none) :
    ∃ fd : FuncData, (∀ (s : Shared) (v : Value), BindsTo s fd ⟨[v], []⟩ [("_law_script", v)]) ∧ ∀ base : Heap, K.In base → base.Ns mainGlobals mg → FnOk l.prog w K mg base CX0 6 fa fd P_law (spLaw K) := by
  have e := hfa.symm.trans (PySem.W.mg_of X G a12)
  cases e
  have B : Bn mg := ⟨PySem.W.mg_none_of X G z0, PySem.W.mg_none_of X G z1, PySem.W.mg_none_of X G z2, PySem.W.mg_none_of X G z3, PySem.W.mg_none_of X G z4, PySem.W.mg_none_of X G z5, PySem.W.mg_none_of X G z6, PySem.W.mg_none_of X G z7, PySem.W.mg_none_of X G z8, PySem.W.mg_none_of X G z9, PySem.W.mg_none_of X G z10, PySem.W.mg_none_of X G z11, PySem.W.mg_none_of X G z12, PySem.W.mg_none_of X G z13⟩
  have F0 := fun_mk (st := s_part) l0 c0 k0
  have D_part : DefAt K mg "part" s_part P_part _ _ := ⟨F0, F0.binds (ps := P_part) fun _ _ _ _ _ _ us hl => match us, hl with | [_, _, _], _ => rfl, PySem.W.mg_of X G a0⟩
  have F1 := fun_mk (st := s_holds) l1 c1 k1
  have D_holds : DefAt K mg "holds" s_holds P_holds _ _ := ⟨F1, F1.binds (ps := P_holds) fun _ _ _ _ _ _ us hl => match us, hl with | [_, _, _], _ => rfl, PySem.W.mg_of X G a1⟩
  have F2 := fun_mk (st := s_moved) l2 c2 k2
  have D_moved : DefAt K mg "moved" s_moved P_moved _ _ := ⟨F2, F2.binds (ps := P_moved) fun _ _ _ _ _ _ us hl => match us, hl with | [_, _], _ => rfl, PySem.W.mg_of X G a2⟩
  have F3 := fun_mk (st := s_swelled) l3 c3 k3
  have D_swelled : DefAt K mg "swelled" s_swelled P_swelled _ _ := ⟨F3, F3.binds (ps := P_swelled) fun _ _ _ _ _ _ us hl => match us, hl with | [_, _], _ => rfl, PySem.W.mg_of X G a3⟩
  have F4 := fun_mk (st := s_clipped) l4 c4 k4
  have D_clipped : DefAt K mg "clipped" s_clipped P_clipped _ _ := ⟨F4, F4.binds (ps := P_clipped) fun _ _ _ _ _ _ us hl => match us, hl with | [_, _], _ => rfl, PySem.W.mg_of X G a4⟩
  have F5 := fun_mk (st := s_open) l5 c5 k5
  have D_open : DefAt K mg "_law_open" s_open P_open _ _ := ⟨F5, F5.binds (ps := P_open) fun _ _ _ _ _ _ us hl => match us, hl with | [_], _ => rfl, PySem.W.mg_of X G a5⟩
  have F6 := fun_mk (st := s_pull) l6 c6 k6
  have D_pull : DefAt K mg "_law_pull" s_pull P_pull _ _ := ⟨F6, F6.binds (ps := P_pull) fun _ _ _ _ _ _ us hl => match us, hl with | [_, _], _ => rfl, PySem.W.mg_of X G a6⟩
  have F7 := fun_mk (st := s_like) l7 c7 k7
  have D_like : DefAt K mg "_law_like" s_like P_like _ _ := ⟨F7, F7.binds (ps := P_like) fun _ _ _ _ _ _ us hl => match us, hl with | [_, _], _ => rfl, PySem.W.mg_of X G a7⟩
  have F8 := fun_mk (st := s_mating) l8 c8 k8
  have D_mating : DefAt K mg "_law_mating" s_mating P_mating _ _ := ⟨F8, F8.binds (ps := P_mating) fun _ _ _ _ _ _ us hl => match us, hl with | [_, _], _ => rfl, PySem.W.mg_of X G a8⟩
  have F9 := fun_mk (st := s_ends) l9 c9 k9
  have D_ends : DefAt K mg "_law_ends" s_ends P_ends _ _ := ⟨F9, F9.binds (ps := P_ends) fun _ _ _ _ _ _ us hl => match us, hl with | [_], _ => rfl, PySem.W.mg_of X G a9⟩
  have F10 := fun_mk (st := s_scaled) l10 c10 k10
  have D_scaled : DefAt K mg "_law_scaled" s_scaled P_scaled _ _ := ⟨F10, F10.binds (ps := P_scaled) fun _ _ _ _ _ _ us hl => match us, hl with | [_, _], _ => rfl, PySem.W.mg_of X G a10⟩
  have F11 := fun_mk (st := s_cut_far) l11 c11 k11
  have D_cut_far : DefAt K mg "_law_cut_far" s_cut_far P_cut_far _ _ := ⟨F11, F11.binds (ps := P_cut_far) fun _ _ _ _ _ _ us hl => match us, hl with | [_, _, _], _ => rfl, PySem.W.mg_of X G a11⟩
  have F12 := fun_mk (st := s_law) l12 c12 k12
  have D_law : DefAt K mg "law" s_law P_law _ _ := ⟨F12, F12.binds (ps := P_law) fun _ _ _ _ _ _ us hl => match us, hl with | [_], _ => rfl, PySem.W.mg_of X G a12⟩
  exact ⟨PySem.W.fnOf "law" "law" (defArgs s_law) (defBody s_law) (defScope s_law) .none kV12 dc12 pm12 an12 cd12 ct12, fun s v => .of_eq rfl, fun base _ _ => ok_law D_law D_open D_pull D_like D_mating D_ends D_scaled D_cut_far D_moved D_swelled D_clipped D_part D_holds B⟩
end Fm
open PySem PySem.W PyProof.Rows
set_option maxRecDepth 100000 in
set_option maxHeartbeats 0 in
theorem PySem.Challenge.cw_farmates_k07_matings_moved_swelled_clipp_holds : PySem.Challenge.rw_farmates_k07_matings_moved_swelled_clipp.Holds := by
  w_on; o_law; k_head; (case hw => w_witness2)
  k_fill
  refine L2.walk_of (l := PySem.Challenge.rw_farmates_k07_matings_moved_swelled_clipp) (n := 63) (k := 6) (x := "_law_script") (CX := fun _ => L2.CX0) (sp := fun w => Fm.spLaw _) rfl (by decide) rfl ⟨rfl, by decide, by decide⟩ (fun w h Y => PySem.W.kIn_of Y) ?F (fun _ _ a ns hl _ hS => ⟨a, ns, rfl, hS, hl, fun _ => rfl⟩) (fun _ _ _ _ _ h => h)
  case F =>
    intro w mg fa h KX G hmg
    refine' Fm.all_mk KX G hmg ?a0 ?l0 ?c0 ?k0 ?a1 ?l1 ?c1 ?k1 ?a2 ?l2 ?c2 ?k2 ?a3 ?l3 ?c3 ?k3 ?a4 ?l4 ?c4 ?k4 ?a5 ?l5 ?c5 ?k5 ?a6 ?l6 ?c6 ?k6 ?a7 ?l7 ?c7 ?k7 ?a8 ?l8 ?c8 ?k8 ?a9 ?l9 ?c9 ?k9 ?a10 ?l10 ?c10 ?k10 ?a11 ?l11 ?c11 ?k11 ?a12 ?l12 ?c12 ?k12 ?z0 ?z1 ?z2 ?z3 ?z4 ?z5 ?z6 ?z7 ?z8 ?z9 ?z10 ?z11 ?z12 ?z13
    (case a0 => k_is); (case l0 => k_is); (case c0 => k_is); (case k0 => k_is); (case a1 => k_is); (case l1 => k_is); (case c1 => k_is); (case k1 => k_is); (case a2 => k_is); (case l2 => k_is); (case c2 => k_is); (case k2 => k_is); (case a3 => k_is); (case l3 => k_is); (case c3 => k_is); (case k3 => k_is); (case a4 => k_is); (case l4 => k_is); (case c4 => k_is); (case k4 => k_is); (case a5 => k_is); (case l5 => k_is); (case c5 => k_is); (case k5 => k_is); (case a6 => k_is); (case l6 => k_is); (case c6 => k_is); (case k6 => k_is); (case a7 => k_is); (case l7 => k_is); (case c7 => k_is); (case k7 => k_is); (case a8 => k_is); (case l8 => k_is); (case c8 => k_is); (case k8 => k_is); (case a9 => k_is); (case l9 => k_is); (case c9 => k_is); (case k9 => k_is); (case a10 => k_is); (case l10 => k_is); (case c10 => k_is); (case k10 => k_is); (case a11 => k_is); (case l11 => k_is); (case c11 => k_is); (case k11 => k_is); (case a12 => k_is); (case l12 => k_is); (case c12 => k_is); (case k12 => k_is); (case z0 => k_is); (case z1 => k_is); (case z2 => k_is); (case z3 => k_is); (case z4 => k_is); (case z5 => k_is); (case z6 => k_is); (case z7 => k_is); (case z8 => k_is); (case z9 => k_is); (case z10 => k_is); (case z11 => k_is); (case z12 => k_is); (case z13 => k_is)
