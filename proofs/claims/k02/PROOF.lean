import PyProof.Rows.All
import Wide.All
import OpenK.AllK
import Wide.FinOn
import HandS.ForMost
import HandS.Codes
import HandS.IsInst
import HandS.Wide
import HandS.Style
import HandS.ForExc
import HandS.ExcInit
import HandS.ExcIs
import HandS.ExcField
import HandS.FStr
import HandS.Defaults
import HandS.Lambda
import HandS.EndTab
import HandS.HotCalls
import KE.KStateDown
import HandS.Head0
import HandS.Head1
import HandS.Head2
import HandS.HeadHook1
import HandS.HeadHook2
import HandS.HeadHook3
import HandS.HeadHook4
import HandS.HeadWalk
import PySem.Challenge.RW_farmates_k02_lengths_and_matings_judged
set_option Elab.async false
set_option linter.all false
set_option maxRecDepth 100000
set_option maxHeartbeats 4000000
namespace Fm
open PySem L2
def top (i : Nat) : Stmt := PySem.Challenge.pw_farmates_k02_lengths_and_matings_judged.main.body.getD i (.Pass ⟨0, 0, 0, 0⟩)

/-! ### what stands behind the top -/
structure DefAt (K : PySem.W.Frag) (mg : Str → Option Value) (x : Str) (st : Stmt) (ps : List Str) (f : Addr) (fd : FuncData) : Prop where
  F : Fun K x x st f fd
  b : Binds K fd ps []
  g : mg x = some (.ref f)
structure Bn (mg : Str → Option Value) : Prop where
  len : mg "len" = none
  list : mg "list" = none
  tuple : mg "tuple" = none
  bool : mg "bool" = none
  int : mg "int" = none
  str : mg "str" = none
  isinstance : mg "isinstance" = none
  all : mg "all" = none
  any : mg "any" = none
  range : mg "range" = none
  max : mg "max" = none
  min : mg "min" = none
  dict : mg "dict" = none
  sorted : mg "sorted" = none
/-! ### heaps -/
theorem same_upd {H : Hp} {p : Addr} {o : HO} (h : H p = none) : Same H (upd H p o) := fun b x e => by
  rw [upd_ne (ne_of_none e h)]
  exact e
theorem sameU {H H' : Hp} {p : Addr} {o : HO} (e : Same H H') (h : H p = none) : Same H (upd H' p o) := fun b x q => by
  rw [upd_ne (ne_of_none q h)]
  exact e b x q
/-- all but d stands as it stood -/
def Keep (d : Addr) (H H' : Hp) : Prop := ∀ b o, b ≠ d → H b = some o → H' b = some o
theorem Keep.refl (d : Addr) (H : Hp) : Keep d H H := fun _ _ _ h => h
theorem Keep.trans {d : Addr} {H H1 H2 : Hp} (a : Keep d H H1) (b : Keep d H1 H2) : Keep d H H2 := fun c o n h => b c o n (a c o n h)
theorem Keep.upd {d : Addr} {H : Hp} {o : HO} : Keep d H (upd H d o) := fun b x n h => by
  rw [upd_ne n]
  exact h
theorem keepS {d : Addr} {H H' : Hp} (a : Same H H') : Keep d H H' := fun b o _ h => a b o h
/-! ### the drawing -/
structure Drawn (H : Hp) (d l : Addr) (ns : List Int) (i z s : Int) : Prop where
  at_d : H d = some (.lst [.ref l, .int i, .int z, .int s])
  at_l : H l = some (.lst (ns.map V.int))
  len : ns.length ≤ 63
  i0 : 0 ≤ i
  z0 : 0 ≤ z
  s0 : 0 ≤ s
  s1 : s < 2147483629
def Draw (H : Hp) (d l : Addr) : Prop := ∃ ns i z s, Drawn H d l ns i z s
theorem Drawn.ne {H : Hp} {d l : Addr} {ns : List Int} {i z s : Int} (h : Drawn H d l ns i z s) : l ≠ d := by
  refine ne_of h.at_l h.at_d fun e => ?_
  cases ns with
  | nil => cases e
  | cons x r => cases e
theorem Drawn.same {H H' : Hp} {d l : Addr} {ns : List Int} {i z s : Int} (h : Drawn H d l ns i z s) (e : Same H H') : Drawn H' d l ns i z s := { h with at_d := e _ _ h.at_d, at_l := e _ _ h.at_l }
theorem Draw.same {H H' : Hp} {d l : Addr} (h : Draw H d l) (e : Same H H') : Draw H' d l := by
  obtain ⟨ns, i, z, s, h⟩ := h
  exact ⟨ns, i, z, s, h.same e⟩
/-- the drawing list stored anew -/
theorem Drawn.put {H : Hp} {d l : Addr} {ns : List Int} {i z s i' z' s' : Int} (h : Drawn H d l ns i z s) (hi : 0 ≤ i') (hz : 0 ≤ z') (h0 : 0 ≤ s') (h1 : s' < 2147483629) :
    Drawn (upd H d (.lst [.ref l, .int i', .int z', .int s'])) d l ns i' z' s' :=
  ⟨upd_same, (by rw [upd_ne h.ne]; exact h.at_l), h.len, hi, hz, h0, h1⟩
def spOpen (K : PySem.W.Frag) : Sp := fun vs H Q _ => ∃ (a : Addr) (ns : List Int), vs = [.ref a] ∧ SqL K H a (ns.map V.int) ∧ ns.length ≤ 63 ∧
  ∀ H' d l, Same H H' → H d = none → H l = none → Draw H' d l → Q (.ref d) H'
def spPull : Sp := fun vs H Q _ => ∃ (d l : Addr) (c : Int), vs = [.ref d, .int c] ∧ Draw H d l ∧ 1 ≤ c ∧ c < 2 ^ 100 ∧
  ∀ (v : Int) (H' : Hp), 0 ≤ v → v < c → Draw H' d l → Keep d H H' → Q (.int v) H'
def spLaw (K : PySem.W.Frag) : Sp := fun vs H Q _ => ∃ (a : Addr) (ns : List Int), vs = [.ref a] ∧ SqL K H a (ns.map V.int) ∧ ns.length ≤ 63 ∧ ∀ H', Q (.bl true) H'
/-! ### data that is compared, at most n deep -/
mutual
inductive Rp (H : Hp) : Nat → V → PyData → Prop
  | non (n : Nat) : Rp H n .non .none
  | bl (n : Nat) (b : Bool) : Rp H n (.bl b) (.bool b)
  | int (n : Nat) (i : Int) : Rp H n (.int i) (.int i)
  | str (n : Nat) (x : Str) : Rp H n (.str x) (.str x)
  | lst {n : Nat} {a : Addr} {xs : List V} {ds : List PyData} : H a = some (.lst xs) → xs.length ≤ 100000 → RpAll H n xs ds → Rp H (n + 1) (.ref a) (.list ds)
  | tup {n : Nat} {a : Addr} {xs : List V} {ds : List PyData} : H a = some (.tup xs) → xs.length ≤ 100000 → RpAll H n xs ds → Rp H (n + 1) (.ref a) (.tuple ds)
inductive RpAll (H : Hp) : Nat → List V → List PyData → Prop
  | nil (n : Nat) : RpAll H n [] []
  | cons {n : Nat} {v : V} {vs : List V} {d : PyData} {ds : List PyData} : Rp H n v d → RpAll H n vs ds → RpAll H n (v :: vs) (d :: ds)
end
mutual
theorem Rp.same {H H' : Hp} (e : Same H H') : ∀ {n : Nat} {v : V} {d : PyData}, Rp H n v d → Rp H' n v d
  | _, _, _, .non n => .non n
  | _, _, _, .bl n b => .bl n b
  | _, _, _, .int n i => .int n i
  | _, _, _, .str n x => .str n x
  | _, _, _, .lst h l r => .lst (e _ _ h) l (RpAll.same e r)
  | _, _, _, .tup h l r => .tup (e _ _ h) l (RpAll.same e r)
theorem RpAll.same {H H' : Hp} (e : Same H H') : ∀ {n : Nat} {vs : List V} {ds : List PyData}, RpAll H n vs ds → RpAll H' n vs ds
  | _, _, _, .nil n => .nil n
  | _, _, _, .cons h r => .cons (Rp.same e h) (RpAll.same e r)
end
theorem RpAll.length {H : Hp} : ∀ {n : Nat} {vs : List V} {ds : List PyData}, RpAll H n vs ds → vs.length = ds.length
  | _, _, _, .nil _ => rfl
  | _, _, _, .cons _ r => congrArg (· + 1) (RpAll.length r)
theorem RpAll.get {H : Hp} : ∀ {n : Nat} {vs : List V} {ds : List PyData}, RpAll H n vs ds → ∀ (i : Nat), i < ds.length → ∃ v d, vs[i]? = some v ∧ ds[i]? = some d ∧ Rp H n v d
  | _, _, _, .nil _, i, h => absurd h (Nat.not_lt_zero i)
  | _, _, _, .cons (v := v) (d := d) h r, 0, _ => ⟨v, d, rfl, rfl, h⟩
  | _, _, _, .cons h r, i + 1, hi => by
    obtain ⟨v, d, a, b, c⟩ := RpAll.get r i (Nat.lt_of_succ_lt_succ hi)
    exact ⟨v, d, a, b, c⟩
def spLike (n : Nat) : Sp := fun vs H Q _ => ∃ (a b : V) (d : PyData), vs = [a, b] ∧ Rp H n a d ∧ Rp H n b d ∧ ∀ H', Same H H' → Q (.bl true) H'
def spBot : Sp := fun _ _ _ _ => False
section
variable {P : Program} {w : World} {K : PySem.W.Frag} {mg : Str → Option Value} {base : Heap}
theorem ok_bot {f : Addr} {fd : FuncData} {ps : List Str} : FnOk P w K mg base CX0 0 f fd ps spBot := ⟨fun _ _ _ _ h => h.elim, fun _ _ _ _ _ _ _ _ _ _ _ _ _ h => h.elim⟩
end
theorem Draw.ne_new {H : Hp} {d l p : Addr} (h : Draw H d l) (n : H p = none) : p ≠ d := by
  obtain ⟨ns, i, z, s, h⟩ := h
  exact (ne_of_none h.at_d n).symm
theorem Keep.of {d : Addr} {H H' : Hp} (k : Keep d H H') {b : Addr} {o : HO} (h : H b = some o) (n : b ≠ d) : H' b = some o := k b o n h
theorem sz_lt {n : Nat} (h : n < 100000) : n < sizeLine := Nat.lt_of_lt_of_le h (by decide)

/-! ### _law_open -/
abbrev s_open : Stmt := top 30
abbrev N_open : List Str := ["_law_script", "_law_seed", "_law_cell"]
abbrev P_open : List Str := ["_law_script"]
theorem sc_open : FnScope N_open P_open (defScope s_open) := ⟨rfl, rfl, rfl, by decide +kernel, rfl, by decide +kernel, by decide +kernel⟩
theorem cut63 (xs : List V) (h : xs.length ≤ 63) : cutV xs none (some 63) = xs := by
  unfold cutV
  rw [show HT.sIx xs.length xs.length (some 63) = min 63 xs.length from HT.sIx_nat xs.length xs.length 63, HT.sIx_none, Nat.min_eq_right h]
  show (xs.drop 0).take (xs.length - 0) = xs
  rw [List.drop_zero, Nat.sub_zero, List.take_length]
section
variable {P : Program} {w : World} {K : PySem.W.Frag} {mg : Str → Option Value} {base : Heap}
theorem ok_open {f : Addr} {fd : FuncData} (D : DefAt K mg "_law_open" s_open P_open f fd) (B : Bn mg) : FnOk P w K mg base CX0 1 f fd P_open (spOpen K) := by
  refine D.F.ok sc_open (fun vs H Q E h => ?_) (fun cdv A outer s H vs Q E hr h => ?_)
  · obtain ⟨a, ns, rfl, _⟩ := h
    rfl
  · obtain ⟨a, ns, rfl, hS, hlen, q⟩ := h
    refine ⟨_, (pss_cons (ps_set (i := 1) sc_open.nd rfl (.inl rfl) pe_int)
      (pss_cons (ps_for PassesOwn.never rfl (pi_list (pe_slice sl_list (pv 0) po_none (po_some pe_int))) (pg_name (i := 2) sc_open.nd rfl (.inl rfl)) (pss_one (ps_set (i := 1) sc_open.nd rfl (.inl rfl) (pe_op op_mod (pe_op op_add (pe_op op_add (pe_op op_mul (pv 1) pe_int) (pe_op op_mod (pv 2) pe_int)) pe_int) pe_int))))
      (pss_one (ps_ret (pe_lst (pa_cons (pe_callTy call_list_of (by rfl) B.list (by decide +kernel) (pa_cons (pe_slice sl_list (pv 0) po_none (po_some pe_int)) pa_nil)) (pa_cons pe_int (pa_cons pe_int (pa_cons (pv 1) pa_nil))))))))), ?_⟩
    refine ⟨.ref a, rfl, 63, rfl, a, ns.map V.int, rfl, hS, fun c nc => ?_⟩
    rw [cut63 _ (by rw [List.length_map]; exact hlen)]
    have s1 : Same H (upd H c (.lst (ns.map V.int))) := same_upd nc
    refine ⟨c, rfl, ⟨_, SqL.of upd_same⟩, for_list (K := K) (a := c) (xs := ns.map V.int) (fun i σ H2 => ∃ (sd : Int) (v : Option V), σ = [some (.ref a), some (.int sd), v] ∧ H2 = upd H c (.lst (ns.map V.int)) ∧ 0 ≤ sd ∧ sd < 2147483629)
      ⟨9134, none, rfl, rfl, by decide, by decide⟩ (fun i σ H2 _ ⟨_, _, _, e2, _⟩ => e2 ▸ SqL.of upd_same) ?_ ?_⟩
    · rintro i y σ H2 hi ⟨sd, v, rfl, rfl, h0, h1⟩
      obtain ⟨z, rfl⟩ : ∃ z, y = V.int z := by
        rw [List.getElem?_map] at hi
        cases e : ns[i]? with
        | none =>
          rw [e] at hi
          cases hi
        | some z =>
          rw [e] at hi
          exact ⟨z, (Option.some.inj hi).symm⟩
      refine ⟨_, rfl, _, _, rfl, rfl, .inl ⟨by omega, by omega⟩, _, rfl, _, _, rfl, rfl, (by show (0 : Int) < 2147483587; decide), _, _, rfl, rfl, _, _, rfl, rfl, _, _, rfl, rfl, (by show (0 : Int) < 2147483629; decide), ?_⟩
      exact ⟨_, _, rfl, rfl, Int.emod_nonneg _ (by decide), Int.emod_lt_of_pos _ (by decide)⟩
    · rintro σ H2 ⟨sd, v, rfl, rfl, h0, h1⟩
      refine ⟨.ref a, rfl, 63, rfl, a, ns.map V.int, rfl, s1.seq hS, fun p np => ?_⟩
      rw [cut63 _ (by rw [List.length_map]; exact hlen)]
      have s2 : Same H (upd (upd H c (.lst (ns.map V.int))) p (.lst (ns.map V.int))) := s1.trans (same_upd np)
      refine ⟨p, _, rfl, .inl (SqL.of upd_same), fun l nl => ?_⟩
      refine ⟨_, rfl, by show 4 ≤ sizeLine; decide, fun d nd => ?_⟩
      have s3 : Same H (upd (upd (upd H c (.lst (ns.map V.int))) p (.lst (ns.map V.int))) l (.lst (ns.map V.int))) := s2.trans (same_upd nl)
      refine q _ d l (s3.trans (same_upd nd)) (s3.free nd) (s2.free nl) ⟨ns, 0, 0, sd, upd_same, ?_, hlen, by decide, by decide, h0, h1⟩
      have nld : l ≠ d := fun e => by
        rw [← e, upd_same] at nd
        cases nd
      rw [upd_ne nld, upd_same]
end

/-! ### _law_pull -/
abbrev s_pull : Stmt := top 31
abbrev N_pull : List Str := ["_law_draw", "_law_cap", "_law_cell", "_law_got", "_law_seed"]
abbrev P_pull : List Str := ["_law_draw", "_law_cap"]
theorem sc_pull : FnScope N_pull P_pull (defScope s_pull) := ⟨rfl, rfl, rfl, by decide +kernel, rfl, by decide +kernel, by decide +kernel⟩
section
variable {P : Program} {w : World} {K : PySem.W.Frag} {mg : Str → Option Value} {base : Heap}
theorem ok_pull {f : Addr} {fd : FuncData} (D : DefAt K mg "_law_pull" s_pull P_pull f fd) (B : Bn mg) : FnOk P w K mg base CX0 1 f fd P_pull spPull := by
  refine D.F.ok sc_pull (fun vs H Q E h => ?_) (fun cdv A outer s H vs Q E hr h => ?_)
  · obtain ⟨d, l, c, rfl, _⟩ := h
    rfl
  · obtain ⟨d, l, c, rfl, hD, hc1, hc2, q⟩ := h
    refine ⟨_, (C8.pss_cut (ps_if (PW.pt (pw_and (pt_cmpR op_lt (pe_ix ix_list (pv 0) pe_int (fun _ _ => rfl)) (pv 1) (nomark _)) (pw_and1 (pt_cmpR op_lt (pe_ix ix_list (pv 0) pe_int (fun _ _ => rfl)) (pe_callB call_len_seq (by rfl) B.len (by decide +kernel) (pa_cons (pe_ix ix_list (pv 0) pe_int (fun _ _ => rfl)) pa_nil)) (nomark _))))) (pss_cons (ps_set (i := 2) sc_pull.nd rfl (.inl rfl) (pe_ix ix_list (pe_ix ix_list (pv 0) pe_int (fun _ _ => rfl)) (pe_ix ix_list (pv 0) pe_int (fun _ _ => rfl)) (fun _ _ => rfl)))
      (pss_cons (ps_asg (pe_op op_add (pe_ix ix_list (pv 0) pe_int (fun _ _ => rfl)) pe_int) (pg_sub (pv 0) pe_int set_list))
      (pss_cons (ps_asg pe_int (pg_sub (pv 0) pe_int set_list))
      (pss_one (ps_if (pt_cmpR op_ge (pv 2) (pe_op op_pow pe_int pe_int) (nomark _)) (pss_one (ps_asg (pv 2) (pg_sub (pv 0) pe_int set_list))) (pss_one (ps_asg (pe_op op_mod (pe_op op_add (pe_op op_add (pe_op op_mul (pe_ix ix_list (pv 0) pe_int (fun _ _ => rfl)) pe_int) (pe_op op_mul (pe_op op_mod (pv 2) pe_int) pe_int)) pe_int) pe_int) (pg_sub (pv 0) pe_int set_list)))))))) pss_nil)
      (C8.pss_cut (ps_if (pt_cmpR op_ge (pe_ix ix_list (pv 0) pe_int (fun _ _ => rfl)) (pv 1) (nomark _)) (pss_cons (ps_set (i := 3) sc_pull.nd rfl (.inl rfl) (pe_op op_mod (pe_ix ix_list (pv 0) pe_int (fun _ _ => rfl)) (pv 1)))
      (pss_cons (ps_asg (pe_op op_fdivW (pe_ix ix_list (pv 0) pe_int (fun _ _ => rfl)) (pv 1)) (pg_sub (pv 0) pe_int set_list))
      (pss_one (ps_ret (pv 3))))) pss_nil)
      (pss_cons (ps_set (i := 4) sc_pull.nd rfl (.inl rfl) (pe_ix ix_list (pv 0) pe_int (fun _ _ => rfl)))
      (pss_cons (ps_asg (pe_op op_mod (pe_op op_add (pe_op op_add (pe_op op_mul (pe_op op_mod (pe_op op_mul (pv 4) (pv 4)) pe_int) pe_int) (pe_op op_mul (pv 4) pe_int)) pe_int) pe_int) (pg_sub (pv 0) pe_int set_list))
      (pss_cons (ps_if (pt_cmpR op_lt (pv 1) (pe_op op_pow pe_int pe_int) (nomark _)) (pss_one (ps_ret (pe_op op_mod (pe_op op_add (pe_op op_fdivW (pe_ix ix_list (pv 0) pe_int (fun _ _ => rfl)) pe_int) (pe_op op_mul (pe_op op_mod (pe_ix ix_list (pv 0) pe_int (fun _ _ => rfl)) pe_int) pe_int)) (pv 1)))) pss_nil)
      (pss_one (ps_ret (pe_op op_mod (pe_op op_add (pe_op op_fdivW (pe_op op_pow (pe_ix ix_list (pv 0) pe_int (fun _ _ => rfl)) pe_int) pe_int) (pe_ix ix_list (pv 0) pe_int (fun _ _ => rfl))) (pv 1))))))))), ?_⟩
    have hpow : CPow 10 18 := ⟨by decide, by decide, by decide⟩
    have hpow8 : CPow 10 8 := ⟨by decide, by decide, by decide⟩
    have ix0 : ∀ {a b e g : V}, atI [a, b, e, g] 0 = some a := fun {_ _ _ _} => atI_nat (j := 0) rfl
    have ix1 : ∀ {a b e g : V}, atI [a, b, e, g] 1 = some b := fun {_ _ _ _} => atI_nat (j := 1) rfl
    have ix2 : ∀ {a b e g : V}, atI [a, b, e, g] 2 = some e := fun {_ _ _ _} => atI_nat (j := 2) rfl
    have ix3 : ∀ {a b e g : V}, atI [a, b, e, g] 3 = some g := fun {_ _ _ _} => atI_nat (j := 3) rfl
    -- the first if
    refine ⟨fun σ H1 => ∃ y : Option V, σ = [some (.ref d), some (.int c), y, none, none] ∧ Draw H1 d l ∧ Keep d H H1, ?_, ?_⟩
    · obtain ⟨ns, i, z, sd, hW⟩ := hD
      refine ⟨.ref d, rfl, d, _, 2, .int z, rfl, rfl, SqL.of hW.at_d, ix2, .int c, rfl, z, c, rfl, rfl, _, rfl, ?_⟩
      refine ite2 (fun _ => ?_) (fun _ => iteF ⟨none, rfl, ⟨ns, i, z, sd, hW⟩, Keep.refl _ _⟩)
      refine ⟨.ref d, rfl, d, _, 1, .int i, rfl, rfl, SqL.of hW.at_d, ix1, .ref d, rfl, d, _, 0, .ref l, rfl, rfl, SqL.of hW.at_d, ix0, l, _, rfl, .inl (SqL.of hW.at_l), i, _, rfl, rfl, _, rfl, ?_⟩
      refine ite2 (fun hb => ?_) (fun _ => ⟨none, rfl, ⟨ns, i, z, sd, hW⟩, Keep.refl _ _⟩)
      have hil : i < ((ns.map V.int).length : Int) := of_decide_eq_true hb
      rw [List.length_map] at hil
      have hi0 := hW.i0
      obtain ⟨j, rfl⟩ : ∃ j : Nat, i = (j : Int) := ⟨i.toNat, by omega⟩
      have hj : j < ns.length := by omega
      have gj : (ns.map V.int)[j]? = some (.int ns[j]) := by
        rw [List.getElem?_map, List.getElem?_eq_getElem hj]
        rfl
      -- cell = draw[0][draw[1]]
      refine ⟨.ref d, rfl, d, _, 0, .ref l, rfl, rfl, SqL.of hW.at_d, ix0, .ref d, rfl, d, _, 1, .int (j : Int), rfl, rfl, SqL.of hW.at_d, ix1, l, _, (j : Int), .int ns[j], rfl, rfl, SqL.of hW.at_l, atI_nat gj, ?_⟩
      -- draw[1] = draw[1] + 1
      refine ⟨.ref d, rfl, d, _, 1, .int (j : Int), rfl, rfl, SqL.of hW.at_d, ix1, _, _, rfl, rfl, .ref d, rfl, d, _, 1, 1, rfl, rfl, hW.at_d, rfl, ?_⟩
      have W1 := hW.put (i' := (j : Int) + 1) (z' := z) (s' := sd) (by omega) hW.z0 hW.s0 hW.s1
      -- draw[2] = 0
      refine ⟨.ref d, rfl, d, _, 2, 2, rfl, rfl, upd_same, rfl, ?_⟩
      have W2 := W1.put (i' := (j : Int) + 1) (z' := 0) (s' := sd) (by omega) (by decide) hW.s0 hW.s1
      -- if cell >= 10 ** 18
      refine ⟨_, rfl, _, _, rfl, rfl, hpow, _, _, rfl, rfl, _, rfl, ?_⟩
      refine ite2 (fun hg => ?_) (fun _ => ?_)
      · have hg' : (10 : Int) ^ 18 ≤ ns[j] := of_decide_eq_true hg
        refine ⟨_, rfl, .ref d, rfl, d, _, 2, 2, rfl, rfl, upd_same, rfl, ?_⟩
        exact ⟨_, rfl, ⟨_, _, _, _, W2.put (i' := (j : Int) + 1) (z' := ns[j]) (s' := sd) (by omega) (by omega) hW.s0 hW.s1⟩, (Keep.upd.trans Keep.upd).trans Keep.upd⟩
      · refine ⟨.ref d, rfl, d, _, 3, .int sd, rfl, rfl, SqL.of upd_same, ix3, _, _, rfl, rfl, .inr ⟨by decide, by decide⟩, _, rfl, _, _, rfl, rfl, (by show (0 : Int) < 2147483647; decide), _, _, rfl, rfl, .inr ⟨by decide, by decide⟩, _, _, rfl, rfl, _, _, rfl, rfl, _, _, rfl, rfl, (by show (0 : Int) < 2147483629; decide), ?_⟩
        refine ⟨.ref d, rfl, d, _, 3, 3, rfl, rfl, upd_same, rfl, ?_⟩
        exact ⟨_, rfl, ⟨_, _, _, _, W2.put (i' := (j : Int) + 1) (z' := 0) (s' := _) (by omega) (by decide) (Int.emod_nonneg _ (by decide)) (Int.emod_lt_of_pos _ (by decide))⟩, (Keep.upd.trans Keep.upd).trans Keep.upd⟩
    · rintro σ H1 ⟨y, rfl, ⟨ns, i, z, sd, hW⟩, kp⟩
      -- the second if
      refine ⟨fun σ H2 => H2 = H1 ∧ ∃ y' : Option V, σ = [some (.ref d), some (.int c), y, y', none], ?_, ?_⟩
      · refine ⟨.ref d, rfl, d, _, 2, .int z, rfl, rfl, SqL.of hW.at_d, ix2, .int c, rfl, z, c, rfl, rfl, _, rfl, ?_⟩
        refine ite2 (fun hg => ?_) (fun _ => ⟨rfl, none, rfl⟩)
        refine ⟨.ref d, rfl, d, _, 2, .int z, rfl, rfl, SqL.of hW.at_d, ix2, .int c, rfl, _, _, rfl, rfl, (by omega), ?_⟩
        have hwd : CDivW z c := wide_div (b := 100) (by omega) (by omega) (by decide) (by decide)
        refine ⟨.ref d, rfl, d, _, 2, .int z, rfl, rfl, SqL.of hW.at_d, ix2, .int c, rfl, _, _, rfl, rfl, hwd, .ref d, rfl, d, _, 2, 2, rfl, rfl, hW.at_d, rfl, _, rfl, ?_⟩
        exact q _ _ (Int.emod_nonneg _ (by omega)) (Int.emod_lt_of_pos _ (by omega)) ⟨_, _, _, _, hW.put (i' := i) (z' := z / c) (s' := sd) hW.i0 (Int.ediv_nonneg hW.z0 (by omega)) hW.s0 hW.s1⟩ (kp.trans Keep.upd)
      · rintro σ H2 ⟨rfl, y', rfl⟩
        have hs0 := hW.s0
        have hs1 := hW.s1
        have hm : CMul sd sd := .inl ⟨by omega, by omega⟩
        -- seed = draw[3]; draw[3] = ..
        refine ⟨.ref d, rfl, d, _, 3, .int sd, rfl, rfl, SqL.of hW.at_d, ix3, ?_⟩
        refine ⟨_, rfl, _, rfl, _, _, rfl, rfl, hm, _, _, rfl, rfl, (by show (0 : Int) < 2147483647; decide), _, _, rfl, rfl, .inr ⟨by decide, by decide⟩, _, rfl, _, _, rfl, rfl, .inr ⟨by decide, by decide⟩, _, _, rfl, rfl, _, _, rfl, rfl, _, _, rfl, rfl, (by show (0 : Int) < 2147483629; decide), ?_⟩
        refine ⟨.ref d, rfl, d, _, 3, 3, rfl, rfl, hW.at_d, rfl, ?_⟩
        have n0 : 0 ≤ (sd * sd % 2147483647 * 3 + sd * 45991 + 746773) % 2147483629 := Int.emod_nonneg _ (by decide)
        have n1 : (sd * sd % 2147483647 * 3 + sd * 45991 + 746773) % 2147483629 < 2147483629 := Int.emod_lt_of_pos _ (by decide)
        have W1 := hW.put (i' := i) (z' := z) (s' := (sd * sd % 2147483647 * 3 + sd * 45991 + 746773) % 2147483629) hW.i0 hW.z0 n0 n1
        have na : ((sd * sd % 2147483647 * 3 + sd * 45991 + 746773) % 2147483629).natAbs < 2 ^ 64 := by omega
        -- if cap < 10 ** 8
        refine ⟨_, rfl, _, _, rfl, rfl, hpow8, _, _, rfl, rfl, _, rfl, ?_⟩
        refine ite2 (fun _ => ?_) (fun _ => ?_)
        · refine ⟨.ref d, rfl, d, _, 3, .int _, rfl, rfl, SqL.of W1.at_d, ix3, _, _, rfl, rfl, wide_div (b := 10) (by decide) (by decide) (by decide) (by decide), .ref d, rfl, d, _, 3, .int _, rfl, rfl, SqL.of W1.at_d, ix3, _, _, rfl, rfl, (by show (0 : Int) < 6151; decide), _, _, rfl, rfl, .inr ⟨by decide, by decide⟩, _, _, rfl, rfl, .int c, rfl, _, _, rfl, rfl, (by omega), ?_⟩
          exact q _ _ (Int.emod_nonneg _ (by omega)) (Int.emod_lt_of_pos _ (by omega)) ⟨_, _, _, _, W1⟩ (kp.trans Keep.upd)
        · refine ⟨.ref d, rfl, d, _, 3, .int _, rfl, rfl, SqL.of W1.at_d, ix3, _, _, rfl, rfl, ⟨by decide, by decide, na⟩, _, _, rfl, rfl, wide_div (b := 10) (by decide) (by decide) (by decide) (by decide), .ref d, rfl, d, _, 3, .int _, rfl, rfl, SqL.of W1.at_d, ix3, _, _, rfl, rfl, .int c, rfl, _, _, rfl, rfl, (by omega), ?_⟩
          exact q _ _ (Int.emod_nonneg _ (by omega)) (Int.emod_lt_of_pos _ (by omega)) ⟨_, _, _, _, W1⟩ (kp.trans Keep.upd)
end

/-! ### _law_like -/
abbrev s_like : Stmt := top 33
abbrev N_like : List Str := ["_law_found", "_law_due", "_law_j"]
abbrev P_like : List Str := ["_law_found", "_law_due"]
theorem sc_like : FnScope N_like P_like (defScope s_like) := ⟨rfl, rfl, rfl, by decide +kernel, rfl, by decide +kernel, by decide +kernel⟩
section
variable {P : Program} {w : World} {K : PySem.W.Frag} {mg : Str → Option Value} {base : Heap}
theorem isn_no {v : V} {A B : Prop} (h : v ≠ .non) (b : B) : if decide (v = V.non) = true then A else B := by
  rw [decide_eq_false h]
  exact iteF b
theorem like_step {k n : Nat} {f : Addr} {fd : FuncData} {spR : Sp} (D_like : DefAt K mg "_law_like" s_like P_like f fd) (B : Bn mg) (G_like : FnOk P w K mg base CX0 k f fd P_like spR)
    (hR : ∀ m, n = m + 1 → ∀ vs H Q E, spLike m vs H Q E → spR vs H Q E) : FnOk P w K mg base CX0 (k + 1) f fd P_like (spLike n) := by
  refine D_like.F.ok sc_like (fun vs H Q E h => ?_) (fun cdv A outer s H vs Q E hr h => ?_)
  · obtain ⟨a, b, d, rfl, _⟩ := h
    rfl
  · obtain ⟨a, b, d, rfl, ha, hb, q⟩ := h
    refine ⟨_, (pss_cons (ps_if (pt_cmpR op_isN (pv 1) pe_non (nomark _)) (pss_one (ps_ret (pe_cmpR op_isN (pv 0) pe_non (nomark _)))) pss_nil)
      (pss_cons (ps_if (pt_val (pe_callB call_isi (by rfl) B.isinstance (by decide +kernel) (pa_cons (pv 1) (pa_cons (pe_bltn (v := .ty "bool") (by rfl) B.bool (by decide +kernel) rfl) pa_nil)))) (pss_one (ps_ret (pe_and (pe_callB call_isi (by rfl) B.isinstance (by decide +kernel) (pa_cons (pv 0) (pa_cons (pe_bltn (v := .ty "bool") (by rfl) B.bool (by decide +kernel) rfl) pa_nil))) (pe_one (pe_cmpR op_eq (pv 0) (pv 1) (nomark _)))))) pss_nil)
      (pss_cons (ps_if (pt_val (pe_callB call_isi (by rfl) B.isinstance (by decide +kernel) (pa_cons (pv 1) (pa_cons (pe_bltn (v := .ty "int") (by rfl) B.int (by decide +kernel) rfl) pa_nil)))) (pss_one (ps_ret (pe_and (pe_callB call_isi (by rfl) B.isinstance (by decide +kernel) (pa_cons (pv 0) (pa_cons (pe_bltn (v := .ty "int") (by rfl) B.int (by decide +kernel) rfl) pa_nil))) (pe_and (pe_not (pe_callB call_isi (by rfl) B.isinstance (by decide +kernel) (pa_cons (pv 0) (pa_cons (pe_bltn (v := .ty "bool") (by rfl) B.bool (by decide +kernel) rfl) pa_nil)))) (pe_one (pe_cmpR op_eq (pv 0) (pv 1) (nomark _))))))) pss_nil)
      (pss_cons (ps_if (pt_val (pe_callB call_isi (by rfl) B.isinstance (by decide +kernel) (pa_cons (pv 1) (pa_cons (pe_bltn (v := .ty "str") (by rfl) B.str (by decide +kernel) rfl) pa_nil)))) (pss_one (ps_ret (pe_and (pe_callB call_isi (by rfl) B.isinstance (by decide +kernel) (pa_cons (pv 0) (pa_cons (pe_bltn (v := .ty "str") (by rfl) B.str (by decide +kernel) rfl) pa_nil))) (pe_one (pe_cmpR op_eq (pv 0) (pv 1) (nomark _)))))) pss_nil)
      (pss_cons (ps_if (PW.pt (pw_or (pt_cmpR op_ne (pe_callB call_isi (by rfl) B.isinstance (by decide +kernel) (pa_cons (pv 1) (pa_cons (pe_bltn (v := .ty "tuple") (by rfl) B.tuple (by decide +kernel) rfl) pa_nil))) (pe_callB call_isi (by rfl) B.isinstance (by decide +kernel) (pa_cons (pv 0) (pa_cons (pe_bltn (v := .ty "tuple") (by rfl) B.tuple (by decide +kernel) rfl) pa_nil))) (nomark _)) (pw_or1 (pt_cmpR op_ne (pe_callB call_isi (by rfl) B.isinstance (by decide +kernel) (pa_cons (pv 1) (pa_cons (pe_bltn (v := .ty "list") (by rfl) B.list (by decide +kernel) rfl) pa_nil))) (pe_callB call_isi (by rfl) B.isinstance (by decide +kernel) (pa_cons (pv 0) (pa_cons (pe_bltn (v := .ty "list") (by rfl) B.list (by decide +kernel) rfl) pa_nil))) (nomark _))))) (pss_one (ps_ret pe_bl)) pss_nil)
      (pss_cons (ps_if (pt_cmpR op_ne (pe_callB call_len_seq (by rfl) B.len (by decide +kernel) (pa_cons (pv 0) pa_nil)) (pe_callB call_len_seq (by rfl) B.len (by decide +kernel) (pa_cons (pv 1) pa_nil)) (nomark _)) (pss_one (ps_ret pe_bl)) pss_nil)
      (pss_one (ps_ret (pe_callB (cr_all rfl) (by rfl) B.all (by decide +kernel) (pa_cons (pe_lc (own := [("_law_j", 2)]) (g := gName 2) (by rfl) sc_like.nd (pi_range1 (by rfl) B.range (pa_cons (pe_callB call_len_seq (by rfl) B.len (by decide +kernel) (pa_cons (pv 1) pa_nil)) pa_nil)) (blkOk_by (own := [("_law_j", 2)]) (N := N_like) (sc := defScope s_like) (by decide +kernel)) (fun _ _ _ _ _ => (pg_name (i := 2) sc_like.nd rfl (.inl rfl))) (fun _ _ _ _ _ => pts_nil) (fun _ _ _ _ _ => (pe_call G_like (hr.mono (by omega)) (by rfl) D_like.g D_like.F.kp D_like.b .nil pass0 (pa_cons (pe_ix (show IxR _ (rIx K) from ix_seq) (pv 0) (pv 2) (fun _ _ => rfl)) (pa_cons (pe_ix (show IxR _ (rIx K) from ix_seq) (pv 1) (pv 2) (fun _ _ => rfl)) pa_nil))))) pa_nil)))))))))), ?_⟩
    cases ha with
    | non =>
      cases hb
      exact ⟨.non, rfl, rfl, _, rfl, iteT ⟨.non, rfl, rfl, q H (Same.refl H)⟩⟩
    | bl _ x =>
      cases hb
      refine ⟨.bl x, rfl, rfl, _, rfl, isn_no (by intro z; cases z) ?_⟩
      refine ⟨.bl x, rfl, _, _, _, _, true, rfl, ClsV.ty _, TyX.base (TyOf.bl _), kit_ty (by decide +kernel), _, rfl, iteT ?_⟩
      refine ⟨.bl x, rfl, _, _, _, _, true, rfl, ClsV.ty _, TyX.base (TyOf.bl _), kit_ty (by decide +kernel), _, rfl, iteT ?_⟩
      refine ⟨.bl x, rfl, .bl x, rfl, rfl, ?_⟩
      rw [decide_eq_true rfl]
      exact q H (Same.refl H)
    | int _ x =>
      cases hb
      refine ⟨.int x, rfl, rfl, _, rfl, isn_no (by intro z; cases z) ?_⟩
      refine ⟨.int x, rfl, _, _, _, _, false, rfl, ClsV.ty _, TyX.base (TyOf.int _), kit_ty (by decide +kernel), _, rfl, iteF ?_⟩
      refine ⟨.int x, rfl, _, _, _, _, true, rfl, ClsV.ty _, TyX.base (TyOf.int _), kit_ty (by decide +kernel), _, rfl, iteT ?_⟩
      refine ⟨.int x, rfl, _, _, _, _, true, rfl, ClsV.ty _, TyX.base (TyOf.int _), kit_ty (by decide +kernel), _, rfl, iteT ?_⟩
      refine ⟨.int x, rfl, _, _, _, _, false, rfl, ClsV.ty _, TyX.base (TyOf.int _), kit_ty (by decide +kernel), _, rfl, _, rfl, iteT ?_⟩
      refine ⟨.int x, rfl, .int x, rfl, rfl, ?_⟩
      rw [decide_eq_true rfl]
      exact q H (Same.refl H)
    | str _ x =>
      cases hb
      refine ⟨.str x, rfl, rfl, _, rfl, isn_no (by intro z; cases z) ?_⟩
      refine ⟨.str x, rfl, _, _, _, _, false, rfl, ClsV.ty _, TyX.base (TyOf.str _), kit_ty (by decide +kernel), _, rfl, iteF ?_⟩
      refine ⟨.str x, rfl, _, _, _, _, false, rfl, ClsV.ty _, TyX.base (TyOf.str _), kit_ty (by decide +kernel), _, rfl, iteF ?_⟩
      refine ⟨.str x, rfl, _, _, _, _, true, rfl, ClsV.ty _, TyX.base (TyOf.str _), kit_ty (by decide +kernel), _, rfl, iteT ?_⟩
      refine ⟨.str x, rfl, _, _, _, _, true, rfl, ClsV.ty _, TyX.base (TyOf.str _), kit_ty (by decide +kernel), _, rfl, iteT ?_⟩
      refine ⟨.str x, rfl, .str x, rfl, rfl, ?_⟩
      rw [decide_eq_true rfl]
      exact q H (Same.refl H)
    | @lst m p xs ds hp lp rp =>
      cases hb with
      | @lst _ r ys _ hq lq rq =>
      have lx : xs.length = ds.length := rp.length
      have ly : ys.length = ds.length := rq.length
      refine ⟨.ref r, rfl, rfl, _, rfl, isn_no (by intro z; cases z) ?_⟩
      refine ⟨.ref r, rfl, _, _, _, _, false, rfl, ClsV.ty _, TyX.base (TyOf.lst hq), kit_ty (by decide +kernel), _, rfl, iteF ?_⟩
      refine ⟨.ref r, rfl, _, _, _, _, false, rfl, ClsV.ty _, TyX.base (TyOf.lst hq), kit_ty (by decide +kernel), _, rfl, iteF ?_⟩
      refine ⟨.ref r, rfl, _, _, _, _, false, rfl, ClsV.ty _, TyX.base (TyOf.lst hq), kit_ty (by decide +kernel), _, rfl, iteF ?_⟩
      refine ⟨.ref r, rfl, _, _, _, _, false, rfl, ClsV.ty _, TyX.base (TyOf.lst hq), kit_ty (by decide +kernel), .ref p, rfl, _, _, _, _, false, rfl, ClsV.ty _, TyX.base (TyOf.lst hp), kit_ty (by decide +kernel), rfl, _, rfl, iteNS rfl ?_⟩
      refine ⟨.ref r, rfl, _, _, _, _, true, rfl, ClsV.ty _, TyX.base (TyOf.lst hq), kit_ty (by decide +kernel), .ref p, rfl, _, _, _, _, true, rfl, ClsV.ty _, TyX.base (TyOf.lst hp), kit_ty (by decide +kernel), rfl, _, rfl, iteNS rfl ?_⟩
      refine ⟨.ref p, rfl, p, xs, rfl, .inl (SqL.of hp), .ref r, rfl, r, ys, rfl, .inl (SqL.of hq), rfl, _, rfl, iteNS (by rw [lx, ly]) ?_⟩
      refine ⟨.ref r, rfl, r, ys, rfl, .inl (SqL.of hq), _, rfl, (by have := lq; omega), (by have := lq; omega), fun D hD => lc_range (lo := 0) (n := ((ys.length : Int)).toNat) (fun i H2 => ∃ bs : List Bool, Same H H2 ∧ H2 D = some (.lst (bs.map V.bl)) ∧ bs.length = i ∧ bs.all id = true) ⟨[], same_upd hD, upd_same, rfl, rfl⟩ ?_ ?_⟩
      · rintro i H2 hi ⟨bs, sm, hDl, rfl, hal⟩
        have hi' : bs.length < ds.length := by omega
        obtain ⟨v1, d1, e1, e2, r1⟩ := rp.get bs.length hi'
        obtain ⟨v2, d2, e3, e4, r2⟩ := rq.get bs.length hi'
        have ed : d2 = d1 := Option.some.inj (e4.symm.trans e2)
        subst ed
        refine ⟨rfl, ?_⟩
        refine ⟨.ref p, rfl, .int (0 + (bs.length : Int)), rfl, .inl ⟨p, xs, _, v1, rfl, rfl, SqL.of (sm _ _ hp), at_of (by omega) e1, .ref r, rfl, .int (0 + (bs.length : Int)), rfl, .inl ⟨r, ys, _, v2, rfl, rfl, SqL.of (sm _ _ hq), at_of (by omega) e3, ?_⟩⟩⟩
        refine hR m rfl _ _ _ _ ⟨v1, v2, d2, rfl, r1.same sm, r2.same sm, fun H3 s3 => ?_⟩
        refine ⟨bs.map V.bl, s3 _ _ hDl, sz_lt (by rw [List.length_map]; omega), bs ++ [true], fun b o e => ?_, ?_, by rw [List.length_append]; rfl, by rw [List.all_append, hal]; rfl⟩
        · rw [upd_ne (ne_of_none e hD)]
          exact s3 _ _ (sm _ _ e)
        · rw [upd_same, List.map_append]
          rfl
      · rintro H2 ⟨bs, sm, hDl, _, hal⟩
        refine ⟨D, bs, rfl, SqL.of hDl, ?_⟩
        rw [hal]
        exact q H2 sm
    | @tup m p xs ds hp lp rp =>
      cases hb with
      | @tup _ r ys _ hq lq rq =>
      have lx : xs.length = ds.length := rp.length
      have ly : ys.length = ds.length := rq.length
      refine ⟨.ref r, rfl, rfl, _, rfl, isn_no (by intro z; cases z) ?_⟩
      refine ⟨.ref r, rfl, _, _, _, _, false, rfl, ClsV.ty _, TyX.base (TyOf.tup hq), kit_ty (by decide +kernel), _, rfl, iteF ?_⟩
      refine ⟨.ref r, rfl, _, _, _, _, false, rfl, ClsV.ty _, TyX.base (TyOf.tup hq), kit_ty (by decide +kernel), _, rfl, iteF ?_⟩
      refine ⟨.ref r, rfl, _, _, _, _, false, rfl, ClsV.ty _, TyX.base (TyOf.tup hq), kit_ty (by decide +kernel), _, rfl, iteF ?_⟩
      refine ⟨.ref r, rfl, _, _, _, _, true, rfl, ClsV.ty _, TyX.base (TyOf.tup hq), kit_ty (by decide +kernel), .ref p, rfl, _, _, _, _, true, rfl, ClsV.ty _, TyX.base (TyOf.tup hp), kit_ty (by decide +kernel), rfl, _, rfl, iteNS rfl ?_⟩
      refine ⟨.ref r, rfl, _, _, _, _, false, rfl, ClsV.ty _, TyX.base (TyOf.tup hq), kit_ty (by decide +kernel), .ref p, rfl, _, _, _, _, false, rfl, ClsV.ty _, TyX.base (TyOf.tup hp), kit_ty (by decide +kernel), rfl, _, rfl, iteNS rfl ?_⟩
      refine ⟨.ref p, rfl, p, xs, rfl, .inr (SqT.of hp), .ref r, rfl, r, ys, rfl, .inr (SqT.of hq), rfl, _, rfl, iteNS (by rw [lx, ly]) ?_⟩
      refine ⟨.ref r, rfl, r, ys, rfl, .inr (SqT.of hq), _, rfl, (by have := lq; omega), (by have := lq; omega), fun D hD => lc_range (lo := 0) (n := ((ys.length : Int)).toNat) (fun i H2 => ∃ bs : List Bool, Same H H2 ∧ H2 D = some (.lst (bs.map V.bl)) ∧ bs.length = i ∧ bs.all id = true) ⟨[], same_upd hD, upd_same, rfl, rfl⟩ ?_ ?_⟩
      · rintro i H2 hi ⟨bs, sm, hDl, rfl, hal⟩
        have hi' : bs.length < ds.length := by omega
        obtain ⟨v1, d1, e1, e2, r1⟩ := rp.get bs.length hi'
        obtain ⟨v2, d2, e3, e4, r2⟩ := rq.get bs.length hi'
        have ed : d2 = d1 := Option.some.inj (e4.symm.trans e2)
        subst ed
        refine ⟨rfl, ?_⟩
        refine ⟨.ref p, rfl, .int (0 + (bs.length : Int)), rfl, .inr <| .inl ⟨p, xs, _, v1, rfl, rfl, SqT.of (sm _ _ hp), at_of (by omega) e1, .ref r, rfl, .int (0 + (bs.length : Int)), rfl, .inr <| .inl ⟨r, ys, _, v2, rfl, rfl, SqT.of (sm _ _ hq), at_of (by omega) e3, ?_⟩⟩⟩
        refine hR m rfl _ _ _ _ ⟨v1, v2, d2, rfl, r1.same sm, r2.same sm, fun H3 s3 => ?_⟩
        refine ⟨bs.map V.bl, s3 _ _ hDl, sz_lt (by rw [List.length_map]; omega), bs ++ [true], fun b o e => ?_, ?_, by rw [List.length_append]; rfl, by rw [List.all_append, hal]; rfl⟩
        · rw [upd_ne (ne_of_none e hD)]
          exact s3 _ _ (sm _ _ e)
        · rw [upd_same, List.map_append]
          rfl
      · rintro H2 ⟨bs, sm, hDl, _, hal⟩
        refine ⟨D, bs, rfl, SqL.of hDl, ?_⟩
        rw [hal]
        exact q H2 sm
theorem ok_like {f : Addr} {fd : FuncData} (D : DefAt K mg "_law_like" s_like P_like f fd) (B : Bn mg) : ∀ n : Nat, FnOk P w K mg base CX0 (n + 1) f fd P_like (spLike n)
  | 0 => like_step D B ok_bot fun m e => absurd e (by omega)
  | n + 1 => like_step D B (ok_like D B n) fun m e vs H Q E h => by
    have e : m = n := by omega
    subst e
    exact h
end

/-! ### rules of my own: a value in an f-string, a def read off its class -/
section
open PySem.Spec PyProof.Rows
variable {X : Cx}
def tFmtV (te : TE) : TE := fun σ H Q => te σ H fun x H1 => (∃ i : Int, x = .int i ∧ i.natAbs.log2 < 1920 ∧ Q (.str (toString i)) H1) ∨ (∃ b : Bool, x = .bl b ∧ Q (.str (if b then "True" else "False")) H1)
theorem pe_fmtV {e : Expr} {te : TE} {pos : Pos} (he : PE X e te) : PE X (.FormattedValue e (-1) none pos) (tFmtV te) := by
  refine ⟨fun pins s σ H Q I h => ?_⟩
  refine wpAny_FormattedValue_plain (thn (he.run pins s σ H _ I h) fun v s1 hv => ?_)
  obtain ⟨x, H1, I1, r1, q⟩ := hv
  rcases q with ⟨i, rfl, hz, q⟩ | ⟨b, rfl, q⟩
  · obtain ⟨t, rfl⟩ := r1
    exact wpAny_formatField_int hz ⟨.str (toString i), H1, I1.tok _, ⟨_, rfl⟩, q⟩
  · cases (show v = Value.bool b from r1)
    exact wpAny_formatField_bool ⟨.str (if b then "True" else "False"), H1, I1.tok _, ⟨_, rfl⟩, q⟩
/-- what the written part says of a class's own def, read off the class -/
structure ClsFn (K : PySem.W.Frag) (C : Addr) (m : Str) (f : Addr) : Prop where
  sp : PySem.W.specialIn K (.ref C) "__getattribute__" = some (some (.builtin "type.__getattribute__"))
  rd : PySem.W.readsIn K C (.type "type") = true
  fc : PySem.W.findCls K (.ref C) (.type "type") m = some (.val (.ref f))
  kp : PySem.W.keepIn K (.ref f) = true
theorem pe_clsfn {CX : CXT} {k : Nat} {f C : Addr} {fd : FuncData} {ps : List Str} {sp : Sp} {E : XK} {x m : Str} {p1 p2 pos : Pos} {e : Expr} {es : List Expr} {t : TA} {pl : Sem Bool} (hg : Gl X x) (hm : X.mg x = some (.ref C)) (T : ClsFn X.K C m f)
    (F : FnOk X.prog X.w X.K X.mg X.base CX k f fd ps sp) (hr : Room k X.A) (hb : Binds X.K fd ps []) (hx : Passes CX X E) (ha : PA X (e :: es) t)
    (hc : eval (.Call (.Attribute (.Name x p1) m p2) (e :: es) [] pos) X.env = (do
      let ov ← eval (.Name x p1) X.env
      standAt p2.atName
      let (f, first) ← holding [ov] (getMethod ov m pl)
      callWith pos f first (backTo pos (starEach (e :: es) X.env)) (backToKw pos (keywordEach [] X.env))) := by rfl)
    (hdb : (x == ("__debug__" : Str)) = false := by decide) (he : starEach (e :: es) X.env = (false, eval e X.env) :: starEach es X.env := by rfl) (hpl : (backTo pos (starEach es X.env)).any (·.1) = false := by rfl) :
    PE X (.Call (.Attribute (.Name x p1) m p2) (e :: es) [] pos) (tCall sp [] E t) := by
  refine ⟨fun pins s σ H Q I h => ?_⟩
  refine PySem.W.methodCall_KW (ld_glob I hg hm ?_ hdb) hc
  refine PySem.W.method_cls I.kIn T.sp (PySem.W.cls_value I.kIn T.rd T.fc rfl ?_)
  show wpAny _ _ (callWith pos (Value.ref f) [] (backTo pos (starEach (e :: es) X.env)) []) _ _ _
  refine PySem.W.callWith_K (h₀ := X.base) I.ok.mod.kin T.kp (thn (ha.run pos pins _ σ H _ (I.tok _) h) fun us s1 ⟨vs, H1, I1, r, q⟩ => ⟨I1.kIn, ?_⟩) he hpl
  exact run_fn F hr hb (.nil) hx I1 r q
end

/-! ### FarError.__init__ -/
def FV (x : V) : Prop := (∃ i : Int, x = .int i ∧ i.natAbs.log2 < 1920) ∨ ∃ b : Bool, x = .bl b
theorem FV.go {x : V} {H : Hp} {Q : V → Hp → Prop} (h : FV x) (q : ∀ y : Str, y.length ≤ 1921 → Q (.str y) H) : (∃ i : Int, x = .int i ∧ i.natAbs.log2 < 1920 ∧ Q (.str (toString i)) H) ∨ (∃ b : Bool, x = .bl b ∧ Q (.str (if b then "True" else "False")) H) := by
  rcases h with ⟨i, e, hi⟩ | ⟨b, e⟩
  · exact .inl ⟨i, e, hi, q _ (PyProof.Rows.int_text_len_1921 hi)⟩
  · exact .inr ⟨b, e, q _ (by cases b <;> decide +kernel)⟩
theorem fmtV_at {i : Nat} {x : V} {σ : L2.St} {H : Hp} {Q : VK} (hs : σ[i]? = some (some x)) (h : FV x) (q : ∀ y : Str, y.length ≤ 1921 → Q (.str y) H) : tFmtV (tVar i) σ H Q := ⟨x, hs, FV.go (Q := Q) h q⟩
theorem app_fits {a b : Str} {n m : Nat} (ha : a.length ≤ n) (hb : b.length ≤ m) : (a ++ b).length ≤ n + m := by
  rw [Str.length_append]
  omega
theorem fits_of {a : Str} {n : Nat} (ha : a.length ≤ n) (h : n ≤ 100000) : a.length ≤ sizeLine := Nat.le_trans ha (Nat.le_trans h (by decide))
abbrev s_farinit : Stmt := inClass (top 1) 0
abbrev N_farinit : List Str := ["self", "why"]
theorem sc_farinit : FnScope N_farinit N_farinit (defScope s_farinit) := ⟨rfl, rfl, rfl, by decide +kernel, rfl, by decide +kernel, by decide +kernel⟩
def spFarInit (K : PySem.W.Frag) : Sp := fun vs H Q _ => ∃ (a C : Addr) (y : Str), vs = [.ref a, .str y] ∧ OexC K C ∧ PySem.W.findIn K (.ref C) "word" = some none ∧ H a = some (exo a C none) ∧
  ∀ dx, H dx = none → dx ≠ a → Q .non (upd (upd H dx (exd dx [("word", .str "FarError")])) a (exo a C (some dx)))
section
variable {P : Program} {w : World} {K : PySem.W.Frag} {mg : Str → Option Value} {base : Heap}
theorem ok_farinit {f : Addr} {fd : FuncData} (F : FunD K "__init__" "FarError.__init__" (defArgs s_farinit) (defBody s_farinit) (defScope s_farinit) [.str ""] [] f fd) (mV : mg "ValueError" = none)
    (vV : PySem.W.findCls K (.type "ValueError") (.type "type") "__init__" = some (.val (.builtin "ValueError.__init__"))) : FnOk P w K mg base CX0 1 f fd N_farinit (spFarInit K) := by
  refine F.ok sc_farinit (fun vs H Q E h => ?_) (fun cdv A outer s H vs Q E hr h => ?_)
  · obtain ⟨a, C, y, rfl, _⟩ := h
    rfl
  · obtain ⟨a, C, y, rfl, T, hw, ha, q⟩ := h
    refine ⟨_, pss_cons (ps_expr (pe_veinit (by rfl) mV vV (pa_cons (pv 0) (pa_cons (pv 1) pa_nil)))) (pss_one (ps_ost (pv 0) pe_str)), ?_⟩
    refine ⟨.ref a, rfl, .str y, rfl, a, C, [.str y], rfl, by show 1 ≤ 1000; decide, T, ha, ?_⟩
    exact ⟨.ref a, rfl, a, C, rfl, T, hw, .inl ⟨ha, fun dx n ne => q dx n ne⟩⟩
end
/-! ### an own error's __init__ of one field -/
/-- what the written part says of an error's class -/
structure ErrT (K : PySem.W.Frag) (C : Addr) : Prop where
  o : OexC K C
  w : PySem.W.findIn K (.ref C) "word" = some none

abbrev s_bninit : Stmt := inClass (top 2) 0
abbrev N_bninit : List Str := ["self", "number"]
theorem sc_bninit : FnScope N_bninit N_bninit (defScope s_bninit) := ⟨rfl, rfl, rfl, by decide +kernel, rfl, by decide +kernel, by decide +kernel⟩
def bnF (n : V) : List (Str × V) := [("word", .str "BadNumber"), ("number", n), ("word", .str "FarError")]
def spBnInit (K : PySem.W.Frag) : Sp := fun vs H Q _ => ∃ (a C : Addr) (n : V), vs = [.ref a, n] ∧ FV n ∧ ErrT K C ∧ PySem.W.findIn K (.ref C) "number" = some none ∧ H a = some (exo a C none) ∧
  ∀ (H' : Hp) (dx : Addr), H dx = none → H' a = some (exo a C (some dx)) → H' dx = some (exd dx (bnF n)) → (∀ b o, b ≠ a → H b = some o → H' b = some o) → Q .non H'
section
variable {P : Program} {w : World} {K : PySem.W.Frag} {mg : Str → Option Value} {base : Heap}
theorem ok_bninit {f fF CF : Addr} {fd fdF : FuncData} (F : Fun K "__init__" "BadNumber.__init__" s_bninit f fd) (gF : mg "FarError" = some (.ref CF)) (TF : ClsFn K CF "__init__" fF) (bF : Binds K fdF N_farinit [])
    (GF : FnOk P w K mg base CX0 1 fF fdF N_farinit (spFarInit K)) : FnOk P w K mg base CX0 2 f fd N_bninit (spBnInit K) := by
  refine F.ok sc_bninit (fun vs H Q E h => ?_) (fun cdv A outer s H vs Q E hr h => ?_)
  · obtain ⟨a, C, n, rfl, _⟩ := h
    rfl
  · obtain ⟨a, C, n, rfl, hn, T, hno, ha, q⟩ := h
    refine ⟨_, pss_cons (ps_expr (pe_clsfn (by rfl) gF TF GF hr bF pass0 (pa_cons (pv 0) (pa_cons (pe_joined (.cons pe_str (.cons (pe_fmtV (pv 1)) .nil))) pa_nil))))
      (pss_cons (ps_ost (pv 0) (pv 1)) (pss_one (ps_ost (pv 0) pe_str))), ?_⟩
    refine ⟨.ref a, rfl, _, rfl, fits_of (n := 100) (by decide +kernel) (by decide), ?_⟩
    refine fmtV_at (i := 1) rfl hn fun y hy => ?_
    refine ⟨y, rfl, fits_of (app_fits (n := 100) (by decide +kernel) hy) (by decide), ?_⟩
    refine ⟨a, C, _, rfl, T.o, T.w, ha, fun dx ndx ne => ?_⟩
    have e1 : (upd (upd H dx (exd dx [("word", .str "FarError")])) a (exo a C (some dx))) a = some (exo a C (some dx)) := upd_same
    have e2 : (upd (upd H dx (exd dx [("word", .str "FarError")])) a (exo a C (some dx))) dx = some (exd dx [("word", .str "FarError")]) := by rw [upd_ne ne, upd_same]
    refine ⟨n, rfl, .ref a, rfl, a, C, rfl, T.o, hno, .inr ⟨dx, _, e1, e2, by show 1 ≤ 900; decide, ?_⟩⟩
    refine ⟨.ref a, rfl, a, C, rfl, T.o, T.w, .inr ⟨dx, _, by rw [upd_ne ne.symm]; exact e1, upd_same, by show 2 ≤ 900; decide, ?_⟩⟩
    refine q _ dx ndx (by rw [upd_ne ne.symm, upd_ne ne.symm]; exact e1) upd_same fun b o nb hb => ?_
    have nbd : b ≠ dx := ne_of_none hb ndx
    rw [upd_ne nbd, upd_ne nbd, upd_ne nb, upd_ne nbd]
    exact hb
end

/-! ### try, the first of several named clauses takes the error -/
section
open PySem.Spec PyProof.Rows
def wFirst (K : PySem.W.Frag) (c : Value) (i : Nat) (ts : Addr → Value → Option Addr → TS) (D : Ends) : WX := fun k dd τ G =>
  PySem.W.exmOne K k c = some true ∧ ∀ z, G z = none → ts z k dd ⟨fun τ' G' => D.nx (τ'.set i none) G', D.rt, fun τ' G' => D.bk (τ'.set i none) G', fun τ' G' => D.ct (τ'.set i none) G'⟩ (τ.set i (some (.ref z))) G
variable {X : Cx}
theorem ps_try_first {x n : Str} {c : Value} {i : Nat} {bd su : List Stmt} {s0 : Stmt} {np q1 q2 : Pos} {more : List ExceptHandler} {tb : WX → TS} {ts : Addr → Value → Option Addr → TS}
    (stk : X.stack = X.env :: X.outer) (frm : X.env.frame = some X.env.locals) (nod : X.N.Nodup) (slot : X.N[i]? = some n) (loc : X.env.kindOf n = some .local) (nam : Names X x c)
    (run : ∀ (W : WX) (pn : List (Addr × Obj)) (xe : Value → Shared → Prop), L2.Takes (X.tr pn xe) W → PassesOwn (model X.prog X.w) X.A X.env xe → PSs (X.tr pn xe) bd (tb W))
    (sui : ∀ (z : Addr) (oz : Obj) (k : Value) (dd : Option Addr) (pn : List (Addr × Obj)), Zc k dd oz → (∃ vs, oz.data = .fields vs) → PSs (X.suite z ((z, oz) :: pn)) (s0 :: su) (ts z k dd)) :
    PS X (.Try bd (.ExceptHandler (some (.Name x np)) (some n) (s0 :: su) q2 :: more) [] [] q1) (fun D τ G => tb (wFirst X.K c i ts D) D τ G) := by
  refine ⟨fun pins st τ G D I want => ?_⟩
  have okX := I.ok
  have frames : X.A.frames = some (X.env :: X.outer) := (okX.frames).trans (congrArg some stk)
  refine wpAny_Try_except (wpAny_mono ((run (wFirst X.K c i ts D) (X.pn ++ pins) (fun er s1 => wpAny (model X.prog X.w) X.A (noteFrame er X.env) (fun _ s2 => wpAny (model X.prog X.w) X.A (setFlight er none)
    (fun _ s3 => wpAny (model X.prog X.w) X.A (handleBy er X.env (.ExceptHandler (some (.Name x np)) (some n) (s0 :: su) q2 :: more)) (SP X pins D) X.xe s3) X.xe s2) X.xe s1) (fun er s' flown => ?_) PassesOwn.looking).run [] st τ G D (I.toTry _) want) (fun fl s1 done => ?_) (fun _ _ z => z))
  · obtain ⟨z, Bq, sI, pins', τ', G', k, dd, rfl, Jt, nb, up, sky, nz, osq, bare, hit, go⟩ := flown
    have J : Inv X pins τ' G' sI := Jt.ofTry okX
    have sky2 : Sky Bq (X.env :: X.outer) z (Zc k dd) X.env.locals s'.heap := stk ▸ sky
    show wpAny (model X.prog X.w) X.A (noteFrame (.ref z) X.env) _ _ _
    refine Sky.land Zc.steady frames frm sky2 fun g3 fly3 up3 => ?_
    have J3 : Inv X pins τ' G' { s' with heap := g3 } := J.landed nb fly3.1 (up.trans up3) osq bare
    obtain ⟨o3, v3, get3, zc3, dat3⟩ := fly3.there
    have offFr : z ∉ frs (X.env :: X.outer) := fun mem => by
      obtain ⟨_, o', got, nof⟩ := fly3.2.2.1.mem mem
      rw [get3] at got
      cases got
      exact nof _ dat3
    have offL : z ≠ X.env.locals := fun e => offFr (List.mem_filterMap.mpr ⟨X.env, List.mem_cons_self, frm.trans (congrArg some e.symm)⟩)
    have offF : z ∉ X.fs := fun mem => by
      obtain ⟨ev, hev, qe⟩ := List.mem_filterMap.mp mem
      exact offFr (List.mem_filterMap.mpr ⟨ev, List.mem_cons_of_mem _ hev, qe⟩)
    have S3 := J3.suite get3 dat3 nz offL offF
    have ty : PySem.W.Looks (model X.prog X.w) g3 (typeOf (.ref z)) k := fun A' Q' E' sx kx qx => wpAny_typeOf_ref (kx _ _ get3) (zc3.1.symm ▸ qx)
    have mat := PySem.W.exm_one (M := model X.prog X.w) J3.kIn ty hit
    have named : ∀ {Q' : Value → Shared → Prop} {E' : Value → Shared → Prop}, Q' c { s' with heap := g3 } → wpAny (model X.prog X.w) (X.A.mark (some (.ref z))) (eval (.Name x np) X.env) Q' E' { s' with heap := g3 } := fun qc => by
      obtain ⟨g0, dbg, m0 | ⟨m0, v0, n0⟩⟩ := nam
      · exact ld_glob (X := X.suite z ((z, o3) :: (X.pn ++ pins))) S3 g0 m0 qc dbg
      · exact ld_blt (X := X.suite z ((z, o3) :: (X.pn ++ pins))) S3 g0 m0 v0 qc n0 dbg
    refine wpAny_handleBy_cons (codeAny_handlers_test (named (mat.here ?_))) (fun qq => by cases qq)
    refine codeAny_handlers_suite_as (HandSPX.lands_againZ fly3 fun g4 fly4 up4 => ?_)
    have J4 : Inv X pins τ' G' { s' with heap := g4 } := J.landed nb fly4.1 ((up.trans up3).trans up4) osq bare
    obtain ⟨o4, v4, get4, zc4, dat4⟩ := fly4.there
    have S4 := J4.suite get4 dat4 nz offL offF
    refine store_ok (X := X.suite z ((z, o4) :: (X.pn ++ pins))) (v := .ref z) S4 nod slot (.inl loc) rfl (fun s5 S5 => ?_) (.inr loc)
    refine wpAny_mono ((sui z o4 k dd (X.pn ++ pins) zc4 ⟨_, dat4⟩).run [] s5 _ G' _ S5 (go z nz)) (fun fl s6 done => ?_) (fun _ _ bad => bad.elim)
    have gone : ∀ {τ6 : L2.St} {G6 : Hp} {R : Shared → Prop}, Inv (X.suite z ((z, o4) :: (X.pn ++ pins))) [] τ6 G6 s6 → (∀ s7, Inv X pins (τ6.set i none) G6 s7 → R s7) →
        wpAny (model X.prog X.w) X.A (do bindName X.env n .none; unbindBehindTheSuite X.env n q2) (fun _ s7 => R s7) X.xe s6 := fun S6 hq => gone_ok (S6.unsuite okX) nod slot loc hq
    cases fl with
    | next =>
      obtain ⟨τ6, G6, S6, q6⟩ := done
      exact gone S6 fun s7 J7 => ⟨_, _, J7, q6⟩
    | brk =>
      obtain ⟨τ6, G6, S6, q6⟩ := done
      exact gone S6 fun s7 J7 => ⟨_, _, J7, q6⟩
    | cont =>
      obtain ⟨τ6, G6, S6, q6⟩ := done
      exact gone S6 fun s7 J7 => ⟨_, _, J7, q6⟩
    | ret u =>
      obtain ⟨v6, τ6, G6, S6, r6, q6⟩ := done
      exact gone S6 fun s7 J7 => ⟨_, _, _, J7, r6, q6⟩
  · cases fl with
    | next =>
      obtain ⟨τ1, G1, J1, q⟩ := done
      exact wpAny_execs_nil ⟨τ1, G1, J1.ofTry okX, q⟩
    | brk =>
      obtain ⟨τ1, G1, J1, q⟩ := done
      exact ⟨τ1, G1, J1.ofTry okX, q⟩
    | cont =>
      obtain ⟨τ1, G1, J1, q⟩ := done
      exact ⟨τ1, G1, J1.ofTry okX, q⟩
    | ret u =>
      obtain ⟨v1, τ1, G1, J1, r, q⟩ := done
      exact ⟨v1, τ1, G1, J1.ofTry okX, r, q⟩
end

/-! ### an error that is held, looked at by a def -/
section
open PySem.Spec PyProof.Rows PySem.W PySem.Calls
variable {prog : Program} {w : World} {A : Around} {E : Value → Shared → Prop} {st : Shared} {K : Frag} {z C : Addr} {oz : Obj} {oo : Option Obj}
theorem own_class {Q : Option Value → Shared → Prop} (T : ExcC K C) (KI : K.In st.heap) (I : InstAt st.heap z oz C oo) (want : Q (some (.ref C)) { st with toks := st.toks + 1 }) : wpAny (model prog w) A (getAttr? (.ref z) "__class__") Q E st := by
  obtain ⟨cdx, hcdx, _⟩ := any_some T.hd
  have found : findObj K C oo "__class__" = some (.bind (.builtin "getset_descriptor.__get__") (.builtin "object.__class__")) := by
    unfold findObj
    rw [hcdx, Option.bind_some, T.ha, Option.bind_some]
    simp [T.hn, T.ht]
  obtain ⟨hq, gq, dq, tq, oq⟩ := st
  have k0 := I.type (M := model prog w)
  have k1 := looks_findIn (M := model prog w) KI T.hg
  have k2 := looks_findIn (M := model prog w) KI T.hk
  have k3 := looks_find (M := model prog w) KI I found
  have kb : Looks (model prog w) hq (isInstance (.ref z) (.type "BaseException")) true := k0.andThen (looks_subIn KI T.hs)
  have not2 : (Value.builtin "BaseException.__getattribute__" == Value.builtin "object.__getattribute__") = false := by decide +kernel
  have not1 : (onTheHeap (Value.ref C) && Value.builtin "BaseException.__getattribute__" == Value.builtin "object.__getattribute__") = false := by rw [not2] <;> rfl
  unfold getAttr? getAttrBy? getAttrBy
  refine wpAny_bind (wpAny_mkText (wpAny_bind (wpAny_attempt (wpAny_holding (wpAny_bind (k0.at (wpAny_bind (k1.at ?_))))))))
  show wpAny _ _ (if (onTheHeap (Value.ref C) && Value.builtin "BaseException.__getattribute__" == Value.builtin "object.__getattribute__") = true then _ else _) _ _ _
  rw [not1, if_neg Bool.false_ne_true]
  unfold getAttrByItsOwn hookBefore
  refine wpAny_bind ?_
  rw [if_pos (show onTheHeap (Value.ref C) = true from rfl)]
  refine k2.at (wpAny_bind (wpAny_attempt (wpAny_holding ?_)))
  unfold callGetattribute
  rw [show (false && onTheHeap (Value.builtin "BaseException.__getattribute__")) = false from rfl, if_neg Bool.false_ne_true]
  unfold boundAndCalled
  rw [PySem.F.excAttr_ValueError.ga.bind (.ref z)]
  refine wpAny_bind (wpAny_pure ?_)
  show wpAny _ _ (call (.builtin "BaseException.__getattribute__") [.ref z, .str "__class__" tq]) _ _ _
  refine wpAny_call (codeAny_call_builtin PySem.F.excAttr_ValueError.ga.plain PySem.F.entry_bexc_ga ?_)
  refine @check_slot (model prog w) _ _ ⟨hq, gq, dq, tq + 1, oq⟩ "BaseException.__getattribute__" "BaseException" "__getattribute__" (.ref z) [.str "__class__" tq] [] _ (by decide +kernel) (by decide +kernel) kb (PySem.F.args_bexc_ga (.ref z) (.str "__class__" tq)) ?_
  unfold Builtin.«object.__getattribute__»
  refine wpAny_bind (wpAny_of_eq (a := ((Value.ref z : Value), [Value.str "__class__" tq])) (by first | rfl | (simp only [slotArgs]; rfl)) ?_)
  refine wpAny_bind (wpAny_pure (wpAny_bind (k0.at (wpAny_bind (k3.at ?_)))))
  show wpAny _ _ (holding [Value.builtin "object.__class__"] (call (.builtin "getset_descriptor.__get__") [.builtin "object.__class__", .ref z, .ref C]) >>= ret) _ _ _
  refine wpAny_bind (wpAny_holding (wpAny_call (class_get (s := ⟨hq, gq, dq, tq + 1, oq⟩) (ox := oz) (od := oo) KI I T.hm (wpAny_pure ?_))))
  show wpAny _ _ (handedOut (.ref C)) _ _ _
  rw [handedOut_of (v := .ref C) rfl]
  first
    | exact wpAny_pure (wpAny_pure want)
    | exact wpAny_pure want
    | exact wpAny_pure (wpAny_bind (wpAny_pure (wpAny_pure want)))
theorem own_kit (T : ExcC K C) : KitX K (.ref z) (.ref C) (fun h => InstAt h z oz C oo) where
  ty := fun _ _ _ I => I.type
  it := fun _ _ KI _ => by
    obtain ⟨cdx, hcdx, _⟩ := any_some T.hd
    unfold clsIn at hcdx
    split at hcdx
    · rename_i c1 d1 cd1 sl1 got
      intro A' Q' E' s' kp qq
      unfold isType loadHead
      exact wpAny_bind (wpAny_loadPart (kp _ _ (KI _ _ got)) (wpAny_pure qq))
    · cases hcdx
  ne := fun h tp dd its n sl KI htp => by
    obtain ⟨cdx, hcdx, _⟩ := any_some T.hd
    refine Bool.eq_false_iff.mpr fun same => ?_
    have e : C = tp := Value.ref.inj (beq_iff_eq.mp same)
    subst e
    unfold clsIn at hcdx
    split at hcdx
    · rename_i c1 d1 cd1 sl1 got
      have two := (KI _ _ got).symm.trans htp
      cases two
    · cases hcdx
  ca := fun KI I k => own_class T KI I k
end
/-- the error at p.1 is one of the class at C, its dict stands at dd with the fields fs -/
structure Held (p : Addr × Obj) (C dd : Addr) : Prop where
  z : Zc (.ref C) (some dd) p.2
  f : ∃ vs, p.2.data = .fields vs
section
open PySem.Spec PyProof.Rows
variable {X : Cx} {p : Addr × Obj} {C dd : Addr}
theorem Held.inst {pins : List (Addr × Obj)} {σ : L2.St} {H : Hp} {s : Shared} {fs : List (Str × V)} (h : Held p C dd) (hp : p ∈ X.pn) (I : Inv X pins σ H s) (hd : H dd = some (.xd fs)) :
    ∃ (od : Obj) (mA : Str → Option Value), PySem.W.InstAt s.heap p.1 p.2 C (some od) ∧ (∀ n, PySem.W.lookIn n od = some (mA n)) ∧ ∀ f, RelO (fs.lookup f) (mA f) := by
  obtain ⟨got, _⟩ := I.pin p (List.mem_append_left _ hp)
  obtain ⟨vs, dat⟩ := h.f
  obtain ⟨mA, hns, rel⟩ := (show ObjOk X.prog X.w H s.heap dd (.xd fs) from I.hok dd _ hd)
  obtain ⟨od, ho, hl⟩ := lookIn_ns hns
  exact ⟨od, mA, ⟨got, h.z.1, by unfold PySem.W.notCls; rw [dat] <;> rfl, by rw [h.z.2]; exact ho⟩, hl, rel⟩
/-- e.f, e the held error -/
def tHeldF (p : Addr × Obj) (dd : Addr) (f : Str) (te : TE) : TE := fun σ H Q => te σ H fun x H1 => x = .ref p.1 ∧ ∃ (fs : List (Str × V)) (v : V), H1 dd = some (.xd fs) ∧ fs.lookup f = some v ∧ Q v H1
theorem pe_heldf {e : Expr} {te : TE} {pos : Pos} {n : Str} (h : Held p C dd) (hp : p ∈ X.pn) (T : XfC X.K C) (hno : PySem.W.findIn X.K (.ref C) n = some none) (he : PE X e te) (hb : attributeBase e n X.env (eval e X.env) = eval e X.env := by rfl) :
    PE X (.Attribute e n pos) (tHeldF p dd n te) := by
  refine ⟨fun pins s σ H Q I q => ?_⟩
  refine attr_of hb (thn (he.run pins s σ H _ I q) fun u s1 got => ?_)
  obtain ⟨x, H1, I1, rx, rfl, fs, v, hd, l, q1⟩ := got
  obtain rfl : u = Value.ref p.1 := rx
  obtain ⟨od, mA, J, hl, rel⟩ := h.inst hp I1 hd
  obtain ⟨y, hy, ry⟩ := RelO.some_of (v := v) (o := mA n) (by rw [← l]; exact rel n)
  exact HandSPX.exc_get I1.kIn J T.ga T.gg T.exC (PySem.W.findObj_own T.hdC hno rfl (by rw [hl, hy])) (handed_of ry) ⟨v, H1, I1.tok _, ry, q1⟩
/-- isinstance(e, (c, ..)) and isinstance(e, c), e the held error -/
def rHeldT (K : PySem.W.Frag) (p : Addr × Obj) (C dd : Addr) : List V → Hp → VK → Prop := fun xs H Q => ∃ (tp : Addr) (cs : List V) (us : List Value) (b : Bool) (fs : List (Str × V)), xs = [.ref p.1, .ref tp] ∧ H tp = some (.tup cs) ∧ Paired ClsV cs us ∧ PySem.W.kitAny K (.ref C) us = some b ∧ H dd = some (.xd fs) ∧ Q (.bl b) H
theorem call_heldT (h : Held p C dd) (hp : p ∈ X.pn) (T : ExcC X.K C) : CallR X (.builtin "isinstance") (rHeldT X.K p C dd) := by
  intro pins s σ H xs us Q I r q
  obtain ⟨tp, cs, ws, b, fs, rfl, hT, pr, ka, hd, q1⟩ := q
  obtain ⟨u1, u2, rfl, r1, r2⟩ := vals2 r
  cases (show u1 = Value.ref p.1 from r1)
  cases (show u2 = Value.ref tp from r2)
  obtain ⟨od, mA, J, _, _⟩ := h.inst hp I hd
  obtain ⟨_, its, rv, o, h1, h2, n, h3⟩ := (show ObjOk X.prog X.w H s.heap tp (.tup cs) from I.hok tp _ hT)
  have e3 := ClsV.all pr rv
  subst e3
  obtain ⟨oc, od', dt, sl⟩ := o
  simp only at h2 h3
  subst h2 h3
  exact PySem.W.kia_tup (own_kit (oz := p.2) (oo := some od) T) I.kIn J h1 ka (fun e => nomatch e) fun tk => ⟨.bl b, H, I.tok tk, rfl, q1⟩
def rHeld1 (K : PySem.W.Frag) (p : Addr × Obj) (C dd : Addr) : List V → Hp → VK → Prop := fun xs H Q => ∃ (D : Addr) (b : Bool) (fs : List (Str × V)), xs = [.ref p.1, .ref D] ∧ PySem.W.kitOne K (.ref C) (.ref D) = some b ∧ H dd = some (.xd fs) ∧ Q (.bl b) H
theorem call_held1 (h : Held p C dd) (hp : p ∈ X.pn) (T : ExcC X.K C) : CallR X (.builtin "isinstance") (rHeld1 X.K p C dd) := by
  intro pins s σ H xs us Q I r q
  obtain ⟨D, b, fs, rfl, ka, hd, q1⟩ := q
  obtain ⟨u1, u2, rfl, r1, r2⟩ := vals2 r
  cases (show u1 = Value.ref p.1 from r1)
  cases (show u2 = Value.ref D from r2)
  obtain ⟨od, mA, J, _, _⟩ := h.inst hp I hd
  exact PySem.W.kia_one (own_kit (oz := p.2) (oo := some od) T) I.kIn J ka (fun e => nomatch e) fun tk => ⟨.bl b, H, I.tok tk, rfl, q1⟩
end
/-! ### a def called on a held error -/
structure FnP (P : Program) (w : World) (K : PySem.W.Frag) (mg : Str → Option Value) (base : Heap) (p : Addr × Obj) (k : Nat) (f : Addr) (fd : FuncData) (ps : List Str) (sp : Sp) : Prop where
  len : ∀ vs H Q E, sp vs H Q E → vs.length = ps.length
  go : ∀ (A : Around) (outer : List Env) (s : Shared) (H : Hp) (args : Args) (us : List Value) (vs : List V) (Q : VK) (E : XK), L2H.RoomH k A → L2H.PinOk outer H s p → Env0 P w K mg base A outer s H → BindsTo s fd args (ps.zip us) → Vals vs us → sp vs H Q E →
    codeAny (model P w) A (.call (.ref f) args) (CR CX0 outer P w H s Q E) s
section
open PySem.Spec PyProof.Rows
variable {P : Program} {w : World} {K : PySem.W.Frag} {mg : Str → Option Value} {base : Heap}
theorem Fun.okP {x qual : Str} {st : Stmt} {f : Addr} {fd : FuncData} {N ps : List Str} {k : Nat} {sp : Sp} {p : Addr × Obj} (F : Fun K x qual st f fd) (S : FnScope N ps (defScope st)) (len : ∀ vs H Q E, sp vs H Q E → vs.length = ps.length)
    (hbody : ∀ (cdv : Value) (A : Around) (outer : List Env) (s : Shared) (H : Hp) (vs : List V) (Q : VK) (E : XK), L2H.RoomH k (A.deeper (envOfC qual (defScope st) s.heap.objs.size f cdv)) → sp vs H Q E →
      ∃ t, PSs (L2H.cxH CX0 P w K mg base N qual (defScope st) f cdv A outer s H E p) (defBody st) t ∧ t { nx := fun _ H' => Q .non H', rt := Q } (L2.start N vs) H) : FnP P w K mg base p (k + 1) f fd ps sp := by
  obtain ⟨oc, od, kV, doc, pm, an, cdv, ct, osl, rfl, lk, hcd⟩ := F.ex
  refine ⟨len, fun A outer s H args us vs Q E hr hpin e0 hb r hsp => ?_⟩
  have hlen := len _ _ _ _ hsp
  have keepB : ∀ b o, base.get? b = some o → s.heap.get? b = some o := fun b o e => (e0.bs b o e).1
  have KI : K.In s.heap := e0.mod.kin.keeps keepB
  have noLim : s.heap.NoLimit := e0.mod.nolimit.keeps keepB
  have kinds : ∀ y ∈ ps.zip us, (defScope st).names.lookup y.1 = some .local ∨ ((defScope st).names.lookup y.1 = some .cell ∧ ((cellsFrom (s.heap.objs.size + 1) (defScope st).names []).lookup y.1).isSome = true) := fun y hy =>
    (S.par y.1 (List.of_mem_zip (show (y.1, y.2) ∈ _ from hy)).1).imp id fun q => ⟨q, PySem.W.cellsFrom_some _ _ _ (.inl q)⟩
  refine codeAny_call_function hr.depth (KI _ _ lk) rfl S.co S.gen rfl (PySem.W.codeRec_of KI hcd) (hb _ _ _ _ (wpAny_newFunctionEnv_cells S.kind kinds fun env he s1 x1 => ?_))
  subst he
  refine ⟨noLim.keeps x1.toInCall.keep, codeAny_func ?_⟩
  obtain ⟨t, ht, hq⟩ := hbody cdv A outer s H vs Q E (hr.deeper _) hsp
  have I := L2H.inv_startH (CX := CX0) (P := P) (w := w) (K := K) (mg := mg) (base := base) (N := N) (qual := qual) (f := f) (cd := cdv) (E := E) S hpin e0 hlen r x1
  refine wpAny_mono (ht.run [] s1 _ H _ I hq) (fun fl s2 done => ?_) fun _ _ bad => bad
  cases fl with
  | ret u =>
    obtain ⟨v, τ, G, J, rv, q⟩ := done
    exact ⟨v, G, J.os, J.bare, J.base, J.hok, rv, q⟩
  | next =>
    obtain ⟨τ, G, J, q⟩ := done
    exact ⟨.non, G, J.os, J.bare, J.base, J.hok, rfl, q⟩
  | brk =>
    obtain ⟨_, _, _, q⟩ := done
    exact q.elim
  | cont =>
    obtain ⟨_, _, _, q⟩ := done
    exact q.elim
theorem pe_callP {X : Cx} {k : Nat} {f : Addr} {fd : FuncData} {ps : List Str} {sp : Sp} {p : Addr × Obj} {x : Str} {q pos : Pos} {e : Expr} {es : List Expr} {t : TA} (F : FnP X.prog X.w X.K X.mg X.base p k f fd ps sp) (hr : L2H.RoomH k X.A) (hp : p ∈ X.pn)
    (hg : Gl X x) (hm : X.mg x = some (.ref f)) (hk : PySem.W.keepIn X.K (.ref f) = true) (hb : Binds X.K fd ps []) (ha : PA X (e :: es) t)
    (hdb : (x == ("__debug__" : Str)) = false := by decide) (he : starEach (e :: es) X.env = (false, eval e X.env) :: starEach es X.env := by rfl) (hpl : (backTo pos (starEach es X.env)).any (·.1) = false := by rfl) :
    PE X (.Call (.Name x q) (e :: es) [] pos) (tCall sp [] E0 t) := by
  refine ⟨fun pins s σ H Q I h => ?_⟩
  refine wpAny_Call_Name_kw (ld_glob I hg hm ?_ hdb)
  refine PySem.W.callWith_K (h₀ := X.base) I.ok.mod.kin hk (thn (ha.run pos pins s σ H _ I h) fun us s1 got => ?_) he hpl
  obtain ⟨vs, H1, I1, r, want⟩ := got
  rw [List.append_nil] at want
  refine ⟨I1.kIn, ?_⟩
  have hl : us.length = ps.length := (r.length).symm.trans (F.len _ _ _ _ want)
  have bs := hb s1 us I1.kIn (by rw [List.append_nil]; exact hl)
  rw [List.append_nil] at bs
  obtain ⟨p1, p2, p3, p4, p5⟩ := I1.pin p (List.mem_append_left _ hp)
  refine wpAny_call (codeAny_mono (F.go X.A X.stack s1 H1 ⟨us, []⟩ us vs Q E0 hr ⟨p1, p2, fun mem => (List.mem_cons.mp (I1.stkSub p.1 mem)).elim p3 p4, p5⟩ I1.env0 bs r want) fun res s2 hq => ?_)
  cases res with
  | error er => exact (show False from hq).elim
  | ok fl =>
    cases fl with
    | ret u => exact I1.after hq
    | next => exact hq.elim
    | brk => exact hq.elim
    | cont => exact hq.elim
end

/-! ### what the written part says of BadNumber -/
structure BnT (K : PySem.W.Frag) (mg : Str → Option Value) (CF CB fI : Addr) (fdI : FuncData) : Prop where
  gF : mg "FarError" = some (.ref CF)
  gB : mg "BadNumber" = some (.ref CB)
  e : ErrT K CB
  x : XfC K CB
  c : ExcC K CB
  nN : PySem.W.findIn K (.ref CB) "number" = some none
  iC : PySem.W.findIn K (.ref CB) "__init__" = some (some (.ref fI))
  tI : PySem.W.typeIn K (.ref fI) = some (.type "function")
  bI : Binds K fdI N_bninit []
  m : PySem.W.exmOne K (.ref CB) (.ref CF) = some true
theorem bn_word (n : V) : (bnF n).lookup ("word" : Str) = some (.str "BadNumber") := by
  unfold bnF
  rw [lookup_put, if_pos rfl]
theorem bn_number (n : V) : (bnF n).lookup ("number" : Str) = some n := by
  unfold bnF
  rw [lookup_put, if_neg (by decide +kernel), lookup_put, if_pos rfl]
/-- BadNumber(x) raised, x a local -/
theorem bn_raise {K : PySem.W.Frag} {mg : Str → Option Value} {CF CB fI : Addr} {fdI : FuncData} {i : Nat} {σ : L2.St} {n : V} {H : Hp} {E : XK} (T : BnT K mg CF CB fI fdI) (hn : FV n) (hσ : σ[i]? = some (some n))
    (q2 : ∀ (H' : Hp) (d : Addr), Same H H' → H d = none → H' d = some (.xd (bnF n)) → E (.ref CB) (some d) H') : (tMkO CB (spBnInit K) [] (tCons (tVar i) tNil)) σ H (fun cls d H' => E cls d H') := by
  refine ⟨n, hσ, by show 1 ≤ 1000; decide, fun a na => ?_⟩
  refine ⟨a, CB, n, rfl, hn, T.e, T.nN, upd_same, fun H' dx ndx ea ed kp => ⟨rfl, dx, bnF n, ea, ed, ?_, ?_⟩⟩
  · exact (same_upd na).free ndx
  · have nda : dx ≠ a := fun e => by
      rw [e, upd_same] at ndx
      cases ndx
    refine q2 _ dx (fun b o hb' => ?_) ((same_upd na).free ndx) upd_same
    have nba : b ≠ a := ne_of_none hb' na
    have nbd : b ≠ dx := ne_of_none hb' ((same_upd na).free ndx)
    rw [upd_ne nbd, del_ne nba]
    exact kp b o nba (by rw [upd_ne nba]; exact hb')
/-! ### the bounds of numbers -/
def iv : V → Int
  | .int i => i
  | _ => 0
def goodB : V → Int → Bool
  | .int i, lo => decide (lo ≤ i)
  | _, _ => false
def bnd : List (V × Int) → Option V
  | [] => none
  | (x, lo) :: r => if goodB x lo = true then bnd r else some x
theorem bnd_bad {x : V} {lo : Int} {r : List (V × Int)} (h : goodB x lo = false) : bnd ((x, lo) :: r) = some x := by
  show (if goodB x lo = true then bnd r else some x) = some x
  rw [h, if_neg Bool.false_ne_true]
theorem bnd_good {x : V} {lo : Int} {r : List (V × Int)} (h : goodB x lo = true) : bnd ((x, lo) :: r) = bnd r := by
  show (if goodB x lo = true then bnd r else some x) = bnd r
  rw [h, if_pos rfl]
theorem goodB_of {x : V} {lo : Int} (h : goodB x lo = true) : ∃ i : Int, x = .int i ∧ lo ≤ i := by
  cases x with
  | int i => exact ⟨i, rfl, of_decide_eq_true h⟩
  | _ => cases h
theorem bnd_all : ∀ {l : List (V × Int)}, bnd l = none → ∀ p ∈ l, goodB p.1 p.2 = true
  | [], _, p, hp => by cases hp
  | (x, lo) :: r, h, p, hp => by
    cases e : goodB x lo with
    | false =>
      rw [bnd_bad e] at h
      cases h
    | true =>
      rw [bnd_good e] at h
      rcases List.mem_cons.mp hp with rfl | hp
      · exact e
      · exact bnd_all h p hp
abbrev s_need_from : Stmt := top 25
abbrev N_need_from : List Str := ["low", "number"]
abbrev P_need_from : List Str := ["low", "number"]
theorem sc_need_from : FnScope N_need_from P_need_from (defScope s_need_from) := ⟨rfl, rfl, rfl, by decide +kernel, rfl, by decide +kernel, by decide +kernel⟩
def spFrom (CB : Addr) : Sp := fun vs H Q E => ∃ (lo : Int) (n : V), vs = [.int lo, n] ∧ FV n ∧ (goodB n lo = true → Q .non H) ∧ (goodB n lo = false → ∀ (H' : Hp) (d : Addr), Same H H' → H d = none → H' d = some (.xd (bnF n)) → E (.ref CB) (some d) H')
section
variable {P : Program} {w : World} {K : PySem.W.Frag} {mg : Str → Option Value} {base : Heap}
theorem ok_from {f CF CB fI : Addr} {fd fdI : FuncData} (D : DefAt K mg "need_from" s_need_from P_need_from f fd) (B : Bn mg) (T : BnT K mg CF CB fI fdI)
    (GI : FnOk P w K mg base CX0 2 fI fdI N_bninit (spBnInit K)) : FnOk P w K mg base (L2.CX P w) 4 f fd P_need_from (spFrom CB) := by
  refine D.F.okX sc_need_from (fun vs H Q E h => ?_) (fun cdv A outer s H vs Q E hr h => ?_)
  · obtain ⟨lo, n, rfl, _⟩ := h
    rfl
  · obtain ⟨lo, n, rfl, hn, q1, q2⟩ := h
    refine ⟨_, (pss_one (ps_if (PW.pt (pw_or (pt_val (pe_callB call_isi (by rfl) B.isinstance (by decide +kernel) (pa_cons (pv 1) (pa_cons (pe_bltn (v := .ty "bool") (by rfl) B.bool (by decide +kernel) rfl) pa_nil)))) (pw_or1 (pt_cmpR op_lt (pv 1) (pv 0) (nomark _))))) (pss_one (ps_raise rfl (takes_of rfl rfl rfl rfl) (pmk_oex T.e.o T.iC T.tI GI (hr.mono (by omega)) T.bI .nil pass0 (by rfl) T.gB (pa_cons (pv 1) pa_nil)))) pss_nil)), ?_⟩
    rcases id hn with ⟨i, rfl, hi⟩ | ⟨b, rfl⟩
    · refine ⟨.int i, rfl, _, _, _, _, false, rfl, ClsV.ty _, TyX.base (TyOf.int _), kit_ty (by decide +kernel), _, rfl, ?_⟩
      refine ⟨.int i, rfl, .int lo, rfl, i, lo, rfl, rfl, _, rfl, ?_⟩
      refine ite2 (fun h0 => ?_) (fun h0 => ?_)
      · have h0' : i < lo := of_decide_eq_true h0
        exact bn_raise T hn rfl (q2 (decide_eq_false (by omega)))
      · have h0' : ¬ i < lo := fun z => h0 (decide_eq_true z)
        exact q1 (decide_eq_true (by omega))
    · refine ⟨.bl b, rfl, _, _, _, _, true, rfl, ClsV.ty _, TyX.base (TyOf.bl _), kit_ty (by decide +kernel), _, rfl, ?_⟩
      exact bn_raise T hn rfl (q2 rfl)
end
abbrev s_need_within : Stmt := top 26
abbrev N_need_within : List Str := ["low", "high", "number"]
abbrev P_need_within : List Str := ["low", "high", "number"]
theorem sc_need_within : FnScope N_need_within P_need_within (defScope s_need_within) := ⟨rfl, rfl, rfl, by decide +kernel, rfl, by decide +kernel, by decide +kernel⟩
def goodW : V → Int → Int → Bool
  | .int i, lo, hi => decide (lo ≤ i ∧ i ≤ hi)
  | _, _, _ => false
theorem goodW_of {x : V} {lo hi : Int} (h : goodW x lo hi = true) : ∃ i : Int, x = .int i ∧ lo ≤ i ∧ i ≤ hi := by
  cases x with
  | int i => exact ⟨i, rfl, of_decide_eq_true h⟩
  | _ => cases h
def spWithin (CB : Addr) : Sp := fun vs H Q E => ∃ (lo hi : Int) (n : V), vs = [.int lo, .int hi, n] ∧ FV n ∧ (goodW n lo hi = true → Q .non H) ∧ (goodW n lo hi = false → ∀ (H' : Hp) (d : Addr), Same H H' → H d = none → H' d = some (.xd (bnF n)) → E (.ref CB) (some d) H')
section
variable {P : Program} {w : World} {K : PySem.W.Frag} {mg : Str → Option Value} {base : Heap}
theorem ok_within {f fN CF CB fI : Addr} {fd fdN fdI : FuncData} (D : DefAt K mg "need_within" s_need_within P_need_within f fd) (D_need_from : DefAt K mg "need_from" s_need_from P_need_from fN fdN) (B : Bn mg) (T : BnT K mg CF CB fI fdI)
    (GI : FnOk P w K mg base CX0 2 fI fdI N_bninit (spBnInit K)) : FnOk P w K mg base (L2.CX P w) 5 f fd P_need_within (spWithin CB) := by
  have G_need_from : FnOk P w K mg base (L2.CX P w) 4 fN fdN P_need_from (spFrom CB) := ok_from D_need_from B T GI
  refine D.F.okX sc_need_within (fun vs H Q E h => ?_) (fun cdv A outer s H vs Q E hr h => ?_)
  · obtain ⟨lo, hi, n, rfl, _⟩ := h
    rfl
  · obtain ⟨lo, hi, n, rfl, hn, q1, q2⟩ := h
    refine ⟨_, (pss_cons (ps_expr (pe_call G_need_from (hr.mono (by omega)) (by rfl) D_need_from.g D_need_from.F.kp D_need_from.b .nil (passes_call (takes_of rfl rfl rfl rfl) fun _ _ _ _ h => h) (pa_cons (pv 0) (pa_cons (pv 2) pa_nil))))
      (pss_one (ps_if (pt_cmpR op_gt (pv 2) (pv 1) (nomark _)) (pss_one (ps_raise rfl (takes_of rfl rfl rfl rfl) (pmk_oex T.e.o T.iC T.tI GI (hr.mono (by omega)) T.bI .nil pass0 (by rfl) T.gB (pa_cons (pv 2) pa_nil)))) pss_nil))), ?_⟩
    refine ⟨.int lo, rfl, n, rfl, lo, n, rfl, hn, fun g0 => ?_, fun b0 => q2 ?_⟩
    · obtain ⟨i, rfl, i0⟩ := goodB_of g0
      refine ⟨.int i, rfl, .int hi, rfl, i, hi, rfl, rfl, _, rfl, ?_⟩
      refine ite2 (fun h => ?_) (fun h => ?_)
      · have h' : hi < i := of_decide_eq_true h
        exact bn_raise T hn rfl (q2 (decide_eq_false fun z => by omega))
      · have h' : ¬ hi < i := fun z => h (decide_eq_true z)
        exact q1 (decide_eq_true ⟨i0, by omega⟩)
    · cases n with
      | int i =>
        have b0' : ¬ lo ≤ i := of_decide_eq_false b0
        exact decide_eq_false fun z => b0' z.1
      | _ => rfl
end

abbrev s_need_length : Stmt := top 27
abbrev N_need_length : List Str := ["number"]
abbrev P_need_length : List Str := ["number"]
theorem sc_need_length : FnScope N_need_length P_need_length (defScope s_need_length) := ⟨rfl, rfl, rfl, by decide +kernel, rfl, by decide +kernel, by decide +kernel⟩
def goodLen (n : V) : Prop := ∃ i : Int, n = .int i ∧ 0 ≤ i ∧ i ≤ 1000000000000000000
def spNeed (CB : Addr) : Sp := fun vs H Q E => ∃ n : V, vs = [n] ∧ FV n ∧ (goodLen n → Q .non H) ∧ (¬ goodLen n → ∀ (H' : Hp) (d : Addr), Same H H' → H d = none → H' d = some (.xd (bnF n)) → E (.ref CB) (some d) H')
section
variable {P : Program} {w : World} {K : PySem.W.Frag} {mg : Str → Option Value} {base : Heap}
theorem ok_need {f fN fV CF CB fI : Addr} {fd fdN fdV fdI : FuncData} {tok : Tok} (D : DefAt K mg "need_length" s_need_length P_need_length f fd) (D_need_from : DefAt K mg "need_from" s_need_from P_need_from fN fdN) (D_need_within : DefAt K mg "need_within" s_need_within P_need_within fV fdV) (B : Bn mg) (T : BnT K mg CF CB fI fdI) (g_FAR : mg "FAR" = some (.int 1000000000000000000 tok))
    (GI : FnOk P w K mg base CX0 2 fI fdI N_bninit (spBnInit K)) : FnOk P w K mg base (L2.CX P w) 6 f fd P_need_length (spNeed CB) := by
  have G_need_within : FnOk P w K mg base (L2.CX P w) 5 fV fdV P_need_within (spWithin CB) := ok_within D_need_within D_need_from B T GI
  refine D.F.okX sc_need_length (fun vs H Q E h => ?_) (fun cdv A outer s H vs Q E hr h => ?_)
  · obtain ⟨n, rfl, _⟩ := h
    rfl
  · obtain ⟨n, rfl, hn, q1, q2⟩ := h
    refine ⟨_, (pss_one (ps_expr (pe_call G_need_within (hr.mono (by omega)) (by rfl) D_need_within.g D_need_within.F.kp D_need_within.b .nil (passes_call (takes_of rfl rfl rfl rfl) fun _ _ _ _ h => h) (pa_cons pe_int (pa_cons (pe_glob (v := .int _) (by rfl) g_FAR ⟨_, rfl⟩) (pa_cons (pv 0) pa_nil)))))), ?_⟩
    refine ⟨n, rfl, 0, 1000000000000000000, n, rfl, hn, fun g => q1 (goodW_of g), fun b => q2 fun ⟨i, e, i0, i1⟩ => ?_⟩
    subst e
    exact of_decide_eq_false b ⟨i0, i1⟩
end
/-! ### _law_fields of a BadNumber -/
abbrev s_fields : Stmt := top 34
abbrev N_fields : List Str := ["_law_e"]
abbrev P_fields : List Str := ["_law_e"]
theorem sc_fields : FnScope N_fields P_fields (defScope s_fields) := ⟨rfl, rfl, rfl, by decide +kernel, rfl, by decide +kernel, by decide +kernel⟩
def spFieldsBn (p : Addr × Obj) (dd : Addr) : Sp := fun vs H Q _ => ∃ n : V, vs = [.ref p.1] ∧ H dd = some (.xd (bnF n)) ∧ ∀ H', Same H H' → Q n H'
section
variable {P : Program} {w : World} {K : PySem.W.Frag} {mg : Str → Option Value} {base : Heap}
theorem ok_fieldsBn {f CF CB fI C1 C2 C3 dd : Addr} {fd fdI : FuncData} {p : Addr × Obj} (D : DefAt K mg "_law_fields" s_fields P_fields f fd) (B : Bn mg) (T : BnT K mg CF CB fI fdI) (g1 : mg "NoMating" = some (.ref C1)) (g2 : mg "NoFamily" = some (.ref C2)) (g3 : mg "TooMuch" = some (.ref C3))
    (hH : Held p CB dd) : FnP P w K mg base p 1 f fd P_fields (spFieldsBn p dd) := by
  refine Fun.okP D.F sc_fields (fun vs H Q E h => ?_) (fun cdv A outer s H vs Q E hr h => ?_)
  · obtain ⟨n, rfl, _⟩ := h
    rfl
  · obtain ⟨n, rfl, hd, q⟩ := h
    refine ⟨_, pss_cons (ps_if (pt_val (pe_callB (call_heldT hH List.mem_cons_self T.c) (by rfl) B.isinstance (by decide +kernel) (pa_cons (pv 0) (pa_cons (pe_tup (pa_cons (pe_glob (v := .ref CB) (by rfl) T.gB rfl) (pa_cons (pe_glob (v := .ref C1) (by rfl) g1 rfl) (pa_cons (pe_glob (v := .ref C2) (by rfl) g2 rfl) (pa_cons (pe_glob (v := .ref C3) (by rfl) g3 rfl) pa_nil))))) pa_nil))))
      (pss_one (ps_ret (pe_heldf hH List.mem_cons_self T.x T.nN (pv 0)))) pss_nil) pss_never, ?_⟩
    refine ⟨.ref p.1, rfl, by show 4 ≤ sizeLine; decide, fun tp ntp => ?_⟩
    refine ⟨tp, _, [.ref CB, .ref C1, .ref C2, .ref C3], true, bnF n, rfl, upd_same, .cons (.own _) (.cons (.own _) (.cons (.own _) (.cons (.own _) .nil))), ?_, same_upd ntp _ _ hd, _, rfl, iteT ?_⟩
    · simp [PySem.W.kitAny, PySem.W.kitOne]
    · exact ⟨.ref p.1, rfl, rfl, bnF n, n, same_upd ntp _ _ hd, bn_number n, q _ (same_upd ntp)⟩
end

/-! ### _law_why of what refuses with BadNumber alone -/
abbrev s_why : Stmt := top 35
abbrev N_why : List Str := ["_law_ask", "_law_found", "_law_e"]
abbrev P_why : List Str := ["_law_ask"]
theorem sc_why : FnScope N_why P_why (defScope s_why) := ⟨rfl, rfl, rfl, by decide +kernel, rfl, by decide +kernel, by decide +kernel⟩
def EWhyBn (CB : Addr) (Q : VK) : XK := fun cls d H' => ∃ (dd : Addr) (n : V), cls = .ref CB ∧ d = some dd ∧ H' dd = some (.xd (bnF n)) ∧ ∀ (H'' : Hp) (t1 : Addr), Same H' H'' → H'' t1 = some (.tup [.str "BadNumber", n]) → Q (.ref t1) H''
def TWhyBn (CB : Addr) : (XK → Hp → VK → Prop) → Hp → VK → Prop := fun tl H Q => ∀ t0, H t0 = none → ∀ R : VK, (∀ v H1, Q (.ref t0) H1 → R v H1) → tl (EWhyBn CB Q) (upd H t0 (.tup [.str "", .non])) R
section
open PySem.Spec PyProof.Rows
theorem takes_len {X : Cx} {W : WX} (tk : L2.Takes X W) : L2.Takes X (fun cls d σ H => σ.length = X.N.length → W cls d σ H) := fun u s' ⟨a, B, sI, pins, σ, H, cls, d, e, I, nb, up, sky, na, os, ag, w⟩ =>
  tk u s' ⟨a, B, sI, pins, σ, H, cls, d, e, I, nb, up, sky, na, os, ag, w I.len⟩
theorem pss_of {X : Cx} {sts : List Stmt} {t' : TS} (h : ∀ D σ H, t' D σ H → ∃ t, PSs X sts t ∧ t D σ H) : PSs X sts t' := ⟨fun pins s σ H D I ht => by
  obtain ⟨t, h1, h2⟩ := h D σ H ht
  exact h1.run pins s σ H D I h2⟩
theorem three {σ : L2.St} (h : σ.length = 3) : ∃ a b c, σ = [a, b, c] := by
  match σ, h with
  | [a, b, c], _ => exact ⟨a, b, c, rfl⟩
theorem why_gives {X : Cx} {g CF CB fI fF C1 C2 C3 : Addr} {fdI fdF : FuncData} {cdg : Value} {q : Str} {k : Nat} (hr : Room (k + 3) X.A) (B : Bn X.mg) (T : BnT X.K X.mg CF CB fI fdI) (D_fields : DefAt X.K X.mg "_law_fields" s_fields P_fields fF fdF)
    (g1 : X.mg "NoMating" = some (.ref C1)) (g2 : X.mg "NoFamily" = some (.ref C2)) (g3 : X.mg "TooMuch" = some (.ref C3)) :
    LamX.GivesTo X N_why "_law_why" (defScope s_why) g cdg (defBody s_why) "_law_ask" q (TWhyBn CB) := by
  intro f c' s H Q tl act hc h
  have hr1 : Room (k + 2) (X.A.deeper (envOfC "_law_why" (defScope s_why) s.heap.objs.size g cdg)) := hr.deeper _
  refine ⟨_, pss_cons (ps_set (i := 1) sc_why.nd rfl (.inl rfl) (pe_tup (pa_cons pe_str (pa_cons pe_non pa_nil))))
    (pss_cons (ps_try_first (i := 2) (c := .ref CF)
      (tb := fun W D σ H => ∃ Ech : XK, (∀ cls d σ' H', Ech cls d H' → σ'.length = 3 → W cls d σ' H') ∧ σ[0]? = some (some (.ref f)) ∧ H c' = some (LamX.CodeO c' q) ∧ tl Ech H fun _ H1 => D.nx σ H1)
      (ts := fun z k d D σ H => ∃ d0, k = .ref CB ∧ d = some d0 ∧ ∃ n : V, H d0 = some (.xd (bnF n)) ∧ σ[2]? = some (some (.ref z)) ∧ ∀ (H' : Hp) (t1 : Addr), Same H H' → H' t1 = some (.tup [.str "BadNumber", n]) → D.nx (σ.set 1 (some (.ref t1))) H')
      rfl rfl sc_why.nd rfl rfl ⟨by rfl, by decide, .inl T.gF⟩ (fun W pn xe tk _ => ?_) (fun z oz k d pn hz hf => ?_)) (pss_one (ps_ret (pv 1)))), ?_⟩
  · refine pss_of fun D σ H' h' => ?_
    obtain ⟨Ech, hW, h1, h2, h3⟩ := h'
    exact ⟨_, pss_one (ps_expr (act (fun cls d σ H => σ.length = 3 → W cls d σ H) pn xe Ech _ _ (takes_len tk) (fun cls d σ' H' e l => hW cls d σ' H' e l))), h1, h2, h3⟩
  · refine pss_of fun D σ H' h' => ?_
    obtain ⟨d0, rfl, rfl, n, hd, h2, go⟩ := h'
    have hH : Held (z, oz) CB d0 := ⟨hz, hf⟩
    have G_fields : FnP X.prog X.w X.K X.mg X.base (z, oz) 1 fF fdF P_fields (spFieldsBn (z, oz) d0) := ok_fieldsBn D_fields B T g1 g2 g3 hH
    have hrm : L2H.RoomH 1 (X.A.deeper (envOfC "_law_why" (defScope s_why) s.heap.objs.size g cdg)) := (L2H.roomH_of hr1).mono (by omega)
    refine ⟨_, pss_one (ps_set (i := 1) sc_why.nd rfl (.inl rfl) (pe_tup (pa_cons (pe_heldf hH List.mem_cons_self T.x T.e.w (pv 2)) (pa_cons (pe_callP G_fields ⟨hrm.dp, hrm.un⟩ List.mem_cons_self (by rfl) D_fields.g D_fields.F.kp D_fields.b (pa_cons (pv 2) pa_nil)) pa_nil)))), ?_⟩
    refine ⟨.ref z, h2, rfl, bnF n, _, hd, bn_word n, .ref z, h2, n, rfl, hd, fun H2 s2 => ?_⟩
    exact ⟨by show 2 ≤ sizeLine; decide, fun t1 n1 => go _ t1 (s2.trans (same_upd n1)) upd_same⟩
  · refine ⟨by show 2 ≤ sizeLine; decide, fun t0 n0 => ?_⟩
    refine ⟨EWhyBn CB Q, fun cls d σ' H' hE hl => ?_, rfl, same_upd n0 _ _ hc, ?_⟩
    · obtain ⟨dd, n, rfl, rfl, hd, go⟩ := hE
      obtain ⟨x0, x1, x2, rfl⟩ := three hl
      refine ⟨T.m, fun z hz => ⟨dd, rfl, rfl, n, hd, rfl, fun H2 t1 s2 e2 => ?_⟩⟩
      exact ⟨.ref t1, rfl, go H2 t1 s2 e2⟩
    · exact h t0 n0 _ fun v H1 hq => ⟨.ref t0, rfl, hq⟩
end

/-! ### ints and bools -/
def IB (x : V) : Prop := (∃ i : Int, x = .int i ∧ i.natAbs < 2 ^ 200) ∨ ∃ b : Bool, x = .bl b
theorem IB.fv {x : V} (h : IB x) : FV x := by
  rcases h with ⟨i, e, hi⟩ | ⟨b, e⟩
  · exact .inl ⟨i, e, Nat.lt_of_lt_of_le (PySem.Flt.log2_lt_of (by decide) hi) (by decide)⟩
  · exact .inr ⟨b, e⟩
def isB : V → Bool
  | .bl _ => true
  | _ => false
theorem IB.ty {K : PySem.W.Frag} {H : Hp} {x : V} (h : IB x) : ∃ t, TyX K H x t ∧ PySem.W.kitOne K t (.type "bool") = some (isB x) := by
  rcases h with ⟨i, rfl, hi⟩ | ⟨b, rfl⟩
  · exact ⟨_, TyX.base (TyOf.int _), kit_ty (r := false) (by decide +kernel)⟩
  · exact ⟨_, TyX.base (TyOf.bl _), kit_ty (r := true) (by decide +kernel)⟩
theorem IB.int {i : Int} (h : i.natAbs < 2 ^ 200) : IB (.int i) := .inl ⟨i, rfl, h⟩
section
open PySem.Spec PyProof.Rows
def rSubV : R2 := fun x y H Q => ∃ i : Int, x = .int i ∧ ((∃ j : Int, y = .int j ∧ Q (.int (i - j)) H) ∨ ∃ b : Bool, y = .bl b ∧ Q (.int (i - b2i b)) H)
theorem op_subV {X : Cx} : OpR X (binaryOp .Sub) rSubV := by
  intro pins s σ H x y v u Q I rx ry h
  obtain ⟨i, rfl, ⟨j, rfl, q⟩ | ⟨b, rfl, q⟩⟩ := h
  · exact op_sub pins s σ H _ _ v u Q I rx ry ⟨i, j, rfl, rfl, q⟩
  · obtain ⟨t, rfl⟩ := rx
    cases (show u = Value.bool b from ry)
    exact IntBool.sub_int_bool ⟨.int (i - b2i b), H, I.tok _, ⟨_, rfl⟩, q⟩
end

/-! ### is_mating -/
abbrev s_is_mating : Stmt := top 28
abbrev N_is_mating : List Str := ["length", "mating", "one", "other", "many", "turned", "number"]
abbrev P_is_mating : List Str := ["length", "mating"]
theorem sc_is_mating : FnScope N_is_mating P_is_mating (defScope s_is_mating) := ⟨rfl, rfl, rfl, by decide +kernel, rfl, by decide +kernel, by decide +kernel⟩
def isMat (n : Int) : V → V → V → V → Bool
  | .int o, .int p, .int m, .int f => decide ((f = 0 ∨ f = 1) ∧ 1 ≤ m ∧ 0 ≤ o ∧ 0 ≤ p ∧ o + m ≤ n ∧ p + m ≤ n)
  | _, _, _, _ => false
theorem isMat_b {n : Int} {o p m f : V} (h : ([o, p, m, f].map isB).any id = true) : isMat n o p m f = false := by
  cases o with
  | int _ => cases p with
    | int _ => cases m with
      | int _ => cases f with
        | int _ => exact absurd (show false = true from h) (by decide)
        | _ => rfl
      | _ => rfl
    | _ => rfl
  | _ => rfl
theorem allInt {x : V} (h : IB x) (hb : isB x = false) : ∃ i : Int, x = .int i ∧ i.natAbs < 2 ^ 200 := by
  rcases h with h | ⟨b, rfl⟩
  · exact h
  · cases hb
theorem inV01 (f : Int) : inV (.int f) [.int 0, .int 1] = decide (f = 0 ∨ f = 1) := by
  by_cases h0 : f = 0
  · subst h0
    decide
  · by_cases h1 : f = 1
    · subst h1
      decide
    · have e0 : ¬ (0 = f) := fun z => h0 z.symm
      have e1 : ¬ (1 = f) := fun z => h1 z.symm
      simp [inV, eqV, h0, h1, e0, e1]
def spIsMat : Sp := fun vs H Q _ => ∃ (n : Int) (t : Addr) (o p m f : V), vs = [.int n, .ref t] ∧ n.natAbs < 2 ^ 200 ∧ H t = some (.tup [o, p, m, f]) ∧ IB o ∧ IB p ∧ IB m ∧ IB f ∧ ∀ H', Same H H' → Q (.bl (isMat n o p m f)) H'
section
variable {P : Program} {w : World} {K : PySem.W.Frag} {mg : Str → Option Value} {base : Heap}
theorem ok_is_mating {f : Addr} {fd : FuncData} (D : DefAt K mg "is_mating" s_is_mating P_is_mating f fd) (B : Bn mg) : FnOk P w K mg base CX0 1 f fd P_is_mating spIsMat := by
  refine D.F.ok sc_is_mating (fun vs H Q E h => ?_) (fun cdv A outer s H vs Q E hr h => ?_)
  · obtain ⟨n, t, o, p, m, f, rfl, _⟩ := h
    rfl
  · obtain ⟨n, t, o, p, m, f, rfl, hn, ht, ho, hp, hm, hf, q⟩ := h
    refine ⟨_, (pss_cons (ps_asg (pv 1) (pg_tup (by rfl) (pgs_cons (pg_name (i := 2) sc_is_mating.nd rfl (.inl rfl)) (pgs_cons (pg_name (i := 3) sc_is_mating.nd rfl (.inl rfl)) (pgs_cons (pg_name (i := 4) sc_is_mating.nd rfl (.inl rfl)) (pgs_cons (pg_name (i := 5) sc_is_mating.nd rfl (.inl rfl)) pgs_nil))))))
      (pss_cons (ps_if (pt_val (pe_callB (cr_any rfl) (by rfl) B.any (by decide +kernel) (pa_cons (pe_lc (own := [("number", 6)]) (g := gName 6) (by rfl) sc_is_mating.nd (pi_tup (pe_tup (pa_cons (pv 0) (pa_cons (pv 2) (pa_cons (pv 3) (pa_cons (pv 4) (pa_cons (pv 5) pa_nil))))))) (blkOk_by (own := [("number", 6)]) (N := N_is_mating) (sc := defScope s_is_mating) (by decide +kernel)) (fun _ _ _ _ _ => (pg_name (i := 6) sc_is_mating.nd rfl (.inl rfl))) (fun _ _ _ _ _ => pts_nil) (fun _ _ _ _ _ => (pe_callB (show CallR _ _ (rIsi K) from call_isi) (by rfl) B.isinstance (by decide +kernel) (pa_cons (pv 6) (pa_cons (pe_bltn (v := .ty "bool") (by rfl) B.bool (by decide +kernel) rfl) pa_nil))))) pa_nil))) (pss_one (ps_ret pe_bl)) pss_nil)
      (pss_cons (ps_if (PW.pt (pw_or (pt_cmpR op_notIn_seq (pv 5) (pe_tup (pa_cons pe_int (pa_cons pe_int pa_nil))) (by rfl)) (pw_or1 (pt_cmpR op_lt (pv 4) pe_int (nomark _))))) (pss_one (ps_ret pe_bl)) pss_nil)
      (pss_one (ps_ret (pe_and (pe_cmpR op_ge (pe_callB (call_min2 rfl) (by rfl) B.min (by decide +kernel) (pa_cons (pv 2) (pa_cons (pv 3) pa_nil))) pe_int (nomark _)) (pe_one (pe_cmpR op_le (pe_op op_add (pe_callB (call_max2 rfl) (by rfl) B.max (by decide +kernel) (pa_cons (pv 2) (pa_cons (pv 3) pa_nil))) (pv 4)) (pv 0) (nomark _))))))))), ?_⟩
    refine ⟨.ref t, rfl, t, _, rfl, SqT.of ht, rfl, o, _, rfl, p, _, rfl, m, _, rfl, f, _, rfl, rfl, ?_⟩
    refine ⟨.int n, rfl, o, rfl, p, rfl, m, rfl, f, rfl, by show 5 ≤ sizeLine; decide, fun tp ntp => ?_⟩
    refine ⟨tp, rfl, ⟨_, SqT.of upd_same⟩, fun L nL => lc_tup (K := K) (a := tp) (xs := [.int n, o, p, m, f]) (fun i H2 => Same (upd H tp (.tup [.int n, o, p, m, f])) H2 ∧ H2 L = some (.lst ((([.int n, o, p, m, f].map isB).take i).map V.bl)))
      ⟨same_upd nL, upd_same⟩ (fun i H2 _ ⟨sm, _⟩ => SqT.of (sm _ _ upd_same)) ?_ ?_⟩
    · rintro i x H2 hx ⟨sm, e2⟩
      have hi : i < 5 := (List.getElem?_eq_some_iff.mp hx).1
      have hib : IB x := by
        have : x ∈ [.int n, o, p, m, f] := List.mem_of_getElem? hx
        rcases List.mem_cons.mp this with rfl | this
        · exact .inl ⟨n, rfl, hn⟩
        rcases List.mem_cons.mp this with rfl | this
        · exact ho
        rcases List.mem_cons.mp this with rfl | this
        · exact hp
        rcases List.mem_cons.mp this with rfl | this
        · exact hm
        rcases List.mem_cons.mp this with rfl | this
        · exact hf
        · cases this
      obtain ⟨ty, h1, h2⟩ := hib.ty (K := K) (H := H2)
      refine ⟨rfl, ?_⟩
      refine ⟨x, rfl, _, _, _, _, isB x, rfl, ClsV.ty _, h1, h2, ?_⟩
      refine ⟨_, e2, sz_lt (by rw [List.length_map, List.length_take]; omega), fun b o' hb => ?_, ?_⟩
      · rw [upd_ne (ne_of_none hb nL)]
        exact sm _ _ hb
      · rw [upd_same, List.take_add_one, List.getElem?_map, hx, List.map_append]
        rfl
    · rintro H2 ⟨sm, e2⟩
      have e2' : H2 L = some (.lst (([.int n, o, p, m, f].map isB).map V.bl)) := e2
      have sH : Same H H2 := (same_upd ntp).trans sm
      refine ⟨L, _, rfl, SqL.of e2', _, rfl, ?_⟩
      by_cases hb : ([o, p, m, f].map isB).any id = true
      · have e3 : ([.int n, o, p, m, f].map isB).any id = true := hb
        rw [e3]
        refine iteT ?_
        rw [isMat_b hb] at q
        exact q H2 sH
      · have e3 : ([.int n, o, p, m, f].map isB).any id = false := by
          cases e : ([o, p, m, f].map isB).any id with
          | true => exact absurd e hb
          | false => exact e
        rw [e3]
        refine iteF ?_
        have hb' : ([o, p, m, f].map isB).any id = false := e3
        simp only [List.map_cons, List.map_nil, List.any_cons, List.any_nil, id, Bool.or_false, Bool.or_eq_false_iff] at hb'
        obtain ⟨b1, b2, b3, b4⟩ := hb'
        obtain ⟨o, rfl, _⟩ := allInt ho b1
        obtain ⟨p, rfl, _⟩ := allInt hp b2
        obtain ⟨m, rfl, _⟩ := allInt hm b3
        obtain ⟨f, rfl, _⟩ := allInt hf b4
        refine ⟨.int f, rfl, by show 2 ≤ sizeLine; decide, fun t2 n2 => ?_⟩
        have s2 : Same H (upd H2 t2 (.tup [.int 0, .int 1])) := sH.trans (same_upd n2)
        refine ⟨t2, _, rfl, .inr (SqT.of upd_same), rfl, rfl, _, rfl, ?_⟩
        have no : ¬ ((f = 0 ∨ f = 1) ∧ 1 ≤ m ∧ 0 ≤ o ∧ 0 ≤ p ∧ o + m ≤ n ∧ p + m ≤ n) → Q (.bl false) (upd H2 t2 (.tup [.int 0, .int 1])) := fun h => by
          have := q _ s2
          rw [show isMat n (.int o) (.int p) (.int m) (.int f) = false from decide_eq_false h] at this
          exact this
        rw [if_pos rfl, inV01]
        by_cases hf01 : f = 0 ∨ f = 1
        · rw [decide_eq_true hf01]
          refine iteF ?_
          refine ⟨.int m, rfl, m, 1, rfl, rfl, _, rfl, ?_⟩
          refine ite2 (fun h => ?_) (fun h => ?_)
          · have h' : m < 1 := of_decide_eq_true h
            exact no fun z => by omega
          · have h' : ¬ m < 1 := fun z => h (decide_eq_true z)
            refine ⟨.int o, rfl, .int p, rfl, o, p, rfl, _, 0, rfl, rfl, _, rfl, ?_⟩
            refine ite2 (fun g => ?_) (fun g => ?_)
            · have g' : 0 ≤ (if p < o then p else o) := of_decide_eq_true g
              refine ⟨.int o, rfl, .int p, rfl, o, p, rfl, .int m, rfl, _, _, rfl, rfl, .int n, rfl, _, _, rfl, rfl, ?_⟩
              have := q _ s2
              rw [show isMat n (.int o) (.int p) (.int m) (.int f) = decide ((if p > o then p else o) + m ≤ n) from decide_eq_decide.mpr ⟨fun z => by split <;> omega, fun z => ⟨hf01, by omega, by split at g' <;> omega, by split at g' <;> omega, by split at z <;> omega, by split at z <;> omega⟩⟩] at this
              exact this
            · have g' : ¬ 0 ≤ (if p < o then p else o) := fun z => g (decide_eq_true z)
              exact no fun z => g' (by split <;> omega)
        · rw [decide_eq_false hf01]
          refine iteT ?_
          exact no fun z => hf01 z.1
end

/-! ### _law_any, _law_odd -/
abbrev s_any : Stmt := top 32
abbrev N_any : List Str := ["_law_draw", "_law_some"]
abbrev P_any : List Str := ["_law_draw", "_law_some"]
theorem sc_any : FnScope N_any P_any (defScope s_any) := ⟨rfl, rfl, rfl, by decide +kernel, rfl, by decide +kernel, by decide +kernel⟩
def spAny : Sp := fun vs H Q _ => ∃ (d l L : Addr) (xs : List V), vs = [.ref d, .ref L] ∧ Draw H d l ∧ H L = some (.lst xs) ∧ L ≠ d ∧ 1 ≤ xs.length ∧ xs.length ≤ 1000 ∧ ∀ (x : V) (H' : Hp), x ∈ xs → Draw H' d l → Keep d H H' → Q x H'
abbrev s_odd : Stmt := top 36
abbrev N_odd : List Str := ["_law_draw", "_law_big"]
abbrev P_odd : List Str := ["_law_draw"]
theorem sc_odd : FnScope N_odd P_odd (defScope s_odd) := ⟨rfl, rfl, rfl, by decide +kernel, rfl, by decide +kernel, by decide +kernel⟩
def spOdd : Sp := fun vs H Q _ => ∃ (d l : Addr), vs = [.ref d] ∧ Draw H d l ∧ ∀ (x : V) (H' : Hp), IB x → Draw H' d l → Keep d H H' → Q x H'
section
variable {P : Program} {w : World} {K : PySem.W.Frag} {mg : Str → Option Value} {base : Heap}
theorem ok_any {f fP : Addr} {fd fdP : FuncData} (D : DefAt K mg "_law_any" s_any P_any f fd) (D_pull : DefAt K mg "_law_pull" s_pull P_pull fP fdP) (B : Bn mg) : FnOk P w K mg base CX0 2 f fd P_any spAny := by
  have G_pull : FnOk P w K mg base CX0 1 fP fdP P_pull spPull := ok_pull D_pull B
  refine D.F.ok sc_any (fun vs H Q E h => ?_) (fun cdv A outer s H vs Q E hr h => ?_)
  · obtain ⟨d, l, L, xs, rfl, _⟩ := h
    rfl
  · obtain ⟨d, l, L, xs, rfl, hD, hL, nL, l1, l2, q⟩ := h
    refine ⟨_, (pss_one (ps_ret (pe_ix ix_list (pv 1) (pe_call G_pull (hr.mono (by omega)) (by rfl) D_pull.g D_pull.F.kp D_pull.b .nil pass0 (pa_cons (pv 0) (pa_cons (pe_callB call_len_seq (by rfl) B.len (by decide +kernel) (pa_cons (pv 1) pa_nil)) pa_nil))) (fun _ _ => rfl)))), ?_⟩
    refine ⟨.ref L, rfl, .ref d, rfl, .ref L, rfl, L, xs, rfl, .inl (SqL.of hL), d, l, _, rfl, hD, by omega, by omega, fun v H1 v0 v1 D1 k1 => ?_⟩
    obtain ⟨j, rfl⟩ : ∃ j : Nat, v = (j : Int) := ⟨v.toNat, by omega⟩
    have hj : j < xs.length := by omega
    exact ⟨L, xs, (j : Int), xs[j], rfl, rfl, SqL.of (k1.of hL nL), atI_nat (List.getElem?_eq_getElem hj), q _ _ (List.getElem_mem hj) D1 k1⟩
theorem ok_odd {f fP : Addr} {fd fdP : FuncData} (D : DefAt K mg "_law_odd" s_odd P_odd f fd) (D_pull : DefAt K mg "_law_pull" s_pull P_pull fP fdP) (B : Bn mg) : FnOk P w K mg base CX0 2 f fd P_odd spOdd := by
  have G_pull : FnOk P w K mg base CX0 1 fP fdP P_pull spPull := ok_pull D_pull B
  refine D.F.ok sc_odd (fun vs H Q E h => ?_) (fun cdv A outer s H vs Q E hr h => ?_)
  · obtain ⟨d, l, rfl, _⟩ := h
    rfl
  · obtain ⟨d, l, rfl, hD, q⟩ := h
    refine ⟨_, (pss_cons (ps_set (i := 1) sc_odd.nd rfl (.inl rfl) (pe_op op_add pe_int (pe_call G_pull (hr.mono (by omega)) (by rfl) D_pull.g D_pull.F.kp D_pull.b .nil pass0 (pa_cons (pv 0) (pa_cons (pe_op op_pow pe_int pe_int) pa_nil)))))
      (pss_one (ps_ret (pe_ix ix_list (pe_lst (pa_cons (pe_un un_neg pe_int) (pa_cons pe_bl (pa_cons pe_bl (pa_cons (pe_op op_sub pe_int (pv 1)) (pa_cons (pe_op op_sub pe_int (pe_op op_mul (pv 1) (pe_op op_pow pe_int pe_int))) (pa_cons (pe_op op_add (pe_op op_pow pe_int pe_int) (pv 1)) (pa_cons (pe_op op_add (pe_op op_pow pe_int pe_int) (pv 1)) pa_nil)))))))) (pe_call G_pull (hr.mono (by omega)) (by rfl) D_pull.g D_pull.F.kp D_pull.b .nil pass0 (pa_cons (pv 0) (pa_cons pe_int pa_nil))) (fun _ _ => rfl))))), ?_⟩
    refine ⟨.ref d, rfl, 10, 9, rfl, rfl, ⟨by decide, by decide, by decide⟩, d, l, _, rfl, hD, by decide, by decide, fun b H1 b0 b1 D1 k1 => ?_⟩
    have b1' : b < 1000000000 := b1
    refine ⟨1, b, rfl, rfl, ?_⟩
    refine ⟨1, rfl, .int (1 + b), rfl, 0, 1 + b, rfl, rfl, .int (1 + b), rfl, 10, 20, rfl, rfl, ⟨by decide, by decide, by decide⟩, 1 + b, _, rfl, rfl, .inl ⟨by omega, by omega⟩, 0, _, rfl, rfl, 10, 18, rfl, rfl, ⟨by decide, by decide, by decide⟩, .int (1 + b), rfl, _, 1 + b, rfl, rfl, 10, 29, rfl, rfl, ⟨by decide, by decide, by decide⟩, .int (1 + b), rfl, _, 1 + b, rfl, rfl, by show 7 ≤ sizeLine; decide, fun L nL => ?_⟩
    refine ⟨.ref d, rfl, d, l, 7, rfl, D1.same (same_upd nL), by decide, by decide, fun v H2 v0 v1 D2 k2 => ?_⟩
    obtain ⟨x, hx, ib⟩ : ∃ x : V, atI [V.int (-1), V.bl true, V.bl false, V.int (0 - (1 + b)), V.int (0 - (1 + b) * 10 ^ (20 : Int).toNat), V.int (10 ^ (18 : Int).toNat + (1 + b)), V.int (10 ^ (29 : Int).toNat + (1 + b))] v = some x ∧ IB x := by
      rcases (show v = 0 ∨ v = 1 ∨ v = 2 ∨ v = 3 ∨ v = 4 ∨ v = 5 ∨ v = 6 by omega) with rfl | rfl | rfl | rfl | rfl | rfl | rfl
      · exact ⟨_, atI_nat (j := 0) rfl, .int (by decide)⟩
      · exact ⟨_, atI_nat (j := 1) rfl, .inr ⟨_, rfl⟩⟩
      · exact ⟨_, atI_nat (j := 2) rfl, .inr ⟨_, rfl⟩⟩
      · exact ⟨_, atI_nat (j := 3) rfl, .int (by omega)⟩
      · refine ⟨_, atI_nat (j := 4) rfl, .int ?_⟩
        rw [show (10 : Int) ^ (20 : Int).toNat = 100000000000000000000 by decide]
        omega
      · refine ⟨_, atI_nat (j := 5) rfl, .int ?_⟩
        rw [show (10 : Int) ^ (18 : Int).toNat = 1000000000000000000 by decide]
        omega
      · refine ⟨_, atI_nat (j := 6) rfl, .int ?_⟩
        rw [show (10 : Int) ^ (29 : Int).toNat = 100000000000000000000000000000 by decide]
        omega
    exact ⟨L, _, v, x, rfl, rfl, SqL.of (k2.of upd_same (D1.ne_new nL)), hx, q _ _ ib D2 (k1.trans ((keepS (same_upd nL)).trans k2))⟩
end

/-! ### the law's table of code objects -/
theorem tabs_keep {T : List (Addr × Str)} {H H' : Hp} {d l : Addr} (t : LamX.Tabs T H) (D : Draw H d l) (k : Keep d H H') : LamX.Tabs T H' := fun p hp => by
  obtain ⟨ps, h1, h2, h3⟩ := t p hp
  obtain ⟨ns, i, z, s, W⟩ := D
  refine ⟨ps, k.of h1 (ne_of h1 W.at_d (fun e => by cases e)), h2, fun pos cv hc => ?_⟩
  obtain ⟨c, e1, e2⟩ := h3 pos cv hc
  exact ⟨c, e1, k.of e2 (ne_of e2 W.at_d (fun e => by unfold LamX.CodeO at e; cases e))⟩
theorem draw_extN {H H' : Hp} {d l : Addr} (D : Draw H d l) (e : LamX.ExtN H H') : Draw H' d l := by
  obtain ⟨ns, i, z, s, W⟩ := D
  exact ⟨ns, i, z, s, { W with at_d := e _ _ W.at_d (fun _ q => by cases q), at_l := e _ _ W.at_l (fun _ q => by cases q) }⟩
def spLawT (K : PySem.W.Frag) (Pt : Addr) : Sp := fun vs H Q _ => ∃ (a : Addr) (ns : List Int), vs = [.ref a] ∧ SqL K H a (ns.map V.int) ∧ ns.length ≤ 63 ∧ H Pt = some (.tbl #[]) ∧ ∀ H', Q (.bl true) H'
abbrev lamQ : Str := (("law" : Str) ++ ".<locals>.") ++ "<lambda>"
abbrev lamT (Pt : Addr) : List (Addr × Str) := [(Pt, lamQ)]
/-- xs.append(e) inside a lambda: the reading must not speak of the lambda's own frame -/
theorem pe_appK {X : Cx} {K : PySem.W.Frag} {o e : Expr} {to : TE} {t : TA} {apos cpos : Pos} (hK : X.K = K) (ho : PE X o to) (ha : PA X [e] t)
    (hbase : attributeBase o "append" X.env (eval o X.env) = eval o X.env := by rfl)
    (hfew : ((backTo cpos (starEach [e] X.env)).all (fun x => !x.1) && (backToKw cpos (keywordEach [] X.env)).all (fun x => x.1.isSome)
      && decide ([e].length + ([] : List Keyword).length + (if ([] : List Keyword).isEmpty then 0 else 1) < 30)) = true := by rfl)
    (hline : (apos.endLine == cpos.line) = true := by rfl) (hs : starEach [e] X.env = (false, eval e X.env) :: starEach [] X.env := by rfl) (hplain : (backTo cpos (starEach [] X.env)).any (·.1) = false := by rfl) :
    PE X (.Call (.Attribute o "append" apos) [e] [] cpos) (tBM K "list" rAppend to t) := by
  subst hK
  exact pe_bm PySem.F.plainAttrs_list PySem.F.slot_list_append PySem.F.type_list_append mt_append ho ha hbase hfew hline hs hplain

/-! ### law -/
-- LAMHEAD: (T := lamT Pt) (TT := TWhyBn CB) (k := 6) (by rfl) D_why.g D_why.F.kp lkW hcW D_why.b sc_why rfl (.inl rfl) (why_gives (k := 5) (hr.mono (by omega)) B Tb D_fields g1 g2 g3) TB rfl List.mem_cons_self huT (hr.mono (by omega)) (show LamX.LamS (defScope s_law) _ from LamX.lamS_by (by decide +kernel)) rfl (fun _ _ _ _ _ => rfl)
abbrev s_law : Stmt := top 37
abbrev N_law : List Str := ["_law_script", "_law_draw", "_law_turn", "_law_good", "_law_length", "_law_many", "_law_one", "_law_other", "_law_flips", "_law_number", "_law_due"]
abbrev P_law : List Str := ["_law_script"]
theorem sc_law : FnScope N_law P_law (defScope s_law) := ⟨rfl, rfl, rfl, by decide +kernel, rfl, by decide +kernel, by decide +kernel⟩
theorem pow18 : (10 : Int) ^ (18 : Int).toNat = 1000000000000000000 := by decide
section
open PySem.Spec PyProof.Rows
variable {P : Program} {w : World} {K : PySem.W.Frag} {mg : Str → Option Value} {base : Heap}
theorem ok_law {f fO fP fL fA fD fNF fNW fN fM fW fF fI CF CB C1 C2 C3 c Pt : Addr} {fdO fdP fdL fdA fdD fdNF fdNW fdN fdM fdW fdF fdI : FuncData} {kV doc pm ct oc : Value} {an od : Option Addr} {osl : Array (Option Value)} {tok1 tok2 : Tok}
    (lk : K.lookup f = some ⟨oc, od, .func (PySem.W.fnOf "law" "law" (defArgs s_law) (defBody s_law) (defScope s_law) .none kV doc pm an (.ref c) ct), osl⟩) (hcd : PySem.W.codeIn K (.ref c) "law" = true) (TB : LamX.TabB base mg c Pt)
    (D_open : DefAt K mg "_law_open" s_open P_open fO fdO) (D_pull : DefAt K mg "_law_pull" s_pull P_pull fP fdP) (D_like : DefAt K mg "_law_like" s_like P_like fL fdL) (D_any : DefAt K mg "_law_any" s_any P_any fA fdA) (D_odd : DefAt K mg "_law_odd" s_odd P_odd fD fdD)
    (D_need_from : DefAt K mg "need_from" s_need_from P_need_from fNF fdNF) (D_need_within : DefAt K mg "need_within" s_need_within P_need_within fNW fdNW) (D_need_length : DefAt K mg "need_length" s_need_length P_need_length fN fdN) (D_is_mating : DefAt K mg "is_mating" s_is_mating P_is_mating fM fdM) (D_why : DefAt K mg "_law_why" s_why P_why fW fdW) (D_fields : DefAt K mg "_law_fields" s_fields P_fields fF fdF)
    (Tb : BnT K mg CF CB fI fdI) (GI : FnOk P w K mg base CX0 2 fI fdI N_bninit (spBnInit K)) (g1 : mg "NoMating" = some (.ref C1)) (g2 : mg "NoFamily" = some (.ref C2)) (g3 : mg "TooMuch" = some (.ref C3))
    (g_FAR : mg "FAR" = some (.int 1000000000000000000 tok1)) (g_MOST : mg "MOST" = some (.int 24 tok2)) (B : Bn mg) :
    FnOk P w K mg base CX0 12 f (PySem.W.fnOf "law" "law" (defArgs s_law) (defBody s_law) (defScope s_law) .none kV doc pm an (.ref c) ct) P_law (spLawT K Pt) := by
  have G_open : FnOk P w K mg base CX0 1 fO fdO P_open (spOpen K) := ok_open D_open B
  have G_pull : FnOk P w K mg base CX0 1 fP fdP P_pull spPull := ok_pull D_pull B
  have G_like : FnOk P w K mg base CX0 3 fL fdL P_like (spLike 2) := ok_like D_like B 2
  have G_any : FnOk P w K mg base CX0 2 fA fdA P_any spAny := ok_any D_any D_pull B
  have G_odd : FnOk P w K mg base CX0 2 fD fdD P_odd spOdd := ok_odd D_odd D_pull B
  have G_need_length : FnOk P w K mg base (L2.CX P w) 6 fN fdN P_need_length (spNeed CB) := ok_need D_need_length D_need_from D_need_within B Tb g_FAR GI
  have G_is_mating : FnOk P w K mg base CX0 1 fM fdM P_is_mating spIsMat := ok_is_mating D_is_mating B
  obtain ⟨ocW, odW, kVW, docW, pmW, anW, cdvW, ctW, oslW, rfl, lkW, hcW⟩ := D_why.F.ex
  refine fn_of lk hcd sc_law (fun vs H Q E h => ?_) (fun A outer s H vs Q E hr h => ?_)
  · obtain ⟨a, ns, rfl, _⟩ := h
    rfl
  · obtain ⟨a, ns, rfl, hS, hlen, hPt, q⟩ := h
    suffices hh : ∃ t, PSs (cxOf CX0 P w K mg base N_law "law" (defScope s_law) f (.ref c) A outer s H E).nox (defBody s_law) t ∧ t { nx := fun _ H' => Q .non H', rt := Q } (L2.start N_law [.ref a]) H by
      obtain ⟨t, h1, h2⟩ := hh
      exact ⟨t, h1.nox, h2⟩
    have huT : ∀ p ∈ lamT Pt, p.1 = Pt → p.2 = lamQ := fun p hp _ => by rw [List.mem_singleton.mp hp]
    refine ⟨_, (pss_cons (ps_set (i := 1) sc_law.nd rfl (.inl rfl) (pe_call G_open (hr.mono (by omega)) (by rfl) D_open.g D_open.F.kp D_open.b .nil pass0 (pa_cons (pv 0) pa_nil)))
      (pss_cons (ps_if (pt_not (pt_val (pe_call G_like (hr.mono (by omega)) (by rfl) D_like.g D_like.F.kp D_like.b .nil pass0 (pa_cons (pe_lst (pa_cons (pe_glob (v := .int _) (by rfl) g_FAR ⟨_, rfl⟩) (pa_cons (pe_glob (v := .int _) (by rfl) g_MOST ⟨_, rfl⟩) pa_nil))) (pa_cons (pe_lst (pa_cons pe_int (pa_cons pe_int pa_nil))) pa_nil))))) (pss_one (ps_ret pe_bl)) pss_nil)
      (pss_cons (ps_for PassesOwn.never rfl (pi_range1 (by rfl) B.range (pa_cons pe_int pa_nil)) (pg_name (i := 2) sc_law.nd rfl (.inl rfl)) (pss_cons (ps_set (i := 9) sc_law.nd rfl (.inr rfl) (pe_call G_any (hr.mono (by omega)) (by rfl) D_any.g D_any.F.kp D_any.b .nil pass0 (pa_cons (pv 1) (pa_cons (pe_lst (pa_cons (pe_call G_odd (hr.mono (by omega)) (by rfl) D_odd.g D_odd.F.kp D_odd.b .nil pass0 (pa_cons (pv 1) pa_nil)) (pa_cons pe_int (pa_cons (pe_op op_pow pe_int pe_int) (pa_cons (pe_op op_add (pe_op op_pow pe_int pe_int) pe_int) (pa_cons (pe_call G_pull (hr.mono (by omega)) (by rfl) D_pull.g D_pull.F.kp D_pull.b .nil pass0 (pa_cons (pv 1) (pa_cons (pe_op op_pow pe_int pe_int) pa_nil))) (pa_cons (pe_un un_neg pe_int) (pa_cons pe_bl pa_nil)))))))) pa_nil))))
      (C8.pss_cut (ps_set (i := 3) sc_law.nd rfl (.inl rfl) (pe_and (pe_not (pe_callB call_isi (by rfl) B.isinstance (by decide +kernel) (pa_cons (pv 9) (pa_cons (pe_bltn (v := .ty "bool") (by rfl) B.bool (by decide +kernel) rfl) pa_nil)))) (pe_one (pe_chain op_le op_le pe_int (pv 9) (pe_op op_pow pe_int pe_int)))))
      (pss_one (ps_if (pt_not (pt_val (pe_call G_like (hr.mono (by omega)) (by rfl) D_like.g D_like.F.kp D_like.b .nil pass0 (pa_cons (LamX.pe_lamcall (T := lamT Pt) (TT := TWhyBn CB) (k := 6) (by rfl) D_why.g D_why.F.kp lkW hcW D_why.b sc_why rfl (.inl rfl) (why_gives (k := 5) (hr.mono (by omega)) B Tb D_fields g1 g2 g3) TB rfl List.mem_cons_self huT (hr.mono (by omega)) (show LamX.LamS (defScope s_law) _ from LamX.lamS_by (by decide +kernel)) rfl (fun _ _ _ _ _ => rfl) (fun A1 outer1 s1 H1 E1 f1 c1 hr1 => (pe_call G_need_length (hr1.mono (by omega)) (by rfl) D_need_length.g D_need_length.F.kp D_need_length.b .nil (passes_call (takes_of rfl rfl rfl rfl) fun _ _ _ _ h => h) (pa_cons (pv 9) pa_nil)))) (pa_cons (pe_ifExp (pt_val (pv 3)) (pe_tup (pa_cons pe_str (pa_cons pe_non pa_nil))) (pe_tup (pa_cons pe_str (pa_cons (pv 9) pa_nil)))) pa_nil))))) (pss_one (ps_ret pe_bl)) pss_nil)))))
      (pss_cons (ps_for PassesOwn.never rfl (pi_range1 (by rfl) B.range (pa_cons pe_int pa_nil)) (pg_name (i := 2) sc_law.nd rfl (.inl rfl)) (pss_cons (ps_set (i := 4) sc_law.nd rfl (.inl rfl) (pe_call G_any (hr.mono (by omega)) (by rfl) D_any.g D_any.F.kp D_any.b .nil pass0 (pa_cons (pv 1) (pa_cons (pe_lst (pa_cons (pe_op op_pow pe_int pe_int) (pa_cons (pe_op op_add pe_int (pe_call G_pull (hr.mono (by omega)) (by rfl) D_pull.g D_pull.F.kp D_pull.b .nil pass0 (pa_cons (pv 1) (pa_cons pe_int pa_nil)))) (pa_cons pe_int (pa_cons pe_int pa_nil))))) pa_nil))))
      (pss_cons (ps_set (i := 5) sc_law.nd rfl (.inl rfl) (pe_call G_any (hr.mono (by omega)) (by rfl) D_any.g D_any.F.kp D_any.b .nil pass0 (pa_cons (pv 1) (pa_cons (pe_lst (pa_cons pe_int (pa_cons (pv 4) (pa_cons (pe_op op_add (pv 4) pe_int) (pa_cons pe_int (pa_cons (pe_un un_neg pe_int) (pa_cons (pe_op op_add pe_int (pe_call G_pull (hr.mono (by omega)) (by rfl) D_pull.g D_pull.F.kp D_pull.b .nil pass0 (pa_cons (pv 1) (pa_cons pe_int pa_nil)))) (pa_cons pe_bl (pa_cons pe_int pa_nil))))))))) pa_nil))))
      (pss_cons (ps_set (i := 6) sc_law.nd rfl (.inl rfl) (pe_call G_any (hr.mono (by omega)) (by rfl) D_any.g D_any.F.kp D_any.b .nil pass0 (pa_cons (pv 1) (pa_cons (pe_lst (pa_cons pe_int (pa_cons (pe_op op_subV (pv 4) (pv 5)) (pa_cons (pe_op op_add (pe_op op_subV (pv 4) (pv 5)) pe_int) (pa_cons (pe_un un_neg pe_int) (pa_cons (pe_call G_pull (hr.mono (by omega)) (by rfl) D_pull.g D_pull.F.kp D_pull.b .nil pass0 (pa_cons (pv 1) (pa_cons pe_int pa_nil))) (pa_cons pe_bl pa_nil))))))) pa_nil))))
      (pss_cons (ps_set (i := 7) sc_law.nd rfl (.inl rfl) (pe_call G_any (hr.mono (by omega)) (by rfl) D_any.g D_any.F.kp D_any.b .nil pass0 (pa_cons (pv 1) (pa_cons (pe_lst (pa_cons pe_int (pa_cons (pe_op op_subV (pv 4) (pv 5)) (pa_cons (pe_op op_add (pe_op op_subV (pv 4) (pv 5)) pe_int) (pa_cons (pe_un un_neg pe_int) (pa_cons (pe_call G_pull (hr.mono (by omega)) (by rfl) D_pull.g D_pull.F.kp D_pull.b .nil pass0 (pa_cons (pv 1) (pa_cons pe_int pa_nil))) (pa_cons (pe_call G_odd (hr.mono (by omega)) (by rfl) D_odd.g D_odd.F.kp D_odd.b .nil pass0 (pa_cons (pv 1) pa_nil)) pa_nil))))))) pa_nil))))
      (pss_cons (ps_set (i := 8) sc_law.nd rfl (.inl rfl) (pe_call G_any (hr.mono (by omega)) (by rfl) D_any.g D_any.F.kp D_any.b .nil pass0 (pa_cons (pv 1) (pa_cons (pe_lst (pa_cons pe_int (pa_cons pe_int (pa_cons pe_int (pa_cons pe_int (pa_cons pe_int (pa_cons pe_int (pa_cons pe_int (pa_cons (pe_un un_neg pe_int) (pa_cons pe_bl pa_nil)))))))))) pa_nil))))
      (C8.pss_cut (ps_set (i := 10) sc_law.nd rfl (.inl rfl) (pe_not (pe_callB (cr_any rfl) (by rfl) B.any (by decide +kernel) (pa_cons (pe_lc (own := [("_law_number", 9)]) (g := gName 9) (by rfl) sc_law.nd (pi_tup (pe_tup (pa_cons (pv 6) (pa_cons (pv 7) (pa_cons (pv 5) (pa_cons (pv 8) pa_nil)))))) (blkOk_by (own := [("_law_number", 9)]) (N := N_law) (sc := defScope s_law) (by decide +kernel)) (fun _ _ _ _ _ => (pg_name (i := 9) sc_law.nd rfl (.inl rfl))) (fun _ _ _ _ _ => pts_nil) (fun _ _ _ _ _ => (pe_callB (show CallR _ _ (rIsi K) from call_isi) (by rfl) B.isinstance (by decide +kernel) (pa_cons (pv 9) (pa_cons (pe_bltn (v := .ty "bool") (by rfl) B.bool (by decide +kernel) rfl) pa_nil))))) pa_nil))))
      (C8.pss_cut (ps_set (i := 10) sc_law.nd rfl (.inl rfl) (pe_and (pv 10) (pe_and (pe_cmpR op_ge (pv 5) pe_int (nomark _)) (pe_and (pe_cmpR op_in_seq (pv 8) (pe_tup (pa_cons pe_int (pa_cons pe_int pa_nil))) (by rfl)) (pe_and (pe_chain op_le op_le pe_int (pv 6) (pe_op op_subV (pv 4) (pv 5))) (pe_one (pe_chain op_le op_le pe_int (pv 7) (pe_op op_subV (pv 4) (pv 5)))))))))
      (pss_one (ps_if (pt_not (pt_val (pe_call G_like (hr.mono (by omega)) (by rfl) D_like.g D_like.F.kp D_like.b .nil pass0 (pa_cons (pe_call G_is_mating (hr.mono (by omega)) (by rfl) D_is_mating.g D_is_mating.F.kp D_is_mating.b .nil pass0 (pa_cons (pv 4) (pa_cons (pe_tup (pa_cons (pv 6) (pa_cons (pv 7) (pa_cons (pv 5) (pa_cons (pv 8) pa_nil))))) pa_nil))) (pa_cons (pv 10) pa_nil))))) (pss_one (ps_ret pe_bl)) pss_nil))))))))))
      (pss_one (ps_ret pe_bl)))))), ?_⟩
    refine ⟨.ref a, rfl, a, ns, rfl, hS, hlen, fun H1 d l sm nd nl hD => ?_⟩
    have T1 : LamX.Tabs (lamT Pt) H1 := fun p hp => by
      rw [List.mem_singleton.mp hp]
      exact LamX.TabS.nil (sm _ _ hPt)
    -- FAR, MOST
    refine ⟨by show 2 ≤ sizeLine; decide, fun t1 n1 => ?_⟩
    refine ⟨by show 2 ≤ sizeLine; decide, fun t2 n2 => ?_⟩
    have s2 : Same H1 (upd (upd H1 t1 (.lst [.int 1000000000000000000, .int 24])) t2 (.lst [.int 1000000000000000000, .int 24])) := (same_upd n1).trans (same_upd n2)
    refine ⟨.ref t1, .ref t2, .list [.int 1000000000000000000, .int 24], rfl, .lst (same_upd n2 _ _ upd_same) (by show 2 ≤ 100000; decide) (.cons (.int _ _) (.cons (.int _ _) (.nil _))), .lst upd_same (by show 2 ≤ 100000; decide) (.cons (.int _ _) (.cons (.int _ _) (.nil _))), fun H2 s3 => ⟨true, rfl, iteF ?_⟩⟩
    have D2 := (hD.same s2).same s3
    have T2 : LamX.Tabs (lamT Pt) H2 := T1.ext (s2.trans s3)
    -- the lengths
    refine ⟨8, rfl, by decide, by decide, for_range (lo := 0) (n := 8) (fun i σ H3 => ∃ y2 y3 y4 y5 y6 y7 y8 y9 y10, σ = [some (.ref a), some (.ref d), y2, y3, y4, y5, y6, y7, y8, y9, y10] ∧ Draw H3 d l ∧ LamX.Tabs (lamT Pt) H3)
      ⟨_, _, _, _, _, _, _, _, _, rfl, D2, T2⟩ ?_ ?_⟩
    · rintro i_ σ H3 hi ⟨y2, y3, y4, y5, y6, y7, y8, y9, y10, rfl, D3, T3⟩
      refine ⟨.ref d, rfl, .ref d, rfl, d, l, rfl, D3, fun x0 H4 ib0 D4 k4 => ?_⟩
      have T4 := tabs_keep T3 D3 k4
      refine ⟨10, 18, rfl, rfl, ⟨by decide, by decide, by decide⟩, 10, 18, rfl, rfl, ⟨by decide, by decide, by decide⟩, _, 1, rfl, rfl, .ref d, rfl, 10, 18, rfl, rfl, ⟨by decide, by decide, by decide⟩, d, l, _, rfl, D4, by decide, by decide, fun v H5 v0 v1 D5 k5 => ?_⟩
      have T5 := tabs_keep T4 D4 k5
      have v1' : v < 1000000000000000000 := v1
      refine ⟨1, rfl, by show 7 ≤ sizeLine; decide, fun L nL => ?_⟩
      refine ⟨d, l, L, _, rfl, D5.same (same_upd nL), upd_same, D5.ne_new nL, by show 1 ≤ 7; decide, by show 7 ≤ 1000; decide, fun x H6 hx D6 k6 => ?_⟩
      have T6 := tabs_keep (T5.ext (same_upd nL)) (D5.same (same_upd nL)) k6
      have ib : IB x := by
        rcases List.mem_cons.mp hx with rfl | hx
        · exact ib0
        rcases List.mem_cons.mp hx with rfl | hx
        · exact .int (by decide)
        rcases List.mem_cons.mp hx with rfl | hx
        · exact .int (by decide)
        rcases List.mem_cons.mp hx with rfl | hx
        · exact .int (by decide)
        rcases List.mem_cons.mp hx with rfl | hx
        · exact .int (by omega)
        rcases List.mem_cons.mp hx with rfl | hx
        · exact .int (by decide)
        rcases List.mem_cons.mp hx with rfl | hx
        · exact .inr ⟨_, rfl⟩
        · cases hx
      -- good
      refine ⟨fun σ H' => H' = H6 ∧ ∃ g : Bool, σ = [some (.ref a), some (.ref d), some (.int (0 + (i_ : Int))), some (.bl g), y4, y5, y6, y7, y8, some x, y10] ∧ (g = true ↔ goodLen x), ?_, ?_⟩
      · rcases id ib with ⟨i, rfl, hi'⟩ | ⟨b, rfl⟩
        · refine ⟨.int i, rfl, _, _, _, _, false, rfl, ClsV.ty _, TyX.base (TyOf.int _), kit_ty (by decide +kernel), _, rfl, _, rfl, iteT ?_⟩
          refine ⟨.int i, rfl, 0, i, rfl, rfl, _, rfl, ite2 (fun h => ?_) (fun h => ?_)⟩
          · have h' : 0 ≤ i := of_decide_eq_true h
            refine ⟨10, 18, rfl, rfl, ⟨by decide, by decide, by decide⟩, i, _, rfl, rfl, rfl, _, rfl, ?_⟩
            constructor
            · intro e
              exact ⟨i, rfl, h', of_decide_eq_true e⟩
            · rintro ⟨j, e, j0, j1⟩
              cases e
              exact decide_eq_true j1
          · refine ⟨rfl, false, rfl, ?_⟩
            constructor
            · intro e
              cases e
            · rintro ⟨j, e, j0, j1⟩
              cases e
              exact absurd (decide_eq_true j0) h
        · refine ⟨.bl b, rfl, _, _, _, _, true, rfl, ClsV.ty _, TyX.base (TyOf.bl _), kit_ty (by decide +kernel), _, rfl, _, rfl, iteF ?_⟩
          refine ⟨rfl, false, rfl, ?_⟩
          constructor
          · intro e
            cases e
          · rintro ⟨j, e, _⟩
            cases e
      · rintro σ H' ⟨rfl, g, rfl, hg⟩
        obtain ⟨dx, rx⟩ : ∃ dx : PyData, ∀ (H : Hp) (n : Nat), Rp H n x dx := by
          rcases id ib with ⟨i, rfl, _⟩ | ⟨b, rfl⟩
          · exact ⟨_, fun H n => .int n i⟩
          · exact ⟨_, fun H n => .bl n b⟩
        refine ⟨T6, fun H7 eN T7 t0 n0 R hR => ?_⟩
        have D7 := draw_extN D6 eN
        have D8 := D7.same (same_upd (o := .tup [.str "", .non]) n0)
        have T8 : LamX.Tabs (lamT Pt) (upd H7 t0 (.tup [.str "", .non])) := T7.ext (same_upd n0)
        refine ⟨x, rfl, x, rfl, ib.fv, fun hgood => hR _ _ ?_, fun hbad H2 dd s2' nd2 e2 => ⟨dd, x, rfl, rfl, e2, fun H3 t1 s3' e3 => ?_⟩⟩
        · refine ⟨.bl g, rfl, g, rfl, ?_⟩
          rw [hg.mpr hgood]
          refine iteT ?_
          refine ⟨by show 2 ≤ sizeLine; decide, fun t2 n2 => ?_⟩
          refine ⟨.ref t0, .ref t2, .tuple [.str "", .none], rfl, .tup (same_upd n2 _ _ upd_same) (by show 2 ≤ 100000; decide) (.cons (.str _ _) (.cons (.non _) (.nil _))), .tup upd_same (by show 2 ≤ 100000; decide) (.cons (.str _ _) (.cons (.non _) (.nil _))), fun H9 s9 => ⟨true, rfl, iteF ?_⟩⟩
          exact ⟨_, _, _, _, _, _, _, _, _, rfl, (D8.same (same_upd n2)).same s9, T8.ext ((same_upd n2).trans s9)⟩
        · refine ⟨.bl g, rfl, g, rfl, ?_⟩
          have hgf : g = false := by
            cases e : g with
            | false => rfl
            | true => exact absurd (hg.mp e) hbad
          rw [hgf]
          refine iteF ?_
          refine ⟨x, rfl, by show 2 ≤ sizeLine; decide, fun t2 n2 => ?_⟩
          refine ⟨.ref t1, .ref t2, .tuple [.str "BadNumber", dx], rfl, .tup (same_upd n2 _ _ e3) (by show 2 ≤ 100000; decide) (.cons (.str _ _) (.cons (rx _ _) (.nil _))), .tup upd_same (by show 2 ≤ 100000; decide) (.cons (.str _ _) (.cons (rx _ _) (.nil _))), fun H9 s9 => ⟨true, rfl, iteF ?_⟩⟩
          exact ⟨_, _, _, _, _, _, _, _, _, rfl, ((D8.same (s2'.trans s3')).same (same_upd n2)).same s9, T8.ext (((s2'.trans s3').trans (same_upd n2)).trans s9)⟩
    · rintro σ H3 ⟨y2, y3, y4, y5, y6, y7, y8, y9, y10, rfl, D3, _⟩
      -- the matings
      refine ⟨12, rfl, by decide, by decide, for_range (lo := 0) (n := 12) (fun i σ H4 => ∃ y2 y3 y4 y5 y6 y7 y8 y9 y10, σ = [some (.ref a), some (.ref d), y2, y3, y4, y5, y6, y7, y8, y9, y10] ∧ Draw H4 d l) ⟨_, _, _, _, _, _, _, _, _, rfl, D3⟩ ?_ ?_⟩
      · rintro i_ σ H4 hi ⟨y2, y3, y4, y5, y6, y7, y8, y9, y10, rfl, D4⟩
        -- length
        refine ⟨.ref d, rfl, 10, 18, rfl, rfl, ⟨by decide, by decide, by decide⟩, .ref d, rfl, d, l, 9, rfl, D4, by decide, by decide, fun v H5 v0 v1 D5 k5 => ?_⟩
        refine ⟨1, v, rfl, rfl, by show 4 ≤ sizeLine; decide, fun L nL => ?_⟩
        refine ⟨d, l, L, _, rfl, D5.same (same_upd nL), upd_same, D5.ne_new nL, by show 1 ≤ 4; decide, by show 4 ≤ 1000; decide, fun xn H6 hx D6 k6 => ?_⟩
        obtain ⟨n, rfl, n0, n1⟩ : ∃ n : Int, xn = .int n ∧ 0 ≤ n ∧ n ≤ 1000000000000000000 := by
          rcases List.mem_cons.mp hx with rfl | hx
          · exact ⟨_, rfl, by decide, by decide⟩
          rcases List.mem_cons.mp hx with rfl | hx
          · exact ⟨_, rfl, by omega, by omega⟩
          rcases List.mem_cons.mp hx with rfl | hx
          · exact ⟨_, rfl, by decide, by decide⟩
          rcases List.mem_cons.mp hx with rfl | hx
          · exact ⟨_, rfl, by decide, by decide⟩
          · cases hx
        clear hx
        -- many
        refine ⟨.ref d, rfl, .int n, rfl, .int n, rfl, n, 1, rfl, rfl, 1, rfl, .ref d, rfl, d, l, 6, rfl, D6, by decide, by decide, fun v2 H7 v20 v21 D7 k7 => ?_⟩
        refine ⟨1, v2, rfl, rfl, by show 8 ≤ sizeLine; decide, fun L2 nL2 => ?_⟩
        refine ⟨d, l, L2, _, rfl, D7.same (same_upd nL2), upd_same, D7.ne_new nL2, by show 1 ≤ 8; decide, by show 8 ≤ 1000; decide, fun xm H8 hx D8 k8 => ?_⟩
        have im : (∃ m : Int, xm = .int m ∧ -1 ≤ m ∧ m ≤ 1000000000000000001) ∨ xm = .bl true := by
          rcases List.mem_cons.mp hx with rfl | hx
          · exact .inl ⟨_, rfl, by decide, by decide⟩
          rcases List.mem_cons.mp hx with rfl | hx
          · exact .inl ⟨_, rfl, by omega, by omega⟩
          rcases List.mem_cons.mp hx with rfl | hx
          · exact .inl ⟨_, rfl, by omega, by omega⟩
          rcases List.mem_cons.mp hx with rfl | hx
          · exact .inl ⟨_, rfl, by decide, by decide⟩
          rcases List.mem_cons.mp hx with rfl | hx
          · exact .inl ⟨_, rfl, by decide, by decide⟩
          rcases List.mem_cons.mp hx with rfl | hx
          · exact .inl ⟨_, rfl, by omega, by omega⟩
          rcases List.mem_cons.mp hx with rfl | hx
          · exact .inr rfl
          rcases List.mem_cons.mp hx with rfl | hx
          · exact .inl ⟨_, rfl, by decide, by decide⟩
          · cases hx
        clear hx
        have ibm : IB xm := by
          rcases im with ⟨m, rfl, h1, h2⟩ | rfl
          · exact .int (by omega)
          · exact .inr ⟨_, rfl⟩
        -- the difference
        obtain ⟨df, hdf, hdb⟩ : ∃ df : Int, (∀ (H : Hp) (Q : VK), Q (.int df) H → rSubV (.int n) xm H Q) ∧ df.natAbs < 2 ^ 100 := by
          rcases im with ⟨m, rfl, h1, h2⟩ | rfl
          · exact ⟨n - m, fun H Q h => ⟨n, rfl, .inl ⟨m, rfl, h⟩⟩, by omega⟩
          · exact ⟨n - b2i true, fun H Q h => ⟨n, rfl, .inr ⟨true, rfl, h⟩⟩, by show (n - 1).natAbs < 2 ^ 100; omega⟩
        -- one
        refine ⟨.ref d, rfl, .int n, rfl, xm, rfl, hdf _ _ ⟨.int n, rfl, xm, rfl, hdf _ _ ⟨df, 1, rfl, rfl, 1, rfl, .ref d, rfl, d, l, 4, rfl, D8, by decide, by decide, fun v3 H9 v30 v31 D9 k9 => ?_⟩⟩⟩
        refine ⟨by show 6 ≤ sizeLine; decide, fun L3 nL3 => ?_⟩
        refine ⟨d, l, L3, _, rfl, D9.same (same_upd nL3), upd_same, D9.ne_new nL3, by show 1 ≤ 6; decide, by show 6 ≤ 1000; decide, fun xo H10 hx D10 k10 => ?_⟩
        have ibo : IB xo := by
          rcases List.mem_cons.mp hx with rfl | hx
          · exact .int (by decide)
          rcases List.mem_cons.mp hx with rfl | hx
          · exact .int (by omega)
          rcases List.mem_cons.mp hx with rfl | hx
          · exact .int (by omega)
          rcases List.mem_cons.mp hx with rfl | hx
          · exact .int (by decide)
          rcases List.mem_cons.mp hx with rfl | hx
          · exact .int (by omega)
          rcases List.mem_cons.mp hx with rfl | hx
          · exact .inr ⟨_, rfl⟩
          · cases hx
        clear hx
        -- other
        refine ⟨.ref d, rfl, .int n, rfl, xm, rfl, hdf _ _ ⟨.int n, rfl, xm, rfl, hdf _ _ ⟨df, 1, rfl, rfl, 1, rfl, .ref d, rfl, d, l, 4, rfl, D10, by decide, by decide, fun v4 H11 v40 v41 D11 k11 => ?_⟩⟩⟩
        refine ⟨.ref d, rfl, d, l, rfl, D11, fun xq H12 ibq D12 k12 => ?_⟩
        refine ⟨by show 6 ≤ sizeLine; decide, fun L4 nL4 => ?_⟩
        refine ⟨d, l, L4, _, rfl, D12.same (same_upd nL4), upd_same, D12.ne_new nL4, by show 1 ≤ 6; decide, by show 6 ≤ 1000; decide, fun xp H13 hx D13 k13 => ?_⟩
        have ibp : IB xp := by
          rcases List.mem_cons.mp hx with rfl | hx
          · exact .int (by decide)
          rcases List.mem_cons.mp hx with rfl | hx
          · exact .int (by omega)
          rcases List.mem_cons.mp hx with rfl | hx
          · exact .int (by omega)
          rcases List.mem_cons.mp hx with rfl | hx
          · exact .int (by decide)
          rcases List.mem_cons.mp hx with rfl | hx
          · exact .int (by omega)
          rcases List.mem_cons.mp hx with rfl | hx
          · exact ibq
          · cases hx
        clear hx
        -- flips
        refine ⟨.ref d, rfl, 1, rfl, by show 9 ≤ sizeLine; decide, fun L5 nL5 => ?_⟩
        refine ⟨d, l, L5, _, rfl, D13.same (same_upd nL5), upd_same, D13.ne_new nL5, by show 1 ≤ 9; decide, by show 9 ≤ 1000; decide, fun xf H14 hx D14 k14 => ?_⟩
        have ibf : IB xf := by
          have all : ∀ y ∈ ([.int 0, .int 1, .int 0, .int 1, .int 0, .int 1, .int 2, .int (-1), .bl true] : List V), IB y := by
            intro y hy
            simp only [List.mem_cons, List.not_mem_nil, or_false] at hy
            rcases hy with rfl | rfl | rfl | rfl | rfl | rfl | rfl | rfl | rfl
            all_goals first | exact .int (by decide) | exact .inr ⟨_, rfl⟩
          exact all _ hx
        clear hx
        -- due, the first row
        refine ⟨fun σ H' => σ = [some (.ref a), some (.ref d), some (.int (0 + (i_ : Int))), y3, some (.int n), some xm, some xo, some xp, some xf, y9, some (.bl (!([xo, xp, xm, xf].map isB).any id))] ∧ Draw H' d l, ?_, ?_⟩
        · refine ⟨xo, rfl, xp, rfl, xm, rfl, xf, rfl, by show 4 ≤ sizeLine; decide, fun tp ntp => ?_⟩
          refine ⟨tp, rfl, ⟨_, SqT.of upd_same⟩, fun L6 nL6 => lc_tup (K := K) (a := tp) (xs := [xo, xp, xm, xf]) (fun i H2 => Same (upd H14 tp (.tup [xo, xp, xm, xf])) H2 ∧ H2 L6 = some (.lst ((([xo, xp, xm, xf].map isB).take i).map V.bl)))
            ⟨same_upd nL6, upd_same⟩ (fun i H2 _ ⟨sm, _⟩ => SqT.of (sm _ _ upd_same)) ?_ ?_⟩
          · rintro i x H2 hx ⟨sm, e2⟩
            have hi : i < 4 := (List.getElem?_eq_some_iff.mp hx).1
            have hib : IB x := by
              have hm := List.mem_of_getElem? hx
              simp only [List.mem_cons, List.not_mem_nil, or_false] at hm
              rcases hm with rfl | rfl | rfl | rfl
              · exact ibo
              · exact ibp
              · exact ibm
              · exact ibf
            obtain ⟨ty, h1, h2⟩ := hib.ty (K := K) (H := H2)
            refine ⟨rfl, ?_⟩
            refine ⟨x, rfl, _, _, _, _, isB x, rfl, ClsV.ty _, h1, h2, ?_⟩
            refine ⟨_, e2, sz_lt (by rw [List.length_map, List.length_take]; omega), fun b o' hb => ?_, ?_⟩
            · rw [upd_ne (ne_of_none hb nL6)]
              exact sm _ _ hb
            · rw [upd_same, List.take_add_one, List.getElem?_map, hx, List.map_append]
              rfl
          · rintro H2 ⟨sm, e2⟩
            have e2' : H2 L6 = some (.lst (([xo, xp, xm, xf].map isB).map V.bl)) := e2
            exact ⟨L6, _, rfl, SqL.of e2', _, rfl, rfl, (D14.same (same_upd ntp)).same sm⟩
        · rintro σ H15 ⟨rfl, D15⟩
          -- due, the second row
          refine ⟨fun σ H' => σ = [some (.ref a), some (.ref d), some (.int (0 + (i_ : Int))), y3, some (.int n), some xm, some xo, some xp, some xf, y9, some (.bl (isMat n xo xp xm xf))] ∧ Draw H' d l, ?_, ?_⟩
          · refine ⟨_, rfl, _, rfl, ?_⟩
            by_cases hb : ([xo, xp, xm, xf].map isB).any id = true
            · rw [hb]
              refine ⟨?_, D15⟩
              rw [isMat_b hb]
              rfl
            · have hb2 : ([xo, xp, xm, xf].map isB).any id = false := by
                cases e : ([xo, xp, xm, xf].map isB).any id with
                | true => exact absurd e hb
                | false => rfl
              rw [hb2]
              refine iteT ?_
              have hb' := hb2
              simp only [List.map_cons, List.map_nil, List.any_cons, List.any_nil, id, Bool.or_false, Bool.or_eq_false_iff] at hb'
              obtain ⟨b1, b2, b3, b4⟩ := hb'
              obtain ⟨o, rfl, _⟩ := allInt ibo b1
              obtain ⟨p, rfl, _⟩ := allInt ibp b2
              obtain ⟨m, rfl, _⟩ := allInt ibm b3
              obtain ⟨f', rfl, _⟩ := allInt ibf b4
              have no : ∀ H', Draw H' d l → ¬ ((f' = 0 ∨ f' = 1) ∧ 1 ≤ m ∧ 0 ≤ o ∧ 0 ≤ p ∧ o + m ≤ n ∧ p + m ≤ n) → ([some (.ref a), some (.ref d), some (.int (0 + (i_ : Int))), y3, some (.int n), some (.int m), some (.int o), some (.int p), some (.int f'), y9, some (.bl false)] : List (Option V)) = [some (.ref a), some (.ref d), some (.int (0 + (i_ : Int))), y3, some (.int n), some (.int m), some (.int o), some (.int p), some (.int f'), y9, some (.bl (isMat n (.int o) (.int p) (.int m) (.int f')))] ∧ Draw H' d l := fun H' D' h => by
                rw [show isMat n (.int o) (.int p) (.int m) (.int f') = false from decide_eq_false h]
                exact ⟨rfl, D'⟩
              refine ⟨.int m, rfl, m, 1, rfl, rfl, _, rfl, ite2 (fun h1 => ?_) (fun h1 => no _ D15 fun z => h1 (decide_eq_true z.2.1))⟩
              have h1' : 1 ≤ m := of_decide_eq_true h1
              refine ⟨.int f', rfl, by show 2 ≤ sizeLine; decide, fun t2 n2 => ?_⟩
              have D16 := D15.same (same_upd (o := .tup [.int 0, .int 1]) n2)
              refine ⟨t2, _, rfl, .inr (SqT.of upd_same), rfl, rfl, _, rfl, ?_⟩
              rw [if_neg Bool.false_ne_true, inV01]
              refine ite2 (fun h2 => ?_) (fun h2 => no _ D16 fun z => h2 (decide_eq_true z.1))
              have h2' : f' = 0 ∨ f' = 1 := of_decide_eq_true h2
              refine ⟨.int o, rfl, 0, o, rfl, rfl, _, rfl, ?_⟩
              by_cases h3 : 0 ≤ o
              · rw [decide_eq_true h3]
                refine ⟨.int n, rfl, .int m, rfl, n, rfl, .inl ⟨m, rfl, o, n - m, rfl, rfl, _, rfl, ?_⟩⟩
                refine ite2 (fun h4 => ?_) (fun h4 => no _ D16 fun z => h4 (decide_eq_true (by omega)))
                have h4' : o ≤ n - m := of_decide_eq_true h4
                refine ⟨.int p, rfl, 0, p, rfl, rfl, _, rfl, ?_⟩
                refine ite2 (fun h5 => ?_) (fun h5 => no _ D16 fun z => h5 (decide_eq_true z.2.2.2.1))
                have h5' : 0 ≤ p := of_decide_eq_true h5
                refine ⟨.int n, rfl, .int m, rfl, n, rfl, .inl ⟨m, rfl, p, n - m, rfl, rfl, ?_, D16⟩⟩
                have e9 : isMat n (.int o) (.int p) (.int m) (.int f') = decide (p ≤ n - m) := decide_eq_decide.mpr ⟨fun z => by omega, fun z => ⟨h2', h1', h3, h5', by omega, by omega⟩⟩
                rw [e9]
                rfl
              · rw [decide_eq_false h3]
                exact iteF ⟨false, rfl, iteF (no _ D16 fun z => h3 z.2.2.1)⟩
          · rintro σ H16 ⟨rfl, D16⟩
            refine ⟨.int n, rfl, xo, rfl, xp, rfl, xm, rfl, xf, rfl, by show 4 ≤ sizeLine; decide, fun t2 n2 => ?_⟩
            refine ⟨n, t2, xo, xp, xm, xf, rfl, by omega, upd_same, ibo, ibp, ibm, ibf, fun H17 s17 => ?_⟩
            refine ⟨_, rfl, .bl (isMat n xo xp xm xf), .bl (isMat n xo xp xm xf), .bool (isMat n xo xp xm xf), rfl, .bl _ _, .bl _ _, fun H18 s18 => ⟨true, rfl, iteF ?_⟩⟩
            exact ⟨_, _, _, _, _, _, _, _, _, rfl, (D16.same (same_upd n2)).same (s17.trans s18)⟩
      · rintro σ H4 ⟨y2, y3, y4, y5, y6, y7, y8, y9, y10, rfl, D4⟩
        exact q H4
end

/-! ### the head by a run: what the top leaves, told by names -/
theorem len1 {α : Type} {M : List α → Prop} (h : ∀ a, M [a]) : ∀ us : List α, us.length = 1 → M us
  | [a], _ => h a
theorem len2 {α : Type} {M : List α → Prop} (h : ∀ a b, M [a, b]) : ∀ us : List α, us.length = 2 → M us
  | [a, b], _ => h a b
theorem len3 {α : Type} {M : List α → Prop} (h : ∀ a b c, M [a, b, c]) : ∀ us : List α, us.length = 3 → M us
  | [a, b, c], _ => h a b c
theorem len4 {α : Type} {M : List α → Prop} (h : ∀ a b c d, M [a, b, c, d]) : ∀ us : List α, us.length = 4 → M us
  | [a, b, c, d], _ => h a b c d
def dD (x : Str) (st : Stmt) : He.DefD := { at_ := (x, none), name := x, qual := x, params := defArgs st, body := defBody st, scope := defScope st }
def dM (C m q : Str) (st : Stmt) : He.DefD := { at_ := (C, some m), name := m, qual := q, params := defArgs st, body := defBody st, scope := defScope st }
def dMs (C m q : Str) (st : Stmt) : He.DefD := { at_ := (C, some m), name := m, qual := q, params := defArgs st, body := defBody st, scope := defScope st, dfl := [.str ""] }
section
variable {K : PySem.W.Frag} {fas : List He.Fa} {fns : List He.DefD}
theorem raw_of {x q : Str} {ar : Arguments} {bd : List Stmt} {sc : Scope} {f : Addr} {fd : FuncData} (F : FunD K x q ar bd sc [] [] f fd) :
    ∃ oc od osl kV doc pm an cd ct, K.lookup f = some ⟨oc, od, .func (PySem.W.fnOf x q ar bd sc .none kV doc pm an cd ct), osl⟩ ∧ PySem.W.codeIn K cd q = true ∧ PySem.W.keepIn K (.ref f) = true := by
  obtain ⟨⟨oc, od, dV, kV, doc, pm, an, cd, ct, osl, rfl, hlk, hco, hdf, _⟩, hkp⟩ := F
  rcases hdf with ⟨_, hz⟩ | ⟨hne, _⟩
  · subst hz
    exact ⟨oc, od, osl, kV, doc, pm, an, cd, ct, hlk, hco, hkp⟩
  · exact absurd rfl hne
theorem say_def (c : He.SaysD fas fns K) (i : Nat) {x : Str} {st : Stmt} (e : fns[i]? = some (dD x st)) :
    ∃ oc od osl kV doc pm an cd ct, K.lookup (He.ga K x) = some ⟨oc, od, .func (PySem.W.fnOf x x (defArgs st) (defBody st) (defScope st) .none kV doc pm an cd ct), osl⟩ ∧ PySem.W.codeIn K cd x = true ∧ PySem.W.keepIn K (.ref (He.ga K x)) = true := by
  obtain ⟨fd, F⟩ := c.def_ i e
  exact raw_of F
theorem say_meth (c : He.SaysD fas fns K) (i : Nat) {C m q : Str} {st : Stmt} (e : fns[i]? = some (dM C m q st)) :
    ∃ oc od osl kV doc pm an cd ct, K.lookup (He.ma K (He.ga K C) m) = some ⟨oc, od, .func (PySem.W.fnOf m q (defArgs st) (defBody st) (defScope st) .none kV doc pm an cd ct), osl⟩ ∧ PySem.W.codeIn K cd q = true ∧ PySem.W.keepIn K (.ref (He.ma K (He.ga K C) m)) = true := by
  obtain ⟨fd, F⟩ := c.def_ i e
  exact raw_of F
theorem say_far (c : He.SaysD fas fns K) (i : Nat) {C m q : Str} {st : Stmt} (e : fns[i]? = some (dMs C m q st)) :
    ∃ fd, FunD K m q (defArgs st) (defBody st) (defScope st) [.str ""] [] (He.ma K (He.ga K C) m) fd := by
  obtain ⟨fd, F⟩ := c.def_ i e
  exact ⟨fd, F⟩
theorem say_law (c : He.SaysD fas fns K) (i : Nat) {x : Str} {st : Stmt} (e : fns[i]? = some (dD x st)) :
    ∃ oc od osl kV doc pm an ct, K.lookup (He.ga K x) = some ⟨oc, od, .func (PySem.W.fnOf x x (defArgs st) (defBody st) (defScope st) .none kV doc pm an (.ref (He.cT K (x, none)).1) ct), osl⟩ ∧ PySem.W.codeIn K (.ref (He.cT K (x, none)).1) x = true ∧ PySem.W.keepIn K (.ref (He.ga K x)) = true := by
  obtain ⟨oc, od, osl, kV, doc, pm, an, cd, ct, h1, h2, h3⟩ := say_def c i e
  obtain ⟨z, rfl⟩ := He.codeIn_ref h2
  have hz : He.codeOf K (x, none) = z := He.codeOf_eq (p := (x, none)) h1 rfl
  have hz2 : (He.cT K (x, none)).1 = z := hz
  rw [hz2]
  exact ⟨oc, od, osl, kV, doc, pm, an, ct, h1, h2, h3⟩
theorem say_int (c : He.SaysD fas fns K) (j : Nat) {x : Str} {i : Int} (e : fas[j]? = some (.int x i)) : ∃ t, PySem.W.nsIn K mainGlobals x = some (some (.int i t)) := by
  have q : (match PySem.W.nsIn K mainGlobals x with | some (some (.int u _)) => decide (u = i) | _ => false) = true := c.fact j e
  split at q
  · rename_i k t hk
    have hki := of_decide_eq_true q
    subst hki
    exact ⟨t, hk⟩
  · cases q
theorem say_str (c : He.SaysD fas fns K) (j : Nat) {x z : Str} (e : fas[j]? = some (.str x z)) : ∃ t, PySem.W.nsIn K mainGlobals x = some (some (.str z t)) := by
  have q : (match PySem.W.nsIn K mainGlobals x with | some (some (.str u _)) => decide (u = z) | _ => false) = true := c.fact j e
  split at q
  · rename_i k t hk
    have hki := of_decide_eq_true q
    subst hki
    exact ⟨t, hk⟩
  · cases q
theorem all_at {l : List Bool} (h : l.all (fun b => b) = true) (i : Nat) {b : Bool} (e : l[i]? = some b) : b = true := List.all_eq_true.mp h b (List.mem_of_getElem? e)
/-- what is looked at of an own error's class -/
def errB (K : PySem.W.Frag) (C : Addr) : Bool := (match K.lookup C with
    | some ⟨.type t, _, .cls cd, sl⟩ => decide (t = "type") && (cd.hasDict && (!cd.hasDel && (match cd.mro, sl.toList with
      | .ref D :: bm, [_, _, _, _, some (.builtin n), _] => decide (D = C) && (decide (n = "ValueError.__new__") && PySem.HandSPX.refsVE bm)
      | _, _ => false)))
    | _ => false) && (He.eqO (PySem.W.findIn K (.ref C) "__setattr__") (some (some (.builtin "object.__setattr__"))) && (decide (PySem.W.subIn K (.ref C) (.type "BaseException") = some true) &&
  (decide (PySem.W.typeIn K (.ref C) = some (.type "type")) && (PySem.W.keepIn K (.ref C) && He.eqO (PySem.W.findIn K (.ref C) "word") (some none)))))
theorem errB_ok {C : Addr} (h : errB K C = true) : ErrT K C := by
  obtain ⟨h0, h⟩ := He.ba h
  obtain ⟨h1, h⟩ := He.ba h
  obtain ⟨h2, h⟩ := He.ba h
  obtain ⟨h3, h⟩ := He.ba h
  obtain ⟨h4, h5⟩ := He.ba h
  refine ⟨⟨?_, He.eqO_ok h1, of_decide_eq_true h2, of_decide_eq_true h3, h4⟩, He.eqO_ok h5⟩
  split at h0
  · rename_i t dd cd sl hC
    obtain ⟨g1, g⟩ := He.ba h0
    obtain ⟨g2, g⟩ := He.ba g
    obtain ⟨g3, g⟩ := He.ba g
    have e1 : t = "type" := of_decide_eq_true g1
    subst e1
    split at g
    · rename_i D bm y0 y1 y2 y3 n y5 hm hs
      obtain ⟨e2, g⟩ := He.ba g
      obtain ⟨e3, e4⟩ := He.ba g
      have e2' := of_decide_eq_true e2
      have e3' := of_decide_eq_true e3
      subst e2' e3'
      obtain ⟨nm, bs, mro, ns, qn, hd, sn, sub, ab, col, del⟩ := cd
      obtain ⟨sll⟩ := sl
      have e5 : mro = .ref D :: bm := hm
      have e6 : hd = true := g2
      have e7 : del = false := by
        cases del with
        | false => rfl
        | true => cases g3
      have e8 : sll = [y0, y1, y2, y3, some (.builtin "ValueError.__new__"), y5] := hs
      subst e5 e6 e7 e8
      exact ⟨nm, qn, ns, bs, bm, sn, sub, ab, col, dd, y0, y1, y2, y3, y5, hC, e4⟩
    · cases g
  · cases h0
def excB (K : PySem.W.Frag) (C : Addr) : Bool := xfB K C && (He.eqO (PySem.W.findIn K (.ref C) "__class__") (some (some (.builtin "object.__class__"))) && (He.eqO (PySem.W.specialIn K (.builtin "object.__class__") "__get__") (some (some (.builtin "getset_descriptor.__get__"))) &&
  (decide (PySem.W.takesIn K (.builtin "object.__class__") = some true) && decide (PySem.W.mroIn K C (.type "object") = some true))))
theorem excB_ok {C : Addr} (h : excB K C = true) : ExcC K C := by
  obtain ⟨h0, h⟩ := He.ba h
  obtain ⟨h1, h⟩ := He.ba h
  obtain ⟨h2, h⟩ := He.ba h
  obtain ⟨h3, h4⟩ := He.ba h
  have x := xfB_ok h0
  exact ⟨x.ga, x.gg, x.exC, x.hdC, He.eqO_ok h1, He.eqO_ok h2, of_decide_eq_true h3, of_decide_eq_true h4⟩
def cfnB (K : PySem.W.Frag) (C : Addr) (m : Str) (f : Addr) : Bool := He.eqO (PySem.W.specialIn K (.ref C) "__getattribute__") (some (some (.builtin "type.__getattribute__"))) && (PySem.W.readsIn K C (.type "type") && ((match PySem.W.findCls K (.ref C) (.type "type") m with
    | some (.val (.ref g)) => decide (g = f)
    | _ => false) && PySem.W.keepIn K (.ref f)))
theorem cfnB_ok {C f : Addr} {m : Str} (h : cfnB K C m f = true) : ClsFn K C m f := by
  obtain ⟨h0, h⟩ := He.ba h
  obtain ⟨h1, h⟩ := He.ba h
  obtain ⟨h2, h3⟩ := He.ba h
  refine ⟨He.eqO_ok h0, h1, ?_, h3⟩
  split at h2
  · rename_i g hg
    have e := of_decide_eq_true h2
    subst e
    exact hg
  · cases h2
def bltB (K : PySem.W.Frag) (T m b : String) : Bool := match PySem.W.findCls K (.type T) (.type "type") m with
  | some (.val (.builtin g)) => decide (g = b)
  | _ => false
theorem bltB_ok {T m b : String} (h : bltB K T m b = true) : PySem.W.findCls K (.type T) (.type "type") m = some (.val (.builtin b)) := by
  unfold bltB at h
  split at h
  · rename_i g hg
    have e := of_decide_eq_true h
    subst e
    exact hg
  · cases h
theorem far_binds {f : Addr} {fd : FuncData} (F : FunD K "__init__" "FarError.__init__" (defArgs s_farinit) (defBody s_farinit) (defScope s_farinit) [.str ""] [] f fd) : Binds K fd N_farinit [] := by
  obtain ⟨ds, v, b⟩ := F.binds1 (ps := N_farinit) 2 1 (by simp) rfl fun T kV doc pm an cdv ct us its hu hi => match us, hu, its, hi with | [_, _], _, [_], _ => ⟨_, rfl, rfl⟩
  cases v
  exact b
end
/-! ### the hook: what the names reach, and the statics -/
def lawAt : He.Defn := ("law", none)
def seenY (g : Addr → Option Obj) : PySem.W.Frag := He.frT g (cStatics :: He.asD g 5)
def tabY (g : Addr → Option Obj) (K : PySem.W.Frag) : Bool := PySem.W.codeHdIn K (He.cT K lawAt).1 (He.cT K lawAt).2 && (g (He.cT K lawAt).2).any He.emptyTab
structure SaysY (fas : List He.Fa) (fns : List He.DefD) (ex : PySem.W.Frag → List Bool) (h : Heap) (K : PySem.W.Frag) : Prop where
  d : He.SaysD fas fns K
  more : (ex K).all (fun b => b) = true
  hd : PySem.W.codeHdIn K (He.cT K lawAt).1 (He.cT K lawAt).2 = true
  out : K.lookup (He.cT K lawAt).2 = none
  mt : h.get? (He.cT K lawAt).2 = some (PySem.W.tabObj #[])
abbrev AlY : Type := He.AlD × Bool
def obsY (fas : List He.Fa) (fns : List He.DefD) (ex : PySem.W.Frag → List Bool) (g : Addr → Option Obj) : AlY := (He.obsD fas fns (seenY g), (ex (seenY g)).all (fun b => b) && tabY g (seenY g))
theorem saysY_of {fas : List He.Fa} {fns : List He.DefD} {ex : PySem.W.Frag → List Bool} {h : Heap} (e : obsY fas fns ex h.get? = (He.valD fns, true)) : SaysY fas fns ex h (seenY h.get?) := by
  have e1 : He.obsD fas fns (seenY h.get?) = He.valD fns := congrArg (fun z : AlY => z.1) e
  have e2 : ((ex (seenY h.get?)).all (fun b => b) && tabY h.get? (seenY h.get?)) = true := congrArg (fun z : AlY => z.2) e
  obtain ⟨m1, m2⟩ := He.ba e2
  obtain ⟨m3, m4⟩ := He.ba m2
  have m5 : ∃ u, h.get? (He.cT (seenY h.get?) lawAt).2 = some u ∧ He.emptyTab u = true := by
    cases q : h.get? (He.cT (seenY h.get?) lawAt).2 with
    | none =>
      rw [q] at m4
      cases m4
    | some u =>
      rw [q] at m4
      exact ⟨u, rfl, m4⟩
  obtain ⟨u, hu, hv⟩ := m5
  exact ⟨e1, m1, m3, He.frT_none hu hv, hu.trans (congrArg some (He.emptyTab_eq hv))⟩
def hookY (fas : List He.Fa) (fns : List He.DefD) (ex : PySem.W.Frag → List Bool) : PySem.W.Hook where
  α := AlY
  obs := fun s => obsY fas fns ex s.heap.get?
  val := fun _ => (He.valD fns, true)
  says := fun _ h => ∃ K : PySem.W.Frag, K.In h ∧ SaysY fas fns ex h K
  of := fun _ _ e => ⟨_, He.frT_in, saysY_of e⟩
  keeps := fun _ _ _ ⟨K, a, b⟩ k => ⟨K, PySem.W.Frag.In.keeps a k, b.d, b.more, b.hd, b.out, k _ _ b.mt⟩
theorem obsY_eq {fas : List He.Fa} {fns : List He.DefD} {ex : PySem.W.Frag → List Bool} (s : PySem.W.SharedT) : obsY fas fns ex (HandSHeadRun.getT s) = (hookY fas fns ex).obs s.abs := by
  have e : HandSHeadRun.getT s = s.abs.heap.get? := funext (HandSHeadRun.getT_eq s)
  rw [e]
  rfl
theorem all_mk {l : PySem.W.OpenLaw} {w : World} {K : PySem.W.Frag} {h : Heap} {mg : Str → Option Value} {fa : Addr}
    {f0 : Addr} {od0 an0 : Option Addr} {sl0 : Array (Option Value)} {oc0 kV0 dc0 pm0 ct0 cd0 : Value}
    {f1 : Addr} {od1 an1 : Option Addr} {sl1 : Array (Option Value)} {oc1 kV1 dc1 pm1 ct1 cd1 : Value}
    {f2 : Addr} {od2 an2 : Option Addr} {sl2 : Array (Option Value)} {oc2 kV2 dc2 pm2 ct2 cd2 : Value}
    {f3 : Addr} {od3 an3 : Option Addr} {sl3 : Array (Option Value)} {oc3 kV3 dc3 pm3 ct3 cd3 : Value}
    {f4 : Addr} {od4 an4 : Option Addr} {sl4 : Array (Option Value)} {oc4 kV4 dc4 pm4 ct4 cd4 : Value}
    {f5 : Addr} {od5 an5 : Option Addr} {sl5 : Array (Option Value)} {oc5 kV5 dc5 pm5 ct5 cd5 : Value}
    {f6 : Addr} {od6 an6 : Option Addr} {sl6 : Array (Option Value)} {oc6 kV6 dc6 pm6 ct6 cd6 : Value}
    {f7 : Addr} {od7 an7 : Option Addr} {sl7 : Array (Option Value)} {oc7 kV7 dc7 pm7 ct7 cd7 : Value}
    {f8 : Addr} {od8 an8 : Option Addr} {sl8 : Array (Option Value)} {oc8 kV8 dc8 pm8 ct8 cd8 : Value}
    {f9 : Addr} {od9 an9 : Option Addr} {sl9 : Array (Option Value)} {oc9 kV9 dc9 pm9 ct9 cd9 : Value}
    {f10 : Addr} {od10 an10 : Option Addr} {sl10 : Array (Option Value)} {oc10 kV10 dc10 pm10 ct10 cd10 : Value}
    {f11 c Pt : Addr} {od11 an11 : Option Addr} {sl11 : Array (Option Value)} {oc11 kV11 dc11 pm11 ct11 : Value}
    {C_FarError f_FarError : Addr} {fdF : FuncData}
    {C_BadNumber f_BadNumber : Addr} {od_BadNumber an_BadNumber : Option Addr} {sl_BadNumber : Array (Option Value)} {oc_BadNumber kV_BadNumber dc_BadNumber pm_BadNumber cd_BadNumber ct_BadNumber : Value}
    {C_NoMating C_NoFamily C_TooMuch : Addr}
    {tk_FAR : Tok}
    {tk_MOST : Tok}
    (X : K.In h) (G : h.Ns mainGlobals mg) (hfa : mg "law" = some (.ref fa)) (hT : h.get? Pt = some (PySem.W.tabObj #[]))
    (a0 : PySem.W.nsIn K mainGlobals "_law_open" = some (some (.ref f0))) (l0 : K.lookup f0 = some ⟨oc0, od0, .func (PySem.W.fnOf "_law_open" "_law_open" (defArgs s_open) (defBody s_open) (defScope s_open) .none kV0 dc0 pm0 an0 cd0 ct0), sl0⟩) (c0 : PySem.W.codeIn K cd0 "_law_open" = true) (k0 : PySem.W.keepIn K (.ref f0) = true)
    (a1 : PySem.W.nsIn K mainGlobals "_law_pull" = some (some (.ref f1))) (l1 : K.lookup f1 = some ⟨oc1, od1, .func (PySem.W.fnOf "_law_pull" "_law_pull" (defArgs s_pull) (defBody s_pull) (defScope s_pull) .none kV1 dc1 pm1 an1 cd1 ct1), sl1⟩) (c1 : PySem.W.codeIn K cd1 "_law_pull" = true) (k1 : PySem.W.keepIn K (.ref f1) = true)
    (a2 : PySem.W.nsIn K mainGlobals "_law_like" = some (some (.ref f2))) (l2 : K.lookup f2 = some ⟨oc2, od2, .func (PySem.W.fnOf "_law_like" "_law_like" (defArgs s_like) (defBody s_like) (defScope s_like) .none kV2 dc2 pm2 an2 cd2 ct2), sl2⟩) (c2 : PySem.W.codeIn K cd2 "_law_like" = true) (k2 : PySem.W.keepIn K (.ref f2) = true)
    (a3 : PySem.W.nsIn K mainGlobals "_law_any" = some (some (.ref f3))) (l3 : K.lookup f3 = some ⟨oc3, od3, .func (PySem.W.fnOf "_law_any" "_law_any" (defArgs s_any) (defBody s_any) (defScope s_any) .none kV3 dc3 pm3 an3 cd3 ct3), sl3⟩) (c3 : PySem.W.codeIn K cd3 "_law_any" = true) (k3 : PySem.W.keepIn K (.ref f3) = true)
    (a4 : PySem.W.nsIn K mainGlobals "_law_odd" = some (some (.ref f4))) (l4 : K.lookup f4 = some ⟨oc4, od4, .func (PySem.W.fnOf "_law_odd" "_law_odd" (defArgs s_odd) (defBody s_odd) (defScope s_odd) .none kV4 dc4 pm4 an4 cd4 ct4), sl4⟩) (c4 : PySem.W.codeIn K cd4 "_law_odd" = true) (k4 : PySem.W.keepIn K (.ref f4) = true)
    (a5 : PySem.W.nsIn K mainGlobals "need_from" = some (some (.ref f5))) (l5 : K.lookup f5 = some ⟨oc5, od5, .func (PySem.W.fnOf "need_from" "need_from" (defArgs s_need_from) (defBody s_need_from) (defScope s_need_from) .none kV5 dc5 pm5 an5 cd5 ct5), sl5⟩) (c5 : PySem.W.codeIn K cd5 "need_from" = true) (k5 : PySem.W.keepIn K (.ref f5) = true)
    (a6 : PySem.W.nsIn K mainGlobals "need_within" = some (some (.ref f6))) (l6 : K.lookup f6 = some ⟨oc6, od6, .func (PySem.W.fnOf "need_within" "need_within" (defArgs s_need_within) (defBody s_need_within) (defScope s_need_within) .none kV6 dc6 pm6 an6 cd6 ct6), sl6⟩) (c6 : PySem.W.codeIn K cd6 "need_within" = true) (k6 : PySem.W.keepIn K (.ref f6) = true)
    (a7 : PySem.W.nsIn K mainGlobals "need_length" = some (some (.ref f7))) (l7 : K.lookup f7 = some ⟨oc7, od7, .func (PySem.W.fnOf "need_length" "need_length" (defArgs s_need_length) (defBody s_need_length) (defScope s_need_length) .none kV7 dc7 pm7 an7 cd7 ct7), sl7⟩) (c7 : PySem.W.codeIn K cd7 "need_length" = true) (k7 : PySem.W.keepIn K (.ref f7) = true)
    (a8 : PySem.W.nsIn K mainGlobals "is_mating" = some (some (.ref f8))) (l8 : K.lookup f8 = some ⟨oc8, od8, .func (PySem.W.fnOf "is_mating" "is_mating" (defArgs s_is_mating) (defBody s_is_mating) (defScope s_is_mating) .none kV8 dc8 pm8 an8 cd8 ct8), sl8⟩) (c8 : PySem.W.codeIn K cd8 "is_mating" = true) (k8 : PySem.W.keepIn K (.ref f8) = true)
    (a9 : PySem.W.nsIn K mainGlobals "_law_why" = some (some (.ref f9))) (l9 : K.lookup f9 = some ⟨oc9, od9, .func (PySem.W.fnOf "_law_why" "_law_why" (defArgs s_why) (defBody s_why) (defScope s_why) .none kV9 dc9 pm9 an9 cd9 ct9), sl9⟩) (c9 : PySem.W.codeIn K cd9 "_law_why" = true) (k9 : PySem.W.keepIn K (.ref f9) = true)
    (a10 : PySem.W.nsIn K mainGlobals "_law_fields" = some (some (.ref f10))) (l10 : K.lookup f10 = some ⟨oc10, od10, .func (PySem.W.fnOf "_law_fields" "_law_fields" (defArgs s_fields) (defBody s_fields) (defScope s_fields) .none kV10 dc10 pm10 an10 cd10 ct10), sl10⟩) (c10 : PySem.W.codeIn K cd10 "_law_fields" = true) (k10 : PySem.W.keepIn K (.ref f10) = true)
    (a11 : PySem.W.nsIn K mainGlobals "law" = some (some (.ref f11))) (l11 : K.lookup f11 = some ⟨oc11, od11, .func (PySem.W.fnOf "law" "law" (defArgs s_law) (defBody s_law) (defScope s_law) .none kV11 dc11 pm11 an11 (.ref c) ct11), sl11⟩) (c11 : PySem.W.codeIn K (.ref c) "law" = true) (k11 : PySem.W.keepIn K (.ref f11) = true)
    (z0 : PySem.W.nsIn K mainGlobals "len" = some none) (z1 : PySem.W.nsIn K mainGlobals "list" = some none) (z2 : PySem.W.nsIn K mainGlobals "tuple" = some none) (z3 : PySem.W.nsIn K mainGlobals "bool" = some none)
    (z4 : PySem.W.nsIn K mainGlobals "int" = some none) (z5 : PySem.W.nsIn K mainGlobals "str" = some none) (z6 : PySem.W.nsIn K mainGlobals "isinstance" = some none) (z7 : PySem.W.nsIn K mainGlobals "all" = some none)
    (z8 : PySem.W.nsIn K mainGlobals "any" = some none) (z9 : PySem.W.nsIn K mainGlobals "range" = some none) (z10 : PySem.W.nsIn K mainGlobals "max" = some none) (z11 : PySem.W.nsIn K mainGlobals "min" = some none)
    (z12 : PySem.W.nsIn K mainGlobals "dict" = some none) (z13 : PySem.W.nsIn K mainGlobals "sorted" = some none) (zV : PySem.W.nsIn K mainGlobals "ValueError" = some none) (hP : PySem.W.codeHdIn K c Pt = true)
    (nP : K.lookup Pt = none) (gF : PySem.W.nsIn K mainGlobals "FarError" = some (some (.ref C_FarError))) (TF : ClsFn K C_FarError "__init__" f_FarError) (FF : FunD K "__init__" "FarError.__init__" (defArgs s_farinit) (defBody s_farinit) (defScope s_farinit) [.str ""] [] f_FarError fdF)
    (fF8 : PySem.W.findCls K (.type "ValueError") (.type "type") "__init__" = some (.val (.builtin "ValueError.__init__"))) (g_BadNumber : PySem.W.nsIn K mainGlobals "BadNumber" = some (some (.ref C_BadNumber))) (E_BadNumber : ErrT K C_BadNumber) (XF_BadNumber : XfC K C_BadNumber)
    (EC_BadNumber : ExcC K C_BadNumber) (M_BadNumber : PySem.W.exmOne K (.ref C_BadNumber) (.ref C_FarError) = some true) (n_BadNumber_number : PySem.W.findIn K (.ref C_BadNumber) "number" = some none) (i_BadNumber : PySem.W.findIn K (.ref C_BadNumber) "__init__" = some (some (.ref f_BadNumber)))
    (t_BadNumber : PySem.W.typeIn K (.ref f_BadNumber) = some (.type "function")) (l_BadNumber : K.lookup f_BadNumber = some ⟨oc_BadNumber, od_BadNumber, .func (PySem.W.fnOf "__init__" "BadNumber.__init__" (defArgs s_bninit) (defBody s_bninit) (defScope s_bninit) .none kV_BadNumber dc_BadNumber pm_BadNumber an_BadNumber cd_BadNumber ct_BadNumber), sl_BadNumber⟩) (c_BadNumber : PySem.W.codeIn K cd_BadNumber "BadNumber.__init__" = true) (k_BadNumber : PySem.W.keepIn K (.ref f_BadNumber) = true)
    (g_NoMating : PySem.W.nsIn K mainGlobals "NoMating" = some (some (.ref C_NoMating))) (g_NoFamily : PySem.W.nsIn K mainGlobals "NoFamily" = some (some (.ref C_NoFamily))) (g_TooMuch : PySem.W.nsIn K mainGlobals "TooMuch" = some (some (.ref C_TooMuch))) (g_FAR : PySem.W.nsIn K mainGlobals "FAR" = some (some (.int 1000000000000000000 tk_FAR)))
    (g_MOST : PySem.W.nsIn K mainGlobals "MOST" = some (some (.int 24 tk_MOST))) :
    LamX.LawAtS l w K CX0 12 63 "_law_script" mg fa h := by
  have e := hfa.symm.trans (PySem.W.mg_of X G a11)
  cases e
  have B : Bn mg := ⟨PySem.W.mg_none_of X G z0, PySem.W.mg_none_of X G z1, PySem.W.mg_none_of X G z2, PySem.W.mg_none_of X G z3, PySem.W.mg_none_of X G z4, PySem.W.mg_none_of X G z5, PySem.W.mg_none_of X G z6, PySem.W.mg_none_of X G z7, PySem.W.mg_none_of X G z8, PySem.W.mg_none_of X G z9, PySem.W.mg_none_of X G z10, PySem.W.mg_none_of X G z11, PySem.W.mg_none_of X G z12, PySem.W.mg_none_of X G z13⟩
  have F0 := fun_mk (st := s_open) l0 c0 k0
  have D_open : DefAt K mg "_law_open" s_open P_open _ _ := ⟨F0, F0.binds (ps := P_open) fun _ _ _ _ _ _ => by exact len1 (fun _ => rfl), PySem.W.mg_of X G a0⟩
  have F1 := fun_mk (st := s_pull) l1 c1 k1
  have D_pull : DefAt K mg "_law_pull" s_pull P_pull _ _ := ⟨F1, F1.binds (ps := P_pull) fun _ _ _ _ _ _ => by exact len2 (fun _ _ => rfl), PySem.W.mg_of X G a1⟩
  have F2 := fun_mk (st := s_like) l2 c2 k2
  have D_like : DefAt K mg "_law_like" s_like P_like _ _ := ⟨F2, F2.binds (ps := P_like) fun _ _ _ _ _ _ => by exact len2 (fun _ _ => rfl), PySem.W.mg_of X G a2⟩
  have F3 := fun_mk (st := s_any) l3 c3 k3
  have D_any : DefAt K mg "_law_any" s_any P_any _ _ := ⟨F3, F3.binds (ps := P_any) fun _ _ _ _ _ _ => by exact len2 (fun _ _ => rfl), PySem.W.mg_of X G a3⟩
  have F4 := fun_mk (st := s_odd) l4 c4 k4
  have D_odd : DefAt K mg "_law_odd" s_odd P_odd _ _ := ⟨F4, F4.binds (ps := P_odd) fun _ _ _ _ _ _ => by exact len1 (fun _ => rfl), PySem.W.mg_of X G a4⟩
  have F5 := fun_mk (st := s_need_from) l5 c5 k5
  have D_need_from : DefAt K mg "need_from" s_need_from P_need_from _ _ := ⟨F5, F5.binds (ps := P_need_from) fun _ _ _ _ _ _ => by exact len2 (fun _ _ => rfl), PySem.W.mg_of X G a5⟩
  have F6 := fun_mk (st := s_need_within) l6 c6 k6
  have D_need_within : DefAt K mg "need_within" s_need_within P_need_within _ _ := ⟨F6, F6.binds (ps := P_need_within) fun _ _ _ _ _ _ => by exact len3 (fun _ _ _ => rfl), PySem.W.mg_of X G a6⟩
  have F7 := fun_mk (st := s_need_length) l7 c7 k7
  have D_need_length : DefAt K mg "need_length" s_need_length P_need_length _ _ := ⟨F7, F7.binds (ps := P_need_length) fun _ _ _ _ _ _ => by exact len1 (fun _ => rfl), PySem.W.mg_of X G a7⟩
  have F8 := fun_mk (st := s_is_mating) l8 c8 k8
  have D_is_mating : DefAt K mg "is_mating" s_is_mating P_is_mating _ _ := ⟨F8, F8.binds (ps := P_is_mating) fun _ _ _ _ _ _ => by exact len2 (fun _ _ => rfl), PySem.W.mg_of X G a8⟩
  have F9 := fun_mk (st := s_why) l9 c9 k9
  have D_why : DefAt K mg "_law_why" s_why P_why _ _ := ⟨F9, F9.binds (ps := P_why) fun _ _ _ _ _ _ => by exact len1 (fun _ => rfl), PySem.W.mg_of X G a9⟩
  have F10 := fun_mk (st := s_fields) l10 c10 k10
  have D_fields : DefAt K mg "_law_fields" s_fields P_fields _ _ := ⟨F10, F10.binds (ps := P_fields) fun _ _ _ _ _ _ => by exact len1 (fun _ => rfl), PySem.W.mg_of X G a10⟩
  have GF : ∀ base : Heap, FnOk l.prog w K mg base CX0 1 f_FarError _ N_farinit (spFarInit K) := fun base => ok_farinit FF (PySem.W.mg_none_of X G zV) fF8
  have FI_BadNumber := fun_mk (x := "__init__") (qual := "BadNumber.__init__") (st := s_bninit) l_BadNumber c_BadNumber k_BadNumber
  have bI_BadNumber := FI_BadNumber.binds (ps := N_bninit) fun _ _ _ _ _ _ => by exact len2 (fun _ _ => rfl)
  have TBn : BnT K mg C_FarError C_BadNumber f_BadNumber _ := ⟨PySem.W.mg_of X G gF, PySem.W.mg_of X G g_BadNumber, E_BadNumber, XF_BadNumber, EC_BadNumber, n_BadNumber_number, i_BadNumber, t_BadNumber, bI_BadNumber, M_BadNumber⟩
  refine ⟨PySem.W.fnOf "law" "law" (defArgs s_law) (defBody s_law) (defScope s_law) .none kV11 dc11 pm11 an11 (.ref c) ct11, [(c, Pt)], spLawT K Pt, fun p hp => ?_, fun p hp => ?_, fun p hp => ?_, fun s u => ?b, fun H a ns hl _ hH hS => ⟨a, ns, rfl, hS, hl, hH _ List.mem_cons_self, fun _ => rfl⟩, fun base KB GB TB => ?ok⟩
  case ok =>
    exact ok_law l11 c11 (TB _ List.mem_cons_self) D_open D_pull D_like D_any D_odd D_need_from D_need_within D_need_length D_is_mating D_why D_fields TBn (ok_bninit FI_BadNumber (PySem.W.mg_of X G gF) TF (far_binds FF) (GF base)) (PySem.W.mg_of X G g_NoMating) (PySem.W.mg_of X G g_NoFamily) (PySem.W.mg_of X G g_TooMuch) (PySem.W.mg_of X G g_FAR) (PySem.W.mg_of X G g_MOST) B
  case b => exact .of_eq rfl
  · rw [List.mem_singleton.mp hp]; exact hT
  · rw [List.mem_singleton.mp hp]; exact nP
  · rw [List.mem_singleton.mp hp]; exact PySem.W.codeHd_of_K X hP
def fnL0 : List He.DefD := [dD "_law_open" s_open, dD "_law_pull" s_pull, dD "_law_like" s_like, dD "_law_any" s_any, dD "_law_odd" s_odd, dD "need_from" s_need_from, dD "need_within" s_need_within, dD "need_length" s_need_length, dD "is_mating" s_is_mating, dD "_law_why" s_why, dD "_law_fields" s_fields, dD "law" s_law, dMs "FarError" "__init__" "FarError.__init__" s_farinit, dM "BadNumber" "__init__" "BadNumber.__init__" s_bninit]
def fnL : List He.DefD := fnL0
def faL0 : List He.Fa := [.glo "_law_open", .glo "_law_pull", .glo "_law_like", .glo "_law_any", .glo "_law_odd", .glo "need_from", .glo "need_within", .glo "need_length", .glo "is_mating", .glo "_law_why", .glo "_law_fields", .glo "law", .free "len", .free "list", .free "tuple", .free "bool", .free "int", .free "str", .free "isinstance", .free "all", .free "any", .free "range", .free "max", .free "min", .free "dict", .free "sorted", .free "ValueError", .glo "FarError", .glo "BadNumber", .noat "BadNumber" "number"]
def faL1 : List He.Fa := [.glo "NoMating", .glo "NoFamily", .glo "TooMuch", .int "FAR" 1000000000000000000, .int "MOST" 24]
def faL : List He.Fa := faL0 ++ faL1
def exL0 (K : PySem.W.Frag) : List Bool := [cfnB K (He.ga K "FarError") "__init__" (He.ma K (He.ga K "FarError") "__init__"), bltB K "ValueError" "__init__" "ValueError.__init__", errB K (He.ga K "BadNumber"), xfB K (He.ga K "BadNumber"), excB K (He.ga K "BadNumber"), decide (PySem.W.exmOne K (.ref (He.ga K "BadNumber")) (.ref (He.ga K "FarError")) = some true), He.eqO (PySem.W.findIn K (.ref (He.ga K "BadNumber")) "__init__") (some (some (.ref (He.ma K (He.ga K "BadNumber") "__init__")))), decide (PySem.W.typeIn K (.ref (He.ma K (He.ga K "BadNumber") "__init__")) = some (.type "function"))]
def exL (K : PySem.W.Frag) : List Bool := exL0 K
def looseL0 : List Str := ["FarError", "BadNumber", "BadName", "BadMating", "BadPlace", "BadStretch", "BadMove", "BadMoves", "BadBoard", "BadCounts", "BadSide", "TooMuch", "BadText", "Taken", "Full", "Missing", "NoMating", "NoRoad", "NoSide", "NoFamily", "NothingLeft", "FAR", "MOST", "need_from", "need_within", "need_length", "is_mating", "_law_open", "_law_pull", "_law_any"]
def looseL1 : List Str := ["_law_like", "_law_fields", "_law_why", "_law_odd"]
def looseL : List Str := looseL0 ++ looseL1
abbrev RowL : PySem.W.OpenRow := PySem.W.OpenLaw.row PySem.Challenge.rw_farmates_k02_lengths_and_matings_judged
abbrev hkL : PySem.W.Hook := hookY faL fnL exL
def obL (s : PySem.W.SharedT) : AlY := obsY faL fnL exL (HandSHeadRun.getT s)
theorem obL_eq (s : PySem.W.SharedT) : obL s = hkL.obs s.abs := obsY_eq s
theorem all_of {w : World} {K : PySem.W.Frag} {h : Heap} {mg : Str → Option Value} {fa : Addr} (X : K.In h) (G : h.Ns mainGlobals mg) (hfa : mg "law" = some (.ref fa)) (c : SaysY faL fnL exL h K) :
    LamX.LawAtS PySem.Challenge.rw_farmates_k02_lengths_and_matings_judged w K CX0 12 63 "_law_script" mg fa h := by
  obtain ⟨oc0, od0, sl0, kV0, dc0, pm0, an0, cd0, ct0, l0, c0, k0⟩ := say_def c.d 0 (x := "_law_open") (st := s_open) rfl
  obtain ⟨oc1, od1, sl1, kV1, dc1, pm1, an1, cd1, ct1, l1, c1, k1⟩ := say_def c.d 1 (x := "_law_pull") (st := s_pull) rfl
  obtain ⟨oc2, od2, sl2, kV2, dc2, pm2, an2, cd2, ct2, l2, c2, k2⟩ := say_def c.d 2 (x := "_law_like") (st := s_like) rfl
  obtain ⟨oc3, od3, sl3, kV3, dc3, pm3, an3, cd3, ct3, l3, c3, k3⟩ := say_def c.d 3 (x := "_law_any") (st := s_any) rfl
  obtain ⟨oc4, od4, sl4, kV4, dc4, pm4, an4, cd4, ct4, l4, c4, k4⟩ := say_def c.d 4 (x := "_law_odd") (st := s_odd) rfl
  obtain ⟨oc5, od5, sl5, kV5, dc5, pm5, an5, cd5, ct5, l5, c5, k5⟩ := say_def c.d 5 (x := "need_from") (st := s_need_from) rfl
  obtain ⟨oc6, od6, sl6, kV6, dc6, pm6, an6, cd6, ct6, l6, c6, k6⟩ := say_def c.d 6 (x := "need_within") (st := s_need_within) rfl
  obtain ⟨oc7, od7, sl7, kV7, dc7, pm7, an7, cd7, ct7, l7, c7, k7⟩ := say_def c.d 7 (x := "need_length") (st := s_need_length) rfl
  obtain ⟨oc8, od8, sl8, kV8, dc8, pm8, an8, cd8, ct8, l8, c8, k8⟩ := say_def c.d 8 (x := "is_mating") (st := s_is_mating) rfl
  obtain ⟨oc9, od9, sl9, kV9, dc9, pm9, an9, cd9, ct9, l9, c9, k9⟩ := say_def c.d 9 (x := "_law_why") (st := s_why) rfl
  obtain ⟨oc10, od10, sl10, kV10, dc10, pm10, an10, cd10, ct10, l10, c10, k10⟩ := say_def c.d 10 (x := "_law_fields") (st := s_fields) rfl
  obtain ⟨oc11, od11, sl11, kV11, dc11, pm11, an11, ct11, l11, c11, k11⟩ := say_law c.d 11 (x := "law") (st := s_law) rfl
  obtain ⟨fdF, FF⟩ := say_far c.d 12 (C := "FarError") (m := "__init__") (q := "FarError.__init__") (st := s_farinit) rfl
  obtain ⟨oc_BadNumber, od_BadNumber, sl_BadNumber, kV_BadNumber, dc_BadNumber, pm_BadNumber, an_BadNumber, cd_BadNumber, ct_BadNumber, l_BadNumber, c_BadNumber, k_BadNumber⟩ := say_meth c.d 13 (C := "BadNumber") (m := "__init__") (q := "BadNumber.__init__") (st := s_bninit) rfl
  obtain ⟨tk_FAR, g_FAR⟩ := say_int c.d 33 (x := "FAR") (i := 1000000000000000000) rfl
  obtain ⟨tk_MOST, g_MOST⟩ := say_int c.d 34 (x := "MOST") (i := 24) rfl
  exact all_mk X G hfa c.mt
    (He.eqO_ok (c.d.fact 0 rfl)) l0 c0 k0 (He.eqO_ok (c.d.fact 1 rfl)) l1 c1 k1
    (He.eqO_ok (c.d.fact 2 rfl)) l2 c2 k2 (He.eqO_ok (c.d.fact 3 rfl)) l3 c3 k3
    (He.eqO_ok (c.d.fact 4 rfl)) l4 c4 k4 (He.eqO_ok (c.d.fact 5 rfl)) l5 c5 k5
    (He.eqO_ok (c.d.fact 6 rfl)) l6 c6 k6 (He.eqO_ok (c.d.fact 7 rfl)) l7 c7 k7
    (He.eqO_ok (c.d.fact 8 rfl)) l8 c8 k8 (He.eqO_ok (c.d.fact 9 rfl)) l9 c9 k9
    (He.eqO_ok (c.d.fact 10 rfl)) l10 c10 k10 (He.eqO_ok (c.d.fact 11 rfl)) l11 c11 k11
    (He.eqO_ok (c.d.fact 12 rfl)) (He.eqO_ok (c.d.fact 13 rfl)) (He.eqO_ok (c.d.fact 14 rfl)) (He.eqO_ok (c.d.fact 15 rfl)) (He.eqO_ok (c.d.fact 16 rfl)) (He.eqO_ok (c.d.fact 17 rfl)) (He.eqO_ok (c.d.fact 18 rfl)) (He.eqO_ok (c.d.fact 19 rfl))
    (He.eqO_ok (c.d.fact 20 rfl)) (He.eqO_ok (c.d.fact 21 rfl)) (He.eqO_ok (c.d.fact 22 rfl)) (He.eqO_ok (c.d.fact 23 rfl)) (He.eqO_ok (c.d.fact 24 rfl)) (He.eqO_ok (c.d.fact 25 rfl)) (He.eqO_ok (c.d.fact 26 rfl)) c.hd
    c.out (He.eqO_ok (c.d.fact 27 rfl)) (cfnB_ok (all_at c.more 0 rfl)) FF (bltB_ok (all_at c.more 1 rfl)) (He.eqO_ok (c.d.fact 28 rfl)) (errB_ok (all_at c.more 2 rfl)) (xfB_ok (all_at c.more 3 rfl))
    (excB_ok (all_at c.more 4 rfl)) (of_decide_eq_true (all_at c.more 5 rfl)) (He.eqO_ok (c.d.fact 29 rfl)) (He.eqO_ok (all_at c.more 6 rfl)) (of_decide_eq_true (all_at c.more 7 rfl)) l_BadNumber c_BadNumber k_BadNumber
    (He.eqO_ok (c.d.fact 30 rfl)) (He.eqO_ok (c.d.fact 31 rfl)) (He.eqO_ok (c.d.fact 32 rfl)) g_FAR g_MOST
-- SPLIT
theorem runL (w : World) : HandSHeadRun.RunEq RowL (PySem.W.view RowL.prog [37]) hkL obL 40000 looseL w := by
  intro os
  kernel_rfl
end Fm
open PySem PySem.W PySem.Calls PyProof.Rows
set_option maxRecDepth 100000 in
set_option maxHeartbeats 0 in
theorem PySem.Challenge.cw_farmates_k02_lengths_and_matings_judged_holds : PySem.Challenge.rw_farmates_k02_lengths_and_matings_judged.Holds := by
  w_on; o_law
  refine HandSHeadRun.head_any (r := OpenLaw.row PySem.Challenge.rw_farmates_k02_lengths_and_matings_judged) (q := view (OpenLaw.row PySem.Challenge.rw_farmates_k02_lengths_and_matings_judged).prog [37]) (H := Fm.hkL) (ob := Fm.obL) (M := 40000) (loose := Fm.looseL) (d := HandSHeadRun.topDef (OpenLaw.row PySem.Challenge.rw_farmates_k02_lengths_and_matings_judged).prog 37) (kwd := []) Fm.obL_eq
    (by kernel_rfl) (fun s => by kernel_rfl) Fm.runL (by kernel_rfl) (by kernel_rfl) (by kernel_rfl) (by rfl) (by first | assumption | decide +kernel) (by decide +kernel) ⟨rfl, rfl, rfl, rfl, rfl, by decide +kernel⟩ ?hw ?hc
  case hw => w_witness2
  case hc =>
    refine LamX.walk_ofTsE (l := PySem.Challenge.rw_farmates_k02_lengths_and_matings_judged) (n := 63) (k := 12) (x := "_law_script") (CX := fun _ => L2.CX0) rfl (by decide) (by kernel_rfl) ⟨rfl, by decide, by decide⟩ ?F (fun _ _ _ _ _ z => z)
    intro w mg fa h Y G hm0
    obtain ⟨K, KX, c⟩ := Y
    have hm : mg ("law" : PySem.Str) = some (.ref fa) := by
      have en : (HandSHeadRun.topDef (OpenLaw.row PySem.Challenge.rw_farmates_k02_lengths_and_matings_judged).prog 37).name = ("law" : PySem.Str) := by kernel_rfl
      rw [← en]
      exact hm0
    exact ⟨K, KX, Fm.all_of KX G hm c⟩
