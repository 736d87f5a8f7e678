import PyProof.Rows.All
import Wide.All
import OpenK.AllK
import Wide.FinOn
import HandS.ForMost
import HandS.Codes
import HandS.IsInst
import HandS.Wide
import HandS.Style
import HandS.ForExc
import HandS.ExcInit
import HandS.ExcIs
import HandS.ExcField
import HandS.FStr
import HandS.Defaults
import HandS.Lambda
import HandS.EndTab
import HandS.HotCalls
import HandS.Iter
import HandS.Zip
import HandS.More
import KE.KStateDown
import HandS.Head0
import HandS.Head1
import HandS.Head2
import HandS.HeadHook1
import HandS.HeadHook2
import HandS.HeadHook3
import HandS.HeadHook4
import HandS.HeadWalk
import PySem.Challenge.RW_farmates_k36_matings_of_words
set_option Elab.async false
set_option linter.all false
set_option maxRecDepth 100000
set_option maxHeartbeats 4000000
namespace Fm
open PySem L2
def top (i : Nat) : Stmt := PySem.Challenge.pw_farmates_k36_matings_of_words.main.body.getD i (.Pass ⟨0, 0, 0, 0⟩)

/-! ### what stands behind the top -/
structure DefAt (K : PySem.W.Frag) (mg : Str → Option Value) (x : Str) (st : Stmt) (ps : List Str) (f : Addr) (fd : FuncData) : Prop where
  F : Fun K x x st f fd
  b : Binds K fd ps []
  g : mg x = some (.ref f)
structure Bn (mg : Str → Option Value) : Prop where
  len : mg "len" = none
  list : mg "list" = none
  tuple : mg "tuple" = none
  bool : mg "bool" = none
  int : mg "int" = none
  str : mg "str" = none
  isinstance : mg "isinstance" = none
  all : mg "all" = none
  any : mg "any" = none
  range : mg "range" = none
  max : mg "max" = none
  min : mg "min" = none
  dict : mg "dict" = none
  sorted : mg "sorted" = none
/-! ### heaps -/
theorem same_upd {H : Hp} {p : Addr} {o : HO} (h : H p = none) : Same H (upd H p o) := fun b x e => by
  rw [upd_ne (ne_of_none e h)]
  exact e
theorem sameU {H H' : Hp} {p : Addr} {o : HO} (e : Same H H') (h : H p = none) : Same H (upd H' p o) := fun b x q => by
  rw [upd_ne (ne_of_none q h)]
  exact e b x q
/-- all but d stands as it stood -/
def Keep (d : Addr) (H H' : Hp) : Prop := ∀ b o, b ≠ d → H b = some o → H' b = some o
theorem Keep.refl (d : Addr) (H : Hp) : Keep d H H := fun _ _ _ h => h
theorem Keep.trans {d : Addr} {H H1 H2 : Hp} (a : Keep d H H1) (b : Keep d H1 H2) : Keep d H H2 := fun c o n h => b c o n (a c o n h)
theorem Keep.upd {d : Addr} {H : Hp} {o : HO} : Keep d H (upd H d o) := fun b x n h => by
  rw [upd_ne n]
  exact h
theorem keepS {d : Addr} {H H' : Hp} (a : Same H H') : Keep d H H' := fun b o _ h => a b o h
/-! ### the drawing -/
structure Drawn (H : Hp) (d l : Addr) (ns : List Int) (i z s : Int) : Prop where
  at_d : H d = some (.lst [.ref l, .int i, .int z, .int s])
  at_l : H l = some (.lst (ns.map V.int))
  len : ns.length ≤ 63
  i0 : 0 ≤ i
  z0 : 0 ≤ z
  s0 : 0 ≤ s
  s1 : s < 2147483629
def Draw (H : Hp) (d l : Addr) : Prop := ∃ ns i z s, Drawn H d l ns i z s
theorem Drawn.ne {H : Hp} {d l : Addr} {ns : List Int} {i z s : Int} (h : Drawn H d l ns i z s) : l ≠ d := by
  refine ne_of h.at_l h.at_d fun e => ?_
  cases ns with
  | nil => cases e
  | cons x r => cases e
theorem Drawn.same {H H' : Hp} {d l : Addr} {ns : List Int} {i z s : Int} (h : Drawn H d l ns i z s) (e : Same H H') : Drawn H' d l ns i z s := { h with at_d := e _ _ h.at_d, at_l := e _ _ h.at_l }
theorem Draw.same {H H' : Hp} {d l : Addr} (h : Draw H d l) (e : Same H H') : Draw H' d l := by
  obtain ⟨ns, i, z, s, h⟩ := h
  exact ⟨ns, i, z, s, h.same e⟩
/-- the drawing list stored anew -/
theorem Drawn.put {H : Hp} {d l : Addr} {ns : List Int} {i z s i' z' s' : Int} (h : Drawn H d l ns i z s) (hi : 0 ≤ i') (hz : 0 ≤ z') (h0 : 0 ≤ s') (h1 : s' < 2147483629) :
    Drawn (upd H d (.lst [.ref l, .int i', .int z', .int s'])) d l ns i' z' s' :=
  ⟨upd_same, (by rw [upd_ne h.ne]; exact h.at_l), h.len, hi, hz, h0, h1⟩
def spOpen (K : PySem.W.Frag) : Sp := fun vs H Q _ => ∃ (a : Addr) (ns : List Int), vs = [.ref a] ∧ SqL K H a (ns.map V.int) ∧ ns.length ≤ 63 ∧
  ∀ H' d l, Same H H' → H d = none → H l = none → Draw H' d l → Q (.ref d) H'
def spPull : Sp := fun vs H Q _ => ∃ (d l : Addr) (c : Int), vs = [.ref d, .int c] ∧ Draw H d l ∧ 1 ≤ c ∧ c < 2 ^ 100 ∧
  ∀ (v : Int) (H' : Hp), 0 ≤ v → v < c → Draw H' d l → Keep d H H' → Q (.int v) H'
def spLaw (K : PySem.W.Frag) : Sp := fun vs H Q _ => ∃ (a : Addr) (ns : List Int), vs = [.ref a] ∧ SqL K H a (ns.map V.int) ∧ ns.length ≤ 63 ∧ ∀ H', Q (.bl true) H'
/-! ### data that is compared, at most n deep -/
mutual
inductive Rp (H : Hp) : Nat → V → PyData → Prop
  | non (n : Nat) : Rp H n .non .none
  | bl (n : Nat) (b : Bool) : Rp H n (.bl b) (.bool b)
  | int (n : Nat) (i : Int) : Rp H n (.int i) (.int i)
  | str (n : Nat) (x : Str) : Rp H n (.str x) (.str x)
  | lst {n : Nat} {a : Addr} {xs : List V} {ds : List PyData} : H a = some (.lst xs) → xs.length ≤ 100000 → RpAll H n xs ds → Rp H (n + 1) (.ref a) (.list ds)
  | tup {n : Nat} {a : Addr} {xs : List V} {ds : List PyData} : H a = some (.tup xs) → xs.length ≤ 100000 → RpAll H n xs ds → Rp H (n + 1) (.ref a) (.tuple ds)
inductive RpAll (H : Hp) : Nat → List V → List PyData → Prop
  | nil (n : Nat) : RpAll H n [] []
  | cons {n : Nat} {v : V} {vs : List V} {d : PyData} {ds : List PyData} : Rp H n v d → RpAll H n vs ds → RpAll H n (v :: vs) (d :: ds)
end
mutual
theorem Rp.same {H H' : Hp} (e : Same H H') : ∀ {n : Nat} {v : V} {d : PyData}, Rp H n v d → Rp H' n v d
  | _, _, _, .non n => .non n
  | _, _, _, .bl n b => .bl n b
  | _, _, _, .int n i => .int n i
  | _, _, _, .str n x => .str n x
  | _, _, _, .lst h l r => .lst (e _ _ h) l (RpAll.same e r)
  | _, _, _, .tup h l r => .tup (e _ _ h) l (RpAll.same e r)
theorem RpAll.same {H H' : Hp} (e : Same H H') : ∀ {n : Nat} {vs : List V} {ds : List PyData}, RpAll H n vs ds → RpAll H' n vs ds
  | _, _, _, .nil n => .nil n
  | _, _, _, .cons h r => .cons (Rp.same e h) (RpAll.same e r)
end
theorem RpAll.length {H : Hp} : ∀ {n : Nat} {vs : List V} {ds : List PyData}, RpAll H n vs ds → vs.length = ds.length
  | _, _, _, .nil _ => rfl
  | _, _, _, .cons _ r => congrArg (· + 1) (RpAll.length r)
theorem RpAll.get {H : Hp} : ∀ {n : Nat} {vs : List V} {ds : List PyData}, RpAll H n vs ds → ∀ (i : Nat), i < ds.length → ∃ v d, vs[i]? = some v ∧ ds[i]? = some d ∧ Rp H n v d
  | _, _, _, .nil _, i, h => absurd h (Nat.not_lt_zero i)
  | _, _, _, .cons (v := v) (d := d) h r, 0, _ => ⟨v, d, rfl, rfl, h⟩
  | _, _, _, .cons h r, i + 1, hi => by
    obtain ⟨v, d, a, b, c⟩ := RpAll.get r i (Nat.lt_of_succ_lt_succ hi)
    exact ⟨v, d, a, b, c⟩
def spLike (n : Nat) : Sp := fun vs H Q _ => ∃ (a b : V) (d : PyData), vs = [a, b] ∧ Rp H n a d ∧ Rp H n b d ∧ ∀ H', Same H H' → Q (.bl true) H'
def spBot : Sp := fun _ _ _ _ => False
section
variable {P : Program} {w : World} {K : PySem.W.Frag} {mg : Str → Option Value} {base : Heap}
theorem ok_bot {f : Addr} {fd : FuncData} {ps : List Str} : FnOk P w K mg base CX0 0 f fd ps spBot := ⟨fun _ _ _ _ h => h.elim, fun _ _ _ _ _ _ _ _ _ _ _ _ _ h => h.elim⟩
end
theorem Draw.ne_new {H : Hp} {d l p : Addr} (h : Draw H d l) (n : H p = none) : p ≠ d := by
  obtain ⟨ns, i, z, s, h⟩ := h
  exact (ne_of_none h.at_d n).symm
theorem Keep.of {d : Addr} {H H' : Hp} (k : Keep d H H') {b : Addr} {o : HO} (h : H b = some o) (n : b ≠ d) : H' b = some o := k b o n h
theorem sz_lt {n : Nat} (h : n < 100000) : n < sizeLine := Nat.lt_of_lt_of_le h (by decide)

/-! ### _law_open -/
abbrev s_open : Stmt := top 30
abbrev N_open : List Str := ["_law_script", "_law_seed", "_law_cell"]
abbrev P_open : List Str := ["_law_script"]
theorem sc_open : FnScope N_open P_open (defScope s_open) := ⟨rfl, rfl, rfl, by decide +kernel, rfl, by decide +kernel, by decide +kernel⟩
theorem cut63 (xs : List V) (h : xs.length ≤ 63) : cutV xs none (some 63) = xs := by
  unfold cutV
  rw [show HT.sIx xs.length xs.length (some 63) = min 63 xs.length from HT.sIx_nat xs.length xs.length 63, HT.sIx_none, Nat.min_eq_right h]
  show (xs.drop 0).take (xs.length - 0) = xs
  rw [List.drop_zero, Nat.sub_zero, List.take_length]
section
variable {P : Program} {w : World} {K : PySem.W.Frag} {mg : Str → Option Value} {base : Heap}
theorem ok_open {f : Addr} {fd : FuncData} (D : DefAt K mg "_law_open" s_open P_open f fd) (B : Bn mg) : FnOk P w K mg base CX0 1 f fd P_open (spOpen K) := by
  refine D.F.ok sc_open (fun vs H Q E h => ?_) (fun cdv A outer s H vs Q E hr h => ?_)
  · obtain ⟨a, ns, rfl, _⟩ := h
    rfl
  · obtain ⟨a, ns, rfl, hS, hlen, q⟩ := h
    refine ⟨_, (pss_cons (ps_set (i := 1) sc_open.nd rfl (.inl rfl) pe_int)
      (pss_cons (ps_for PassesOwn.never rfl (pi_list (pe_slice sl_list (pv 0) po_none (po_some pe_int))) (pg_name (i := 2) sc_open.nd rfl (.inl rfl)) (pss_one (ps_set (i := 1) sc_open.nd rfl (.inl rfl) (pe_op op_mod (pe_op op_add (pe_op op_add (pe_op op_mul (pv 1) pe_int) (pe_op op_mod (pv 2) pe_int)) pe_int) pe_int))))
      (pss_one (ps_ret (pe_lst (pa_cons (pe_callTy call_list_of (by rfl) B.list (by decide +kernel) (pa_cons (pe_slice sl_list (pv 0) po_none (po_some pe_int)) pa_nil)) (pa_cons pe_int (pa_cons pe_int (pa_cons (pv 1) pa_nil))))))))), ?_⟩
    refine ⟨.ref a, rfl, 63, rfl, a, ns.map V.int, rfl, hS, fun c nc => ?_⟩
    rw [cut63 _ (by rw [List.length_map]; exact hlen)]
    have s1 : Same H (upd H c (.lst (ns.map V.int))) := same_upd nc
    refine ⟨c, rfl, ⟨_, SqL.of upd_same⟩, for_list (K := K) (a := c) (xs := ns.map V.int) (fun i σ H2 => ∃ (sd : Int) (v : Option V), σ = [some (.ref a), some (.int sd), v] ∧ H2 = upd H c (.lst (ns.map V.int)) ∧ 0 ≤ sd ∧ sd < 2147483629)
      ⟨9134, none, rfl, rfl, by decide, by decide⟩ (fun i σ H2 _ ⟨_, _, _, e2, _⟩ => e2 ▸ SqL.of upd_same) ?_ ?_⟩
    · rintro i y σ H2 hi ⟨sd, v, rfl, rfl, h0, h1⟩
      obtain ⟨z, rfl⟩ : ∃ z, y = V.int z := by
        rw [List.getElem?_map] at hi
        cases e : ns[i]? with
        | none =>
          rw [e] at hi
          cases hi
        | some z =>
          rw [e] at hi
          exact ⟨z, (Option.some.inj hi).symm⟩
      refine ⟨_, rfl, _, _, rfl, rfl, .inl ⟨by omega, by omega⟩, _, rfl, _, _, rfl, rfl, (by show (0 : Int) < 2147483587; decide), _, _, rfl, rfl, _, _, rfl, rfl, _, _, rfl, rfl, (by show (0 : Int) < 2147483629; decide), ?_⟩
      exact ⟨_, _, rfl, rfl, Int.emod_nonneg _ (by decide), Int.emod_lt_of_pos _ (by decide)⟩
    · rintro σ H2 ⟨sd, v, rfl, rfl, h0, h1⟩
      refine ⟨.ref a, rfl, 63, rfl, a, ns.map V.int, rfl, s1.seq hS, fun p np => ?_⟩
      rw [cut63 _ (by rw [List.length_map]; exact hlen)]
      have s2 : Same H (upd (upd H c (.lst (ns.map V.int))) p (.lst (ns.map V.int))) := s1.trans (same_upd np)
      refine ⟨p, _, rfl, .inl (SqL.of upd_same), fun l nl => ?_⟩
      refine ⟨_, rfl, by show 4 ≤ sizeLine; decide, fun d nd => ?_⟩
      have s3 : Same H (upd (upd (upd H c (.lst (ns.map V.int))) p (.lst (ns.map V.int))) l (.lst (ns.map V.int))) := s2.trans (same_upd nl)
      refine q _ d l (s3.trans (same_upd nd)) (s3.free nd) (s2.free nl) ⟨ns, 0, 0, sd, upd_same, ?_, hlen, by decide, by decide, h0, h1⟩
      have nld : l ≠ d := fun e => by
        rw [← e, upd_same] at nd
        cases nd
      rw [upd_ne nld, upd_same]
end

/-! ### _law_pull -/
abbrev s_pull : Stmt := top 31
abbrev N_pull : List Str := ["_law_draw", "_law_cap", "_law_cell", "_law_got", "_law_seed"]
abbrev P_pull : List Str := ["_law_draw", "_law_cap"]
theorem sc_pull : FnScope N_pull P_pull (defScope s_pull) := ⟨rfl, rfl, rfl, by decide +kernel, rfl, by decide +kernel, by decide +kernel⟩
section
variable {P : Program} {w : World} {K : PySem.W.Frag} {mg : Str → Option Value} {base : Heap}
theorem ok_pull {f : Addr} {fd : FuncData} (D : DefAt K mg "_law_pull" s_pull P_pull f fd) (B : Bn mg) : FnOk P w K mg base CX0 1 f fd P_pull spPull := by
  refine D.F.ok sc_pull (fun vs H Q E h => ?_) (fun cdv A outer s H vs Q E hr h => ?_)
  · obtain ⟨d, l, c, rfl, _⟩ := h
    rfl
  · obtain ⟨d, l, c, rfl, hD, hc1, hc2, q⟩ := h
    refine ⟨_, (C8.pss_cut (ps_if (PW.pt (pw_and (pt_cmpR op_lt (pe_ix ix_list (pv 0) pe_int (fun _ _ => rfl)) (pv 1) (nomark _)) (pw_and1 (pt_cmpR op_lt (pe_ix ix_list (pv 0) pe_int (fun _ _ => rfl)) (pe_callB call_len_seq (by rfl) B.len (by decide +kernel) (pa_cons (pe_ix ix_list (pv 0) pe_int (fun _ _ => rfl)) pa_nil)) (nomark _))))) (pss_cons (ps_set (i := 2) sc_pull.nd rfl (.inl rfl) (pe_ix ix_list (pe_ix ix_list (pv 0) pe_int (fun _ _ => rfl)) (pe_ix ix_list (pv 0) pe_int (fun _ _ => rfl)) (fun _ _ => rfl)))
      (pss_cons (ps_asg (pe_op op_add (pe_ix ix_list (pv 0) pe_int (fun _ _ => rfl)) pe_int) (pg_sub (pv 0) pe_int set_list))
      (pss_cons (ps_asg pe_int (pg_sub (pv 0) pe_int set_list))
      (pss_one (ps_if (pt_cmpR op_ge (pv 2) (pe_op op_pow pe_int pe_int) (nomark _)) (pss_one (ps_asg (pv 2) (pg_sub (pv 0) pe_int set_list))) (pss_one (ps_asg (pe_op op_mod (pe_op op_add (pe_op op_add (pe_op op_mul (pe_ix ix_list (pv 0) pe_int (fun _ _ => rfl)) pe_int) (pe_op op_mul (pe_op op_mod (pv 2) pe_int) pe_int)) pe_int) pe_int) (pg_sub (pv 0) pe_int set_list)))))))) pss_nil)
      (C8.pss_cut (ps_if (pt_cmpR op_ge (pe_ix ix_list (pv 0) pe_int (fun _ _ => rfl)) (pv 1) (nomark _)) (pss_cons (ps_set (i := 3) sc_pull.nd rfl (.inl rfl) (pe_op op_mod (pe_ix ix_list (pv 0) pe_int (fun _ _ => rfl)) (pv 1)))
      (pss_cons (ps_asg (pe_op op_fdivW (pe_ix ix_list (pv 0) pe_int (fun _ _ => rfl)) (pv 1)) (pg_sub (pv 0) pe_int set_list))
      (pss_one (ps_ret (pv 3))))) pss_nil)
      (pss_cons (ps_set (i := 4) sc_pull.nd rfl (.inl rfl) (pe_ix ix_list (pv 0) pe_int (fun _ _ => rfl)))
      (pss_cons (ps_asg (pe_op op_mod (pe_op op_add (pe_op op_add (pe_op op_mul (pe_op op_mod (pe_op op_mul (pv 4) (pv 4)) pe_int) pe_int) (pe_op op_mul (pv 4) pe_int)) pe_int) pe_int) (pg_sub (pv 0) pe_int set_list))
      (pss_cons (ps_if (pt_cmpR op_lt (pv 1) (pe_op op_pow pe_int pe_int) (nomark _)) (pss_one (ps_ret (pe_op op_mod (pe_op op_add (pe_op op_fdivW (pe_ix ix_list (pv 0) pe_int (fun _ _ => rfl)) pe_int) (pe_op op_mul (pe_op op_mod (pe_ix ix_list (pv 0) pe_int (fun _ _ => rfl)) pe_int) pe_int)) (pv 1)))) pss_nil)
      (pss_one (ps_ret (pe_op op_mod (pe_op op_add (pe_op op_fdivW (pe_op op_pow (pe_ix ix_list (pv 0) pe_int (fun _ _ => rfl)) pe_int) pe_int) (pe_ix ix_list (pv 0) pe_int (fun _ _ => rfl))) (pv 1))))))))), ?_⟩
    have hpow : CPow 10 18 := ⟨by decide, by decide, by decide⟩
    have hpow8 : CPow 10 8 := ⟨by decide, by decide, by decide⟩
    have ix0 : ∀ {a b e g : V}, atI [a, b, e, g] 0 = some a := fun {_ _ _ _} => atI_nat (j := 0) rfl
    have ix1 : ∀ {a b e g : V}, atI [a, b, e, g] 1 = some b := fun {_ _ _ _} => atI_nat (j := 1) rfl
    have ix2 : ∀ {a b e g : V}, atI [a, b, e, g] 2 = some e := fun {_ _ _ _} => atI_nat (j := 2) rfl
    have ix3 : ∀ {a b e g : V}, atI [a, b, e, g] 3 = some g := fun {_ _ _ _} => atI_nat (j := 3) rfl
    -- the first if
    refine ⟨fun σ H1 => ∃ y : Option V, σ = [some (.ref d), some (.int c), y, none, none] ∧ Draw H1 d l ∧ Keep d H H1, ?_, ?_⟩
    · obtain ⟨ns, i, z, sd, hW⟩ := hD
      refine ⟨.ref d, rfl, d, _, 2, .int z, rfl, rfl, SqL.of hW.at_d, ix2, .int c, rfl, z, c, rfl, rfl, _, rfl, ?_⟩
      refine ite2 (fun _ => ?_) (fun _ => iteF ⟨none, rfl, ⟨ns, i, z, sd, hW⟩, Keep.refl _ _⟩)
      refine ⟨.ref d, rfl, d, _, 1, .int i, rfl, rfl, SqL.of hW.at_d, ix1, .ref d, rfl, d, _, 0, .ref l, rfl, rfl, SqL.of hW.at_d, ix0, l, _, rfl, .inl (SqL.of hW.at_l), i, _, rfl, rfl, _, rfl, ?_⟩
      refine ite2 (fun hb => ?_) (fun _ => ⟨none, rfl, ⟨ns, i, z, sd, hW⟩, Keep.refl _ _⟩)
      have hil : i < ((ns.map V.int).length : Int) := of_decide_eq_true hb
      rw [List.length_map] at hil
      have hi0 := hW.i0
      obtain ⟨j, rfl⟩ : ∃ j : Nat, i = (j : Int) := ⟨i.toNat, by omega⟩
      have hj : j < ns.length := by omega
      have gj : (ns.map V.int)[j]? = some (.int ns[j]) := by
        rw [List.getElem?_map, List.getElem?_eq_getElem hj]
        rfl
      -- cell = draw[0][draw[1]]
      refine ⟨.ref d, rfl, d, _, 0, .ref l, rfl, rfl, SqL.of hW.at_d, ix0, .ref d, rfl, d, _, 1, .int (j : Int), rfl, rfl, SqL.of hW.at_d, ix1, l, _, (j : Int), .int ns[j], rfl, rfl, SqL.of hW.at_l, atI_nat gj, ?_⟩
      -- draw[1] = draw[1] + 1
      refine ⟨.ref d, rfl, d, _, 1, .int (j : Int), rfl, rfl, SqL.of hW.at_d, ix1, _, _, rfl, rfl, .ref d, rfl, d, _, 1, 1, rfl, rfl, hW.at_d, rfl, ?_⟩
      have W1 := hW.put (i' := (j : Int) + 1) (z' := z) (s' := sd) (by omega) hW.z0 hW.s0 hW.s1
      -- draw[2] = 0
      refine ⟨.ref d, rfl, d, _, 2, 2, rfl, rfl, upd_same, rfl, ?_⟩
      have W2 := W1.put (i' := (j : Int) + 1) (z' := 0) (s' := sd) (by omega) (by decide) hW.s0 hW.s1
      -- if cell >= 10 ** 18
      refine ⟨_, rfl, _, _, rfl, rfl, hpow, _, _, rfl, rfl, _, rfl, ?_⟩
      refine ite2 (fun hg => ?_) (fun _ => ?_)
      · have hg' : (10 : Int) ^ 18 ≤ ns[j] := of_decide_eq_true hg
        refine ⟨_, rfl, .ref d, rfl, d, _, 2, 2, rfl, rfl, upd_same, rfl, ?_⟩
        exact ⟨_, rfl, ⟨_, _, _, _, W2.put (i' := (j : Int) + 1) (z' := ns[j]) (s' := sd) (by omega) (by omega) hW.s0 hW.s1⟩, (Keep.upd.trans Keep.upd).trans Keep.upd⟩
      · refine ⟨.ref d, rfl, d, _, 3, .int sd, rfl, rfl, SqL.of upd_same, ix3, _, _, rfl, rfl, .inr ⟨by decide, by decide⟩, _, rfl, _, _, rfl, rfl, (by show (0 : Int) < 2147483647; decide), _, _, rfl, rfl, .inr ⟨by decide, by decide⟩, _, _, rfl, rfl, _, _, rfl, rfl, _, _, rfl, rfl, (by show (0 : Int) < 2147483629; decide), ?_⟩
        refine ⟨.ref d, rfl, d, _, 3, 3, rfl, rfl, upd_same, rfl, ?_⟩
        exact ⟨_, rfl, ⟨_, _, _, _, W2.put (i' := (j : Int) + 1) (z' := 0) (s' := _) (by omega) (by decide) (Int.emod_nonneg _ (by decide)) (Int.emod_lt_of_pos _ (by decide))⟩, (Keep.upd.trans Keep.upd).trans Keep.upd⟩
    · rintro σ H1 ⟨y, rfl, ⟨ns, i, z, sd, hW⟩, kp⟩
      -- the second if
      refine ⟨fun σ H2 => H2 = H1 ∧ ∃ y' : Option V, σ = [some (.ref d), some (.int c), y, y', none], ?_, ?_⟩
      · refine ⟨.ref d, rfl, d, _, 2, .int z, rfl, rfl, SqL.of hW.at_d, ix2, .int c, rfl, z, c, rfl, rfl, _, rfl, ?_⟩
        refine ite2 (fun hg => ?_) (fun _ => ⟨rfl, none, rfl⟩)
        refine ⟨.ref d, rfl, d, _, 2, .int z, rfl, rfl, SqL.of hW.at_d, ix2, .int c, rfl, _, _, rfl, rfl, (by omega), ?_⟩
        have hwd : CDivW z c := wide_div (b := 100) (by omega) (by omega) (by decide) (by decide)
        refine ⟨.ref d, rfl, d, _, 2, .int z, rfl, rfl, SqL.of hW.at_d, ix2, .int c, rfl, _, _, rfl, rfl, hwd, .ref d, rfl, d, _, 2, 2, rfl, rfl, hW.at_d, rfl, _, rfl, ?_⟩
        exact q _ _ (Int.emod_nonneg _ (by omega)) (Int.emod_lt_of_pos _ (by omega)) ⟨_, _, _, _, hW.put (i' := i) (z' := z / c) (s' := sd) hW.i0 (Int.ediv_nonneg hW.z0 (by omega)) hW.s0 hW.s1⟩ (kp.trans Keep.upd)
      · rintro σ H2 ⟨rfl, y', rfl⟩
        have hs0 := hW.s0
        have hs1 := hW.s1
        have hm : CMul sd sd := .inl ⟨by omega, by omega⟩
        -- seed = draw[3]; draw[3] = ..
        refine ⟨.ref d, rfl, d, _, 3, .int sd, rfl, rfl, SqL.of hW.at_d, ix3, ?_⟩
        refine ⟨_, rfl, _, rfl, _, _, rfl, rfl, hm, _, _, rfl, rfl, (by show (0 : Int) < 2147483647; decide), _, _, rfl, rfl, .inr ⟨by decide, by decide⟩, _, rfl, _, _, rfl, rfl, .inr ⟨by decide, by decide⟩, _, _, rfl, rfl, _, _, rfl, rfl, _, _, rfl, rfl, (by show (0 : Int) < 2147483629; decide), ?_⟩
        refine ⟨.ref d, rfl, d, _, 3, 3, rfl, rfl, hW.at_d, rfl, ?_⟩
        have n0 : 0 ≤ (sd * sd % 2147483647 * 3 + sd * 45991 + 746773) % 2147483629 := Int.emod_nonneg _ (by decide)
        have n1 : (sd * sd % 2147483647 * 3 + sd * 45991 + 746773) % 2147483629 < 2147483629 := Int.emod_lt_of_pos _ (by decide)
        have W1 := hW.put (i' := i) (z' := z) (s' := (sd * sd % 2147483647 * 3 + sd * 45991 + 746773) % 2147483629) hW.i0 hW.z0 n0 n1
        have na : ((sd * sd % 2147483647 * 3 + sd * 45991 + 746773) % 2147483629).natAbs < 2 ^ 64 := by omega
        -- if cap < 10 ** 8
        refine ⟨_, rfl, _, _, rfl, rfl, hpow8, _, _, rfl, rfl, _, rfl, ?_⟩
        refine ite2 (fun _ => ?_) (fun _ => ?_)
        · refine ⟨.ref d, rfl, d, _, 3, .int _, rfl, rfl, SqL.of W1.at_d, ix3, _, _, rfl, rfl, wide_div (b := 10) (by decide) (by decide) (by decide) (by decide), .ref d, rfl, d, _, 3, .int _, rfl, rfl, SqL.of W1.at_d, ix3, _, _, rfl, rfl, (by show (0 : Int) < 6151; decide), _, _, rfl, rfl, .inr ⟨by decide, by decide⟩, _, _, rfl, rfl, .int c, rfl, _, _, rfl, rfl, (by omega), ?_⟩
          exact q _ _ (Int.emod_nonneg _ (by omega)) (Int.emod_lt_of_pos _ (by omega)) ⟨_, _, _, _, W1⟩ (kp.trans Keep.upd)
        · refine ⟨.ref d, rfl, d, _, 3, .int _, rfl, rfl, SqL.of W1.at_d, ix3, _, _, rfl, rfl, ⟨by decide, by decide, na⟩, _, _, rfl, rfl, wide_div (b := 10) (by decide) (by decide) (by decide) (by decide), .ref d, rfl, d, _, 3, .int _, rfl, rfl, SqL.of W1.at_d, ix3, _, _, rfl, rfl, .int c, rfl, _, _, rfl, rfl, (by omega), ?_⟩
          exact q _ _ (Int.emod_nonneg _ (by omega)) (Int.emod_lt_of_pos _ (by omega)) ⟨_, _, _, _, W1⟩ (kp.trans Keep.upd)
end

/-! ### _law_like -/
abbrev s_like : Stmt := top 33
abbrev N_like : List Str := ["_law_found", "_law_due", "_law_j"]
abbrev P_like : List Str := ["_law_found", "_law_due"]
theorem sc_like : FnScope N_like P_like (defScope s_like) := ⟨rfl, rfl, rfl, by decide +kernel, rfl, by decide +kernel, by decide +kernel⟩
section
variable {P : Program} {w : World} {K : PySem.W.Frag} {mg : Str → Option Value} {base : Heap}
theorem isn_no {v : V} {A B : Prop} (h : v ≠ .non) (b : B) : if decide (v = V.non) = true then A else B := by
  rw [decide_eq_false h]
  exact iteF b
theorem like_step {k n : Nat} {f : Addr} {fd : FuncData} {spR : Sp} (D_like : DefAt K mg "_law_like" s_like P_like f fd) (B : Bn mg) (G_like : FnOk P w K mg base CX0 k f fd P_like spR)
    (hR : ∀ m, n = m + 1 → ∀ vs H Q E, spLike m vs H Q E → spR vs H Q E) : FnOk P w K mg base CX0 (k + 1) f fd P_like (spLike n) := by
  refine D_like.F.ok sc_like (fun vs H Q E h => ?_) (fun cdv A outer s H vs Q E hr h => ?_)
  · obtain ⟨a, b, d, rfl, _⟩ := h
    rfl
  · obtain ⟨a, b, d, rfl, ha, hb, q⟩ := h
    refine ⟨_, (pss_cons (ps_if (pt_cmpR op_isN (pv 1) pe_non (nomark _)) (pss_one (ps_ret (pe_cmpR op_isN (pv 0) pe_non (nomark _)))) pss_nil)
      (pss_cons (ps_if (pt_val (pe_callB call_isi (by rfl) B.isinstance (by decide +kernel) (pa_cons (pv 1) (pa_cons (pe_bltn (v := .ty "bool") (by rfl) B.bool (by decide +kernel) rfl) pa_nil)))) (pss_one (ps_ret (pe_and (pe_callB call_isi (by rfl) B.isinstance (by decide +kernel) (pa_cons (pv 0) (pa_cons (pe_bltn (v := .ty "bool") (by rfl) B.bool (by decide +kernel) rfl) pa_nil))) (pe_one (pe_cmpR op_eq (pv 0) (pv 1) (nomark _)))))) pss_nil)
      (pss_cons (ps_if (pt_val (pe_callB call_isi (by rfl) B.isinstance (by decide +kernel) (pa_cons (pv 1) (pa_cons (pe_bltn (v := .ty "int") (by rfl) B.int (by decide +kernel) rfl) pa_nil)))) (pss_one (ps_ret (pe_and (pe_callB call_isi (by rfl) B.isinstance (by decide +kernel) (pa_cons (pv 0) (pa_cons (pe_bltn (v := .ty "int") (by rfl) B.int (by decide +kernel) rfl) pa_nil))) (pe_and (pe_not (pe_callB call_isi (by rfl) B.isinstance (by decide +kernel) (pa_cons (pv 0) (pa_cons (pe_bltn (v := .ty "bool") (by rfl) B.bool (by decide +kernel) rfl) pa_nil)))) (pe_one (pe_cmpR op_eq (pv 0) (pv 1) (nomark _))))))) pss_nil)
      (pss_cons (ps_if (pt_val (pe_callB call_isi (by rfl) B.isinstance (by decide +kernel) (pa_cons (pv 1) (pa_cons (pe_bltn (v := .ty "str") (by rfl) B.str (by decide +kernel) rfl) pa_nil)))) (pss_one (ps_ret (pe_and (pe_callB call_isi (by rfl) B.isinstance (by decide +kernel) (pa_cons (pv 0) (pa_cons (pe_bltn (v := .ty "str") (by rfl) B.str (by decide +kernel) rfl) pa_nil))) (pe_one (pe_cmpR op_eq (pv 0) (pv 1) (nomark _)))))) pss_nil)
      (pss_cons (ps_if (PW.pt (pw_or (pt_cmpR op_ne (pe_callB call_isi (by rfl) B.isinstance (by decide +kernel) (pa_cons (pv 1) (pa_cons (pe_bltn (v := .ty "tuple") (by rfl) B.tuple (by decide +kernel) rfl) pa_nil))) (pe_callB call_isi (by rfl) B.isinstance (by decide +kernel) (pa_cons (pv 0) (pa_cons (pe_bltn (v := .ty "tuple") (by rfl) B.tuple (by decide +kernel) rfl) pa_nil))) (nomark _)) (pw_or1 (pt_cmpR op_ne (pe_callB call_isi (by rfl) B.isinstance (by decide +kernel) (pa_cons (pv 1) (pa_cons (pe_bltn (v := .ty "list") (by rfl) B.list (by decide +kernel) rfl) pa_nil))) (pe_callB call_isi (by rfl) B.isinstance (by decide +kernel) (pa_cons (pv 0) (pa_cons (pe_bltn (v := .ty "list") (by rfl) B.list (by decide +kernel) rfl) pa_nil))) (nomark _))))) (pss_one (ps_ret pe_bl)) pss_nil)
      (pss_cons (ps_if (pt_cmpR op_ne (pe_callB call_len_seq (by rfl) B.len (by decide +kernel) (pa_cons (pv 0) pa_nil)) (pe_callB call_len_seq (by rfl) B.len (by decide +kernel) (pa_cons (pv 1) pa_nil)) (nomark _)) (pss_one (ps_ret pe_bl)) pss_nil)
      (pss_one (ps_ret (pe_callB (cr_all rfl) (by rfl) B.all (by decide +kernel) (pa_cons (pe_lc (own := [("_law_j", 2)]) (g := gName 2) (by rfl) sc_like.nd (pi_range1 (by rfl) B.range (pa_cons (pe_callB call_len_seq (by rfl) B.len (by decide +kernel) (pa_cons (pv 1) pa_nil)) pa_nil)) (blkOk_by (own := [("_law_j", 2)]) (N := N_like) (sc := defScope s_like) (by decide +kernel)) (fun _ _ _ _ _ => (pg_name (i := 2) sc_like.nd rfl (.inl rfl))) (fun _ _ _ _ _ => pts_nil) (fun _ _ _ _ _ => (pe_call G_like (hr.mono (by omega)) (by rfl) D_like.g D_like.F.kp D_like.b .nil pass0 (pa_cons (pe_ix (show IxR _ (rIx K) from ix_seq) (pv 0) (pv 2) (fun _ _ => rfl)) (pa_cons (pe_ix (show IxR _ (rIx K) from ix_seq) (pv 1) (pv 2) (fun _ _ => rfl)) pa_nil))))) pa_nil)))))))))), ?_⟩
    cases ha with
    | non =>
      cases hb
      exact ⟨.non, rfl, rfl, _, rfl, iteT ⟨.non, rfl, rfl, q H (Same.refl H)⟩⟩
    | bl _ x =>
      cases hb
      refine ⟨.bl x, rfl, rfl, _, rfl, isn_no (by intro z; cases z) ?_⟩
      refine ⟨.bl x, rfl, _, _, _, _, true, rfl, ClsV.ty _, TyX.base (TyOf.bl _), kit_ty (by decide +kernel), _, rfl, iteT ?_⟩
      refine ⟨.bl x, rfl, _, _, _, _, true, rfl, ClsV.ty _, TyX.base (TyOf.bl _), kit_ty (by decide +kernel), _, rfl, iteT ?_⟩
      refine ⟨.bl x, rfl, .bl x, rfl, rfl, ?_⟩
      rw [decide_eq_true rfl]
      exact q H (Same.refl H)
    | int _ x =>
      cases hb
      refine ⟨.int x, rfl, rfl, _, rfl, isn_no (by intro z; cases z) ?_⟩
      refine ⟨.int x, rfl, _, _, _, _, false, rfl, ClsV.ty _, TyX.base (TyOf.int _), kit_ty (by decide +kernel), _, rfl, iteF ?_⟩
      refine ⟨.int x, rfl, _, _, _, _, true, rfl, ClsV.ty _, TyX.base (TyOf.int _), kit_ty (by decide +kernel), _, rfl, iteT ?_⟩
      refine ⟨.int x, rfl, _, _, _, _, true, rfl, ClsV.ty _, TyX.base (TyOf.int _), kit_ty (by decide +kernel), _, rfl, iteT ?_⟩
      refine ⟨.int x, rfl, _, _, _, _, false, rfl, ClsV.ty _, TyX.base (TyOf.int _), kit_ty (by decide +kernel), _, rfl, _, rfl, iteT ?_⟩
      refine ⟨.int x, rfl, .int x, rfl, rfl, ?_⟩
      rw [decide_eq_true rfl]
      exact q H (Same.refl H)
    | str _ x =>
      cases hb
      refine ⟨.str x, rfl, rfl, _, rfl, isn_no (by intro z; cases z) ?_⟩
      refine ⟨.str x, rfl, _, _, _, _, false, rfl, ClsV.ty _, TyX.base (TyOf.str _), kit_ty (by decide +kernel), _, rfl, iteF ?_⟩
      refine ⟨.str x, rfl, _, _, _, _, false, rfl, ClsV.ty _, TyX.base (TyOf.str _), kit_ty (by decide +kernel), _, rfl, iteF ?_⟩
      refine ⟨.str x, rfl, _, _, _, _, true, rfl, ClsV.ty _, TyX.base (TyOf.str _), kit_ty (by decide +kernel), _, rfl, iteT ?_⟩
      refine ⟨.str x, rfl, _, _, _, _, true, rfl, ClsV.ty _, TyX.base (TyOf.str _), kit_ty (by decide +kernel), _, rfl, iteT ?_⟩
      refine ⟨.str x, rfl, .str x, rfl, rfl, ?_⟩
      rw [decide_eq_true rfl]
      exact q H (Same.refl H)
    | @lst m p xs ds hp lp rp =>
      cases hb with
      | @lst _ r ys _ hq lq rq =>
      have lx : xs.length = ds.length := rp.length
      have ly : ys.length = ds.length := rq.length
      refine ⟨.ref r, rfl, rfl, _, rfl, isn_no (by intro z; cases z) ?_⟩
      refine ⟨.ref r, rfl, _, _, _, _, false, rfl, ClsV.ty _, TyX.base (TyOf.lst hq), kit_ty (by decide +kernel), _, rfl, iteF ?_⟩
      refine ⟨.ref r, rfl, _, _, _, _, false, rfl, ClsV.ty _, TyX.base (TyOf.lst hq), kit_ty (by decide +kernel), _, rfl, iteF ?_⟩
      refine ⟨.ref r, rfl, _, _, _, _, false, rfl, ClsV.ty _, TyX.base (TyOf.lst hq), kit_ty (by decide +kernel), _, rfl, iteF ?_⟩
      refine ⟨.ref r, rfl, _, _, _, _, false, rfl, ClsV.ty _, TyX.base (TyOf.lst hq), kit_ty (by decide +kernel), .ref p, rfl, _, _, _, _, false, rfl, ClsV.ty _, TyX.base (TyOf.lst hp), kit_ty (by decide +kernel), rfl, _, rfl, iteNS rfl ?_⟩
      refine ⟨.ref r, rfl, _, _, _, _, true, rfl, ClsV.ty _, TyX.base (TyOf.lst hq), kit_ty (by decide +kernel), .ref p, rfl, _, _, _, _, true, rfl, ClsV.ty _, TyX.base (TyOf.lst hp), kit_ty (by decide +kernel), rfl, _, rfl, iteNS rfl ?_⟩
      refine ⟨.ref p, rfl, p, xs, rfl, .inl (SqL.of hp), .ref r, rfl, r, ys, rfl, .inl (SqL.of hq), rfl, _, rfl, iteNS (by rw [lx, ly]) ?_⟩
      refine ⟨.ref r, rfl, r, ys, rfl, .inl (SqL.of hq), _, rfl, (by have := lq; omega), (by have := lq; omega), fun D hD => lc_range (lo := 0) (n := ((ys.length : Int)).toNat) (fun i H2 => ∃ bs : List Bool, Same H H2 ∧ H2 D = some (.lst (bs.map V.bl)) ∧ bs.length = i ∧ bs.all id = true) ⟨[], same_upd hD, upd_same, rfl, rfl⟩ ?_ ?_⟩
      · rintro i H2 hi ⟨bs, sm, hDl, rfl, hal⟩
        have hi' : bs.length < ds.length := by omega
        obtain ⟨v1, d1, e1, e2, r1⟩ := rp.get bs.length hi'
        obtain ⟨v2, d2, e3, e4, r2⟩ := rq.get bs.length hi'
        have ed : d2 = d1 := Option.some.inj (e4.symm.trans e2)
        subst ed
        refine ⟨rfl, ?_⟩
        refine ⟨.ref p, rfl, .int (0 + (bs.length : Int)), rfl, .inl ⟨p, xs, _, v1, rfl, rfl, SqL.of (sm _ _ hp), at_of (by omega) e1, .ref r, rfl, .int (0 + (bs.length : Int)), rfl, .inl ⟨r, ys, _, v2, rfl, rfl, SqL.of (sm _ _ hq), at_of (by omega) e3, ?_⟩⟩⟩
        refine hR m rfl _ _ _ _ ⟨v1, v2, d2, rfl, r1.same sm, r2.same sm, fun H3 s3 => ?_⟩
        refine ⟨bs.map V.bl, s3 _ _ hDl, sz_lt (by rw [List.length_map]; omega), bs ++ [true], fun b o e => ?_, ?_, by rw [List.length_append]; rfl, by rw [List.all_append, hal]; rfl⟩
        · rw [upd_ne (ne_of_none e hD)]
          exact s3 _ _ (sm _ _ e)
        · rw [upd_same, List.map_append]
          rfl
      · rintro H2 ⟨bs, sm, hDl, _, hal⟩
        refine ⟨D, bs, rfl, SqL.of hDl, ?_⟩
        rw [hal]
        exact q H2 sm
    | @tup m p xs ds hp lp rp =>
      cases hb with
      | @tup _ r ys _ hq lq rq =>
      have lx : xs.length = ds.length := rp.length
      have ly : ys.length = ds.length := rq.length
      refine ⟨.ref r, rfl, rfl, _, rfl, isn_no (by intro z; cases z) ?_⟩
      refine ⟨.ref r, rfl, _, _, _, _, false, rfl, ClsV.ty _, TyX.base (TyOf.tup hq), kit_ty (by decide +kernel), _, rfl, iteF ?_⟩
      refine ⟨.ref r, rfl, _, _, _, _, false, rfl, ClsV.ty _, TyX.base (TyOf.tup hq), kit_ty (by decide +kernel), _, rfl, iteF ?_⟩
      refine ⟨.ref r, rfl, _, _, _, _, false, rfl, ClsV.ty _, TyX.base (TyOf.tup hq), kit_ty (by decide +kernel), _, rfl, iteF ?_⟩
      refine ⟨.ref r, rfl, _, _, _, _, true, rfl, ClsV.ty _, TyX.base (TyOf.tup hq), kit_ty (by decide +kernel), .ref p, rfl, _, _, _, _, true, rfl, ClsV.ty _, TyX.base (TyOf.tup hp), kit_ty (by decide +kernel), rfl, _, rfl, iteNS rfl ?_⟩
      refine ⟨.ref r, rfl, _, _, _, _, false, rfl, ClsV.ty _, TyX.base (TyOf.tup hq), kit_ty (by decide +kernel), .ref p, rfl, _, _, _, _, false, rfl, ClsV.ty _, TyX.base (TyOf.tup hp), kit_ty (by decide +kernel), rfl, _, rfl, iteNS rfl ?_⟩
      refine ⟨.ref p, rfl, p, xs, rfl, .inr (SqT.of hp), .ref r, rfl, r, ys, rfl, .inr (SqT.of hq), rfl, _, rfl, iteNS (by rw [lx, ly]) ?_⟩
      refine ⟨.ref r, rfl, r, ys, rfl, .inr (SqT.of hq), _, rfl, (by have := lq; omega), (by have := lq; omega), fun D hD => lc_range (lo := 0) (n := ((ys.length : Int)).toNat) (fun i H2 => ∃ bs : List Bool, Same H H2 ∧ H2 D = some (.lst (bs.map V.bl)) ∧ bs.length = i ∧ bs.all id = true) ⟨[], same_upd hD, upd_same, rfl, rfl⟩ ?_ ?_⟩
      · rintro i H2 hi ⟨bs, sm, hDl, rfl, hal⟩
        have hi' : bs.length < ds.length := by omega
        obtain ⟨v1, d1, e1, e2, r1⟩ := rp.get bs.length hi'
        obtain ⟨v2, d2, e3, e4, r2⟩ := rq.get bs.length hi'
        have ed : d2 = d1 := Option.some.inj (e4.symm.trans e2)
        subst ed
        refine ⟨rfl, ?_⟩
        refine ⟨.ref p, rfl, .int (0 + (bs.length : Int)), rfl, .inr <| .inl ⟨p, xs, _, v1, rfl, rfl, SqT.of (sm _ _ hp), at_of (by omega) e1, .ref r, rfl, .int (0 + (bs.length : Int)), rfl, .inr <| .inl ⟨r, ys, _, v2, rfl, rfl, SqT.of (sm _ _ hq), at_of (by omega) e3, ?_⟩⟩⟩
        refine hR m rfl _ _ _ _ ⟨v1, v2, d2, rfl, r1.same sm, r2.same sm, fun H3 s3 => ?_⟩
        refine ⟨bs.map V.bl, s3 _ _ hDl, sz_lt (by rw [List.length_map]; omega), bs ++ [true], fun b o e => ?_, ?_, by rw [List.length_append]; rfl, by rw [List.all_append, hal]; rfl⟩
        · rw [upd_ne (ne_of_none e hD)]
          exact s3 _ _ (sm _ _ e)
        · rw [upd_same, List.map_append]
          rfl
      · rintro H2 ⟨bs, sm, hDl, _, hal⟩
        refine ⟨D, bs, rfl, SqL.of hDl, ?_⟩
        rw [hal]
        exact q H2 sm
theorem ok_like {f : Addr} {fd : FuncData} (D : DefAt K mg "_law_like" s_like P_like f fd) (B : Bn mg) : ∀ n : Nat, FnOk P w K mg base CX0 (n + 1) f fd P_like (spLike n)
  | 0 => like_step D B ok_bot fun m e => absurd e (by omega)
  | n + 1 => like_step D B (ok_like D B n) fun m e vs H Q E h => by
    have e : m = n := by omega
    subst e
    exact h
end

def tup4 (o p m f : Int) : HO := .tup [.int o, .int p, .int m, .int f]
theorem at4_0 {a b c d : V} : atI [a, b, c, d] 0 = some a := atI_nat (j := 0) rfl
theorem at4_1 {a b c d : V} : atI [a, b, c, d] 1 = some b := atI_nat (j := 1) rfl
theorem at4_2 {a b c d : V} : atI [a, b, c, d] 2 = some c := atI_nat (j := 2) rfl
theorem at4_3 {a b c d : V} : atI [a, b, c, d] 3 = some d := atI_nat (j := 3) rfl

/-! ### _law_ends -/
abbrev s_ends : Stmt := top 36
abbrev N_ends : List Str := ["_law_mating", "_law_one", "_law_other", "_law_many", "_law_flips", "_law_found", "_law_k"]
abbrev P_ends : List Str := ["_law_mating"]
theorem sc_ends : FnScope N_ends P_ends (defScope s_ends) := ⟨rfl, rfl, rfl, by decide +kernel, rfl, by decide +kernel, by decide +kernel⟩
def endQ (p m f k : Int) : Int := if f = 1 then p + m - 1 - k else p + k
def endL (o p m f : Int) (n : Nat) : List (Int × Int) := (List.range n).map fun (k : Nat) => (o + (k : Int), endQ p m f (k : Int))
/-- the pairs at these addresses -/
def Prs (H : Hp) (ps : List Addr) (xs : List (Int × Int)) : Prop := Paired (fun a x => H a = some (.tup [.int x.1, .int x.2])) ps xs
theorem Paired.same {H H' : Hp} (e : Same H H') : ∀ {ps : List Addr} {xs : List (Int × Int)}, Prs H ps xs → Prs H' ps xs
  | _, _, .nil => .nil
  | _, _, .cons h r => .cons (e _ _ h) (Paired.same e r)
theorem Prs.same {H H' : Hp} {ps : List Addr} {xs : List (Int × Int)} (h : Prs H ps xs) (e : Same H H') : Prs H' ps xs := Paired.same e h
theorem Prs.snoc {H : Hp} : ∀ {ps : List Addr} {xs : List (Int × Int)} {a : Addr} {x : Int × Int}, Prs H ps xs → H a = some (.tup [.int x.1, .int x.2]) → Prs H (ps ++ [a]) (xs ++ [x])
  | _, _, _, _, .nil, h => .cons h .nil
  | _, _, _, _, .cons h r, h2 => .cons h (Prs.snoc r h2)
theorem Prs.length {H : Hp} : ∀ {ps : List Addr} {xs : List (Int × Int)}, Prs H ps xs → ps.length = xs.length
  | _, _, .nil => rfl
  | _, _, .cons _ r => congrArg (· + 1) (Prs.length r)
theorem Prs.get {H : Hp} : ∀ {ps : List Addr} {xs : List (Int × Int)}, Prs H ps xs → ∀ (i : Nat) (x : Int × Int), xs[i]? = some x → ∃ a, ps[i]? = some a ∧ H a = some (.tup [.int x.1, .int x.2])
  | _, _, .nil, i, x, h => by simp at h
  | _, _, .cons (a := a) h r, 0, x, e => by
    cases e
    exact ⟨a, rfl, h⟩
  | _, _, .cons h r, i + 1, x, e => Prs.get r i x e
theorem Prs.rp {H : Hp} : ∀ {ps : List Addr} {xs : List (Int × Int)}, Prs H ps xs → ∀ n, RpAll H (n + 1) (ps.map V.ref) (xs.map fun x => .tuple [.int x.1, .int x.2])
  | _, _, .nil, n => .nil _
  | _, _, .cons h r, n => .cons (.tup h (by show 2 ≤ 100000; decide) (.cons (.int _ _) (.cons (.int _ _) (.nil _)))) (Prs.rp r n)
theorem endL_snoc (o p m f : Int) (n : Nat) : endL o p m f (n + 1) = endL o p m f n ++ [(o + (n : Int), endQ p m f (n : Int))] := by
  unfold endL
  rw [List.range_succ, List.map_append]
  rfl
theorem endL_length (o p m f : Int) (n : Nat) : (endL o p m f n).length = n := by
  unfold endL
  rw [List.length_map, List.length_range]
def spEnds : Sp := fun vs H Q _ => ∃ (t : Addr) (o p f : Int) (m : Nat), vs = [.ref t] ∧ H t = some (tup4 o p (m : Int) f) ∧ m ≤ 50000 ∧
  ∀ (H' : Hp) (r : Addr) (ps : List Addr), Same H H' → H r = none → H' r = some (.lst (ps.map V.ref)) → Prs H' ps (endL o p m f m) → Q (.ref r) H'
section
variable {P : Program} {w : World} {K : PySem.W.Frag} {mg : Str → Option Value} {base : Heap}
theorem ok_ends {f : Addr} {fd : FuncData} (D : DefAt K mg "_law_ends" s_ends P_ends f fd) (B : Bn mg) : FnOk P w K mg base CX0 1 f fd P_ends spEnds := by
  refine D.F.ok sc_ends (fun vs H Q E h => ?_) (fun cdv A outer s H vs Q E hr h => ?_)
  · obtain ⟨t, o, p, f, m, rfl, _⟩ := h
    rfl
  · obtain ⟨t, o, p, f, m, rfl, ht, hm, q⟩ := h
    refine ⟨_, (pss_cons (ps_asg (pv 0) (pg_tup (by rfl) (pgs_cons (pg_name (i := 1) sc_ends.nd rfl (.inl rfl)) (pgs_cons (pg_name (i := 2) sc_ends.nd rfl (.inl rfl)) (pgs_cons (pg_name (i := 3) sc_ends.nd rfl (.inl rfl)) (pgs_cons (pg_name (i := 4) sc_ends.nd rfl (.inl rfl)) pgs_nil))))))
      (pss_cons (ps_set (i := 5) sc_ends.nd rfl (.inl rfl) (pe_lst pa_nil))
      (pss_cons (ps_for PassesOwn.never rfl (pi_range1 (by rfl) B.range (pa_cons (pv 3) pa_nil)) (pg_name (i := 6) sc_ends.nd rfl (.inl rfl)) (pss_one (ps_expr (pe_bm PySem.F.plainAttrs_list PySem.F.slot_list_append PySem.F.type_list_append mt_append (pv 5) (pa_cons (pe_tup (pa_cons (pe_op op_add (pv 1) (pv 6)) (pa_cons (pe_ifExp (pt_cmpR op_eq (pv 4) pe_int (nomark _)) (pe_op op_sub (pe_op op_sub (pe_op op_add (pv 2) (pv 3)) pe_int) (pv 6)) (pe_op op_add (pv 2) (pv 6))) pa_nil))) pa_nil)))))
      (pss_one (ps_ret (pv 5)))))), ?_⟩
    refine ⟨.ref t, rfl, t, _, rfl, SqT.of ht, rfl, .int o, _, rfl, .int p, _, rfl, .int (m : Int), _, rfl, .int f, _, rfl, rfl, ?_⟩
    refine ⟨Nat.zero_le _, fun r nr => ?_⟩
    refine ⟨.int (m : Int), rfl, (m : Int), rfl, by omega, by omega, for_range (lo := 0) (n := ((m : Int)).toNat) (fun i σ H2 => ∃ (y : Option V) (ps : List Addr), σ = [some (.ref t), some (.int o), some (.int p), some (.int (m : Int)), some (.int f), some (.ref r), y] ∧ Same H H2 ∧ H2 r = some (.lst (ps.map V.ref)) ∧ Prs H2 ps (endL o p m f i))
      ⟨none, [], rfl, same_upd nr, upd_same, .nil⟩ ?_ ?_⟩
    · rintro i σ H2 hi ⟨y, ps, rfl, sm, e2, pr⟩
      have hl := pr.length
      rw [endL_length] at hl
      have hlt : (ps.map V.ref).length < sizeLine := sz_lt (by rw [List.length_map]; omega)
      have fin : ∀ (a : Addr) (z : Int), H2 a = none → z = endQ p m f (i : Int) → ∃ (y : Option V) (ps' : List Addr), ([some (.ref t), some (.int o), some (.int p), some (.int (m : Int)), some (.int f), some (.ref r), some (.int (0 + (i : Int)))] : List (Option V)) = [some (.ref t), some (.int o), some (.int p), some (.int (m : Int)), some (.int f), some (.ref r), y] ∧ Same H (upd (upd H2 a (.tup [.int (o + (0 + (i : Int))), .int z])) r (.lst ((ps.map V.ref) ++ [.ref a]))) ∧
          (upd (upd H2 a (.tup [.int (o + (0 + (i : Int))), .int z])) r (.lst ((ps.map V.ref) ++ [.ref a]))) r = some (.lst (ps'.map V.ref)) ∧ Prs (upd (upd H2 a (.tup [.int (o + (0 + (i : Int))), .int z])) r (.lst ((ps.map V.ref) ++ [.ref a]))) ps' (endL o p m f (i + 1)) := fun a z na ez => by
        have nar : a ≠ r := (ne_of_none e2 na).symm
        refine ⟨_, ps ++ [a], rfl, fun b o' hb => ?_, ?_, ?_⟩
        · rw [upd_ne (ne_of_none hb nr), upd_ne (ne_of_none (sm _ _ hb) na)]
          exact sm _ _ hb
        · rw [upd_same, List.map_append]
          rfl
        · rw [endL_snoc]
          refine Prs.snoc (Paired.mapP pr fun b x hb => ?_) ?_
          · have nbr : b ≠ r := ne_of hb e2 (fun z => by cases z)
            rw [upd_ne nbr, upd_ne (ne_of_none hb na)]
            exact hb
          · rw [upd_ne nar, upd_same, ez, show o + (0 + (i : Int)) = o + (i : Int) by omega]
      -- found.append((one + k, ..))
      refine ⟨.ref r, rfl, .inl ⟨rfl, _, SqL.of e2⟩, .int o, rfl, .int (0 + (i : Int)), rfl, o, _, rfl, rfl, .int f, rfl, rfl, _, rfl, ?_⟩
      refine ite2 (fun hf => ?_) (fun hf => ?_)
      · have hf' : f = 1 := V.int.inj (of_decide_eq_true hf)
        refine ⟨.int p, rfl, .int (m : Int), rfl, p, _, rfl, rfl, _, 1, rfl, rfl, .int (0 + (i : Int)), rfl, _, _, rfl, rfl, by show 2 ≤ sizeLine; decide, fun a na => ?_⟩
        exact ⟨r, _, _, rfl, rfl, (by rw [upd_ne (ne_of_none e2 na)]; exact e2), hlt, fin a _ na (by unfold endQ; rw [if_pos hf']; omega)⟩
      · have hf' : ¬ f = 1 := fun z => hf (decide_eq_true (congrArg V.int z))
        refine ⟨.int p, rfl, .int (0 + (i : Int)), rfl, p, _, rfl, rfl, by show 2 ≤ sizeLine; decide, fun a na => ?_⟩
        exact ⟨r, _, _, rfl, rfl, (by rw [upd_ne (ne_of_none e2 na)]; exact e2), hlt, fin a _ na (by unfold endQ; rw [if_neg hf']; omega)⟩
    · rintro σ H2 ⟨y, ps, rfl, sm, e2, pr⟩
      exact ⟨.ref r, rfl, q H2 r ps sm nr e2 (by rw [Int.toNat_natCast] at pr; exact pr)⟩
end

/-! ### lists of pairs as data -/
def pd (x : Int × Int) : PyData := .tuple [.int x.1, .int x.2]
theorem lay_pairs : ∀ xs : List (Int × Int), PyData.canLayAll0 (xs.map pd) = true
  | [] => rfl
  | x :: r => by
    show (PyData.canLay0 (pd x) && PyData.canLayAll0 (r.map pd)) = true
    rw [lay_pairs r]
    rfl
theorem depth_pairs : ∀ xs : List (Int × Int), PyData.depthAll (xs.map pd) ≤ 1
  | [] => Nat.zero_le _
  | x :: r => Nat.max_le.mpr ⟨Nat.le_refl 1, depth_pairs r⟩
theorem shaped_pairs (xs : List (Int × Int)) : SeqAt.shaped (.list (xs.map pd)) = true := by
  unfold SeqAt.shaped
  rw [show PyData.canLay0 (.list (xs.map pd)) = true from lay_pairs xs, Bool.true_and, decide_eq_true_eq]
  have := depth_pairs xs
  show PyData.depthAll (xs.map pd) + 1 ≤ 64
  omega
theorem eqv_nil : ∀ xs : List (Int × Int), PyData.eqv (.list (xs.map pd)) (.list []) = xs.isEmpty
  | [] => rfl
  | x :: r => rfl
theorem Prs.dp {H : Hp} {K : PySem.W.Frag} : ∀ {ps : List Addr} {xs : List (Int × Int)}, Prs H ps xs → DpAll K H (ps.map V.ref) (xs.map pd)
  | _, _, .nil => .nil
  | _, _, .cons h r => .cons (.tup (SqT.of h) (.cons (.int _) (.cons (.int _) .nil))) (Prs.dp r)
theorem Prs.rpd {H : Hp} {ps : List Addr} {xs : List (Int × Int)} (h : Prs H ps xs) (n : Nat) : RpAll H (n + 1) (ps.map V.ref) (xs.map pd) := h.rp n
/-- a list of pairs that grows by one -/
theorem Prs.grow {H : Hp} {r a : Addr} {ps : List Addr} {xs : List (Int × Int)} {x : Int × Int} {o : HO} (h : Prs H ps xs) (hr : H r = some (.lst (ps.map V.ref))) (ha : H a = some (.tup [.int x.1, .int x.2])) :
    Prs (upd H r (.lst ((ps.map V.ref) ++ [.ref a]))) (ps ++ [a]) (xs ++ [x]) := by
  have ne : ∀ {b : Addr} {y : Int × Int}, H b = some (.tup [.int y.1, .int y.2]) → b ≠ r := fun hb => ne_of hb hr (fun z => by cases z)
  refine Prs.snoc (Paired.mapP h fun b y hb => ?_) ?_
  · rw [upd_ne (ne hb)]
    exact hb
  · rw [upd_ne (ne ha)]
    exact ha

/-! ### rules of my own: a value in an f-string, a def read off its class -/
section
open PySem.Spec PyProof.Rows
variable {X : Cx}
def tFmtV (te : TE) : TE := fun σ H Q => te σ H fun x H1 => (∃ i : Int, x = .int i ∧ i.natAbs.log2 < 1920 ∧ Q (.str (toString i)) H1) ∨ (∃ b : Bool, x = .bl b ∧ Q (.str (if b then "True" else "False")) H1)
theorem pe_fmtV {e : Expr} {te : TE} {pos : Pos} (he : PE X e te) : PE X (.FormattedValue e (-1) none pos) (tFmtV te) := by
  refine ⟨fun pins s σ H Q I h => ?_⟩
  refine wpAny_FormattedValue_plain (thn (he.run pins s σ H _ I h) fun v s1 hv => ?_)
  obtain ⟨x, H1, I1, r1, q⟩ := hv
  rcases q with ⟨i, rfl, hz, q⟩ | ⟨b, rfl, q⟩
  · obtain ⟨t, rfl⟩ := r1
    exact wpAny_formatField_int hz ⟨.str (toString i), H1, I1.tok _, ⟨_, rfl⟩, q⟩
  · cases (show v = Value.bool b from r1)
    exact wpAny_formatField_bool ⟨.str (if b then "True" else "False"), H1, I1.tok _, ⟨_, rfl⟩, q⟩
/-- what the written part says of a class's own def, read off the class -/
structure ClsFn (K : PySem.W.Frag) (C : Addr) (m : Str) (f : Addr) : Prop where
  sp : PySem.W.specialIn K (.ref C) "__getattribute__" = some (some (.builtin "type.__getattribute__"))
  rd : PySem.W.readsIn K C (.type "type") = true
  fc : PySem.W.findCls K (.ref C) (.type "type") m = some (.val (.ref f))
  kp : PySem.W.keepIn K (.ref f) = true
theorem pe_clsfn {CX : CXT} {k : Nat} {f C : Addr} {fd : FuncData} {ps : List Str} {sp : Sp} {E : XK} {x m : Str} {p1 p2 pos : Pos} {e : Expr} {es : List Expr} {t : TA} {pl : Sem Bool} (hg : Gl X x) (hm : X.mg x = some (.ref C)) (T : ClsFn X.K C m f)
    (F : FnOk X.prog X.w X.K X.mg X.base CX k f fd ps sp) (hr : Room k X.A) (hb : Binds X.K fd ps []) (hx : Passes CX X E) (ha : PA X (e :: es) t)
    (hc : eval (.Call (.Attribute (.Name x p1) m p2) (e :: es) [] pos) X.env = (do
      let ov ← eval (.Name x p1) X.env
      standAt p2.atName
      let (f, first) ← holding [ov] (getMethod ov m pl)
      callWith pos f first (backTo pos (starEach (e :: es) X.env)) (backToKw pos (keywordEach [] X.env))) := by rfl)
    (hdb : (x == ("__debug__" : Str)) = false := by decide) (he : starEach (e :: es) X.env = (false, eval e X.env) :: starEach es X.env := by rfl) (hpl : (backTo pos (starEach es X.env)).any (·.1) = false := by rfl) :
    PE X (.Call (.Attribute (.Name x p1) m p2) (e :: es) [] pos) (tCall sp [] E t) := by
  refine ⟨fun pins s σ H Q I h => ?_⟩
  refine PySem.W.methodCall_KW (ld_glob I hg hm ?_ hdb) hc
  refine PySem.W.method_cls I.kIn T.sp (PySem.W.cls_value I.kIn T.rd T.fc rfl ?_)
  show wpAny _ _ (callWith pos (Value.ref f) [] (backTo pos (starEach (e :: es) X.env)) []) _ _ _
  refine PySem.W.callWith_K (h₀ := X.base) I.ok.mod.kin T.kp (thn (ha.run pos pins _ σ H _ (I.tok _) h) fun us s1 ⟨vs, H1, I1, r, q⟩ => ⟨I1.kIn, ?_⟩) he hpl
  exact run_fn F hr hb (.nil) hx I1 r q
end

/-! ### FarError.__init__ -/
def FV (x : V) : Prop := (∃ i : Int, x = .int i ∧ i.natAbs.log2 < 1920) ∨ ∃ b : Bool, x = .bl b
theorem FV.go {x : V} {H : Hp} {Q : V → Hp → Prop} (h : FV x) (q : ∀ y : Str, y.length ≤ 1921 → Q (.str y) H) : (∃ i : Int, x = .int i ∧ i.natAbs.log2 < 1920 ∧ Q (.str (toString i)) H) ∨ (∃ b : Bool, x = .bl b ∧ Q (.str (if b then "True" else "False")) H) := by
  rcases h with ⟨i, e, hi⟩ | ⟨b, e⟩
  · exact .inl ⟨i, e, hi, q _ (PyProof.Rows.int_text_len_1921 hi)⟩
  · exact .inr ⟨b, e, q _ (by cases b <;> decide +kernel)⟩
theorem fmtV_at {i : Nat} {x : V} {σ : L2.St} {H : Hp} {Q : VK} (hs : σ[i]? = some (some x)) (h : FV x) (q : ∀ y : Str, y.length ≤ 1921 → Q (.str y) H) : tFmtV (tVar i) σ H Q := ⟨x, hs, FV.go (Q := Q) h q⟩
theorem app_fits {a b : Str} {n m : Nat} (ha : a.length ≤ n) (hb : b.length ≤ m) : (a ++ b).length ≤ n + m := by
  rw [Str.length_append]
  omega
theorem fits_of {a : Str} {n : Nat} (ha : a.length ≤ n) (h : n ≤ 100000) : a.length ≤ sizeLine := Nat.le_trans ha (Nat.le_trans h (by decide))
abbrev s_farinit : Stmt := inClass (top 1) 0
abbrev N_farinit : List Str := ["self", "why"]
theorem sc_farinit : FnScope N_farinit N_farinit (defScope s_farinit) := ⟨rfl, rfl, rfl, by decide +kernel, rfl, by decide +kernel, by decide +kernel⟩
def spFarInit (K : PySem.W.Frag) : Sp := fun vs H Q _ => ∃ (a C : Addr) (y : Str), vs = [.ref a, .str y] ∧ OexC K C ∧ PySem.W.findIn K (.ref C) "word" = some none ∧ H a = some (exo a C none) ∧
  ∀ dx, H dx = none → dx ≠ a → Q .non (upd (upd H dx (exd dx [("word", .str "FarError")])) a (exo a C (some dx)))
section
variable {P : Program} {w : World} {K : PySem.W.Frag} {mg : Str → Option Value} {base : Heap}
theorem ok_farinit {f : Addr} {fd : FuncData} (F : FunD K "__init__" "FarError.__init__" (defArgs s_farinit) (defBody s_farinit) (defScope s_farinit) [.str ""] [] f fd) (mV : mg "ValueError" = none)
    (vV : PySem.W.findCls K (.type "ValueError") (.type "type") "__init__" = some (.val (.builtin "ValueError.__init__"))) : FnOk P w K mg base CX0 1 f fd N_farinit (spFarInit K) := by
  refine F.ok sc_farinit (fun vs H Q E h => ?_) (fun cdv A outer s H vs Q E hr h => ?_)
  · obtain ⟨a, C, y, rfl, _⟩ := h
    rfl
  · obtain ⟨a, C, y, rfl, T, hw, ha, q⟩ := h
    refine ⟨_, pss_cons (ps_expr (pe_veinit (by rfl) mV vV (pa_cons (pv 0) (pa_cons (pv 1) pa_nil)))) (pss_one (ps_ost (pv 0) pe_str)), ?_⟩
    refine ⟨.ref a, rfl, .str y, rfl, a, C, [.str y], rfl, by show 1 ≤ 1000; decide, T, ha, ?_⟩
    exact ⟨.ref a, rfl, a, C, rfl, T, hw, .inl ⟨ha, fun dx n ne => q dx n ne⟩⟩
end
/-! ### an own error's __init__ of one field -/
/-- what the written part says of an error's class -/
structure ErrT (K : PySem.W.Frag) (C : Addr) : Prop where
  o : OexC K C
  w : PySem.W.findIn K (.ref C) "word" = some none

abbrev s_bninit : Stmt := inClass (top 2) 0
abbrev N_bninit : List Str := ["self", "number"]
theorem sc_bninit : FnScope N_bninit N_bninit (defScope s_bninit) := ⟨rfl, rfl, rfl, by decide +kernel, rfl, by decide +kernel, by decide +kernel⟩
def bnF (n : V) : List (Str × V) := [("word", .str "BadNumber"), ("number", n), ("word", .str "FarError")]
def spBnInit (K : PySem.W.Frag) : Sp := fun vs H Q _ => ∃ (a C : Addr) (n : V), vs = [.ref a, n] ∧ FV n ∧ ErrT K C ∧ PySem.W.findIn K (.ref C) "number" = some none ∧ H a = some (exo a C none) ∧
  ∀ (H' : Hp) (dx : Addr), H dx = none → H' a = some (exo a C (some dx)) → H' dx = some (exd dx (bnF n)) → (∀ b o, b ≠ a → H b = some o → H' b = some o) → Q .non H'
section
variable {P : Program} {w : World} {K : PySem.W.Frag} {mg : Str → Option Value} {base : Heap}
theorem ok_bninit {f fF CF : Addr} {fd fdF : FuncData} (F : Fun K "__init__" "BadNumber.__init__" s_bninit f fd) (gF : mg "FarError" = some (.ref CF)) (TF : ClsFn K CF "__init__" fF) (bF : Binds K fdF N_farinit [])
    (GF : FnOk P w K mg base CX0 1 fF fdF N_farinit (spFarInit K)) : FnOk P w K mg base CX0 2 f fd N_bninit (spBnInit K) := by
  refine F.ok sc_bninit (fun vs H Q E h => ?_) (fun cdv A outer s H vs Q E hr h => ?_)
  · obtain ⟨a, C, n, rfl, _⟩ := h
    rfl
  · obtain ⟨a, C, n, rfl, hn, T, hno, ha, q⟩ := h
    refine ⟨_, pss_cons (ps_expr (pe_clsfn (by rfl) gF TF GF hr bF pass0 (pa_cons (pv 0) (pa_cons (pe_joined (.cons pe_str (.cons (pe_fmtV (pv 1)) .nil))) pa_nil))))
      (pss_cons (ps_ost (pv 0) (pv 1)) (pss_one (ps_ost (pv 0) pe_str))), ?_⟩
    refine ⟨.ref a, rfl, _, rfl, fits_of (n := 100) (by decide +kernel) (by decide), ?_⟩
    refine fmtV_at (i := 1) rfl hn fun y hy => ?_
    refine ⟨y, rfl, fits_of (app_fits (n := 100) (by decide +kernel) hy) (by decide), ?_⟩
    refine ⟨a, C, _, rfl, T.o, T.w, ha, fun dx ndx ne => ?_⟩
    have e1 : (upd (upd H dx (exd dx [("word", .str "FarError")])) a (exo a C (some dx))) a = some (exo a C (some dx)) := upd_same
    have e2 : (upd (upd H dx (exd dx [("word", .str "FarError")])) a (exo a C (some dx))) dx = some (exd dx [("word", .str "FarError")]) := by rw [upd_ne ne, upd_same]
    refine ⟨n, rfl, .ref a, rfl, a, C, rfl, T.o, hno, .inr ⟨dx, _, e1, e2, by show 1 ≤ 900; decide, ?_⟩⟩
    refine ⟨.ref a, rfl, a, C, rfl, T.o, T.w, .inr ⟨dx, _, by rw [upd_ne ne.symm]; exact e1, upd_same, by show 2 ≤ 900; decide, ?_⟩⟩
    refine q _ dx ndx (by rw [upd_ne ne.symm, upd_ne ne.symm]; exact e1) upd_same fun b o nb hb => ?_
    have nbd : b ≠ dx := ne_of_none hb ndx
    rw [upd_ne nbd, upd_ne nbd, upd_ne nb, upd_ne nbd]
    exact hb
end

/-! ### try, the first of several named clauses takes the error -/
section
open PySem.Spec PyProof.Rows
def wFirst (K : PySem.W.Frag) (c : Value) (i : Nat) (ts : Addr → Value → Option Addr → TS) (D : Ends) : WX := fun k dd τ G =>
  PySem.W.exmOne K k c = some true ∧ ∀ z, G z = none → ts z k dd ⟨fun τ' G' => D.nx (τ'.set i none) G', D.rt, fun τ' G' => D.bk (τ'.set i none) G', fun τ' G' => D.ct (τ'.set i none) G'⟩ (τ.set i (some (.ref z))) G
variable {X : Cx}
theorem ps_try_first {x n : Str} {c : Value} {i : Nat} {bd su : List Stmt} {s0 : Stmt} {np q1 q2 : Pos} {more : List ExceptHandler} {tb : WX → TS} {ts : Addr → Value → Option Addr → TS}
    (stk : X.stack = X.env :: X.outer) (frm : X.env.frame = some X.env.locals) (nod : X.N.Nodup) (slot : X.N[i]? = some n) (loc : X.env.kindOf n = some .local) (nam : Names X x c)
    (run : ∀ (W : WX) (pn : List (Addr × Obj)) (xe : Value → Shared → Prop), L2.Takes (X.tr pn xe) W → PassesOwn (model X.prog X.w) X.A X.env xe → PSs (X.tr pn xe) bd (tb W))
    (sui : ∀ (z : Addr) (oz : Obj) (k : Value) (dd : Option Addr) (pn : List (Addr × Obj)), Zc k dd oz → (∃ vs, oz.data = .fields vs) → PSs (X.suite z ((z, oz) :: pn)) (s0 :: su) (ts z k dd)) :
    PS X (.Try bd (.ExceptHandler (some (.Name x np)) (some n) (s0 :: su) q2 :: more) [] [] q1) (fun D τ G => tb (wFirst X.K c i ts D) D τ G) := by
  refine ⟨fun pins st τ G D I want => ?_⟩
  have okX := I.ok
  have frames : X.A.frames = some (X.env :: X.outer) := (okX.frames).trans (congrArg some stk)
  refine wpAny_Try_except (wpAny_mono ((run (wFirst X.K c i ts D) (X.pn ++ pins) (fun er s1 => wpAny (model X.prog X.w) X.A (noteFrame er X.env) (fun _ s2 => wpAny (model X.prog X.w) X.A (setFlight er none)
    (fun _ s3 => wpAny (model X.prog X.w) X.A (handleBy er X.env (.ExceptHandler (some (.Name x np)) (some n) (s0 :: su) q2 :: more)) (SP X pins D) X.xe s3) X.xe s2) X.xe s1) (fun er s' flown => ?_) PassesOwn.looking).run [] st τ G D (I.toTry _) want) (fun fl s1 done => ?_) (fun _ _ z => z))
  · obtain ⟨z, Bq, sI, pins', τ', G', k, dd, rfl, Jt, nb, up, sky, nz, osq, bare, hit, go⟩ := flown
    have J : Inv X pins τ' G' sI := Jt.ofTry okX
    have sky2 : Sky Bq (X.env :: X.outer) z (Zc k dd) X.env.locals s'.heap := stk ▸ sky
    show wpAny (model X.prog X.w) X.A (noteFrame (.ref z) X.env) _ _ _
    refine Sky.land Zc.steady frames frm sky2 fun g3 fly3 up3 => ?_
    have J3 : Inv X pins τ' G' { s' with heap := g3 } := J.landed nb fly3.1 (up.trans up3) osq bare
    obtain ⟨o3, v3, get3, zc3, dat3⟩ := fly3.there
    have offFr : z ∉ frs (X.env :: X.outer) := fun mem => by
      obtain ⟨_, o', got, nof⟩ := fly3.2.2.1.mem mem
      rw [get3] at got
      cases got
      exact nof _ dat3
    have offL : z ≠ X.env.locals := fun e => offFr (List.mem_filterMap.mpr ⟨X.env, List.mem_cons_self, frm.trans (congrArg some e.symm)⟩)
    have offF : z ∉ X.fs := fun mem => by
      obtain ⟨ev, hev, qe⟩ := List.mem_filterMap.mp mem
      exact offFr (List.mem_filterMap.mpr ⟨ev, List.mem_cons_of_mem _ hev, qe⟩)
    have S3 := J3.suite get3 dat3 nz offL offF
    have ty : PySem.W.Looks (model X.prog X.w) g3 (typeOf (.ref z)) k := fun A' Q' E' sx kx qx => wpAny_typeOf_ref (kx _ _ get3) (zc3.1.symm ▸ qx)
    have mat := PySem.W.exm_one (M := model X.prog X.w) J3.kIn ty hit
    have named : ∀ {Q' : Value → Shared → Prop} {E' : Value → Shared → Prop}, Q' c { s' with heap := g3 } → wpAny (model X.prog X.w) (X.A.mark (some (.ref z))) (eval (.Name x np) X.env) Q' E' { s' with heap := g3 } := fun qc => by
      obtain ⟨g0, dbg, m0 | ⟨m0, v0, n0⟩⟩ := nam
      · exact ld_glob (X := X.suite z ((z, o3) :: (X.pn ++ pins))) S3 g0 m0 qc dbg
      · exact ld_blt (X := X.suite z ((z, o3) :: (X.pn ++ pins))) S3 g0 m0 v0 qc n0 dbg
    refine wpAny_handleBy_cons (codeAny_handlers_test (named (mat.here ?_))) (fun qq => by cases qq)
    refine codeAny_handlers_suite_as (HandSPX.lands_againZ fly3 fun g4 fly4 up4 => ?_)
    have J4 : Inv X pins τ' G' { s' with heap := g4 } := J.landed nb fly4.1 ((up.trans up3).trans up4) osq bare
    obtain ⟨o4, v4, get4, zc4, dat4⟩ := fly4.there
    have S4 := J4.suite get4 dat4 nz offL offF
    refine store_ok (X := X.suite z ((z, o4) :: (X.pn ++ pins))) (v := .ref z) S4 nod slot (.inl loc) rfl (fun s5 S5 => ?_) (.inr loc)
    refine wpAny_mono ((sui z o4 k dd (X.pn ++ pins) zc4 ⟨_, dat4⟩).run [] s5 _ G' _ S5 (go z nz)) (fun fl s6 done => ?_) (fun _ _ bad => bad.elim)
    have gone : ∀ {τ6 : L2.St} {G6 : Hp} {R : Shared → Prop}, Inv (X.suite z ((z, o4) :: (X.pn ++ pins))) [] τ6 G6 s6 → (∀ s7, Inv X pins (τ6.set i none) G6 s7 → R s7) →
        wpAny (model X.prog X.w) X.A (do bindName X.env n .none; unbindBehindTheSuite X.env n q2) (fun _ s7 => R s7) X.xe s6 := fun S6 hq => gone_ok (S6.unsuite okX) nod slot loc hq
    cases fl with
    | next =>
      obtain ⟨τ6, G6, S6, q6⟩ := done
      exact gone S6 fun s7 J7 => ⟨_, _, J7, q6⟩
    | brk =>
      obtain ⟨τ6, G6, S6, q6⟩ := done
      exact gone S6 fun s7 J7 => ⟨_, _, J7, q6⟩
    | cont =>
      obtain ⟨τ6, G6, S6, q6⟩ := done
      exact gone S6 fun s7 J7 => ⟨_, _, J7, q6⟩
    | ret u =>
      obtain ⟨v6, τ6, G6, S6, r6, q6⟩ := done
      exact gone S6 fun s7 J7 => ⟨_, _, _, J7, r6, q6⟩
  · cases fl with
    | next =>
      obtain ⟨τ1, G1, J1, q⟩ := done
      exact wpAny_execs_nil ⟨τ1, G1, J1.ofTry okX, q⟩
    | brk =>
      obtain ⟨τ1, G1, J1, q⟩ := done
      exact ⟨τ1, G1, J1.ofTry okX, q⟩
    | cont =>
      obtain ⟨τ1, G1, J1, q⟩ := done
      exact ⟨τ1, G1, J1.ofTry okX, q⟩
    | ret u =>
      obtain ⟨v1, τ1, G1, J1, r, q⟩ := done
      exact ⟨v1, τ1, G1, J1.ofTry okX, r, q⟩
end

/-! ### an error that is held, looked at by a def -/
section
open PySem.Spec PyProof.Rows PySem.W PySem.Calls
variable {prog : Program} {w : World} {A : Around} {E : Value → Shared → Prop} {st : Shared} {K : Frag} {z C : Addr} {oz : Obj} {oo : Option Obj}
theorem own_class {Q : Option Value → Shared → Prop} (T : ExcC K C) (KI : K.In st.heap) (I : InstAt st.heap z oz C oo) (want : Q (some (.ref C)) { st with toks := st.toks + 1 }) : wpAny (model prog w) A (getAttr? (.ref z) "__class__") Q E st := by
  obtain ⟨cdx, hcdx, _⟩ := any_some T.hd
  have found : findObj K C oo "__class__" = some (.bind (.builtin "getset_descriptor.__get__") (.builtin "object.__class__")) := by
    unfold findObj
    rw [hcdx, Option.bind_some, T.ha, Option.bind_some]
    simp [T.hn, T.ht]
  obtain ⟨hq, gq, dq, tq, oq⟩ := st
  have k0 := I.type (M := model prog w)
  have k1 := looks_findIn (M := model prog w) KI T.hg
  have k2 := looks_findIn (M := model prog w) KI T.hk
  have k3 := looks_find (M := model prog w) KI I found
  have kb : Looks (model prog w) hq (isInstance (.ref z) (.type "BaseException")) true := k0.andThen (looks_subIn KI T.hs)
  have not2 : (Value.builtin "BaseException.__getattribute__" == Value.builtin "object.__getattribute__") = false := by decide +kernel
  have not1 : (onTheHeap (Value.ref C) && Value.builtin "BaseException.__getattribute__" == Value.builtin "object.__getattribute__") = false := by rw [not2] <;> rfl
  unfold getAttr? getAttrBy? getAttrBy
  refine wpAny_bind (wpAny_mkText (wpAny_bind (wpAny_attempt (wpAny_holding (wpAny_bind (k0.at (wpAny_bind (k1.at ?_))))))))
  show wpAny _ _ (if (onTheHeap (Value.ref C) && Value.builtin "BaseException.__getattribute__" == Value.builtin "object.__getattribute__") = true then _ else _) _ _ _
  rw [not1, if_neg Bool.false_ne_true]
  unfold getAttrByItsOwn hookBefore
  refine wpAny_bind ?_
  rw [if_pos (show onTheHeap (Value.ref C) = true from rfl)]
  refine k2.at (wpAny_bind (wpAny_attempt (wpAny_holding ?_)))
  unfold callGetattribute
  rw [show (false && onTheHeap (Value.builtin "BaseException.__getattribute__")) = false from rfl, if_neg Bool.false_ne_true]
  unfold boundAndCalled
  rw [PySem.F.excAttr_ValueError.ga.bind (.ref z)]
  refine wpAny_bind (wpAny_pure ?_)
  show wpAny _ _ (call (.builtin "BaseException.__getattribute__") [.ref z, .str "__class__" tq]) _ _ _
  refine wpAny_call (codeAny_call_builtin PySem.F.excAttr_ValueError.ga.plain PySem.F.entry_bexc_ga ?_)
  refine @check_slot (model prog w) _ _ ⟨hq, gq, dq, tq + 1, oq⟩ "BaseException.__getattribute__" "BaseException" "__getattribute__" (.ref z) [.str "__class__" tq] [] _ (by decide +kernel) (by decide +kernel) kb (PySem.F.args_bexc_ga (.ref z) (.str "__class__" tq)) ?_
  unfold Builtin.«object.__getattribute__»
  refine wpAny_bind (wpAny_of_eq (a := ((Value.ref z : Value), [Value.str "__class__" tq])) (by first | rfl | (simp only [slotArgs]; rfl)) ?_)
  refine wpAny_bind (wpAny_pure (wpAny_bind (k0.at (wpAny_bind (k3.at ?_)))))
  show wpAny _ _ (holding [Value.builtin "object.__class__"] (call (.builtin "getset_descriptor.__get__") [.builtin "object.__class__", .ref z, .ref C]) >>= ret) _ _ _
  refine wpAny_bind (wpAny_holding (wpAny_call (class_get (s := ⟨hq, gq, dq, tq + 1, oq⟩) (ox := oz) (od := oo) KI I T.hm (wpAny_pure ?_))))
  show wpAny _ _ (handedOut (.ref C)) _ _ _
  rw [handedOut_of (v := .ref C) rfl]
  first
    | exact wpAny_pure (wpAny_pure want)
    | exact wpAny_pure want
    | exact wpAny_pure (wpAny_bind (wpAny_pure (wpAny_pure want)))
theorem own_kit (T : ExcC K C) : KitX K (.ref z) (.ref C) (fun h => InstAt h z oz C oo) where
  ty := fun _ _ _ I => I.type
  it := fun _ _ KI _ => by
    obtain ⟨cdx, hcdx, _⟩ := any_some T.hd
    unfold clsIn at hcdx
    split at hcdx
    · rename_i c1 d1 cd1 sl1 got
      intro A' Q' E' s' kp qq
      unfold isType loadHead
      exact wpAny_bind (wpAny_loadPart (kp _ _ (KI _ _ got)) (wpAny_pure qq))
    · cases hcdx
  ne := fun h tp dd its n sl KI htp => by
    obtain ⟨cdx, hcdx, _⟩ := any_some T.hd
    refine Bool.eq_false_iff.mpr fun same => ?_
    have e : C = tp := Value.ref.inj (beq_iff_eq.mp same)
    subst e
    unfold clsIn at hcdx
    split at hcdx
    · rename_i c1 d1 cd1 sl1 got
      have two := (KI _ _ got).symm.trans htp
      cases two
    · cases hcdx
  ca := fun KI I k => own_class T KI I k
end
/-- the error at p.1 is one of the class at C, its dict stands at dd with the fields fs -/
structure Held (p : Addr × Obj) (C dd : Addr) : Prop where
  z : Zc (.ref C) (some dd) p.2
  f : ∃ vs, p.2.data = .fields vs
section
open PySem.Spec PyProof.Rows
variable {X : Cx} {p : Addr × Obj} {C dd : Addr}
theorem Held.inst {pins : List (Addr × Obj)} {σ : L2.St} {H : Hp} {s : Shared} {fs : List (Str × V)} (h : Held p C dd) (hp : p ∈ X.pn) (I : Inv X pins σ H s) (hd : H dd = some (.xd fs)) :
    ∃ (od : Obj) (mA : Str → Option Value), PySem.W.InstAt s.heap p.1 p.2 C (some od) ∧ (∀ n, PySem.W.lookIn n od = some (mA n)) ∧ ∀ f, RelO (fs.lookup f) (mA f) := by
  obtain ⟨got, _⟩ := I.pin p (List.mem_append_left _ hp)
  obtain ⟨vs, dat⟩ := h.f
  obtain ⟨mA, hns, rel⟩ := (show ObjOk X.prog X.w H s.heap dd (.xd fs) from I.hok dd _ hd)
  obtain ⟨od, ho, hl⟩ := lookIn_ns hns
  exact ⟨od, mA, ⟨got, h.z.1, by unfold PySem.W.notCls; rw [dat] <;> rfl, by rw [h.z.2]; exact ho⟩, hl, rel⟩
/-- e.f, e the held error -/
def tHeldF (p : Addr × Obj) (dd : Addr) (f : Str) (te : TE) : TE := fun σ H Q => te σ H fun x H1 => x = .ref p.1 ∧ ∃ (fs : List (Str × V)) (v : V), H1 dd = some (.xd fs) ∧ fs.lookup f = some v ∧ Q v H1
theorem pe_heldf {e : Expr} {te : TE} {pos : Pos} {n : Str} (h : Held p C dd) (hp : p ∈ X.pn) (T : XfC X.K C) (hno : PySem.W.findIn X.K (.ref C) n = some none) (he : PE X e te) (hb : attributeBase e n X.env (eval e X.env) = eval e X.env := by rfl) :
    PE X (.Attribute e n pos) (tHeldF p dd n te) := by
  refine ⟨fun pins s σ H Q I q => ?_⟩
  refine attr_of hb (thn (he.run pins s σ H _ I q) fun u s1 got => ?_)
  obtain ⟨x, H1, I1, rx, rfl, fs, v, hd, l, q1⟩ := got
  obtain rfl : u = Value.ref p.1 := rx
  obtain ⟨od, mA, J, hl, rel⟩ := h.inst hp I1 hd
  obtain ⟨y, hy, ry⟩ := RelO.some_of (v := v) (o := mA n) (by rw [← l]; exact rel n)
  exact HandSPX.exc_get I1.kIn J T.ga T.gg T.exC (PySem.W.findObj_own T.hdC hno rfl (by rw [hl, hy])) (handed_of ry) ⟨v, H1, I1.tok _, ry, q1⟩
/-- isinstance(e, (c, ..)) and isinstance(e, c), e the held error -/
def rHeldT (K : PySem.W.Frag) (p : Addr × Obj) (C dd : Addr) : List V → Hp → VK → Prop := fun xs H Q => ∃ (tp : Addr) (cs : List V) (us : List Value) (b : Bool) (fs : List (Str × V)), xs = [.ref p.1, .ref tp] ∧ H tp = some (.tup cs) ∧ Paired ClsV cs us ∧ PySem.W.kitAny K (.ref C) us = some b ∧ H dd = some (.xd fs) ∧ Q (.bl b) H
theorem call_heldT (h : Held p C dd) (hp : p ∈ X.pn) (T : ExcC X.K C) : CallR X (.builtin "isinstance") (rHeldT X.K p C dd) := by
  intro pins s σ H xs us Q I r q
  obtain ⟨tp, cs, ws, b, fs, rfl, hT, pr, ka, hd, q1⟩ := q
  obtain ⟨u1, u2, rfl, r1, r2⟩ := vals2 r
  cases (show u1 = Value.ref p.1 from r1)
  cases (show u2 = Value.ref tp from r2)
  obtain ⟨od, mA, J, _, _⟩ := h.inst hp I hd
  obtain ⟨_, its, rv, o, h1, h2, n, h3⟩ := (show ObjOk X.prog X.w H s.heap tp (.tup cs) from I.hok tp _ hT)
  have e3 := ClsV.all pr rv
  subst e3
  obtain ⟨oc, od', dt, sl⟩ := o
  simp only at h2 h3
  subst h2 h3
  exact PySem.W.kia_tup (own_kit (oz := p.2) (oo := some od) T) I.kIn J h1 ka (fun e => nomatch e) fun tk => ⟨.bl b, H, I.tok tk, rfl, q1⟩
def rHeld1 (K : PySem.W.Frag) (p : Addr × Obj) (C dd : Addr) : List V → Hp → VK → Prop := fun xs H Q => ∃ (D : Addr) (b : Bool) (fs : List (Str × V)), xs = [.ref p.1, .ref D] ∧ PySem.W.kitOne K (.ref C) (.ref D) = some b ∧ H dd = some (.xd fs) ∧ Q (.bl b) H
theorem call_held1 (h : Held p C dd) (hp : p ∈ X.pn) (T : ExcC X.K C) : CallR X (.builtin "isinstance") (rHeld1 X.K p C dd) := by
  intro pins s σ H xs us Q I r q
  obtain ⟨D, b, fs, rfl, ka, hd, q1⟩ := q
  obtain ⟨u1, u2, rfl, r1, r2⟩ := vals2 r
  cases (show u1 = Value.ref p.1 from r1)
  cases (show u2 = Value.ref D from r2)
  obtain ⟨od, mA, J, _, _⟩ := h.inst hp I hd
  exact PySem.W.kia_one (own_kit (oz := p.2) (oo := some od) T) I.kIn J ka (fun e => nomatch e) fun tk => ⟨.bl b, H, I.tok tk, rfl, q1⟩
end
/-! ### a def called on a held error -/
structure FnP (P : Program) (w : World) (K : PySem.W.Frag) (mg : Str → Option Value) (base : Heap) (p : Addr × Obj) (k : Nat) (f : Addr) (fd : FuncData) (ps : List Str) (sp : Sp) : Prop where
  len : ∀ vs H Q E, sp vs H Q E → vs.length = ps.length
  go : ∀ (A : Around) (outer : List Env) (s : Shared) (H : Hp) (args : Args) (us : List Value) (vs : List V) (Q : VK) (E : XK), L2H.RoomH k A → L2H.PinOk outer H s p → Env0 P w K mg base A outer s H → BindsTo s fd args (ps.zip us) → Vals vs us → sp vs H Q E →
    codeAny (model P w) A (.call (.ref f) args) (CR CX0 outer P w H s Q E) s
section
open PySem.Spec PyProof.Rows
variable {P : Program} {w : World} {K : PySem.W.Frag} {mg : Str → Option Value} {base : Heap}
theorem Fun.okP {x qual : Str} {st : Stmt} {f : Addr} {fd : FuncData} {N ps : List Str} {k : Nat} {sp : Sp} {p : Addr × Obj} (F : Fun K x qual st f fd) (S : FnScope N ps (defScope st)) (len : ∀ vs H Q E, sp vs H Q E → vs.length = ps.length)
    (hbody : ∀ (cdv : Value) (A : Around) (outer : List Env) (s : Shared) (H : Hp) (vs : List V) (Q : VK) (E : XK), L2H.RoomH k (A.deeper (envOfC qual (defScope st) s.heap.objs.size f cdv)) → sp vs H Q E →
      ∃ t, PSs (L2H.cxH CX0 P w K mg base N qual (defScope st) f cdv A outer s H E p) (defBody st) t ∧ t { nx := fun _ H' => Q .non H', rt := Q } (L2.start N vs) H) : FnP P w K mg base p (k + 1) f fd ps sp := by
  obtain ⟨oc, od, kV, doc, pm, an, cdv, ct, osl, rfl, lk, hcd⟩ := F.ex
  refine ⟨len, fun A outer s H args us vs Q E hr hpin e0 hb r hsp => ?_⟩
  have hlen := len _ _ _ _ hsp
  have keepB : ∀ b o, base.get? b = some o → s.heap.get? b = some o := fun b o e => (e0.bs b o e).1
  have KI : K.In s.heap := e0.mod.kin.keeps keepB
  have noLim : s.heap.NoLimit := e0.mod.nolimit.keeps keepB
  have kinds : ∀ y ∈ ps.zip us, (defScope st).names.lookup y.1 = some .local ∨ ((defScope st).names.lookup y.1 = some .cell ∧ ((cellsFrom (s.heap.objs.size + 1) (defScope st).names []).lookup y.1).isSome = true) := fun y hy =>
    (S.par y.1 (List.of_mem_zip (show (y.1, y.2) ∈ _ from hy)).1).imp id fun q => ⟨q, PySem.W.cellsFrom_some _ _ _ (.inl q)⟩
  refine codeAny_call_function hr.depth (KI _ _ lk) rfl S.co S.gen rfl (PySem.W.codeRec_of KI hcd) (hb _ _ _ _ (wpAny_newFunctionEnv_cells S.kind kinds fun env he s1 x1 => ?_))
  subst he
  refine ⟨noLim.keeps x1.toInCall.keep, codeAny_func ?_⟩
  obtain ⟨t, ht, hq⟩ := hbody cdv A outer s H vs Q E (hr.deeper _) hsp
  have I := L2H.inv_startH (CX := CX0) (P := P) (w := w) (K := K) (mg := mg) (base := base) (N := N) (qual := qual) (f := f) (cd := cdv) (E := E) S hpin e0 hlen r x1
  refine wpAny_mono (ht.run [] s1 _ H _ I hq) (fun fl s2 done => ?_) fun _ _ bad => bad
  cases fl with
  | ret u =>
    obtain ⟨v, τ, G, J, rv, q⟩ := done
    exact ⟨v, G, J.os, J.bare, J.base, J.hok, rv, q⟩
  | next =>
    obtain ⟨τ, G, J, q⟩ := done
    exact ⟨.non, G, J.os, J.bare, J.base, J.hok, rfl, q⟩
  | brk =>
    obtain ⟨_, _, _, q⟩ := done
    exact q.elim
  | cont =>
    obtain ⟨_, _, _, q⟩ := done
    exact q.elim
theorem pe_callP {X : Cx} {k : Nat} {f : Addr} {fd : FuncData} {ps : List Str} {sp : Sp} {p : Addr × Obj} {x : Str} {q pos : Pos} {e : Expr} {es : List Expr} {t : TA} (F : FnP X.prog X.w X.K X.mg X.base p k f fd ps sp) (hr : L2H.RoomH k X.A) (hp : p ∈ X.pn)
    (hg : Gl X x) (hm : X.mg x = some (.ref f)) (hk : PySem.W.keepIn X.K (.ref f) = true) (hb : Binds X.K fd ps []) (ha : PA X (e :: es) t)
    (hdb : (x == ("__debug__" : Str)) = false := by decide) (he : starEach (e :: es) X.env = (false, eval e X.env) :: starEach es X.env := by rfl) (hpl : (backTo pos (starEach es X.env)).any (·.1) = false := by rfl) :
    PE X (.Call (.Name x q) (e :: es) [] pos) (tCall sp [] E0 t) := by
  refine ⟨fun pins s σ H Q I h => ?_⟩
  refine wpAny_Call_Name_kw (ld_glob I hg hm ?_ hdb)
  refine PySem.W.callWith_K (h₀ := X.base) I.ok.mod.kin hk (thn (ha.run pos pins s σ H _ I h) fun us s1 got => ?_) he hpl
  obtain ⟨vs, H1, I1, r, want⟩ := got
  rw [List.append_nil] at want
  refine ⟨I1.kIn, ?_⟩
  have hl : us.length = ps.length := (r.length).symm.trans (F.len _ _ _ _ want)
  have bs := hb s1 us I1.kIn (by rw [List.append_nil]; exact hl)
  rw [List.append_nil] at bs
  obtain ⟨p1, p2, p3, p4, p5⟩ := I1.pin p (List.mem_append_left _ hp)
  refine wpAny_call (codeAny_mono (F.go X.A X.stack s1 H1 ⟨us, []⟩ us vs Q E0 hr ⟨p1, p2, fun mem => (List.mem_cons.mp (I1.stkSub p.1 mem)).elim p3 p4, p5⟩ I1.env0 bs r want) fun res s2 hq => ?_)
  cases res with
  | error er => exact (show False from hq).elim
  | ok fl =>
    cases fl with
    | ret u => exact I1.after hq
    | next => exact hq.elim
    | brk => exact hq.elim
    | cont => exact hq.elim
end

/-! ### what the written part says of BadNumber -/
structure BnT (K : PySem.W.Frag) (mg : Str → Option Value) (CF CB fI : Addr) (fdI : FuncData) : Prop where
  gF : mg "FarError" = some (.ref CF)
  gB : mg "BadNumber" = some (.ref CB)
  e : ErrT K CB
  x : XfC K CB
  c : ExcC K CB
  nN : PySem.W.findIn K (.ref CB) "number" = some none
  iC : PySem.W.findIn K (.ref CB) "__init__" = some (some (.ref fI))
  tI : PySem.W.typeIn K (.ref fI) = some (.type "function")
  bI : Binds K fdI N_bninit []
  m : PySem.W.exmOne K (.ref CB) (.ref CF) = some true
theorem bn_word (n : V) : (bnF n).lookup ("word" : Str) = some (.str "BadNumber") := by
  unfold bnF
  rw [lookup_put, if_pos rfl]
theorem bn_number (n : V) : (bnF n).lookup ("number" : Str) = some n := by
  unfold bnF
  rw [lookup_put, if_neg (by decide +kernel), lookup_put, if_pos rfl]
/-- BadNumber(x) raised, x a local -/
theorem bn_raise {K : PySem.W.Frag} {mg : Str → Option Value} {CF CB fI : Addr} {fdI : FuncData} {i : Nat} {σ : L2.St} {n : V} {H : Hp} {E : XK} (T : BnT K mg CF CB fI fdI) (hn : FV n) (hσ : σ[i]? = some (some n))
    (q2 : ∀ (H' : Hp) (d : Addr), Same H H' → H d = none → H' d = some (.xd (bnF n)) → E (.ref CB) (some d) H') : (tMkO CB (spBnInit K) [] (tCons (tVar i) tNil)) σ H (fun cls d H' => E cls d H') := by
  refine ⟨n, hσ, by show 1 ≤ 1000; decide, fun a na => ?_⟩
  refine ⟨a, CB, n, rfl, hn, T.e, T.nN, upd_same, fun H' dx ndx ea ed kp => ⟨rfl, dx, bnF n, ea, ed, ?_, ?_⟩⟩
  · exact (same_upd na).free ndx
  · have nda : dx ≠ a := fun e => by
      rw [e, upd_same] at ndx
      cases ndx
    refine q2 _ dx (fun b o hb' => ?_) ((same_upd na).free ndx) upd_same
    have nba : b ≠ a := ne_of_none hb' na
    have nbd : b ≠ dx := ne_of_none hb' ((same_upd na).free ndx)
    rw [upd_ne nbd, del_ne nba]
    exact kp b o nba (by rw [upd_ne nba]; exact hb')
/-! ### the bounds of numbers -/
def iv : V → Int
  | .int i => i
  | _ => 0
def goodB : V → Int → Bool
  | .int i, lo => decide (lo ≤ i)
  | _, _ => false
def bnd : List (V × Int) → Option V
  | [] => none
  | (x, lo) :: r => if goodB x lo = true then bnd r else some x
theorem bnd_bad {x : V} {lo : Int} {r : List (V × Int)} (h : goodB x lo = false) : bnd ((x, lo) :: r) = some x := by
  show (if goodB x lo = true then bnd r else some x) = some x
  rw [h, if_neg Bool.false_ne_true]
theorem bnd_good {x : V} {lo : Int} {r : List (V × Int)} (h : goodB x lo = true) : bnd ((x, lo) :: r) = bnd r := by
  show (if goodB x lo = true then bnd r else some x) = bnd r
  rw [h, if_pos rfl]
theorem goodB_of {x : V} {lo : Int} (h : goodB x lo = true) : ∃ i : Int, x = .int i ∧ lo ≤ i := by
  cases x with
  | int i => exact ⟨i, rfl, of_decide_eq_true h⟩
  | _ => cases h
theorem bnd_all : ∀ {l : List (V × Int)}, bnd l = none → ∀ p ∈ l, goodB p.1 p.2 = true
  | [], _, p, hp => by cases hp
  | (x, lo) :: r, h, p, hp => by
    cases e : goodB x lo with
    | false =>
      rw [bnd_bad e] at h
      cases h
    | true =>
      rw [bnd_good e] at h
      rcases List.mem_cons.mp hp with rfl | hp
      · exact e
      · exact bnd_all h p hp
abbrev s_need_from : Stmt := top 23
abbrev N_need_from : List Str := ["low", "number"]
abbrev P_need_from : List Str := ["low", "number"]
theorem sc_need_from : FnScope N_need_from P_need_from (defScope s_need_from) := ⟨rfl, rfl, rfl, by decide +kernel, rfl, by decide +kernel, by decide +kernel⟩
def spFrom (CB : Addr) : Sp := fun vs H Q E => ∃ (lo : Int) (n : V), vs = [.int lo, n] ∧ FV n ∧ (goodB n lo = true → Q .non H) ∧ (goodB n lo = false → ∀ (H' : Hp) (d : Addr), Same H H' → H d = none → H' d = some (.xd (bnF n)) → E (.ref CB) (some d) H')
section
variable {P : Program} {w : World} {K : PySem.W.Frag} {mg : Str → Option Value} {base : Heap}
theorem ok_from {f CF CB fI : Addr} {fd fdI : FuncData} (D : DefAt K mg "need_from" s_need_from P_need_from f fd) (B : Bn mg) (T : BnT K mg CF CB fI fdI)
    (GI : FnOk P w K mg base CX0 2 fI fdI N_bninit (spBnInit K)) : FnOk P w K mg base (L2.CX P w) 4 f fd P_need_from (spFrom CB) := by
  refine D.F.okX sc_need_from (fun vs H Q E h => ?_) (fun cdv A outer s H vs Q E hr h => ?_)
  · obtain ⟨lo, n, rfl, _⟩ := h
    rfl
  · obtain ⟨lo, n, rfl, hn, q1, q2⟩ := h
    refine ⟨_, (pss_one (ps_if (PW.pt (pw_or (pt_val (pe_callB call_isi (by rfl) B.isinstance (by decide +kernel) (pa_cons (pv 1) (pa_cons (pe_bltn (v := .ty "bool") (by rfl) B.bool (by decide +kernel) rfl) pa_nil)))) (pw_or1 (pt_cmpR op_lt (pv 1) (pv 0) (nomark _))))) (pss_one (ps_raise rfl (takes_of rfl rfl rfl rfl) (pmk_oex T.e.o T.iC T.tI GI (hr.mono (by omega)) T.bI .nil pass0 (by rfl) T.gB (pa_cons (pv 1) pa_nil)))) pss_nil)), ?_⟩
    rcases id hn with ⟨i, rfl, hi⟩ | ⟨b, rfl⟩
    · refine ⟨.int i, rfl, _, _, _, _, false, rfl, ClsV.ty _, TyX.base (TyOf.int _), kit_ty (by decide +kernel), _, rfl, ?_⟩
      refine ⟨.int i, rfl, .int lo, rfl, i, lo, rfl, rfl, _, rfl, ?_⟩
      refine ite2 (fun h0 => ?_) (fun h0 => ?_)
      · have h0' : i < lo := of_decide_eq_true h0
        exact bn_raise T hn rfl (q2 (decide_eq_false (by omega)))
      · have h0' : ¬ i < lo := fun z => h0 (decide_eq_true z)
        exact q1 (decide_eq_true (by omega))
    · refine ⟨.bl b, rfl, _, _, _, _, true, rfl, ClsV.ty _, TyX.base (TyOf.bl _), kit_ty (by decide +kernel), _, rfl, ?_⟩
      exact bn_raise T hn rfl (q2 rfl)
end
abbrev s_need_within : Stmt := top 24
abbrev N_need_within : List Str := ["low", "high", "number"]
abbrev P_need_within : List Str := ["low", "high", "number"]
theorem sc_need_within : FnScope N_need_within P_need_within (defScope s_need_within) := ⟨rfl, rfl, rfl, by decide +kernel, rfl, by decide +kernel, by decide +kernel⟩
def goodW : V → Int → Int → Bool
  | .int i, lo, hi => decide (lo ≤ i ∧ i ≤ hi)
  | _, _, _ => false
theorem goodW_of {x : V} {lo hi : Int} (h : goodW x lo hi = true) : ∃ i : Int, x = .int i ∧ lo ≤ i ∧ i ≤ hi := by
  cases x with
  | int i => exact ⟨i, rfl, of_decide_eq_true h⟩
  | _ => cases h
def spWithin (CB : Addr) : Sp := fun vs H Q E => ∃ (lo hi : Int) (n : V), vs = [.int lo, .int hi, n] ∧ FV n ∧ (goodW n lo hi = true → Q .non H) ∧ (goodW n lo hi = false → ∀ (H' : Hp) (d : Addr), Same H H' → H d = none → H' d = some (.xd (bnF n)) → E (.ref CB) (some d) H')
section
variable {P : Program} {w : World} {K : PySem.W.Frag} {mg : Str → Option Value} {base : Heap}
theorem ok_within {f fN CF CB fI : Addr} {fd fdN fdI : FuncData} (D : DefAt K mg "need_within" s_need_within P_need_within f fd) (D_need_from : DefAt K mg "need_from" s_need_from P_need_from fN fdN) (B : Bn mg) (T : BnT K mg CF CB fI fdI)
    (GI : FnOk P w K mg base CX0 2 fI fdI N_bninit (spBnInit K)) : FnOk P w K mg base (L2.CX P w) 5 f fd P_need_within (spWithin CB) := by
  have G_need_from : FnOk P w K mg base (L2.CX P w) 4 fN fdN P_need_from (spFrom CB) := ok_from D_need_from B T GI
  refine D.F.okX sc_need_within (fun vs H Q E h => ?_) (fun cdv A outer s H vs Q E hr h => ?_)
  · obtain ⟨lo, hi, n, rfl, _⟩ := h
    rfl
  · obtain ⟨lo, hi, n, rfl, hn, q1, q2⟩ := h
    refine ⟨_, (pss_cons (ps_expr (pe_call G_need_from (hr.mono (by omega)) (by rfl) D_need_from.g D_need_from.F.kp D_need_from.b .nil (passes_call (takes_of rfl rfl rfl rfl) fun _ _ _ _ h => h) (pa_cons (pv 0) (pa_cons (pv 2) pa_nil))))
      (pss_one (ps_if (pt_cmpR op_gt (pv 2) (pv 1) (nomark _)) (pss_one (ps_raise rfl (takes_of rfl rfl rfl rfl) (pmk_oex T.e.o T.iC T.tI GI (hr.mono (by omega)) T.bI .nil pass0 (by rfl) T.gB (pa_cons (pv 2) pa_nil)))) pss_nil))), ?_⟩
    refine ⟨.int lo, rfl, n, rfl, lo, n, rfl, hn, fun g0 => ?_, fun b0 => q2 ?_⟩
    · obtain ⟨i, rfl, i0⟩ := goodB_of g0
      refine ⟨.int i, rfl, .int hi, rfl, i, hi, rfl, rfl, _, rfl, ?_⟩
      refine ite2 (fun h => ?_) (fun h => ?_)
      · have h' : hi < i := of_decide_eq_true h
        exact bn_raise T hn rfl (q2 (decide_eq_false fun z => by omega))
      · have h' : ¬ hi < i := fun z => h (decide_eq_true z)
        exact q1 (decide_eq_true ⟨i0, by omega⟩)
    · cases n with
      | int i =>
        have b0' : ¬ lo ≤ i := of_decide_eq_false b0
        exact decide_eq_false fun z => b0' z.1
      | _ => rfl
end

def dOf : Option V → List V
  | none => [.str "", .non]
  | some x => [.str "BadNumber", x]
abbrev s_copy_of : Stmt := top 26
abbrev N_copy_of : List Str := ["one", "other", "many"]
abbrev P_copy_of : List Str := ["one", "other", "many"]
theorem sc_copy_of : FnScope N_copy_of P_copy_of (defScope s_copy_of) := ⟨rfl, rfl, rfl, by decide +kernel, rfl, by decide +kernel, by decide +kernel⟩
abbrev s_mirror : Stmt := top 27
abbrev N_mirror : List Str := ["at", "many"]
abbrev P_mirror : List Str := ["at", "many"]
theorem sc_mirror : FnScope N_mirror P_mirror (defScope s_mirror) := ⟨rfl, rfl, rfl, by decide +kernel, rfl, by decide +kernel, by decide +kernel⟩
abbrev s_period : Stmt := top 28
abbrev N_period : List Str := ["at", "many", "step"]
abbrev P_period : List Str := ["at", "many", "step"]
theorem sc_period : FnScope N_period P_period (defScope s_period) := ⟨rfl, rfl, rfl, by decide +kernel, rfl, by decide +kernel, by decide +kernel⟩
/-- what refuses the first number out of its bounds, else tells a tuple -/
def spTell (CB : Addr) (n : Nat) (bs : List V → List (V × Int)) (tl : List V → List V) : Sp := fun vs H Q E => vs.length = n ∧ (∀ x ∈ vs, FV x) ∧
  (bnd (bs vs) = none → ∀ t, H t = none → Q (.ref t) (upd H t (.tup (tl vs)))) ∧ (∀ x, bnd (bs vs) = some x → ∀ (H' : Hp) (d : Addr), Same H H' → H d = none → H' d = some (.xd (bnF x)) → E (.ref CB) (some d) H')
def bsCopy : List V → List (V × Int)
  | [o, p, m] => [(o, 0), (p, 0), (m, 1)]
  | _ => []
def tlCopy : List V → List V
  | [o, p, m] => [o, p, m, .int 0]
  | _ => []
def bsMir : List V → List (V × Int)
  | [a, m] => [(a, 0), (m, 1)]
  | _ => []
def tlMir : List V → List V
  | [a, m] => [a, a, m, .int 1]
  | _ => []
/-- the step's own bound, as one of the numbers -/
def bsPer : List V → List (V × Int)
  | [a, m, s] => [(a, 0), (m, 1), (s, 1), (s, if iv s < iv m then 1 else iv s + 1)]
  | _ => []
def tlPer : List V → List V
  | [a, m, s] => [a, .int (iv a + iv s), .int (iv m - iv s), .int 0]
  | _ => []
theorem vlen2 {vs : List V} (h : vs.length = 2) : ∃ a b, vs = [a, b] := by
  match vs, h with
  | [a, b], _ => exact ⟨a, b, rfl⟩
theorem vlen3 {vs : List V} (h : vs.length = 3) : ∃ a b c, vs = [a, b, c] := by
  match vs, h with
  | [a, b, c], _ => exact ⟨a, b, c, rfl⟩
section
variable {P : Program} {w : World} {K : PySem.W.Frag} {mg : Str → Option Value} {base : Heap}
theorem ok_copy {f fN CF CB fI : Addr} {fd fdN fdI : FuncData} (D : DefAt K mg "copy_of" s_copy_of P_copy_of f fd) (D_need_from : DefAt K mg "need_from" s_need_from P_need_from fN fdN) (B : Bn mg) (T : BnT K mg CF CB fI fdI)
    (GI : FnOk P w K mg base CX0 2 fI fdI N_bninit (spBnInit K)) : FnOk P w K mg base (L2.CX P w) 5 f fd P_copy_of (spTell CB 3 bsCopy tlCopy) := by
  have G_need_from : FnOk P w K mg base (L2.CX P w) 4 fN fdN P_need_from (spFrom CB) := ok_from D_need_from B T GI
  refine D.F.okX sc_copy_of (fun vs H Q E h => h.1) (fun cdv A outer s H vs Q E hr h => ?_)
  · obtain ⟨hl, hv, q1, q2⟩ := h
    obtain ⟨o, p, m, rfl⟩ := vlen3 hl
    have ho : FV o := hv _ (by simp)
    have hp : FV p := hv _ (by simp)
    have hm : FV m := hv _ (by simp)
    refine ⟨_, (pss_cons (ps_expr (pe_call G_need_from (hr.mono (by omega)) (by rfl) D_need_from.g D_need_from.F.kp D_need_from.b .nil (passes_call (takes_of rfl rfl rfl rfl) fun _ _ _ _ h => h) (pa_cons pe_int (pa_cons (pv 0) pa_nil))))
      (pss_cons (ps_expr (pe_call G_need_from (hr.mono (by omega)) (by rfl) D_need_from.g D_need_from.F.kp D_need_from.b .nil (passes_call (takes_of rfl rfl rfl rfl) fun _ _ _ _ h => h) (pa_cons pe_int (pa_cons (pv 1) pa_nil))))
      (pss_cons (ps_expr (pe_call G_need_from (hr.mono (by omega)) (by rfl) D_need_from.g D_need_from.F.kp D_need_from.b .nil (passes_call (takes_of rfl rfl rfl rfl) fun _ _ _ _ h => h) (pa_cons pe_int (pa_cons (pv 2) pa_nil))))
      (pss_one (ps_ret (pe_tup (pa_cons (pv 0) (pa_cons (pv 1) (pa_cons (pv 2) (pa_cons pe_int pa_nil)))))))))), ?_⟩
    refine ⟨o, rfl, 0, o, rfl, ho, fun g0 => ?_, fun b0 => q2 o (bnd_bad b0)⟩
    refine ⟨p, rfl, 0, p, rfl, hp, fun g1 => ?_, fun b1 => q2 p ((bnd_good g0).trans (bnd_bad b1))⟩
    refine ⟨m, rfl, 1, m, rfl, hm, fun g2 => ?_, fun b2 => q2 m ((bnd_good g0).trans ((bnd_good g1).trans (bnd_bad b2)))⟩
    exact ⟨o, rfl, p, rfl, m, rfl, by show 4 ≤ sizeLine; decide, q1 ((bnd_good g0).trans ((bnd_good g1).trans (bnd_good g2)))⟩
theorem ok_mirror {f fN CF CB fI : Addr} {fd fdN fdI : FuncData} (D : DefAt K mg "mirror" s_mirror P_mirror f fd) (D_need_from : DefAt K mg "need_from" s_need_from P_need_from fN fdN) (B : Bn mg) (T : BnT K mg CF CB fI fdI)
    (GI : FnOk P w K mg base CX0 2 fI fdI N_bninit (spBnInit K)) : FnOk P w K mg base (L2.CX P w) 5 f fd P_mirror (spTell CB 2 bsMir tlMir) := by
  have G_need_from : FnOk P w K mg base (L2.CX P w) 4 fN fdN P_need_from (spFrom CB) := ok_from D_need_from B T GI
  refine D.F.okX sc_mirror (fun vs H Q E h => h.1) (fun cdv A outer s H vs Q E hr h => ?_)
  · obtain ⟨hl, hv, q1, q2⟩ := h
    obtain ⟨o, m, rfl⟩ := vlen2 hl
    have ho : FV o := hv _ (by simp)
    have hm : FV m := hv _ (by simp)
    refine ⟨_, (pss_cons (ps_expr (pe_call G_need_from (hr.mono (by omega)) (by rfl) D_need_from.g D_need_from.F.kp D_need_from.b .nil (passes_call (takes_of rfl rfl rfl rfl) fun _ _ _ _ h => h) (pa_cons pe_int (pa_cons (pv 0) pa_nil))))
      (pss_cons (ps_expr (pe_call G_need_from (hr.mono (by omega)) (by rfl) D_need_from.g D_need_from.F.kp D_need_from.b .nil (passes_call (takes_of rfl rfl rfl rfl) fun _ _ _ _ h => h) (pa_cons pe_int (pa_cons (pv 1) pa_nil))))
      (pss_one (ps_ret (pe_tup (pa_cons (pv 0) (pa_cons (pv 0) (pa_cons (pv 1) (pa_cons pe_int pa_nil))))))))), ?_⟩
    refine ⟨o, rfl, 0, o, rfl, ho, fun g0 => ?_, fun b0 => q2 o (bnd_bad b0)⟩
    refine ⟨m, rfl, 1, m, rfl, hm, fun g2 => ?_, fun b2 => q2 m ((bnd_good g0).trans (bnd_bad b2))⟩
    exact ⟨o, rfl, o, rfl, m, rfl, by show 4 ≤ sizeLine; decide, q1 ((bnd_good g0).trans (bnd_good g2))⟩
theorem ok_period {f fN fV CF CB fI : Addr} {fd fdN fdV fdI : FuncData} (D : DefAt K mg "period" s_period P_period f fd) (D_need_from : DefAt K mg "need_from" s_need_from P_need_from fN fdN) (D_need_within : DefAt K mg "need_within" s_need_within P_need_within fV fdV) (B : Bn mg) (T : BnT K mg CF CB fI fdI)
    (GI : FnOk P w K mg base CX0 2 fI fdI N_bninit (spBnInit K)) : FnOk P w K mg base (L2.CX P w) 6 f fd P_period (spTell CB 3 bsPer tlPer) := by
  have G_need_from : FnOk P w K mg base (L2.CX P w) 4 fN fdN P_need_from (spFrom CB) := ok_from D_need_from B T GI
  have G_need_within : FnOk P w K mg base (L2.CX P w) 5 fV fdV P_need_within (spWithin CB) := ok_within D_need_within D_need_from B T GI
  refine D.F.okX sc_period (fun vs H Q E h => h.1) (fun cdv A outer s H vs Q E hr h => ?_)
  · obtain ⟨hl, hv, q1, q2⟩ := h
    obtain ⟨o, m, p, rfl⟩ := vlen3 hl
    have ho : FV o := hv _ (by simp)
    have hp : FV p := hv _ (by simp)
    have hm : FV m := hv _ (by simp)
    refine ⟨_, (pss_cons (ps_expr (pe_call G_need_from (hr.mono (by omega)) (by rfl) D_need_from.g D_need_from.F.kp D_need_from.b .nil (passes_call (takes_of rfl rfl rfl rfl) fun _ _ _ _ h => h) (pa_cons pe_int (pa_cons (pv 0) pa_nil))))
      (pss_cons (ps_expr (pe_call G_need_from (hr.mono (by omega)) (by rfl) D_need_from.g D_need_from.F.kp D_need_from.b .nil (passes_call (takes_of rfl rfl rfl rfl) fun _ _ _ _ h => h) (pa_cons pe_int (pa_cons (pv 1) pa_nil))))
      (pss_cons (ps_expr (pe_call G_need_within (hr.mono (by omega)) (by rfl) D_need_within.g D_need_within.F.kp D_need_within.b .nil (passes_call (takes_of rfl rfl rfl rfl) fun _ _ _ _ h => h) (pa_cons pe_int (pa_cons (pe_op op_sub (pv 1) pe_int) (pa_cons (pv 2) pa_nil)))))
      (pss_one (ps_ret (pe_tup (pa_cons (pv 0) (pa_cons (pe_op op_add (pv 0) (pv 2)) (pa_cons (pe_op op_sub (pv 1) (pv 2)) (pa_cons pe_int pa_nil)))))))))), ?_⟩
    refine ⟨o, rfl, 0, o, rfl, ho, fun g0 => ?_, fun b0 => q2 o (bnd_bad b0)⟩
    refine ⟨m, rfl, 1, m, rfl, hm, fun g1 => ?_, fun b1 => q2 m ((bnd_good g0).trans (bnd_bad b1))⟩
    obtain ⟨i, rfl, i0⟩ := goodB_of g0
    obtain ⟨j, rfl, j0⟩ := goodB_of g1
    refine ⟨.int j, rfl, j, 1, rfl, rfl, p, rfl, 1, j - 1, p, rfl, hp, fun g2 => ?_, fun b2 => q2 p ((bnd_good g0).trans ((bnd_good g1).trans ?_))⟩
    · obtain ⟨k, rfl, k0, k1⟩ := goodW_of g2
      refine ⟨.int i, rfl, .int i, rfl, .int k, rfl, i, k, rfl, rfl, .int j, rfl, .int k, rfl, j, k, rfl, rfl, by show 4 ≤ sizeLine; decide, q1 ((bnd_good g0).trans ((bnd_good g1).trans ((bnd_good (x := .int k) (lo := 1) (decide_eq_true k0)).trans (bnd_good ?_))))⟩
      show decide ((if k < j then 1 else k + 1) ≤ k) = true
      rw [if_pos (by omega)]
      exact decide_eq_true k0
    · cases hb : goodB p 1 with
      | false => exact bnd_bad hb
      | true =>
        obtain ⟨k, rfl, k0⟩ := goodB_of hb
        have b2' : ¬ (1 ≤ k ∧ k ≤ j - 1) := of_decide_eq_false b2
        refine (bnd_good hb).trans (bnd_bad ?_)
        show decide ((if k < j then 1 else k + 1) ≤ k) = false
        rw [if_neg (by omega)]
        exact decide_eq_false (by omega)
end
/-! ### _law_fields of a BadNumber -/
abbrev s_fields : Stmt := top 34
abbrev N_fields : List Str := ["_law_e"]
abbrev P_fields : List Str := ["_law_e"]
theorem sc_fields : FnScope N_fields P_fields (defScope s_fields) := ⟨rfl, rfl, rfl, by decide +kernel, rfl, by decide +kernel, by decide +kernel⟩
def spFieldsBn (p : Addr × Obj) (dd : Addr) : Sp := fun vs H Q _ => ∃ n : V, vs = [.ref p.1] ∧ H dd = some (.xd (bnF n)) ∧ ∀ H', Same H H' → Q n H'
section
variable {P : Program} {w : World} {K : PySem.W.Frag} {mg : Str → Option Value} {base : Heap}
theorem ok_fieldsBn {f CF CB fI C1 C2 C3 dd : Addr} {fd fdI : FuncData} {p : Addr × Obj} (D : DefAt K mg "_law_fields" s_fields P_fields f fd) (B : Bn mg) (T : BnT K mg CF CB fI fdI) (g1 : mg "NoMating" = some (.ref C1)) (g2 : mg "NoFamily" = some (.ref C2)) (g3 : mg "TooMuch" = some (.ref C3))
    (hH : Held p CB dd) : FnP P w K mg base p 1 f fd P_fields (spFieldsBn p dd) := by
  refine Fun.okP D.F sc_fields (fun vs H Q E h => ?_) (fun cdv A outer s H vs Q E hr h => ?_)
  · obtain ⟨n, rfl, _⟩ := h
    rfl
  · obtain ⟨n, rfl, hd, q⟩ := h
    refine ⟨_, pss_cons (ps_if (pt_val (pe_callB (call_heldT hH List.mem_cons_self T.c) (by rfl) B.isinstance (by decide +kernel) (pa_cons (pv 0) (pa_cons (pe_tup (pa_cons (pe_glob (v := .ref CB) (by rfl) T.gB rfl) (pa_cons (pe_glob (v := .ref C1) (by rfl) g1 rfl) (pa_cons (pe_glob (v := .ref C2) (by rfl) g2 rfl) (pa_cons (pe_glob (v := .ref C3) (by rfl) g3 rfl) pa_nil))))) pa_nil))))
      (pss_one (ps_ret (pe_heldf hH List.mem_cons_self T.x T.nN (pv 0)))) pss_nil) pss_never, ?_⟩
    refine ⟨.ref p.1, rfl, by show 4 ≤ sizeLine; decide, fun tp ntp => ?_⟩
    refine ⟨tp, _, [.ref CB, .ref C1, .ref C2, .ref C3], true, bnF n, rfl, upd_same, .cons (.own _) (.cons (.own _) (.cons (.own _) (.cons (.own _) .nil))), ?_, same_upd ntp _ _ hd, _, rfl, iteT ?_⟩
    · simp [PySem.W.kitAny, PySem.W.kitOne]
    · exact ⟨.ref p.1, rfl, rfl, bnF n, n, same_upd ntp _ _ hd, bn_number n, q _ (same_upd ntp)⟩
end

/-! ### _law_why of what refuses with BadNumber alone -/
abbrev s_why : Stmt := top 35
abbrev N_why : List Str := ["_law_ask", "_law_found", "_law_e"]
abbrev P_why : List Str := ["_law_ask"]
theorem sc_why : FnScope N_why P_why (defScope s_why) := ⟨rfl, rfl, rfl, by decide +kernel, rfl, by decide +kernel, by decide +kernel⟩
def EWhyBn (CB : Addr) (Q : VK) : XK := fun cls d H' => ∃ (dd : Addr) (n : V), cls = .ref CB ∧ d = some dd ∧ H' dd = some (.xd (bnF n)) ∧ ∀ (H'' : Hp) (t1 : Addr), Same H' H'' → H'' t1 = some (.tup [.str "BadNumber", n]) → Q (.ref t1) H''
def TWhyBn (CB : Addr) : (XK → Hp → VK → Prop) → Hp → VK → Prop := fun tl H Q => ∀ t0, H t0 = none → ∀ R : VK, (∀ v H1, Q (.ref t0) H1 → R v H1) → tl (EWhyBn CB Q) (upd H t0 (.tup [.str "", .non])) R
section
open PySem.Spec PyProof.Rows
theorem takes_len {X : Cx} {W : WX} (tk : L2.Takes X W) : L2.Takes X (fun cls d σ H => σ.length = X.N.length → W cls d σ H) := fun u s' ⟨a, B, sI, pins, σ, H, cls, d, e, I, nb, up, sky, na, os, ag, w⟩ =>
  tk u s' ⟨a, B, sI, pins, σ, H, cls, d, e, I, nb, up, sky, na, os, ag, w I.len⟩
theorem pss_of {X : Cx} {sts : List Stmt} {t' : TS} (h : ∀ D σ H, t' D σ H → ∃ t, PSs X sts t ∧ t D σ H) : PSs X sts t' := ⟨fun pins s σ H D I ht => by
  obtain ⟨t, h1, h2⟩ := h D σ H ht
  exact h1.run pins s σ H D I h2⟩
theorem three {σ : L2.St} (h : σ.length = 3) : ∃ a b c, σ = [a, b, c] := by
  match σ, h with
  | [a, b, c], _ => exact ⟨a, b, c, rfl⟩
theorem why_gives {X : Cx} {g CF CB fI fF C1 C2 C3 : Addr} {fdI fdF : FuncData} {cdg : Value} {q : Str} {k : Nat} (hr : Room (k + 3) X.A) (B : Bn X.mg) (T : BnT X.K X.mg CF CB fI fdI) (D_fields : DefAt X.K X.mg "_law_fields" s_fields P_fields fF fdF)
    (g1 : X.mg "NoMating" = some (.ref C1)) (g2 : X.mg "NoFamily" = some (.ref C2)) (g3 : X.mg "TooMuch" = some (.ref C3)) :
    LamX.GivesTo X N_why "_law_why" (defScope s_why) g cdg (defBody s_why) "_law_ask" q (TWhyBn CB) := by
  intro f c' s H Q tl act hc h
  have hr1 : Room (k + 2) (X.A.deeper (envOfC "_law_why" (defScope s_why) s.heap.objs.size g cdg)) := hr.deeper _
  refine ⟨_, pss_cons (ps_set (i := 1) sc_why.nd rfl (.inl rfl) (pe_tup (pa_cons pe_str (pa_cons pe_non pa_nil))))
    (pss_cons (ps_try_first (i := 2) (c := .ref CF)
      (tb := fun W D σ H => ∃ Ech : XK, (∀ cls d σ' H', Ech cls d H' → σ'.length = 3 → W cls d σ' H') ∧ σ[0]? = some (some (.ref f)) ∧ H c' = some (LamX.CodeO c' q) ∧ tl Ech H fun _ H1 => D.nx σ H1)
      (ts := fun z k d D σ H => ∃ d0, k = .ref CB ∧ d = some d0 ∧ ∃ n : V, H d0 = some (.xd (bnF n)) ∧ σ[2]? = some (some (.ref z)) ∧ ∀ (H' : Hp) (t1 : Addr), Same H H' → H' t1 = some (.tup [.str "BadNumber", n]) → D.nx (σ.set 1 (some (.ref t1))) H')
      rfl rfl sc_why.nd rfl rfl ⟨by rfl, by decide, .inl T.gF⟩ (fun W pn xe tk _ => ?_) (fun z oz k d pn hz hf => ?_)) (pss_one (ps_ret (pv 1)))), ?_⟩
  · refine pss_of fun D σ H' h' => ?_
    obtain ⟨Ech, hW, h1, h2, h3⟩ := h'
    exact ⟨_, pss_one (ps_expr (act (fun cls d σ H => σ.length = 3 → W cls d σ H) pn xe Ech _ _ (takes_len tk) (fun cls d σ' H' e l => hW cls d σ' H' e l))), h1, h2, h3⟩
  · refine pss_of fun D σ H' h' => ?_
    obtain ⟨d0, rfl, rfl, n, hd, h2, go⟩ := h'
    have hH : Held (z, oz) CB d0 := ⟨hz, hf⟩
    have G_fields : FnP X.prog X.w X.K X.mg X.base (z, oz) 1 fF fdF P_fields (spFieldsBn (z, oz) d0) := ok_fieldsBn D_fields B T g1 g2 g3 hH
    have hrm : L2H.RoomH 1 (X.A.deeper (envOfC "_law_why" (defScope s_why) s.heap.objs.size g cdg)) := (L2H.roomH_of hr1).mono (by omega)
    refine ⟨_, pss_one (ps_set (i := 1) sc_why.nd rfl (.inl rfl) (pe_tup (pa_cons (pe_heldf hH List.mem_cons_self T.x T.e.w (pv 2)) (pa_cons (pe_callP G_fields ⟨hrm.dp, hrm.un⟩ List.mem_cons_self (by rfl) D_fields.g D_fields.F.kp D_fields.b (pa_cons (pv 2) pa_nil)) pa_nil)))), ?_⟩
    refine ⟨.ref z, h2, rfl, bnF n, _, hd, bn_word n, .ref z, h2, n, rfl, hd, fun H2 s2 => ?_⟩
    exact ⟨by show 2 ≤ sizeLine; decide, fun t1 n1 => go _ t1 (s2.trans (same_upd n1)) upd_same⟩
  · refine ⟨by show 2 ≤ sizeLine; decide, fun t0 n0 => ?_⟩
    refine ⟨EWhyBn CB Q, fun cls d σ' H' hE hl => ?_, rfl, same_upd n0 _ _ hc, ?_⟩
    · obtain ⟨dd, n, rfl, rfl, hd, go⟩ := hE
      obtain ⟨x0, x1, x2, rfl⟩ := three hl
      refine ⟨T.m, fun z hz => ⟨dd, rfl, rfl, n, hd, rfl, fun H2 t1 s2 e2 => ?_⟩⟩
      exact ⟨.ref t1, rfl, go H2 t1 s2 e2⟩
    · exact h t0 n0 _ fun v H1 hq => ⟨.ref t0, rfl, hq⟩
end

/-! ### ints and bools -/
def IB (x : V) : Prop := (∃ i : Int, x = .int i ∧ i.natAbs < 2 ^ 200) ∨ ∃ b : Bool, x = .bl b
theorem IB.fv {x : V} (h : IB x) : FV x := by
  rcases h with ⟨i, e, hi⟩ | ⟨b, e⟩
  · exact .inl ⟨i, e, Nat.lt_of_lt_of_le (PySem.Flt.log2_lt_of (by decide) hi) (by decide)⟩
  · exact .inr ⟨b, e⟩
def isB : V → Bool
  | .bl _ => true
  | _ => false
theorem IB.ty {K : PySem.W.Frag} {H : Hp} {x : V} (h : IB x) : ∃ t, TyX K H x t ∧ PySem.W.kitOne K t (.type "bool") = some (isB x) := by
  rcases h with ⟨i, rfl, hi⟩ | ⟨b, rfl⟩
  · exact ⟨_, TyX.base (TyOf.int _), kit_ty (r := false) (by decide +kernel)⟩
  · exact ⟨_, TyX.base (TyOf.bl _), kit_ty (r := true) (by decide +kernel)⟩
theorem IB.int {i : Int} (h : i.natAbs < 2 ^ 200) : IB (.int i) := .inl ⟨i, rfl, h⟩
section
open PySem.Spec PyProof.Rows
def rSubV : R2 := fun x y H Q => ∃ i : Int, x = .int i ∧ ((∃ j : Int, y = .int j ∧ Q (.int (i - j)) H) ∨ ∃ b : Bool, y = .bl b ∧ Q (.int (i - b2i b)) H)
theorem op_subV {X : Cx} : OpR X (binaryOp .Sub) rSubV := by
  intro pins s σ H x y v u Q I rx ry h
  obtain ⟨i, rfl, ⟨j, rfl, q⟩ | ⟨b, rfl, q⟩⟩ := h
  · exact op_sub pins s σ H _ _ v u Q I rx ry ⟨i, j, rfl, rfl, q⟩
  · obtain ⟨t, rfl⟩ := rx
    cases (show u = Value.bool b from ry)
    exact IntBool.sub_int_bool ⟨.int (i - b2i b), H, I.tok _, ⟨_, rfl⟩, q⟩
end

section
open PySem.Spec PyProof.Rows
def rSubW : R2 := fun x y H Q => ∃ j : Int, y = .int j ∧ ((∃ i : Int, x = .int i ∧ Q (.int (i - j)) H) ∨ ∃ b : Bool, x = .bl b ∧ Q (.int (b2i b - j)) H)
theorem op_subW {X : Cx} : OpR X (binaryOp .Sub) rSubW := by
  intro pins s σ H x y v u Q I rx ry h
  obtain ⟨j, rfl, ⟨i, rfl, q⟩ | ⟨b, rfl, q⟩⟩ := h
  · exact op_sub pins s σ H _ _ v u Q I rx ry ⟨i, j, rfl, rfl, q⟩
  · obtain ⟨t, rfl⟩ := ry
    cases (show v = Value.bool b from rx)
    exact IntBool.sub_bool_int ⟨.int (b2i b - j), H, I.tok _, ⟨_, rfl⟩, q⟩
end

/-! ### _law_bounded -/
abbrev s_bounded : Stmt := top 37
abbrev N_bounded : List Str := ["_law_numbers", "_law_leasts", "_law_number", "_law_least_one"]
abbrev P_bounded : List Str := ["_law_numbers", "_law_leasts"]
theorem sc_bounded : FnScope N_bounded P_bounded (defScope s_bounded) := ⟨rfl, rfl, rfl, by decide +kernel, rfl, by decide +kernel, by decide +kernel⟩
def spBounded : Sp := fun vs H Q _ => ∃ (X Y : Addr) (ps : List (V × Int)), vs = [.ref X, .ref Y] ∧ H X = some (.lst (ps.map fun p => p.1)) ∧ H Y = some (.lst (ps.map fun p => V.int p.2)) ∧ (∀ p ∈ ps, IB p.1) ∧
  ∀ (H' : Hp) (t : Addr), Same H H' → H' t = some (.tup (dOf (bnd ps))) → Q (.ref t) H'
section
variable {P : Program} {w : World} {K : PySem.W.Frag} {mg : Str → Option Value} {base : Heap}
theorem ok_bounded {f : Addr} {fd : FuncData} (D : DefAt K mg "_law_bounded" s_bounded P_bounded f fd) (B : Bn mg) (zZ : mg "zip" = none) : FnOk P w K mg base CX0 1 f fd P_bounded spBounded := by
  refine D.F.ok sc_bounded (fun vs H Q E h => ?_) (fun cdv A outer s H vs Q E hr h => ?_)
  · obtain ⟨X, Y, ps, rfl, _⟩ := h
    rfl
  · obtain ⟨X, Y, ps, rfl, hX, hY, hib, q⟩ := h
    refine ⟨_, (pss_cons (ps_for PassesOwn.never rfl (pi_zip (by rfl) zZ (pa_cons (pv 0) (pa_cons (pv 1) pa_nil))) (pg_tup (by rfl) (pgs_cons (pg_name (i := 2) sc_bounded.nd rfl (.inl rfl)) (pgs_cons (pg_name (i := 3) sc_bounded.nd rfl (.inl rfl)) pgs_nil))) (pss_one (ps_if (PW.pt (pw_or (pt_val (pe_callB call_isi (by rfl) B.isinstance (by decide +kernel) (pa_cons (pv 2) (pa_cons (pe_bltn (v := .ty "bool") (by rfl) B.bool (by decide +kernel) rfl) pa_nil)))) (pw_or1 (pt_cmpR op_lt (pv 2) (pv 3) (nomark _))))) (pss_one (ps_ret (pe_tup (pa_cons pe_str (pa_cons (pv 2) pa_nil))))) pss_nil)))
      (pss_one (ps_ret (pe_tup (pa_cons pe_str (pa_cons pe_non pa_nil)))))), ?_⟩
    refine ⟨.ref X, rfl, .ref Y, rfl, X, Y, _, _, rfl, SqL.of hX, SqL.of hY, RZ.for_zipL (K := K) (a := X) (b := Y) (xs := ps.map fun p => p.1) (ys := ps.map fun p => V.int p.2) (by rw [List.length_map, List.length_map])
      (fun i σ H2 => ∃ y2 y3, σ = [some (.ref X), some (.ref Y), y2, y3] ∧ Same H H2 ∧ bnd ps = bnd (ps.drop i)) ⟨_, _, rfl, Same.refl H, rfl⟩ (fun i σ H2 ⟨_, _, _, sm, _⟩ => ⟨SqL.of (sm _ _ hX), SqL.of (sm _ _ hY)⟩) ?_ ?_⟩
    · rintro i x y T σ H2 hx hy ⟨y2, y3, rfl, sm, eb⟩ nT
      rw [List.getElem?_map] at hx hy
      obtain ⟨⟨x', lo⟩, hp, rfl⟩ : ∃ p, ps[i]? = some p ∧ p.1 = x := by
        cases e : ps[i]? with
        | none =>
          rw [e] at hx
          cases hx
        | some p =>
          rw [e] at hx
          exact ⟨p, rfl, Option.some.inj hx⟩
      obtain rfl : V.int lo = y := by
        rw [hp] at hy
        exact Option.some.inj hy
      have hil : i < ps.length := (List.getElem?_eq_some_iff.mp hp).1
      have ed : ps.drop i = (x', lo) :: ps.drop (i + 1) := by
        rw [List.drop_eq_getElem_cons hil]
        congr 1
        exact (List.getElem?_eq_some_iff.mp hp).2
      rw [ed] at eb
      have ib : IB x' := hib _ (List.mem_of_getElem? hp)
      have s2 : Same H (upd H2 T (.tup [x', .int lo])) := sm.trans (same_upd nT)
      refine ⟨T, _, rfl, SqT.of upd_same, rfl, x', _, rfl, .int lo, _, rfl, rfl, ?_⟩
      have bad : goodB x' lo = false → (∃ v, ([some (.ref X), some (.ref Y), some x', some (.int lo)] : L2.St)[2]? = some (some v) ∧ (2 ≤ sizeLine ∧ ∀ a, (upd H2 T (.tup [x', .int lo])) a = none → Q (.ref a) (upd (upd H2 T (.tup [x', .int lo])) a (.tup [.str "BadNumber", v])))) := fun hb => by
        refine ⟨x', rfl, by decide, fun a na => q _ a (s2.trans (same_upd na)) ?_⟩
        rw [eb, bnd_bad hb]
        exact upd_same
      rcases id ib with ⟨z, rfl, hz⟩ | ⟨b, rfl⟩
      · refine ⟨.int z, rfl, _, _, _, _, false, rfl, ClsV.ty _, TyX.base (TyOf.int _), kit_ty (by decide +kernel), _, rfl, ?_⟩
        refine ⟨.int z, rfl, .int lo, rfl, z, lo, rfl, rfl, _, rfl, ?_⟩
        refine ite2 (fun h0 => ?_) (fun h0 => ?_)
        · have h0' : z < lo := of_decide_eq_true h0
          exact bad (decide_eq_false (by omega))
        · have h0' : ¬ z < lo := fun q => h0 (decide_eq_true q)
          exact ⟨_, _, rfl, s2, eb.trans (bnd_good (decide_eq_true (by omega)))⟩
      · refine ⟨.bl b, rfl, _, _, _, _, true, rfl, ClsV.ty _, TyX.base (TyOf.bl _), kit_ty (by decide +kernel), _, rfl, ?_⟩
        exact bad rfl
    · rintro σ H2 ⟨y2, y3, rfl, sm, eb⟩
      rw [List.length_map, List.drop_of_length_le (Nat.le_refl _)] at eb
      refine ⟨by show 2 ≤ sizeLine; decide, fun a na => q _ a (sm.trans (same_upd na)) ?_⟩
      rw [eb]
      exact upd_same
end

/-! ### the law's table of code objects -/
theorem tabs_keep {T : List (Addr × Str)} {H H' : Hp} {d l : Addr} (t : LamX.Tabs T H) (D : Draw H d l) (k : Keep d H H') : LamX.Tabs T H' := fun p hp => by
  obtain ⟨ps, h1, h2, h3⟩ := t p hp
  obtain ⟨ns, i, z, s, W⟩ := D
  refine ⟨ps, k.of h1 (ne_of h1 W.at_d (fun e => by cases e)), h2, fun pos cv hc => ?_⟩
  obtain ⟨c, e1, e2⟩ := h3 pos cv hc
  exact ⟨c, e1, k.of e2 (ne_of e2 W.at_d (fun e => by unfold LamX.CodeO at e; cases e))⟩
theorem draw_extN {H H' : Hp} {d l : Addr} (D : Draw H d l) (e : LamX.ExtN H H') : Draw H' d l := by
  obtain ⟨ns, i, z, s, W⟩ := D
  exact ⟨ns, i, z, s, { W with at_d := e _ _ W.at_d (fun _ q => by cases q), at_l := e _ _ W.at_l (fun _ q => by cases q) }⟩
def spLawT (K : PySem.W.Frag) (Pt : Addr) : Sp := fun vs H Q _ => ∃ (a : Addr) (ns : List Int), vs = [.ref a] ∧ SqL K H a (ns.map V.int) ∧ ns.length ≤ 63 ∧ H Pt = some (.tbl #[]) ∧ ∀ H', Q (.bl true) H'
abbrev lamQ : Str := (("law" : Str) ++ ".<locals>.") ++ "<lambda>"
abbrev lamT (Pt : Addr) : List (Addr × Str) := [(Pt, lamQ)]
/-- xs.append(e) inside a lambda: the reading must not speak of the lambda's own frame -/
theorem pe_appK {X : Cx} {K : PySem.W.Frag} {o e : Expr} {to : TE} {t : TA} {apos cpos : Pos} (hK : X.K = K) (ho : PE X o to) (ha : PA X [e] t)
    (hbase : attributeBase o "append" X.env (eval o X.env) = eval o X.env := by rfl)
    (hfew : ((backTo cpos (starEach [e] X.env)).all (fun x => !x.1) && (backToKw cpos (keywordEach [] X.env)).all (fun x => x.1.isSome)
      && decide ([e].length + ([] : List Keyword).length + (if ([] : List Keyword).isEmpty then 0 else 1) < 30)) = true := by rfl)
    (hline : (apos.endLine == cpos.line) = true := by rfl) (hs : starEach [e] X.env = (false, eval e X.env) :: starEach [] X.env := by rfl) (hplain : (backTo cpos (starEach [] X.env)).any (·.1) = false := by rfl) :
    PE X (.Call (.Attribute o "append" apos) [e] [] cpos) (tBM K "list" rAppend to t) := by
  subst hK
  exact pe_bm PySem.F.plainAttrs_list PySem.F.slot_list_append PySem.F.type_list_append mt_append ho ha hbase hfew hline hs hplain

/-! ### _law_any, _law_odd -/
abbrev s_any : Stmt := top 32
abbrev N_any : List Str := ["_law_draw", "_law_some"]
abbrev P_any : List Str := ["_law_draw", "_law_some"]
theorem sc_any : FnScope N_any P_any (defScope s_any) := ⟨rfl, rfl, rfl, by decide +kernel, rfl, by decide +kernel, by decide +kernel⟩
def spAny : Sp := fun vs H Q _ => ∃ (d l L : Addr) (xs : List V), vs = [.ref d, .ref L] ∧ Draw H d l ∧ H L = some (.lst xs) ∧ L ≠ d ∧ 1 ≤ xs.length ∧ xs.length ≤ 1000 ∧ ∀ (x : V) (H' : Hp), x ∈ xs → Draw H' d l → Keep d H H' → Q x H'
section
variable {P : Program} {w : World} {K : PySem.W.Frag} {mg : Str → Option Value} {base : Heap}
theorem ok_any {f fP : Addr} {fd fdP : FuncData} (D : DefAt K mg "_law_any" s_any P_any f fd) (D_pull : DefAt K mg "_law_pull" s_pull P_pull fP fdP) (B : Bn mg) : FnOk P w K mg base CX0 2 f fd P_any spAny := by
  have G_pull : FnOk P w K mg base CX0 1 fP fdP P_pull spPull := ok_pull D_pull B
  refine D.F.ok sc_any (fun vs H Q E h => ?_) (fun cdv A outer s H vs Q E hr h => ?_)
  · obtain ⟨d, l, L, xs, rfl, _⟩ := h
    rfl
  · obtain ⟨d, l, L, xs, rfl, hD, hL, nL, l1, l2, q⟩ := h
    refine ⟨_, (pss_one (ps_ret (pe_ix ix_list (pv 1) (pe_call G_pull (hr.mono (by omega)) (by rfl) D_pull.g D_pull.F.kp D_pull.b .nil pass0 (pa_cons (pv 0) (pa_cons (pe_callB call_len_seq (by rfl) B.len (by decide +kernel) (pa_cons (pv 1) pa_nil)) pa_nil))) (fun _ _ => rfl)))), ?_⟩
    refine ⟨.ref L, rfl, .ref d, rfl, .ref L, rfl, L, xs, rfl, .inl (SqL.of hL), d, l, _, rfl, hD, by omega, by omega, fun v H1 v0 v1 D1 k1 => ?_⟩
    obtain ⟨j, rfl⟩ : ∃ j : Nat, v = (j : Int) := ⟨v.toNat, by omega⟩
    have hj : j < xs.length := by omega
    exact ⟨L, xs, (j : Int), xs[j], rfl, rfl, SqL.of (k1.of hL nL), atI_nat (List.getElem?_eq_getElem hj), q _ _ (List.getElem_mem hj) D1 k1⟩
end

/-! ### what an ask leaves behind -/
theorem bnd_app : ∀ (l r : List (V × Int)), bnd (l ++ r) = (match bnd l with | none => bnd r | some x => some x)
  | [], r => rfl
  | (x, lo) :: l, r => by
    cases e : goodB x lo with
    | false => rw [List.cons_append, bnd_bad e, bnd_bad e]
    | true => rw [List.cons_append, bnd_good e, bnd_good e, bnd_app l r]
theorem bnd_mem : ∀ {l : List (V × Int)} {x : V}, bnd l = some x → ∃ p ∈ l, p.1 = x
  | (y, lo) :: l, x, h => by
    cases e : goodB y lo with
    | false =>
      rw [bnd_bad e] at h
      exact ⟨_, List.mem_cons_self, Option.some.inj h⟩
    | true =>
      rw [bnd_good e] at h
      obtain ⟨p, hp, e2⟩ := bnd_mem h
      exact ⟨p, List.mem_cons_of_mem _ hp, e2⟩
def TlP (H : Hp) (rs : List Addr) (cs : List (List V)) : Prop := Paired (fun r c => H r = some (.tup c)) rs cs
theorem TlP.snoc {H : Hp} : ∀ {rs : List Addr} {cs : List (List V)} {r : Addr} {c : List V}, TlP H rs cs → H r = some (.tup c) → TlP H (rs ++ [r]) (cs ++ [c])
  | _, _, _, _, .nil, h => .cons h .nil
  | _, _, _, _, .cons h t, h2 => .cons h (TlP.snoc t h2)
theorem TlP.keep {H H' : Hp} {r : Addr} {xs : List V} {rs : List Addr} {cs : List (List V)} (h : TlP H rs cs) (hr : H r = some (.lst xs)) (k : Keep r H H') : TlP H' rs cs :=
  Paired.mapP h fun b c hb => k.of hb (ne_of hb hr (fun z => by cases z))
theorem TlP.same {H H' : Hp} {rs : List Addr} {cs : List (List V)} (h : TlP H rs cs) (k : Same H H') : TlP H' rs cs := Paired.mapP h fun b c hb => k _ _ hb
theorem TlP.length {H : Hp} : ∀ {rs : List Addr} {cs : List (List V)}, TlP H rs cs → rs.length = cs.length
  | _, _, .nil => rfl
  | _, _, .cons _ r => congrArg (· + 1) (TlP.length r)
theorem TlP.get {H : Hp} : ∀ {rs : List Addr} {cs : List (List V)}, TlP H rs cs → ∀ (i : Nat) (x : Addr), rs[i]? = some x → ∃ c, cs[i]? = some c ∧ H x = some (.tup c)
  | _, _, .nil, i, x, h => by simp at h
  | _, _, .cons (b := c) h r, 0, x, e => by
    cases e
    exact ⟨c, rfl, h⟩
  | _, _, .cons h r, i + 1, x, e => TlP.get r i x e
def toldOf : Option V → List V → List (List V)
  | none, c => [c]
  | some _, _ => []
theorem ask_of {CB t0 r : Addr} {n : Nat} {bs : List V → List (V × Int)} {tl : List V → List V} {vs : List V} {HE : Hp} {rs : List Addr} {cs : List (List V)} {Q QV : VK} (hl : vs.length = n) (hv : ∀ x ∈ vs, FV x) (rE : HE r = some (.lst (rs.map V.ref))) (pr : TlP HE rs cs) (n0 : HE t0 = none)
    (hQ : ∀ (u : Addr) (H1 : Hp), H1 r = some (.lst (rs.map V.ref)) → Q (.ref t0) (upd H1 r (.lst (rs.map V.ref ++ [.ref u]))) → QV (.ref u) H1)
    (k : ∀ (H' : Hp) (tA : Addr) (rs' : List Addr), Keep r HE H' → H' r = some (.lst (rs'.map V.ref)) → TlP H' rs' (cs ++ toldOf (bnd (bs vs)) (tl vs)) → H' tA = some (.tup (dOf (bnd (bs vs)))) → Q (.ref tA) H') :
    spTell CB n bs tl vs (upd HE t0 (.tup [.str "", .non])) QV (EWhyBn CB Q) := by
  have s0 : Same HE (upd HE t0 (.tup [.str "", .non])) := same_upd n0
  have n0r : t0 ≠ r := (ne_of_none rE n0).symm
  refine ⟨hl, hv, fun e t nt => ?_, fun x e H' d s nd e' => ⟨d, x, rfl, rfl, e', fun H'' t1 s2 e1 => ?_⟩⟩
  · have st := same_upd (H := upd HE t0 (.tup [.str "", .non])) (o := .tup (tl vs)) nt
    have r1 := st _ _ (s0 _ _ rE)
    have ntr : t ≠ r := (ne_of_none (s0 _ _ rE) nt).symm
    refine hQ t _ r1 (k _ t0 (rs ++ [t]) (fun b o nb hb => ?_) ?_ ?_ ?_)
    · rw [upd_ne nb]
      exact st _ _ (s0 _ _ hb)
    · rw [upd_same, List.map_append]
      rfl
    · rw [e]
      refine TlP.snoc (Paired.mapP pr fun b c hb => ?_) ?_
      · rw [upd_ne (ne_of hb rE (fun z => by cases z))]
        exact st _ _ (s0 _ _ hb)
      · rw [upd_ne ntr]
        exact upd_same
    · rw [e, upd_ne n0r]
      exact st _ _ upd_same
  · have sA : Same HE H'' := (s0.trans s).trans s2
    refine k H'' t1 rs (fun b o _ hb => sA _ _ hb) (sA _ _ rE) ?_ (by rw [e]; exact e1)
    rw [e]
    show TlP H'' rs (cs ++ [])
    rw [List.append_nil]
    exact pr.same sA
/-! ### what is told stays a list that grows, all else stays -/
theorem tabs_keepR {T : List (Addr × Str)} {H H' : Hp} {r : Addr} {xs : List V} (t : LamX.Tabs T H) (hr : H r = some (.lst xs)) (k : Keep r H H') : LamX.Tabs T H' := fun p hp => by
  obtain ⟨ps, h1, h2, h3⟩ := t p hp
  refine ⟨ps, k.of h1 (ne_of h1 hr (fun e => by cases e)), h2, fun pos cv hc => ?_⟩
  obtain ⟨c, e1, e2⟩ := h3 pos cv hc
  exact ⟨c, e1, k.of e2 (ne_of e2 hr (fun e => by unfold LamX.CodeO at e; cases e))⟩
theorem draw_keepR {H H' : Hp} {d l r : Addr} (D : Draw H d l) (h1 : d ≠ r) (h2 : l ≠ r) (k : Keep r H H') : Draw H' d l := by
  obtain ⟨ns, i, z, s, W⟩ := D
  exact ⟨ns, i, z, s, { W with at_d := k.of W.at_d h1, at_l := k.of W.at_l h2 }⟩
theorem draw_apart {H : Hp} {d l r : Addr} (D : Draw H d l) (n : H r = none) : d ≠ r ∧ l ≠ r := by
  obtain ⟨ns, i, z, s, W⟩ := D
  exact ⟨ne_of_none W.at_d n, ne_of_none W.at_l n⟩
/-! ### tuples of a word and a number, as data -/
theorem dOf_rp {b : Option V} (h : ∀ x, b = some x → IB x) : ∃ dt : PyData, ∀ (H : Hp) (t : Addr) (n : Nat), H t = some (.tup (dOf b)) → Rp H (n + 1) (.ref t) dt := by
  cases b with
  | none => exact ⟨.tuple [.str "", .none], fun H t n e => .tup e (by show 2 ≤ 100000; decide) (.cons (.str _ _) (.cons (.non _) (.nil _)))⟩
  | some x =>
    rcases h x rfl with ⟨i, rfl, _⟩ | ⟨b, rfl⟩
    · exact ⟨.tuple [.str "BadNumber", .int i], fun H t n e => .tup e (by show 2 ≤ 100000; decide) (.cons (.str _ _) (.cons (.int _ _) (.nil _)))⟩
    · exact ⟨.tuple [.str "BadNumber", .bool b], fun H t n e => .tup e (by show 2 ≤ 100000; decide) (.cons (.str _ _) (.cons (.bl _ _) (.nil _)))⟩
def wdOf : Option V → Str
  | none => ""
  | some _ => "BadNumber"
theorem dOf_0 (b : Option V) : atI (dOf b) 0 = some (.str (wdOf b)) := by cases b <;> exact atI_nat (j := 0) rfl
theorem wd_eq {b : Option V} : (V.str (wdOf b) = V.str "") ↔ b = none := by
  cases b with
  | none => exact ⟨fun _ => rfl, fun _ => rfl⟩
  | some x => exact ⟨fun h => absurd (V.str.inj h) (show ¬ ("BadNumber" : Str) = "" by decide +kernel), fun h => by cases h⟩
/-! ### lists of pairs, by matings -/
abbrev Quad := Int × Int × Int × Int
def quadV (m : Quad) : List V := [.int m.1, .int m.2.1, .int m.2.2.1, .int m.2.2.2]
def quadE (m : Quad) : List (Int × Int) := endL m.1 m.2.1 m.2.2.1 m.2.2.2 m.2.2.1.toNat
def PlP (H : Hp) (qs : List Addr) (ms : List Quad) : Prop := Paired (fun q m => ∃ ps : List Addr, H q = some (.lst (ps.map V.ref)) ∧ Prs H ps (quadE m)) qs ms
theorem PlP.snoc {H : Hp} : ∀ {qs : List Addr} {ms : List Quad} {q : Addr} {m : Quad}, PlP H qs ms → (∃ ps : List Addr, H q = some (.lst (ps.map V.ref)) ∧ Prs H ps (quadE m)) → PlP H (qs ++ [q]) (ms ++ [m])
  | _, _, _, _, .nil, h => .cons h .nil
  | _, _, _, _, .cons h t, h2 => .cons h (PlP.snoc t h2)
theorem PlP.same {H H' : Hp} {qs : List Addr} {ms : List Quad} (h : PlP H qs ms) (e : Same H H') : PlP H' qs ms := Paired.mapP h fun b m ⟨ps, h1, h2⟩ => ⟨ps, e _ _ h1, h2.same e⟩
theorem PlP.length {H : Hp} : ∀ {qs : List Addr} {ms : List Quad}, PlP H qs ms → qs.length = ms.length
  | _, _, .nil => rfl
  | _, _, .cons _ r => congrArg (· + 1) (PlP.length r)
theorem Prs.keepR {H H' : Hp} {r : Addr} {xs : List V} {ps : List Addr} {es : List (Int × Int)} (h : Prs H ps es) (hr : H r = some (.lst xs)) (k : Keep r H H') : Prs H' ps es := Paired.mapP h fun b x hb => k.of hb (ne_of hb hr (fun z => by cases z))
/-- lists stay where one list, apart from them, grows -/
theorem PlP.keepR {H H' : Hp} {r : Addr} {xs : List V} : ∀ {qs : List Addr} {ms : List Quad}, PlP H qs ms → r ∉ qs → H r = some (.lst xs) → Keep r H H' → PlP H' qs ms
  | _, _, .nil, _, _, _ => .nil
  | _, _, .cons ⟨ps, h1, h2⟩ t, nr, hr, k => .cons ⟨ps, k.of h1 (fun e => nr (by rw [e]; exact List.mem_cons_self)), Prs.keepR h2 hr k⟩ (PlP.keepR t (fun z => nr (List.mem_cons_of_mem _ z)) hr k)
theorem PlP.rp {H : Hp} : ∀ {qs : List Addr} {ms : List Quad}, PlP H qs ms → (∀ m ∈ ms, m.2.2.1 ≤ 1000) → RpAll H 2 (qs.map V.ref) (ms.map fun m => .list ((quadE m).map pd))
  | _, _, .nil, _ => .nil _
  | _, m :: _, .cons ⟨ps, h1, h2⟩ t, hm => by
    have l := h2.length
    have hm1 := hm m List.mem_cons_self
    unfold quadE at l
    rw [endL_length] at l
    exact .cons (.lst h1 (by rw [List.length_map]; omega) (h2.rpd 0)) (PlP.rp t fun m h => hm m (List.mem_cons_of_mem _ h))
/-! ### tuples of a word and a number, in lists -/
def DbP (H : Hp) (ts : List Addr) (bs : List (Option V)) : Prop := Paired (fun u b => H u = some (.tup (dOf b))) ts bs
theorem DbP.keep {H H' : Hp} {r : Addr} {xs : List V} {ts : List Addr} {bs : List (Option V)} (h : DbP H ts bs) (hr : H r = some (.lst xs)) (k : Keep r H H') : DbP H' ts bs :=
  Paired.mapP h fun b c hb => k.of hb (ne_of hb hr (fun z => by cases z))
theorem DbP.same {H H' : Hp} {ts : List Addr} {bs : List (Option V)} (h : DbP H ts bs) (k : Same H H') : DbP H' ts bs := Paired.mapP h fun b c hb => k _ _ hb
theorem DbP.extN {H H' : Hp} {ts : List Addr} {bs : List (Option V)} (h : DbP H ts bs) (k : LamX.ExtN H H') : DbP H' ts bs := Paired.mapP h fun b c hb => k _ _ hb (fun _ q => by cases q)
theorem TlP.extN {H H' : Hp} {ts : List Addr} {bs : List (List V)} (h : TlP H ts bs) (k : LamX.ExtN H H') : TlP H' ts bs := Paired.mapP h fun b c hb => k _ _ hb (fun _ q => by cases q)
theorem DbP.snoc {H : Hp} : ∀ {rs : List Addr} {cs : List (Option V)} {r : Addr} {c : Option V}, DbP H rs cs → H r = some (.tup (dOf c)) → DbP H (rs ++ [r]) (cs ++ [c])
  | _, _, _, _, .nil, h => .cons h .nil
  | _, _, _, _, .cons h t, h2 => .cons h (DbP.snoc t h2)
theorem DbP.length {H : Hp} : ∀ {rs : List Addr} {cs : List (Option V)}, DbP H rs cs → rs.length = cs.length
  | _, _, .nil => rfl
  | _, _, .cons _ r => congrArg (· + 1) (DbP.length r)
theorem DbP.rp : ∀ {bs : List (Option V)}, (∀ b ∈ bs, ∀ x, b = some x → IB x) → ∃ ds : List PyData, ∀ (H : Hp) (ts : List Addr) (n : Nat), DbP H ts bs → RpAll H (n + 1) (ts.map V.ref) ds
  | [], _ => ⟨[], fun H ts n h => by cases h; exact .nil _⟩
  | b :: bs, hb => by
    obtain ⟨dt, h1⟩ := dOf_rp (hb b List.mem_cons_self)
    obtain ⟨ds, h2⟩ := DbP.rp (bs := bs) fun b h => hb b (List.mem_cons_of_mem _ h)
    refine ⟨dt :: ds, fun H ts n h => ?_⟩
    cases h with
    | cons e t => exact .cons (h1 H _ n e) (h2 H _ n t)
/-- what stands while the asks are made: the drawing, the table, what is due -/
structure Mid (Pt d l L : Addr) (us : List Addr) (bs : List (Option V)) (H : Hp) : Prop where
  dr : Draw H d l
  tb : LamX.Tabs (lamT Pt) H
  due : H L = some (.lst (us.map V.ref))
  ub : DbP H us bs
theorem Mid.same {Pt d l L : Addr} {us : List Addr} {bs : List (Option V)} {H H' : Hp} (M : Mid Pt d l L us bs H) (e : Same H H') : Mid Pt d l L us bs H' := ⟨M.dr.same e, M.tb.ext e, e _ _ M.due, M.ub.same e⟩
theorem Mid.keep {Pt d l L r : Addr} {us : List Addr} {bs : List (Option V)} {xs : List V} {H H' : Hp} (M : Mid Pt d l L us bs H) (h1 : d ≠ r) (h2 : l ≠ r) (h3 : L ≠ r) (hr : H r = some (.lst xs)) (k : Keep r H H') : Mid Pt d l L us bs H' :=
  ⟨draw_keepR M.dr h1 h2 k, tabs_keepR M.tb hr k, k.of M.due h3, M.ub.keep hr k⟩
theorem Mid.extN {Pt d l L : Addr} {us : List Addr} {bs : List (Option V)} {H H' : Hp} (M : Mid Pt d l L us bs H) (k : LamX.ExtN H H') (T : LamX.Tabs (lamT Pt) H') : Mid Pt d l L us bs H' :=
  ⟨draw_extN M.dr k, T, k _ _ M.due (fun _ q => by cases q), M.ub.extN k⟩
theorem Mid.apart {Pt d l L r : Addr} {us : List Addr} {bs : List (Option V)} {H : Hp} (M : Mid Pt d l L us bs H) (n : H r = none) : d ≠ r ∧ l ≠ r ∧ L ≠ r := ⟨(draw_apart M.dr n).1, (draw_apart M.dr n).2, ne_of_none M.due n⟩
/-! ### the lists of pairs that are due -/
structure Pst (Pt d l L R G : Addr) (us : List Addr) (bs : List (Option V)) (rs : List Addr) (tm : List Quad) (H : Hp) (qs : List Addr) (ms : List Quad) : Prop where
  hM : Mid Pt d l L us bs H
  hR : H R = some (.lst (rs.map V.ref))
  hT : TlP H rs (tm.map quadV)
  hG : H G = some (.lst (qs.map V.ref))
  nG : G ∉ qs
  hP : PlP H qs ms
  a : d ≠ G ∧ l ≠ G ∧ L ≠ G ∧ R ≠ G
theorem Pst.app {Pt d l L R G D : Addr} {us : List Addr} {bs : List (Option V)} {rs : List Addr} {tm : List Quad} {H HA : Hp} {qs ps : List Addr} {ms : List Quad} {m : Quad} (S : Pst Pt d l L R G us bs rs tm H qs ms) (nD : H D = none) (sm : Same H HA) (eD : HA D = some (.lst (ps.map V.ref))) (pr : Prs HA ps (quadE m)) :
    Pst Pt d l L R G us bs rs tm (upd HA G (.lst (qs.map V.ref ++ [.ref D]))) (qs ++ [D]) (ms ++ [m]) := by
  have nDG : D ≠ G := (ne_of_none S.hG nD).symm
  have hG := sm _ _ S.hG
  have k : Keep G HA (upd HA G (.lst (qs.map V.ref ++ [.ref D]))) := Keep.upd
  refine ⟨(S.hM.same sm).keep S.a.1 S.a.2.1 S.a.2.2.1 hG k, k.of (sm _ _ S.hR) S.a.2.2.2, (S.hT.same sm).keep hG k, by rw [upd_same, List.map_append]; rfl, fun h => ?_, PlP.snoc ((S.hP.same sm).keepR S.nG hG k) ⟨ps, k.of eD nDG, Prs.keepR pr hG k⟩, S.a⟩
  rcases List.mem_append.mp h with h | h
  · exact S.nG h
  · exact nDG (List.mem_singleton.mp h).symm
theorem pl_step {H H2 : Hp} {D a : Addr} {ps : List Addr} {o p m f z1 z2 : Int} {i : Nat} (nD : H D = none) (sm : Same H H2) (eD : H2 D = some (.lst (ps.map V.ref))) (pr : Prs H2 ps (endL o p m f i)) (na : H2 a = none) (h1 : z1 = o + (i : Int)) (h2 : z2 = endQ p m f (i : Int)) :
    ∃ ps' : List Addr, Same H (upd (upd H2 a (.tup [.int z1, .int z2])) D (.lst (ps.map V.ref ++ [.ref a]))) ∧ (upd (upd H2 a (.tup [.int z1, .int z2])) D (.lst (ps.map V.ref ++ [.ref a]))) D = some (.lst (ps'.map V.ref)) ∧ Prs (upd (upd H2 a (.tup [.int z1, .int z2])) D (.lst (ps.map V.ref ++ [.ref a]))) ps' (endL o p m f (i + 1)) := by
  have sa := same_upd (H := H2) (o := .tup [.int z1, .int z2]) na
  refine ⟨ps ++ [a], fun b o' hb => ?_, by rw [upd_same, List.map_append]; rfl, ?_⟩
  · rw [upd_ne (ne_of_none hb nD)]
    exact sa _ _ (sm _ _ hb)
  · rw [endL_snoc]
    refine Prs.grow (o := .lst []) (pr.same sa) (sa _ _ eD) ?_
    rw [h1, h2]
    exact upd_same

/-! ### law -/
-- LAMHEAD: (T := lamT Pt) (TT := TWhyBn CB) (k := 6) (by rfl) D_why.g D_why.F.kp lkW hcW D_why.b sc_why rfl (.inl rfl) (why_gives (k := 5) (hr.mono (by omega)) B Tb D_fields g1 g2 g3) TB rfl List.mem_cons_self huT (hr.mono (by omega)) (show LamX.LamS (defScope s_law) _ from LamX.lamS_by (by decide +kernel)) rfl (fun _ _ _ _ _ => rfl)
abbrev s_law : Stmt := top 38
abbrev N_law : List Str := ["_law_script", "_law_draw", "_law_turn", "_law_due", "_law_asked", "_law_pairs", "_law_at", "_law_many", "_law_other", "_law_step", "_law_told", "_law_k", "_law_row"]
abbrev P_law : List Str := ["_law_script"]
theorem sc_law : FnScope N_law P_law (defScope s_law) := ⟨rfl, rfl, rfl, by decide +kernel, rfl, by decide +kernel, by decide +kernel⟩
theorem all2 {α : Type} {P : α → Prop} {a b : α} (h1 : P a) (h2 : P b) : ∀ x ∈ [a, b], P x := fun x hx => by
  rcases List.mem_cons.mp hx with e | hx
  · rw [e]; exact h1
  rcases List.mem_cons.mp hx with e | hx
  · rw [e]; exact h2
  · cases hx
theorem all3 {α : Type} {P : α → Prop} {a b c : α} (h1 : P a) (h2 : P b) (h3 : P c) : ∀ x ∈ [a, b, c], P x := fun x hx => by
  rcases List.mem_cons.mp hx with e | hx
  · rw [e]; exact h1
  · exact all2 h2 h3 x hx
theorem all4 {α : Type} {P : α → Prop} {a b c d : α} (h1 : P a) (h2 : P b) (h3 : P c) (h4 : P d) : ∀ x ∈ [a, b, c, d], P x := fun x hx => by
  rcases List.mem_cons.mp hx with e | hx
  · rw [e]; exact h1
  · exact all3 h2 h3 h4 x hx
theorem told_len (b : Option V) (c : List V) : (toldOf b c).length ≤ 1 := by cases b <;> simp [toldOf]
theorem nil_at {σ : L2.St} {H : Hp} {R : List V → Hp → Prop} (h : R [] H) : tNil σ H R := h
theorem subW_at {σ : L2.St} {H : Hp} {Q : VK} {x : V} {j : Int} (h : rSubW x (.int j) H Q) : tC (.int j) σ H fun y H2 => rSubW x y H2 Q := h
/-- an int below ten to the seventeenth, or a truth -/
def IBw (x : V) : Prop := (∃ i : Int, x = .int i ∧ -2 < i ∧ i < 100000000000000000) ∨ ∃ b : Bool, x = .bl b
theorem IBw.ib {x : V} (h : IBw x) : IB x := by
  rcases h with ⟨i, rfl, h1, h2⟩ | ⟨b, rfl⟩
  · exact .int (by omega)
  · exact .inr ⟨_, rfl⟩
/-- a small int, or True -/
def IBm (x : V) : Prop := (∃ i : Int, x = .int i ∧ 0 ≤ i ∧ i < 19) ∨ x = .bl true
theorem IBm.ib {x : V} (h : IBm x) : IB x := by
  rcases h with ⟨i, rfl, h1, h2⟩ | rfl
  · exact .int (by omega)
  · exact .inr ⟨_, rfl⟩
def IBt (x : V) : Prop := (∃ i : Int, x = .int i ∧ -2 < i ∧ i < 20) ∨ x = .bl true
theorem IBt.ib {x : V} (h : IBt x) : IB x := by
  rcases h with ⟨i, rfl, h1, h2⟩ | rfl
  · exact .int (by omega)
  · exact .inr ⟨_, rfl⟩
theorem per_app (xa xm xs : V) : bnd (bsPer [xa, xm, xs]) = (match bnd (bsMir [xa, xm]) with | none => bnd [(xs, 1), (xs, if iv xs < iv xm then 1 else iv xs + 1)] | some x => some x) := bnd_app [(xa, 0), (xm, 1)] [(xs, 1), (xs, if iv xs < iv xm then 1 else iv xs + 1)]
theorem per_bad {xs : V} {m : Int} (h : ¬ (∃ s : Int, xs = .int s ∧ 1 ≤ s ∧ s < m)) : bnd [(xs, 1), (xs, if iv xs < m then 1 else iv xs + 1)] = some xs := by
  cases e : goodB xs 1 with
  | false => exact bnd_bad e
  | true =>
    obtain ⟨s, rfl, hs⟩ := goodB_of e
    rw [bnd_good e]
    refine bnd_bad ?_
    show decide ((if s < m then 1 else s + 1) ≤ s) = false
    rw [if_neg (fun z => h ⟨s, rfl, hs, z⟩)]
    exact decide_eq_false (by omega)
theorem per_good {s m : Int} (h1 : 1 ≤ s) (h2 : s < m) : bnd [(V.int s, 1), (V.int s, if s < m then 1 else s + 1)] = none := by
  have e : goodB (V.int s) 1 = true := decide_eq_true h1
  rw [bnd_good e, if_pos h2, bnd_good e]
  rfl
def mOf : Option V → Quad → List Quad
  | none, m => [m]
  | some _, _ => []
theorem mOf_len (b : Option V) (m : Quad) : (mOf b m).length ≤ 1 := by cases b <;> simp [mOf]
theorem told_quad {b : Option V} {c : List V} {m : Quad} (h : b = none → c = quadV m) : toldOf b c = (mOf b m).map quadV := by
  cases b with
  | none => rw [h rfl]; rfl
  | some x => rfl
theorem mOf_mem {b : Option V} {m m' : Quad} (h : m' ∈ mOf b m) : b = none ∧ m' = m := by
  cases b with
  | none => exact ⟨rfl, List.mem_singleton.mp h⟩
  | some x => cases h
section
open PySem.Spec PyProof.Rows
variable {P : Program} {w : World} {K : PySem.W.Frag} {mg : Str → Option Value} {base : Heap}
theorem ok_law {f fO fP fL fA fN fNW fC fM fQ fB fE fW fF fI CF CB C1 C2 C3 c Pt : Addr} {fdO fdP fdL fdA fdN fdNW fdC fdM fdQ fdB fdE fdW fdF fdI : FuncData} {kV doc pm ct oc : Value} {an od : Option Addr} {osl : Array (Option Value)}
    (lk : K.lookup f = some ⟨oc, od, .func (PySem.W.fnOf "law" "law" (defArgs s_law) (defBody s_law) (defScope s_law) .none kV doc pm an (.ref c) ct), osl⟩) (hcd : PySem.W.codeIn K (.ref c) "law" = true) (TB : LamX.TabB base mg c Pt)
    (D_open : DefAt K mg "_law_open" s_open P_open fO fdO) (D_pull : DefAt K mg "_law_pull" s_pull P_pull fP fdP) (D_like : DefAt K mg "_law_like" s_like P_like fL fdL) (D_any : DefAt K mg "_law_any" s_any P_any fA fdA)
    (D_need_from : DefAt K mg "need_from" s_need_from P_need_from fN fdN) (D_need_within : DefAt K mg "need_within" s_need_within P_need_within fNW fdNW) (D_copy_of : DefAt K mg "copy_of" s_copy_of P_copy_of fC fdC) (D_mirror : DefAt K mg "mirror" s_mirror P_mirror fM fdM) (D_period : DefAt K mg "period" s_period P_period fQ fdQ)
    (D_bounded : DefAt K mg "_law_bounded" s_bounded P_bounded fB fdB) (D_ends : DefAt K mg "_law_ends" s_ends P_ends fE fdE) (D_why : DefAt K mg "_law_why" s_why P_why fW fdW) (D_fields : DefAt K mg "_law_fields" s_fields P_fields fF fdF)
    (Tb : BnT K mg CF CB fI fdI) (GI : FnOk P w K mg base CX0 2 fI fdI N_bninit (spBnInit K)) (g1 : mg "NoMating" = some (.ref C1)) (g2 : mg "NoFamily" = some (.ref C2)) (g3 : mg "TooMuch" = some (.ref C3)) (zZ : mg "zip" = none) (B : Bn mg) :
    FnOk P w K mg base CX0 12 f (PySem.W.fnOf "law" "law" (defArgs s_law) (defBody s_law) (defScope s_law) .none kV doc pm an (.ref c) ct) P_law (spLawT K Pt) := by
  have G_open : FnOk P w K mg base CX0 1 fO fdO P_open (spOpen K) := ok_open D_open B
  have G_pull : FnOk P w K mg base CX0 1 fP fdP P_pull spPull := ok_pull D_pull B
  have G_like : FnOk P w K mg base CX0 4 fL fdL P_like (spLike 3) := ok_like D_like B 3
  have G_any : FnOk P w K mg base CX0 2 fA fdA P_any spAny := ok_any D_any D_pull B
  have G_bounded : FnOk P w K mg base CX0 1 fB fdB P_bounded spBounded := ok_bounded D_bounded B zZ
  have G_ends : FnOk P w K mg base CX0 1 fE fdE P_ends spEnds := ok_ends D_ends B
  have G_copy_of : FnOk P w K mg base (L2.CX P w) 5 fC fdC P_copy_of (spTell CB 3 bsCopy tlCopy) := ok_copy D_copy_of D_need_from B Tb GI
  have G_mirror : FnOk P w K mg base (L2.CX P w) 5 fM fdM P_mirror (spTell CB 2 bsMir tlMir) := ok_mirror D_mirror D_need_from B Tb GI
  have G_period : FnOk P w K mg base (L2.CX P w) 6 fQ fdQ P_period (spTell CB 3 bsPer tlPer) := ok_period D_period D_need_from D_need_within B Tb GI
  obtain ⟨ocW, odW, kVW, docW, pmW, anW, cdvW, ctW, oslW, rfl, lkW, hcW⟩ := D_why.F.ex
  refine fn_of lk hcd sc_law (fun vs H Q E h => ?_) (fun A outer s H vs Q E hr h => ?_)
  · obtain ⟨a, ns, rfl, _⟩ := h
    rfl
  · obtain ⟨a, ns, rfl, hS, hlen, hPt, q⟩ := h
    suffices hh : ∃ t, PSs (cxOf CX0 P w K mg base N_law "law" (defScope s_law) f (.ref c) A outer s H E).nox (defBody s_law) t ∧ t { nx := fun _ H' => Q .non H', rt := Q } (L2.start N_law [.ref a]) H by
      obtain ⟨t, h1, h2⟩ := hh
      exact ⟨t, h1.nox, h2⟩
    have huT : ∀ p ∈ lamT Pt, p.1 = Pt → p.2 = lamQ := fun p hp _ => by rw [List.mem_singleton.mp hp]
    refine ⟨_, (pss_cons (ps_set (i := 1) sc_law.nd rfl (.inl rfl) (pe_call G_open (hr.mono (by omega)) (by rfl) D_open.g D_open.F.kp D_open.b .nil pass0 (pa_cons (pv 0) pa_nil)))
      (pss_cons (ps_for PassesOwn.never rfl (pi_range1 (by rfl) B.range (pa_cons pe_int pa_nil)) (pg_name (i := 2) sc_law.nd rfl (.inl rfl)) (pss_cons (ps_set (i := 6) sc_law.nd rfl (.inr rfl) (pe_call G_any (hr.mono (by omega)) (by rfl) D_any.g D_any.F.kp D_any.b .nil pass0 (pa_cons (pv 1) (pa_cons (pe_lst (pa_cons (pe_call G_pull (hr.mono (by omega)) (by rfl) D_pull.g D_pull.F.kp D_pull.b .nil pass0 (pa_cons (pv 1) (pa_cons pe_int pa_nil))) (pa_cons (pe_call G_pull (hr.mono (by omega)) (by rfl) D_pull.g D_pull.F.kp D_pull.b .nil pass0 (pa_cons (pv 1) (pa_cons (pe_op op_pow pe_int pe_int) pa_nil))) (pa_cons pe_int (pa_cons (pe_un un_neg pe_int) (pa_cons pe_bl pa_nil)))))) pa_nil))))
      (pss_cons (ps_set (i := 8) sc_law.nd rfl (.inr rfl) (pe_call G_any (hr.mono (by omega)) (by rfl) D_any.g D_any.F.kp D_any.b .nil pass0 (pa_cons (pv 1) (pa_cons (pe_lst (pa_cons (pe_call G_pull (hr.mono (by omega)) (by rfl) D_pull.g D_pull.F.kp D_pull.b .nil pass0 (pa_cons (pv 1) (pa_cons pe_int pa_nil))) (pa_cons (pe_call G_pull (hr.mono (by omega)) (by rfl) D_pull.g D_pull.F.kp D_pull.b .nil pass0 (pa_cons (pv 1) (pa_cons (pe_op op_pow pe_int pe_int) pa_nil))) (pa_cons pe_int (pa_cons (pe_un un_neg pe_int) (pa_cons pe_bl pa_nil)))))) pa_nil))))
      (pss_cons (ps_set (i := 7) sc_law.nd rfl (.inr rfl) (pe_call G_any (hr.mono (by omega)) (by rfl) D_any.g D_any.F.kp D_any.b .nil pass0 (pa_cons (pv 1) (pa_cons (pe_lst (pa_cons (pe_op op_add pe_int (pe_call G_pull (hr.mono (by omega)) (by rfl) D_pull.g D_pull.F.kp D_pull.b .nil pass0 (pa_cons (pv 1) (pa_cons pe_int pa_nil)))) (pa_cons pe_int (pa_cons pe_int (pa_cons pe_int (pa_cons pe_bl pa_nil)))))) pa_nil))))
      (pss_cons (ps_set (i := 9) sc_law.nd rfl (.inr rfl) (pe_call G_any (hr.mono (by omega)) (by rfl) D_any.g D_any.F.kp D_any.b .nil pass0 (pa_cons (pv 1) (pa_cons (pe_lst (pa_cons pe_int (pa_cons (pe_call G_pull (hr.mono (by omega)) (by rfl) D_pull.g D_pull.F.kp D_pull.b .nil pass0 (pa_cons (pv 1) (pa_cons pe_int pa_nil))) (pa_cons (pe_op op_subW (pv 7) pe_int) (pa_cons (pv 7) (pa_cons pe_int (pa_cons pe_bl pa_nil))))))) pa_nil))))
      (pss_cons (ps_set (i := 10) sc_law.nd rfl (.inr rfl) (pe_lst pa_nil))
      (pss_cons (ps_set (i := 3) sc_law.nd rfl (.inl rfl) (pe_lst (pa_cons (pe_call G_bounded (hr.mono (by omega)) (by rfl) D_bounded.g D_bounded.F.kp D_bounded.b .nil pass0 (pa_cons (pe_lst (pa_cons (pv 6) (pa_cons (pv 8) (pa_cons (pv 7) pa_nil)))) (pa_cons (pe_lst (pa_cons pe_int (pa_cons pe_int (pa_cons pe_int pa_nil)))) pa_nil))) (pa_cons (pe_call G_bounded (hr.mono (by omega)) (by rfl) D_bounded.g D_bounded.F.kp D_bounded.b .nil pass0 (pa_cons (pe_lst (pa_cons (pv 6) (pa_cons (pv 7) pa_nil))) (pa_cons (pe_lst (pa_cons pe_int (pa_cons pe_int pa_nil))) pa_nil))) pa_nil))))
      (pss_cons (ps_expr (pe_bm PySem.F.plainAttrs_list PySem.F.slot_list_append PySem.F.type_list_append mt_append (pv 3) (pa_cons (pe_ix ix_list (pv 3) pe_int (fun _ _ => rfl)) pa_nil)))
      (C8.pss_cut (ps_if (PW.pt (pw_and (pt_cmpR op_eq (pe_ix ix_tup (pe_ix ix_list (pv 3) pe_int (fun _ _ => rfl)) pe_int (fun _ _ => rfl)) pe_str (nomark _)) (pw_and1 (PW.pt (pw_or (pt_val (pe_callB call_isi (by rfl) B.isinstance (by decide +kernel) (pa_cons (pv 9) (pa_cons (pe_bltn (v := .ty "bool") (by rfl) B.bool (by decide +kernel) rfl) pa_nil)))) (pw_or1 (pt_not (pt_chain op_le op_lt pe_int (pv 9) (pv 7))))))))) (pss_one (ps_asg (pe_tup (pa_cons pe_str (pa_cons (pv 9) pa_nil))) (pg_sub (pv 3) pe_int set_list))) pss_nil)
      (pss_cons (ps_set (i := 4) sc_law.nd rfl (.inl rfl) (pe_lst (pa_cons (LamX.pe_lamcall (T := lamT Pt) (TT := TWhyBn CB) (k := 6) (by rfl) D_why.g D_why.F.kp lkW hcW D_why.b sc_why rfl (.inl rfl) (why_gives (k := 5) (hr.mono (by omega)) B Tb D_fields g1 g2 g3) TB rfl List.mem_cons_self huT (hr.mono (by omega)) (show LamX.LamS (defScope s_law) _ from LamX.lamS_by (by decide +kernel)) rfl (fun _ _ _ _ _ => rfl) (fun A1 outer1 s1 H1 E1 f1 c1 hr1 => (pe_appK (K := K) rfl (pv 10) (pa_cons (pe_call G_copy_of (hr1.mono (by omega)) (by rfl) D_copy_of.g D_copy_of.F.kp D_copy_of.b .nil (passes_call (takes_of rfl rfl rfl rfl) fun _ _ _ _ h => h) (pa_cons (pv 6) (pa_cons (pv 8) (pa_cons (pv 7) pa_nil)))) pa_nil)))) pa_nil)))
      (pss_cons (ps_expr (pe_bm PySem.F.plainAttrs_list PySem.F.slot_list_append PySem.F.type_list_append mt_append (pv 4) (pa_cons (LamX.pe_lamcall (T := lamT Pt) (TT := TWhyBn CB) (k := 6) (by rfl) D_why.g D_why.F.kp lkW hcW D_why.b sc_why rfl (.inl rfl) (why_gives (k := 5) (hr.mono (by omega)) B Tb D_fields g1 g2 g3) TB rfl List.mem_cons_self huT (hr.mono (by omega)) (show LamX.LamS (defScope s_law) _ from LamX.lamS_by (by decide +kernel)) rfl (fun _ _ _ _ _ => rfl) (fun A1 outer1 s1 H1 E1 f1 c1 hr1 => (pe_appK (K := K) rfl (pv 10) (pa_cons (pe_call G_mirror (hr1.mono (by omega)) (by rfl) D_mirror.g D_mirror.F.kp D_mirror.b .nil (passes_call (takes_of rfl rfl rfl rfl) fun _ _ _ _ h => h) (pa_cons (pv 6) (pa_cons (pv 7) pa_nil))) pa_nil)))) pa_nil)))
      (pss_cons (ps_expr (pe_bm PySem.F.plainAttrs_list PySem.F.slot_list_append PySem.F.type_list_append mt_append (pv 4) (pa_cons (LamX.pe_lamcall (T := lamT Pt) (TT := TWhyBn CB) (k := 6) (by rfl) D_why.g D_why.F.kp lkW hcW D_why.b sc_why rfl (.inl rfl) (why_gives (k := 5) (hr.mono (by omega)) B Tb D_fields g1 g2 g3) TB rfl List.mem_cons_self huT (hr.mono (by omega)) (show LamX.LamS (defScope s_law) _ from LamX.lamS_by (by decide +kernel)) rfl (fun _ _ _ _ _ => rfl) (fun A1 outer1 s1 H1 E1 f1 c1 hr1 => (pe_appK (K := K) rfl (pv 10) (pa_cons (pe_call G_period (hr1.mono (by omega)) (by rfl) D_period.g D_period.F.kp D_period.b .nil (passes_call (takes_of rfl rfl rfl rfl) fun _ _ _ _ h => h) (pa_cons (pv 6) (pa_cons (pv 7) (pa_cons (pv 9) pa_nil)))) pa_nil)))) pa_nil)))
      (pss_cons (ps_if (pt_not (pt_val (pe_call G_like (hr.mono (by omega)) (by rfl) D_like.g D_like.F.kp D_like.b .nil pass0 (pa_cons (pv 4) (pa_cons (pv 3) pa_nil))))) (pss_one (ps_ret pe_bl)) pss_nil)
      (pss_cons (ps_set (i := 5) sc_law.nd rfl (.inl rfl) (pe_lst pa_nil))
      (C8.pss_cut (ps_if (pt_cmpR op_eq (pe_ix ix_tup (pe_ix ix_list (pv 3) pe_int (fun _ _ => rfl)) pe_int (fun _ _ => rfl)) pe_str (nomark _)) (pss_one (ps_expr (pe_bm PySem.F.plainAttrs_list PySem.F.slot_list_append PySem.F.type_list_append mt_append (pv 5) (pa_cons (pe_lc (own := [("_law_k", 11)]) (g := gName 11) (by rfl) sc_law.nd (pi_range1 (by rfl) B.range (pa_cons (pv 7) pa_nil)) (blkOk_by (own := [("_law_k", 11)]) (N := N_law) (sc := defScope s_law) (by decide +kernel)) (fun _ _ _ _ _ => (pg_name (i := 11) sc_law.nd rfl (.inl rfl))) (fun _ _ _ _ _ => pts_nil) (fun _ _ _ _ _ => (pe_tup (pa_cons (pe_op op_add (pv 6) (pv 11)) (pa_cons (pe_op op_add (pv 8) (pv 11)) pa_nil))))) pa_nil)))) pss_nil)
      (C8.pss_cut (ps_if (pt_cmpR op_eq (pe_ix ix_tup (pe_ix ix_list (pv 3) pe_int (fun _ _ => rfl)) pe_int (fun _ _ => rfl)) pe_str (nomark _)) (pss_one (ps_expr (pe_bm PySem.F.plainAttrs_list PySem.F.slot_list_append PySem.F.type_list_append mt_append (pv 5) (pa_cons (pe_lc (own := [("_law_k", 11)]) (g := gName 11) (by rfl) sc_law.nd (pi_range1 (by rfl) B.range (pa_cons (pv 7) pa_nil)) (blkOk_by (own := [("_law_k", 11)]) (N := N_law) (sc := defScope s_law) (by decide +kernel)) (fun _ _ _ _ _ => (pg_name (i := 11) sc_law.nd rfl (.inl rfl))) (fun _ _ _ _ _ => pts_nil) (fun _ _ _ _ _ => (pe_tup (pa_cons (pe_op op_add (pv 6) (pv 11)) (pa_cons (pe_op op_subW (pe_op op_subW (pe_op op_add (pv 6) (pv 7)) pe_int) (pv 11)) pa_nil))))) pa_nil)))) pss_nil)
      (C8.pss_cut (ps_if (pt_cmpR op_eq (pe_ix ix_tup (pe_ix ix_list (pv 3) pe_int (fun _ _ => rfl)) pe_int (fun _ _ => rfl)) pe_str (nomark _)) (pss_one (ps_expr (pe_bm PySem.F.plainAttrs_list PySem.F.slot_list_append PySem.F.type_list_append mt_append (pv 5) (pa_cons (pe_lc (own := [("_law_k", 11)]) (g := gName 11) (by rfl) sc_law.nd (pi_range1 (by rfl) B.range (pa_cons (pe_op op_subW (pv 7) (pv 9)) pa_nil)) (blkOk_by (own := [("_law_k", 11)]) (N := N_law) (sc := defScope s_law) (by decide +kernel)) (fun _ _ _ _ _ => (pg_name (i := 11) sc_law.nd rfl (.inl rfl))) (fun _ _ _ _ _ => pts_nil) (fun _ _ _ _ _ => (pe_tup (pa_cons (pe_op op_add (pv 6) (pv 11)) (pa_cons (pe_op op_add (pe_op op_add (pv 6) (pv 11)) (pv 9)) pa_nil))))) pa_nil)))) pss_nil)
      (pss_one (ps_if (PW.pt (pw_or (pt_not (pt_val (pe_callB (cr_all rfl) (by rfl) B.all (by decide +kernel) (pa_cons (pe_lc (own := [("_law_row", 12)]) (g := gName 12) (by rfl) sc_law.nd (pi_list (pv 10)) (blkOk_by (own := [("_law_row", 12)]) (N := N_law) (sc := defScope s_law) (by decide +kernel)) (fun _ _ _ _ _ => (pg_name (i := 12) sc_law.nd rfl (.inl rfl))) (fun _ _ _ _ _ => pts_nil) (fun _ _ _ _ _ => (pe_callB (show CallR _ _ (rIsi K) from call_isi) (by rfl) B.isinstance (by decide +kernel) (pa_cons (pv 12) (pa_cons (pe_bltn (v := .ty "tuple") (by rfl) B.tuple (by decide +kernel) rfl) pa_nil))))) pa_nil)))) (pw_or1 (pt_not (pt_val (pe_call G_like (hr.mono (by omega)) (by rfl) D_like.g D_like.F.kp D_like.b .nil pass0 (pa_cons (pe_lc (own := [("_law_row", 12)]) (g := gName 12) (by rfl) sc_law.nd (pi_list (pv 10)) (blkOk_by (own := [("_law_row", 12)]) (N := N_law) (sc := defScope s_law) (by decide +kernel)) (fun _ _ _ _ _ => (pg_name (i := 12) sc_law.nd rfl (.inl rfl))) (fun _ _ _ _ _ => pts_nil) (fun _ _ _ _ _ => (pe_call G_ends (hr.mono (by omega)) (by rfl) D_ends.g D_ends.F.kp D_ends.b .nil pass0 (pa_cons (pv 12) pa_nil)))) (pa_cons (pv 5) pa_nil)))))))) (pss_one (ps_ret pe_bl)) pss_nil)))))))))))))))))))
      (pss_one (ps_ret pe_bl)))), ?_⟩
    refine ⟨.ref a, rfl, a, ns, rfl, hS, hlen, fun H1 d l sm nd nl hD => ?_⟩
    have T1 : LamX.Tabs (lamT Pt) H1 := fun p hp => by
      rw [List.mem_singleton.mp hp]
      exact LamX.TabS.nil (sm _ _ hPt)
    refine ⟨6, rfl, by decide, by decide, for_range (lo := 0) (n := 6) (fun i σ H3 => ∃ y2 y3 y4 y5 y6 y7 y8 y9 y10 y11 y12, σ = [some (.ref a), some (.ref d), y2, y3, y4, y5, y6, y7, y8, y9, y10, y11, y12] ∧ Draw H3 d l ∧ LamX.Tabs (lamT Pt) H3)
      ⟨_, _, _, _, _, _, _, _, _, _, _, rfl, hD, T1⟩ ?_ ?_⟩
    · rintro i_ σ H3 hi ⟨y2, y3, y4, y5, y6, y7, y8, y9, y10, y11, y12, rfl, D3, T3⟩
      have hpow : CPow 10 17 := ⟨by decide, by decide, by decide⟩
      -- at
      refine ⟨.ref d, rfl, .ref d, rfl, d, l, 9, rfl, D3, by decide, by decide, fun v1 H4 v10 v11 D4 k4 => ?_⟩
      refine ⟨.ref d, rfl, 10, 17, rfl, rfl, hpow, d, l, _, rfl, D4, by decide, by decide, fun v2 H5 v20 v21 D5 k5 => ?_⟩
      have T5 := tabs_keep (tabs_keep T3 D3 k4) D4 k5
      have v21' : v2 < 100000000000000000 := v21
      refine ⟨1, rfl, by show 5 ≤ sizeLine; decide, fun L1 nL1 => ?_⟩
      refine ⟨d, l, L1, _, rfl, D5.same (same_upd nL1), upd_same, D5.ne_new nL1, by show 1 ≤ 5; decide, by show 5 ≤ 1000; decide, fun xa H6 hx D6 k6 => ?_⟩
      have T6 := tabs_keep (T5.ext (same_upd nL1)) (D5.same (same_upd nL1)) k6
      have iba : IBw xa := by
        rcases List.mem_cons.mp hx with rfl | hx
        · exact .inl ⟨_, rfl, by omega, by omega⟩
        rcases List.mem_cons.mp hx with rfl | hx
        · exact .inl ⟨_, rfl, by omega, by omega⟩
        rcases List.mem_cons.mp hx with rfl | hx
        · exact .inl ⟨_, rfl, by decide, by decide⟩
        rcases List.mem_cons.mp hx with rfl | hx
        · exact .inl ⟨_, rfl, by decide, by decide⟩
        rcases List.mem_cons.mp hx with rfl | hx
        · exact .inr ⟨_, rfl⟩
        · cases hx
      clear hx
      -- other
      refine ⟨.ref d, rfl, .ref d, rfl, d, l, 9, rfl, D6, by decide, by decide, fun v3 H7 v30 v31 D7 k7 => ?_⟩
      refine ⟨.ref d, rfl, 10, 17, rfl, rfl, hpow, d, l, _, rfl, D7, by decide, by decide, fun v4 H8 v40 v41 D8 k8 => ?_⟩
      have T8 := tabs_keep (tabs_keep T6 D6 k7) D7 k8
      have v41' : v4 < 100000000000000000 := v41
      refine ⟨1, rfl, by show 5 ≤ sizeLine; decide, fun L2 nL2 => ?_⟩
      refine ⟨d, l, L2, _, rfl, D8.same (same_upd nL2), upd_same, D8.ne_new nL2, by show 1 ≤ 5; decide, by show 5 ≤ 1000; decide, fun xo H9 hx D9 k9 => ?_⟩
      have T9 := tabs_keep (T8.ext (same_upd nL2)) (D8.same (same_upd nL2)) k9
      have ibo : IBw xo := by
        rcases List.mem_cons.mp hx with rfl | hx
        · exact .inl ⟨_, rfl, by omega, by omega⟩
        rcases List.mem_cons.mp hx with rfl | hx
        · exact .inl ⟨_, rfl, by omega, by omega⟩
        rcases List.mem_cons.mp hx with rfl | hx
        · exact .inl ⟨_, rfl, by decide, by decide⟩
        rcases List.mem_cons.mp hx with rfl | hx
        · exact .inl ⟨_, rfl, by decide, by decide⟩
        rcases List.mem_cons.mp hx with rfl | hx
        · exact .inr ⟨_, rfl⟩
        · cases hx
      clear hx
      -- many
      refine ⟨.ref d, rfl, .ref d, rfl, d, l, 18, rfl, D9, by decide, by decide, fun v5 H10 v50 v51 D10 k10 => ?_⟩
      have T10 := tabs_keep T9 D9 k10
      refine ⟨1, v5, rfl, rfl, by show 5 ≤ sizeLine; decide, fun L3 nL3 => ?_⟩
      refine ⟨d, l, L3, _, rfl, D10.same (same_upd nL3), upd_same, D10.ne_new nL3, by show 1 ≤ 5; decide, by show 5 ≤ 1000; decide, fun xm H11 hx D11 k11 => ?_⟩
      have T11 := tabs_keep (T10.ext (same_upd nL3)) (D10.same (same_upd nL3)) k11
      have ibm : IBm xm := by
        rcases List.mem_cons.mp hx with rfl | hx
        · exact .inl ⟨_, rfl, by omega, by omega⟩
        rcases List.mem_cons.mp hx with rfl | hx
        · exact .inl ⟨_, rfl, by decide, by decide⟩
        rcases List.mem_cons.mp hx with rfl | hx
        · exact .inl ⟨_, rfl, by decide, by decide⟩
        rcases List.mem_cons.mp hx with rfl | hx
        · exact .inl ⟨_, rfl, by decide, by decide⟩
        rcases List.mem_cons.mp hx with rfl | hx
        · exact .inr rfl
        · cases hx
      clear hx
      -- step
      obtain ⟨df, hdf, df0, df1⟩ : ∃ df : Int, (∀ H Q, Q (V.int df) H → rSubW xm (.int 1) H Q) ∧ -2 < df ∧ df < 19 := by
        rcases ibm with ⟨m, rfl, h1, h2⟩ | rfl
        · exact ⟨m - 1, fun H Q h => ⟨1, rfl, .inl ⟨m, rfl, h⟩⟩, by omega, by omega⟩
        · exact ⟨b2i true - 1, fun H Q h => ⟨1, rfl, .inr ⟨true, rfl, h⟩⟩, by decide, by decide⟩
      refine ⟨.ref d, rfl, .ref d, rfl, d, l, 20, rfl, D11, by decide, by decide, fun v6 H12 v60 v61 D12 k12 => ?_⟩
      have T12 := tabs_keep T11 D11 k12
      refine ⟨xm, rfl, ?_⟩
      refine subW_at (hdf _ _ ?_)
      refine ⟨xm, rfl, by show 6 ≤ sizeLine; decide, fun L4 nL4 => ?_⟩
      refine ⟨d, l, L4, _, rfl, D12.same (same_upd nL4), upd_same, D12.ne_new nL4, by show 1 ≤ 6; decide, by show 6 ≤ 1000; decide, fun xs H13 hx D13 k13 => ?_⟩
      have T13 := tabs_keep (T12.ext (same_upd nL4)) (D12.same (same_upd nL4)) k13
      have ibs : IBt xs := by
        rcases List.mem_cons.mp hx with rfl | hx
        · exact .inl ⟨_, rfl, by decide, by decide⟩
        rcases List.mem_cons.mp hx with rfl | hx
        · exact .inl ⟨_, rfl, by omega, by omega⟩
        rcases List.mem_cons.mp hx with rfl | hx
        · exact .inl ⟨_, rfl, by omega, by omega⟩
        rcases List.mem_cons.mp hx with rfl | hx
        · rcases ibm with ⟨m, rfl, h1, h2⟩ | rfl
          · exact .inl ⟨_, rfl, by omega, by omega⟩
          · exact .inr rfl
        rcases List.mem_cons.mp hx with rfl | hx
        · exact .inl ⟨_, rfl, by decide, by decide⟩
        rcases List.mem_cons.mp hx with rfl | hx
        · exact .inr rfl
        · cases hx
      clear hx hdf df0 df1
      -- told
      refine ⟨Nat.zero_le _, fun R nR => ?_⟩
      have apR := draw_apart D13 nR
      have D14 := D13.same (same_upd (o := .lst []) nR)
      have T14 := T13.ext (same_upd (o := .lst []) nR)
      have R14 : (upd H13 R (.lst [])) R = some (.lst []) := upd_same
      generalize upd H13 R (.lst []) = H14 at *
      -- due
      refine ⟨xa, rfl, xo, rfl, xm, rfl, by show 3 ≤ sizeLine; decide, fun P1 nP1 => ⟨by show 3 ≤ sizeLine; decide, fun P2 nP2 => ?_⟩⟩
      have sP : Same H14 (upd (upd H14 P1 (.lst [xa, xo, xm])) P2 (.lst [.int 0, .int 0, .int 1])) := (same_upd nP1).trans (same_upd nP2)
      refine ⟨P1, P2, bsCopy [xa, xo, xm], rfl, same_upd nP2 _ _ upd_same, upd_same, ?_, fun H15 u0 s15 e15 => ?_⟩
      · intro p hp
        simp only [bsCopy, List.mem_cons, List.not_mem_nil, or_false] at hp
        rcases hp with rfl | rfl | rfl
        · exact iba.ib
        · exact ibo.ib
        · exact ibm.ib
      have sQ := sP.trans s15
      refine ⟨xa, rfl, xm, rfl, by show 2 ≤ sizeLine; decide, fun P3 nP3 => ⟨by show 2 ≤ sizeLine; decide, fun P4 nP4 => ?_⟩⟩
      have sP' : Same H15 (upd (upd H15 P3 (.lst [xa, xm])) P4 (.lst [.int 0, .int 1])) := (same_upd nP3).trans (same_upd nP4)
      refine ⟨P3, P4, bsMir [xa, xm], rfl, same_upd nP4 _ _ upd_same, upd_same, ?_, fun H16 u1 s16 e16 => ?_⟩
      · intro p hp
        simp only [bsMir, List.mem_cons, List.not_mem_nil, or_false] at hp
        rcases hp with rfl | rfl
        · exact iba.ib
        · exact ibm.ib
      have s2 := sP'.trans s16
      have e0 := s2 _ _ e15
      refine ⟨by show 2 ≤ sizeLine; decide, fun L nL => ?_⟩
      have D17 := ((D14.same sQ).same s2).same (same_upd (o := .lst [.ref u0, .ref u1]) nL)
      have T17 := ((T14.ext sQ).ext s2).ext (same_upd (o := .lst [.ref u0, .ref u1]) nL)
      have R17 := same_upd (o := .lst [.ref u0, .ref u1]) nL _ _ (s2 _ _ (sQ _ _ R14))
      have e0' := same_upd (o := .lst [.ref u0, .ref u1]) nL _ _ e0
      have e1' := same_upd (o := .lst [.ref u0, .ref u1]) nL _ _ e16
      have nLR : L ≠ R := (ne_of_none (s2 _ _ (sQ _ _ R14)) nL).symm
      have apL := draw_apart ((D14.same sQ).same s2) nL
      have L17 : (upd H16 L (.lst [.ref u0, .ref u1])) L = some (.lst [.ref u0, .ref u1]) := upd_same
      generalize upd H16 L (.lst [.ref u0, .ref u1]) = H17 at *
      -- due.append(due[1])
      refine ⟨.ref L, rfl, .inl ⟨rfl, _, SqL.of L17⟩, .ref L, rfl, L, _, 1, .ref u1, rfl, rfl, SqL.of L17, atI_nat (j := 1) rfl, L, _, _, rfl, rfl, L17, by show 2 < sizeLine; decide, ?_⟩
      have kL : Keep L H17 (upd H17 L (.lst ([.ref u0, .ref u1] ++ [.ref u1]))) := Keep.upd
      have D18 := draw_keepR D17 apL.1 apL.2 kL
      have T18 := tabs_keepR T17 L17 kL
      have R18 := kL.of R17 nLR.symm
      have e0'' := kL.of e0' (ne_of e0' L17 (fun z => by cases z))
      have e1'' := kL.of e1' (ne_of e1' L17 (fun z => by cases z))
      have L18 : (upd H17 L (.lst ([.ref u0, .ref u1] ++ [.ref u1]))) L = some (.lst [.ref u0, .ref u1, .ref u1]) := upd_same
      generalize upd H17 L (.lst ([.ref u0, .ref u1] ++ [.ref u1])) = H18 at *
      have fa : FV xa := iba.ib.fv
      have fo : FV xo := ibo.ib.fv
      have fm : FV xm := ibm.ib.fv
      have fs : FV xs := ibs.ib.fv
      refine ⟨fun σ H' => ∃ u2, σ = [some (.ref a), some (.ref d), some (.int (0 + (i_ : Int))), some (.ref L), y4, y5, some xa, some xm, some xo, some xs, some (.ref R), y11, y12] ∧ Mid Pt d l L [u0, u1, u2] [bnd (bsCopy [xa, xo, xm]), bnd (bsMir [xa, xm]), bnd (bsPer [xa, xm, xs])] H' ∧ H' R = some (.lst []), ?_, ?_⟩
      · have keepIt : bnd (bsMir [xa, xm]) = bnd (bsPer [xa, xm, xs]) → ∃ u2, ([some (.ref a), some (.ref d), some (.int (0 + (i_ : Int))), some (.ref L), y4, y5, some xa, some xm, some xo, some xs, some (.ref R), y11, y12] : List (Option V)) = [some (.ref a), some (.ref d), some (.int (0 + (i_ : Int))), some (.ref L), y4, y5, some xa, some xm, some xo, some xs, some (.ref R), y11, y12] ∧ Mid Pt d l L [u0, u1, u2] [bnd (bsCopy [xa, xo, xm]), bnd (bsMir [xa, xm]), bnd (bsPer [xa, xm, xs])] H18 ∧ H18 R = some (.lst []) := fun e =>
          ⟨u1, rfl, ⟨D18, T18, L18, .cons e0'' (.cons e1'' (.cons (by rw [← e]; exact e1'') .nil))⟩, R18⟩
        refine ⟨.ref L, rfl, L, _, 1, .ref u1, rfl, rfl, SqL.of L18, atI_nat (j := 1) rfl, u1, _, 0, _, rfl, rfl, SqT.of e1'', dOf_0 _, rfl, _, rfl, ?_⟩
        refine ite2 (fun h => ?_) (fun h => ?_)
        · have hb1 : bnd (bsMir [xa, xm]) = none := wd_eq.mp (of_decide_eq_true h)
          have hper := per_app xa xm xs
          rw [hb1] at hper
          obtain ⟨m, rfl, hm⟩ := goodB_of (bnd_all hb1 (xm, 1) (by simp [bsMir]))
          have fin : bnd (bsPer [xa, .int m, xs]) = some xs → ∀ t, H18 t = none → ∃ u2, ([some (.ref a), some (.ref d), some (.int (0 + (i_ : Int))), some (.ref L), y4, y5, some xa, some (.int m), some xo, some xs, some (.ref R), y11, y12] : List (Option V)) = [some (.ref a), some (.ref d), some (.int (0 + (i_ : Int))), some (.ref L), y4, y5, some xa, some (.int m), some xo, some xs, some (.ref R), y11, y12] ∧ Mid Pt d l L [u0, u1, u2] [bnd (bsCopy [xa, xo, .int m]), bnd (bsMir [xa, .int m]), bnd (bsPer [xa, .int m, xs])] (upd (upd H18 t (.tup [.str "BadNumber", xs])) L (.lst [.ref u0, .ref u1, .ref t])) ∧ (upd (upd H18 t (.tup [.str "BadNumber", xs])) L (.lst [.ref u0, .ref u1, .ref t])) R = some (.lst []) := fun e t nt => by
            have st := same_upd (H := H18) (o := .tup [.str "BadNumber", xs]) nt
            have kt : Keep L (upd H18 t (.tup [.str "BadNumber", xs])) (upd (upd H18 t (.tup [.str "BadNumber", xs])) L (.lst [.ref u0, .ref u1, .ref t])) := Keep.upd
            have Lt := st _ _ L18
            have e0t := st _ _ e0''
            have e1t := st _ _ e1''
            have ett : (upd H18 t (.tup [.str "BadNumber", xs])) t = some (.tup [.str "BadNumber", xs]) := upd_same
            refine ⟨t, rfl, ⟨draw_keepR (D18.same st) apL.1 apL.2 kt, tabs_keepR (T18.ext st) Lt kt, upd_same, .cons (kt.of e0t (ne_of e0t Lt (fun z => by cases z))) (.cons (kt.of e1t (ne_of e1t Lt (fun z => by cases z))) (.cons ?_ .nil))⟩, kt.of (st _ _ R18) nLR.symm⟩
            rw [e]
            exact kt.of ett (ne_of ett Lt (fun z => by cases z))
          rcases id ibs with ⟨s', rfl, hs1, hs2⟩ | rfl
          · refine ⟨.int s', rfl, _, _, _, _, false, rfl, ClsV.ty _, TyX.base (TyOf.int _), kit_ty (by decide +kernel), _, rfl, ?_⟩
            refine ⟨.int s', rfl, 1, s', rfl, rfl, _, rfl, ?_⟩
            by_cases h3 : 1 ≤ s'
            · rw [decide_eq_true h3]
              refine ⟨.int m, rfl, s', m, rfl, rfl, _, rfl, ?_⟩
              by_cases h4 : s' < m
              · rw [decide_eq_true h4]
                exact keepIt (hb1.trans ((per_good h3 h4).symm.trans hper.symm))
              · rw [decide_eq_false h4]
                exact ⟨_, rfl, by show 2 ≤ sizeLine; decide, fun t nt => ⟨.ref L, rfl, L, _, 2, 2, rfl, rfl, same_upd nt _ _ L18, rfl, fin (hper.trans (per_bad fun ⟨z, e, z1, z2⟩ => by cases e; exact h4 z2)) t nt⟩⟩
            · rw [decide_eq_false h3]
              refine iteF ⟨false, rfl, ?_⟩
              exact ⟨_, rfl, by show 2 ≤ sizeLine; decide, fun t nt => ⟨.ref L, rfl, L, _, 2, 2, rfl, rfl, same_upd nt _ _ L18, rfl, fin (hper.trans (per_bad fun ⟨z, e, z1, z2⟩ => by cases e; exact h3 z1)) t nt⟩⟩
          · refine ⟨.bl true, rfl, _, _, _, _, true, rfl, ClsV.ty _, TyX.base (TyOf.bl _), kit_ty (by decide +kernel), _, rfl, ?_⟩
            refine ⟨_, rfl, by show 2 ≤ sizeLine; decide, fun t nt => ⟨.ref L, rfl, L, _, 2, 2, rfl, rfl, same_upd nt _ _ L18, rfl, fin (hper.trans (per_bad fun ⟨_, z, _⟩ => by cases z)) t nt⟩⟩
        · refine keepIt ?_
          have hper := per_app xa xm xs
          cases e : bnd (bsMir [xa, xm]) with
          | none => exact absurd (decide_eq_true (wd_eq.mpr e)) h
          | some x =>
            rw [e] at hper
            exact hper.symm
      · rintro σ H19 ⟨u2, rfl, M19, R19⟩
        clear D18 T18 R18 e0'' e1'' L18
        generalize eb0 : bnd (bsCopy [xa, xo, xm]) = b0 at M19
        generalize eb1 : bnd (bsMir [xa, xm]) = b1 at M19
        generalize eb2 : bnd (bsPer [xa, xm, xs]) = b2 at M19
        have apd : d ≠ R ∧ l ≠ R ∧ L ≠ R := ⟨apR.1, apR.2, nLR⟩
        -- copy_of
        refine ⟨M19.tb, fun HE eN TE t0 n0 R' hR => ?_⟩
        have ME := M19.extN eN TE
        have RE : HE R = some (.lst (([] : List Addr).map V.ref)) := eN _ _ R19 (fun _ q => by cases q)
        refine ⟨.ref R, rfl, .inl ⟨rfl, _, SqL.of (same_upd n0 _ _ RE)⟩, xa, rfl, xo, rfl, xm, rfl, nil_at (ask_of (cs := []) (vs := [xa, xo, xm]) rfl (all3 fa fo fm) RE .nil n0 (fun u H1 e1 h => ⟨R, _, _, rfl, rfl, e1, by show 0 < sizeLine; decide, hR _ _ h⟩) (fun H20 t1 rs1 k20 R20 P20 e20 => ?_))⟩
        rw [eb0] at P20 e20
        have M20 := ME.keep apd.1 apd.2.1 apd.2.2 RE k20
        clear ME RE eN TE hR n0 M19 R19 k20
        refine ⟨by show 1 ≤ sizeLine; decide, fun A1 nA1 => ?_⟩
        have sA := same_upd (H := H20) (o := .lst [.ref t1]) nA1
        have apA := M20.apart nA1
        have M21 := M20.same sA
        have R21 := sA _ _ R20
        have P21 := P20.same sA
        have e21 := sA _ _ e20
        have nAR : R ≠ A1 := ne_of_none R20 nA1
        have A21 : (upd H20 A1 (.lst [.ref t1])) A1 = some (.lst (([t1] : List Addr).map V.ref)) := upd_same
        have B21 : DbP (upd H20 A1 (.lst [.ref t1])) [t1] [b0] := .cons e21 .nil
        generalize upd H20 A1 (.lst [.ref t1]) = H21 at *
        clear M20 R20 P20 e20 sA nA1 e21
        -- mirror
        refine ⟨.ref A1, rfl, .inl ⟨rfl, _, SqL.of A21⟩, M21.tb, fun HE eN TE t0 n0 R' hR => ?_⟩
        have ME := M21.extN eN TE
        have RE : HE R = some (.lst (rs1.map V.ref)) := eN _ _ R21 (fun _ q => by cases q)
        have AE : HE A1 = some (.lst (([t1] : List Addr).map V.ref)) := eN _ _ A21 (fun _ q => by cases q)
        have l1 := P21.length
        refine ⟨.ref R, rfl, .inl ⟨rfl, _, SqL.of (same_upd n0 _ _ RE)⟩, xa, rfl, xm, rfl, nil_at (ask_of (vs := [xa, xm]) rfl (all2 fa fm) RE (P21.extN eN) n0 (fun u H1 e1 h => ⟨R, _, _, rfl, rfl, e1, sz_lt (by rw [List.length_map, l1, List.nil_append]; have := told_len b0 (tlCopy [xa, xo, xm]); omega), hR _ _ h⟩) (fun H22 t2 rs2 k22 R22 P22 e22 => ?_))⟩
        rw [eb1] at P22 e22
        have M22 := ME.keep apd.1 apd.2.1 apd.2.2 RE k22
        have A22 := k22.of AE nAR.symm
        have B22 := ((B21.extN eN).keep RE k22).snoc e22
        clear ME RE AE eN TE hR n0 k22 B21 P21 A21 R21 M21 e22
        refine ⟨A1, _, _, rfl, rfl, A22, by show 1 < sizeLine; decide, ?_⟩
        have kA : Keep A1 H22 (upd H22 A1 (.lst (([t1] : List Addr).map V.ref ++ [.ref t2]))) := Keep.upd
        have M23 := M22.keep apA.1 apA.2.1 apA.2.2 A22 kA
        have R23 := kA.of R22 nAR
        have P23 := P22.keep A22 kA
        have B23 := B22.keep A22 kA
        have A23 : (upd H22 A1 (.lst (([t1] : List Addr).map V.ref ++ [.ref t2]))) A1 = some (.lst (([t1] ++ [t2]).map V.ref)) := upd_same
        generalize upd H22 A1 (.lst (([t1] : List Addr).map V.ref ++ [.ref t2])) = H23 at *
        clear M22 A22 B22 R22 P22 kA
        -- period
        refine ⟨.ref A1, rfl, .inl ⟨rfl, _, SqL.of A23⟩, M23.tb, fun HE eN TE t0 n0 R' hR => ?_⟩
        have ME := M23.extN eN TE
        have RE : HE R = some (.lst (rs2.map V.ref)) := eN _ _ R23 (fun _ q => by cases q)
        have AE : HE A1 = some (.lst (([t1] ++ [t2]).map V.ref)) := eN _ _ A23 (fun _ q => by cases q)
        have l2 := P23.length
        refine ⟨.ref R, rfl, .inl ⟨rfl, _, SqL.of (same_upd n0 _ _ RE)⟩, xa, rfl, xm, rfl, xs, rfl, nil_at (ask_of (vs := [xa, xm, xs]) rfl (all3 fa fm fs) RE (P23.extN eN) n0 (fun u H1 e1 h => ⟨R, _, _, rfl, rfl, e1, sz_lt (by rw [List.length_map, l2, List.length_append, List.nil_append]; have := told_len b0 (tlCopy [xa, xo, xm]); have := told_len b1 (tlMir [xa, xm]); omega), hR _ _ h⟩) (fun H24 t3 rs3 k24 R24 P24 e24 => ?_))⟩
        rw [eb2] at P24 e24
        have M24 := ME.keep apd.1 apd.2.1 apd.2.2 RE k24
        have A24 := k24.of AE nAR.symm
        have B24 := ((B23.extN eN).keep RE k24).snoc e24
        clear ME RE AE eN TE hR n0 k24 B23 P23 A23 R23 M23 e24
        refine ⟨A1, _, _, rfl, rfl, A24, by show 2 < sizeLine; decide, ?_⟩
        have kA : Keep A1 H24 (upd H24 A1 (.lst (([t1] ++ [t2] : List Addr).map V.ref ++ [.ref t3]))) := Keep.upd
        have M25 := M24.keep apA.1 apA.2.1 apA.2.2 A24 kA
        have R25 := kA.of R24 nAR
        have P25 := P24.keep A24 kA
        have B25 := B24.keep A24 kA
        have A25 : (upd H24 A1 (.lst (([t1] ++ [t2] : List Addr).map V.ref ++ [.ref t3]))) A1 = some (.lst (([t1] ++ [t2] ++ [t3]).map V.ref)) := upd_same
        generalize upd H24 A1 (.lst (([t1] ++ [t2] : List Addr).map V.ref ++ [.ref t3])) = H25 at *
        clear M24 A24 B24 R24 P24 kA
        -- as it is due
        obtain ⟨ds, hds⟩ := DbP.rp (bs := [b0, b1, b2]) (by
          intro b hb x hx
          subst hx
          simp only [List.mem_cons, List.not_mem_nil, or_false] at hb
          have one : ∀ {l : List (V × Int)}, bnd l = some x → (∀ p ∈ l, IB p.1) → IB x := fun e h => by
            obtain ⟨p, hp, rfl⟩ := bnd_mem e
            exact h p hp
          rcases hb with rfl | rfl | rfl
          · exact one eb0 (all3 iba.ib ibo.ib ibm.ib)
          · exact one eb1 (all2 iba.ib ibm.ib)
          · exact one eb2 (all4 iba.ib ibm.ib ibs.ib ibs.ib))
        refine ⟨.ref A1, rfl, .ref L, rfl, .ref A1, .ref L, .list ds, rfl, .lst A25 (by show 3 ≤ 100000; decide) (hds _ _ 1 B25), .lst M25.due (by show 3 ≤ 100000; decide) (hds _ _ 1 M25.ub), fun H26 s26 => ⟨true, rfl, iteF ?_⟩⟩
        have M26 := M25.same s26
        have R26 := s26 _ _ R25
        have P26 := P25.same s26
        clear M25 R25 P25 A25 B25 s26 hds
        -- pairs
        refine ⟨Nat.zero_le _, fun G nG => ?_⟩
        have sG := same_upd (H := H26) (o := .lst []) nG
        have apG := M26.apart nG
        have M27 := M26.same sG
        have R27 := sG _ _ R26
        have P27 := P26.same sG
        have nGR : R ≠ G := ne_of_none R26 nG
        have G27 : (upd H26 G (.lst [])) G = some (.lst (([] : List Addr).map V.ref)) := upd_same
        generalize upd H26 G (.lst []) = H27 at *
        clear M26 R26 P26 sG nG
        -- what each mating is
        have m0 : b0 = none → (∃ o p : Int, ∃ m : Nat, xa = .int o ∧ xo = .int p ∧ xm = .int m ∧ 1 ≤ m ∧ m < 19) := fun e => by
          rw [e] at eb0
          have ha := goodB_of (bnd_all eb0 (xa, 0) (by simp [bsCopy]))
          have ho := goodB_of (bnd_all eb0 (xo, 0) (by simp [bsCopy]))
          have hm := goodB_of (bnd_all eb0 (xm, 1) (by simp [bsCopy]))
          obtain ⟨o, rfl, _⟩ := ha
          obtain ⟨p, rfl, _⟩ := ho
          obtain ⟨m, rfl, hm1⟩ := hm
          rcases ibm with ⟨m', e', h1, h2⟩ | e'
          · cases e'
            exact ⟨o, p, m.toNat, rfl, rfl, by rw [Int.toNat_of_nonneg h1], by omega, by omega⟩
          · cases e'
        have m1 : b1 = none → (∃ o : Int, ∃ m : Nat, xa = .int o ∧ xm = .int m ∧ 1 ≤ m ∧ m < 19) := fun e => by
          rw [e] at eb1
          have ha := goodB_of (bnd_all eb1 (xa, 0) (by simp [bsMir]))
          have hm := goodB_of (bnd_all eb1 (xm, 1) (by simp [bsMir]))
          obtain ⟨o, rfl, _⟩ := ha
          obtain ⟨m, rfl, hm1⟩ := hm
          rcases ibm with ⟨m', e', h1, h2⟩ | e'
          · cases e'
            exact ⟨o, m.toNat, rfl, by rw [Int.toNat_of_nonneg h1], by omega, by omega⟩
          · cases e'
        have m2 : b2 = none → (∃ o : Int, ∃ m k : Nat, xa = .int o ∧ xm = .int m ∧ xs = .int k ∧ 1 ≤ k ∧ k < m ∧ m < 19) := fun e => by
          rw [e] at eb2
          have ha := goodB_of (bnd_all eb2 (xa, 0) (by simp [bsPer]))
          have hm := goodB_of (bnd_all eb2 (xm, 1) (by simp [bsPer]))
          have hs := goodB_of (bnd_all eb2 (xs, 1) (by simp [bsPer]))
          have hk := goodB_of (bnd_all eb2 (xs, if iv xs < iv xm then 1 else iv xs + 1) (by simp [bsPer]))
          obtain ⟨o, rfl, _⟩ := ha
          obtain ⟨m, rfl, hm1⟩ := hm
          obtain ⟨k, rfl, hk1⟩ := hs
          obtain ⟨k', e', hk2⟩ := hk
          cases e'
          have hkm : k < m := by
            by_cases z : k < m
            · exact z
            · have hk2' : (if k < m then 1 else k + 1) ≤ k := hk2
              rw [if_neg z] at hk2'
              omega
          rcases ibm with ⟨m', e', h1, h2⟩ | e'
          · cases e'
            exact ⟨o, m.toNat, k.toNat, rfl, by rw [Int.toNat_of_nonneg h1], by rw [Int.toNat_of_nonneg (by omega)], by omega, by omega, by omega⟩
          · cases e'
        obtain ⟨q0, eq0⟩ : ∃ q0 : Quad, q0 = (iv xa, iv xo, iv xm, 0) := ⟨_, rfl⟩
        obtain ⟨q1, eq1⟩ : ∃ q1 : Quad, q1 = (iv xa, iv xa, iv xm, 1) := ⟨_, rfl⟩
        obtain ⟨q2, eq2⟩ : ∃ q2 : Quad, q2 = (iv xa, iv xa + iv xs, iv xm - iv xs, 0) := ⟨_, rfl⟩
        have c0 : toldOf b0 (tlCopy [xa, xo, xm]) = (mOf b0 q0).map quadV := told_quad fun e => by
          obtain ⟨o, p, m, rfl, rfl, rfl, _⟩ := m0 e
          rw [eq0]
          rfl
        have c1 : toldOf b1 (tlMir [xa, xm]) = (mOf b1 q1).map quadV := told_quad fun e => by
          obtain ⟨o, m, rfl, rfl, _⟩ := m1 e
          rw [eq1]
          rfl
        have c2 : toldOf b2 (tlPer [xa, xm, xs]) = (mOf b2 q2).map quadV := told_quad fun e => by
          obtain ⟨o, m, k, rfl, rfl, rfl, _⟩ := m2 e
          rw [eq2]
          rfl
        rw [List.nil_append, c0, c1, c2, ← List.map_append, ← List.map_append] at P27
        -- copy's pairs
        obtain ⟨tm, etm⟩ : ∃ tm : List Quad, tm = mOf b0 q0 ++ mOf b1 q1 ++ mOf b2 q2 := ⟨_, rfl⟩
        rw [← etm] at P27
        have S27 : Pst Pt d l L R G [u0, u1, u2] [b0, b1, b2] rs3 tm H27 [] [] := ⟨M27, R27, P27, G27, fun z => (by cases z), .nil, apG.1, apG.2.1, apG.2.2, nGR⟩
        have e27 : H27 u0 = some (.tup (dOf b0)) := by
          cases M27.ub with
          | cons h _ => exact h
        clear M27 R27 P27 G27
        refine ⟨fun σ H' => ∃ (y : Option V) (qs : List Addr), σ = [some (.ref a), some (.ref d), some (.int (0 + (i_ : Int))), some (.ref L), some (.ref A1), some (.ref G), some xa, some xm, some xo, some xs, some (.ref R), y, y12] ∧ Pst Pt d l L R G [u0, u1, u2] [b0, b1, b2] rs3 tm H' qs (mOf b0 q0), ?_, ?_⟩
        · have qs : List Addr := []
          refine ⟨.ref L, rfl, L, _, 0, .ref u0, rfl, rfl, SqL.of S27.hM.due, atI_nat (j := 0) rfl, u0, _, 0, _, rfl, rfl, SqT.of e27, dOf_0 _, rfl, _, rfl, ?_⟩
          refine ite2 (fun h => ?_) (fun h => ?_)
          · have hb : b0 = none := wd_eq.mp (of_decide_eq_true h)
            subst hb
            obtain ⟨o, p, m, rfl, rfl, rfl, hm1, hm2⟩ := m0 rfl
            refine ⟨.ref G, rfl, .inl ⟨rfl, _, SqL.of S27.hG⟩, .int (m : Int), rfl, (m : Int), rfl, by omega, by omega, fun D nD => lc_range (lo := 0) (n := ((m : Int)).toNat) (fun i H2 => ∃ ps : List Addr, Same H27 H2 ∧ H2 D = some (.lst (ps.map V.ref)) ∧ Prs H2 ps (endL o p (m : Int) 0 i)) ⟨[], same_upd nD, upd_same, .nil⟩ ?_ ?_⟩
            · rintro i H2 hi ⟨ps, sm, eD, pr⟩
              have hpl := pr.length
              rw [endL_length] at hpl
              refine ⟨rfl, ?_⟩
              refine ⟨.int o, rfl, .int (0 + (i : Int)), rfl, o, _, rfl, rfl, .int p, rfl, .int (0 + (i : Int)), rfl, p, _, rfl, rfl, by show 2 ≤ sizeLine; decide, fun a' na' => ?_⟩
              exact ⟨_, same_upd na' _ _ eD, sz_lt (by rw [List.length_map]; omega), pl_step nD sm eD pr na' (by omega) (by unfold endQ; first | rw [if_pos rfl]; omega | rw [if_neg (by decide)]; omega)⟩
            · rintro HA ⟨ps, sm, eD, pr⟩
              have hl3 := S27.hP.length
              refine ⟨G, _, _, rfl, rfl, sm _ _ S27.hG, sz_lt (by rw [List.length_map, hl3]; decide), _, [] ++ [D], rfl, ?_⟩
              exact S27.app nD sm eD (m := q0) (by rw [eq0]; exact pr)
          · have hb : mOf b0 q0 = [] := by
              cases e : b0 with
              | none => exact absurd (decide_eq_true (wd_eq.mpr e)) h
              | some x => rfl
            refine ⟨_, [], rfl, ?_⟩
            rw [hb]
            first | rw [List.append_nil]; exact S27 | exact S27

        · rintro σ H28 ⟨y, qs, rfl, S28⟩
          have e28 : H28 u1 = some (.tup (dOf b1)) := by
            cases S28.hM.ub with
            | cons _ h => cases h with
              | cons h _ => exact h
          refine ⟨fun σ H' => ∃ (y : Option V) (qs : List Addr), σ = [some (.ref a), some (.ref d), some (.int (0 + (i_ : Int))), some (.ref L), some (.ref A1), some (.ref G), some xa, some xm, some xo, some xs, some (.ref R), y, y12] ∧ Pst Pt d l L R G [u0, u1, u2] [b0, b1, b2] rs3 tm H' qs (mOf b0 q0 ++ mOf b1 q1), ?_, ?_⟩
          · refine ⟨.ref L, rfl, L, _, 1, .ref u1, rfl, rfl, SqL.of S28.hM.due, atI_nat (j := 1) rfl, u1, _, 0, _, rfl, rfl, SqT.of e28, dOf_0 _, rfl, _, rfl, ?_⟩
            refine ite2 (fun h => ?_) (fun h => ?_)
            · have hb : b1 = none := wd_eq.mp (of_decide_eq_true h)
              subst hb
              obtain ⟨o, m, rfl, rfl, hm1, hm2⟩ := m1 rfl
              refine ⟨.ref G, rfl, .inl ⟨rfl, _, SqL.of S28.hG⟩, .int (m : Int), rfl, (m : Int), rfl, by omega, by omega, fun D nD => lc_range (lo := 0) (n := ((m : Int)).toNat) (fun i H2 => ∃ ps : List Addr, Same H28 H2 ∧ H2 D = some (.lst (ps.map V.ref)) ∧ Prs H2 ps (endL o o (m : Int) 1 i)) ⟨[], same_upd nD, upd_same, .nil⟩ ?_ ?_⟩
              · rintro i H2 hi ⟨ps, sm, eD, pr⟩
                have hpl := pr.length
                rw [endL_length] at hpl
                refine ⟨rfl, ?_⟩
                refine ⟨.int o, rfl, .int (0 + (i : Int)), rfl, o, _, rfl, rfl, .int o, rfl, .int (m : Int), rfl, o, _, rfl, rfl, 1, rfl, .inl ⟨_, rfl, .int (0 + (i : Int)), rfl, _, rfl, .inl ⟨_, rfl, by show 2 ≤ sizeLine; decide, fun a' na' => ?_⟩⟩⟩
                exact ⟨_, same_upd na' _ _ eD, sz_lt (by rw [List.length_map]; omega), pl_step nD sm eD pr na' (by omega) (by unfold endQ; first | rw [if_pos rfl]; omega | rw [if_neg (by decide)]; omega)⟩
              · rintro HA ⟨ps, sm, eD, pr⟩
                have hl3 := S28.hP.length
                refine ⟨G, _, _, rfl, rfl, sm _ _ S28.hG, sz_lt (by rw [List.length_map, hl3]; have := mOf_len b0 q0; omega), _, qs ++ [D], rfl, ?_⟩
                exact S28.app nD sm eD (m := q1) (by rw [eq1]; exact pr)
            · have hb : mOf b1 q1 = [] := by
                cases e : b1 with
                | none => exact absurd (decide_eq_true (wd_eq.mpr e)) h
                | some x => rfl
              refine ⟨_, qs, rfl, ?_⟩
              rw [hb]
              first | rw [List.append_nil]; exact S28 | exact S28
          · rintro σ H29 ⟨y', qs', rfl, S29⟩
            clear S28 e28 qs
            have e29 : H29 u2 = some (.tup (dOf b2)) := by
              cases S29.hM.ub with
              | cons _ h => cases h with
                | cons _ h => cases h with
                  | cons h _ => exact h
            refine ⟨fun σ H' => ∃ (y : Option V) (qs : List Addr), σ = [some (.ref a), some (.ref d), some (.int (0 + (i_ : Int))), some (.ref L), some (.ref A1), some (.ref G), some xa, some xm, some xo, some xs, some (.ref R), y, y12] ∧ Pst Pt d l L R G [u0, u1, u2] [b0, b1, b2] rs3 tm H' qs (mOf b0 q0 ++ mOf b1 q1 ++ mOf b2 q2), ?_, ?_⟩
            · obtain ⟨qs, eqs⟩ : ∃ qs : List Addr, qs = qs' := ⟨_, rfl⟩
              subst eqs
              refine ⟨.ref L, rfl, L, _, 2, .ref u2, rfl, rfl, SqL.of S29.hM.due, atI_nat (j := 2) rfl, u2, _, 0, _, rfl, rfl, SqT.of e29, dOf_0 _, rfl, _, rfl, ?_⟩
              refine ite2 (fun h => ?_) (fun h => ?_)
              · have hb : b2 = none := wd_eq.mp (of_decide_eq_true h)
                subst hb
                obtain ⟨o, m, k, rfl, rfl, rfl, hm1, hm2, hm3⟩ := m2 rfl
                refine ⟨.ref G, rfl, .inl ⟨rfl, _, SqL.of S29.hG⟩, .int (m : Int), rfl, .int (k : Int), rfl, _, rfl, .inl ⟨_, rfl, _, rfl, by omega, by omega, fun D nD => lc_range (lo := 0) (n := ((m : Int) - (k : Int)).toNat) (fun i H2 => ∃ ps : List Addr, Same H29 H2 ∧ H2 D = some (.lst (ps.map V.ref)) ∧ Prs H2 ps (endL o (o + (k : Int)) ((m : Int) - (k : Int)) 0 i)) ⟨[], same_upd nD, upd_same, .nil⟩ ?_ ?_⟩⟩
                · rintro i H2 hi ⟨ps, sm, eD, pr⟩
                  have hpl := pr.length
                  rw [endL_length] at hpl
                  refine ⟨rfl, ?_⟩
                  refine ⟨.int o, rfl, .int (0 + (i : Int)), rfl, o, _, rfl, rfl, .int o, rfl, .int (0 + (i : Int)), rfl, o, _, rfl, rfl, .int (k : Int), rfl, _, _, rfl, rfl, by show 2 ≤ sizeLine; decide, fun a' na' => ?_⟩
                  exact ⟨_, same_upd na' _ _ eD, sz_lt (by rw [List.length_map]; omega), pl_step nD sm eD pr na' (by omega) (by unfold endQ; first | rw [if_pos rfl]; omega | rw [if_neg (by decide)]; omega)⟩
                · rintro HA ⟨ps, sm, eD, pr⟩
                  have hl3 := S29.hP.length
                  refine ⟨G, _, _, rfl, rfl, sm _ _ S29.hG, sz_lt (by rw [List.length_map, hl3, List.length_append]; have := mOf_len b0 q0; have := mOf_len b1 q1; omega), _, qs ++ [D], rfl, ?_⟩
                  exact S29.app nD sm eD (m := q2) (by rw [eq2]; exact pr)
              · have hb : mOf b2 q2 = [] := by
                  cases e : b2 with
                  | none => exact absurd (decide_eq_true (wd_eq.mpr e)) h
                  | some x => rfl
                refine ⟨_, qs, rfl, ?_⟩
                rw [hb]
                first | rw [List.append_nil]; exact S29 | exact S29
            · rintro σ H30 ⟨y'', qs, rfl, S30⟩
              rw [← etm] at S30
              have hbd : ∀ m ∈ tm, 0 ≤ m.2.2.1 ∧ m.2.2.1 ≤ 1000 := fun m' hm' => by
                rw [etm] at hm'
                rcases List.mem_append.mp hm' with h | h
                · rcases List.mem_append.mp h with h | h
                  · obtain ⟨e, rfl⟩ := mOf_mem h
                    obtain ⟨o, p, m, rfl, rfl, rfl, _, _⟩ := m0 e
                    rw [eq0]
                    exact ⟨by show (0 : Int) ≤ (m : Int); omega, by show (m : Int) ≤ 1000; omega⟩
                  · obtain ⟨e, rfl⟩ := mOf_mem h
                    obtain ⟨o, m, rfl, rfl, _, _⟩ := m1 e
                    rw [eq1]
                    exact ⟨by show (0 : Int) ≤ (m : Int); omega, by show (m : Int) ≤ 1000; omega⟩
                · obtain ⟨e, rfl⟩ := mOf_mem h
                  obtain ⟨o, m, k, rfl, rfl, rfl, _, _, _⟩ := m2 e
                  rw [eq2]
                  exact ⟨by show (0 : Int) ≤ (m : Int) - (k : Int); omega, by show (m : Int) - (k : Int) ≤ 1000; omega⟩
              have htl : tm.length ≤ 3 := by
                rw [etm, List.length_append, List.length_append]
                have := mOf_len b0 q0
                have := mOf_len b1 q1
                have := mOf_len b2 q2
                omega
              have hrl : rs3.length = tm.length := by rw [S30.hT.length, List.length_map]
              -- all are tuples
              refine ⟨.ref R, rfl, R, rfl, ⟨_, SqL.of S30.hR⟩, fun D nD => lc_list (K := K) (a := R) (xs := rs3.map V.ref) (fun i H2 => ∃ bs : List Bool, Same H30 H2 ∧ H2 D = some (.lst (bs.map V.bl)) ∧ bs.length = i ∧ bs.all id = true)
                ⟨[], same_upd nD, upd_same, rfl, rfl⟩ (fun i H2 _ ⟨_, sm, _⟩ => SqL.of (sm _ _ S30.hR)) ?_ ?_⟩
              · rintro i x H2 hx ⟨bs, sm, eD, rfl, hal⟩
                obtain ⟨r, hr1, rfl⟩ : ∃ r, rs3[bs.length]? = some r ∧ V.ref r = x := by
                  rw [List.getElem?_map] at hx
                  cases e : rs3[bs.length]? with
                  | none =>
                    rw [e] at hx
                    cases hx
                  | some r =>
                    rw [e] at hx
                    exact ⟨r, rfl, Option.some.inj hx⟩
                have hil : bs.length < rs3.length := (List.getElem?_eq_some_iff.mp hr1).1
                obtain ⟨c', hc1, hc2⟩ := S30.hT.get _ _ hr1
                refine ⟨rfl, ?_⟩
                refine ⟨.ref r, rfl, _, _, _, _, true, rfl, ClsV.ty _, TyX.base (TyOf.tup (sm _ _ hc2)), kit_ty (by decide +kernel), ?_⟩
                refine ⟨bs.map V.bl, eD, sz_lt (by rw [List.length_map]; omega), bs ++ [true], fun b o e => ?_, ?_, by rw [List.length_append]; rfl, by rw [List.all_append, hal]; rfl⟩
                · rw [upd_ne (ne_of_none e nD)]
                  exact sm _ _ e
                · rw [upd_same, List.map_append]
                  rfl
              · rintro H31 ⟨bs, s31, eD, _, hal⟩
                refine ⟨D, bs, rfl, SqL.of eD, ?_⟩
                rw [hal]
                refine ⟨true, rfl, ?_⟩
                have G31 := s31 _ _ S30.hG
                have R31 := s31 _ _ S30.hR
                have T31 := S30.hT.same s31
                have P31 := S30.hP.same s31
                have M31 := S30.hM.same s31
                -- their pairs
                refine ⟨.ref R, rfl, R, rfl, ⟨_, SqL.of R31⟩, fun D2 nD2 => lc_list (K := K) (a := R) (xs := rs3.map V.ref) (fun i H2 => ∃ es : List Addr, Same H31 H2 ∧ H2 D2 = some (.lst (es.map V.ref)) ∧ D2 ∉ es ∧ PlP H2 es (tm.take i))
                  ⟨[], same_upd nD2, upd_same, fun z => (by cases z), .nil⟩ (fun i H2 _ ⟨_, sm, _⟩ => SqL.of (sm _ _ R31)) ?_ ?_⟩
                · rintro i x H2 hx ⟨es, sm, eE, nE, pE⟩
                  obtain ⟨r, hr1, rfl⟩ : ∃ r, rs3[i]? = some r ∧ V.ref r = x := by
                    rw [List.getElem?_map] at hx
                    cases e : rs3[i]? with
                    | none =>
                      rw [e] at hx
                      cases hx
                    | some r =>
                      rw [e] at hx
                      exact ⟨r, rfl, Option.some.inj hx⟩
                  have hil : i < rs3.length := (List.getElem?_eq_some_iff.mp hr1).1
                  obtain ⟨c', hc1, hc2⟩ := T31.get _ _ hr1
                  obtain ⟨qm, hq1, rfl⟩ : ∃ qm, tm[i]? = some qm ∧ quadV qm = c' := by
                    rw [List.getElem?_map] at hc1
                    cases e : tm[i]? with
                    | none =>
                      rw [e] at hc1
                      cases hc1
                    | some qm =>
                      rw [e] at hc1
                      exact ⟨qm, rfl, Option.some.inj hc1⟩
                  obtain ⟨hb1, hb2⟩ := hbd qm (List.mem_of_getElem? hq1)
                  obtain ⟨mo, mp, mm, mf⟩ := qm
                  obtain ⟨mn, rfl⟩ : ∃ mn : Nat, mm = (mn : Int) := ⟨mm.toNat, (Int.toNat_of_nonneg hb1).symm⟩
                  refine ⟨rfl, ?_⟩
                  refine ⟨.ref r, rfl, r, mo, mp, mf, mn, rfl, sm _ _ hc2, by have : (mn : Int) ≤ 1000 := hb2; omega, fun H5 e5 ps5 s5 n5 h5 pr5 => ?_⟩
                  have hle := pE.length
                  rw [List.length_take] at hle
                  have hE5 := s5 _ _ eE
                  have ne5 : e5 ≠ D2 := (ne_of_none eE n5).symm
                  have kE : Keep D2 H5 (upd H5 D2 (.lst (es.map V.ref ++ [.ref e5]))) := Keep.upd
                  refine ⟨es.map V.ref, hE5, sz_lt (by rw [List.length_map]; omega), es ++ [e5], fun b o e => ?_, ?_, fun z => ?_, ?_⟩
                  · rw [upd_ne (ne_of_none e nD2)]
                    exact s5 _ _ (sm _ _ e)
                  · rw [upd_same, List.map_append]
                    rfl
                  · rcases List.mem_append.mp z with z | z
                    · exact nE z
                    · exact ne5 (List.mem_singleton.mp z).symm
                  · rw [List.take_add_one, hq1]
                    exact PlP.snoc ((pE.same s5).keepR nE hE5 kE) ⟨ps5, kE.of h5 ne5, Prs.keepR pr5 hE5 kE⟩
                · rintro H32 ⟨es, s32, eE, nE, pE⟩
                  rw [List.length_map, hrl, List.take_length] at pE
                  have hle := pE.length
                  have hlg := P31.length
                  refine ⟨.ref G, rfl, .ref D2, .ref G, .list (tm.map fun m => .list ((quadE m).map pd)), rfl, .lst eE (by rw [List.length_map]; omega) (pE.rp fun m h => (hbd m h).2), .lst (s32 _ _ G31) (by rw [List.length_map]; omega) ((P31.same s32).rp fun m h => (hbd m h).2), fun H33 s33 => ⟨true, rfl, iteF ?_⟩⟩
                  have M33 := (M31.same s32).same s33
                  exact ⟨_, _, _, _, _, _, _, _, _, _, _, rfl, M33.dr, M33.tb⟩
    · rintro σ H4 ⟨y2, y3, y4, y5, y6, y7, y8, y9, y10, y11, y12, rfl, D4, _⟩
      exact q H4
end

/-! ### the head by a run: what the top leaves, told by names -/
theorem len1 {α : Type} {M : List α → Prop} (h : ∀ a, M [a]) : ∀ us : List α, us.length = 1 → M us
  | [a], _ => h a
theorem len2 {α : Type} {M : List α → Prop} (h : ∀ a b, M [a, b]) : ∀ us : List α, us.length = 2 → M us
  | [a, b], _ => h a b
theorem len3 {α : Type} {M : List α → Prop} (h : ∀ a b c, M [a, b, c]) : ∀ us : List α, us.length = 3 → M us
  | [a, b, c], _ => h a b c
theorem len4 {α : Type} {M : List α → Prop} (h : ∀ a b c d, M [a, b, c, d]) : ∀ us : List α, us.length = 4 → M us
  | [a, b, c, d], _ => h a b c d
def dD (x : Str) (st : Stmt) : He.DefD := { at_ := (x, none), name := x, qual := x, params := defArgs st, body := defBody st, scope := defScope st }
def dM (C m q : Str) (st : Stmt) : He.DefD := { at_ := (C, some m), name := m, qual := q, params := defArgs st, body := defBody st, scope := defScope st }
def dMs (C m q : Str) (st : Stmt) : He.DefD := { at_ := (C, some m), name := m, qual := q, params := defArgs st, body := defBody st, scope := defScope st, dfl := [.str ""] }
section
variable {K : PySem.W.Frag} {fas : List He.Fa} {fns : List He.DefD}
theorem raw_of {x q : Str} {ar : Arguments} {bd : List Stmt} {sc : Scope} {f : Addr} {fd : FuncData} (F : FunD K x q ar bd sc [] [] f fd) :
    ∃ oc od osl kV doc pm an cd ct, K.lookup f = some ⟨oc, od, .func (PySem.W.fnOf x q ar bd sc .none kV doc pm an cd ct), osl⟩ ∧ PySem.W.codeIn K cd q = true ∧ PySem.W.keepIn K (.ref f) = true := by
  obtain ⟨⟨oc, od, dV, kV, doc, pm, an, cd, ct, osl, rfl, hlk, hco, hdf, _⟩, hkp⟩ := F
  rcases hdf with ⟨_, hz⟩ | ⟨hne, _⟩
  · subst hz
    exact ⟨oc, od, osl, kV, doc, pm, an, cd, ct, hlk, hco, hkp⟩
  · exact absurd rfl hne
theorem say_def (c : He.SaysD fas fns K) (i : Nat) {x : Str} {st : Stmt} (e : fns[i]? = some (dD x st)) :
    ∃ oc od osl kV doc pm an cd ct, K.lookup (He.ga K x) = some ⟨oc, od, .func (PySem.W.fnOf x x (defArgs st) (defBody st) (defScope st) .none kV doc pm an cd ct), osl⟩ ∧ PySem.W.codeIn K cd x = true ∧ PySem.W.keepIn K (.ref (He.ga K x)) = true := by
  obtain ⟨fd, F⟩ := c.def_ i e
  exact raw_of F
theorem say_meth (c : He.SaysD fas fns K) (i : Nat) {C m q : Str} {st : Stmt} (e : fns[i]? = some (dM C m q st)) :
    ∃ oc od osl kV doc pm an cd ct, K.lookup (He.ma K (He.ga K C) m) = some ⟨oc, od, .func (PySem.W.fnOf m q (defArgs st) (defBody st) (defScope st) .none kV doc pm an cd ct), osl⟩ ∧ PySem.W.codeIn K cd q = true ∧ PySem.W.keepIn K (.ref (He.ma K (He.ga K C) m)) = true := by
  obtain ⟨fd, F⟩ := c.def_ i e
  exact raw_of F
theorem say_far (c : He.SaysD fas fns K) (i : Nat) {C m q : Str} {st : Stmt} (e : fns[i]? = some (dMs C m q st)) :
    ∃ fd, FunD K m q (defArgs st) (defBody st) (defScope st) [.str ""] [] (He.ma K (He.ga K C) m) fd := by
  obtain ⟨fd, F⟩ := c.def_ i e
  exact ⟨fd, F⟩
theorem say_law (c : He.SaysD fas fns K) (i : Nat) {x : Str} {st : Stmt} (e : fns[i]? = some (dD x st)) :
    ∃ oc od osl kV doc pm an ct, K.lookup (He.ga K x) = some ⟨oc, od, .func (PySem.W.fnOf x x (defArgs st) (defBody st) (defScope st) .none kV doc pm an (.ref (He.cT K (x, none)).1) ct), osl⟩ ∧ PySem.W.codeIn K (.ref (He.cT K (x, none)).1) x = true ∧ PySem.W.keepIn K (.ref (He.ga K x)) = true := by
  obtain ⟨oc, od, osl, kV, doc, pm, an, cd, ct, h1, h2, h3⟩ := say_def c i e
  obtain ⟨z, rfl⟩ := He.codeIn_ref h2
  have hz : He.codeOf K (x, none) = z := He.codeOf_eq (p := (x, none)) h1 rfl
  have hz2 : (He.cT K (x, none)).1 = z := hz
  rw [hz2]
  exact ⟨oc, od, osl, kV, doc, pm, an, ct, h1, h2, h3⟩
theorem say_int (c : He.SaysD fas fns K) (j : Nat) {x : Str} {i : Int} (e : fas[j]? = some (.int x i)) : ∃ t, PySem.W.nsIn K mainGlobals x = some (some (.int i t)) := by
  have q : (match PySem.W.nsIn K mainGlobals x with | some (some (.int u _)) => decide (u = i) | _ => false) = true := c.fact j e
  split at q
  · rename_i k t hk
    have hki := of_decide_eq_true q
    subst hki
    exact ⟨t, hk⟩
  · cases q
theorem say_str (c : He.SaysD fas fns K) (j : Nat) {x z : Str} (e : fas[j]? = some (.str x z)) : ∃ t, PySem.W.nsIn K mainGlobals x = some (some (.str z t)) := by
  have q : (match PySem.W.nsIn K mainGlobals x with | some (some (.str u _)) => decide (u = z) | _ => false) = true := c.fact j e
  split at q
  · rename_i k t hk
    have hki := of_decide_eq_true q
    subst hki
    exact ⟨t, hk⟩
  · cases q
theorem all_at {l : List Bool} (h : l.all (fun b => b) = true) (i : Nat) {b : Bool} (e : l[i]? = some b) : b = true := List.all_eq_true.mp h b (List.mem_of_getElem? e)
/-- what is looked at of an own error's class -/
def errB (K : PySem.W.Frag) (C : Addr) : Bool := (match K.lookup C with
    | some ⟨.type t, _, .cls cd, sl⟩ => decide (t = "type") && (cd.hasDict && (!cd.hasDel && (match cd.mro, sl.toList with
      | .ref D :: bm, [_, _, _, _, some (.builtin n), _] => decide (D = C) && (decide (n = "ValueError.__new__") && PySem.HandSPX.refsVE bm)
      | _, _ => false)))
    | _ => false) && (He.eqO (PySem.W.findIn K (.ref C) "__setattr__") (some (some (.builtin "object.__setattr__"))) && (decide (PySem.W.subIn K (.ref C) (.type "BaseException") = some true) &&
  (decide (PySem.W.typeIn K (.ref C) = some (.type "type")) && (PySem.W.keepIn K (.ref C) && He.eqO (PySem.W.findIn K (.ref C) "word") (some none)))))
theorem errB_ok {C : Addr} (h : errB K C = true) : ErrT K C := by
  obtain ⟨h0, h⟩ := He.ba h
  obtain ⟨h1, h⟩ := He.ba h
  obtain ⟨h2, h⟩ := He.ba h
  obtain ⟨h3, h⟩ := He.ba h
  obtain ⟨h4, h5⟩ := He.ba h
  refine ⟨⟨?_, He.eqO_ok h1, of_decide_eq_true h2, of_decide_eq_true h3, h4⟩, He.eqO_ok h5⟩
  split at h0
  · rename_i t dd cd sl hC
    obtain ⟨g1, g⟩ := He.ba h0
    obtain ⟨g2, g⟩ := He.ba g
    obtain ⟨g3, g⟩ := He.ba g
    have e1 : t = "type" := of_decide_eq_true g1
    subst e1
    split at g
    · rename_i D bm y0 y1 y2 y3 n y5 hm hs
      obtain ⟨e2, g⟩ := He.ba g
      obtain ⟨e3, e4⟩ := He.ba g
      have e2' := of_decide_eq_true e2
      have e3' := of_decide_eq_true e3
      subst e2' e3'
      obtain ⟨nm, bs, mro, ns, qn, hd, sn, sub, ab, col, del⟩ := cd
      obtain ⟨sll⟩ := sl
      have e5 : mro = .ref D :: bm := hm
      have e6 : hd = true := g2
      have e7 : del = false := by
        cases del with
        | false => rfl
        | true => cases g3
      have e8 : sll = [y0, y1, y2, y3, some (.builtin "ValueError.__new__"), y5] := hs
      subst e5 e6 e7 e8
      exact ⟨nm, qn, ns, bs, bm, sn, sub, ab, col, dd, y0, y1, y2, y3, y5, hC, e4⟩
    · cases g
  · cases h0
def excB (K : PySem.W.Frag) (C : Addr) : Bool := xfB K C && (He.eqO (PySem.W.findIn K (.ref C) "__class__") (some (some (.builtin "object.__class__"))) && (He.eqO (PySem.W.specialIn K (.builtin "object.__class__") "__get__") (some (some (.builtin "getset_descriptor.__get__"))) &&
  (decide (PySem.W.takesIn K (.builtin "object.__class__") = some true) && decide (PySem.W.mroIn K C (.type "object") = some true))))
theorem excB_ok {C : Addr} (h : excB K C = true) : ExcC K C := by
  obtain ⟨h0, h⟩ := He.ba h
  obtain ⟨h1, h⟩ := He.ba h
  obtain ⟨h2, h⟩ := He.ba h
  obtain ⟨h3, h4⟩ := He.ba h
  have x := xfB_ok h0
  exact ⟨x.ga, x.gg, x.exC, x.hdC, He.eqO_ok h1, He.eqO_ok h2, of_decide_eq_true h3, of_decide_eq_true h4⟩
def cfnB (K : PySem.W.Frag) (C : Addr) (m : Str) (f : Addr) : Bool := He.eqO (PySem.W.specialIn K (.ref C) "__getattribute__") (some (some (.builtin "type.__getattribute__"))) && (PySem.W.readsIn K C (.type "type") && ((match PySem.W.findCls K (.ref C) (.type "type") m with
    | some (.val (.ref g)) => decide (g = f)
    | _ => false) && PySem.W.keepIn K (.ref f)))
theorem cfnB_ok {C f : Addr} {m : Str} (h : cfnB K C m f = true) : ClsFn K C m f := by
  obtain ⟨h0, h⟩ := He.ba h
  obtain ⟨h1, h⟩ := He.ba h
  obtain ⟨h2, h3⟩ := He.ba h
  refine ⟨He.eqO_ok h0, h1, ?_, h3⟩
  split at h2
  · rename_i g hg
    have e := of_decide_eq_true h2
    subst e
    exact hg
  · cases h2
def bltB (K : PySem.W.Frag) (T m b : String) : Bool := match PySem.W.findCls K (.type T) (.type "type") m with
  | some (.val (.builtin g)) => decide (g = b)
  | _ => false
theorem bltB_ok {T m b : String} (h : bltB K T m b = true) : PySem.W.findCls K (.type T) (.type "type") m = some (.val (.builtin b)) := by
  unfold bltB at h
  split at h
  · rename_i g hg
    have e := of_decide_eq_true h
    subst e
    exact hg
  · cases h
theorem far_binds {f : Addr} {fd : FuncData} (F : FunD K "__init__" "FarError.__init__" (defArgs s_farinit) (defBody s_farinit) (defScope s_farinit) [.str ""] [] f fd) : Binds K fd N_farinit [] := by
  obtain ⟨ds, v, b⟩ := F.binds1 (ps := N_farinit) 2 1 (by simp) rfl fun T kV doc pm an cdv ct us its hu hi => match us, hu, its, hi with | [_, _], _, [_], _ => ⟨_, rfl, rfl⟩
  cases v
  exact b
end
/-! ### the hook: what the names reach, and the statics -/
def lawAt : He.Defn := ("law", none)
def seenY (g : Addr → Option Obj) : PySem.W.Frag := He.frT g (cStatics :: He.asD g 5)
def tabY (g : Addr → Option Obj) (K : PySem.W.Frag) : Bool := PySem.W.codeHdIn K (He.cT K lawAt).1 (He.cT K lawAt).2 && (g (He.cT K lawAt).2).any He.emptyTab
structure SaysY (fas : List He.Fa) (fns : List He.DefD) (ex : PySem.W.Frag → List Bool) (h : Heap) (K : PySem.W.Frag) : Prop where
  d : He.SaysD fas fns K
  more : (ex K).all (fun b => b) = true
  hd : PySem.W.codeHdIn K (He.cT K lawAt).1 (He.cT K lawAt).2 = true
  out : K.lookup (He.cT K lawAt).2 = none
  mt : h.get? (He.cT K lawAt).2 = some (PySem.W.tabObj #[])
abbrev AlY : Type := He.AlD × Bool
def obsY (fas : List He.Fa) (fns : List He.DefD) (ex : PySem.W.Frag → List Bool) (g : Addr → Option Obj) : AlY := (He.obsD fas fns (seenY g), (ex (seenY g)).all (fun b => b) && tabY g (seenY g))
theorem saysY_of {fas : List He.Fa} {fns : List He.DefD} {ex : PySem.W.Frag → List Bool} {h : Heap} (e : obsY fas fns ex h.get? = (He.valD fns, true)) : SaysY fas fns ex h (seenY h.get?) := by
  have e1 : He.obsD fas fns (seenY h.get?) = He.valD fns := congrArg (fun z : AlY => z.1) e
  have e2 : ((ex (seenY h.get?)).all (fun b => b) && tabY h.get? (seenY h.get?)) = true := congrArg (fun z : AlY => z.2) e
  obtain ⟨m1, m2⟩ := He.ba e2
  obtain ⟨m3, m4⟩ := He.ba m2
  have m5 : ∃ u, h.get? (He.cT (seenY h.get?) lawAt).2 = some u ∧ He.emptyTab u = true := by
    cases q : h.get? (He.cT (seenY h.get?) lawAt).2 with
    | none =>
      rw [q] at m4
      cases m4
    | some u =>
      rw [q] at m4
      exact ⟨u, rfl, m4⟩
  obtain ⟨u, hu, hv⟩ := m5
  exact ⟨e1, m1, m3, He.frT_none hu hv, hu.trans (congrArg some (He.emptyTab_eq hv))⟩
def hookY (fas : List He.Fa) (fns : List He.DefD) (ex : PySem.W.Frag → List Bool) : PySem.W.Hook where
  α := AlY
  obs := fun s => obsY fas fns ex s.heap.get?
  val := fun _ => (He.valD fns, true)
  says := fun _ h => ∃ K : PySem.W.Frag, K.In h ∧ SaysY fas fns ex h K
  of := fun _ _ e => ⟨_, He.frT_in, saysY_of e⟩
  keeps := fun _ _ _ ⟨K, a, b⟩ k => ⟨K, PySem.W.Frag.In.keeps a k, b.d, b.more, b.hd, b.out, k _ _ b.mt⟩
theorem obsY_eq {fas : List He.Fa} {fns : List He.DefD} {ex : PySem.W.Frag → List Bool} (s : PySem.W.SharedT) : obsY fas fns ex (HandSHeadRun.getT s) = (hookY fas fns ex).obs s.abs := by
  have e : HandSHeadRun.getT s = s.abs.heap.get? := funext (HandSHeadRun.getT_eq s)
  rw [e]
  rfl
theorem all_mk {l : PySem.W.OpenLaw} {w : World} {K : PySem.W.Frag} {h : Heap} {mg : Str → Option Value} {fa : Addr}
    {f0 : Addr} {od0 an0 : Option Addr} {sl0 : Array (Option Value)} {oc0 kV0 dc0 pm0 ct0 cd0 : Value}
    {f1 : Addr} {od1 an1 : Option Addr} {sl1 : Array (Option Value)} {oc1 kV1 dc1 pm1 ct1 cd1 : Value}
    {f2 : Addr} {od2 an2 : Option Addr} {sl2 : Array (Option Value)} {oc2 kV2 dc2 pm2 ct2 cd2 : Value}
    {f3 : Addr} {od3 an3 : Option Addr} {sl3 : Array (Option Value)} {oc3 kV3 dc3 pm3 ct3 cd3 : Value}
    {f4 : Addr} {od4 an4 : Option Addr} {sl4 : Array (Option Value)} {oc4 kV4 dc4 pm4 ct4 cd4 : Value}
    {f5 : Addr} {od5 an5 : Option Addr} {sl5 : Array (Option Value)} {oc5 kV5 dc5 pm5 ct5 cd5 : Value}
    {f6 : Addr} {od6 an6 : Option Addr} {sl6 : Array (Option Value)} {oc6 kV6 dc6 pm6 ct6 cd6 : Value}
    {f7 : Addr} {od7 an7 : Option Addr} {sl7 : Array (Option Value)} {oc7 kV7 dc7 pm7 ct7 cd7 : Value}
    {f8 : Addr} {od8 an8 : Option Addr} {sl8 : Array (Option Value)} {oc8 kV8 dc8 pm8 ct8 cd8 : Value}
    {f9 : Addr} {od9 an9 : Option Addr} {sl9 : Array (Option Value)} {oc9 kV9 dc9 pm9 ct9 cd9 : Value}
    {f10 : Addr} {od10 an10 : Option Addr} {sl10 : Array (Option Value)} {oc10 kV10 dc10 pm10 ct10 cd10 : Value}
    {f11 : Addr} {od11 an11 : Option Addr} {sl11 : Array (Option Value)} {oc11 kV11 dc11 pm11 ct11 cd11 : Value}
    {f12 : Addr} {od12 an12 : Option Addr} {sl12 : Array (Option Value)} {oc12 kV12 dc12 pm12 ct12 cd12 : Value}
    {f13 c Pt : Addr} {od13 an13 : Option Addr} {sl13 : Array (Option Value)} {oc13 kV13 dc13 pm13 ct13 : Value}
    {C_FarError f_FarError : Addr} {fdF : FuncData}
    {C_BadNumber f_BadNumber : Addr} {od_BadNumber an_BadNumber : Option Addr} {sl_BadNumber : Array (Option Value)} {oc_BadNumber kV_BadNumber dc_BadNumber pm_BadNumber cd_BadNumber ct_BadNumber : Value}
    {C_NoMating C_NoFamily C_TooMuch : Addr}
    (X : K.In h) (G : h.Ns mainGlobals mg) (hfa : mg "law" = some (.ref fa)) (hT : h.get? Pt = some (PySem.W.tabObj #[]))
    (a0 : PySem.W.nsIn K mainGlobals "_law_open" = some (some (.ref f0))) (l0 : K.lookup f0 = some ⟨oc0, od0, .func (PySem.W.fnOf "_law_open" "_law_open" (defArgs s_open) (defBody s_open) (defScope s_open) .none kV0 dc0 pm0 an0 cd0 ct0), sl0⟩) (c0 : PySem.W.codeIn K cd0 "_law_open" = true) (k0 : PySem.W.keepIn K (.ref f0) = true)
    (a1 : PySem.W.nsIn K mainGlobals "_law_pull" = some (some (.ref f1))) (l1 : K.lookup f1 = some ⟨oc1, od1, .func (PySem.W.fnOf "_law_pull" "_law_pull" (defArgs s_pull) (defBody s_pull) (defScope s_pull) .none kV1 dc1 pm1 an1 cd1 ct1), sl1⟩) (c1 : PySem.W.codeIn K cd1 "_law_pull" = true) (k1 : PySem.W.keepIn K (.ref f1) = true)
    (a2 : PySem.W.nsIn K mainGlobals "_law_like" = some (some (.ref f2))) (l2 : K.lookup f2 = some ⟨oc2, od2, .func (PySem.W.fnOf "_law_like" "_law_like" (defArgs s_like) (defBody s_like) (defScope s_like) .none kV2 dc2 pm2 an2 cd2 ct2), sl2⟩) (c2 : PySem.W.codeIn K cd2 "_law_like" = true) (k2 : PySem.W.keepIn K (.ref f2) = true)
    (a3 : PySem.W.nsIn K mainGlobals "_law_any" = some (some (.ref f3))) (l3 : K.lookup f3 = some ⟨oc3, od3, .func (PySem.W.fnOf "_law_any" "_law_any" (defArgs s_any) (defBody s_any) (defScope s_any) .none kV3 dc3 pm3 an3 cd3 ct3), sl3⟩) (c3 : PySem.W.codeIn K cd3 "_law_any" = true) (k3 : PySem.W.keepIn K (.ref f3) = true)
    (a4 : PySem.W.nsIn K mainGlobals "need_from" = some (some (.ref f4))) (l4 : K.lookup f4 = some ⟨oc4, od4, .func (PySem.W.fnOf "need_from" "need_from" (defArgs s_need_from) (defBody s_need_from) (defScope s_need_from) .none kV4 dc4 pm4 an4 cd4 ct4), sl4⟩) (c4 : PySem.W.codeIn K cd4 "need_from" = true) (k4 : PySem.W.keepIn K (.ref f4) = true)
    (a5 : PySem.W.nsIn K mainGlobals "need_within" = some (some (.ref f5))) (l5 : K.lookup f5 = some ⟨oc5, od5, .func (PySem.W.fnOf "need_within" "need_within" (defArgs s_need_within) (defBody s_need_within) (defScope s_need_within) .none kV5 dc5 pm5 an5 cd5 ct5), sl5⟩) (c5 : PySem.W.codeIn K cd5 "need_within" = true) (k5 : PySem.W.keepIn K (.ref f5) = true)
    (a6 : PySem.W.nsIn K mainGlobals "copy_of" = some (some (.ref f6))) (l6 : K.lookup f6 = some ⟨oc6, od6, .func (PySem.W.fnOf "copy_of" "copy_of" (defArgs s_copy_of) (defBody s_copy_of) (defScope s_copy_of) .none kV6 dc6 pm6 an6 cd6 ct6), sl6⟩) (c6 : PySem.W.codeIn K cd6 "copy_of" = true) (k6 : PySem.W.keepIn K (.ref f6) = true)
    (a7 : PySem.W.nsIn K mainGlobals "mirror" = some (some (.ref f7))) (l7 : K.lookup f7 = some ⟨oc7, od7, .func (PySem.W.fnOf "mirror" "mirror" (defArgs s_mirror) (defBody s_mirror) (defScope s_mirror) .none kV7 dc7 pm7 an7 cd7 ct7), sl7⟩) (c7 : PySem.W.codeIn K cd7 "mirror" = true) (k7 : PySem.W.keepIn K (.ref f7) = true)
    (a8 : PySem.W.nsIn K mainGlobals "period" = some (some (.ref f8))) (l8 : K.lookup f8 = some ⟨oc8, od8, .func (PySem.W.fnOf "period" "period" (defArgs s_period) (defBody s_period) (defScope s_period) .none kV8 dc8 pm8 an8 cd8 ct8), sl8⟩) (c8 : PySem.W.codeIn K cd8 "period" = true) (k8 : PySem.W.keepIn K (.ref f8) = true)
    (a9 : PySem.W.nsIn K mainGlobals "_law_bounded" = some (some (.ref f9))) (l9 : K.lookup f9 = some ⟨oc9, od9, .func (PySem.W.fnOf "_law_bounded" "_law_bounded" (defArgs s_bounded) (defBody s_bounded) (defScope s_bounded) .none kV9 dc9 pm9 an9 cd9 ct9), sl9⟩) (c9 : PySem.W.codeIn K cd9 "_law_bounded" = true) (k9 : PySem.W.keepIn K (.ref f9) = true)
    (a10 : PySem.W.nsIn K mainGlobals "_law_ends" = some (some (.ref f10))) (l10 : K.lookup f10 = some ⟨oc10, od10, .func (PySem.W.fnOf "_law_ends" "_law_ends" (defArgs s_ends) (defBody s_ends) (defScope s_ends) .none kV10 dc10 pm10 an10 cd10 ct10), sl10⟩) (c10 : PySem.W.codeIn K cd10 "_law_ends" = true) (k10 : PySem.W.keepIn K (.ref f10) = true)
    (a11 : PySem.W.nsIn K mainGlobals "_law_why" = some (some (.ref f11))) (l11 : K.lookup f11 = some ⟨oc11, od11, .func (PySem.W.fnOf "_law_why" "_law_why" (defArgs s_why) (defBody s_why) (defScope s_why) .none kV11 dc11 pm11 an11 cd11 ct11), sl11⟩) (c11 : PySem.W.codeIn K cd11 "_law_why" = true) (k11 : PySem.W.keepIn K (.ref f11) = true)
    (a12 : PySem.W.nsIn K mainGlobals "_law_fields" = some (some (.ref f12))) (l12 : K.lookup f12 = some ⟨oc12, od12, .func (PySem.W.fnOf "_law_fields" "_law_fields" (defArgs s_fields) (defBody s_fields) (defScope s_fields) .none kV12 dc12 pm12 an12 cd12 ct12), sl12⟩) (c12 : PySem.W.codeIn K cd12 "_law_fields" = true) (k12 : PySem.W.keepIn K (.ref f12) = true)
    (a13 : PySem.W.nsIn K mainGlobals "law" = some (some (.ref f13))) (l13 : K.lookup f13 = some ⟨oc13, od13, .func (PySem.W.fnOf "law" "law" (defArgs s_law) (defBody s_law) (defScope s_law) .none kV13 dc13 pm13 an13 (.ref c) ct13), sl13⟩) (c13 : PySem.W.codeIn K (.ref c) "law" = true) (k13 : PySem.W.keepIn K (.ref f13) = true)
    (z0 : PySem.W.nsIn K mainGlobals "len" = some none) (z1 : PySem.W.nsIn K mainGlobals "list" = some none) (z2 : PySem.W.nsIn K mainGlobals "tuple" = some none) (z3 : PySem.W.nsIn K mainGlobals "bool" = some none)
    (z4 : PySem.W.nsIn K mainGlobals "int" = some none) (z5 : PySem.W.nsIn K mainGlobals "str" = some none) (z6 : PySem.W.nsIn K mainGlobals "isinstance" = some none) (z7 : PySem.W.nsIn K mainGlobals "all" = some none)
    (z8 : PySem.W.nsIn K mainGlobals "any" = some none) (z9 : PySem.W.nsIn K mainGlobals "range" = some none) (z10 : PySem.W.nsIn K mainGlobals "max" = some none) (z11 : PySem.W.nsIn K mainGlobals "min" = some none)
    (z12 : PySem.W.nsIn K mainGlobals "dict" = some none) (z13 : PySem.W.nsIn K mainGlobals "sorted" = some none) (zV : PySem.W.nsIn K mainGlobals "ValueError" = some none) (hP : PySem.W.codeHdIn K c Pt = true)
    (nP : K.lookup Pt = none) (gF : PySem.W.nsIn K mainGlobals "FarError" = some (some (.ref C_FarError))) (TF : ClsFn K C_FarError "__init__" f_FarError) (FF : FunD K "__init__" "FarError.__init__" (defArgs s_farinit) (defBody s_farinit) (defScope s_farinit) [.str ""] [] f_FarError fdF)
    (fF8 : PySem.W.findCls K (.type "ValueError") (.type "type") "__init__" = some (.val (.builtin "ValueError.__init__"))) (g_BadNumber : PySem.W.nsIn K mainGlobals "BadNumber" = some (some (.ref C_BadNumber))) (E_BadNumber : ErrT K C_BadNumber) (XF_BadNumber : XfC K C_BadNumber)
    (EC_BadNumber : ExcC K C_BadNumber) (M_BadNumber : PySem.W.exmOne K (.ref C_BadNumber) (.ref C_FarError) = some true) (n_BadNumber_number : PySem.W.findIn K (.ref C_BadNumber) "number" = some none) (i_BadNumber : PySem.W.findIn K (.ref C_BadNumber) "__init__" = some (some (.ref f_BadNumber)))
    (t_BadNumber : PySem.W.typeIn K (.ref f_BadNumber) = some (.type "function")) (l_BadNumber : K.lookup f_BadNumber = some ⟨oc_BadNumber, od_BadNumber, .func (PySem.W.fnOf "__init__" "BadNumber.__init__" (defArgs s_bninit) (defBody s_bninit) (defScope s_bninit) .none kV_BadNumber dc_BadNumber pm_BadNumber an_BadNumber cd_BadNumber ct_BadNumber), sl_BadNumber⟩) (c_BadNumber : PySem.W.codeIn K cd_BadNumber "BadNumber.__init__" = true) (k_BadNumber : PySem.W.keepIn K (.ref f_BadNumber) = true)
    (g_NoMating : PySem.W.nsIn K mainGlobals "NoMating" = some (some (.ref C_NoMating))) (g_NoFamily : PySem.W.nsIn K mainGlobals "NoFamily" = some (some (.ref C_NoFamily))) (g_TooMuch : PySem.W.nsIn K mainGlobals "TooMuch" = some (some (.ref C_TooMuch))) (zf_zip : PySem.W.nsIn K mainGlobals "zip" = some none) :
    LamX.LawAtS l w K CX0 12 63 "_law_script" mg fa h := by
  have e := hfa.symm.trans (PySem.W.mg_of X G a13)
  cases e
  have B : Bn mg := ⟨PySem.W.mg_none_of X G z0, PySem.W.mg_none_of X G z1, PySem.W.mg_none_of X G z2, PySem.W.mg_none_of X G z3, PySem.W.mg_none_of X G z4, PySem.W.mg_none_of X G z5, PySem.W.mg_none_of X G z6, PySem.W.mg_none_of X G z7, PySem.W.mg_none_of X G z8, PySem.W.mg_none_of X G z9, PySem.W.mg_none_of X G z10, PySem.W.mg_none_of X G z11, PySem.W.mg_none_of X G z12, PySem.W.mg_none_of X G z13⟩
  have F0 := fun_mk (st := s_open) l0 c0 k0
  have D_open : DefAt K mg "_law_open" s_open P_open _ _ := ⟨F0, F0.binds (ps := P_open) fun _ _ _ _ _ _ => by exact len1 (fun _ => rfl), PySem.W.mg_of X G a0⟩
  have F1 := fun_mk (st := s_pull) l1 c1 k1
  have D_pull : DefAt K mg "_law_pull" s_pull P_pull _ _ := ⟨F1, F1.binds (ps := P_pull) fun _ _ _ _ _ _ => by exact len2 (fun _ _ => rfl), PySem.W.mg_of X G a1⟩
  have F2 := fun_mk (st := s_like) l2 c2 k2
  have D_like : DefAt K mg "_law_like" s_like P_like _ _ := ⟨F2, F2.binds (ps := P_like) fun _ _ _ _ _ _ => by exact len2 (fun _ _ => rfl), PySem.W.mg_of X G a2⟩
  have F3 := fun_mk (st := s_any) l3 c3 k3
  have D_any : DefAt K mg "_law_any" s_any P_any _ _ := ⟨F3, F3.binds (ps := P_any) fun _ _ _ _ _ _ => by exact len2 (fun _ _ => rfl), PySem.W.mg_of X G a3⟩
  have F4 := fun_mk (st := s_need_from) l4 c4 k4
  have D_need_from : DefAt K mg "need_from" s_need_from P_need_from _ _ := ⟨F4, F4.binds (ps := P_need_from) fun _ _ _ _ _ _ => by exact len2 (fun _ _ => rfl), PySem.W.mg_of X G a4⟩
  have F5 := fun_mk (st := s_need_within) l5 c5 k5
  have D_need_within : DefAt K mg "need_within" s_need_within P_need_within _ _ := ⟨F5, F5.binds (ps := P_need_within) fun _ _ _ _ _ _ => by exact len3 (fun _ _ _ => rfl), PySem.W.mg_of X G a5⟩
  have F6 := fun_mk (st := s_copy_of) l6 c6 k6
  have D_copy_of : DefAt K mg "copy_of" s_copy_of P_copy_of _ _ := ⟨F6, F6.binds (ps := P_copy_of) fun _ _ _ _ _ _ => by exact len3 (fun _ _ _ => rfl), PySem.W.mg_of X G a6⟩
  have F7 := fun_mk (st := s_mirror) l7 c7 k7
  have D_mirror : DefAt K mg "mirror" s_mirror P_mirror _ _ := ⟨F7, F7.binds (ps := P_mirror) fun _ _ _ _ _ _ => by exact len2 (fun _ _ => rfl), PySem.W.mg_of X G a7⟩
  have F8 := fun_mk (st := s_period) l8 c8 k8
  have D_period : DefAt K mg "period" s_period P_period _ _ := ⟨F8, F8.binds (ps := P_period) fun _ _ _ _ _ _ => by exact len3 (fun _ _ _ => rfl), PySem.W.mg_of X G a8⟩
  have F9 := fun_mk (st := s_bounded) l9 c9 k9
  have D_bounded : DefAt K mg "_law_bounded" s_bounded P_bounded _ _ := ⟨F9, F9.binds (ps := P_bounded) fun _ _ _ _ _ _ => by exact len2 (fun _ _ => rfl), PySem.W.mg_of X G a9⟩
  have F10 := fun_mk (st := s_ends) l10 c10 k10
  have D_ends : DefAt K mg "_law_ends" s_ends P_ends _ _ := ⟨F10, F10.binds (ps := P_ends) fun _ _ _ _ _ _ => by exact len1 (fun _ => rfl), PySem.W.mg_of X G a10⟩
  have F11 := fun_mk (st := s_why) l11 c11 k11
  have D_why : DefAt K mg "_law_why" s_why P_why _ _ := ⟨F11, F11.binds (ps := P_why) fun _ _ _ _ _ _ => by exact len1 (fun _ => rfl), PySem.W.mg_of X G a11⟩
  have F12 := fun_mk (st := s_fields) l12 c12 k12
  have D_fields : DefAt K mg "_law_fields" s_fields P_fields _ _ := ⟨F12, F12.binds (ps := P_fields) fun _ _ _ _ _ _ => by exact len1 (fun _ => rfl), PySem.W.mg_of X G a12⟩
  have GF : ∀ base : Heap, FnOk l.prog w K mg base CX0 1 f_FarError _ N_farinit (spFarInit K) := fun base => ok_farinit FF (PySem.W.mg_none_of X G zV) fF8
  have FI_BadNumber := fun_mk (x := "__init__") (qual := "BadNumber.__init__") (st := s_bninit) l_BadNumber c_BadNumber k_BadNumber
  have bI_BadNumber := FI_BadNumber.binds (ps := N_bninit) fun _ _ _ _ _ _ => by exact len2 (fun _ _ => rfl)
  have TBn : BnT K mg C_FarError C_BadNumber f_BadNumber _ := ⟨PySem.W.mg_of X G gF, PySem.W.mg_of X G g_BadNumber, E_BadNumber, XF_BadNumber, EC_BadNumber, n_BadNumber_number, i_BadNumber, t_BadNumber, bI_BadNumber, M_BadNumber⟩
  refine ⟨PySem.W.fnOf "law" "law" (defArgs s_law) (defBody s_law) (defScope s_law) .none kV13 dc13 pm13 an13 (.ref c) ct13, [(c, Pt)], spLawT K Pt, fun p hp => ?_, fun p hp => ?_, fun p hp => ?_, fun s u => ?b, fun H a ns hl _ hH hS => ⟨a, ns, rfl, hS, hl, hH _ List.mem_cons_self, fun _ => rfl⟩, fun base KB GB TB => ?ok⟩
  case ok =>
    exact ok_law l13 c13 (TB _ List.mem_cons_self) D_open D_pull D_like D_any D_need_from D_need_within D_copy_of D_mirror D_period D_bounded D_ends D_why D_fields TBn (ok_bninit FI_BadNumber (PySem.W.mg_of X G gF) TF (far_binds FF) (GF base)) (PySem.W.mg_of X G g_NoMating) (PySem.W.mg_of X G g_NoFamily) (PySem.W.mg_of X G g_TooMuch) (PySem.W.mg_none_of X G zf_zip) B
  case b => exact .of_eq rfl
  · rw [List.mem_singleton.mp hp]; exact hT
  · rw [List.mem_singleton.mp hp]; exact nP
  · rw [List.mem_singleton.mp hp]; exact PySem.W.codeHd_of_K X hP
def fnL0 : List He.DefD := [dD "_law_open" s_open, dD "_law_pull" s_pull, dD "_law_like" s_like, dD "_law_any" s_any, dD "need_from" s_need_from, dD "need_within" s_need_within, dD "copy_of" s_copy_of, dD "mirror" s_mirror, dD "period" s_period, dD "_law_bounded" s_bounded, dD "_law_ends" s_ends, dD "_law_why" s_why, dD "_law_fields" s_fields, dD "law" s_law, dMs "FarError" "__init__" "FarError.__init__" s_farinit, dM "BadNumber" "__init__" "BadNumber.__init__" s_bninit]
def fnL : List He.DefD := fnL0
def faL0 : List He.Fa := [.glo "_law_open", .glo "_law_pull", .glo "_law_like", .glo "_law_any", .glo "need_from", .glo "need_within", .glo "copy_of", .glo "mirror", .glo "period", .glo "_law_bounded", .glo "_law_ends", .glo "_law_why", .glo "_law_fields", .glo "law", .free "len", .free "list", .free "tuple", .free "bool", .free "int", .free "str", .free "isinstance", .free "all", .free "any", .free "range", .free "max", .free "min", .free "dict", .free "sorted", .free "ValueError", .glo "FarError"]
def faL1 : List He.Fa := [.glo "BadNumber", .noat "BadNumber" "number", .glo "NoMating", .glo "NoFamily", .glo "TooMuch", .free "zip"]
def faL : List He.Fa := faL0 ++ faL1
def exL0 (K : PySem.W.Frag) : List Bool := [cfnB K (He.ga K "FarError") "__init__" (He.ma K (He.ga K "FarError") "__init__"), bltB K "ValueError" "__init__" "ValueError.__init__", errB K (He.ga K "BadNumber"), xfB K (He.ga K "BadNumber"), excB K (He.ga K "BadNumber"), decide (PySem.W.exmOne K (.ref (He.ga K "BadNumber")) (.ref (He.ga K "FarError")) = some true), He.eqO (PySem.W.findIn K (.ref (He.ga K "BadNumber")) "__init__") (some (some (.ref (He.ma K (He.ga K "BadNumber") "__init__")))), decide (PySem.W.typeIn K (.ref (He.ma K (He.ga K "BadNumber") "__init__")) = some (.type "function"))]
def exL (K : PySem.W.Frag) : List Bool := exL0 K
def looseL0 : List Str := ["FarError", "BadNumber", "BadName", "BadMating", "BadPlace", "BadStretch", "BadMove", "BadMoves", "BadBoard", "BadCounts", "BadSide", "TooMuch", "BadText", "Taken", "Full", "Missing", "NoMating", "NoRoad", "NoSide", "NoFamily", "NothingLeft", "need_from", "need_within", "copy_of", "mirror", "period", "_law_open", "_law_pull", "_law_any", "_law_like"]
def looseL1 : List Str := ["_law_fields", "_law_why", "_law_ends", "_law_bounded"]
def looseL : List Str := looseL0 ++ looseL1
abbrev RowL : PySem.W.OpenRow := PySem.W.OpenLaw.row PySem.Challenge.rw_farmates_k36_matings_of_words
abbrev hkL : PySem.W.Hook := hookY faL fnL exL
def obL (s : PySem.W.SharedT) : AlY := obsY faL fnL exL (HandSHeadRun.getT s)
theorem obL_eq (s : PySem.W.SharedT) : obL s = hkL.obs s.abs := obsY_eq s
theorem all_of {w : World} {K : PySem.W.Frag} {h : Heap} {mg : Str → Option Value} {fa : Addr} (X : K.In h) (G : h.Ns mainGlobals mg) (hfa : mg "law" = some (.ref fa)) (c : SaysY faL fnL exL h K) :
    LamX.LawAtS PySem.Challenge.rw_farmates_k36_matings_of_words w K CX0 12 63 "_law_script" mg fa h := by
  obtain ⟨oc0, od0, sl0, kV0, dc0, pm0, an0, cd0, ct0, l0, c0, k0⟩ := say_def c.d 0 (x := "_law_open") (st := s_open) rfl
  obtain ⟨oc1, od1, sl1, kV1, dc1, pm1, an1, cd1, ct1, l1, c1, k1⟩ := say_def c.d 1 (x := "_law_pull") (st := s_pull) rfl
  obtain ⟨oc2, od2, sl2, kV2, dc2, pm2, an2, cd2, ct2, l2, c2, k2⟩ := say_def c.d 2 (x := "_law_like") (st := s_like) rfl
  obtain ⟨oc3, od3, sl3, kV3, dc3, pm3, an3, cd3, ct3, l3, c3, k3⟩ := say_def c.d 3 (x := "_law_any") (st := s_any) rfl
  obtain ⟨oc4, od4, sl4, kV4, dc4, pm4, an4, cd4, ct4, l4, c4, k4⟩ := say_def c.d 4 (x := "need_from") (st := s_need_from) rfl
  obtain ⟨oc5, od5, sl5, kV5, dc5, pm5, an5, cd5, ct5, l5, c5, k5⟩ := say_def c.d 5 (x := "need_within") (st := s_need_within) rfl
  obtain ⟨oc6, od6, sl6, kV6, dc6, pm6, an6, cd6, ct6, l6, c6, k6⟩ := say_def c.d 6 (x := "copy_of") (st := s_copy_of) rfl
  obtain ⟨oc7, od7, sl7, kV7, dc7, pm7, an7, cd7, ct7, l7, c7, k7⟩ := say_def c.d 7 (x := "mirror") (st := s_mirror) rfl
  obtain ⟨oc8, od8, sl8, kV8, dc8, pm8, an8, cd8, ct8, l8, c8, k8⟩ := say_def c.d 8 (x := "period") (st := s_period) rfl
  obtain ⟨oc9, od9, sl9, kV9, dc9, pm9, an9, cd9, ct9, l9, c9, k9⟩ := say_def c.d 9 (x := "_law_bounded") (st := s_bounded) rfl
  obtain ⟨oc10, od10, sl10, kV10, dc10, pm10, an10, cd10, ct10, l10, c10, k10⟩ := say_def c.d 10 (x := "_law_ends") (st := s_ends) rfl
  obtain ⟨oc11, od11, sl11, kV11, dc11, pm11, an11, cd11, ct11, l11, c11, k11⟩ := say_def c.d 11 (x := "_law_why") (st := s_why) rfl
  obtain ⟨oc12, od12, sl12, kV12, dc12, pm12, an12, cd12, ct12, l12, c12, k12⟩ := say_def c.d 12 (x := "_law_fields") (st := s_fields) rfl
  obtain ⟨oc13, od13, sl13, kV13, dc13, pm13, an13, ct13, l13, c13, k13⟩ := say_law c.d 13 (x := "law") (st := s_law) rfl
  obtain ⟨fdF, FF⟩ := say_far c.d 14 (C := "FarError") (m := "__init__") (q := "FarError.__init__") (st := s_farinit) rfl
  obtain ⟨oc_BadNumber, od_BadNumber, sl_BadNumber, kV_BadNumber, dc_BadNumber, pm_BadNumber, an_BadNumber, cd_BadNumber, ct_BadNumber, l_BadNumber, c_BadNumber, k_BadNumber⟩ := say_meth c.d 15 (C := "BadNumber") (m := "__init__") (q := "BadNumber.__init__") (st := s_bninit) rfl
  exact all_mk X G hfa c.mt
    (He.eqO_ok (c.d.fact 0 rfl)) l0 c0 k0 (He.eqO_ok (c.d.fact 1 rfl)) l1 c1 k1
    (He.eqO_ok (c.d.fact 2 rfl)) l2 c2 k2 (He.eqO_ok (c.d.fact 3 rfl)) l3 c3 k3
    (He.eqO_ok (c.d.fact 4 rfl)) l4 c4 k4 (He.eqO_ok (c.d.fact 5 rfl)) l5 c5 k5
    (He.eqO_ok (c.d.fact 6 rfl)) l6 c6 k6 (He.eqO_ok (c.d.fact 7 rfl)) l7 c7 k7
    (He.eqO_ok (c.d.fact 8 rfl)) l8 c8 k8 (He.eqO_ok (c.d.fact 9 rfl)) l9 c9 k9
    (He.eqO_ok (c.d.fact 10 rfl)) l10 c10 k10 (He.eqO_ok (c.d.fact 11 rfl)) l11 c11 k11
    (He.eqO_ok (c.d.fact 12 rfl)) l12 c12 k12 (He.eqO_ok (c.d.fact 13 rfl)) l13 c13 k13
    (He.eqO_ok (c.d.fact 14 rfl)) (He.eqO_ok (c.d.fact 15 rfl)) (He.eqO_ok (c.d.fact 16 rfl)) (He.eqO_ok (c.d.fact 17 rfl)) (He.eqO_ok (c.d.fact 18 rfl)) (He.eqO_ok (c.d.fact 19 rfl)) (He.eqO_ok (c.d.fact 20 rfl)) (He.eqO_ok (c.d.fact 21 rfl))
    (He.eqO_ok (c.d.fact 22 rfl)) (He.eqO_ok (c.d.fact 23 rfl)) (He.eqO_ok (c.d.fact 24 rfl)) (He.eqO_ok (c.d.fact 25 rfl)) (He.eqO_ok (c.d.fact 26 rfl)) (He.eqO_ok (c.d.fact 27 rfl)) (He.eqO_ok (c.d.fact 28 rfl)) c.hd
    c.out (He.eqO_ok (c.d.fact 29 rfl)) (cfnB_ok (all_at c.more 0 rfl)) FF (bltB_ok (all_at c.more 1 rfl)) (He.eqO_ok (c.d.fact 30 rfl)) (errB_ok (all_at c.more 2 rfl)) (xfB_ok (all_at c.more 3 rfl))
    (excB_ok (all_at c.more 4 rfl)) (of_decide_eq_true (all_at c.more 5 rfl)) (He.eqO_ok (c.d.fact 31 rfl)) (He.eqO_ok (all_at c.more 6 rfl)) (of_decide_eq_true (all_at c.more 7 rfl)) l_BadNumber c_BadNumber k_BadNumber
    (He.eqO_ok (c.d.fact 32 rfl)) (He.eqO_ok (c.d.fact 33 rfl)) (He.eqO_ok (c.d.fact 34 rfl)) (He.eqO_ok (c.d.fact 35 rfl))
-- SPLIT
theorem runL (w : World) : HandSHeadRun.RunEq RowL (PySem.W.view RowL.prog [38]) hkL obL 40000 looseL w := by
  intro os
  kernel_rfl
end Fm
open PySem PySem.W PySem.Calls PyProof.Rows
set_option maxRecDepth 100000 in
set_option maxHeartbeats 0 in
theorem PySem.Challenge.cw_farmates_k36_matings_of_words_holds : PySem.Challenge.rw_farmates_k36_matings_of_words.Holds := by
  w_on; o_law
  refine HandSHeadRun.head_any (r := OpenLaw.row PySem.Challenge.rw_farmates_k36_matings_of_words) (q := view (OpenLaw.row PySem.Challenge.rw_farmates_k36_matings_of_words).prog [38]) (H := Fm.hkL) (ob := Fm.obL) (M := 40000) (loose := Fm.looseL) (d := HandSHeadRun.topDef (OpenLaw.row PySem.Challenge.rw_farmates_k36_matings_of_words).prog 38) (kwd := []) Fm.obL_eq
    (by kernel_rfl) (fun s => by kernel_rfl) Fm.runL (by kernel_rfl) (by kernel_rfl) (by kernel_rfl) (by rfl) (by first | assumption | decide +kernel) (by decide +kernel) ⟨rfl, rfl, rfl, rfl, rfl, by decide +kernel⟩ ?hw ?hc
  case hw => w_witness2
  case hc =>
    refine LamX.walk_ofTsE (l := PySem.Challenge.rw_farmates_k36_matings_of_words) (n := 63) (k := 12) (x := "_law_script") (CX := fun _ => L2.CX0) rfl (by decide) (by kernel_rfl) ⟨rfl, by decide, by decide⟩ ?F (fun _ _ _ _ _ z => z)
    intro w mg fa h Y G hm0
    obtain ⟨K, KX, c⟩ := Y
    have hm : mg ("law" : PySem.Str) = some (.ref fa) := by
      have en : (HandSHeadRun.topDef (OpenLaw.row PySem.Challenge.rw_farmates_k36_matings_of_words).prog 38).name = ("law" : PySem.Str) := by kernel_rfl
      rw [← en]
      exact hm0
    exact ⟨K, KX, Fm.all_of KX G hm c⟩
