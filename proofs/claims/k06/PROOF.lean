import PyProof.Rows.All
import Wide.All
import OpenK.AllK
import Wide.FinOn
import HandS.ForMost
import HandS.IsInst
import HandS.Codes
import HandS.Wide
import PySem.Challenge.RW_shelfterms_k06_verdict
set_option Elab.async false
set_option linter.all false
set_option maxRecDepth 100000
set_option maxHeartbeats 4000000
namespace VL
open PySem PySem.Spec PyProof.Rows L2
open C8 (Cal pe_c)
/-! ### heaps -/
/-- all but b is kept -/
def Kp (b : Addr) (H H' : Hp) : Prop := ∀ c o, c ≠ b → H c = some o → H' c = some o
theorem Kp.refl (b : Addr) (H : Hp) : Kp b H H := fun _ _ _ h => h
theorem Kp.trans {b : Addr} {H H1 H2 : Hp} (x : Kp b H H1) (y : Kp b H1 H2) : Kp b H H2 := fun c o n h => y c o n (x c o n h)
theorem Kp.of {b : Addr} {H H' : Hp} (x : Same H H') : Kp b H H' := fun c o _ h => x c o h
theorem Kp.upd {b : Addr} {H : Hp} (o : HO) : Kp b H (upd H b o) := fun c u n h => by
  rw [upd_ne n]
  exact h
theorem same_upd {H : Hp} {p : Addr} {o : HO} (h : H p = none) : Same H (upd H p o) := fun b x e => by
  rw [upd_ne (ne_of_none e h)]
  exact e
/-- tuples are kept -/
def KT (H H' : Hp) : Prop := ∀ c xs, H c = some (.tup xs) → H' c = some (.tup xs)
theorem KT.refl (H : Hp) : KT H H := fun _ _ h => h
theorem KT.trans {H H1 H2 : Hp} (x : KT H H1) (y : KT H1 H2) : KT H H2 := fun c xs h => y c xs (x c xs h)
theorem KT.of {H H' : Hp} (x : Same H H') : KT H H' := fun c xs h => x c _ h
theorem KT.lst {H H' : Hp} {b : Addr} {xs : List V} (x : Kp b H H') (h : H b = some (.lst xs)) : KT H H' := fun c ys e => x c _ (ne_of e h (by intro z; cases z)) e
theorem KT.upd {H : Hp} {b : Addr} {xs : List V} {o : HO} (h : H b = some (.lst xs)) : KT H (upd H b o) := KT.lst (Kp.upd o) h

theorem upd_self {H : Hp} {b : Addr} {o : HO} (h : H b = some o) : L2.upd H b o = H := by
  funext c
  by_cases e : c = b
  · subst e; rw [upd_same, h]
  · rw [upd_ne e]

/-! ### the script's box -/
/-- the law's box stands at b: the cells in the list at L, the place, the rest, the seed -/
def Box (H : Hp) (b L : Addr) : Prop := ∃ (cs : List Int) (p r x : Int), L ≠ b ∧ H L = some (.lst (cs.map V.int)) ∧ H b = some (.lst [.ref L, .int p, .int r, .int x]) ∧ 0 ≤ p ∧ 0 ≤ x ∧ x < 2147483647
theorem Box.lst {H : Hp} {b L : Addr} (h : Box H b L) : ∃ xs, H b = some (.lst xs) := by
  obtain ⟨cs, p, r, x, _, _, h, _⟩ := h
  exact ⟨_, h⟩
theorem Box.lstL {H : Hp} {b L : Addr} (h : Box H b L) : ∃ xs, H L = some (.lst xs) := by
  obtain ⟨cs, p, r, x, _, h, _⟩ := h
  exact ⟨_, h⟩
theorem Box.same {H H' : Hp} {b L : Addr} (h : Box H b L) (s : Same H H') : Box H' b L := by
  obtain ⟨cs, p, r, x, n, hL, hb, q⟩ := h
  exact ⟨cs, p, r, x, n, s _ _ hL, s _ _ hb, q⟩
/-- another object may change -/
theorem Box.upd {H : Hp} {b L l : Addr} {o : HO} (h : Box H b L) (h1 : l ≠ b) (h2 : l ≠ L) : Box (L2.upd H l o) b L := by
  obtain ⟨cs, p, r, x, n, hL, hb, q⟩ := h
  exact ⟨cs, p, r, x, n, by rw [upd_ne h2.symm]; exact hL, by rw [upd_ne h1.symm]; exact hb, q⟩
/-- a new object is neither -/
theorem Box.new {H : Hp} {b L l : Addr} (h : Box H b L) (n : H l = none) : l ≠ b ∧ l ≠ L := by
  obtain ⟨xs, h1⟩ := h.lst
  obtain ⟨ys, h2⟩ := h.lstL
  exact ⟨(ne_of_none h1 n).symm, (ne_of_none h2 n).symm⟩

/-! ### the same data -/
def flt : V → Bool
  | .non => true
  | .bl _ => true
  | .int _ => true
  | .str _ => true
  | _ => false
/-- x and y hold the same data, of depth n at most -/
def Sm (H : Hp) : Nat → V → V → Prop
  | 0, x, y => x = y ∧ flt y = true
  | n + 1, x, y => (x = y ∧ flt y = true) ∨ ∃ (a b : Addr) (xs ys : List V), x = .ref a ∧ y = .ref b ∧
      ((H a = some (.lst xs) ∧ H b = some (.lst ys)) ∨ (H a = some (.tup xs) ∧ H b = some (.tup ys))) ∧ xs.length = ys.length ∧ xs.length ≤ 100000 ∧ ∀ (i : Nat) u v, xs[i]? = some u → ys[i]? = some v → Sm H n u v
theorem Sm.flat {H : Hp} {n : Nat} {x : V} (h : flt x = true) : Sm H n x x := by
  cases n with
  | zero => exact ⟨rfl, h⟩
  | succ n => exact .inl ⟨rfl, h⟩
theorem Sm.tup {H : Hp} {n : Nat} {a b : Addr} {xs ys : List V} (ha : H a = some (.tup xs)) (hb : H b = some (.tup ys)) (hl : xs.length = ys.length) (hz : xs.length ≤ 100000) (h : ∀ (i : Nat) u v, xs[i]? = some u → ys[i]? = some v → Sm H n u v) : Sm H (n + 1) (.ref a) (.ref b) :=
  .inr ⟨a, b, xs, ys, rfl, rfl, .inr ⟨ha, hb⟩, hl, hz, h⟩
theorem Sm.lst {H : Hp} {n : Nat} {a b : Addr} {xs ys : List V} (ha : H a = some (.lst xs)) (hb : H b = some (.lst ys)) (hl : xs.length = ys.length) (hz : xs.length ≤ 100000) (h : ∀ (i : Nat) u v, xs[i]? = some u → ys[i]? = some v → Sm H n u v) : Sm H (n + 1) (.ref a) (.ref b) :=
  .inr ⟨a, b, xs, ys, rfl, rfl, .inl ⟨ha, hb⟩, hl, hz, h⟩
/-- two sequences of the same flat things -/
theorem Sm.tupF {H : Hp} {n : Nat} {a b : Addr} {xs : List V} (ha : H a = some (.tup xs)) (hb : H b = some (.tup xs)) (hz : xs.length ≤ 100000) (h : ∀ x ∈ xs, flt x = true) : Sm H (n + 1) (.ref a) (.ref b) :=
  Sm.tup ha hb rfl hz fun i u v hu hv => by
    rw [hu] at hv
    cases hv
    exact Sm.flat (h _ (List.mem_of_getElem? hu))
theorem Sm.lstF {H : Hp} {n : Nat} {a b : Addr} {xs : List V} (ha : H a = some (.lst xs)) (hb : H b = some (.lst xs)) (hz : xs.length ≤ 100000) (h : ∀ x ∈ xs, flt x = true) : Sm H (n + 1) (.ref a) (.ref b) :=
  Sm.lst ha hb rfl hz fun i u v hu hv => by
    rw [hu] at hv
    cases hv
    exact Sm.flat (h _ (List.mem_of_getElem? hu))
theorem flt_ints (ns : List Int) : ∀ x ∈ ns.map V.int, flt x = true := fun x h => by
  obtain ⟨n, _, rfl⟩ := List.mem_map.mp h
  rfl

theorem Sm.cases {H : Hp} {n : Nat} {x y : V} (h : Sm H n x y) : (x = y ∧ flt y = true) ∨ ∃ (m : Nat) (a b : Addr) (xs ys : List V), n = m + 1 ∧ x = .ref a ∧ y = .ref b ∧
      ((H a = some (.lst xs) ∧ H b = some (.lst ys)) ∨ (H a = some (.tup xs) ∧ H b = some (.tup ys))) ∧ xs.length = ys.length ∧ xs.length ≤ 100000 ∧ ∀ (i : Nat) u v, xs[i]? = some u → ys[i]? = some v → Sm H m u v := by
  cases n with
  | zero => exact .inl h
  | succ n =>
    rcases h with h | ⟨a, b, xs, ys, h⟩
    · exact .inl h
    · exact .inr ⟨n, a, b, xs, ys, rfl, h⟩
theorem isi {K : PySem.W.Frag} {H : Hp} {x : V} {T : String} {Q : VK} (t : String) (b : Bool) (ty : TyX K H x (.type t)) (h : kitB t T = some b) (q : Q (.bl b) H) : rIsi K [x, .ty T] H Q := ⟨x, .ty T, .type t, .type T, b, rfl, .ty T, ty, kit_ty h, q⟩

/-! ### promises of the law's own defs -/
def spBox (K : PySem.W.Frag) : Sp := fun vs H Q _ => ∃ (a : Addr) (ns : List Int), vs = [.ref a] ∧ SqL K H a (ns.map V.int) ∧ ns.length ≤ 63 ∧ ∀ b L H', H b = none → H L = none → Same H H' → Box H' b L → Q (.ref b) H'
def spTake : Sp := fun vs H Q _ => ∃ (b L : Addr) (n : Int), vs = [.ref b, .int n] ∧ 0 < n ∧ n < 2 ^ 64 ∧ Box H b L ∧ ∀ v o, 0 ≤ v → v < n → Box (upd H b o) b L → (∃ xs, o = .lst xs) → Q (.int v) (upd H b o)
def spNo : Sp := fun _ _ _ _ => False
def spSame : Nat → Sp
  | 0 => spNo
  | n + 1 => fun vs H Q _ => ∃ x y, vs = [x, y] ∧ Sm H n x y ∧ Q (.bl true) H
theorem fn_no {P : Program} {w : World} {K : PySem.W.Frag} {mg : Str → Option Value} {base : Heap} {k : Nat} {f : Addr} {fd : FuncData} {ps : List Str} : FnOk P w K mg base CX0 k f fd ps spNo :=
  ⟨fun _ _ _ _ h => h.elim, fun _ _ _ _ _ _ _ _ _ _ _ _ _ h => h.elim⟩
theorem iteF' {c : Bool} {A B : Prop} (e : c = false) (h : B) : if c = true then A else B := by
  subst e
  exact iteF h
theorem iteT' {c : Bool} {A B : Prop} (e : c = true) (h : A) : if c = true then A else B := by
  subst e
  exact iteT h
/-- a def of the module, as its callers want it -/
theorem cal_of {P : Program} {w : World} {K : PySem.W.Frag} {mg : Str → Option Value} {base : Heap} {k : Nat} {x : Str} {st : Stmt} {f : Addr} {fd : FuncData} {ps : List Str} {sp : Sp} (F : Fun K x x st f fd) (G : FnOk P w K mg base CX0 k f fd ps sp) (hm : mg x = some (.ref f)) (b : Binds K fd ps []) :
    Cal P w K mg base k x sp [] := ⟨f, fd, ps, [], G, hm, F.kp, b, .nil⟩
theorem cutV_ints (ns : List Int) (lo hi : Option Int) : ∃ cs : List Int, cutV (ns.map V.int) lo hi = cs.map V.int := by
  unfold cutV
  rw [← List.map_drop, ← List.map_take]
  exact ⟨_, rfl⟩
theorem atI0 {α : Type} {x : α} {xs : List α} : atI (x :: xs) 0 = some x := atI_nat (j := 0) rfl
theorem atI_pos {α : Type} {xs : List α} {p : Int} {x : α} (h0 : 0 ≤ p) (h : xs[p.toNat]? = some x) : atI xs p = some x := by
  obtain ⟨n, rfl⟩ := Int.eq_ofNat_of_zero_le h0
  exact atI_nat h
theorem atI_ints {cs : List Int} {p : Int} (h0 : 0 ≤ p) (h : p < (cs.length : Int)) : ∃ c, cs[p.toNat]? = some c ∧ atI (cs.map V.int) p = some (.int c) := by
  have h1 : p.toNat < cs.length := by omega
  have h2 : cs[p.toNat]? = some (cs[p.toNat]'h1) := List.getElem?_eq_getElem h1
  refine ⟨_, h2, atI_pos h0 ?_⟩
  rw [List.getElem?_map, h2]
  rfl
theorem ixN_nat {n j : Nat} (h : j < n) : ixN n (j : Int) = some j := by
  unfold ixN
  rw [if_pos (by omega), if_pos (by omega)]
  rfl
end VL

namespace VL
open PySem PySem.Spec PyProof.Rows L2
open C8 (Cal pe_c)
def top (i : Nat) : Stmt := PySem.Challenge.pw_shelfterms_k06_verdict.main.body.getD i (.Pass ⟨0, 0, 0, 0⟩)
structure Tx (mg : Str → Option Value) : Prop where
  len : mg "len" = none
  list : mg "list" = none
  int : mg "int" = none
  isinstance : mg "isinstance" = none
  bool : mg "bool" = none
  str : mg "str" = none
  tuple : mg "tuple" = none
  range : mg "range" = none
section
variable {P : Program} {w : World} {K : PySem.W.Frag} {mg : Str → Option Value} {base : Heap}
abbrev sLbox : Stmt := top 3
theorem scLbox : FnScope ["_law_script"] ["_law_script"] (defScope sLbox) := ⟨rfl, rfl, rfl, by decide +kernel, rfl, by decide +kernel, by decide +kernel⟩
theorem ok_box {f : Addr} {fd : FuncData} (F : Fun K "_law_box" "_law_box" sLbox f fd) (T : Tx mg) : FnOk P w K mg base CX0 1 f fd ["_law_script"] (spBox K) := by
  refine F.ok scLbox (fun vs H Q E h => ?_) (fun cdv A outer s H vs Q E hr h => ?_)
  · obtain ⟨a, ns, rfl, _⟩ := h
    rfl
  obtain ⟨a, ns, rfl, hS, hlen, q⟩ := h
  refine ⟨_, (pss_one (ps_ret (pe_lst (pa_cons (pe_callTy call_list_of (by rfl) T.list (by decide +kernel) (pa_cons (pe_slice sl_list (pv 0) po_none (po_some pe_int)) pa_nil)) (pa_cons pe_int (pa_cons pe_int (pa_cons pe_int pa_nil))))))), ?_⟩
  obtain ⟨cs, ec⟩ := cutV_ints ns none (some 63)
  refine ⟨.ref a, rfl, 63, rfl, a, ns.map V.int, rfl, hS, fun c nc => ?_⟩
  rw [ec]
  refine ⟨c, cs.map V.int, rfl, .inl (.inl (.inl upd_same)), fun L nL => ?_⟩
  refine ⟨by show 4 ≤ sizeLine; decide, fun b nb => ?_⟩
  have s1 : Same H (upd H c (.lst (cs.map V.int))) := same_upd nc
  have s2 : Same _ (upd (upd H c (.lst (cs.map V.int))) L (.lst (cs.map V.int))) := same_upd nL
  have s3 := same_upd (o := .lst [.ref L, .int 0, .int 0, .int 1]) nb
  have nLb : L ≠ b := fun e => by rw [← e, upd_same] at nb; cases nb
  refine q b L _ ((s1.trans s2).free nb) (s1.free nL) (s1.trans (s2.trans s3)) ⟨cs, 0, 0, 1, nLb, ?_, upd_same, by decide, by decide, by decide⟩
  rw [upd_ne nLb, upd_same]
abbrev sLtake : Stmt := top 4
theorem scLtake : FnScope ["_law_box_here", "_law_size", "_law_cell", "_law_digit"] ["_law_box_here", "_law_size"] (defScope sLtake) := ⟨rfl, rfl, rfl, by decide +kernel, rfl, by decide +kernel, by decide +kernel⟩
theorem ok_take {f : Addr} {fd : FuncData} (F : Fun K "_law_take" "_law_take" sLtake f fd) (T : Tx mg) : FnOk P w K mg base CX0 1 f fd ["_law_box_here", "_law_size"] spTake := by
  refine F.ok scLtake (fun vs H Q E h => ?_) (fun cdv A outer s H vs Q E hr h => ?_)
  · obtain ⟨b, L, n, rfl, _⟩ := h
    rfl
  obtain ⟨b, L, n, rfl, n0, n1, ⟨cs, p, r, x, nLb, hL, hb, p0, x0, x1⟩, q⟩ := h
  refine ⟨_, (C8.pss_cut (ps_if (PW.pt (pw_and (pt_cmpR op_eq (pe_ix ix_list (pv 0) pe_int (fun _ _ => rfl)) pe_int (nomark _)) (pw_and1 (pt_cmpR op_lt (pe_ix ix_list (pv 0) pe_int (fun _ _ => rfl)) (pe_callB call_len_seq (by rfl) T.len PySem.boot_len (pa_cons (pe_ix ix_list (pv 0) pe_int (fun _ _ => rfl)) pa_nil)) (nomark _)))))
    (pss_cons (ps_set (i := 2) scLtake.nd rfl (Or.inl rfl) (pe_ix ix_list (pe_ix ix_list (pv 0) pe_int (fun _ _ => rfl)) (pe_ix ix_list (pv 0) pe_int (fun _ _ => rfl)) (fun _ _ => rfl)))
    (pss_cons (ps_asg (pe_op op_add (pe_ix ix_list (pv 0) pe_int (fun _ _ => rfl)) pe_int) (pg_sub (pv 0) pe_int set_list))
    (pss_one (ps_if (pt_cmpR op_ge (pv 2) (pe_op op_pow pe_int pe_int) (nomark _))
      (pss_one (ps_asg (pe_op op_sub (pv 2) (pe_op op_pow pe_int pe_int)) (pg_sub (pv 0) pe_int set_list)))
      (pss_one (ps_asg (pe_op op_mod (pe_callTy call_int1 (by rfl) T.int (by decide +kernel) (pa_cons (pe_op op_add (pe_op op_mul (pe_ix ix_list (pv 0) pe_int (fun _ _ => rfl)) pe_int) (pv 2)) pa_nil)) pe_int) (pg_sub (pv 0) pe_int set_list)))))))
    pss_nil)
  (pss_cons (ps_if (pt_cmpR op_gt (pe_ix ix_list (pv 0) pe_int (fun _ _ => rfl)) pe_int (nomark _))
    (pss_cons (ps_set (i := 3) scLtake.nd rfl (Or.inl rfl) (pe_op op_mod (pe_callTy call_int1 (by rfl) T.int (by decide +kernel) (pa_cons (pe_ix ix_list (pv 0) pe_int (fun _ _ => rfl)) pa_nil)) (pv 1)))
    (pss_cons (ps_asg (pe_op op_fdivW (pe_ix ix_list (pv 0) pe_int (fun _ _ => rfl)) (pv 1)) (pg_sub (pv 0) pe_int set_list))
    (pss_one (ps_ret (pv 3)))))
    pss_nil)
  (pss_cons (ps_asg (pe_op op_mod (pe_callTy call_int1 (by rfl) T.int (by decide +kernel) (pa_cons (pe_op op_add (pe_op op_mul (pe_ix ix_list (pv 0) pe_int (fun _ _ => rfl)) pe_int) pe_int) pa_nil)) pe_int) (pg_sub (pv 0) pe_int set_list))
  (pss_one (ps_ret (pe_op op_mod (pe_callTy call_int1 (by rfl) T.int (by decide +kernel) (pa_cons (pe_op op_fdivW (pe_ix ix_list (pv 0) pe_int (fun _ _ => rfl)) pe_int) pa_nil)) (pv 1))))))), ?_⟩
  have hU : ∀ {o u : HO}, upd (upd H b o) b u = upd H b u := upd_upd
  have cp : CPow 10 18 := ⟨by decide, by decide, by decide⟩
  refine ⟨fun σ' H' => ∃ y2 p r x, σ' = [some (.ref b), some (.int n), y2, none] ∧ H' = upd H b (.lst [.ref L, .int p, .int r, .int x]) ∧ 0 ≤ p ∧ 0 ≤ x ∧ x < 2147483647, ?_, ?_⟩
  · have stay : ∃ (y2 : Option V) (p' r' x' : Int), ([some (.ref b), some (.int n), none, none] : L2.St) = [some (.ref b), some (.int n), y2, none] ∧ H = upd H b (.lst [.ref L, .int p', .int r', .int x']) ∧ 0 ≤ p' ∧ 0 ≤ x' ∧ x' < 2147483647 := ⟨none, p, r, x, rfl, (upd_self hb).symm, p0, x0, x1⟩
    refine ⟨_, rfl, b, _, 2, _, rfl, rfl, SqL.of hb, rfl, rfl, _, rfl, ite2 (fun _ => ?_) (fun _ => iteF stay)⟩
    refine ⟨_, rfl, b, _, 1, _, rfl, rfl, SqL.of hb, rfl, _, rfl, b, _, 0, _, rfl, rfl, SqL.of hb, rfl, L, _, rfl, .inl (SqL.of hL), _, _, rfl, rfl, _, rfl, ite2 (fun e => ?_) (fun _ => stay)⟩
    have hp : p < (cs.length : Int) := by
      have := of_decide_eq_true e
      rw [List.length_map] at this
      exact this
    obtain ⟨c, _, hc⟩ := atI_ints p0 hp
    refine ⟨_, rfl, b, _, 0, _, rfl, rfl, SqL.of hb, rfl, _, rfl, b, _, 1, _, rfl, rfl, SqL.of hb, rfl, L, _, p, .int c, rfl, rfl, SqL.of hL, hc, ?_⟩
    refine ⟨_, rfl, b, _, 1, _, rfl, rfl, SqL.of hb, rfl, _, _, rfl, rfl, _, rfl, b, _, 1, 1, rfl, rfl, hb, rfl, ?_⟩
    have hb1 : (upd H b (.lst [.ref L, .int (p + 1), .int r, .int x])) b = some (.lst [.ref L, .int (p + 1), .int r, .int x]) := upd_same
    refine ⟨_, rfl, _, _, rfl, rfl, cp, _, _, rfl, rfl, _, rfl, ite2 (fun _ => ?_) (fun _ => ?_)⟩
    · refine ⟨_, rfl, _, _, rfl, rfl, cp, _, _, rfl, rfl, _, rfl, b, _, 2, 2, rfl, rfl, hb1, rfl, ?_⟩
      exact ⟨_, p + 1, _, x, rfl, hU, by omega, x0, x1⟩
    · refine ⟨_, rfl, b, _, 3, _, rfl, rfl, SqL.of hb1, rfl, _, _, rfl, rfl, .inl ⟨by omega, by omega⟩, _, rfl, _, _, rfl, rfl, .inl ⟨_, rfl, ?_⟩⟩
      refine ⟨_, _, rfl, rfl, (by show (0 : Int) < 2147483647; decide), _, rfl, b, _, 3, 3, rfl, rfl, hb1, rfl, ?_⟩
      exact ⟨_, p + 1, r, _, rfl, hU, by omega, Int.emod_nonneg _ (by decide), Int.emod_lt_of_pos _ (by decide)⟩
  · rintro σ' H' ⟨y2, p, r, x, rfl, rfl, p0, x0, x1⟩
    have hb1 : (upd H b (.lst [.ref L, .int p, .int r, .int x])) b = some (.lst [.ref L, .int p, .int r, .int x]) := upd_same
    have done : ∀ (v p r x : Int), 0 ≤ v → v < n → 0 ≤ p → 0 ≤ x → x < 2147483647 → Q (.int v) (upd H b (.lst [.ref L, .int p, .int r, .int x])) := fun v p r x h1 h2 h3 h4 h5 =>
      q v _ h1 h2 ⟨cs, p, r, x, nLb, by rw [upd_ne nLb]; exact hL, upd_same, h3, h4, h5⟩ ⟨_, rfl⟩
    have hn : CDivW r n := wide_div (b := 64) n0 (by omega) (by decide) (by decide)
    refine ⟨_, rfl, b, _, 2, _, rfl, rfl, SqL.of hb1, rfl, _, _, rfl, rfl, _, rfl, ite2 (fun _ => ?_) (fun _ => ?_)⟩
    · refine ⟨_, rfl, b, _, 2, _, rfl, rfl, SqL.of hb1, rfl, .inl ⟨_, rfl, ?_⟩⟩
      refine ⟨_, rfl, _, _, rfl, rfl, n0, ?_⟩
      refine ⟨_, rfl, b, _, 2, _, rfl, rfl, SqL.of hb1, rfl, _, rfl, _, _, rfl, rfl, hn, _, rfl, b, _, 2, 2, rfl, rfl, hb1, rfl, ?_⟩
      refine ⟨_, rfl, ?_⟩
      show Q _ (upd (upd H b _) b _)
      rw [hU]
      exact done _ _ _ _ (Int.emod_nonneg _ (by omega)) (Int.emod_lt_of_pos _ n0) p0 x0 x1
    · refine ⟨_, rfl, b, _, 3, _, rfl, rfl, SqL.of hb1, rfl, _, _, rfl, rfl, .inl ⟨by omega, by omega⟩, _, _, rfl, rfl, .inl ⟨_, rfl, ?_⟩⟩
      refine ⟨_, _, rfl, rfl, (by show (0 : Int) < 2147483647; decide), _, rfl, b, _, 3, 3, rfl, rfl, hb1, rfl, ?_⟩
      refine ⟨_, rfl, b, _, 3, _, rfl, rfl, SqL.of upd_same, rfl, _, _, rfl, rfl, wide_div (b := 64) (by decide) (by decide) (by decide) (by decide), .inl ⟨_, rfl, ?_⟩⟩
      refine ⟨_, rfl, _, _, rfl, rfl, n0, ?_⟩
      show Q _ (upd (upd H b _) b _)
      rw [hU]
      exact done _ _ _ _ (Int.emod_nonneg _ (by omega)) (Int.emod_lt_of_pos _ n0) p0 (Int.emod_nonneg _ (by decide)) (Int.emod_lt_of_pos _ (by decide))
end
end VL

namespace VL
open PySem PySem.Spec PyProof.Rows L2
open C8 (Cal pe_c)
section
variable {P : Program} {w : World} {K : PySem.W.Frag} {mg : Str → Option Value} {base : Heap}
abbrev sLsame : Stmt := top 5
theorem scLsame : FnScope ["_law_actual", "_law_due", "_law_k"] ["_law_actual", "_law_due"] (defScope sLsame) := ⟨rfl, rfl, rfl, by decide +kernel, rfl, by decide +kernel, by decide +kernel⟩
theorem ok_same_n {n : Nat} {f : Addr} {fd : FuncData} (F : Fun K "_law_same" "_law_same" sLsame f fd) (T : Tx mg) (cLsame : Cal P w K mg base n "_law_same" (spSame n) []) : FnOk P w K mg base CX0 (n + 1) f fd ["_law_actual", "_law_due"] (spSame (n + 1)) := by
  refine F.ok scLsame (fun vs H Q E h => ?_) (fun cdv A outer s H vs Q E hr h => ?_)
  · obtain ⟨x, y, rfl, _⟩ := h
    rfl
  obtain ⟨x, y, rfl, hs, q⟩ := h
  refine ⟨_, (pss_cons (ps_if (pt_cmpR op_isN (pv 1) pe_non (nomark _))
    (pss_one (ps_ret (pe_cmpR op_isN (pv 0) pe_non (nomark _))))
    pss_nil)
  (pss_cons (ps_if (pt_val (pe_callB call_isi (by rfl) T.isinstance (by decide +kernel) (pa_cons (pv 1) (pa_cons (pe_bltn (v := .ty "bool") rfl T.bool (by decide +kernel) rfl) pa_nil))))
    (pss_one (ps_ret (pe_and (pe_callB call_isi (by rfl) T.isinstance (by decide +kernel) (pa_cons (pv 0) (pa_cons (pe_bltn (v := .ty "bool") rfl T.bool (by decide +kernel) rfl) pa_nil))) (pe_one (pe_cmpR op_eq (pv 0) (pv 1) (nomark _))))))
    pss_nil)
  (pss_cons (ps_if (pt_val (pe_callB call_isi (by rfl) T.isinstance (by decide +kernel) (pa_cons (pv 1) (pa_cons (pe_bltn (v := .ty "int") rfl T.int (by decide +kernel) rfl) pa_nil))))
    (pss_one (ps_ret (pe_and (pe_callB call_isi (by rfl) T.isinstance (by decide +kernel) (pa_cons (pv 0) (pa_cons (pe_bltn (v := .ty "int") rfl T.int (by decide +kernel) rfl) pa_nil))) (pe_and (pe_not (pe_callB call_isi (by rfl) T.isinstance (by decide +kernel) (pa_cons (pv 0) (pa_cons (pe_bltn (v := .ty "bool") rfl T.bool (by decide +kernel) rfl) pa_nil)))) (pe_one (pe_cmpR op_eq (pv 0) (pv 1) (nomark _)))))))
    pss_nil)
  (pss_cons (ps_if (pt_val (pe_callB call_isi (by rfl) T.isinstance (by decide +kernel) (pa_cons (pv 1) (pa_cons (pe_bltn (v := .ty "str") rfl T.str (by decide +kernel) rfl) pa_nil))))
    (pss_one (ps_ret (pe_and (pe_callB call_isi (by rfl) T.isinstance (by decide +kernel) (pa_cons (pv 0) (pa_cons (pe_bltn (v := .ty "str") rfl T.str (by decide +kernel) rfl) pa_nil))) (pe_one (pe_cmpR op_eq (pv 0) (pv 1) (nomark _))))))
    pss_nil)
  (pss_cons (ps_if (pt_cmpR op_ne (pe_callB call_isi (by rfl) T.isinstance (by decide +kernel) (pa_cons (pv 1) (pa_cons (pe_bltn (v := .ty "tuple") rfl T.tuple (by decide +kernel) rfl) pa_nil))) (pe_callB call_isi (by rfl) T.isinstance (by decide +kernel) (pa_cons (pv 0) (pa_cons (pe_bltn (v := .ty "tuple") rfl T.tuple (by decide +kernel) rfl) pa_nil))) (nomark _))
    (pss_one (ps_ret pe_bl))
    pss_nil)
  (pss_cons (ps_if (PW.pt (pw_or (pt_cmpR op_ne (pe_callB call_isi (by rfl) T.isinstance (by decide +kernel) (pa_cons (pv 1) (pa_cons (pe_bltn (v := .ty "list") rfl T.list (by decide +kernel) rfl) pa_nil))) (pe_callB call_isi (by rfl) T.isinstance (by decide +kernel) (pa_cons (pv 0) (pa_cons (pe_bltn (v := .ty "list") rfl T.list (by decide +kernel) rfl) pa_nil))) (nomark _)) (pw_or1 (pt_cmpR op_ne (pe_callB call_len_seq (by rfl) T.len PySem.boot_len (pa_cons (pv 0) pa_nil)) (pe_callB call_len_seq (by rfl) T.len PySem.boot_len (pa_cons (pv 1) pa_nil)) (nomark _)))))
    (pss_one (ps_ret pe_bl))
    pss_nil)
  (pss_cons (ps_for PassesOwn.never rfl (pi_range1 rfl T.range (pa_cons (pe_callB call_len_seq (by rfl) T.len PySem.boot_len (pa_cons (pv 1) pa_nil)) pa_nil)) (pg_name (i := 2) scLsame.nd rfl (Or.inl rfl))
    (pss_one (ps_if (pt_not (pt_val (pe_c cLsame hr (Nat.le_refl _) rfl (pa_cons (pe_ix ix_seq (pv 0) (pv 2) (fun _ _ => rfl)) (pa_cons (pe_ix ix_seq (pv 1) (pv 2) (fun _ _ => rfl)) pa_nil)))))
      (pss_one (ps_ret pe_bl))
      pss_nil)))
  (pss_one (ps_ret pe_bl))))))))), ?_⟩
  rcases hs.cases with ⟨rfl, hf⟩ | ⟨m, a, b, xs, ys, rfl, rfl, rfl, hab, hl, hz, hs⟩
  · cases x with
    | non => exact ⟨_, rfl, rfl, _, rfl, iteT' rfl ⟨_, rfl, rfl, q⟩⟩
    | bl c =>
      refine ⟨_, rfl, rfl, _, rfl, iteF' rfl ?_⟩
      refine ⟨_, rfl, ⟨_, _, .type "bool", _, true, rfl, .ty _, .base (.bl _), kit_ty (by decide +kernel), ⟨_, rfl, iteT' rfl ?_⟩⟩⟩
      refine ⟨_, rfl, ⟨_, _, .type "bool", _, true, rfl, .ty _, .base (.bl _), kit_ty (by decide +kernel), ⟨_, rfl, iteT' rfl ?_⟩⟩⟩
      refine ⟨_, rfl, _, rfl, rfl, ?_⟩
      rw [decide_eq_true rfl]
      exact q
    | int c =>
      refine ⟨_, rfl, rfl, _, rfl, iteF' rfl ?_⟩
      refine ⟨_, rfl, ⟨_, _, .type "int", _, false, rfl, .ty _, .base (.int _), kit_ty (by decide +kernel), ⟨_, rfl, iteF' rfl ?_⟩⟩⟩
      refine ⟨_, rfl, ⟨_, _, .type "int", _, true, rfl, .ty _, .base (.int _), kit_ty (by decide +kernel), ⟨_, rfl, iteT' rfl ?_⟩⟩⟩
      refine ⟨_, rfl, ⟨_, _, .type "int", _, true, rfl, .ty _, .base (.int _), kit_ty (by decide +kernel), ⟨_, rfl, iteT' rfl ?_⟩⟩⟩
      refine ⟨_, rfl, ⟨_, _, .type "int", _, false, rfl, .ty _, .base (.int _), kit_ty (by decide +kernel), ⟨_, rfl, _, rfl, iteT' rfl ?_⟩⟩⟩
      refine ⟨_, rfl, _, rfl, rfl, ?_⟩
      rw [decide_eq_true rfl]
      exact q
    | str c =>
      refine ⟨_, rfl, rfl, _, rfl, iteF' rfl ?_⟩
      refine ⟨_, rfl, ⟨_, _, .type "str", _, false, rfl, .ty _, .base (.str _), kit_ty (by decide +kernel), ⟨_, rfl, iteF' rfl ?_⟩⟩⟩
      refine ⟨_, rfl, ⟨_, _, .type "str", _, false, rfl, .ty _, .base (.str _), kit_ty (by decide +kernel), ⟨_, rfl, iteF' rfl ?_⟩⟩⟩
      refine ⟨_, rfl, ⟨_, _, .type "str", _, true, rfl, .ty _, .base (.str _), kit_ty (by decide +kernel), ⟨_, rfl, iteT' rfl ?_⟩⟩⟩
      refine ⟨_, rfl, ⟨_, _, .type "str", _, true, rfl, .ty _, .base (.str _), kit_ty (by decide +kernel), ⟨_, rfl, iteT' rfl ?_⟩⟩⟩
      refine ⟨_, rfl, _, rfl, rfl, ?_⟩
      rw [decide_eq_true rfl]
      exact q
    | _ => cases hf
  · have hA : SqL K H a xs ∨ SqT K H a xs := hab.elim (fun h => .inl (SqL.of h.1)) fun h => .inr (SqT.of h.1)
    have hB : SqL K H b ys ∨ SqT K H b ys := hab.elim (fun h => .inl (SqL.of h.2)) fun h => .inr (SqT.of h.2)
    obtain ⟨t, tl, tt, tyA, tyB, k1, k2, k3, k4, k5⟩ : ∃ (t : String) (tl tt : Bool), TyX K H (.ref a) (.type t) ∧ TyX K H (.ref b) (.type t) ∧ kitB t "bool" = some false ∧ kitB t "int" = some false ∧ kitB t "str" = some false ∧ kitB t "tuple" = some tt ∧ kitB t "list" = some tl := by
      rcases hab with h | h
      · exact ⟨"list", true, false, .base (.lst h.1), .base (.lst h.2), by decide +kernel, by decide +kernel, by decide +kernel, by decide +kernel, by decide +kernel⟩
      · exact ⟨"tuple", false, true, .base (.tup h.1), .base (.tup h.2), by decide +kernel, by decide +kernel, by decide +kernel, by decide +kernel, by decide +kernel⟩
    have no : ∀ c : V, (!decide (c = c)) = false := fun c => by rw [decide_eq_true rfl]; rfl
    refine ⟨_, rfl, rfl, _, rfl, iteF' rfl ?_⟩
    refine ⟨_, rfl, ⟨_, _, .type t, _, false, rfl, .ty _, tyB, kit_ty k1, ⟨_, rfl, iteF' rfl ?_⟩⟩⟩
    refine ⟨_, rfl, ⟨_, _, .type t, _, false, rfl, .ty _, tyB, kit_ty k2, ⟨_, rfl, iteF' rfl ?_⟩⟩⟩
    refine ⟨_, rfl, ⟨_, _, .type t, _, false, rfl, .ty _, tyB, kit_ty k3, ⟨_, rfl, iteF' rfl ?_⟩⟩⟩
    refine ⟨_, rfl, ⟨_, _, .type t, _, tt, rfl, .ty _, tyB, kit_ty k4, ⟨_, rfl, ⟨_, _, .type t, _, tt, rfl, .ty _, tyA, kit_ty k4, ⟨rfl, _, rfl, iteF' (no _) ?_⟩⟩⟩⟩⟩
    refine ⟨_, rfl, ⟨_, _, .type t, _, tl, rfl, .ty _, tyB, kit_ty k5, ⟨_, rfl, ⟨_, _, .type t, _, tl, rfl, .ty _, tyA, kit_ty k5, ⟨rfl, _, rfl, iteF' (no _) ?_⟩⟩⟩⟩⟩
    refine ⟨_, rfl, a, xs, rfl, hA, _, rfl, b, ys, rfl, hB, rfl, _, rfl, iteF' (by rw [hl]; exact no _) ?_⟩
    refine ⟨_, rfl, b, ys, rfl, hB, _, rfl, by omega, by omega, for_range (lo := 0) (n := ((ys.length : Nat) : Int).toNat) (fun i σ H' => ∃ z, σ = [some (.ref a), some (.ref b), z] ∧ H' = H) ⟨none, rfl, rfl⟩ ?_ ?_⟩
    · rintro i σ H' hi ⟨z, rfl, rfl⟩
      have h1 : i < ys.length := by omega
      have h2 : i < xs.length := by omega
      have e0 : (0 : Int) + (i : Int) = (i : Int) := Int.zero_add _
      have g1 : xs[i]? = some xs[i] := List.getElem?_eq_getElem h2
      have g2 : ys[i]? = some ys[i] := List.getElem?_eq_getElem h1
      refine ⟨_, rfl, _, rfl, ?_⟩
      have step : ∀ {c : Addr} {zs : List V} {z : V} {R : VK}, (SqL K H' c zs ∨ SqT K H' c zs) → zs[i]? = some z → R z H' → rIx K (.ref c) (.int ((0 : Int) + (i : Int))) H' R := fun {c zs z R} hc hz r => by
        rw [e0]
        rcases hc with hc | hc
        · exact .inl ⟨c, zs, i, z, rfl, rfl, hc, atI_nat hz, r⟩
        · exact .inr (.inl ⟨c, zs, i, z, rfl, rfl, hc, atI_nat hz, r⟩)
      refine step hA g1 ⟨_, rfl, _, rfl, step hB g2 ?_⟩
      refine ⟨_, _, rfl, hs i _ _ g1 g2, _, rfl, iteF' rfl ?_⟩
      exact ⟨_, rfl, rfl⟩
    · rintro σ H' ⟨z, rfl, rfl⟩
      exact q
theorem cal_same {f : Addr} {fd : FuncData} (F : Fun K "_law_same" "_law_same" sLsame f fd) (T : Tx mg) (hm : mg "_law_same" = some (.ref f)) (b : Binds K fd ["_law_actual", "_law_due"] []) : ∀ n : Nat, Cal P w K mg base n "_law_same" (spSame n) []
  | 0 => cal_of F fn_no hm b
  | n + 1 => cal_of F (ok_same_n F T (cal_same F T hm b n)) hm b
end
end VL

namespace VL
open PySem PySem.Spec PyProof.Rows L2
open C8 (Cal pe_c)
/-! ### verdict, as a function -/
def verd (sg : List Int) : List (Int × Int) → Int
  | [] => 0
  | t :: r => if sg.getD t.1.toNat 0 ≠ 0 then (if sg.getD t.1.toNat 0 = t.2 then 1 else -1) else verd sg r
theorem verd_skip {sg : List Int} {t : Int × Int} {r : List (Int × Int)} (h : sg.getD t.1.toNat 0 = 0) : verd sg (t :: r) = verd sg r := by
  show (if sg.getD t.1.toNat 0 ≠ 0 then _ else verd sg r) = _
  rw [if_neg (fun z => z h)]
theorem verd_hit {sg : List Int} {t : Int × Int} {r : List (Int × Int)} (h : sg.getD t.1.toNat 0 ≠ 0) : verd sg (t :: r) = if sg.getD t.1.toNat 0 = t.2 then 1 else -1 := by
  show (if sg.getD t.1.toNat 0 ≠ 0 then _ else verd sg r) = _
  rw [if_pos h]
theorem verd_app0 {sg : List Int} {t : Int × Int} : ∀ {r : List (Int × Int)}, verd sg r = 0 → verd sg (r ++ [t]) = verd sg [t]
  | [], _ => rfl
  | u :: r, h => by
    by_cases e : sg.getD u.1.toNat 0 = 0
    · rw [verd_skip e] at h
      rw [List.cons_append, verd_skip e]
      exact verd_app0 h
    · rw [verd_hit e] at h
      split at h <;> cases h
theorem verd_app1 {sg : List Int} {t : Int × Int} : ∀ {r : List (Int × Int)}, verd sg r ≠ 0 → verd sg (r ++ [t]) = verd sg r
  | [], h => absurd rfl h
  | u :: r, h => by
    by_cases e : sg.getD u.1.toNat 0 = 0
    · rw [verd_skip e] at h
      rw [List.cons_append, verd_skip e, verd_skip e]
      exact verd_app1 h
    · rw [List.cons_append, verd_hit e, verd_hit e]
/-- the list of terms stands at the values xs -/
def TermsAt (H : Hp) (xs : List V) (ts : List (Int × Int)) : Prop := xs.length = ts.length ∧ ∀ (i : Nat) x, xs[i]? = some x → ∃ p m d, ts[i]? = some (m, d) ∧ x = .ref p ∧ H p = some (.tup [.int m, .int d])
theorem TermsAt.keep {H H' : Hp} {xs : List V} {ts : List (Int × Int)} (h : TermsAt H xs ts) (k : KT H H') : TermsAt H' xs ts := ⟨h.1, fun i x e => by
  obtain ⟨p, m, d, h1, h2, h3⟩ := h.2 i x e
  exact ⟨p, m, d, h1, h2, k _ _ h3⟩⟩
theorem TermsAt.snoc {H : Hp} {xs : List V} {ts : List (Int × Int)} {p : Addr} {m d : Int} (h : TermsAt H xs ts) (e : H p = some (.tup [.int m, .int d])) : TermsAt H (xs ++ [.ref p]) (ts ++ [(m, d)]) := by
  refine ⟨by rw [List.length_append, List.length_append, h.1]; rfl, fun i x ex => ?_⟩
  by_cases hi : i < xs.length
  · rw [List.getElem?_append_left hi] at ex
    rw [List.getElem?_append_left (by rw [← h.1]; exact hi)]
    exact h.2 i x ex
  · rw [List.getElem?_append_right (by omega)] at ex
    have : i - xs.length = 0 := by
      have := (List.getElem?_eq_some_iff.mp ex).1
      rw [List.length_singleton] at this
      omega
    rw [this] at ex
    rw [List.getElem?_append_right (by rw [← h.1]; omega), ← h.1, this]
    exact ⟨p, m, d, rfl, (Option.some.inj ex).symm, e⟩
def spVerd (K : PySem.W.Frag) : Sp := fun vs H Q _ => ∃ (a s : Addr) (xs : List V) (ts : List (Int × Int)) (sg : List Int), vs = [.ref a, .ref s] ∧ (SqL K H a xs ∨ SqT K H a xs) ∧ TermsAt H xs ts ∧ SqT K H s (sg.map V.int) ∧
  (∀ t ∈ ts, 0 ≤ t.1 ∧ t.1 < (sg.length : Int)) ∧ Q (.int (verd sg ts)) H
section
variable {P : Program} {w : World} {K : PySem.W.Frag} {mg : Str → Option Value} {base : Heap}
abbrev sverdict : Stmt := top 1
theorem scverdict : FnScope ["terms", "step", "mark", "direction"] ["terms", "step"] (defScope sverdict) := ⟨rfl, rfl, rfl, by decide +kernel, rfl, by decide +kernel, by decide +kernel⟩
theorem ok_verdict {f : Addr} {fd : FuncData} (F : Fun K "verdict" "verdict" sverdict f fd) : FnOk P w K mg base CX0 1 f fd ["terms", "step"] (spVerd K) := by
  refine F.ok scverdict (fun vs H Q E h => ?_) (fun cdv A outer s H vs Q E hr h => ?_)
  · obtain ⟨a, s', xs, ts, sg, rfl, _⟩ := h
    rfl
  obtain ⟨a, s', xs, ts, sg, rfl, hA, hT, hS, hB, q⟩ := h
  rcases hA with hA | hA
  · refine ⟨_, (pss_cons (ps_for PassesOwn.never rfl (pi_list (pv 0)) (pg_tup (by rfl) (pgs_cons (pg_name (i := 2) scverdict.nd rfl (Or.inl rfl)) (pgs_cons (pg_name (i := 3) scverdict.nd rfl (Or.inl rfl)) pgs_nil)))
    (pss_one (ps_if (pt_cmpR op_ne (pe_ix ix_tup (pv 1) (pv 2) (fun _ _ => rfl)) pe_int (nomark _))
      (pss_one (ps_ret (pe_ifExp (pt_cmpR op_eq (pe_ix ix_tup (pv 1) (pv 2) (fun _ _ => rfl)) (pv 3) (nomark _)) pe_int (pe_un un_neg pe_int))))
      pss_nil)))
  (pss_one (ps_ret pe_int))), ?_⟩
    have hlen := hT.1
    have drop1 : ∀ {i : Nat} {t : Int × Int}, ts[i]? = some t → ts.drop i = t :: ts.drop (i + 1) := fun {i t} e => by
      obtain ⟨h1, h2⟩ := List.getElem?_eq_some_iff.mp e
      rw [List.drop_eq_getElem_cons h1, h2]
    refine ⟨.ref a, rfl, a, rfl, ⟨_, hA⟩, for_list (K := K) (a := a) (xs := xs) (fun i σ H' => ∃ y2 y3, σ = [some (.ref a), some (.ref s'), y2, y3] ∧ H' = H ∧ verd sg ts = verd sg (ts.drop i))
      ⟨none, none, rfl, rfl, by rw [List.drop_zero]⟩ (fun i σ H' _ ⟨_, _, _, e, _⟩ => by rw [e]; exact hA) ?_ ?_⟩
    · rintro i x σ H' hx ⟨y2, y3, rfl, rfl, ev⟩
      obtain ⟨p, m, d, h1, rfl, h3⟩ := hT.2 i x hx
      obtain ⟨b1, b2⟩ := hB (m, d) (List.mem_of_getElem? h1)
      obtain ⟨v, hv, hat⟩ := atI_ints (cs := sg) b1 b2
      have hg : sg.getD m.toNat 0 = v := by rw [List.getD_eq_getElem?_getD, hv]; rfl
      refine ⟨p, [.int m, .int d], rfl, SqT.of h3, rfl, _, _, rfl, _, _, rfl, rfl, ?_⟩
      refine ⟨_, rfl, _, rfl, s', _, m, .int v, rfl, rfl, hS, hat, rfl, _, rfl, ite2 (fun e => ?_) (fun e => ?_)⟩
      · have ne : v ≠ 0 := fun z => by
          subst z
          rw [decide_eq_true rfl] at e
          cases e
        rw [ev, drop1 h1, verd_hit (by rw [hg]; exact ne)] at q
        refine ⟨_, rfl, _, rfl, s', _, m, .int v, rfl, rfl, hS, hat, _, rfl, rfl, _, rfl, ite2 (fun e2 => ?_) (fun e2 => ?_)⟩
        · have := V.int.inj (of_decide_eq_true e2)
          rw [if_pos (by rw [hg]; exact this)] at q
          exact q
        · have : ¬ v = d := fun z => by
            subst z
            rw [decide_eq_true rfl] at e2
            exact e2 rfl
          rw [if_neg (by rw [hg]; exact this)] at q
          exact ⟨_, rfl, q⟩
      · have z : v = 0 := by
          by_cases z : v = 0
          · exact z
          · rw [decide_eq_false (fun k => z (V.int.inj k))] at e
            exact absurd rfl e
        refine ⟨_, _, rfl, rfl, ?_⟩
        rw [ev, drop1 h1, verd_skip (by rw [hg]; exact z)]
    · rintro σ H' ⟨y2, y3, rfl, rfl, ev⟩
      rw [ev, hlen, List.drop_length] at q
      exact q
  · refine ⟨_, (pss_cons (ps_for PassesOwn.never rfl (pi_tup (pv 0)) (pg_tup (by rfl) (pgs_cons (pg_name (i := 2) scverdict.nd rfl (Or.inl rfl)) (pgs_cons (pg_name (i := 3) scverdict.nd rfl (Or.inl rfl)) pgs_nil)))
    (pss_one (ps_if (pt_cmpR op_ne (pe_ix ix_tup (pv 1) (pv 2) (fun _ _ => rfl)) pe_int (nomark _))
      (pss_one (ps_ret (pe_ifExp (pt_cmpR op_eq (pe_ix ix_tup (pv 1) (pv 2) (fun _ _ => rfl)) (pv 3) (nomark _)) pe_int (pe_un un_neg pe_int))))
      pss_nil)))
  (pss_one (ps_ret pe_int))), ?_⟩
    have hlen := hT.1
    have drop1 : ∀ {i : Nat} {t : Int × Int}, ts[i]? = some t → ts.drop i = t :: ts.drop (i + 1) := fun {i t} e => by
      obtain ⟨h1, h2⟩ := List.getElem?_eq_some_iff.mp e
      rw [List.drop_eq_getElem_cons h1, h2]
    refine ⟨.ref a, rfl, a, rfl, ⟨_, hA⟩, for_tup (K := K) (a := a) (xs := xs) (fun i σ H' => ∃ y2 y3, σ = [some (.ref a), some (.ref s'), y2, y3] ∧ H' = H ∧ verd sg ts = verd sg (ts.drop i))
      ⟨none, none, rfl, rfl, by rw [List.drop_zero]⟩ (fun i σ H' _ ⟨_, _, _, e, _⟩ => by rw [e]; exact hA) ?_ ?_⟩
    · rintro i x σ H' hx ⟨y2, y3, rfl, rfl, ev⟩
      obtain ⟨p, m, d, h1, rfl, h3⟩ := hT.2 i x hx
      obtain ⟨b1, b2⟩ := hB (m, d) (List.mem_of_getElem? h1)
      obtain ⟨v, hv, hat⟩ := atI_ints (cs := sg) b1 b2
      have hg : sg.getD m.toNat 0 = v := by rw [List.getD_eq_getElem?_getD, hv]; rfl
      refine ⟨p, [.int m, .int d], rfl, SqT.of h3, rfl, _, _, rfl, _, _, rfl, rfl, ?_⟩
      refine ⟨_, rfl, _, rfl, s', _, m, .int v, rfl, rfl, hS, hat, rfl, _, rfl, ite2 (fun e => ?_) (fun e => ?_)⟩
      · have ne : v ≠ 0 := fun z => by
          subst z
          rw [decide_eq_true rfl] at e
          cases e
        rw [ev, drop1 h1, verd_hit (by rw [hg]; exact ne)] at q
        refine ⟨_, rfl, _, rfl, s', _, m, .int v, rfl, rfl, hS, hat, _, rfl, rfl, _, rfl, ite2 (fun e2 => ?_) (fun e2 => ?_)⟩
        · have := V.int.inj (of_decide_eq_true e2)
          rw [if_pos (by rw [hg]; exact this)] at q
          exact q
        · have : ¬ v = d := fun z => by
            subst z
            rw [decide_eq_true rfl] at e2
            exact e2 rfl
          rw [if_neg (by rw [hg]; exact this)] at q
          exact ⟨_, rfl, q⟩
      · have z : v = 0 := by
          by_cases z : v = 0
          · exact z
          · rw [decide_eq_false (fun k => z (V.int.inj k))] at e
            exact absurd rfl e
        refine ⟨_, _, rfl, rfl, ?_⟩
        rw [ev, drop1 h1, verd_skip (by rw [hg]; exact z)]
    · rintro σ H' ⟨y2, y3, rfl, rfl, ev⟩
      rw [ev, hlen, List.drop_length] at q
      exact q
end
end VL

namespace VL
open PySem PySem.Spec PyProof.Rows L2
open C8 (Cal pe_c)
def spLaw (K : PySem.W.Frag) : Sp := fun vs H Q _ => ∃ (a : Addr) (ns : List Int), vs = [.ref a] ∧ SqL K H a (ns.map V.int) ∧ ns.length ≤ 63 ∧ ∀ H', Q (.bl true) H'
section
variable {P : Program} {w : World} {K : PySem.W.Frag} {mg : Str → Option Value} {base : Heap}
abbrev slaw : Stmt := top 6
theorem sclaw : FnScope ["_law_script", "_law_box_here", "_law_count", "_law_dense", "_law_signs", "_law_k", "_law_sign", "_law_terms", "_law_due", "_law_term", "_law_given"] ["_law_script"] (defScope slaw) := ⟨rfl, rfl, rfl, by decide +kernel, rfl, by decide +kernel, by decide +kernel⟩
theorem ok_law {f : Addr} {fd : FuncData} (F : Fun K "law" "law" slaw f fd) (T : Tx mg) (cLbox : Cal P w K mg base 1 "_law_box" (spBox K) []) (cLtake : Cal P w K mg base 1 "_law_take" spTake []) (cLsame : Cal P w K mg base 3 "_law_same" (spSame 3) []) (cverdict : Cal P w K mg base 1 "verdict" (spVerd K) []) :
    FnOk P w K mg base CX0 4 f fd ["_law_script"] (spLaw K) := by
  refine F.ok sclaw (fun vs H Q E h => ?_) (fun cdv A outer s H vs Q E hr h => ?_)
  · obtain ⟨a, ns, rfl, _⟩ := h
    rfl
  obtain ⟨a, ns, rfl, hS, h63, q⟩ := h
  refine ⟨_, (pss_cons (ps_set (i := 1) sclaw.nd rfl (Or.inl rfl) (pe_c cLbox hr (by decide) rfl (pa_cons (pv 0) pa_nil)))
  (pss_cons (ps_set (i := 2) sclaw.nd rfl (Or.inl rfl) (pe_op op_add pe_int (pe_c cLtake hr (by decide) rfl (pa_cons (pv 1) (pa_cons pe_int pa_nil)))))
  (pss_cons (ps_set (i := 3) sclaw.nd rfl (Or.inl rfl) (pe_op op_add pe_int (pe_c cLtake hr (by decide) rfl (pa_cons (pv 1) (pa_cons pe_int pa_nil)))))
  (pss_cons (ps_set (i := 4) sclaw.nd rfl (Or.inl rfl) (pe_lst pa_nil))
  (pss_cons (ps_for PassesOwn.never rfl (pi_range1 rfl T.range (pa_cons (pv 2) pa_nil)) (pg_name (i := 5) sclaw.nd rfl (Or.inl rfl))
    (pss_cons (ps_set (i := 6) sclaw.nd rfl (Or.inl rfl) (pe_op op_sub (pe_c cLtake hr (by decide) rfl (pa_cons (pv 1) (pa_cons pe_int pa_nil))) pe_int))
    (pss_one (ps_expr (pe_bm PySem.F.plainAttrs_list PySem.F.slot_list_append PySem.F.type_list_append mt_append (pv 4) (pa_cons (pe_op op_mul (pv 6) (pe_callTy call_int1 (by rfl) T.int (by decide +kernel) (pa_cons (pe_cmpR op_eq (pe_c cLtake hr (by decide) rfl (pa_cons (pv 1) (pa_cons (pv 3) pa_nil))) pe_int (nomark _)) pa_nil))) pa_nil))))))
  (pss_cons (ps_set (i := 7) sclaw.nd rfl (Or.inl rfl) (pe_lst pa_nil))
  (pss_cons (ps_for PassesOwn.never rfl (pi_range1 rfl T.range (pa_cons (pe_c cLtake hr (by decide) rfl (pa_cons (pv 1) (pa_cons pe_int pa_nil))) pa_nil)) (pg_name (i := 5) sclaw.nd rfl (Or.inl rfl))
    (pss_one (ps_expr (pe_bm PySem.F.plainAttrs_list PySem.F.slot_list_append PySem.F.type_list_append mt_append (pv 7) (pa_cons (pe_tup (pa_cons (pe_c cLtake hr (by decide) rfl (pa_cons (pv 1) (pa_cons (pv 2) pa_nil))) (pa_cons (pe_op op_sub pe_int (pe_op op_mul pe_int (pe_c cLtake hr (by decide) rfl (pa_cons (pv 1) (pa_cons pe_int pa_nil))))) pa_nil))) pa_nil)))))
  (pss_cons (ps_set (i := 8) sclaw.nd rfl (Or.inl rfl) pe_int)
  (pss_cons (ps_for PassesOwn.never rfl (pi_list (pv 7)) (pg_name (i := 9) sclaw.nd rfl (Or.inl rfl))
    (pss_one (ps_if (PW.pt (pw_and (pt_cmpR op_eq (pv 8) pe_int (nomark _)) (pw_and1 (pt_cmpR op_ne (pe_ix ix_list (pv 4) (pe_ix ix_tup (pv 9) pe_int (fun _ _ => rfl)) (fun _ _ => rfl)) pe_int (nomark _)))))
      (pss_cons (ps_set (i := 8) sclaw.nd rfl (Or.inl rfl) (pe_un un_neg pe_int))
      (pss_one (ps_if (pt_cmpR op_eq (pe_ix ix_list (pv 4) (pe_ix ix_tup (pv 9) pe_int (fun _ _ => rfl)) (fun _ _ => rfl)) (pe_ix ix_tup (pv 9) pe_int (fun _ _ => rfl)) (nomark _))
        (pss_one (ps_set (i := 8) sclaw.nd rfl (Or.inl rfl) pe_int))
        pss_nil)))
      pss_nil)))
  (pss_cons (ps_set (i := 10) sclaw.nd rfl (Or.inl rfl) (pe_callTy call_list_of (by rfl) T.list (by decide +kernel) (pa_cons (pv 7) pa_nil)))
  (pss_cons (ps_if (PW.pt (pw_or (pt_not (pt_val (pe_c cLsame hr (by decide) rfl (pa_cons (pe_c cverdict hr (by decide) rfl (pa_cons (pv 10) (pa_cons (pe_callTy call_tuple_of (by rfl) T.tuple (by decide +kernel) (pa_cons (pv 4) pa_nil)) pa_nil))) (pa_cons (pv 8) pa_nil))))) (pw_or1 (pt_not (pt_val (pe_c cLsame hr (by decide) rfl (pa_cons (pv 10) (pa_cons (pv 7) pa_nil))))))))
    (pss_one (ps_ret pe_bl))
    pss_nil)
  (pss_one (ps_ret (pe_c cLsame hr (by decide) rfl (pa_cons (pe_c cverdict hr (by decide) rfl (pa_cons (pe_callTy call_tuple_of (by rfl) T.tuple (by decide +kernel) (pa_cons (pv 7) pa_nil)) (pa_cons (pe_callTy call_tuple_of (by rfl) T.tuple (by decide +kernel) (pa_cons (pv 4) pa_nil)) pa_nil))) (pa_cons (pv 8) pa_nil)))))))))))))))), ?_⟩
  -- the box
  refine ⟨_, rfl, a, ns, rfl, hS, h63, fun b L H1 _ _ _ B1 => ?_⟩
  -- count, dense
  refine ⟨_, rfl, b, L, 8, rfl, by decide, by decide, B1, fun v1 o1 v10 v11 B2 ho1 => ⟨_, _, rfl, rfl, ?_⟩⟩
  refine ⟨_, rfl, b, L, 3, rfl, by decide, by decide, B2, fun v2 o2 v20 v21 B3 ho2 => ⟨_, _, rfl, rfl, ?_⟩⟩
  generalize upd (upd H1 b o1) b o2 = H3 at B3 ⊢
  -- signs = []
  refine ⟨Nat.zero_le _, fun l nl => ?_⟩
  obtain ⟨lb, lL⟩ := B3.new nl
  have B4 := B3.upd (o := .lst []) lb lL
  have e4 : (upd H3 l (.lst [])) l = some (.lst []) := upd_same
  generalize upd H3 l (.lst []) = H4 at B4 e4 ⊢
  -- the first loop
  refine ⟨_, rfl, _, rfl, by omega, by omega, for_range (lo := 0) (n := (1 + v1).toNat) (fun i σ H' => ∃ (sg : List Int) (y5 y6 : Option V), σ = [some (.ref a), some (.ref b), some (.int (1 + v1)), some (.int (1 + v2)), some (.ref l), y5, y6, none, none, none, none] ∧
      Box H' b L ∧ H' l = some (.lst (sg.map V.int)) ∧ sg.length = i) ⟨[], none, none, rfl, B4, e4, rfl⟩ ?_ ?_⟩
  · rintro i σ H' hi ⟨sg, y5, y6, rfl, B, el, hl⟩
    refine ⟨_, rfl, b, L, 3, rfl, by decide, by decide, B, fun v3 o3 v30 v31 B5 ho3 => ⟨_, _, rfl, rfl, ?_⟩⟩
    have e5 : (upd H' b o3) l = some (.lst (sg.map V.int)) := by rw [upd_ne lb]; exact el
    refine ⟨_, rfl, .inl ⟨rfl, _, SqL.of e5⟩, _, rfl, _, rfl, _, rfl, b, L, _, rfl, by omega, by omega, B5, fun v4 o4 v40 v41 B6 ho4 => ?_⟩
    have e6 : (upd (upd H' b o3) b o4) l = some (.lst (sg.map V.int)) := by rw [upd_ne lb]; exact e5
    refine ⟨rfl, .inr ⟨_, rfl, _, _, rfl, rfl, .inl ⟨by omega, by omega⟩, l, _, _, rfl, rfl, e6, ?_, ?_⟩⟩
    · rw [List.length_map]
      exact small1000 (by omega)
    · exact ⟨sg ++ [(v3 - 1) * (if decide (V.int v4 = V.int 0) then 1 else 0)], _, _, rfl, B6.upd lb lL, by rw [upd_same, List.map_append]; rfl, by rw [List.length_append, hl]; rfl⟩
  rintro σ H5 ⟨sg, y5, y6, rfl, B5, el, hl⟩
  -- terms = []
  refine ⟨Nat.zero_le _, fun t nt => ?_⟩
  obtain ⟨tb, tL⟩ := B5.new nt
  have tl : t ≠ l := (ne_of_none el nt).symm
  have B6 := B5.upd (o := .lst []) tb tL
  have e6l : (upd H5 t (.lst [])) l = some (.lst (sg.map V.int)) := by rw [upd_ne tl.symm]; exact el
  have e6t : (upd H5 t (.lst [])) t = some (.lst []) := upd_same
  generalize upd H5 t (.lst []) = H6 at B6 e6l e6t ⊢
  -- the second loop
  refine ⟨_, rfl, b, L, 13, rfl, by decide, by decide, B6, fun v7 o7 v70 v71 B7 ho7 => ?_⟩
  refine ⟨_, rfl, by omega, by omega, for_range (lo := 0) (n := v7.toNat) (fun i σ H' => ∃ (ts : List (Int × Int)) (xs : List V) (y5 : Option V), σ = [some (.ref a), some (.ref b), some (.int (1 + v1)), some (.int (1 + v2)), some (.ref l), y5, y6, some (.ref t), none, none, none] ∧
      Box H' b L ∧ H' l = some (.lst (sg.map V.int)) ∧ H' t = some (.lst xs) ∧ TermsAt H' xs ts ∧ ts.length = i ∧ ∀ p ∈ ts, 0 ≤ p.1 ∧ p.1 < (sg.length : Int))
      ⟨[], [], y5, rfl, B7, by rw [upd_ne lb]; exact e6l, by rw [upd_ne tb]; exact e6t, ⟨rfl, fun i x e => by cases e⟩, rfl, fun p hp => by cases hp⟩ ?_ ?_⟩
  · rintro i σ H' hi ⟨ts, xs, y5, rfl, B, el', et, hT, ht, hm⟩
    refine ⟨_, rfl, .inl ⟨rfl, _, SqL.of et⟩, ?_⟩
    refine ⟨_, rfl, _, rfl, b, L, _, rfl, by omega, by omega, B, fun v8 o8 v80 v81 B8 ho8 => ?_⟩
    refine ⟨_, rfl, b, L, 2, rfl, by decide, by decide, B8, fun v9 o9 v90 v91 B9 ho9 => ?_⟩
    have kt8 : KT H' (upd H' b o8) := by
      obtain ⟨zs, ez⟩ := B.lst
      exact KT.upd ez
    have kt9 : KT (upd H' b o8) (upd (upd H' b o8) b o9) := by
      obtain ⟨zs, ez⟩ := B8.lst
      exact KT.upd ez
    have kt := kt8.trans kt9
    have e9l : (upd (upd H' b o8) b o9) l = some (.lst (sg.map V.int)) := by rw [upd_ne lb, upd_ne lb]; exact el'
    have e9t : (upd (upd H' b o8) b o9) t = some (.lst xs) := by rw [upd_ne tb, upd_ne tb]; exact et
    generalize upd (upd H' b o8) b o9 = H9 at B9 kt e9l e9t ⊢
    refine ⟨_, _, rfl, rfl, .inl ⟨by decide, by decide⟩, _, _, rfl, rfl, (by show 2 ≤ sizeLine; decide), fun p np => ?_⟩
    have sp : Same H9 (upd H9 p (.tup [.int v8, .int (1 - 2 * v9)])) := same_upd np
    have ep : (upd H9 p (.tup [.int v8, .int (1 - 2 * v9)])) p = some (.tup [.int v8, .int (1 - 2 * v9)]) := upd_same
    have e10t := sp _ _ e9t
    refine ⟨t, _, _, rfl, rfl, e10t, ?_, ?_⟩
    · rw [hT.1]
      exact small1000 (by omega)
    · have k2 : KT H' (upd (upd H9 p (.tup [.int v8, .int (1 - 2 * v9)])) t (.lst (xs ++ [.ref p]))) := (kt.trans (KT.of sp)).trans (KT.upd e10t)
      refine ⟨ts ++ [(v8, 1 - 2 * v9)], xs ++ [.ref p], _, rfl, (B9.same sp).upd tb tL, ?_, upd_same, (hT.keep k2).snoc ?_, by rw [List.length_append, ht]; rfl, fun z hz => ?_⟩
      · rw [upd_ne tl.symm]
        exact sp _ _ e9l
      · rw [upd_ne (ne_of ep e10t (by intro z; cases z))]
        exact ep
      · rcases List.mem_append.mp hz with h | h
        · exact hm z h
        · rw [List.mem_singleton.mp h, hl]
          exact ⟨v80, by show v8 < _; omega⟩
  rintro σ H10 ⟨ts, xs, y5', rfl, B10, e10l, e10t, hT, ht, hm⟩
  have hlen := hT.1
  -- due = 0, the third loop
  refine ⟨_, rfl, t, rfl, ⟨_, SqL.of e10t⟩, for_list (K := K) (a := t) (xs := xs) (fun i σ H' => ∃ (y9 : Option V), σ = [some (.ref a), some (.ref b), some (.int (1 + v1)), some (.int (1 + v2)), some (.ref l), y5', y6, some (.ref t), some (.int (verd sg (ts.take i))), y9, none] ∧ H' = H10)
      ⟨none, rfl, rfl⟩ (fun i σ H' _ ⟨_, _, e⟩ => by rw [e]; exact SqL.of e10t) ?_ ?_⟩
  · rintro i x σ H' hx ⟨y9, rfl, rfl⟩
    obtain ⟨p, m, d, h1, rfl, h3⟩ := hT.2 i x hx
    obtain ⟨b1, b2⟩ := hm (m, d) (List.mem_of_getElem? h1)
    obtain ⟨v, hv, hat⟩ := atI_ints (cs := sg) b1 b2
    have hg : sg.getD m.toNat 0 = v := by rw [List.getD_eq_getElem?_getD, hv]; rfl
    have et : ts.take (i + 1) = ts.take i ++ [(m, d)] := by rw [List.take_add_one, h1]; rfl
    have pT : SqT K H' p [.int m, .int d] := SqT.of h3
    have sL : SqL K H' l (sg.map V.int) := SqL.of e10l
    refine ⟨_, rfl, rfl, _, rfl, ite2 (fun e => ?_) (fun e => ?_)⟩
    · have z0 : verd sg (ts.take i) = 0 := V.int.inj (of_decide_eq_true e)
      have ev : verd sg (ts.take (i + 1)) = verd sg [(m, d)] := by rw [et, verd_app0 z0]
      refine ⟨_, rfl, _, rfl, p, _, 0, _, rfl, rfl, pT, atI0, l, _, m, .int v, rfl, rfl, sL, hat, rfl, _, rfl, ite2 (fun e1 => ?_) (fun e1 => ?_)⟩
      · have ne : v ≠ 0 := fun z => by
          subst z
          rw [decide_eq_true rfl] at e1
          cases e1
        rw [verd_hit (by rw [hg]; exact ne), hg] at ev
        refine ⟨1, rfl, ?_⟩
        refine ⟨_, rfl, _, rfl, p, _, 0, _, rfl, rfl, pT, atI0, l, _, m, .int v, rfl, rfl, sL, hat, ?_⟩
        refine ⟨_, rfl, p, _, 1, .int d, rfl, rfl, pT, atI_nat (j := 1) rfl, rfl, _, rfl, ite2 (fun e2 => ?_) (fun e2 => ?_)⟩
        · have := V.int.inj (of_decide_eq_true e2)
          rw [if_pos this] at ev
          exact ⟨_, by rw [ev]; rfl, rfl⟩
        · have : ¬ v = d := fun z => by
            subst z
            rw [decide_eq_true rfl] at e2
            exact e2 rfl
          rw [if_neg this] at ev
          exact ⟨_, by rw [ev]; rfl, rfl⟩
      · have z : v = 0 := by
          by_cases z : v = 0
          · exact z
          · rw [decide_eq_false (fun k => z (V.int.inj k))] at e1
            exact absurd rfl e1
        have ez : verd sg [(m, d)] = 0 := verd_skip (by rw [hg]; exact z)
        exact ⟨_, by rw [ev, ez, ← z0]; rfl, rfl⟩
    · have z0 : verd sg (ts.take i) ≠ 0 := fun z => by
        rw [z, decide_eq_true rfl] at e
        exact e rfl
      refine iteF ?_
      exact ⟨_, by rw [et, verd_app1 z0]; rfl, rfl⟩
  rintro σ H' ⟨y9, rfl, rfl⟩
  rw [hlen, List.take_length]
  -- given = list(terms)
  refine ⟨_, rfl, t, xs, rfl, .inl (SqL.of e10t), fun g ng => ?_⟩
  have s1 : Same H' (upd H' g (.lst xs)) := same_upd ng
  have eg : (upd H' g (.lst xs)) g = some (.lst xs) := upd_same
  have T1 := hT.keep (KT.of s1)
  have l1 := s1 _ _ e10l
  have t1 := s1 _ _ e10t
  generalize upd H' g (.lst xs) = G at s1 eg T1 l1 t1 ⊢
  refine ⟨_, rfl, _, rfl, l, _, rfl, .inl ⟨SqL.of l1, fun p1 np1 => ?_⟩⟩
  have s2 : Same G (upd G p1 (.tup (sg.map V.int))) := same_upd np1
  refine ⟨g, p1, xs, ts, sg, rfl, .inl (SqL.of (s2 _ _ eg)), T1.keep (KT.of s2), SqT.of upd_same, hm, _, rfl, _, _, rfl, Sm.flat rfl, _, rfl, iteF' rfl ?_⟩
  have T2 := T1.keep (KT.of s2)
  have g2 := s2 _ _ eg
  have l2 := s2 _ _ l1
  have t2 := s2 _ _ t1
  generalize upd G p1 (.tup (sg.map V.int)) = G2 at T2 g2 l2 t2 ⊢
  refine ⟨_, rfl, _, rfl, _, _, rfl, ?_, _, rfl, iteF' rfl ?_⟩
  · refine Sm.lst g2 t2 rfl (by rw [hlen]; omega) fun i u v hu hv => ?_
    rw [hu] at hv
    cases hv
    obtain ⟨p, m, d, _, rfl, h3⟩ := T2.2 i u hu
    exact Sm.tupF h3 h3 (by show 2 ≤ 100000; decide) fun x hx => by
      rcases List.mem_cons.mp hx with rfl | hx
      · rfl
      · rcases List.mem_cons.mp hx with rfl | hx
        · rfl
        · cases hx
  -- the last call
  refine ⟨_, rfl, t, xs, rfl, .inl ⟨SqL.of t2, fun p2 np2 => ?_⟩⟩
  have s3 : Same G2 (upd G2 p2 (.tup xs)) := same_upd np2
  have e3 : (upd G2 p2 (.tup xs)) p2 = some (.tup xs) := upd_same
  have T3 := T2.keep (KT.of s3)
  have l3 := s3 _ _ l2
  generalize upd G2 p2 (.tup xs) = G3 at T3 e3 l3 ⊢
  refine ⟨_, rfl, l, _, rfl, .inl ⟨SqL.of l3, fun p3 np3 => ?_⟩⟩
  have s4 : Same G3 (upd G3 p3 (.tup (sg.map V.int))) := same_upd np3
  exact ⟨p2, p3, xs, ts, sg, rfl, .inr (SqT.of (s4 _ _ e3)), T3.keep (KT.of s4), SqT.of upd_same, hm, _, rfl, _, _, rfl, Sm.flat rfl, q _⟩
end
end VL

namespace VL
open PySem PySem.Spec PyProof.Rows L2
open C8 (Cal pe_c)
theorem all_mk {l : PySem.W.OpenLaw} {w : World} {K : PySem.W.Frag} {h : Heap} {mg : Str → Option Value} {fa f1 f2 f3 f4 f5 : Addr} (X : K.In h) (G : h.Ns mainGlobals mg) (hfa : mg "law" = some (.ref fa))
    {od1 an1 od2 an2 od3 an3 od4 an4 od5 an5 : Option Addr} {sl1 sl2 sl3 sl4 sl5 : Array (Option Value)} {oc1 kV1 dc1 pm1 cd1 ct1 oc2 kV2 dc2 pm2 cd2 ct2 oc3 kV3 dc3 pm3 cd3 ct3 oc4 kV4 dc4 pm4 cd4 ct4 oc5 kV5 dc5 pm5 cd5 ct5 : Value}
    (a1 : PySem.W.nsIn K mainGlobals "verdict" = some (some (.ref f1))) (l1 : K.lookup f1 = some ⟨oc1, od1, .func (PySem.W.fnOf "verdict" "verdict" (defArgs sverdict) (defBody sverdict) (defScope sverdict) .none kV1 dc1 pm1 an1 cd1 ct1), sl1⟩) (c1 : PySem.W.codeIn K cd1 "verdict" = true) (k1 : PySem.W.keepIn K (.ref f1) = true)
    (a2 : PySem.W.nsIn K mainGlobals "_law_box" = some (some (.ref f2))) (l2 : K.lookup f2 = some ⟨oc2, od2, .func (PySem.W.fnOf "_law_box" "_law_box" (defArgs sLbox) (defBody sLbox) (defScope sLbox) .none kV2 dc2 pm2 an2 cd2 ct2), sl2⟩) (c2 : PySem.W.codeIn K cd2 "_law_box" = true) (k2 : PySem.W.keepIn K (.ref f2) = true)
    (a3 : PySem.W.nsIn K mainGlobals "_law_take" = some (some (.ref f3))) (l3 : K.lookup f3 = some ⟨oc3, od3, .func (PySem.W.fnOf "_law_take" "_law_take" (defArgs sLtake) (defBody sLtake) (defScope sLtake) .none kV3 dc3 pm3 an3 cd3 ct3), sl3⟩) (c3 : PySem.W.codeIn K cd3 "_law_take" = true) (k3 : PySem.W.keepIn K (.ref f3) = true)
    (a4 : PySem.W.nsIn K mainGlobals "_law_same" = some (some (.ref f4))) (l4 : K.lookup f4 = some ⟨oc4, od4, .func (PySem.W.fnOf "_law_same" "_law_same" (defArgs sLsame) (defBody sLsame) (defScope sLsame) .none kV4 dc4 pm4 an4 cd4 ct4), sl4⟩) (c4 : PySem.W.codeIn K cd4 "_law_same" = true) (k4 : PySem.W.keepIn K (.ref f4) = true)
    (a5 : PySem.W.nsIn K mainGlobals "law" = some (some (.ref f5))) (l5 : K.lookup f5 = some ⟨oc5, od5, .func (PySem.W.fnOf "law" "law" (defArgs slaw) (defBody slaw) (defScope slaw) .none kV5 dc5 pm5 an5 cd5 ct5), sl5⟩) (c5 : PySem.W.codeIn K cd5 "law" = true) (k5 : PySem.W.keepIn K (.ref f5) = true)
    (zlen : PySem.W.nsIn K mainGlobals "len" = some none) (zlist : PySem.W.nsIn K mainGlobals "list" = some none) (zint : PySem.W.nsIn K mainGlobals "int" = some none) (zisinstance : PySem.W.nsIn K mainGlobals "isinstance" = some none) (zbool : PySem.W.nsIn K mainGlobals "bool" = some none) (zstr : PySem.W.nsIn K mainGlobals "str" = some none) (ztuple : PySem.W.nsIn K mainGlobals "tuple" = some none) (zrange : PySem.W.nsIn K mainGlobals "range" = some none) :
    ∃ fd : FuncData, (∀ (s : Shared) (v : Value), BindsTo s fd ⟨[v], []⟩ [("_law_script", v)]) ∧ ∀ base : Heap, K.In base → base.Ns mainGlobals mg → FnOk l.prog w K mg base CX0 4 fa fd ["_law_script"] (spLaw K) := by
  have e := hfa.symm.trans (PySem.W.mg_of X G a5)
  cases e
  have T : Tx mg := ⟨PySem.W.mg_none_of X G zlen, PySem.W.mg_none_of X G zlist, PySem.W.mg_none_of X G zint, PySem.W.mg_none_of X G zisinstance, PySem.W.mg_none_of X G zbool, PySem.W.mg_none_of X G zstr, PySem.W.mg_none_of X G ztuple, PySem.W.mg_none_of X G zrange⟩
  have F1 := fun_mk (st := sverdict) l1 c1 k1
  have F2 := fun_mk (st := sLbox) l2 c2 k2
  have F3 := fun_mk (st := sLtake) l3 c3 k3
  have F4 := fun_mk (st := sLsame) l4 c4 k4
  have F5 := fun_mk (st := slaw) l5 c5 k5
  have b1 := F1.binds (ps := ["terms", "step"]) fun _ _ _ _ _ _ us hl => match us, hl with | [_, _], _ => rfl
  have m1 := PySem.W.mg_of X G a1
  have b2 := F2.binds (ps := ["_law_script"]) fun _ _ _ _ _ _ us hl => match us, hl with | [_], _ => rfl
  have m2 := PySem.W.mg_of X G a2
  have b3 := F3.binds (ps := ["_law_box_here", "_law_size"]) fun _ _ _ _ _ _ us hl => match us, hl with | [_, _], _ => rfl
  have m3 := PySem.W.mg_of X G a3
  have b4 := F4.binds (ps := ["_law_actual", "_law_due"]) fun _ _ _ _ _ _ us hl => match us, hl with | [_, _], _ => rfl
  have m4 := PySem.W.mg_of X G a4
  exact ⟨PySem.W.fnOf "law" "law" (defArgs slaw) (defBody slaw) (defScope slaw) .none kV5 dc5 pm5 an5 cd5 ct5, fun s v => .of_eq rfl, fun base _ _ => ok_law F5 T (cal_of F2 (ok_box F2 T) m2 b2) (cal_of F3 (ok_take F3 T) m3 b3) (cal_same F4 T m4 b4 3) (cal_of F1 (ok_verdict F1) m1 b1)⟩
end VL
open PySem PySem.W PyProof.Rows
set_option maxHeartbeats 0 in
theorem PySem.Challenge.cw_shelfterms_k06_verdict_holds : PySem.Challenge.rw_shelfterms_k06_verdict.Holds := by
  w_on; o_law; k_head; (case hw => w_witness2)
  k_fill
  refine L2.walk_of (l := PySem.Challenge.rw_shelfterms_k06_verdict) (n := 63) (k := 4) (x := "_law_script") (CX := fun _ => L2.CX0) (sp := fun w => VL.spLaw _) rfl (by decide) rfl ⟨rfl, by decide, by decide⟩ (fun w h Y => PySem.W.kIn_of Y) ?F (fun _ _ a ns hl _ hS => ⟨a, ns, rfl, hS, hl, fun _ => rfl⟩) (fun _ _ _ _ _ h => h)
  case F =>
    intro w mg fa h KX G hmg
    refine' VL.all_mk KX G hmg ?a1 ?l1 ?c1 ?k1 ?a2 ?l2 ?c2 ?k2 ?a3 ?l3 ?c3 ?k3 ?a4 ?l4 ?c4 ?k4 ?a5 ?l5 ?c5 ?k5 ?zlen ?zlist ?zint ?zisinstance ?zbool ?zstr ?ztuple ?zrange
    (case a1 => k_is); (case l1 => k_is); (case c1 => k_is); (case k1 => k_is); (case a2 => k_is); (case l2 => k_is); (case c2 => k_is); (case k2 => k_is); (case a3 => k_is); (case l3 => k_is); (case c3 => k_is); (case k3 => k_is); (case a4 => k_is); (case l4 => k_is); (case c4 => k_is); (case k4 => k_is); (case a5 => k_is); (case l5 => k_is); (case c5 => k_is); (case k5 => k_is); (case zlen => k_is); (case zlist => k_is); (case zint => k_is); (case zisinstance => k_is); (case zbool => k_is); (case zstr => k_is); (case ztuple => k_is); (case zrange => k_is)

