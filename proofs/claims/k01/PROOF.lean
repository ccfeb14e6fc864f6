import PyProof.Rows.All
import Wide.All
import OpenK.AllK
import Wide.FinOn
import HandS.ForMost
import HandS.IsInst
import HandS.Codes
import HandS.Wide
import HandS.Walk
import HandS.Zip
import KE.GoesEnum
import HandS.Strs
import HandS.ClsMeth
import HandS.Star
import HandS.Style
import HandS.Defaults
import PyProof.CollectStr
import HandS.Nested
import HandS.NestedK
import HandS.ExcInit
import HandS.ExcField
import HandS.ExcIs
import HandS.WordsExc
import HandS.ExcSuper
import KE.KExcSuper
import KE.KSuper
import HandS.Dict
import HandS.WordsDict
import KE.KParD
import HandS.ExcCtx
import HandS.HotCalls
import KE.KExcIs
import HandS.OwnEq
import HandS.ExcInitHot
import KE.KStrOpen
import KE.RegKSuper
import PySem.Challenge.RW_shelfterms_k01_catalog_names
set_option Elab.async false
set_option linter.all false
set_option maxRecDepth 100000
set_option maxHeartbeats 4000000
namespace VL
open PySem PySem.Spec PyProof.Rows L2
open C8 (Cal pe_c)
/-! ### heaps -/
/-- all but b is kept -/
def Kp (b : Addr) (H H' : Hp) : Prop := ∀ c o, c ≠ b → H c = some o → H' c = some o
theorem Kp.refl (b : Addr) (H : Hp) : Kp b H H := fun _ _ _ h => h
theorem Kp.trans {b : Addr} {H H1 H2 : Hp} (x : Kp b H H1) (y : Kp b H1 H2) : Kp b H H2 := fun c o n h => y c o n (x c o n h)
theorem Kp.of {b : Addr} {H H' : Hp} (x : Same H H') : Kp b H H' := fun c o _ h => x c o h
theorem Kp.upd {b : Addr} {H : Hp} (o : HO) : Kp b H (upd H b o) := fun c u n h => by
  rw [upd_ne n]
  exact h
theorem same_upd {H : Hp} {p : Addr} {o : HO} (h : H p = none) : Same H (upd H p o) := fun b x e => by
  rw [upd_ne (ne_of_none e h)]
  exact e
theorem _root_.L2.Same.sqt {K : PySem.W.Frag} {H H' : Hp} {a : Addr} {xs : List V} (e : Same H H') (h : SqT K H a xs) : SqT K H' a xs := by
  rcases h with (h | ⟨o, h⟩) | h
  · exact .inl (.inl (e _ _ h))
  · exact .inl (.inr ⟨o, e _ _ h⟩)
  · exact .inr h
/-- tuples are kept -/
def KT (H H' : Hp) : Prop := ∀ c xs, H c = some (.tup xs) → H' c = some (.tup xs)
theorem KT.refl (H : Hp) : KT H H := fun _ _ h => h
theorem KT.trans {H H1 H2 : Hp} (x : KT H H1) (y : KT H1 H2) : KT H H2 := fun c xs h => y c xs (x c xs h)
theorem KT.of {H H' : Hp} (x : Same H H') : KT H H' := fun c xs h => x c _ h
theorem KT.lst {H H' : Hp} {b : Addr} {xs : List V} (x : Kp b H H') (h : H b = some (.lst xs)) : KT H H' := fun c ys e => x c _ (ne_of e h (by intro z; cases z)) e
theorem KT.upd {H : Hp} {b : Addr} {xs : List V} {o : HO} (h : H b = some (.lst xs)) : KT H (upd H b o) := KT.lst (Kp.upd o) h

theorem upd_self {H : Hp} {b : Addr} {o : HO} (h : H b = some o) : L2.upd H b o = H := by
  funext c
  by_cases e : c = b
  · subst e; rw [upd_same, h]
  · rw [upd_ne e]

/-! ### the script's box -/
/-- the law's box stands at b: the cells in the list at L, the place, the rest, the seed -/
def Box (H : Hp) (b L : Addr) : Prop := ∃ (cs : List Int) (p r x : Int), L ≠ b ∧ H L = some (.lst (cs.map V.int)) ∧ H b = some (.lst [.ref L, .int p, .int r, .int x]) ∧ 0 ≤ p ∧ 0 ≤ x ∧ x < 2147483647
theorem Box.lst {H : Hp} {b L : Addr} (h : Box H b L) : ∃ xs, H b = some (.lst xs) := by
  obtain ⟨cs, p, r, x, _, _, h, _⟩ := h
  exact ⟨_, h⟩
theorem Box.lstL {H : Hp} {b L : Addr} (h : Box H b L) : ∃ xs, H L = some (.lst xs) := by
  obtain ⟨cs, p, r, x, _, h, _⟩ := h
  exact ⟨_, h⟩
theorem Box.same {H H' : Hp} {b L : Addr} (h : Box H b L) (s : Same H H') : Box H' b L := by
  obtain ⟨cs, p, r, x, n, hL, hb, q⟩ := h
  exact ⟨cs, p, r, x, n, s _ _ hL, s _ _ hb, q⟩
/-- another object may change -/
theorem Box.upd {H : Hp} {b L l : Addr} {o : HO} (h : Box H b L) (h1 : l ≠ b) (h2 : l ≠ L) : Box (L2.upd H l o) b L := by
  obtain ⟨cs, p, r, x, n, hL, hb, q⟩ := h
  exact ⟨cs, p, r, x, n, by rw [upd_ne h2.symm]; exact hL, by rw [upd_ne h1.symm]; exact hb, q⟩
/-- a new object is neither -/
theorem Box.new {H : Hp} {b L l : Addr} (h : Box H b L) (n : H l = none) : l ≠ b ∧ l ≠ L := by
  obtain ⟨xs, h1⟩ := h.lst
  obtain ⟨ys, h2⟩ := h.lstL
  exact ⟨(ne_of_none h1 n).symm, (ne_of_none h2 n).symm⟩

/-! ### the same data -/
def flt : V → Bool
  | .non => true
  | .bl _ => true
  | .int _ => true
  | .str _ => true
  | _ => false
/-- x and y hold the same data, of depth n at most -/
def Sm (H : Hp) : Nat → V → V → Prop
  | 0, x, y => x = y ∧ flt y = true
  | n + 1, x, y => (x = y ∧ flt y = true) ∨ ∃ (a b : Addr) (xs ys : List V), x = .ref a ∧ y = .ref b ∧
      ((H a = some (.lst xs) ∧ H b = some (.lst ys)) ∨ (H a = some (.tup xs) ∧ H b = some (.tup ys))) ∧ xs.length = ys.length ∧ xs.length ≤ 100000 ∧ ∀ (i : Nat) u v, xs[i]? = some u → ys[i]? = some v → Sm H n u v
theorem Sm.flat {H : Hp} {n : Nat} {x : V} (h : flt x = true) : Sm H n x x := by
  cases n with
  | zero => exact ⟨rfl, h⟩
  | succ n => exact .inl ⟨rfl, h⟩
theorem Sm.tup {H : Hp} {n : Nat} {a b : Addr} {xs ys : List V} (ha : H a = some (.tup xs)) (hb : H b = some (.tup ys)) (hl : xs.length = ys.length) (hz : xs.length ≤ 100000) (h : ∀ (i : Nat) u v, xs[i]? = some u → ys[i]? = some v → Sm H n u v) : Sm H (n + 1) (.ref a) (.ref b) :=
  .inr ⟨a, b, xs, ys, rfl, rfl, .inr ⟨ha, hb⟩, hl, hz, h⟩
theorem Sm.lst {H : Hp} {n : Nat} {a b : Addr} {xs ys : List V} (ha : H a = some (.lst xs)) (hb : H b = some (.lst ys)) (hl : xs.length = ys.length) (hz : xs.length ≤ 100000) (h : ∀ (i : Nat) u v, xs[i]? = some u → ys[i]? = some v → Sm H n u v) : Sm H (n + 1) (.ref a) (.ref b) :=
  .inr ⟨a, b, xs, ys, rfl, rfl, .inl ⟨ha, hb⟩, hl, hz, h⟩
/-- two sequences of the same flat things -/
theorem Sm.tupF {H : Hp} {n : Nat} {a b : Addr} {xs : List V} (ha : H a = some (.tup xs)) (hb : H b = some (.tup xs)) (hz : xs.length ≤ 100000) (h : ∀ x ∈ xs, flt x = true) : Sm H (n + 1) (.ref a) (.ref b) :=
  Sm.tup ha hb rfl hz fun i u v hu hv => by
    rw [hu] at hv
    cases hv
    exact Sm.flat (h _ (List.mem_of_getElem? hu))
theorem Sm.lstF {H : Hp} {n : Nat} {a b : Addr} {xs : List V} (ha : H a = some (.lst xs)) (hb : H b = some (.lst xs)) (hz : xs.length ≤ 100000) (h : ∀ x ∈ xs, flt x = true) : Sm H (n + 1) (.ref a) (.ref b) :=
  Sm.lst ha hb rfl hz fun i u v hu hv => by
    rw [hu] at hv
    cases hv
    exact Sm.flat (h _ (List.mem_of_getElem? hu))
theorem flt_ints (ns : List Int) : ∀ x ∈ ns.map V.int, flt x = true := fun x h => by
  obtain ⟨n, _, rfl⟩ := List.mem_map.mp h
  rfl

theorem Sm.cases {H : Hp} {n : Nat} {x y : V} (h : Sm H n x y) : (x = y ∧ flt y = true) ∨ ∃ (m : Nat) (a b : Addr) (xs ys : List V), n = m + 1 ∧ x = .ref a ∧ y = .ref b ∧
      ((H a = some (.lst xs) ∧ H b = some (.lst ys)) ∨ (H a = some (.tup xs) ∧ H b = some (.tup ys))) ∧ xs.length = ys.length ∧ xs.length ≤ 100000 ∧ ∀ (i : Nat) u v, xs[i]? = some u → ys[i]? = some v → Sm H m u v := by
  cases n with
  | zero => exact .inl h
  | succ n =>
    rcases h with h | ⟨a, b, xs, ys, h⟩
    · exact .inl h
    · exact .inr ⟨n, a, b, xs, ys, rfl, h⟩
theorem isi {K : PySem.W.Frag} {H : Hp} {x : V} {T : String} {Q : VK} (t : String) (b : Bool) (ty : TyX K H x (.type t)) (h : kitB t T = some b) (q : Q (.bl b) H) : rIsi K [x, .ty T] H Q := ⟨x, .ty T, .type t, .type T, b, rfl, .ty T, ty, kit_ty h, q⟩

/-! ### rules with the written part told (within a comprehension) -/
section
variable {X : Cx}
theorem ix_listK (K : PySem.W.Frag) (h : X.K = K := by rfl) : IxR X (rIxL K) := h ▸ ix_list
theorem ix_tupK (K : PySem.W.Frag) (h : X.K = K := by rfl) : IxR X (rIxT K) := h ▸ ix_tup
def rLenK (K : PySem.W.Frag) : List V → Hp → VK → Prop := fun xs H Q => ∃ p ys, xs = [.ref p] ∧ (SqL K H p ys ∨ SqT K H p ys) ∧ Q (.int ys.length) H
theorem call_lenK (K : PySem.W.Frag) (h : X.K = K := by rfl) : CallR X (.builtin "len") (rLenK K) := h ▸ call_len_seq
theorem pi_tupK (K : PySem.W.Frag) {tg l : Expr} {tl : TE} (hl : PE X l tl) (h : X.K = K := by rfl) : PI X tg l (iTup K tl) := h ▸ pi_tup hl
theorem pi_listK (K : PySem.W.Frag) {tg l : Expr} {tl : TE} (hl : PE X l tl) (h : X.K = K := by rfl) : PI X tg l (iList K tl) := h ▸ pi_list hl
theorem call_isiK' (K : PySem.W.Frag) (h : X.K = K := by rfl) : CallR X (.builtin "isinstance") (rIsi K) := h ▸ call_isi
end

/-! ### promises of the law's own defs -/
def spBox (K : PySem.W.Frag) : Sp := fun vs H Q _ => ∃ (a : Addr) (ns : List Int), vs = [.ref a] ∧ SqL K H a (ns.map V.int) ∧ ns.length ≤ 63 ∧ ∀ b L H', H b = none → H L = none → Same H H' → Box H' b L → Q (.ref b) H'
def spTake : Sp := fun vs H Q _ => ∃ (b L : Addr) (n : Int), vs = [.ref b, .int n] ∧ 0 < n ∧ n < 2 ^ 64 ∧ Box H b L ∧ ∀ v o, 0 ≤ v → v < n → Box (upd H b o) b L → (∃ xs, o = .lst xs) → Q (.int v) (upd H b o)
def spNo : Sp := fun _ _ _ _ => False
def spSame : Nat → Sp
  | 0 => spNo
  | n + 1 => fun vs H Q _ => ∃ x y, vs = [x, y] ∧ Sm H n x y ∧ Q (.bl true) H
theorem fn_no {P : Program} {w : World} {K : PySem.W.Frag} {mg : Str → Option Value} {base : Heap} {k : Nat} {f : Addr} {fd : FuncData} {ps : List Str} : FnOk P w K mg base CX0 k f fd ps spNo :=
  ⟨fun _ _ _ _ h => h.elim, fun _ _ _ _ _ _ _ _ _ _ _ _ _ h => h.elim⟩
theorem iteF' {c : Bool} {A B : Prop} (e : c = false) (h : B) : if c = true then A else B := by
  subst e
  exact iteF h
theorem iteT' {c : Bool} {A B : Prop} (e : c = true) (h : A) : if c = true then A else B := by
  subst e
  exact iteT h
/-- a def of the module, as its callers want it -/
theorem cal_of {P : Program} {w : World} {K : PySem.W.Frag} {mg : Str → Option Value} {base : Heap} {k : Nat} {x : Str} {st : Stmt} {f : Addr} {fd : FuncData} {ps : List Str} {sp : Sp} (F : Fun K x x st f fd) (G : FnOk P w K mg base CX0 k f fd ps sp) (hm : mg x = some (.ref f)) (b : Binds K fd ps []) :
    Cal P w K mg base k x sp [] := ⟨f, fd, ps, [], G, hm, F.kp, b, .nil⟩
theorem cutV_ints (ns : List Int) (lo hi : Option Int) : ∃ cs : List Int, cutV (ns.map V.int) lo hi = cs.map V.int := by
  unfold cutV
  rw [← List.map_drop, ← List.map_take]
  exact ⟨_, rfl⟩
theorem map_at {α β : Type} {f : α → β} {xs : List α} {i : Nat} {y : β} (h : (xs.map f)[i]? = some y) : ∃ x, xs[i]? = some x ∧ y = f x := by
  rw [List.getElem?_map] at h
  obtain ⟨x, h1, h2⟩ := Option.map_eq_some_iff.mp h
  exact ⟨x, h1, h2.symm⟩
theorem atI0 {α : Type} {x : α} {xs : List α} : atI (x :: xs) 0 = some x := atI_nat (j := 0) rfl
theorem atI_pos {α : Type} {xs : List α} {p : Int} {x : α} (h0 : 0 ≤ p) (h : xs[p.toNat]? = some x) : atI xs p = some x := by
  obtain ⟨n, rfl⟩ := Int.eq_ofNat_of_zero_le h0
  exact atI_nat h
theorem atI_ints {cs : List Int} {p : Int} (h0 : 0 ≤ p) (h : p < (cs.length : Int)) : ∃ c, cs[p.toNat]? = some c ∧ atI (cs.map V.int) p = some (.int c) := by
  have h1 : p.toNat < cs.length := by omega
  have h2 : cs[p.toNat]? = some (cs[p.toNat]'h1) := List.getElem?_eq_getElem h1
  refine ⟨_, h2, atI_pos h0 ?_⟩
  rw [List.getElem?_map, h2]
  rfl
theorem ixN_nat {n j : Nat} (h : j < n) : ixN n (j : Int) = some j := by
  unfold ixN
  rw [if_pos (by omega), if_pos (by omega)]
  rfl
end VL

namespace VL
open PySem PySem.Spec PyProof.Rows L2
/-! ### enumerate over a tuple (mine: the layer's pi_enum walks lists alone) -/
def EnT (K : PySem.W.Frag) (a : Addr) : It where
  go := fun k G => ∃ (zs : List V) (z : V), SqT K G a zs ∧ zs[k]? = some z
  yld := fun k G u G' => ∃ (T : Addr) (z : V), u = .ref T ∧ G T = none ∧ G' = upd G T (.tup [.int (k : Nat), z]) ∧ ∀ zs, SqT K G a zs → zs[k]? = some z
  stop := fun k G => ∃ zs : List V, SqT K G a zs ∧ zs.length = k
theorem enT_turn {P : Program} {w : World} {K : PySem.W.Frag} {es : List Expr} {q : Nat} {ps : Pos} (a en ti : Addr) :
    Turn P w K (.Tuple es q ps) (EnT K a) [en, ti] en (fun k h => (∃ was, IsEnum h en ti ((k : Nat) : Int) was) ∧ h.IsTupleIter ti a k ∧ en ≠ ti) := by
  refine ⟨List.mem_cons_self .., ?_, ?_, ?_, ?_, ?_⟩
  · rintro k h ⟨⟨was, h1⟩, ⟨ob, h2, _, h3⟩, _⟩ c hc
    rcases List.mem_cons.mp hc with rfl | hc
    · exact ⟨_, h1, fun _ z => nomatch z⟩
    · cases List.mem_singleton.mp hc
      refine ⟨ob, h2, fun _ z => ?_⟩
      rw [h3] at z
      cases z
  · rintro k h h' ⟨⟨was, h1⟩, h2, ne⟩ kp
    exact ⟨⟨was, kp en (List.mem_cons_self ..) _ h1⟩, h2.at fun ob z => kp ti (List.mem_cons_of_mem _ (List.mem_cons_self ..)) ob z, ne⟩
  · rintro X rfl rfl rfl calm k pins s σ G E I free ⟨⟨was, h1⟩, h2, ne⟩ ⟨zs, z, hq, hz⟩
    obtain ⟨vs, rv, hT, _⟩ := I.tuple hq
    obtain ⟨u, hu, ru⟩ := rv.get hz
    have nea : en ≠ a := fun e => by
      subst e
      obtain ⟨ob, e1, e2, _⟩ := hT
      have e3 := h1.symm.trans e1
      cases e3
      exact absurd (Value.type.inj e2) (by decide)
    have nta : a ≠ ti := fun e => by
      subst e
      obtain ⟨ob, e1, e2, _⟩ := hT
      obtain ⟨oc, c1, c2, _⟩ := h2
      rw [c1] at e1
      cases e1
      rw [c2] at e2
      exact absurd (Value.type.inj e2) (by decide)
    have elt : en < s.heap.objs.size := Heap.lt_size h1
    have tlt : ti < s.heap.objs.size := by
      obtain ⟨ob, e1, _⟩ := h2
      exact Heap.lt_size e1
    have klt : k < vs.toArray.size := by
      have := (List.getElem?_eq_some_iff.mp hu).1
      simpa using this
    have D := Draws.tuple (prog := X.prog) (w := X.w) (A := X.A.in1) (I.ok.hd calm) ti a nta vs.toArray
    refine wpAny_pyNext_enum_itemC (c := (k : Int)) D h1 ⟨h2, hT⟩ klt ne (fun c => ?_) fun x h' tk hx out st' tup _ kp => ?_
    · rcases List.mem_cons.mp c with e | c
      · exact ne e
      · exact nea (List.mem_singleton.mp c)
    · have ex : x = u := by
        have hx' : vs.toArray[k]? = some x := hx
        rw [List.getElem?_toArray, hu] at hx'
        exact (Option.some.inj hx').symm
      subst ex
      refine ⟨_, rfl, wpAny_letOwnedTupleGo_enum (s := { s with heap := h', toks := tk + 1 }) out fun g eg sb => ?_⟩
      have tup2 : g.get? s.heap.objs.size = some { cls := .type "tuple", data := .seq #[.int k tk, x] } := (sb.2 _ (Nat.ne_of_gt elt)).trans tup
      have made : ObjOk X.prog X.w (upd G s.heap.objs.size (.tup [.int (k : Nat), z])) g s.heap.objs.size (.tup [.int (k : Nat), z]) := by
        refine ⟨by show 2 ≤ sizeLine; decide, [.int k tk, x], ?_, _, tup2, rfl, _, rfl⟩
        exact .cons ⟨_, rfl⟩ (.cons ru .nil)
      have I' : Inv X pins σ (upd G s.heap.objs.size (.tup [.int (k : Nat), z])) { s with heap := g, toks := tk + 1 } := by
        refine I.turnedNew (ch := [en, ti]) (fun c ob hc e => ?_) free (Nat.le_refl _) made
        have c1 : c ≠ en := fun e => hc (e ▸ List.mem_cons_self ..)
        have c2 : c ≠ ti := fun e => hc (e ▸ List.mem_cons_of_mem _ (List.mem_cons_self ..))
        exact (sb.2 c c1).trans (kp c ob c1 c2 e)
      refine ⟨.ref s.heap.objs.size, _, I', rfl, ⟨_, z, rfl, I.hok.fresh (Nat.le_refl _), rfl, fun ys hy => ?_⟩, ⟨⟨x, ?_⟩, st'.1.at fun ob e => (sb.2 ti ne.symm).trans e, ne⟩, fun c hc => ?_⟩
      · rw [I.tuple_inj hy hq]
        exact hz
      · have e1 : ((k + 1 : Nat) : Int) = (k : Int) + 1 := by omega
        rw [e1]
        exact eg
      · have clt : c < s.heap.objs.size := by
          rcases List.mem_cons.mp hc with rfl | hc
          · exact elt
          · cases List.mem_singleton.mp hc
            exact tlt
        rw [upd_ne (Nat.ne_of_lt clt)]
        exact (free c hc).1
  · rintro X rfl rfl rfl calm k pins s σ G E I free ⟨⟨was, h1⟩, h2, ne⟩ ⟨zs, hq, hz⟩
    obtain ⟨vs, rv, hT, _⟩ := I.tuple hq
    have hl := rv.length
    obtain ⟨f0, f1, f2, f3, f4, f5⟩ := free ti (List.mem_cons_of_mem _ (List.mem_cons_self ..))
    have nta : a ≠ ti := fun e => by
      subst e
      obtain ⟨ob, e1, e2, _⟩ := hT
      obtain ⟨oc, c1, c2, _⟩ := h2
      rw [c1] at e1
      cases e1
      rw [c2] at e2
      exact absurd (Value.type.inj e2) (by decide)
    have D := Draws.tuple (prog := X.prog) (w := X.w) (A := X.A.in1) (I.ok.hd calm) ti a nta vs.toArray
    have ek : k = vs.toArray.size := by
      rw [← hz, hl]
      simp
    refine wpAny_pyNext_enum_endD D h1 ⟨ek ▸ h2, hT⟩ fun g ext => ⟨rfl, I.turned (t' := s.toks) (fun c ob hc e => ext c ob hc e) f0 f1 f3 f4 f5⟩
  · rintro A k s Q E ⟨⟨was, h1⟩, _⟩ q
    exact wpAny_pyIter_enum h1 q
/-- what enumerate(v) leaves: the iterator of v, behind it the enumerate object -/
abbrev enHeap (hp : Heap) (o : Obj) : Heap := (hp.push o).push { cls := .type "enumerate", data := .fields #[.none, .bool false, .ref hp.objs.size, rawInt 0, .none, .none] }
theorem en_meets {v : Value} {o : Obj} {B0 : Heap → Prop} (B : Begins v o B0) :
    Meets (Builtin.«enumerate.__new__» ⟨[.type "enumerate", v], []⟩) (fun _ R s => B0 s.heap ∧ R (.ok (.ret (.ref (s.heap.push o).objs.size))) { s with heap := enHeap s.heap o }) := by
  refine .of_wp fun prog w A R s hh => ?_
  obtain ⟨hp, gg, dd, tt, oo⟩ := s
  obtain ⟨b0, hR⟩ := hh
  have hsub := sub_enumerate
  have st : ∀ {A1 : Around} {E1 : Value → Shared → Prop} {Q1 : Value → Shared → Prop}, Q1 (.ref hp.objs.size) ⟨hp.push o, gg, dd, tt, oo⟩ → wpAny (model prog w) A1 (pyIter v) Q1 E1 ⟨hp, gg, dd, tt, oo⟩ :=
    fun z => B.iter prog w _ _ ⟨hp, gg, dd, tt, oo⟩ _ b0 z
  wp_walk using st
  refine wpAny_stack_any fun sk => wpAny_pure ?_
  split
  · rename_i c _ _ _ _ _
    cases (c == Value.type "enumerate") <;> (wp_walk using st; exact ⟨_, rfl, hR⟩)
  · wp_walk using st
    exact ⟨_, rfl, hR⟩
theorem en_call {prog : Program} {w : World} {A : Around} {E : Value → Shared → Prop} {s : Shared} {v : Value} {o : Obj} {B0 : Heap → Prop} {Q : Value → Shared → Prop} (B : Begins v o B0) (b0 : B0 s.heap)
    (q : Q (.ref (s.heap.objs.size + 1)) { s with heap := enHeap s.heap o }) : wpAny (model prog w) A (call (.type "enumerate") [v]) Q E s := by
  have z : (s.heap.push o).objs.size = s.heap.objs.size + 1 := Heap.size_push ..
  refine callType_new F.called_enumerate (by decide) (F.typeCall_enumerate_1 _) (F.newCall_enumerate_1 _) (fun b => F.args_object_init_2 b _) F.entry_enumerate_new (en_meets B) ⟨b0, ?_⟩
  show _ ∧ _
  rw [z]
  have g := Heap.get?_push_size (s.heap.push o) (o := { cls := .type "enumerate", data := .fields #[.none, .bool false, .ref s.heap.objs.size, rawInt 0, .none, .none] }) rfl
  rw [z] at g
  exact ⟨⟨_, g, rfl⟩, q⟩
/-- a comprehension's loop (either loop of one with two for) over a walk: B is what the turn must bring about, told what comes next -/
theorem lp_it {J : It} {n : Nat} {G : Hp → Prop} {Y : Nat → Hp → V → Hp → Prop} (w : Walk J n G Y) {B : (Hp → Prop) → V → Hp → Prop} {H0 : Hp} {Qd : Hp → Prop} (Pv : Nat → Hp → Prop) (h0 : Pv 0 H0) (hG : ∀ i H, i ≤ n → Pv i H → G H)
    (hs : ∀ i x H H', i < n → Pv i H → Y i H x H' → B (Pv (i + 1)) x H') (hd : ∀ H, Pv n H → Qd H) :
    ∃ W : Nat → Nat → Hp → Prop, (∃ m, W 0 m H0) ∧ ∀ i m H, W i m H → (J.stop i H ∧ Qd H) ∨ (J.go i H ∧ ∃ Nx : Hp → Prop, (∀ H', Nx H' → ∃ m', m' < m ∧ W (i + 1) m' H') ∧ ∀ x H', J.yld i H x H' → B Nx x H') := by
  refine ⟨fun i m H => m + i = n ∧ Pv i H, ⟨n, rfl, h0⟩, ?_⟩
  rintro i m H ⟨em, p⟩
  have g := hG i H (by omega) p
  by_cases z : m = 0
  · have e : i = n := by omega
    subst e
    exact .inl ⟨w.stops H g, hd H p⟩
  · exact .inr ⟨w.goes i H (by omega) g, Pv (i + 1), fun H' p' => ⟨m - 1, by omega, by omega, p'⟩, fun x H' y => hs i x H H' (by omega) p (w.yields i H x H' (by omega) g y)⟩
theorem walk_rg {n : Nat} : Walk (Itr 0 n) n (fun _ => True) (fun i H x H' => H' = H ∧ x = .int (i : Int)) :=
  walk_range.mono (fun _ _ => trivial) fun i H x H' _ _ y => ⟨y.1, y.2.trans (congrArg V.int (Int.zero_add _))⟩
def iEnT (K : PySem.W.Frag) (ta : TA) : TI := fun σ G R => ta σ G fun vs G1 => ∃ a zs, vs = [.ref a] ∧ SqT K G1 a zs ∧ R (EnT K a) G1
theorem pi_enT {X : Cx} {e : Expr} {ta : TA} {p pos tpos : Pos} {es : List Expr} {q : Nat} (hg : Gl X "enumerate") (hm : X.mg "enumerate" = none) (ha : PA X [e] ta)
    (hs : starEach [e] X.env = [(false, eval e X.env)] := by rfl) : PI X (.Tuple es q tpos) (.Call (.Name "enumerate" p) [e] [] pos) (iEnT X.K ta) := by
  constructor
  intro pins s σ G R I h
  refine Call_ (ld_blt I hg hm boot_enumerate (PyProof.Rows.callWith_type1 (thn (ha.run pos pins s σ G _ I h) fun us s1 ⟨vs, G1, I1, r1, a, zs, ev, hq, hR⟩ => ?_) hs rfl))
  subst ev
  obtain ⟨u, rfl, ru⟩ := vals1 r1
  cases (show u = Value.ref a from ru)
  obtain ⟨its, rv, hT, _⟩ := I1.tuple hq
  have B := begins_tuple a its.toArray
  have z : (s1.heap.push { cls := .type "tuple_iterator", data := .fields #[.ref a, .int 0 0] }).objs.size = s1.heap.objs.size + 1 := Heap.size_push ..
  have kp : ∀ c ob, s1.heap.get? c = some ob → (enHeap s1.heap { cls := .type "tuple_iterator", data := .fields #[.ref a, .int 0 0] }).get? c = some ob := fun c ob e => Heap.get?_push_of_some _ (Heap.get?_push_of_some _ e)
  have he : IsEnum (enHeap s1.heap { cls := .type "tuple_iterator", data := .fields #[.ref a, .int 0 0] }) (s1.heap.objs.size + 1) s1.heap.objs.size 0 .none := by
    have g := Heap.get?_push_size (s1.heap.push { cls := .type "tuple_iterator", data := .fields #[.ref a, .int 0 0] }) (o := { cls := .type "enumerate", data := .fields #[.none, .bool false, .ref s1.heap.objs.size, rawInt 0, .none, .none] }) rfl
    rw [z] at g
    exact g
  have hit : (enHeap s1.heap { cls := .type "tuple_iterator", data := .fields #[.ref a, .int 0 0] }).IsTupleIter s1.heap.objs.size a 0 := ⟨_, Heap.get?_push_of_some _ (Heap.get?_push_size _ rfl), rfl, rfl⟩
  refine en_call B (show s1.heap.IsTuple a its.toArray from hT) (wpAny_pyIter_enum he ?_)
  have I2 : Inv X pins σ G1 { s1 with heap := enHeap s1.heap { cls := .type "tuple_iterator", data := .fields #[.ref a, .int 0 0] } } := I1.kept (t' := s1.toks) kp
  refine ⟨s1.heap.objs.size + 1, [s1.heap.objs.size + 1, s1.heap.objs.size], _, _, G1, rfl, I2, enT_turn a (s1.heap.objs.size + 1) s1.heap.objs.size, ⟨⟨.none, he⟩, hit, Nat.succ_ne_self _⟩, fun c hc => ?_, hR⟩
  have le : s1.heap.objs.size ≤ c := by
    rcases List.mem_cons.mp hc with rfl | hc
    · exact Nat.le_succ _
    · cases List.mem_singleton.mp hc
      exact Nat.le_refl _
  exact I1.fpOk le (I1.hok.fresh le)
theorem walk_enT {K : PySem.W.Frag} {a : Addr} {xs : List V} : Walk (EnT K a) xs.length (fun H => SqT K H a xs) (YPair (fun i => some (.int (i : Nat))) (fun i => xs[i]?)) := by
  refine ⟨fun i G hi q => ⟨xs, xs[i], q, List.getElem?_eq_getElem hi⟩, fun G q => ⟨xs, q, rfl⟩, ?_⟩
  rintro i G u G' _ q ⟨T, z, h1, h2, h3, h4⟩
  exact ⟨T, .int (i : Nat), z, h1, h2, h3, rfl, h4 xs q⟩
theorem walk_zipT {K : PySem.W.Frag} {a b : Addr} {xs ys : List V} (hl : xs.length = ys.length) : Walk (RZ.ItzT K a b) xs.length (fun H => SqT K H a xs ∧ SqT K H b ys) (YPair (fun i => xs[i]?) (fun i => ys[i]?)) := by
  refine ⟨fun i G hi q => ⟨xs, ys, xs[i], ys[i], q.1, q.2, List.getElem?_eq_getElem hi, List.getElem?_eq_getElem (hl ▸ hi)⟩, fun G q => ⟨xs, ys, q.1, q.2, .inl (Nat.le_refl _)⟩, ?_⟩
  rintro i G u G' _ q ⟨T, x, y, h1, h2, h3, h4, h5⟩
  exact ⟨T, x, y, h1, h2, h3, h4 xs q.1, h5 ys q.2⟩
end VL

namespace VL
open PySem PySem.Spec PyProof.Rows L2
/-! ### set(t) of a tuple of texts, any number (mine: the layer's is for one text at most) -/
/-- how many different ones are among the first i -/
def dst {α : Type} [DecidableEq α] (ks : List α) : Nat → Nat
  | 0 => 0
  | i + 1 => match ks[i]? with
    | some k => if k ∈ ks.take i then dst ks i else dst ks i + 1
    | none => dst ks i
theorem dst_le {α : Type} [DecidableEq α] (ks : List α) : ∀ i, dst ks i ≤ i
  | 0 => Nat.le_refl _
  | i + 1 => by
    have h := dst_le ks i
    unfold dst
    split
    · split <;> omega
    · omega
theorem nodup_not_mem {α : Type} [DecidableEq α] {ks : List α} (h : ks.Nodup) {i : Nat} {k : α} (e : ks[i]? = some k) : k ∉ ks.take i := fun hm => by
  obtain ⟨j, hj⟩ := List.mem_iff_getElem?.mp hm
  rw [List.getElem?_take] at hj
  by_cases hji : j < i
  · rw [if_pos hji] at hj
    obtain ⟨hl, ej⟩ := List.getElem?_eq_some_iff.mp hj
    obtain ⟨hl2, ei⟩ := List.getElem?_eq_some_iff.mp e
    exact absurd (ej.trans ei.symm) (List.pairwise_iff_getElem.mp h j i hl hl2 hji)
  · rw [if_neg hji] at hj
    cases hj
theorem dst_nodup {α : Type} [DecidableEq α] {ks : List α} (h : ks.Nodup) : ∀ i, i ≤ ks.length → dst ks i = i
  | 0, _ => rfl
  | i + 1, hi => by
    have e : ks[i]? = some ks[i] := List.getElem?_eq_getElem hi
    unfold dst
    rw [e]
    show (if ks[i] ∈ ks.take i then dst ks i else dst ks i + 1) = i + 1
    rw [if_neg (nodup_not_mem h e), dst_nodup h i (by omega)]
theorem dst_dup {α : Type} [DecidableEq α] {ks : List α} : ∀ i, i ≤ ks.length → dst ks i = i → (ks.take i).Nodup
  | 0, _, _ => by rw [List.take_zero]; exact List.Pairwise.nil
  | i + 1, hi, hd => by
    have e : ks[i]? = some ks[i] := List.getElem?_eq_getElem hi
    unfold dst at hd
    rw [e] at hd
    have hd : (if ks[i] ∈ ks.take i then dst ks i else dst ks i + 1) = i + 1 := hd
    have hl := dst_le ks i
    by_cases hm : ks[i] ∈ ks.take i
    · rw [if_pos hm] at hd
      omega
    · rw [if_neg hm] at hd
      have ih := dst_dup (ks := ks) i (by omega) (by omega)
      rw [List.take_add_one, e]
      refine List.nodup_append.mpr ⟨ih, by simp, fun x hx y hy => ?_⟩
      have : y = ks[i] := by simpa using hy
      subst this
      exact fun z => hm (z ▸ hx)
section
variable {prog : Program} {w : World} {A : Around} {R : Result → Shared → Prop} {I : Addr} {fp wr : List Addr} {G : Array GenState → Array GenState → Prop} {n : Nat} {Pv : Nat → Value → Prop} {St : Nat → Shared → Prop}
theorem put_all (W : WalksS prog w A.in1 I fp wr G n Pv St) (S : Addr) (out : S ∉ fp) (ks : List Str) (en : ks.length = n) (room : n + 1 < scanBound) (val : ∀ i v, Pv i v → ∃ x t, ks[i]? = some x ∧ v = .str x t) :
    ∀ (m i : Nat) (s : Shared), i + m = n → St i s → s.heap.SetOf (PySem.strKind prog w) S (fun k => decide (k ∈ ks.take i)) (dst ks i) →
      (∀ s', Moved (S :: wr) G s s' → s'.heap.SetOf (PySem.strKind prog w) S (fun k => decide (k ∈ ks)) (dst ks n) → R (.ok (.ret .none)) s') →
      codeAny (model prog w) A (.builtin "set.update.loop" ⟨[.ref S, .ref I], []⟩) R s := by
  have outw : S ∉ wr := fun z => out (W.sub _ z)
  have up : ∀ b ∈ wr, b ∈ S :: wr := fun b z => List.mem_cons_of_mem _ z
  intro m
  induction m with
  | zero =>
    intro i s hi st held fin
    obtain rfl : i = n := by omega
    refine codeAny_builtin PyProof.Rows.F.entry_set_update_loop (Around.under_plainId PyProof.Rows.F.plain_set_update_loop _ ▸ ?_)
    refine wpAny_bind (W.done s _ _ st fun s' mv => wpAny_pure (fin s' (mv.mono up) ?_))
    obtain ⟨o, es, ep, t, ho, r⟩ := held
    rw [← en, List.take_length] at r
    rw [← en]
    exact ⟨o, es, ep, t, mv.heap S _ outw ho, r⟩
  | succ m ih =>
    intro i s hi st held fin
    refine codeAny_builtin PyProof.Rows.F.entry_set_update_loop (Around.under_plainId PyProof.Rows.F.plain_set_update_loop _ ▸ ?_)
    refine wpAny_bind (W.item i s _ _ (by omega) st fun v s' pv st' mv => ?_)
    obtain ⟨x, t, ex, rfl⟩ := val i v pv
    obtain ⟨o, es, ep, tb, ho, r⟩ := held
    have held' : s'.heap.SetOf (PySem.strKind prog w) S (fun k => decide (k ∈ ks.take i)) (dst ks i) := ⟨o, es, ep, tb, mv.heap S _ outw ho, r⟩
    refine wpAny_bind (wpAny_holding ?_)
    unfold setAdd
    refine wpAny_holding (wpAny_bind ((PySem.strKind prog w).pyHash (k := x) (strKind_is _ _ _ _) ?_))
    have hd := dst_le ks i
    refine wpAny_setAddHashed_of (knd := PySem.strKind prog w) (s := { s' with toks := s'.toks + 1 }) (strKind_is _ _ _ _) rfl held' (by omega) fun h' sb more => ?_
    have more' : h'.SetOf (PySem.strKind prog w) S (fun k => decide (k ∈ ks.take (i + 1))) (dst ks (i + 1)) := by
      refine SetOf_congr more (fun k => ?_) ?_
      · rw [List.take_add_one, ex]
        show (decide (k ∈ ks.take i) || decide (k = x)) = decide (k ∈ ks.take i ++ [x])
        rw [Bool.eq_iff_iff]
        simp [List.mem_append]
      · show (if decide (x ∈ ks.take i) = true then dst ks i else dst ks i + 1) = dst ks (i + 1)
        conv => rhs; unfold dst
        rw [ex]
        by_cases hm : x ∈ ks.take i
        · simp [hm]
        · simp [hm]
    have nS : ∀ b ∈ fp, b ≠ S := fun b hb z => out (z ▸ hb)
    refine wpAny_pure ⟨plainId_quiet PyProof.Rows.F.plain_set_update_loop _, ih (i + 1) _ (by omega) ?_ more' fun s2 mv2 held2 => ?_⟩
    · exact W.frame _ s' _ _ st' (Nat.le_succ _) fun b hb u e => (sb.2 b (nS b hb)).trans e
    · refine fin s2 (Moved.trans W.gtrans ((mv.mono up).then_heap (Nat.le_succ _) fun b u hb e => ?_) mv2) held2
      exact (sb.2 b fun z => hb (z ▸ List.mem_cons_self)).trans e
end
abbrev mtSet (led : Bool) : Obj := { cls := .type "set", dict := none, data := .set #[] 0 (.fresh 0 0 led) }
section
variable {prog : Program} {w : World} {A : Around} {E : Value → Shared → Prop} {s : Shared}
/-- what set.__init__ brings about: the heap with the set filled -/
def Filled (prog : Program) (w : World) (s : Shared) (xs : List Str) (s2 : Shared) : Prop :=
  ∃ (g : Heap) (tk : Nat), s2 = { s with heap := g, toks := tk } ∧ g.SetOf (PySem.strKind prog w) s.heap.objs.size (fun k => decide (k ∈ xs)) (dst xs xs.length) ∧ ∀ b o, s.heap.get? b = some o → g.get? b = some o
theorem init_tup {l : Addr} {items : Array Value} {xs : List Str} (led : Bool) (calm : A.handled = none) (hl : s.heap.IsTuple l items) (hi : PyProof.Rows.StrsAre items.toList xs) (room : xs.length + 1 < scanBound) :
    codeAny (model prog w) A (.call (.builtin "set.__init__") ⟨[.ref s.heap.objs.size, .ref l], []⟩) (wants (fun r s2 => r = .none ∧ Filled prog w s xs s2) E) { s with heap := s.heap.push (mtSet led) } := by
  have hS : (s.heap.push (mtSet led)).get? s.heap.objs.size = some (mtSet led) := Heap.get?_push_size _ rfl
  have hT : Shared.TypeIs { s with heap := s.heap.push (mtSet led) } (.ref s.heap.objs.size) "set" := ⟨_, hS, rfl⟩
  refine codeAny_call_builtin PySem.F.called_set.init.plain PySem.F.entry_set_init (check_set_init_1 hT ?_)
  have esz : xs.length = items.size := by
    rw [← StrsAre.len_eq hi, Array.length_toList]
  obtain ⟨⟨ocls, odict, odata, oslots⟩, hol, hcl, nl, hdl⟩ := id hl
  cases (show ocls = .type "tuple" from hcl)
  cases (show odata = .seq items nl from hdl)
  have hol' := Heap.get?_push_of_some (mtSet led) hol
  have k1 := PySem.F.sub_tuple_set
  have k2 := PySem.F.sub_tuple_frozenset
  have k3 : (Value.type "tuple" == Value.type "dict") = false := by decide
  have hl1 : (s.heap.push (mtSet led)).IsTuple l items := ⟨_, hol', rfl, nl, rfl⟩
  have lS : l < s.heap.objs.size := Heap.lt_size hol
  have zS : (s.heap.push (mtSet led)).objs.size = s.heap.objs.size + 1 := Heap.size_push ..
  unfold Builtin.«set.__init__» noKeywords Builtin.Frozenset.updateFrom
  generalize ePI : pyIter = PI
  wp_walk
  subst ePI
  refine wpAny_pyIter_tuple hl1 (wpAny_bind (wpAny_runValue ?_))
  have calm2 : A.in1.in1.handled = none := by simp [calm]
  have nIt : l ≠ (s.heap.push (mtSet led)).objs.size := by
    rw [zS]
    exact Nat.ne_of_lt (Nat.lt_succ_of_lt lS)
  have out : s.heap.objs.size ∉ [(s.heap.push (mtSet led)).objs.size, l] := by
    rw [zS]
    simp only [List.mem_cons, List.not_mem_nil, or_false, not_or]
    exact ⟨Nat.ne_of_lt (Nat.lt_succ_self _), (Nat.ne_of_lt lS).symm⟩
  have val : ∀ (i : Nat) (v : Value), items[i]? = some v → ∃ x t, xs[i]? = some x ∧ v = .str x t := fun i v hv => by
    have hlt : i < xs.length := by
      rw [esz]
      exact (Array.getElem?_eq_some_iff.mp hv).1
    obtain ⟨t, e⟩ := SS.strs_at hi i v (by rw [Array.getElem?_toList]; exact hv)
    refine ⟨xs[i], t, List.getElem?_eq_getElem hlt, ?_⟩
    rw [e, List.getD_eq_getElem?_getD, List.getElem?_eq_getElem hlt]
    rfl
  refine put_all ((Walks.tuple calm2 _ l nIt items).toS) s.heap.objs.size out xs esz (by omega) val items.size 0 _ (Nat.zero_add _) ?_ ?_ fun s2 mv held => ?_
  · exact ⟨⟨_, Heap.get?_push_size _ rfl, rfl, rfl⟩, hl1.push _⟩
  · have hget := Heap.get?_push_of_some ({ cls := .type "tuple_iterator", data := .fields #[.ref l, .int 0 0] } : Obj) hS
    exact SetOf_congr ((setObjOf_fresh (knd := PySem.strKind prog w) led).setOf hget (by unfold scanBound; omega)) (fun _ => rfl) rfl
  · obtain ⟨g, g2, dr, tk, os'⟩ := s2
    cases (show g2 = s.gens from mv.gens)
    cases (show dr = s.drawn from mv.drawn)
    cases (show os' = s.os from mv.os)
    rw [← esz] at held
    refine wpAny_pure (wpAny_pure ⟨rfl, g, tk, rfl, held, fun b o e => ?_⟩)
    have bS := Heap.lt_size e
    refine mv.heap b o ?_ (Heap.get?_push_of_some _ (Heap.get?_push_of_some _ e))
    rw [zS]
    simp only [List.mem_cons, List.not_mem_nil, or_false, not_or]
    exact ⟨Nat.ne_of_lt bS, Nat.ne_of_lt (Nat.lt_succ_of_lt bS)⟩
theorem set_tup {l : Addr} {items : Array Value} {xs : List Str} {Q : Value → Shared → Prop} (calm : A.handled = none) (hl : s.heap.IsTuple l items) (hi : PyProof.Rows.StrsAre items.toList xs) (room : xs.length + 1 < scanBound)
    (h : ∀ s2, Filled prog w s xs s2 → Q (.ref s.heap.objs.size) s2) : wpAny (model prog w) A (call (.type "set") [.ref l]) Q E s := by
  obtain ⟨c, tl, f1⟩ := PySem.F.called_set.mro
  have f2 := PySem.F.called_set.made
  have f3 := PySem.F.called_set.sub
  have f4 := PySem.F.called_set.notType
  have f5 := PySem.F.called_set.canCreate
  have f6 := PySem.F.typeCall_set_1 (.ref l)
  have f7 := PySem.F.called_set.init.lookup
  refine wpAny_call (codeAny_of_tree (wpAny_pure ⟨Code.quiet_builtin _ (by decide +kernel), codeAny_builtin PySem.F.entry_type_call ?_⟩))
  rw [Around.under_plain (weight_type_call_type "set" [.ref l] []) rfl]
  repeat (any_goals (first | assumption | wp_step))
  refine codeAny_mono (code_set_new_1 (.ref l) (E := E) (Q₁ := fun ob s1 => ∃ led : Bool, ob = .ref s.heap.objs.size ∧ s1 = { s with heap := s.heap.push (mtSet led) }) fun led => ⟨led, rfl, rfl⟩) fun r s1 hr => ?_
  cases r with
  | error e => exact hr
  | ok fl =>
    cases fl with
    | ret ob =>
      obtain ⟨led, rfl, rfl⟩ := hr
      have f8 := PySem.F.called_set.init.bind (.ref s.heap.objs.size)
      have hT : Shared.TypeIs { s with heap := s.heap.push (mtSet led) } (.ref s.heap.objs.size) "set" := ⟨_, Heap.get?_push_size _ rfl, rfl⟩
      repeat (any_goals (first | assumption | wp_step))
      refine codeAny_mono (init_tup led (E := E) calm hl hi room) fun r2 s2 hr2 => ?_
      cases r2 with
      | error e => exact hr2
      | ok fl2 =>
        cases fl2 with
        | ret r =>
          obtain ⟨rfl, z⟩ := hr2
          repeat (any_goals (first | assumption | wp_step))
          exact h _ z
        | _ => exact hr2.elim
    | _ => exact hr.elim
end
/-- len(set(t)), t a tuple of texts -/
def tLenSetS (K : PySem.W.Frag) (ta : TE) : TE := fun σ G Q => ta σ G fun x G1 => ∃ (l : Addr) (xs : List Str), x = .ref l ∧ SqT K G1 l (xs.map V.str) ∧ xs.length ≤ 1000 ∧ Q (.int (dst xs xs.length : Nat)) G1
theorem pe_lenSetS (K : PySem.W.Frag) {X : Cx} {a : Expr} {ta : TE} {p p2 q pos : Pos} (hc : X.calm = true) (hg : Gl X "len") (hm : X.mg "len" = none) (hg2 : Gl X "set") (hm2 : X.mg "set" = none) (ha : PE X a ta)
    (na : starEach [a] X.env = (false, eval a X.env) :: starEach [] X.env := by rfl) (hK : X.K = K := by rfl) : PE X (.Call (.Name "len" p) [.Call (.Name "set" p2) [a] [] q] [] pos) (tLenSetS K ta) := by
  subst hK
  constructor
  intro pins s σ G Q I h
  refine Call_ (ld_blt I hg hm boot_len (PyProof.Rows.callWith_builtin1 (PyProof.Rows.args_cons (Call_ (ld_blt I hg2 hm2 boot_set ?_)) rfl) rfl rfl))
  refine PyProof.Rows.callWith_type1 (PyProof.Rows.args_cons (thn (ha.run pins s σ G _ I h) fun v s1 ⟨x, G1, I1, r1, l, xs, ex, hq, hz, hQ⟩ => PyProof.Rows.args_nil ?_) na) na rfl
  subst ex
  cases r1
  obtain ⟨its, rv, hT, _⟩ := I1.tuple hq
  refine set_tup (xs := xs) (I1.ok.hd hc) hT (by simpa using strsAre_of rv) (by unfold scanBound; omega) fun s2 ⟨g, tk, e2, held, kp⟩ => PyProof.Rows.args_nil ?_
  subst e2
  obtain ⟨o, es, ep, t, ho, hex, hd, _, _, _, hf, hn⟩ := held
  have I2 : Inv X pins σ G1 { s1 with heap := g, toks := tk } := I1.kept kp
  have hd2 := dst_le xs xs.length
  exact call_len_set ho hex hd hf (by rw [hn]; omega) ⟨.int (dst xs xs.length : Nat), G1, I2.tok _, ⟨_, by rw [hn]⟩, hQ⟩
end VL

namespace VL
open PySem PySem.Spec PyProof.Rows L2
open C8 (Cal pe_c Met pe_mt)
/-! ### x( *text), x a local name that holds a class -/
/-- the signs of a text, each a text -/
def signs (z : Str) : List V := z.cps.toList.map fun c => V.str ⟨#[c]⟩
theorem signs_vals : ∀ (us : List Value) (cs : List Nat), us.length = cs.length → (∀ (i : Nat) (v : Value) (c : Nat), us[i]? = some v → cs[i]? = some c → ∃ t, v = Value.str ⟨#[c]⟩ t) → Vals (cs.map fun c => V.str ⟨#[c]⟩) us
  | [], [], _, _ => .nil
  | [], _ :: _, h, _ => by cases h
  | _ :: _, [], h, _ => by cases h
  | u :: us, c :: cs, h, hv => .cons (hv 0 u c rfl rfl) (signs_vals us cs (Nat.succ.inj h) fun i v c' e1 e2 => hv (i + 1) v c' (by simpa using e1) (by simpa using e2))
theorem signs_rel {z : Str} {acc : Array Value} (h : ItemsOf (SignAt z) acc z.cps.size) : Vals (signs z) acc.toList := by
  refine signs_vals acc.toList z.cps.toList (by simpa using h.1) fun i v c e1 e2 => ?_
  obtain ⟨c', u, h1, h2⟩ := h.2 i v (by simpa using e1)
  have e3 : z.cps[i]? = some c := by simpa using e2
  rw [e3] at h1
  cases h1
  exact ⟨u, h2⟩
section
variable {X : Cx} {pins : List (Addr × Obj)} {σ : L2.St} {H : Hp} {s : Shared}
theorem star_txt {z : Str} {t : Tok} {E : Value → Shared → Prop} {Q : List Value → Shared → Prop} (I : Inv X pins σ H s) (hz : z.length ≤ sizeLine) (calm : X.calm = true) (hQ : ∀ us s', Inv X pins σ H s' → Vals (signs z) us → Q us s') :
    PySem.W.StarOf (model X.prog X.w) X.A E (.str z t) Q s := by
  have got : wpAny (model X.prog X.w) X.A (collect (.str z t)) Q E s := by
    refine wpAny_collect_str (I.ok.hd calm) z t (fun s' acc kp eg ed eo items => ?_) hz
    obtain ⟨g, g2, d2, tk, os2⟩ := s'
    cases (show g2 = s.gens from eg)
    cases (show d2 = s.drawn from ed)
    cases (show os2 = s.os from eo)
    exact hQ _ _ (I.kept (t' := tk) kp) (signs_rel items)
  unfold PySem.W.StarOf notIterableAtAll
  exact wpAny_bind (wpAny_specialOf (T := "str") (v := .str z t) rfl PySem.F.slot_str_iter.lookup (wpAny_pure ⟨rfl, got⟩))
/-- x( *text): a new instance -/
def tMkTxt (i : Nat) (C : Addr) (sp : Sp) (E : XK) (te : TE) : TE := fun σ H Q => σ[i]? = some (some (.ref C)) ∧ te σ H fun y H1 => ∃ z : Str, y = .str z ∧ z.length ≤ sizeLine ∧
  ∀ x dx, H1 x = Option.none → H1 dx = Option.none → dx ≠ x → sp (V.ref x :: signs z) (upd (upd H1 dx (.own x)) x (.ins C dx [])) (fun v H2 => v = .non ∧ Q (.ref x) H2) E
theorem pe_mkTxt {CX : CXT} {k i : Nat} {f C : Addr} {sp : Sp} {E : XK} {x : Str} {p sp_ pos : Pos} {e : Expr} {te : TE} (M : Mk X.K C f) (F : FnR X.prog X.w X.K X.mg X.base CX k f sp) (hr : Room (k + 1) X.A) (calm : X.calm = true)
    (hN : X.N[i]? = some x) (hv : Vis X.env.scope x) (hx : Passes CX X E) (he : PE X e te) (hdb : (x == ("__debug__" : Str)) = false := by decide) (hcd : (x == ("__classdict__" : Str)) = false := by decide)
    (hst : starEach [.Starred e sp_] X.env = [(true, eval e X.env)] := by rfl) : PE X (.Call (.Name x p) [.Starred e sp_] [] pos) (tMkTxt i C sp E te) := by
  constructor
  intro pins s σ H Q I ⟨hs, ht⟩
  refine wpAny_Call_Name_kw (thn ((pe_var (pos := p) hN hv hdb hcd).run pins s σ H (fun v H1 => v = .ref C ∧ H1 = H) I ⟨.ref C, hs, rfl, rfl⟩) fun u s1 ⟨v, H1, I1, r1, ev, eh⟩ => ?_)
  subst ev eh
  cases r1
  refine PySem.W.callWith_S (h₀ := X.base) I.ok.mod.kin M.kp (thn (he.run pins s1 σ _ _ I1 ht) fun v s2 ⟨y, H2, I2, ry, z, ey, hz, q⟩ => ?_) hst
  subst ey
  obtain ⟨t, rfl⟩ := ry
  exact star_txt I2 hz calm fun us s3 I3 rv => ⟨I3.kIn, StX.run_makeR M F hr hx I3 rv q⟩
end
/-! ### kinds -/
/-- the built-in class of a thing, as far as the heap tells -/
def kd (H : Hp) : V → Option String
  | .non => some "NoneType"
  | .bl _ => some "bool"
  | .int _ => some "int"
  | .str _ => some "str"
  | .ref a => match H a with
    | some (.lst _) => some "list"
    | some (.tup _) => some "tuple"
    | some (.dK _) => some "dict"
    | _ => none
  | _ => none
theorem kd_lst {H : Hp} {a : Addr} {xs : List V} (h : H a = some (.lst xs)) : kd H (.ref a) = some "list" := by
  show (match H a with | some (.lst _) => some "list" | some (.tup _) => some "tuple" | some (.dK _) => some "dict" | _ => none) = _
  rw [h]
theorem kd_tup {H : Hp} {a : Addr} {xs : List V} (h : H a = some (.tup xs)) : kd H (.ref a) = some "tuple" := by
  show (match H a with | some (.lst _) => some "list" | some (.tup _) => some "tuple" | some (.dK _) => some "dict" | _ => none) = _
  rw [h]
theorem kd_dK {H : Hp} {a : Addr} {xs : List (Key × V)} (h : H a = some (.dK xs)) : kd H (.ref a) = some "dict" := by
  show (match H a with | some (.lst _) => some "list" | some (.tup _) => some "tuple" | some (.dK _) => some "dict" | _ => none) = _
  rw [h]
theorem kd_ty {K : PySem.W.Frag} {H : Hp} {x : V} {t : String} (h : kd H x = some t) : TyX K H x (.type t) := by
  cases x with
  | non => cases h; exact .base .non
  | bl b => cases h; exact .base (.bl b)
  | int i => cases h; exact .base (.int i)
  | str z => cases h; exact .base (.str z)
  | ref a =>
    have h : (match H a with | some (.lst _) => some "list" | some (.tup _) => some "tuple" | some (.dK _) => some "dict" | _ => none) = some t := h
    split at h
    · cases h; exact .base (.lst (by assumption))
    · cases h; exact .base (.tup (by assumption))
    · cases h; exact .base (.dK (by assumption))
    · cases h
  | byt b => cases h
  | flt b => cases h
  | ty n => cases h
theorem kd_same {H H' : Hp} {x : V} {t : String} (s : Same H H') (h : kd H x = some t) : kd H' x = some t := by
  cases x with
  | ref a =>
    have h : (match H a with | some (.lst _) => some "list" | some (.tup _) => some "tuple" | some (.dK _) => some "dict" | _ => none) = some t := h
    split at h
    · cases h; exact kd_lst (s _ _ (by assumption))
    · cases h; exact kd_tup (s _ _ (by assumption))
    · cases h; exact kd_dK (s _ _ (by assumption))
    · cases h
  | _ => exact h
/-- is it of the class T: told by the name alone -/
theorem kd_is {H : Hp} {x : V} {t : String} (h : kd H x = some t) : t = "NoneType" ∨ t = "bool" ∨ t = "int" ∨ t = "str" ∨ t = "list" ∨ t = "tuple" ∨ t = "dict" := by
  cases x with
  | non => cases h; exact .inl rfl
  | bl b => cases h; exact .inr (.inl rfl)
  | int i => cases h; exact .inr (.inr (.inl rfl))
  | str z => cases h; exact .inr (.inr (.inr (.inl rfl)))
  | ref a =>
    have h : (match H a with | some (.lst _) => some "list" | some (.tup _) => some "tuple" | some (.dK _) => some "dict" | _ => none) = some t := h
    split at h
    · cases h; exact .inr (.inr (.inr (.inr (.inl rfl))))
    · cases h; exact .inr (.inr (.inr (.inr (.inr (.inl rfl)))))
    · cases h; exact .inr (.inr (.inr (.inr (.inr (.inr rfl)))))
    · cases h
  | byt b => cases h
  | flt b => cases h
  | ty n => cases h
theorem isB {t T : String} (h : t = "NoneType" ∨ t = "bool" ∨ t = "int" ∨ t = "str" ∨ t = "list" ∨ t = "tuple" ∨ t = "dict") (hT : T = "int" ∨ T = "bool" ∨ T = "str" ∨ T = "list" ∨ T = "tuple") :
    kitB t T = some (decide (t = T) || (decide (t = "bool") && decide (T = "int"))) := by
  rcases hT with rfl | rfl | rfl | rfl | rfl <;> rcases h with rfl | rfl | rfl | rfl | rfl | rfl | rfl <;> decide +kernel
/-- the text is a name -/
def letters : List Nat := ("abcdefghijklmnopqrstuvwxyz" : Str).cps.toList
def nameB (z : Str) : Bool := (decide (1 ≤ (z.length : Int)) && decide ((z.length : Int) ≤ 12)) && z.cps.toList.all fun c => decide (c ∈ letters)
/-- it is an integer within the bounds, no bool -/
def intB (lo hi : Int) : V → Bool
  | .int i => decide (lo ≤ i) && decide (i ≤ hi)
  | _ => false
theorem kd_int {H : Hp} {x : V} {t : String} (h : kd H x = some t) : (∃ i, x = .int i) ∨ (∃ b, x = .bl b) ∨ (kitB t "int" = some false ∧ ∀ lo hi, intB lo hi x = false) := by
  cases x with
  | int i => exact .inl ⟨i, rfl⟩
  | bl b => exact .inr (.inl ⟨b, rfl⟩)
  | non => cases h; exact .inr (.inr ⟨by decide +kernel, fun _ _ => rfl⟩)
  | str z => cases h; exact .inr (.inr ⟨by decide +kernel, fun _ _ => rfl⟩)
  | ref a =>
    have h : (match H a with | some (.lst _) => some "list" | some (.tup _) => some "tuple" | some (.dK _) => some "dict" | _ => none) = some t := h
    split at h
    · cases h; exact .inr (.inr ⟨by decide +kernel, fun _ _ => rfl⟩)
    · cases h; exact .inr (.inr ⟨by decide +kernel, fun _ _ => rfl⟩)
    · cases h; exact .inr (.inr ⟨by decide +kernel, fun _ _ => rfl⟩)
    · cases h
  | byt b => cases h
  | flt b => cases h
  | ty n => cases h
theorem kd_notup {H : Hp} {x : V} {t : String} (h : kd H x = some t) (n : t ≠ "tuple") : kitB t "tuple" = some false := by
  rw [isB (kd_is h) (.inr (.inr (.inr (.inr rfl))))]
  rcases kd_is h with rfl | rfl | rfl | rfl | rfl | rfl | rfl <;> first | rfl | exact absurd rfl n
def spName : Sp := fun vs H Q _ => ∃ z : Str, vs = [.str z] ∧ z.length ≤ 100000 ∧ ∀ H', Same H H' → Q (.bl (nameB z)) H'
def spInt : Sp := fun vs H Q _ => ∃ (x : V) (t : String) (lo hi : Int), vs = [x, .int lo, .int hi] ∧ kd H x = some t ∧ Q (.bl (intB lo hi x)) H
/-- all are names, no two alike -/
def diffB (ns : List Str) : Bool := ns.all nameB && decide (ns.Nodup)
def spDiff (K : PySem.W.Frag) : Sp := fun vs H Q _ => ∃ (t : Addr) (ns : List Str), vs = [.ref t] ∧ SqT K H t (ns.map V.str) ∧ ns.length ≤ 100 ∧ (∀ z ∈ ns, z.length ≤ 100000) ∧ ∀ H', Same H H' → Q (.bl (diffB ns)) H'
/-- a catalog of these names stands at a -/
def CatAt (C : Addr) (H : Hp) (a : Addr) (ns : List Str) : Prop := ∃ dx t, H a = some (.ins C dx [("names", .ref t)]) ∧ H t = some (.tup (ns.map V.str))
theorem CatAt.same {C : Addr} {H H' : Hp} {a : Addr} {ns : List Str} (h : CatAt C H a ns) (s : Same H H') : CatAt C H' a ns := by
  obtain ⟨dx, t, h1, h2⟩ := h
  exact ⟨dx, t, s _ _ h1, s _ _ h2⟩
/-- another object may change, if it is neither an instance nor a tuple -/
theorem CatAt.upd {C : Addr} {H : Hp} {a l : Addr} {ns : List Str} {xs : List V} {o : HO} (h : CatAt C H a ns) (hl : H l = some (.lst xs)) : CatAt C (L2.upd H l o) a ns := by
  obtain ⟨dx, t, h1, h2⟩ := h
  exact ⟨dx, t, by rw [upd_ne (ne_of h1 hl (by intro z; cases z))]; exact h1, by rw [upd_ne (ne_of h2 hl (by intro z; cases z))]; exact h2⟩
/-- the names fit a catalog -/
def Good (ns : List Str) : Prop := 1 ≤ ns.length ∧ ns.length ≤ 8 ∧ diffB ns = true ∧ ∀ z ∈ ns, z.length ≤ 100000
/-- the body of Catalog.__init__, behind its star argument -/
def spInit (C : Addr) : Sp := fun vs H Q _ => ∃ (x dx p : Addr) (ns : List Str), vs = [.ref x, .ref p] ∧ H x = some (.ins C dx []) ∧ H p = some (.tup (ns.map V.str)) ∧ Good ns ∧
  ∀ H1, Same H H1 → Q .non (upd H1 x (.ins C dx [("names", .ref p)]))
/-- the first n of the names a to h -/
def abc (n : Nat) : List Str := ((("abcdefgh" : Str).cps.toList).take n).map fun c => ⟨#[c]⟩
def spNumbered (C : Addr) : Sp := fun vs H Q _ => ∃ n : Nat, vs = [.ref C, .int n] ∧ 1 ≤ n ∧ n ≤ 8 ∧ ∀ a H', H a = none → Same H H' → CatAt C H' a (abc n) → Q (.ref a) H'
/-- the answer of is_book -/
def bookB (n : Nat) (xs : List V) : Bool := decide (xs.length = n) && xs.all (intB (-1000000000000) 1000000000000)
def spBook (K : PySem.W.Frag) (C : Addr) : Sp := fun vs H Q _ => ∃ (c : Addr) (ns : List Str) (v : V), vs = [.ref c, v] ∧ CatAt C H c ns ∧ ns.length ≤ 8 ∧
  ((∃ t xs, v = .ref t ∧ H t = some (.tup xs) ∧ xs.length ≤ 1000 ∧ (∀ x ∈ xs, ∃ k, kd H x = some k) ∧ ∀ H', Same H H' → Q (.bl (bookB ns.length xs)) H') ∨
   (∃ t, kd H v = some t ∧ t ≠ "tuple" ∧ Q (.bl false) H))
theorem abc_len {n : Nat} (h : n ≤ 8) : (abc n).length = n := by
  unfold abc
  rw [List.length_map, List.length_take]
  show min n 8 = n
  omega
theorem abc_good {n : Nat} (h1 : 1 ≤ n) (h8 : n ≤ 8) : Good (abc n) := by
  refine ⟨by rw [abc_len h8]; exact h1, by rw [abc_len h8]; exact h8, ?_, ?_⟩
  · have : ∀ n : Fin 9, diffB (abc n.1) = true := by decide +kernel
    exact this ⟨n, by omega⟩
  · intro z hz
    obtain ⟨c, _, rfl⟩ := List.mem_map.mp hz
    show 1 ≤ 100000
    decide
end VL

/-! an own exception whose __init__ says super().__init__(text), over ValueError (directly or by classes of the program) -/
namespace VL
open PySem PySem.Spec PyProof.Rows L2
open NdefX (NScope NF CellsAt startF ncx envF inv_startN)
/-- what is written of the class at C, the cell of its __class__, the code object of its __init__ -/
structure SupC (P : Program) (K : PySem.W.Frag) (mg : Str → Option Value) (C cc cda : Addr) : Prop where
  o : OexC K C
  sup : PySem.W.ks_superIn K C C "__init__" = some (some (.builtin "ValueError.__init__"))
  sv : PySem.W.subIn K (.ref C) (.type "ValueError") = some true
  self : PySem.W.mroIn K C (.ref C) = some true
  third : PySem.W.nsIn K cStatics "thirdparty.any" = some none
  code : ∃ ccl cdd vs ccs file tf, K.lookup cda = some ⟨ccl, cdd, .fields vs, ccs⟩ ∧ vs[2]? = some (.str file tf) ∧ ((P.main.file : Str) == file) = true
  cell : ∃ cl cld csl, K.lookup cc = some ⟨cl, cld, .cell (some (.ref C)), csl⟩
  noS : mg "super" = none
  top : (P.main.scope.names.lookup ("super" : Str)).isSome = false
abbrev sF (name qual : Str) (params : Arguments) (body : List Stmt) (scope : Scope) (cc cda : Addr) : NF := ⟨name, qual, params, body, scope, [("__class__", cc)], cda⟩
section
variable {CX : CXT} {P : Program} {w : World} {K : PySem.W.Frag} {mg : Str → Option Value} {base : Heap} {N ps : List Str} {k : Nat} {sp : Sp} {f C cc cda : Addr} {name qual : Str} {params : Arguments} {scope : Scope} {dV kV doc pm ct oc : Value} {an od : Option Addr} {osl : Array (Option Value)}
theorem sup_eval {p0 p1 p2 p3 p4 : Pos} {ms : Str} {j : Nat} (env : Env) (hpos : p2.endLine = p4.line) : ∃ pl : Sem Bool, eval (.Call (.Attribute (.Call (.Name "super" p0) [] [] p1) "__init__" p2) [.Constant (.str ms) j p3] [] p4) env = (do
      let ov ← attributeBase (.Call (.Name "super" p0) [] [] p1) "__init__" env (eval (.Call (.Name "super" p0) [] [] p1) env)
      standAt p2.atName
      let (f, first) ← holding [ov] (getMethod ov "__init__" pl)
      callWith p4 f first (backTo p4 (starEach [.Constant (.str ms) j p3] env)) []) := by
  refine ⟨(do return (← importBound (.Call (.Name "super" p0) [] [] p1) env).getD true), ?_⟩
  have e : ∀ few, methodCallPos few (.Call (.Name "super" p0) [] [] p1) env p2 p4 = pure p4 := fun few => by
    unfold methodCallPos
    exact if_pos (by rw [hpos]; simp)
  unfold eval
  unfold methodCall
  simp only [e, pure_bind]
  rfl
theorem boot_super : bootBuiltins "super" = some (.type "super") := by kernel_rfl
theorem fn_super {ar : Arg} {p0 p1 p2 p3 p4 p5 : Pos} {ms : Str} {j : Nat} {rest body : List Stmt} (ebody : body = .Expr (.Call (.Attribute (.Call (.Name "super" p0) [] [] p1) "__init__" p2) [.Constant (.str ms) j p3] [] p4) p5 :: rest)
    (lk : K.lookup f = some ⟨oc, od, .func (PySem.W.ksFn name qual params body scope dV kV doc pm an (.ref cda) ct cc), osl⟩)
    (hcd : PySem.W.codeIn K (.ref cda) qual = true) (S : NScope N ("self" :: ps) ["__class__"] scope)
    (hp : (params.posonlyargs ++ params.args).head? = some ar) (har : ar.arg = "self") (hks : scope.names.lookup ("super" : Str) = some .globalImplicit)
    (T : SupC P K mg C cc cda) (hpos : p2.endLine = p4.line)
    (hbody : ∀ (A : Around) (outer : List Env) (s : Shared) (H : Hp) (vs : List V) (Q : VK) (E : XK), Room k (A.deeper (envF (sF name qual params body scope cc cda) f s.heap.objs.size)) → sp vs H Q E →
      ∃ a ws, vs = .ref a :: ws ∧ ws.length = ps.length ∧ H a = some (exo a C none) ∧ ∃ t, PSs (ncx CX P w K mg base N (sF name qual params body scope cc cda) f A outer s H E) rest t ∧ t { nx := fun _ H' => Q .non H', rt := Q } (startF N vs [none]) H)
    (len : ∀ vs H Q E, sp vs H Q E → vs.length = (("self" : Str) :: ps).length) :
    FnOk P w K mg base CX (k + 1) f (PySem.W.ksFn name qual params body scope dV kV doc pm an (.ref cda) ct cc) ("self" :: ps) sp := by
  refine ⟨len, fun A outer s H args us vs Q E hr e0 hb hv hsp => ?_⟩
  have hl := len _ _ _ _ hsp
  have KX : K.In s.heap := e0.mod.kin.keeps fun b o e => (e0.bs b o e).1
  have lim : s.heap.NoLimit := e0.mod.nolimit.keeps fun b o e => (e0.bs b o e).1
  refine PySem.ks_codeAny_call_defAt (fd := PySem.W.ksFn name qual params body scope dV kV doc pm an (.ref cda) ct cc) (body := body) (binds := (("self" : Str) :: ps).zip us) hr.depth (KX _ _ lk) rfl lim (PySem.W.codeRec_of KX hcd) rfl hb S.nocell
    (fun ⟨n, _⟩ hy => S.par n (List.of_mem_zip hy).1) (fun h₁ hns kp => ?_) S.co S.gen S.kind
  obtain ⟨cl, cld, csl, hcell⟩ := T.cell
  have hbc : base.get? cc = some ⟨cl, cld, .cell (some (.ref C)), csl⟩ := e0.mod.kin _ _ hcell
  have C0 : CellsAt [(("__class__" : Str), cc)] ["__class__"] [none] s.heap H := by
    refine ⟨rfl, fun y c e => ?_, fun x y c e1 e2 => ?_, fun i y e => ?_⟩
    · have z : c = cc := by
        simp only [List.lookup] at e
        split at e
        · exact (Option.some.inj e).symm
        · cases e
      subst z
      exact ⟨(e0.bs _ _ hbc).2, _, _, (e0.bs _ _ hbc).1, rfl⟩
    · have key : ∀ {z : Str}, List.lookup z [(("__class__" : Str), cc)] = some c → z = "__class__" := fun {z} e => by
        simp only [List.lookup] at e
        split at e
        · rename_i h
          exact beq_iff_eq.mp h
        · cases e
      rw [key e1, key e2]
    · have z : i = 0 := by
        cases i with
        | zero => rfl
        | succ i => simp at e
      subst z
      cases e
      refine ⟨cc, by simp [List.lookup], fun v h => ?_⟩
      cases h
  obtain ⟨a, ws, rfl, hw, ha, t, ht, q⟩ := hbody A outer s H vs Q E (hr.deeper _) hsp
  have I : Inv (ncx CX P w K mg base N (sF name qual params body scope cc cda) f A outer s H E) [] (startF N (.ref a :: ws) [none]) H { s with heap := h₁, toks := s.toks + ((("self" : Str) :: ps).zip us).length } :=
    inv_startN (F := sF name qual params body scope cc cda) S hr.hd e0 hl hv C0 hns kp
  have fin0 : ∀ {σ' : L2.St} {H' : Hp} {v : V} {u : Value} {s' : Shared}, Inv (ncx CX P w K mg base N (sF name qual params body scope cc cda) f A outer s H E) [] σ' H' s' → L2.RelV v u → Q v H' → CE outer P w H s Q u s' :=
    fun {σ' H' v u s'} J rv q => ⟨v, H', J.os, J.bare, J.base, J.hok, rv, q⟩
  have go : ∀ s', Inv (ncx CX P w K mg base N (sF name qual params body scope cc cda) f A outer s H E) [] (startF N (.ref a :: ws) [none]) H s' →
      wpAny (model P w) (A.deeper (envF (sF name qual params body scope cc cda) f s.heap.objs.size)) (execs rest (envF (sF name qual params body scope cc cda) f s.heap.objs.size))
        (fun fl s' => CR CX outer P w H s Q E (.ok (.ret (match fl with | .ret v => v | _ => .none))) s')
        (fun e s' => wpAny (model P w) (A.deeper (envF (sF name qual params body scope cc cda) f s.heap.objs.size)) (leaving (envF (sF name qual params body scope cc cda) f s.heap.objs.size) e) (fun _ s'' => CR CX outer P w H s Q E (.error e) s'') (fun e' s'' => CR CX outer P w H s Q E (.error e') s'') s') s' := fun s' J => by
    refine wpAny_mono (ht.run [] s' _ H _ J q) (fun fl s2 hs => ?_) fun e s2 hs => hs
    cases fl with
    | ret u =>
      obtain ⟨v, σ', H', J, rv, q⟩ := hs
      exact fin0 J rv q
    | next =>
      obtain ⟨σ', H', J, q⟩ := hs
      exact fin0 (v := V.non) (u := Value.none) J rfl q
    | brk =>
      obtain ⟨_, _, _, q⟩ := hs
      exact False.elim q
    | cont =>
      obtain ⟨_, _, _, q⟩ := hs
      exact False.elim q
  -- super()
  have hu0 : ∃ us', us = Value.ref a :: us' := by
    cases hv with
    | @cons _ u0 _ ur ra rw' =>
      obtain rfl : u0 = Value.ref a := ra
      exact ⟨ur, rfl⟩
  obtain ⟨us', rfl⟩ := hu0
  obtain ⟨ccl, cdd, cvs, ccs, file, tf, hcode, hvs, hfile⟩ := T.code
  obtain ⟨nm, qq, NN, bs, bm, sn, sub, ab, col, dd, k0, k1, k2, k3, k5, hC, hbm⟩ := T.o.cls
  obtain ⟨t1, hoa⟩ := exo_at I.hok ha
  have X1 : K.In h₁ := I.kIn
  have hclC : PySem.W.clsIn K C = some { name := nm, bases := bs, mro := .ref C :: bm, ns := NN, qualname := qq, hasDict := true, slotNames := sn, subclasses := sub, abstract := ab, collection := col, hasDel := false } := by unfold PySem.W.clsIn; rw [hC] <;> rfl
  have hself : (List.zip (("self" : Str) :: ps) (Value.ref a :: us')).reverse.lookup ("self" : Str) = some (.ref a) := by
    have nd : (("self" : Str) :: ps).Nodup := by
      have z := S.nd.sublist (List.take_sublist ((("self" : Str) :: ps).length + (["__class__"] : List Str).length) N)
      rw [S.pre] at z
      exact (List.nodup_append.mp z).1
    exact NdefX.zip_look (i := 0) nd rfl rfl
  subst ebody
  have hD2 : (excClassObj nm qq C NN bs bm true sn sub ab col dd k0 k1 k2 k3 k5 "ValueError.__new__").data = .cls { name := nm, bases := bs, mro := .ref C :: bm, ns := NN, qualname := qq, hasDict := true, slotNames := sn, subclasses := sub, abstract := ab, collection := col, hasDel := false } := rfl
  have bk : ∀ b o, base.get? b = some o → h₁.get? b = some o := fun b o e => kp b o (e0.bs b o e).1
  obtain ⟨mb, hb1, hb2⟩ := e0.mod.blt
  obtain ⟨pl, he⟩ := sup_eval (p0 := p0) (p1 := p1) (p2 := p2) (p3 := p3) (p4 := p4) (ms := ms) (j := j) (callEnv (PySem.W.ksFn name qual params (.Expr (.Call (.Attribute (.Call (.Name "super" p0) [] [] p1) "__init__" p2) [.Constant (.str ms) j p3] [] p4) p5 :: rest) scope dV kV doc pm an (.ref cda) ct cc) s.heap.objs.size f) hpos
  refine PySem.ks_wpAt_execs_cons (PySem.ks_wpAt_Expr_any (PySem.ks_wpAt_MethodCall (pl := pl) (PySem.ks_wpAt_super_base (cc := cda) hks (S.frk _ (by simp)) (by decide) rfl (X1 _ _ lk) rfl hp rfl (X1 _ _ hcode) rfl hvs hfile T.top ?_) he) (hi := by
    show (scope.kind == .module && _) = false
    rw [S.kind]
    rfl) (hs := by first | rfl | (unfold swapsWith; rfl)))
  refine PySem.W.ks_loadName_global S.kind hks (PySem.Calls.loadGlobal_builtin (e0.mod.glob.keeps bk) T.noS (hb1.keeps bk) ((hb2 _ (by decide)).trans boot_super) ⟨rfl, ?_⟩)
  refine wpAny_loadName_free S.kind (S.frk _ (by simp)) (c := cc) (by first | rfl | simp [List.lookup]) ⟨_, X1 _ _ hcell, rfl⟩ ?_
  rw [har]
  refine wpAny_loadName_local S.kind (S.par _ (by simp)) hns hself ?_
  refine PySem.ks_wpAny_isType_cls (X1 _ _ hC) hD2 ⟨rfl, ?_⟩
  refine PySem.ks_wpAny_call_super (X1 _ _ hC) hD2 hoa rfl (fun c e => by cases e) (PySem.W.looks_mroIn X1 T.self) (fun h2 e2 k2 => ?_)
  -- the method
  have X2 : K.In h2 := X1.keeps k2
  have hxC : a ≠ C := fun z => by
    have y := X1 _ _ hC
    rw [← z] at y
    have y2 := hoa.symm.trans y
    cases y2
  have hal : PySem.W.alongIn K "__init__" (((Value.ref C :: bm).dropWhile (· != .ref C)).drop 1) = some (some (.builtin "ValueError.__init__")) := by
    have z := T.sup
    unfold PySem.W.ks_superIn at z
    rw [hclC] at z
    exact z
  have I2 : PySem.W.InstAt h2 a { cls := .ref C, data := .fields #[.ref t1, .none, .none, .none, .bool false, .none] } C none := ⟨k2 _ _ hoa, rfl, rfl, trivial⟩
  refine PySem.W.kxs_getMethod PySem.W.kxs_ValueError e2 (PySem.W.looks_opaque X2 T.third) (l₀ := Value.ref C :: bm) (fun A Q E s k q => wpAny_bind ((PySem.W.looks_clsIn X2 hclC) A _ E s k (wpAny_pure q))) rfl X2 hal (I2.type.andThen (PySem.W.looks_subIn X2 T.sv)) hxC (by decide) ?_
  -- its argument, its call
  have k3 : ∀ b o, h₁.get? b = some o → (h2.push (PySem.W.kxs_mw "ValueError.__init__" a)).get? b = some o := fun b o e => Heap.get?_push_of_some _ (k2 b o e)
  have hu : (h2.push (PySem.W.kxs_mw "ValueError.__init__" a)).get? h2.objs.size = some (PySem.W.kxs_mw "ValueError.__init__" a) := Heap.get?_push_at rfl rfl
  have J : Inv (ncx CX P w K mg base N (sF name qual params (.Expr (.Call (.Attribute (.Call (.Name "super" p0) [] [] p1) "__init__" p2) [.Constant (.str ms) j p3] [] p4) p5 :: rest) scope cc cda) f A outer s H E) [(h2.objs.size, PySem.W.kxs_mw "ValueError.__init__" a)] (startF N (.ref a :: ws) [none]) H ⟨h2.push (PySem.W.kxs_mw "ValueError.__init__" a), s.gens, s.drawn, s.toks + ((("self" : Str) :: ps).zip (Value.ref a :: us')).length + 1, s.os⟩ := by
    have J0 := I.un (t' := s.toks + ((("self" : Str) :: ps).zip (Value.ref a :: us')).length + 1) (Un.kept k3) (I.hok.kept k3)
    have lt : h₁.objs.size < h2.objs.size := Heap.lt_size e2
    refine J0.pins_of fun p hp => ?_
    obtain rfl := List.mem_singleton.mp hp
    refine ⟨hu, I.hok.fresh (Nat.le_of_lt lt), fun z => ?_, I.nofs (Nat.le_of_lt lt), fun v z => by cases z⟩
    have y : s.heap.objs.size < h₁.objs.size := I.lt
    have z : h2.objs.size = s.heap.objs.size := z
    omega
  have har : PA (ncx CX P w K mg base N (sF name qual params (.Expr (.Call (.Attribute (.Call (.Name "super" p0) [] [] p1) "__init__" p2) [.Constant (.str ms) j p3] [] p4) p5 :: rest) scope cc cda) f A outer s H E) [.Constant (.str ms) j p3] (tCons (tC (.str ms)) tNil) := pa_cons pe_str pa_nil
  refine PySem.W.kxs_callWith (i := "ValueError.__init__") (x := a) rfl (PySem.Calls.evalArgs_plain (thn (har.run p4 _ _ _ H (fun vs H1 => vs = [V.str ms] ∧ H1 = H) J ⟨rfl, rfl⟩) fun ur s1 ⟨vs, H1, I1, r1, ev, eH⟩ => ?_))
  subst eH
  have hu1 : s1.heap.get? h2.objs.size = some (PySem.W.kxs_mw "ValueError.__init__" a) := (I1.pin (h2.objs.size, PySem.W.kxs_mw "ValueError.__init__" a) (List.mem_append_right _ List.mem_cons_self)).1
  refine ⟨hu1, ?_⟩
  have hz : ur.length ≤ sizeLine := by
    rw [← r1.length, ev]
    show 1 ≤ sizeLine
    decide
  have I1k := I1.kIn
  obtain ⟨t2, hoa2⟩ := exo_at I1.hok ha
  have I1' := I1
  obtain ⟨hh, g, d, tk, os⟩ := s1
  refine wpAny_call (codeAny_of_tree ?_)
  show wpAny _ (Around.in1 _) (callAny (.ref h2.objs.size) ⟨[] ++ ur, []⟩) _ _ _
  simp only [callAny]
  refine wpAny_bind (wpAny_load hu1 ?_)
  simp only [PySem.W.kxs_mw, show (Value.type "method-wrapper" == Value.type "method" || Value.type "method-wrapper" == Value.type "builtin_function_or_method" || Value.type "method-wrapper" == Value.type "method-wrapper") = true by decide, if_true]
  refine PySem.W.KFB.if_so (by decide) ?_
  refine wpAny_bind (PySem.W.check_bound_init PySem.F.excBase_ValueError.toExcCallFacts (I1k _ _ hC) hoa2 rfl ?_)
  refine wpAny_bind (wpAny_pure (wpAny_pure ?_))
  refine ⟨plainId_quiet PySem.F.excBase_ValueError.init.plain _, codeAny_builtin PySem.F.excBase_ValueError.initEntry ?_⟩
  refine PySem.W.exc_init_tree (cls := .ref C) (t0 := t2) (dv := none) (c2 := .none) (c3 := .none) (b4 := .bool false) hoa2 hz fun h' k' hx _ => ?_
  have J2 := I1'.write (t' := tk) (x := a) (e := a) (o := exo a C none) (by rw [ha]; exact True.intro) (.inl rfl) k' ⟨_, hx⟩ (exo_ok hx)
  have eu : upd H1 a (exo a C none) = H1 := by
    funext b
    by_cases hb : b = a
    · rw [hb, upd_same, ha]
    · rw [upd_ne hb]
  rw [eu] at J2
  have J3 := J2.pins_of (pins' := []) fun p hp => nomatch hp
  exact wpAt_of_wpAny (go _ J3)
end
end VL

/-! a def with *v and **d, called with keywords -/
namespace VL
open PySem PySem.Spec PyProof.Rows L2
/-- the entry that a keyword makes -/
def kwE (P : Params) (t : Tok) (x : Str × Value) : DictEntry := ⟨PyData.keyHash P x.1, .str x.1 t, x.2⟩
/-- none of the entries has a key of these, none an object as its key -/
def Clear (es : List DictEntry) (ex : List (Str × Value)) : Prop := ∀ e ∈ es, e.refKey = false ∧ ∀ x ∈ ex, e.key.isStr x.1 = false
theorem Clear.next {P : Params} {t : Tok} {es : List DictEntry} {x : Str × Value} {ex : List (Str × Value)} (h : Clear es (x :: ex)) (hx : ∀ y ∈ ex, x.1 ≠ y.1) : Clear (es ++ [kwE P t x]) ex := fun e he =>
  (List.mem_append.mp he).elim (fun z => ⟨(h e z).1, fun y hy => (h e z).2 y (List.mem_cons_of_mem _ hy)⟩) fun z => by
    rw [List.mem_singleton.mp z]
    exact ⟨rfl, fun y hy => beq_eq_false_iff_ne.mpr (hx y hy)⟩
section
variable {prog : Program} {w : World} {A : Around} {E : Value → Shared → Prop} {d : Addr}
/-- one keyword goes into the dict at d -/
theorem kw_one {s : Shared} {es : List DictEntry} {n : Nat} {x : Str × Value} {Q : Unit → Shared → Prop} (at_ : s.heap.get? d = some (PySem.W.dictOf es n)) (cl : Clear es [x])
    (h : ∀ G, G.get? d = some (PySem.W.dictOf (es ++ [kwE w.params s.toks x]) (n + 1)) → (∀ b o, b ≠ d → s.heap.get? b = some o → G.get? b = some o) → Q () { s with heap := G, toks := s.toks + 1 }) :
    wpAny (model prog w) A (nsSet d x.1 x.2) Q E s := by
  have key : ∀ e ∈ es, e.key.isStr x.1 = false := fun e he => (cl e he).2 x (List.mem_singleton.mpr rfl)
  have noKey : (es.any fun e => e.key.isStr x.1) = false := List.any_eq_false.mpr fun e he => by simp [key e he]
  have noRef : (es.any fun e => e.refKey) = false := List.any_eq_false.mpr fun e he => by simp [(cl e he).1]
  have put : Obj.putName x.1 (PyData.keyHash w.params x.1) (.str x.1 s.toks) x.2 (PySem.W.dictOf es n) = PySem.W.dictOf (es ++ [kwE w.params s.toks x]) (n + 1) := by
    rw [PySem.W.putName_dict, PySem.W.putL_new key]
    exact congrArg (PySem.W.dictOf _) (if_neg (by rw [noKey]; exact Bool.false_ne_true))
  have plain : aRefKeyMayBeTheName x.1 es.toArray = false := by
    rw [aRefKeyMayBeTheName_at]
    simp [noKey, noRef]
  unfold nsSet
  refine wpAny_bind ?_
  refine wpAny_bind ?_
  refine wpAny_askSetting (wpAny_pure ?_)
  refine wpAny_bind (wpAny_mkText ?_)
  refine wpAny_bind (wpAny_loadPart at_ ?_)
  dsimp only
  rw [plain]
  exact wpAny_updatePart at_ (h _ ((Heap.get?_update_self _ at_ ((congrArg Obj.isFreed put).trans rfl)).trans (congrArg some put)) fun b o nb z => (Heap.get?_update_other _ _ (Ne.symm nb)).trans z)
/-- all of them, one behind another -/
theorem kw_all : ∀ (ex : List (Str × Value)) {s : Shared} {es : List DictEntry} {n : Nat} {Q : PUnit → Shared → Prop}, s.heap.get? d = some (PySem.W.dictOf es n) → Clear es ex → (ex.map (·.1)).Nodup →
    (∀ G, G.get? d = some (PySem.W.dictOf (es ++ PySem.W.kwEs w.params s.toks ex) (n + ex.length)) → (∀ b o, b ≠ d → s.heap.get? b = some o → G.get? b = some o) → Q ⟨⟩ { s with heap := G, toks := s.toks + ex.length }) →
    wpAny (model prog w) A (forIn ex PUnit.unit fun x _ => nsSet d x.1 x.2 >>= fun _ => pure (ForInStep.yield PUnit.unit)) Q E s := by
  intro ex
  induction ex with
  | nil =>
    intro s es n Q at_ _ _ h
    have z := h s.heap (by rw [show PySem.W.kwEs w.params s.toks [] = [] from rfl, List.append_nil]; exact at_) fun _ _ _ e => e
    rw [List.forIn_nil]
    exact wpAny_pure z
  | cons x ex ih =>
    intro s es n Q at_ cl nd h
    have nd2 := List.nodup_cons.mp (show (x.1 :: ex.map (·.1)).Nodup from nd)
    have far : ∀ y ∈ ex, x.1 ≠ y.1 := fun y hy e => nd2.1 (e ▸ List.mem_map_of_mem hy)
    rw [List.forIn_cons]
    refine wpAny_bind (wpAny_bind (kw_one at_ (fun e he => ⟨(cl e he).1, fun y hy => (cl e he).2 y (by rw [List.mem_singleton.mp hy]; exact List.mem_cons_self)⟩) fun G at2 k2 => wpAny_pure ?_))
    refine ih (s := { s with heap := G, toks := s.toks + 1 }) at2 (cl.next far) nd2.2 fun G2 at3 k3 => ?_
    have z := h G2 (by rw [List.append_assoc] at at3; rw [List.length_cons, Nat.add_comm ex.length 1, ← Nat.add_assoc]; exact at3) fun b o nb e => k3 b o nb (k2 b o nb e)
    rw [List.length_cons, Nat.add_comm ex.length 1, ← Nat.add_assoc] at z
    exact z
end
/-! ### the dict as HandS tells it -/
def kwD (ex : List (Str × V)) : List (Key × V) := ex.map fun x => (Sum.inr x.1, x.2)
def kwU (ex : List (Str × Value)) : List (Key × Value) := ex.map fun x => (Sum.inr x.1, x.2)
theorem kw_pairs {P : Program} {w : World} : ∀ (ex : List (Str × Value)) (t : Tok), Pairs (mixKind P w) (PySem.W.kwEs w.params t ex) (kwU ex)
  | [], _ => Pairs.nil
  | x :: r, t => Pairs.cons (keyIs_str x.1 t) rfl (kw_pairs r (t + 1))
theorem kw_dict {P : Program} {w : World} {h : Heap} {a : Addr} {ex : List (Str × Value)} {t : Tok} {n : Nat} (hd : h.get? a = some (PySem.W.dictOf (PySem.W.kwEs w.params t ex) n)) (hn : (ex.map (·.1)).Nodup) : h.DictOf (mixKind P w) a (kwU ex) := by
  refine ⟨_, (PySem.W.kwEs w.params t ex).toArray, n, hd, ⟨rfl, rfl, rfl⟩, rfl, fun e he => ?_, kw_pairs ex t, ?_⟩
  · obtain ⟨k, u, hk, hh⟩ := PySem.W.kwEs_key ex t e (List.mem_toArray.mp he)
    exact ⟨.inr k, by rw [hk]; exact keyIs_str k u, hh.trans rfl⟩
  · unfold kwU
    rw [List.map_map]
    have e : ((fun x : Key × Value => x.1) ∘ fun x : Str × Value => ((Sum.inr x.1 : Key), x.2)) = (fun k : Str => (Sum.inr k : Key)) ∘ fun x : Str × Value => x.1 := rfl
    rw [e, ← List.map_map]
    exact hn.map _ fun a b ne z => ne (Sum.inr.inj z)
theorem kw_KV : ∀ {ks : List Str} {zs : List V} {ws : List Value}, Vals zs ws → KV (kwD (ks.zip zs)) (kwU (ks.zip ws))
  | [], _, _, _ => .nil
  | _ :: _, _, _, .nil => .nil
  | k :: ks, _, _, .cons r rs => .cons ⟨rfl, r⟩ (kw_KV rs)
/-- the promise of a def that is called with keywords of these names -/
def FnRK (P : Program) (w : World) (K : PySem.W.Frag) (mg : Str → Option Value) (base : Heap) (CX : CXT) (k : Nat) (f : Addr) (ks : List Str) (sp : List V → Sp) : Prop :=
  ∀ (A : Around) (outer : List Env) (s : Shared) (H : Hp) (us ws : List Value) (vs zs : List V) (Q : VK) (E : XK), Room k A → Env0 P w K mg base A outer s H → Vals vs us → Vals zs ws → zs.length = ks.length → sp zs vs H Q E →
    codeAny (model P w) A (.call (.ref f) ⟨us, ks.zip ws⟩) (CR CX outer P w H s Q E) s
theorem nodup_zip : ∀ {ks : List Str} {ws : List Value}, ks.Nodup → ((ks.zip ws).map (·.1)).Nodup
  | [], _, _ => by simp
  | _ :: _, [], _ => by simp
  | k :: ks, w :: ws, h => by
    have nd := List.nodup_cons.mp h
    exact List.nodup_cons.mpr ⟨fun z => by
      obtain ⟨p, hp, e⟩ := List.mem_map.mp z
      exact nd.1 (by rw [show k = p.1 from e.symm]; exact (List.of_mem_zip hp).1), nodup_zip nd.2⟩
section
variable {CX : CXT} {P : Program} {w : World} {K : PySem.W.Frag} {mg : Str → Option Value} {base : Heap} {N ps : List Str} {k : Nat} {sp : Sp} {f : Addr} {name qual : Str} {params : Arguments} {body : List Stmt} {scope : Scope} {dV kV doc pm cdv ct oc : Value} {an od : Option Addr} {osl : Array (Option Value)}
theorem fn_kw {pv pd : Str} {ks : List Str} (lk : K.lookup f = some ⟨oc, od, .func (PySem.W.fnOf name qual params body scope dV kV doc pm an cdv ct), osl⟩) (hcd : PySem.W.codeIn K cdv qual = true) (S : FnScope N (ps ++ [pv, pd]) scope) (hCX : StX.CXUp CX)
    (hnd : ks.Nodup) (hks : ks.length ≤ 1000)
    (hb : ∀ us rest ws : List Value, us.length = ps.length → ws.length = ks.length → bindArgs (PySem.W.fnOf name qual params body scope dV kV doc pm an cdv ct) ⟨us ++ rest, ks.zip ws⟩ =
      (newTuple rest >>= fun t => (alloc ({ cls := .type "dict", data := .dict #[] } : Obj) : Sem Addr) >>= fun d => (forIn (ks.zip ws) PUnit.unit fun x _ => (nsSet d x.1 x.2 >>= fun _ => pure (ForInStep.yield PUnit.unit))) >>= fun _ => pure (ps.zip us ++ [(pv, t), (pd, Value.ref d)])))
    (hbody : ∀ (A : Around) (outer : List Env) (s : Shared) (H : Hp) (vs : List V) (Q : VK) (E : XK), Room k (A.deeper (envOfC qual scope s.heap.objs.size f cdv)) → sp vs H Q E →
      ∃ t, PSs (cxOf CX P w K mg base N qual scope f cdv A outer s H E) body t ∧ t { nx := fun _ H' => Q .non H', rt := Q } (start N vs) H) :
    FnRK P w K mg base CX (k + 1) f ks (fun zs vs H Q E => ∃ ws rest, vs = ws ++ rest ∧ ws.length = ps.length ∧ rest.length ≤ sizeLine ∧ ∀ p d, H p = Option.none → H d = Option.none → d ≠ p → sp (ws ++ [V.ref p, V.ref d]) (upd (upd H p (.tup rest)) d (.dK (kwD (ks.zip zs)))) Q E) := by
  intro A outer s H us kws vs zs Q E hr e0 r rz lz want
  obtain ⟨ws, rest, rfl, lw, zr, want⟩ := want
  obtain ⟨ua, ub, rfl, ra, rb⟩ := StX.vals_split r
  have lu : ua.length = ps.length := ra.length.symm.trans lw
  have lk2 : kws.length = ks.length := rz.length.symm.trans lz
  have tn : H s.heap.objs.size = Option.none := e0.hok.fresh (Nat.le_refl _)
  -- the tuple's object, the heap with it, the dict's place
  let ot : Obj := { cls := .type "tuple", data := .seq ub.toArray }
  have grown : (s.heap.push ot).objs.size = s.heap.objs.size + 1 := Heap.size_push _ _
  have apart : (s.heap.push ot).objs.size ≠ s.heap.objs.size := fun z => absurd (grown.symm.trans z) (Nat.succ_ne_self _)
  have dn : H (s.heap.push ot).objs.size = Option.none := e0.hok.fresh (grown ▸ Nat.le_succ _)
  let Ht := upd H s.heap.objs.size (.tup rest)
  let Hd := upd Ht (s.heap.push ot).objs.size (.dK (kwD (ks.zip zs)))
  refine StX.run_bnd lk hcd S hr e0 (G := fun xs G => ∃ p d, H p = Option.none ∧ H d = Option.none ∧ d ≠ p ∧ xs = ws ++ [V.ref p, V.ref d] ∧ G = upd (upd H p (.tup rest)) d (.dK (kwD (ks.zip zs)))) (fun A' Ex Q' go => ?_) fun s2 G xs ⟨p, d, fp, fd, ne, ex, eG⟩ hr' => ?_
  · rw [hb ua ub kws lu lk2]
    refine wpAny_bind (wpAny_newTuple (wpAny_bind (wpAny_alloc (wpAny_bind ?_))) (rb.length ▸ zr))
    refine kw_all (ks.zip kws) (s := { s with heap := (s.heap.push ot).push ({ cls := .type "dict", data := .dict #[] } : Obj) }) (es := []) (n := 0) (Heap.get?_push_size _ rfl) (fun _ z => nomatch z) (nodup_zip hnd) fun F atd kF => wpAny_pure ?_
    have okT : ObjOk P w Ht (s.heap.push ot) s.heap.objs.size (.tup rest) := ⟨zr, ub, rb, ot, Heap.get?_push_size _ rfl, rfl, _, rfl⟩
    have eT := StX.env0_laid e0 okT
    have unT := StX.un_laid (fs := frs outer) (s := s) (o := ot) (u := .tup rest) tn
    have k1 : ∀ b o, (s.heap.push ot).get? b = some o → F.get? b = some o := fun b o e => kF b o (Nat.ne_of_lt (Heap.lt_size e)) (Heap.get?_push_of_some _ e)
    have okD : ObjOk P w Hd F (s.heap.push ot).objs.size (.dK (kwD (ks.zip zs))) := by
      refine dk_new ?_ (beq_eq_false_iff_ne.mpr (Ne.symm (Nat.ne_of_lt (StX.env0_big eT)))) (kw_KV rz) (kw_dict (by rw [List.nil_append] at atd; exact atd) (nodup_zip hnd))
      have few : (kwD (ks.zip zs)).length ≤ ks.length := by
        unfold kwD
        rw [List.length_map, List.length_zip]
        exact Nat.min_le_left _ _
      exact Nat.le_trans (Nat.le_trans few hks) (by decide)
    have unD : Un (frs outer) [] Ht Hd (s.heap.push ot) F := Un.laid k1 (Nat.le_refl _) (eT.hok.fresh (Nat.le_refl _))
    have eD : Env0 P w K mg base A outer { s with heap := F, toks := s.toks + (ks.zip kws).length } Hd :=
      { frames := eT.frames, mod := eT.mod, bare := eT.bare
        bs := fun b x e => ⟨k1 b x (eT.bs b x e).1, (upd_ne (Nat.ne_of_lt (Heap.lt_size (eT.bs b x e).1))).trans (eT.bs b x e).2⟩
        bsz := Nat.le_trans eT.bsz (Nat.le_of_lt (Heap.lt_size atd))
        funs := Heap.FunFrames.of_keeps (fun b x e _ => ⟨x, k1 b x e, rfl⟩) eT.funs
        frf := fun b z => by
          obtain ⟨_, x, e, _⟩ := eT.funs.mem z
          exact (upd_ne (Nat.ne_of_lt (Heap.lt_size e))).trans (eT.frf b z)
        hok := eT.hok.laid k1 (Nat.le_refl _) okD }
    have out := go _ _ (ws ++ [V.ref s.heap.objs.size, V.ref (s.heap.push ot).objs.size]) (ua ++ [Value.ref s.heap.objs.size, Value.ref (s.heap.push ot).objs.size]) eD (unT.trans unD) rfl
      (fun e s' => hCX outer s H _ _ E e s' (unT.trans unD) (fun b o z => k1 b o (Heap.get?_push_of_some _ z)) rfl) (ra.append (.cons rfl (.cons rfl .nil))) (by rw [List.length_append, List.length_append, lw] <;> rfl) ⟨_, _, tn, dn, apart, rfl, rfl⟩
    rw [List.zip_append lu.symm] at out
    exact out
  · subst ex eG
    exact hbody A outer s2 _ _ Q E hr' (want p d fp fd ne)
end
end VL

/-! raising an own exception of one field; a method called with keywords, which may raise -/
namespace VL
open PySem PySem.Spec PyProof.Rows L2
/-- __init__ of an own exception with one field -/
def spSup1 (C : Addr) (fld : Str) : Sp := fun vs H Q _ => ∃ (a : Addr) (x : V), vs = [.ref a, x] ∧ H a = some (exo a C none) ∧ ∀ dx, H dx = none → dx ≠ a → Q .non (upd (upd H dx (exd dx [(fld, x)])) a (exo a C (some dx)))
/-- the own exception of the name x: its class at C, its field -/
structure OwnX (P : Program) (w : World) (K : PySem.W.Frag) (mg : Str → Option Value) (base : Heap) (x : Str) (C : Addr) (fld : Str) : Prop where
  o : OexC K C
  ex : ∃ (fI : Addr) (fd : FuncData) (ps : List Str), FnOk P w K mg base CX0 2 fI fd ps (spSup1 C fld) ∧ PySem.W.findIn K (.ref C) "__init__" = some (some (.ref fI)) ∧ PySem.W.typeIn K (.ref fI) = some (.type "function") ∧ Binds K fd ps []
  m : mg x = some (.ref C)
  no : PySem.W.findIn K (.ref C) fld = some none
  xf : XfC K C
  te : PySem.W.exmOne K (.ref C) (.ref C) = some true
/-- X(e): whatever free place the fields take -/
def tX1 (C : Addr) (fld : Str) (ta : TA) : L2.St → Hp → XK → Prop := fun σ H Q => ta σ H fun vs H1 => ∃ x, vs = [x] ∧ ∀ d, H1 d = none → Q (.ref C) (some d) (upd H1 d (.xd [(fld, x)]))
/-- an argument list's reading, closed under weaker wishes -/
def clos (ta : TA) : TA := fun σ H k => ∃ k0 : List V → Hp → Prop, ta σ H k0 ∧ ∀ vs H1, k0 vs H1 → k vs H1
theorem pa_clos {X : Cx} {es : List Expr} {ta : TA} (ha : PA X es ta) : PA X es (clos ta) :=
  ⟨fun pos pins s σ H Q I ⟨_, h, hk⟩ => thn (ha.run pos pins s σ H _ I h) fun _ _ ⟨vs, H1, J, r, q⟩ => ⟨vs, H1, J, r, hk _ _ q⟩⟩
/-- the exception let go, its fields stand alone -/
theorem fields_alone {H : Hp} {a dx C : Addr} {fld : Str} {y : V} (na : H a = none) :
    upd (L2.del (upd (upd (upd H a (exo a C none)) dx (exd dx [(fld, y)])) a (exo a C (some dx))) a) dx (.xd [(fld, y)]) = upd H dx (.xd [(fld, y)]) := funext fun b => by
  by_cases h1 : b = dx
  · rw [h1, upd_same, upd_same]
  · by_cases h2 : b = a
    · rw [upd_ne h1, upd_ne h1, h2, del_same, na]
    · rw [upd_ne h1, upd_ne h1, del_ne h2, upd_ne h2, upd_ne h1, upd_ne h2]
/-- what __init__ is asked, out of what the raise is wished to leave -/
theorem sup1_asked {C a : Addr} {fld : Str} {y : V} {H : Hp} {Q : XK} (na : H a = none) (q : ∀ d, H d = none → Q (.ref C) (some d) (upd H d (.xd [(fld, y)]))) :
    spSup1 C fld (.ref a :: ([y] ++ [])) (upd H a (exo a C none)) (fun v H2 => v = .non ∧ ∃ (d : Addr) (fs : List (Str × V)), H2 a = some (exo a C (some d)) ∧ H2 d = some (exd d fs) ∧ H d = none ∧ Q (.ref C) (some d) (upd (L2.del H2 a) d (.xd fs))) (fun _ _ _ => False) := by
  refine ⟨a, y, rfl, upd_same, fun dx ndx ne => ?_⟩
  rw [upd_ne ne] at ndx
  refine ⟨rfl, dx, [(fld, y)], upd_same, by rw [upd_ne ne, upd_same], ndx, ?_⟩
  rw [fields_alone na]
  exact q dx ndx
theorem pmk_own1x {X : Cx} {C : Addr} {fld x : Str} {e : Expr} {ta : TA} {p pos : Pos} {j : Nat} (O : OwnX X.prog X.w X.K X.mg X.base x C fld) (hr : Room j X.A) (hj : 3 ≤ j) (hg : Gl X x) (ha : PA X [e] ta) (hdb : (x == ("__debug__" : Str)) = false := by decide)
    (he : starEach (e :: []) X.env = (false, eval e X.env) :: starEach [] X.env := by rfl) (hpl : (backTo pos (starEach [] X.env)).any (·.1) = false := by rfl) :
    PMk X (.Call (.Name x p) [e] [] pos) (tX1 C fld ta) := by
  obtain ⟨fI, fd, ps, F1, iC, tI, hb⟩ := O.ex
  have base := pmk_oex (ta := clos ta) (pos := pos) (p := p) O.o iC tI F1 (hr.mono hj) hb .nil pass0 hg O.m (pa_clos ha) hdb he hpl
  intro pins s σ H Q I h
  exact base pins s σ H Q I ⟨_, h, fun vs H1 ⟨y, ev, q⟩ => by
    subst ev
    exact ⟨by show 1 ≤ 1000; decide, fun a na => sup1_asked na q⟩⟩
/-! ### o.m(e, .., k = v, ..), which may raise -/
def tMethKw (C : Addr) (m : Str) (n : Nat) (sp : List V → Sp) (E : L2.St → XK) (ta : TE) (t tk : TA) : TE := fun σ H Q => ta σ H fun x H1 => ∃ a dx fs, x = .ref a ∧ H1 a = some (.ins C dx fs) ∧ fs.lookup m = none ∧
  t σ H1 fun vs H2 => tk σ H2 fun zs H3 => zs.length = n ∧ sp zs (x :: vs) H3 Q (E σ)
section
variable {X : Cx} {CX : CXT} {k : Nat} {f C : Addr} {m : Str} {ks : List Str} {sp : List V → Sp} {E : L2.St → XK} {o e : Expr} {es : List Expr} {kws : List Keyword} {ta : TE} {t tk : TA} {apos pos : Pos}
theorem run_kw {pins : List (Addr × Obj)} {σ : L2.St} {H : Hp} {s : Shared} {Q : VK} {us ws : List Value} {vs zs : List V} (F : FnRK X.prog X.w X.K X.mg X.base CX k f ks sp) (hr : Room k X.A) (hx : PassesAt CX X σ (E σ))
    (J : Inv X pins σ H s) (r : Vals vs us) (rz : Vals zs ws) (l : zs.length = ks.length) (h : sp zs vs H Q (E σ)) : wpAny (model X.prog X.w) X.A (call (.ref f) us (ks.zip ws)) (EP X pins σ Q) X.xe s :=
  wpAny_call (codeAny_mono (F X.A X.stack s H us ws vs zs Q (E σ) hr J.env0 r rz l h) fun
    | .error _, _, hq => hx _ _ _ _ _ J hq
    | .ok (.ret _), _, hq => J.after hq
    | .ok .next, _, hq => hq.elim
    | .ok .brk, _, hq => hq.elim
    | .ok .cont, _, hq => hq.elim)
/-- the method is found; what follows is the call with the object ahead -/
theorem meth_then {pl : Sem Bool} {pins : List (Addr × Obj)} {σ : L2.St} {H : Hp} {s : Shared} {Q : VK} {R : V → Hp → Prop} (he : PE X o ta) (c : Cls X.K C) (hm : Meth X.K C m f)
    (ht : eval (.Call (.Attribute o m apos) es kws pos) X.env = (eval o X.env >>= fun ov => standAt apos.atName >>= fun _ => holding [ov] (getMethod ov m pl) >>= fun gf => callWith pos gf.1 gf.2 (backTo pos (starEach es X.env)) (backToKw pos (keywordEach kws X.env))))
    (J : Inv X pins σ H s) (h : ta σ H fun x H1 => ∃ a dx fs, x = .ref a ∧ H1 a = some (.ins C dx fs) ∧ fs.lookup m = none ∧ R x H1)
    (go : ∀ a H1 s1, Inv X pins σ H1 s1 → R (.ref a) H1 → wpAny (model X.prog X.w) X.A (callWith pos (.ref f) [.ref a] (backTo pos (starEach es X.env)) (backToKw pos (keywordEach kws X.env))) (EP X pins σ Q) X.xe s1) :
    wpAny (model X.prog X.w) X.A (eval (.Call (.Attribute o m apos) es kws pos) X.env) (EP X pins σ Q) X.xe s :=
  PySem.W.methodCall_KW (pl := pl) (thn (he.run pins s σ H _ J h) fun w s1 ⟨_, H1, J1, rw, a, _, _, e, ea, l, r⟩ => by
    subst e
    cases rw
    exact getmeth_ok J1 ea c hm l (go a H1 s1 J1 r)) ht
theorem pe_methKw {pl : Sem Bool} (he : PE X o ta) (c : Cls X.K C) (hm : Meth X.K C m f) (F : FnRK X.prog X.w X.K X.mg X.base CX k f ks sp) (hr : Room k X.A) (hx : ∀ σ, PassesAt CX X σ (E σ)) (ha : PA X (e :: es) t) (hkw : PK X kws tk)
    (hall : (backToKw pos (keywordEach kws X.env)).all (·.1.isSome) = true := by rfl) (hks : (backToKw pos (keywordEach kws X.env)).filterMap (·.1) = ks := by rfl)
    (hst : starEach (e :: es) X.env = (false, eval e X.env) :: starEach es X.env := by rfl) (hpl : ((backTo pos (starEach (e :: es) X.env)).any (·.1) || (backToKw pos (keywordEach kws X.env)).any (·.1.isNone)) = false := by rfl)
    (ht : eval (.Call (.Attribute o m apos) (e :: es) kws pos) X.env = (eval o X.env >>= fun ov => standAt apos.atName >>= fun _ => holding [ov] (getMethod ov m pl) >>= fun gf => callWith pos gf.1 gf.2 (backTo pos (starEach (e :: es) X.env)) (backToKw pos (keywordEach kws X.env))) := by rfl) :
    PE X (.Call (.Attribute o m apos) (e :: es) kws pos) (tMethKw C m ks.length sp E ta t tk) :=
  ⟨fun pins s σ H Q J h => meth_then (R := fun x H1 => t σ H1 fun vs H2 => tk σ H2 fun zs H3 => zs.length = ks.length ∧ sp zs (x :: vs) H3 Q (E σ)) he c hm ht J h fun a H1 s1 J1 q =>
    PySem.W.callWith_KW (h₀ := X.base) J.ok.mod.kin hm.kp hall (thn (ha.run pos pins s1 σ H1 _ J1 q) fun us s2 ⟨vs, H2, J2, r, q2⟩ =>
      thn (hkw.run pos pins s2 σ H2 _ J2 q2) fun ws s3 ⟨zs, H3, J3, rz, lz, q3⟩ => ⟨J3.kIn, by
        rw [hks]
        exact run_kw (us := .ref a :: us) (vs := .ref a :: vs) F hr (hx σ) J3 (.cons rfl r) rz lz q3⟩) hpl hst⟩
theorem pe_methKw0 {pl : Sem Bool} (he : PE X o ta) (c : Cls X.K C) (hm : Meth X.K C m f) (F : FnRK X.prog X.w X.K X.mg X.base CX k f ks sp) (hr : Room k X.A) (hx : ∀ σ, PassesAt CX X σ (E σ)) (hkw : PK X kws tk)
    (hall : (backToKw pos (keywordEach kws X.env)).all (·.1.isSome) = true := by rfl) (hks : (backToKw pos (keywordEach kws X.env)).filterMap (·.1) = ks := by rfl)
    (hpl : ((backTo pos (starEach [] X.env)).any (·.1) || (backToKw pos (keywordEach kws X.env)).any (·.1.isNone)) = false := by rfl)
    (ht : eval (.Call (.Attribute o m apos) [] kws pos) X.env = (eval o X.env >>= fun ov => standAt apos.atName >>= fun _ => holding [ov] (getMethod ov m pl) >>= fun gf => callWith pos gf.1 gf.2 (backTo pos (starEach [] X.env)) (backToKw pos (keywordEach kws X.env))) := by rfl) :
    PE X (.Call (.Attribute o m apos) [] kws pos) (tMethKw C m ks.length sp E ta tNil tk) :=
  ⟨fun pins s σ H Q J h => meth_then (R := fun x H1 => tk σ H1 fun zs H3 => zs.length = ks.length ∧ sp zs [x] H3 Q (E σ)) he c hm ht J h fun a H1 s1 J1 q =>
    PySem.W.callWith_KW0 (h₀ := X.base) J.ok.mod.kin hm.kp hall (thn (hkw.run pos pins s1 σ H1 _ J1 q) fun ws s3 ⟨zs, H3, J3, rz, lz, q3⟩ => ⟨J3.kIn, by
        rw [hks]
        exact run_kw (us := [.ref a]) (vs := [.ref a]) F hr (hx σ) J3 (.cons rfl .nil) rz lz q3⟩) hpl⟩
end
end VL

/-! an own exception of one field, out of its text -/
namespace VL
open PySem PySem.Spec PyProof.Rows L2
open NdefX (NScope nscope_by ncx envF startF)
theorem ok_own1 {P : Program} {w : World} {K : PySem.W.Frag} {mg : Str → Option Value} {base : Heap} {f C cc cda : Addr} {prm fld qual : Str} {st : Stmt} {dV kV doc pm ct oc : Value} {an od : Option Addr} {osl : Array (Option Value)}
    {ar : Arg} {p0 p1 p2 p3 p4 p5 q1 q2 q3 q4 : Pos} {ms : Str} {j : Nat}
    (ebody : defBody st = .Expr (.Call (.Attribute (.Call (.Name "super" p0) [] [] p1) "__init__" p2) [.Constant (.str ms) j p3] [] p4) p5 :: [.Assign [.Attribute (.Name "self" q1) fld q2] (.Name prm q3) q4])
    (lk : K.lookup f = some ⟨oc, od, .func (PySem.W.ksFn "__init__" qual (defArgs st) (defBody st) (defScope st) dV kV doc pm an (.ref cda) ct cc), osl⟩)
    (hcd : PySem.W.codeIn K (.ref cda) qual = true) (S : NScope ["self", prm, "__class__"] ["self", prm] ["__class__"] (defScope st))
    (hp : ((defArgs st).posonlyargs ++ (defArgs st).args).head? = some ar) (har : ar.arg = "self") (hks : (defScope st).names.lookup ("super" : Str) = some .globalImplicit)
    (T : SupC P K mg C cc cda) (hpos : p2.endLine = p4.line) (no : PySem.W.findIn K (.ref C) fld = some none) (hd1 : (prm == ("__debug__" : Str)) = false) (hd2 : (prm == ("__classdict__" : Str)) = false) :
    FnOk P w K mg base CX0 2 f (PySem.W.ksFn "__init__" qual (defArgs st) (defBody st) (defScope st) dV kV doc pm an (.ref cda) ct cc) ["self", prm] (spSup1 C fld) := by
  refine fn_super (ps := [prm]) (k := 1) ebody lk hcd S hp har hks T hpos (fun A outer s H vs Q E hr h => ?_) (fun vs H Q E h => ?_)
  · obtain ⟨a, x, rfl, ha, q⟩ := h
    refine ⟨a, [x], rfl, rfl, ha, _, pss_one (ps_ost (to := tVar 0) (te := tVar 1) (pe_var rfl (.inl (S.par _ (by simp)))) (pe_var rfl (.inl (S.par _ (by simp))) hd1 hd2)), ?_⟩
    exact ⟨_, rfl, _, rfl, a, C, rfl, T.o, no, .inl ⟨ha, fun dx ndx ne => q dx ndx ne⟩⟩
  · obtain ⟨a, x, rfl, _⟩ := h
    rfl
end VL

/-! raising where the handler calls defs: the same, with the exception's context told -/
namespace VL
open PySem PySem.Spec PyProof.Rows L2
/-- what the class's call gives, told once for both layers -/
theorem own_called {X : Cx} {C fI : Addr} {fd : FuncData} {ps : List Str} {fld : Str} {pins : List (Addr × Obj)} {σ : L2.St} {H1 : Hp} {s1 : Shared} {y : V} {us : List Value} {Q : XK} (T : OexC X.K C) (iC : PySem.W.findIn X.K (.ref C) "__init__" = some (some (.ref fI))) (tI : PySem.W.typeIn X.K (.ref fI) = some (.type "function"))
    (F1 : FnOk X.prog X.w X.K X.mg X.base CX0 2 fI fd ps (spSup1 C fld)) (hb : Binds X.K fd ps []) (hr : Room 3 X.A) (J : Inv X pins σ H1 s1) (r : Vals [y] us) (q : ∀ d, H1 d = none → Q (.ref C) (some d) (upd H1 d (.xd [(fld, y)]))) :
    wpAny (model X.prog X.w) X.A (call (.ref C) us) (L2N.MkP X pins σ Q) X.xe s1 := by
  obtain ⟨nm, qn, N, bs, bm, sn, sub, ab, col, dd, m0, m1, m2, m3, m5, at_, chain⟩ := T.cls
  obtain ⟨h0, g0, d0, k0, o0⟩ := s1
  -- the arguments' tuple, the bare exception
  let te : Obj := PySem.W.kdv_tup us
  let E0 : Addr := h0.objs.size + 1
  let hx := (h0.push te).push (PySem.HandSPX.excO C h0.objs.size)
  have more : ∀ b o, h0.get? b = some o → hx.get? b = some o := fun b o e => Heap.get?_push_of_some _ (Heap.get?_push_of_some _ e)
  have bare : hx.get? E0 = some (PySem.HandSPX.excO C h0.objs.size) := by
    show ((h0.push te).push _).get? (h0.objs.size + 1) = _
    rw [← Heap.size_push h0 te]
    exact Heap.get?_push_size _ rfl
  have free : H1 E0 = none := J.hok.fresh (Nat.le_succ _)
  have Jx : Inv X pins σ (upd H1 E0 (exo E0 C none)) ⟨hx, g0, d0, k0, o0⟩ := J.laid (t' := k0) more (Nat.le_succ _) (exo_ok bare)
  have asked := sup1_asked (C := C) (fld := fld) free q
  have rv : Vals (V.ref E0 :: ([y] ++ [])) (Value.ref E0 :: us) := .cons rfl r
  have len : (Value.ref E0 :: us).length = ps.length := rv.length.symm.trans (F1.len _ _ _ _ asked)
  have bound : BindsTo ⟨hx, g0, d0, k0, o0⟩ fd ⟨Value.ref E0 :: us, []⟩ (ps.zip (Value.ref E0 :: us)) := by
    have z := hb ⟨hx, g0, d0, k0, o0⟩ (Value.ref E0 :: us) Jx.kIn (by rw [List.append_nil]; exact len)
    rw [List.append_nil] at z
    exact z
  have short : us.length ≤ sizeLine := by
    rw [← r.length]
    show 1 ≤ sizeLine
    decide
  refine wpAny_call (PySem.HandSPX.call_own PySem.F.excBase_ValueError (fun Y => PySem.HandSPX.refsVE_contains Y bm chain) (J.kIn _ _ at_) (PySem.W.looks_findIn J.kIn iC) (fun self => PySem.W.bind_fn J.kIn self tI) short
    (codeAny_mono (F1.run _ X.stack _ _ _ _ _ _ _ (hr.make C us []) (Jx.env0.make C us []) bound rv asked) fun
    | .error e, s', z => z.elim
    | .ok .next, _, z => z.elim
    | .ok .brk, _, z => z.elim
    | .ok .cont, _, z => z.elim
    | .ok (.ret u), s', z => ?_))
  obtain ⟨v, H2, sameOs, bareG, un, ok, ru, ev, d, fs, ea, ed, nd, q2⟩ := z
  subst ev
  obtain ⟨h2, g2, d2, k2, o2⟩ := s'
  obtain ⟨t0, G, JG, up, gone, there, na⟩ := mk_end0 (d2 := d2) (t2 := k2) J (Nat.le_succ _) more un ok sameOs bareG ea ed nd
  refine ⟨ru, E0, _, _, ⟨G, g2, d2, k2, o2⟩, _, .ref C, some d, rfl, JG, up, gone, there, ⟨rfl, rfl, fun vs e => ?_⟩, rfl, rfl, na, rfl, bareG, raises_own T.exC T.tyC, q2⟩
  cases e
  rfl
section
variable {X : Cx} {C : Addr} {fld x : Str} {e : Expr} {ta : TA} {p pos : Pos} {j : Nat}
theorem pmk_own1xN (O : OwnX X.prog X.w X.K X.mg X.base x C fld) (hr : Room j X.A) (hj : 3 ≤ j) (hg : Gl X x) (ha : PA X [e] ta) (hdb : (x == ("__debug__" : Str)) = false := by decide)
    (he : starEach (e :: []) X.env = (false, eval e X.env) :: starEach [] X.env := by rfl) (hpl : (backTo pos (starEach [] X.env)).any (·.1) = false := by rfl) :
    L2N.PMk X (.Call (.Name x p) [e] [] pos) (tX1 C fld ta) := by
  obtain ⟨fI, fd, ps, F1, iC, tI, hb⟩ := O.ex
  exact fun pins s σ H Q J h => wpAny_Call_Name_kw (ld_glob J hg O.m (PySem.W.callWith_K (h₀ := X.base) J.ok.mod.kin O.o.kC (thn (ha.run pos pins s σ H _ J h) fun us s1 ⟨vs, H1, J1, r, y, ev, q⟩ => ⟨J1.kIn, by
    subst ev
    exact own_called O.o iC tI F1 hb (hr.mono hj) J1 r q⟩) he hpl) hdb)
end
/-- a plain def as one that is called with no keywords -/
theorem fn_rk0 {CX : CXT} {P : Program} {w : World} {K : PySem.W.Frag} {mg : Str → Option Value} {base : Heap} {k : Nat} {f : Addr} {fd : FuncData} {ps : List Str} {sp : Sp} (F : FnOk P w K mg base CX k f fd ps sp) (hb : Binds K fd ps []) : FnRK P w K mg base CX k f [] (fun _ => sp) := by
  intro A outer s H us ws vs zs Q E hr e0 r rz hl h
  refine F.run A outer s H ⟨us, []⟩ us vs Q E hr e0 ?_ r h
  have z := hb s us (e0.mod.kin.keeps fun b o e => (e0.bs b o e).1) (by rw [List.append_nil]; exact r.length.symm.trans (F.len _ _ _ _ h))
  rw [List.append_nil] at z
  exact z
/-- a suite in which defs may be called -/
theorem hot_suite {X : Cx} {a : Addr} {oe : Obj} {cls : Value} {d : Option Addr} {pn : List (Addr × Obj)} (hz : L2N.Zn cls d oe) (hf : ∃ vs, oe.data = .fields vs) : L2H.HotC (X.suite a ((a, oe) :: pn)) :=
  hf.elim fun vs hv => ⟨(a, oe), ⟨rfl, vs, hv, hz.2.2 vs hv⟩, .head _⟩
end VL

namespace VL
open PySem PySem.Spec PyProof.Rows L2
/-- isinstance(e, c), e the error that the suite holds, its dict at d -/
def rIsD (K : PySem.W.Frag) (D a d : Addr) : List V → Hp → VK → Prop := fun xs H Q => ∃ (c : V) (cv : Value) (b : Bool) (fs : List (Str × V)), xs = [.ref a, c] ∧ H d = some (.xd fs) ∧ (∀ u, RelV c u → u = cv) ∧ PySem.W.kitOne K (.ref D) cv = some b ∧ Q (.bl b) H
theorem call_isD {X : Cx} {a D d : Addr} {oe : Obj} {pn : List (Addr × Obj)} (C : ExcC X.K D) (hz : Zc (.ref D) (some d) oe) (hf : ∃ vs, oe.data = .fields vs) : CallR (X.suite a ((a, oe) :: pn)) (.builtin "isinstance") (rIsD X.K D a d) := fun pins s σ H xs us Q J r h => by
  obtain ⟨c, cv, b, fs, rfl, hd, hcv, e, q⟩ := h
  match us, r with
  | [u1, u2], .cons r1 (.cons r2 .nil) =>
    cases r1
    cases hcv _ r2
    obtain ⟨vs, fields⟩ := hf
    obtain ⟨mA, hns, _⟩ := (show ObjOk X.prog X.w H s.heap d (.xd fs) from J.hok d _ hd)
    obtain ⟨od, there, _⟩ := lookIn_ns hns
    have held := (J.pin (a, oe) (List.mem_append_left _ List.mem_cons_self)).1
    have inst : PySem.W.InstAt s.heap a oe D (some od) := ⟨held, hz.1, by unfold PySem.W.notCls; rw [fields] <;> rfl, by rw [hz.2]; exact there⟩
    have known : (PySem.W.clsIn X.K D).isSome = true := by
      obtain ⟨cd, z, _⟩ := PySem.W.any_some C.hd
      rw [z] <;> rfl
    exact PySem.W.kia_one (PySem.W.kitx_exc (od := some od) known C.hg C.hk C.hs C.ha C.hn C.ht C.hm) J.kIn inst e (fun z => nomatch z) fun tk => ⟨.bl b, H, J.kept (t' := tk) fun _ _ z => z, rfl, q⟩
end VL

/-! len(o), x in o, o == x of an instance of an own class, by its own methods -/
namespace VL
open PySem PySem.Spec PyProof.Rows L2
open C8 (Met)
section
variable {X : Cx} {pins : List (Addr × Obj)} {σ : L2.St} {H : Hp} {s : Shared} {C f : Addr} {k j : Nat} {m : Str} {sp : Sp}
/-- a method runs, somewhere below the body -/
theorem met_run {A : Around} {fd : FuncData} {ps : List Str} {ds : List Value} {us : List Value} {vs : List V} {Q : VK} {Ex : Value → Shared → Prop} (hr : Room k A) (hfr : A.frames = X.A.frames) (F : FnOk X.prog X.w X.K X.mg X.base CX0 k f fd ps sp) (hb : Binds X.K fd ps ds) (hd : Vals [] ds) (I : Inv X pins σ H s) (r : Vals vs us)
    (h : sp vs H Q (fun _ _ _ => False)) : wpAny (model X.prog X.w) A (call (.ref f) us) (EP X pins σ Q) Ex s := by
  cases hd
  have e0 : Env0 X.prog X.w X.K X.mg X.base A X.stack s H := by
    have e := I.env0
    exact ⟨by rw [hfr]; exact e.frames, e.mod, e.bs, e.bsz, e.funs, e.frf, e.hok, e.bare⟩
  have hl := F.len _ _ _ _ h
  have hl2 : us.length = ps.length := by rw [← r.length]; exact hl
  refine wpAny_call (codeAny_mono (F.run A X.stack s H ⟨us, []⟩ us vs _ (fun _ _ _ => False) hr e0 (by
    have z := hb s us I.kIn (by rw [List.append_nil]; exact hl2)
    rw [List.append_nil] at z
    exact z) r h) fun r s' hq => ?_)
  cases r with
  | error e => exact False.elim hq
  | ok fl =>
    cases fl with
    | ret w => exact I.after hq
    | next => exact False.elim hq
    | brk => exact False.elim hq
    | cont => exact False.elim hq
/-- len(o) -/
def rLenO (C : Addr) (sp : Sp) : List V → Hp → VK → Prop := fun xs H Q => ∃ (a dx : Addr) (fs : List (Str × V)), xs = [.ref a] ∧ H a = some (.ins C dx fs) ∧ sp [.ref a] H (fun v H' => ∃ n : Int, v = .int n ∧ 0 ≤ n ∧ n < 2 ^ 63 ∧ Q (.int n) H') (fun _ _ _ => False)
theorem call_lenO (c : Met X.prog X.w X.K X.mg X.base k C "__len__" sp []) (hr : Room j X.A) (hk : k + 1 ≤ j) : CallR X (.builtin "len") (rLenO C sp) := by
  intro pins s σ H xs us Q I r h
  obtain ⟨a, dx, fs, rfl, ha, hs⟩ := h
  obtain ⟨f, fd, ps, ds, cl, me, F, hb, hd⟩ := c.ex
  obtain ⟨u, rfl, ru⟩ := vals1 r
  obtain rfl : u = Value.ref a := ru
  obtain ⟨mA, J, _⟩ := ins_get I.hok ha
  obtain ⟨od, J, _⟩ := J.look
  obtain ⟨mm, hF⟩ := I.fr
  refine PySem.W.len_K hF I.ok.mod.kin J me.at_ me.fn (thn (met_run (A := X.A.in1) ((hr.mono hk).in1) rfl F hb hd I (vs := [.ref a]) (us := [.ref a]) (.cons rfl .nil) hs) fun v s' hv => ?_)
  obtain ⟨x, H', I', rx, n, rfl, n0, n1, q⟩ := hv
  obtain ⟨t, rfl⟩ := rx
  exact ⟨⟨n0, n1⟩, .int n, H', I'.tok _, ⟨_, rfl⟩, q⟩
/-- x in o -/
def rInO (C : Addr) (sp : Sp) : R2 := fun x y H Q => ∃ (a dx : Addr) (fs : List (Str × V)), y = .ref a ∧ H a = some (.ins C dx fs) ∧ sp [.ref a, x] H (fun v H' => ∃ b, v = .bl b ∧ Q (.bl b) H') (fun _ _ _ => False)
theorem op_inO (c : Met X.prog X.w X.K X.mg X.base k C "__contains__" sp []) (hr : Room j X.A) (hk : k ≤ j) : OpR X (compareOp .In) (rInO C sp) := by
  intro pins s σ H x y v u Q I rx ry h
  obtain ⟨a, dx, fs, rfl, ha, hs⟩ := h
  obtain ⟨f, fd, ps, ds, cl, me, F, hb, hd⟩ := c.ex
  obtain rfl : u = Value.ref a := ry
  obtain ⟨mA, J, _⟩ := ins_get I.hok ha
  obtain ⟨od, J, _⟩ := J.look
  obtain ⟨mm, hF⟩ := I.fr
  refine PySem.W.in_K hF I.ok.mod.kin J me.at_ me.fn (thn (met_run (hr.mono hk) rfl F hb hd I (vs := [.ref a, x]) (us := [.ref a, v]) (.cons rfl (.cons rx .nil)) hs) fun w s' hv => ?_)
  obtain ⟨z, H', I', rz, b, rfl, q⟩ := hv
  obtain rfl : w = Value.bool b := rz
  exact wpAny_truthy_bool ⟨.bl b, H', I', rfl, q⟩
/-- o == x, x of the built-in class T or another instance of the class -/
def EqTo (K : PySem.W.Frag) (C : Addr) (H : Hp) (y : V) : Prop := (∃ b dy gs, y = .ref b ∧ H b = some (.ins C dy gs)) ∨ ∃ t xs, y = .ref t ∧ H t = some (.tup xs) ∧ PySem.W.subIn K (.type "tuple") (.ref C) = some false
def rEqO (K : PySem.W.Frag) (C : Addr) (sp : Sp) : R2 := fun x y H Q => ∃ (a dx : Addr) (fs : List (Str × V)), x = .ref a ∧ H a = some (.ins C dx fs) ∧ EqTo K C H y ∧ sp [.ref a, y] H (fun v H' => ∃ b, v = .bl b ∧ Q (.bl b) H') (fun _ _ _ => False)
theorem op_eqO (c : Met X.prog X.w X.K X.mg X.base k C "__eq__" sp []) (hr : Room j X.A) (hk : k ≤ j) : OpR X (compareOp .Eq) (rEqO X.K C sp) := by
  intro pins s σ H x y v u Q I rx ry h
  obtain ⟨a, dx, fs, rfl, ha, hy, hs⟩ := h
  obtain ⟨f, fd, ps, ds, cl, me, F, hb, hd⟩ := c.ex
  obtain rfl : v = Value.ref a := rx
  obtain ⟨mA, J, _⟩ := ins_get I.hok ha
  obtain ⟨od, J, _⟩ := J.look
  obtain ⟨mm, hF⟩ := I.fr
  show wpAny (model X.prog X.w) X.A (richCompare .Eq (.ref a) u) (EP X pins σ Q) X.xe s
  obtain ⟨tb, hty, hnf⟩ : ∃ tb, PySem.W.Looks (model X.prog X.w) s.heap (typeOf u) tb ∧ PySem.W.notFirst X.K C tb = true := by
    rcases hy with ⟨b, dy, gs, rfl, hb'⟩ | ⟨t, xs, rfl, ht, hno⟩
    · obtain rfl : u = Value.ref b := ry
      obtain ⟨mB, J', _⟩ := ins_get I.hok hb'
      obtain ⟨od', J', _⟩ := J'.look
      exact ⟨.ref C, J'.type, by simp [PySem.W.notFirst]⟩
    · obtain rfl : u = Value.ref t := ry
      obtain ⟨its, _, p1, _⟩ := I.tuple (SqT.of ht)
      refine ⟨.type "tuple", ?_, by simp [PySem.W.notFirst, hno]⟩
      obtain ⟨o, ho, hc, _⟩ := p1
      intro A Q E s' kp q
      exact wpAny_typeOf ⟨o, kp _ _ ho, hc⟩ q
  refine PySem.W.cmp_K (op := .Eq) (tb := tb) (hr.mono hk).units0 hF I.ok.mod.kin J hty hnf me.at_ me.fn (thn (met_run (hr.mono hk) rfl F hb hd I (vs := [.ref a, y]) (us := [.ref a, u]) (.cons rfl (.cons ry .nil)) hs) fun w s' hv => ?_)
  obtain ⟨z, H', I', rz, b, rfl, q⟩ := hv
  obtain rfl : w = Value.bool b := rz
  exact ⟨.bl b, H', I', rfl, q⟩
end
end VL

/-! def f(a, *v) whose tuple is told by its object; a method of such a tuple -/
namespace VL
open PySem PySem.Spec PyProof.Rows L2
/-- a plain tuple's object -/
def tupObj (us : List Value) : Obj := { cls := .type "tuple", data := .seq us.toArray }
/-- a plain tuple, told with its object -/
def PT (H : Hp) (p : Addr) (xs : List V) : Prop := ∃ ob : Obj, H p = some (.frz ob (.tup xs)) ∧ ob.cls = .type "tuple" ∧ ob.dict = Option.none
theorem PT.same {H H' : Hp} {p : Addr} {xs : List V} (h : PT H p xs) (s : Same H H') : PT H' p xs := by
  obtain ⟨ob, h1, h2⟩ := h
  exact ⟨ob, s _ _ h1, h2⟩
theorem PT.sq {K : PySem.W.Frag} {H : Hp} {p : Addr} {xs : List V} (h : PT H p xs) : SqT K H p xs := by
  obtain ⟨ob, h1, _⟩ := h
  exact .inl (.inr ⟨ob, h1⟩)
section
variable {P : Program} {w : World} {K : PySem.W.Frag} {base : Heap} {mg : Str → Option Value} {CX : CXT} {sp : Sp} {N ps : List Str} {pv name qual : Str} {k : Nat}
  {params : Arguments} {scope : Scope} {body : List Stmt} {f : Addr} {oc dV kV doc pm cdv ct : Value} {od an : Option Addr} {osl : Array (Option Value)}
/-- the def takes what is left over as one tuple -/
abbrev Rest (fd : FuncData) (ps : List Str) (pv : Str) : Prop :=
  ∀ us more : List Value, us.length = ps.length → bindArgs fd ⟨us ++ more, []⟩ = (newTuple more >>= fun t => pure (ps.zip us ++ [(pv, t)]))
/-- the body keeps the wish -/
abbrev Runs (P : Program) (w : World) (K : PySem.W.Frag) (mg : Str → Option Value) (base : Heap) (CX : CXT) (N : List Str) (qual : Str) (scope : Scope) (f : Addr) (cdv : Value) (k : Nat) (body : List Stmt) (sp : Sp) : Prop :=
  ∀ (A : Around) (outer : List Env) (s : Shared) (H : Hp) (vs : List V) (Q : VK) (E : XK), Room k (A.deeper (envOfC qual scope s.heap.objs.size f cdv)) → sp vs H Q E →
    ∃ te, PSs (cxOf CX P w K mg base N qual scope f cdv A outer s H E) body te ∧ te ⟨fun _ G => Q .non G, Q, fun _ _ => False, fun _ _ => False⟩ (start N vs) H
/-- the parameters are bound: what is left over lies in a plain tuple -/
theorem bnd_frz {fd : FuncData} {A : Around} {outer : List Env} {s : Shared} {H : Hp} {E : XK} {ws rest : List V} {u1 u2 : List Value} (up : StX.CXUp CX) (e0 : Env0 P w K mg base A outer s H) (r1 : Vals ws u1) (r2 : Vals rest u2) (hl : ws.length = ps.length) (hz : rest.length ≤ sizeLine)
    (hb : bindArgs fd ⟨u1 ++ u2, []⟩ = (newTuple u2 >>= fun t => pure (ps.zip u1 ++ [(pv, t)]))) :
    StX.Bnd CX P w K mg base fd ⟨u1 ++ u2, []⟩ (ps ++ [pv]) A outer s H E (fun xs G => ∃ p, xs = ws ++ [V.ref p] ∧ PT G p rest ∧ ∃ ob, H p = Option.none ∧ G = upd H p (.frz ob (.tup rest))) := by
  intro A1 Ex Q h
  have new : H s.heap.objs.size = Option.none := e0.hok.fresh (Nat.le_refl _)
  have small : u2.length ≤ sizeLine := by rw [← r2.length]; exact hz
  have stands : (s.heap.push (tupObj u2)).get? s.heap.objs.size = some (tupObj u2) := Heap.get?_push_size _ rfl
  have un : Un (frs outer) [] H (upd H s.heap.objs.size (.frz (tupObj u2) (.tup rest))) s.heap (s.heap.push (tupObj u2)) := StX.un_laid new
  have le : ps.length = u1.length := by rw [← hl]; exact r1.length
  rw [hb]
  refine wpAny_bind (wpAny_newTuple (wpAny_pure ?_) small)
  have g := h { s with heap := s.heap.push (tupObj u2) } (upd H s.heap.objs.size (.frz (tupObj u2) (.tup rest))) (ws ++ [.ref s.heap.objs.size]) (u1 ++ [.ref s.heap.objs.size])
    (StX.env0_laid e0 ⟨stands, hz, u2, r2, tupObj u2, stands, rfl, 0, rfl⟩) un rfl
    (fun e s' q => up outer s H { s with heap := s.heap.push (tupObj u2) } _ E e s' un (fun b o e => Heap.get?_push_of_some _ e) rfl q)
    (r1.append (.cons (show RelV (.ref s.heap.objs.size) (.ref s.heap.objs.size) from rfl) .nil))
    (by simp [hl]) ⟨_, rfl, ⟨_, upd_same, rfl, rfl⟩, _, new, rfl⟩
  rwa [List.zip_append le] at g
/-- def f(a, .., *v) -/
theorem fn_starF (lk : K.lookup f = some ⟨oc, od, .func (PySem.W.fnOf name qual params body scope dV kV doc pm an cdv ct), osl⟩) (hcd : PySem.W.codeIn K cdv qual = true) (S : FnScope N (ps ++ [pv]) scope) (up : StX.CXUp CX)
    (hb : Rest (PySem.W.fnOf name qual params body scope dV kV doc pm an cdv ct) ps pv) (run : Runs P w K mg base CX N qual scope f cdv k body sp) :
    FnR P w K mg base CX (k + 1) f (fun vs H Q E => ∃ ws rest, vs = ws ++ rest ∧ ws.length = ps.length ∧ rest.length ≤ sizeLine ∧ ∀ p ob, H p = Option.none → PT (upd H p (.frz ob (.tup rest))) p rest → sp (ws ++ [.ref p]) (upd H p (.frz ob (.tup rest))) Q E) := by
  intro A outer s H us vs Q E room e0 r h
  obtain ⟨ws, rest, rfl, hl, hz, q⟩ := h
  obtain ⟨u1, u2, rfl, r1, r2⟩ := StX.vals_split r
  have le : u1.length = ps.length := by rw [← r1.length]; exact hl
  refine StX.run_bnd lk hcd S room e0 (bnd_frz up e0 r1 r2 hl hz (hb u1 u2 le)) ?_
  rintro s2 _ _ ⟨p, rfl, hp, ob, hn, rfl⟩ room2
  exact run A outer s2 _ _ Q E room2 (q p ob hn hp)
end
section
variable {X : Cx} {o e : Expr} {es : List Expr} {to : TE} {t : TA} {name : Str} {apos cpos : Pos} {T id : String} {r : V → List V → Hp → VK → Prop}
/-- o.m(..), o a plain tuple -/
def tPM (r : V → List V → Hp → VK → Prop) (to : TE) (t : TA) : TE := fun σ H Q => to σ H fun x H1 => (∃ p xs, x = .ref p ∧ PT H1 p xs) ∧ t σ H1 fun ys H2 => r x ys H2 Q
theorem pe_pm (slot : Slot "tuple" name id) (hty : typeOf (.builtin id) = pure (.type "method_descriptor")) (hm : MtR X id r) (ho : PE X o to) (ha : PA X (e :: es) t)
    (form : attributeBase o name X.env (eval o X.env) = eval o X.env ∧ (apos.endLine == cpos.line) = true ∧ starEach (e :: es) X.env = (false, eval e X.env) :: starEach es X.env ∧ (backTo cpos (starEach es X.env)).any (·.1) = false ∧
      ((backTo cpos (starEach (e :: es) X.env)).all (fun y => !y.1) && (backToKw cpos (keywordEach [] X.env)).all (fun y => y.1.isSome) && decide ((e :: es).length + ([] : List Keyword).length + (if ([] : List Keyword).isEmpty then 0 else 1) < 30)) = true := by exact ⟨rfl, rfl, rfl, rfl, rfl⟩) :
    PE X (.Call (.Attribute o name apos) (e :: es) [] cpos) (tPM r to t) := by
  obtain ⟨hbase, hline, hs, hplain, hfew⟩ := form
  constructor
  intro pins s σ H Q I h
  refine wpAny_Call_method_late hbase hfew hline rfl (thn (ho.run pins s σ H _ I h) ?_)
  rintro v s1 ⟨x, H1, I1, r1, ⟨p, xs, rfl, ob, hp, hc, hd⟩, q1⟩
  cases r1
  have there : s1.heap.get? p = some ob := (I1.hok p _ hp).1
  refine ⟨"tuple", id, PySem.F.plainAttrs_tuple, slot, hty, ⟨ob, there, hc⟩, ?_, ?_⟩
  · rintro _ ⟨⟩
    exact ⟨ob, there, hd⟩
  have args := ha.run cpos pins s1 σ H1 _ I1 q1
  rw [hs] at args ⊢
  refine Calls.callWith_builtin (by unfold backTo at hplain ⊢; rw [List.map_cons, List.any_cons]; exact hplain) (Calls.evalArgs_plain (thn args ?_))
  rintro us s2 ⟨vs, H2, I2, r2, q2⟩
  exact hm pins s2 σ H2 (.ref p) vs _ us Q I2 rfl r2 q2
end
end VL

namespace VL
open PySem PySem.Spec PyProof.Rows L2
open C8 (Cal pe_c)
def top (i : Nat) : Stmt := PySem.Challenge.pw_shelfterms_k01_catalog_names.main.body.getD i (.Pass ⟨0, 0, 0, 0⟩)
structure Cs where
  LETTERS : Value
  LONGEST_NAME : Value
  C : Addr
structure Tx (mg : Str → Option Value) (u : Cs) : Prop where
  len : mg "len" = none
  list : mg "list" = none
  int : mg "int" = none
  isinstance : mg "isinstance" = none
  bool : mg "bool" = none
  str : mg "str" = none
  tuple : mg "tuple" = none
  range : mg "range" = none
  all : mg "all" = none
  set : mg "set" = none
  mLETTERS : mg "LETTERS" = some u.LETTERS
  rLETTERS : RelV (.str "abcdefghijklmnopqrstuvwxyz") u.LETTERS
  mLONGEST_NAME : mg "LONGEST_NAME" = some u.LONGEST_NAME
  rLONGEST_NAME : RelV (.int 12) u.LONGEST_NAME
  mCatalog : mg "Catalog" = some (.ref u.C)
  rCatalog : RelV (.ref u.C) (.ref u.C)
section
variable {P : Program} {w : World} {K : PySem.W.Frag} {mg : Str → Option Value} {base : Heap} {u : Cs}
abbrev sLbox : Stmt := top 13
theorem scLbox : FnScope ["_law_script"] ["_law_script"] (defScope sLbox) := ⟨rfl, rfl, rfl, by decide +kernel, rfl, by decide +kernel, by decide +kernel⟩
theorem ok_box {f : Addr} {fd : FuncData} (F : Fun K "_law_box" "_law_box" sLbox f fd) (T : Tx mg u) : FnOk P w K mg base CX0 1 f fd ["_law_script"] (spBox K) := by
  refine F.ok scLbox (fun vs H Q E h => ?_) (fun cdv A outer s H vs Q E hr h => ?_)
  · obtain ⟨a, ns, rfl, _⟩ := h
    rfl
  obtain ⟨a, ns, rfl, hS, hlen, q⟩ := h
  refine ⟨_, (pss_one (ps_ret (pe_lst (pa_cons (pe_callTy call_list_of (by rfl) T.list (by decide +kernel) (pa_cons (pe_slice sl_list (pv 0) po_none (po_some pe_int)) pa_nil)) (pa_cons pe_int (pa_cons pe_int (pa_cons pe_int pa_nil))))))), ?_⟩
  obtain ⟨cs, ec⟩ := cutV_ints ns none (some 63)
  refine ⟨.ref a, rfl, 63, rfl, a, ns.map V.int, rfl, hS, fun c nc => ?_⟩
  rw [ec]
  refine ⟨c, cs.map V.int, rfl, .inl (.inl (.inl upd_same)), fun L nL => ?_⟩
  refine ⟨by show 4 ≤ sizeLine; decide, fun b nb => ?_⟩
  have s1 : Same H (upd H c (.lst (cs.map V.int))) := same_upd nc
  have s2 : Same _ (upd (upd H c (.lst (cs.map V.int))) L (.lst (cs.map V.int))) := same_upd nL
  have s3 := same_upd (o := .lst [.ref L, .int 0, .int 0, .int 1]) nb
  have nLb : L ≠ b := fun e => by rw [← e, upd_same] at nb; cases nb
  refine q b L _ ((s1.trans s2).free nb) (s1.free nL) (s1.trans (s2.trans s3)) ⟨cs, 0, 0, 1, nLb, ?_, upd_same, by decide, by decide, by decide⟩
  rw [upd_ne nLb, upd_same]
abbrev sLtake : Stmt := top 14
theorem scLtake : FnScope ["_law_box_here", "_law_size", "_law_cell", "_law_digit"] ["_law_box_here", "_law_size"] (defScope sLtake) := ⟨rfl, rfl, rfl, by decide +kernel, rfl, by decide +kernel, by decide +kernel⟩
theorem ok_take {f : Addr} {fd : FuncData} (F : Fun K "_law_take" "_law_take" sLtake f fd) (T : Tx mg u) : FnOk P w K mg base CX0 1 f fd ["_law_box_here", "_law_size"] spTake := by
  refine F.ok scLtake (fun vs H Q E h => ?_) (fun cdv A outer s H vs Q E hr h => ?_)
  · obtain ⟨b, L, n, rfl, _⟩ := h
    rfl
  obtain ⟨b, L, n, rfl, n0, n1, ⟨cs, p, r, x, nLb, hL, hb, p0, x0, x1⟩, q⟩ := h
  refine ⟨_, (C8.pss_cut (ps_if (PW.pt (pw_and (pt_cmpR op_eq (pe_ix ix_list (pv 0) pe_int (fun _ _ => rfl)) pe_int (nomark _)) (pw_and1 (pt_cmpR op_lt (pe_ix ix_list (pv 0) pe_int (fun _ _ => rfl)) (pe_callB call_len_seq (by rfl) T.len PySem.boot_len (pa_cons (pe_ix ix_list (pv 0) pe_int (fun _ _ => rfl)) pa_nil)) (nomark _)))))
    (pss_cons (ps_set (i := 2) scLtake.nd rfl (Or.inl rfl) (pe_ix ix_list (pe_ix ix_list (pv 0) pe_int (fun _ _ => rfl)) (pe_ix ix_list (pv 0) pe_int (fun _ _ => rfl)) (fun _ _ => rfl)))
    (pss_cons (ps_asg (pe_op op_add (pe_ix ix_list (pv 0) pe_int (fun _ _ => rfl)) pe_int) (pg_sub (pv 0) pe_int set_list))
    (pss_one (ps_if (pt_cmpR op_ge (pv 2) (pe_op op_pow pe_int pe_int) (nomark _))
      (pss_one (ps_asg (pe_op op_sub (pv 2) (pe_op op_pow pe_int pe_int)) (pg_sub (pv 0) pe_int set_list)))
      (pss_one (ps_asg (pe_op op_mod (pe_callTy call_int1 (by rfl) T.int (by decide +kernel) (pa_cons (pe_op op_add (pe_op op_mul (pe_ix ix_list (pv 0) pe_int (fun _ _ => rfl)) pe_int) (pv 2)) pa_nil)) pe_int) (pg_sub (pv 0) pe_int set_list)))))))
    pss_nil)
  (pss_cons (ps_if (pt_cmpR op_gt (pe_ix ix_list (pv 0) pe_int (fun _ _ => rfl)) pe_int (nomark _))
    (pss_cons (ps_set (i := 3) scLtake.nd rfl (Or.inl rfl) (pe_op op_mod (pe_callTy call_int1 (by rfl) T.int (by decide +kernel) (pa_cons (pe_ix ix_list (pv 0) pe_int (fun _ _ => rfl)) pa_nil)) (pv 1)))
    (pss_cons (ps_asg (pe_op op_fdivW (pe_ix ix_list (pv 0) pe_int (fun _ _ => rfl)) (pv 1)) (pg_sub (pv 0) pe_int set_list))
    (pss_one (ps_ret (pv 3)))))
    pss_nil)
  (pss_cons (ps_asg (pe_op op_mod (pe_callTy call_int1 (by rfl) T.int (by decide +kernel) (pa_cons (pe_op op_add (pe_op op_mul (pe_ix ix_list (pv 0) pe_int (fun _ _ => rfl)) pe_int) pe_int) pa_nil)) pe_int) (pg_sub (pv 0) pe_int set_list))
  (pss_one (ps_ret (pe_op op_mod (pe_callTy call_int1 (by rfl) T.int (by decide +kernel) (pa_cons (pe_op op_fdivW (pe_ix ix_list (pv 0) pe_int (fun _ _ => rfl)) pe_int) pa_nil)) (pv 1))))))), ?_⟩
  have hU : ∀ {o u : HO}, upd (upd H b o) b u = upd H b u := upd_upd
  have cp : CPow 10 18 := ⟨by decide, by decide, by decide⟩
  refine ⟨fun σ' H' => ∃ y2 p r x, σ' = [some (.ref b), some (.int n), y2, none] ∧ H' = upd H b (.lst [.ref L, .int p, .int r, .int x]) ∧ 0 ≤ p ∧ 0 ≤ x ∧ x < 2147483647, ?_, ?_⟩
  · have stay : ∃ (y2 : Option V) (p' r' x' : Int), ([some (.ref b), some (.int n), none, none] : L2.St) = [some (.ref b), some (.int n), y2, none] ∧ H = upd H b (.lst [.ref L, .int p', .int r', .int x']) ∧ 0 ≤ p' ∧ 0 ≤ x' ∧ x' < 2147483647 := ⟨none, p, r, x, rfl, (upd_self hb).symm, p0, x0, x1⟩
    refine ⟨_, rfl, b, _, 2, _, rfl, rfl, SqL.of hb, rfl, rfl, _, rfl, ite2 (fun _ => ?_) (fun _ => iteF stay)⟩
    refine ⟨_, rfl, b, _, 1, _, rfl, rfl, SqL.of hb, rfl, _, rfl, b, _, 0, _, rfl, rfl, SqL.of hb, rfl, L, _, rfl, .inl (SqL.of hL), _, _, rfl, rfl, _, rfl, ite2 (fun e => ?_) (fun _ => stay)⟩
    have hp : p < (cs.length : Int) := by
      have := of_decide_eq_true e
      rw [List.length_map] at this
      exact this
    obtain ⟨c, _, hc⟩ := atI_ints p0 hp
    refine ⟨_, rfl, b, _, 0, _, rfl, rfl, SqL.of hb, rfl, _, rfl, b, _, 1, _, rfl, rfl, SqL.of hb, rfl, L, _, p, .int c, rfl, rfl, SqL.of hL, hc, ?_⟩
    refine ⟨_, rfl, b, _, 1, _, rfl, rfl, SqL.of hb, rfl, _, _, rfl, rfl, _, rfl, b, _, 1, 1, rfl, rfl, hb, rfl, ?_⟩
    have hb1 : (upd H b (.lst [.ref L, .int (p + 1), .int r, .int x])) b = some (.lst [.ref L, .int (p + 1), .int r, .int x]) := upd_same
    refine ⟨_, rfl, _, _, rfl, rfl, cp, _, _, rfl, rfl, _, rfl, ite2 (fun _ => ?_) (fun _ => ?_)⟩
    · refine ⟨_, rfl, _, _, rfl, rfl, cp, _, _, rfl, rfl, _, rfl, b, _, 2, 2, rfl, rfl, hb1, rfl, ?_⟩
      exact ⟨_, p + 1, _, x, rfl, hU, by omega, x0, x1⟩
    · refine ⟨_, rfl, b, _, 3, _, rfl, rfl, SqL.of hb1, rfl, _, _, rfl, rfl, .inl ⟨by omega, by omega⟩, _, rfl, _, _, rfl, rfl, .inl ⟨_, rfl, ?_⟩⟩
      refine ⟨_, _, rfl, rfl, (by show (0 : Int) < 2147483647; decide), _, rfl, b, _, 3, 3, rfl, rfl, hb1, rfl, ?_⟩
      exact ⟨_, p + 1, r, _, rfl, hU, by omega, Int.emod_nonneg _ (by decide), Int.emod_lt_of_pos _ (by decide)⟩
  · rintro σ' H' ⟨y2, p, r, x, rfl, rfl, p0, x0, x1⟩
    have hb1 : (upd H b (.lst [.ref L, .int p, .int r, .int x])) b = some (.lst [.ref L, .int p, .int r, .int x]) := upd_same
    have done : ∀ (v p r x : Int), 0 ≤ v → v < n → 0 ≤ p → 0 ≤ x → x < 2147483647 → Q (.int v) (upd H b (.lst [.ref L, .int p, .int r, .int x])) := fun v p r x h1 h2 h3 h4 h5 =>
      q v _ h1 h2 ⟨cs, p, r, x, nLb, by rw [upd_ne nLb]; exact hL, upd_same, h3, h4, h5⟩ ⟨_, rfl⟩
    have hn : CDivW r n := wide_div (b := 64) n0 (by omega) (by decide) (by decide)
    refine ⟨_, rfl, b, _, 2, _, rfl, rfl, SqL.of hb1, rfl, _, _, rfl, rfl, _, rfl, ite2 (fun _ => ?_) (fun _ => ?_)⟩
    · refine ⟨_, rfl, b, _, 2, _, rfl, rfl, SqL.of hb1, rfl, .inl ⟨_, rfl, ?_⟩⟩
      refine ⟨_, rfl, _, _, rfl, rfl, n0, ?_⟩
      refine ⟨_, rfl, b, _, 2, _, rfl, rfl, SqL.of hb1, rfl, _, rfl, _, _, rfl, rfl, hn, _, rfl, b, _, 2, 2, rfl, rfl, hb1, rfl, ?_⟩
      refine ⟨_, rfl, ?_⟩
      show Q _ (upd (upd H b _) b _)
      rw [hU]
      exact done _ _ _ _ (Int.emod_nonneg _ (by omega)) (Int.emod_lt_of_pos _ n0) p0 x0 x1
    · refine ⟨_, rfl, b, _, 3, _, rfl, rfl, SqL.of hb1, rfl, _, _, rfl, rfl, .inl ⟨by omega, by omega⟩, _, _, rfl, rfl, .inl ⟨_, rfl, ?_⟩⟩
      refine ⟨_, _, rfl, rfl, (by show (0 : Int) < 2147483647; decide), _, rfl, b, _, 3, 3, rfl, rfl, hb1, rfl, ?_⟩
      refine ⟨_, rfl, b, _, 3, _, rfl, rfl, SqL.of upd_same, rfl, _, _, rfl, rfl, wide_div (b := 64) (by decide) (by decide) (by decide) (by decide), .inl ⟨_, rfl, ?_⟩⟩
      refine ⟨_, rfl, _, _, rfl, rfl, n0, ?_⟩
      show Q _ (upd (upd H b _) b _)
      rw [hU]
      exact done _ _ _ _ (Int.emod_nonneg _ (by omega)) (Int.emod_lt_of_pos _ n0) p0 (Int.emod_nonneg _ (by decide)) (Int.emod_lt_of_pos _ (by decide))
end
end VL

namespace VL
open PySem PySem.Spec PyProof.Rows L2
open C8 (Cal pe_c)
section
variable {P : Program} {w : World} {K : PySem.W.Frag} {mg : Str → Option Value} {base : Heap} {u : Cs}
abbrev sLsame : Stmt := top 18
theorem scLsame : FnScope ["_law_actual", "_law_due", "_law_k"] ["_law_actual", "_law_due"] (defScope sLsame) := ⟨rfl, rfl, rfl, by decide +kernel, rfl, by decide +kernel, by decide +kernel⟩
theorem ok_same_n {n : Nat} {f : Addr} {fd : FuncData} (F : Fun K "_law_same" "_law_same" sLsame f fd) (T : Tx mg u) (cLsame : Cal P w K mg base n "_law_same" (spSame n) []) : FnOk P w K mg base CX0 (n + 1) f fd ["_law_actual", "_law_due"] (spSame (n + 1)) := by
  refine F.ok scLsame (fun vs H Q E h => ?_) (fun cdv A outer s H vs Q E hr h => ?_)
  · obtain ⟨x, y, rfl, _⟩ := h
    rfl
  obtain ⟨x, y, rfl, hs, q⟩ := h
  refine ⟨_, (pss_cons (ps_if (pt_cmpR op_isN (pv 1) pe_non (nomark _))
    (pss_one (ps_ret (pe_cmpR op_isN (pv 0) pe_non (nomark _))))
    pss_nil)
  (pss_cons (ps_if (pt_val (pe_callB call_isi (by rfl) T.isinstance (by decide +kernel) (pa_cons (pv 1) (pa_cons (pe_bltn (v := .ty "bool") rfl T.bool (by decide +kernel) rfl) pa_nil))))
    (pss_one (ps_ret (pe_and (pe_callB call_isi (by rfl) T.isinstance (by decide +kernel) (pa_cons (pv 0) (pa_cons (pe_bltn (v := .ty "bool") rfl T.bool (by decide +kernel) rfl) pa_nil))) (pe_one (pe_cmpR op_eq (pv 0) (pv 1) (nomark _))))))
    pss_nil)
  (pss_cons (ps_if (pt_val (pe_callB call_isi (by rfl) T.isinstance (by decide +kernel) (pa_cons (pv 1) (pa_cons (pe_bltn (v := .ty "int") rfl T.int (by decide +kernel) rfl) pa_nil))))
    (pss_one (ps_ret (pe_and (pe_callB call_isi (by rfl) T.isinstance (by decide +kernel) (pa_cons (pv 0) (pa_cons (pe_bltn (v := .ty "int") rfl T.int (by decide +kernel) rfl) pa_nil))) (pe_and (pe_not (pe_callB call_isi (by rfl) T.isinstance (by decide +kernel) (pa_cons (pv 0) (pa_cons (pe_bltn (v := .ty "bool") rfl T.bool (by decide +kernel) rfl) pa_nil)))) (pe_one (pe_cmpR op_eq (pv 0) (pv 1) (nomark _)))))))
    pss_nil)
  (pss_cons (ps_if (pt_val (pe_callB call_isi (by rfl) T.isinstance (by decide +kernel) (pa_cons (pv 1) (pa_cons (pe_bltn (v := .ty "str") rfl T.str (by decide +kernel) rfl) pa_nil))))
    (pss_one (ps_ret (pe_and (pe_callB call_isi (by rfl) T.isinstance (by decide +kernel) (pa_cons (pv 0) (pa_cons (pe_bltn (v := .ty "str") rfl T.str (by decide +kernel) rfl) pa_nil))) (pe_one (pe_cmpR op_eq (pv 0) (pv 1) (nomark _))))))
    pss_nil)
  (pss_cons (ps_if (pt_cmpR op_ne (pe_callB call_isi (by rfl) T.isinstance (by decide +kernel) (pa_cons (pv 1) (pa_cons (pe_bltn (v := .ty "tuple") rfl T.tuple (by decide +kernel) rfl) pa_nil))) (pe_callB call_isi (by rfl) T.isinstance (by decide +kernel) (pa_cons (pv 0) (pa_cons (pe_bltn (v := .ty "tuple") rfl T.tuple (by decide +kernel) rfl) pa_nil))) (nomark _))
    (pss_one (ps_ret pe_bl))
    pss_nil)
  (pss_cons (ps_if (PW.pt (pw_or (pt_cmpR op_ne (pe_callB call_isi (by rfl) T.isinstance (by decide +kernel) (pa_cons (pv 1) (pa_cons (pe_bltn (v := .ty "list") rfl T.list (by decide +kernel) rfl) pa_nil))) (pe_callB call_isi (by rfl) T.isinstance (by decide +kernel) (pa_cons (pv 0) (pa_cons (pe_bltn (v := .ty "list") rfl T.list (by decide +kernel) rfl) pa_nil))) (nomark _)) (pw_or1 (pt_cmpR op_ne (pe_callB call_len_seq (by rfl) T.len PySem.boot_len (pa_cons (pv 0) pa_nil)) (pe_callB call_len_seq (by rfl) T.len PySem.boot_len (pa_cons (pv 1) pa_nil)) (nomark _)))))
    (pss_one (ps_ret pe_bl))
    pss_nil)
  (pss_cons (ps_for PassesOwn.never rfl (pi_range1 rfl T.range (pa_cons (pe_callB call_len_seq (by rfl) T.len PySem.boot_len (pa_cons (pv 1) pa_nil)) pa_nil)) (pg_name (i := 2) scLsame.nd rfl (Or.inl rfl))
    (pss_one (ps_if (pt_not (pt_val (pe_c cLsame hr (Nat.le_refl _) rfl (pa_cons (pe_ix ix_seq (pv 0) (pv 2) (fun _ _ => rfl)) (pa_cons (pe_ix ix_seq (pv 1) (pv 2) (fun _ _ => rfl)) pa_nil)))))
      (pss_one (ps_ret pe_bl))
      pss_nil)))
  (pss_one (ps_ret pe_bl))))))))), ?_⟩
  rcases hs.cases with ⟨rfl, hf⟩ | ⟨m, a, b, xs, ys, rfl, rfl, rfl, hab, hl, hz, hs⟩
  · cases x with
    | non => exact ⟨_, rfl, rfl, _, rfl, iteT' rfl ⟨_, rfl, rfl, q⟩⟩
    | bl c =>
      refine ⟨_, rfl, rfl, _, rfl, iteF' rfl ?_⟩
      refine ⟨_, rfl, ⟨_, _, .type "bool", _, true, rfl, .ty _, .base (.bl _), kit_ty (by decide +kernel), ⟨_, rfl, iteT' rfl ?_⟩⟩⟩
      refine ⟨_, rfl, ⟨_, _, .type "bool", _, true, rfl, .ty _, .base (.bl _), kit_ty (by decide +kernel), ⟨_, rfl, iteT' rfl ?_⟩⟩⟩
      refine ⟨_, rfl, _, rfl, rfl, ?_⟩
      rw [decide_eq_true rfl]
      exact q
    | int c =>
      refine ⟨_, rfl, rfl, _, rfl, iteF' rfl ?_⟩
      refine ⟨_, rfl, ⟨_, _, .type "int", _, false, rfl, .ty _, .base (.int _), kit_ty (by decide +kernel), ⟨_, rfl, iteF' rfl ?_⟩⟩⟩
      refine ⟨_, rfl, ⟨_, _, .type "int", _, true, rfl, .ty _, .base (.int _), kit_ty (by decide +kernel), ⟨_, rfl, iteT' rfl ?_⟩⟩⟩
      refine ⟨_, rfl, ⟨_, _, .type "int", _, true, rfl, .ty _, .base (.int _), kit_ty (by decide +kernel), ⟨_, rfl, iteT' rfl ?_⟩⟩⟩
      refine ⟨_, rfl, ⟨_, _, .type "int", _, false, rfl, .ty _, .base (.int _), kit_ty (by decide +kernel), ⟨_, rfl, _, rfl, iteT' rfl ?_⟩⟩⟩
      refine ⟨_, rfl, _, rfl, rfl, ?_⟩
      rw [decide_eq_true rfl]
      exact q
    | str c =>
      refine ⟨_, rfl, rfl, _, rfl, iteF' rfl ?_⟩
      refine ⟨_, rfl, ⟨_, _, .type "str", _, false, rfl, .ty _, .base (.str _), kit_ty (by decide +kernel), ⟨_, rfl, iteF' rfl ?_⟩⟩⟩
      refine ⟨_, rfl, ⟨_, _, .type "str", _, false, rfl, .ty _, .base (.str _), kit_ty (by decide +kernel), ⟨_, rfl, iteF' rfl ?_⟩⟩⟩
      refine ⟨_, rfl, ⟨_, _, .type "str", _, true, rfl, .ty _, .base (.str _), kit_ty (by decide +kernel), ⟨_, rfl, iteT' rfl ?_⟩⟩⟩
      refine ⟨_, rfl, ⟨_, _, .type "str", _, true, rfl, .ty _, .base (.str _), kit_ty (by decide +kernel), ⟨_, rfl, iteT' rfl ?_⟩⟩⟩
      refine ⟨_, rfl, _, rfl, rfl, ?_⟩
      rw [decide_eq_true rfl]
      exact q
    | _ => cases hf
  · have hA : SqL K H a xs ∨ SqT K H a xs := hab.elim (fun h => .inl (SqL.of h.1)) fun h => .inr (SqT.of h.1)
    have hB : SqL K H b ys ∨ SqT K H b ys := hab.elim (fun h => .inl (SqL.of h.2)) fun h => .inr (SqT.of h.2)
    obtain ⟨t, tl, tt, tyA, tyB, k1, k2, k3, k4, k5⟩ : ∃ (t : String) (tl tt : Bool), TyX K H (.ref a) (.type t) ∧ TyX K H (.ref b) (.type t) ∧ kitB t "bool" = some false ∧ kitB t "int" = some false ∧ kitB t "str" = some false ∧ kitB t "tuple" = some tt ∧ kitB t "list" = some tl := by
      rcases hab with h | h
      · exact ⟨"list", true, false, .base (.lst h.1), .base (.lst h.2), by decide +kernel, by decide +kernel, by decide +kernel, by decide +kernel, by decide +kernel⟩
      · exact ⟨"tuple", false, true, .base (.tup h.1), .base (.tup h.2), by decide +kernel, by decide +kernel, by decide +kernel, by decide +kernel, by decide +kernel⟩
    have no : ∀ c : V, (!decide (c = c)) = false := fun c => by rw [decide_eq_true rfl]; rfl
    refine ⟨_, rfl, rfl, _, rfl, iteF' rfl ?_⟩
    refine ⟨_, rfl, ⟨_, _, .type t, _, false, rfl, .ty _, tyB, kit_ty k1, ⟨_, rfl, iteF' rfl ?_⟩⟩⟩
    refine ⟨_, rfl, ⟨_, _, .type t, _, false, rfl, .ty _, tyB, kit_ty k2, ⟨_, rfl, iteF' rfl ?_⟩⟩⟩
    refine ⟨_, rfl, ⟨_, _, .type t, _, false, rfl, .ty _, tyB, kit_ty k3, ⟨_, rfl, iteF' rfl ?_⟩⟩⟩
    refine ⟨_, rfl, ⟨_, _, .type t, _, tt, rfl, .ty _, tyB, kit_ty k4, ⟨_, rfl, ⟨_, _, .type t, _, tt, rfl, .ty _, tyA, kit_ty k4, ⟨rfl, _, rfl, iteF' (no _) ?_⟩⟩⟩⟩⟩
    refine ⟨_, rfl, ⟨_, _, .type t, _, tl, rfl, .ty _, tyB, kit_ty k5, ⟨_, rfl, ⟨_, _, .type t, _, tl, rfl, .ty _, tyA, kit_ty k5, ⟨rfl, _, rfl, iteF' (no _) ?_⟩⟩⟩⟩⟩
    refine ⟨_, rfl, a, xs, rfl, hA, _, rfl, b, ys, rfl, hB, rfl, _, rfl, iteF' (by rw [hl]; exact no _) ?_⟩
    refine ⟨_, rfl, b, ys, rfl, hB, _, rfl, by omega, by omega, for_range (lo := 0) (n := ((ys.length : Nat) : Int).toNat) (fun i σ H' => ∃ z, σ = [some (.ref a), some (.ref b), z] ∧ H' = H) ⟨none, rfl, rfl⟩ ?_ ?_⟩
    · rintro i σ H' hi ⟨z, rfl, rfl⟩
      have h1 : i < ys.length := by omega
      have h2 : i < xs.length := by omega
      have e0 : (0 : Int) + (i : Int) = (i : Int) := Int.zero_add _
      have g1 : xs[i]? = some xs[i] := List.getElem?_eq_getElem h2
      have g2 : ys[i]? = some ys[i] := List.getElem?_eq_getElem h1
      refine ⟨_, rfl, _, rfl, ?_⟩
      have step : ∀ {c : Addr} {zs : List V} {z : V} {R : VK}, (SqL K H' c zs ∨ SqT K H' c zs) → zs[i]? = some z → R z H' → rIx K (.ref c) (.int ((0 : Int) + (i : Int))) H' R := fun {c zs z R} hc hz r => by
        rw [e0]
        rcases hc with hc | hc
        · exact .inl ⟨c, zs, i, z, rfl, rfl, hc, atI_nat hz, r⟩
        · exact .inr (.inl ⟨c, zs, i, z, rfl, rfl, hc, atI_nat hz, r⟩)
      refine step hA g1 ⟨_, rfl, _, rfl, step hB g2 ?_⟩
      refine ⟨_, _, rfl, hs i _ _ g1 g2, _, rfl, iteF' rfl ?_⟩
      exact ⟨_, rfl, rfl⟩
    · rintro σ H' ⟨z, rfl, rfl⟩
      exact q
theorem cal_same {f : Addr} {fd : FuncData} (F : Fun K "_law_same" "_law_same" sLsame f fd) (T : Tx mg u) (hm : mg "_law_same" = some (.ref f)) (b : Binds K fd ["_law_actual", "_law_due"] []) : ∀ n : Nat, Cal P w K mg base n "_law_same" (spSame n) []
  | 0 => cal_of F fn_no hm b
  | n + 1 => cal_of F (ok_same_n F T (cal_same F T hm b n)) hm b
end
end VL

namespace VL
open PySem PySem.Spec PyProof.Rows L2
open C8 (Cal pe_c Met pe_mt)
local macro_rules | `(tactic| walk_at "lk") => `(tactic| (repeat' (first | assumption | exact upd_same | (refine Eq.trans (upd_ne ?_) ?_) | (apply Ne.symm; assumption))))
/-- all but the object at b stands -/
def SameBut (b : Addr) (H G : Hp) : Prop := ∀ a o, a ≠ b → H a = some o → G a = some o
theorem SameBut.trans {b : Addr} {H G F : Hp} (x : SameBut b H G) (y : SameBut b G F) : SameBut b H F := fun a o n e => y a o n (x a o n e)
theorem SameBut.of {b : Addr} {H G : Hp} (x : Same H G) : SameBut b H G := fun a o _ e => x a o e
theorem SameBut.upd {b : Addr} {H : Hp} {o : HO} : SameBut b H (L2.upd H b o) := fun a u n e => by rw [upd_ne n]; exact e
/-- the text of these code points -/
def tx (cs : List Nat) : Str := ⟨cs.toArray⟩
theorem join_signs : ∀ cs : List Nat, Txt.join "" (cs.map fun c => tx [c]) = tx cs := fun cs => by
  have e := SX.join_S [] (cs.map fun c => [c])
  rw [List.map_map] at e
  have j : ∀ cs : List Nat, TL.joinL [] (cs.map fun c => [c]) = cs := fun cs => by
    induction cs with
    | nil => rfl
    | cons c r ih =>
      cases r with
      | nil => rfl
      | cons d r =>
        show [c] ++ [] ++ TL.joinL [] ((d :: r).map fun c => [c]) = c :: d :: r
        rw [ih]
        rfl
  rw [j] at e
  exact e
theorem sum_ones : ∀ cs : List Nat, ((cs.map fun c => tx [c]).map (·.length)).sum = cs.length
  | [] => rfl
  | c :: r => by
    rw [List.map_cons, List.map_cons, List.sum_cons, sum_ones r, List.length_cons]
    show 1 + r.length = _
    omega
def spWord : Sp := fun vs H Q _ => ∃ (b L : Addr) (n : Int), vs = [.ref b, .int n] ∧ 0 < n ∧ n ≤ 100 ∧ Box H b L ∧ ∀ (cs : List Nat) G, (cs.length : Int) < n → (∀ c ∈ cs, c ∈ letters) → SameBut b H G → Box G b L → Q (.str (tx cs)) G
section
variable {P : Program} {w : World} {K : PySem.W.Frag} {mg : Str → Option Value} {base : Heap} {u : Cs}
abbrev sLword : Stmt := top 15
theorem scLword : FnScope ["_law_box_here", "_law_size", "_law_letters", "_law_k"] ["_law_box_here", "_law_size"] (defScope sLword) := ⟨rfl, rfl, rfl, by decide +kernel, rfl, by decide +kernel, by decide +kernel⟩
theorem ok_word {f : Addr} {fd : FuncData} (F : Fun K "_law_word" "_law_word" sLword f fd) (T : Tx mg u) (cLtake : Cal P w K mg base 1 "_law_take" spTake []) : FnOk P w K mg base CX0 2 f fd ["_law_box_here", "_law_size"] spWord := by
  refine F.ok scLword (fun vs H Q E h => ?_) (fun cdv A outer s H vs Q E hr h => ?_)
  · obtain ⟨b, L, n, rfl, _⟩ := h
    rfl
  obtain ⟨b, L, n, rfl, n0, n1, B, q⟩ := h
  refine ⟨_, (pss_cons (ps_set (i := 2) scLword.nd rfl (Or.inr rfl) pe_str)
  (pss_one (ps_ret (pe_join pe_str (pe_lc (own := [("_law_k", 3)]) (g := gName 3) (tt := tYes) rfl scLword.nd (pi_range1 rfl T.range (pa_cons (pe_c cLtake hr (by decide) rfl (pa_cons (pv 0) (pa_cons (pv 1) pa_nil))) pa_nil)) (blkOk_by (N := ["_law_box_here", "_law_size", "_law_letters", "_law_k"]) (sc := defScope sLword) (by decide +kernel)) (fun _ _ _ _ _ => pg_name (i := 3) scLword.nd rfl (Or.inl rfl)) (fun _ _ _ _ _ => pts_nil) (fun _ _ _ _ _ => (pe_ix ix_str (pv 2) (pe_c cLtake hr (by decide) rfl (pa_cons (pv 0) (pa_cons pe_int pa_nil))) (fun _ _ => rfl)))))))), ?_⟩
  refine ⟨⟨_, rfl⟩, _, rfl, _, rfl, b, L, n, rfl, n0, by omega, B, fun v1 o1 v10 v11 B1 ho1 => ?_⟩
  have sb1 : SameBut b H (upd H b o1) := SameBut.upd
  generalize upd H b o1 = H1 at B1 sb1 ⊢
  refine ⟨_, rfl, by omega, by omega, fun D nD => ?_⟩
  obtain ⟨Db, DL⟩ := B1.new nD
  refine lp_it walk_rg (fun i G => ∃ cs : List Nat, cs.length = i ∧ (∀ c ∈ cs, c ∈ letters) ∧ G D = some (.lst (cs.map fun c => V.str (tx [c]))) ∧ SameBut b H1 G ∧ Box G b L) ⟨[], rfl, fun c hc => (nomatch hc), upd_same, SameBut.of (same_upd nD), B1.same (same_upd nD)⟩ (fun _ _ _ _ => trivial) ?_ ?_
  · rintro i v G0 G hi ⟨cs, hl, hc, eD, sb, BG⟩ ⟨rfl, rfl⟩
    refine ⟨rfl, ?_⟩
    refine ⟨_, rfl, _, rfl, b, L, 26, rfl, by decide, by decide, BG, fun v2 o2 v20 v21 B2 ho2 => ?_⟩
    obtain ⟨c, hc2⟩ : ∃ c, letters[v2.toNat]? = some c := ⟨_, List.getElem?_eq_getElem (by show v2.toNat < 26; omega)⟩
    refine ⟨_, _, c, rfl, rfl, by decide, atI_pos v20 hc2, ?_⟩
    have eD2 : (upd G b o2) D = some (.lst (cs.map fun c => V.str (tx [c]))) := by rw [upd_ne Db]; exact eD
    refine ⟨_, eD2, ?_, cs ++ [c], ?_, ?_, ?_, ?_, ?_⟩
    · rw [List.length_map]
      exact small1000 (by omega)
    · rw [List.length_append, hl]
      rfl
    · intro d hd
      rcases List.mem_append.mp hd with h | h
      · exact hc d h
      · rw [List.mem_singleton.mp h]
        exact List.mem_of_getElem? hc2
    · rw [upd_same, List.map_append]
      rfl
    · intro a o na ea
      rw [upd_ne (ne_of_none ea nD), upd_ne na]
      exact sb a o na ea
    · exact B2.upd Db DL
  · rintro G ⟨cs, hl, hc, eD, sb, BG⟩
    refine ⟨_, D, cs.map fun c => tx [c], rfl, rfl, .inl (SqL.of (by rw [List.map_map]; exact eD)), ?_, ?_⟩
    · rw [sum_ones, List.length_map]
      show cs.length + cs.length * 0 ≤ 16777216
      omega
    rw [join_signs]
    exact q cs G (by omega) hc (sb1.trans sb) BG
end
end VL

namespace VL
open PySem PySem.Spec PyProof.Rows L2
open C8 (Cal pe_c Met pe_mt)
local macro_rules | `(tactic| walk_at "lk") => `(tactic| (repeat' (first | assumption | exact upd_same | (refine Eq.trans (upd_ne ?_) ?_) | (apply Ne.symm; assumption))))
theorem tx_app (a b : List Nat) : tx a ++ tx b = tx (a ++ b) := by
  show (⟨a.toArray ++ b.toArray⟩ : Str) = ⟨(a ++ b).toArray⟩
  simp
theorem tx_len (a : List Nat) : (tx a).length = a.length := by simp [tx, Str.length]
theorem tx_inj {a b : List Nat} (h : tx a = tx b) : a = b := by
  have z := congrArg (fun s : Str => s.cps.toList) h
  simpa [tx] using z
/-- the letter that tells the k-th name -/
def own (s : Int) (k : Nat) : Nat := 97 + ((s + 5 * (k : Int)) % 26).toNat
theorem own_at (s : Int) (k : Nat) : letters[((s + 5 * (k : Int)) % 26).toNat]? = some (own s k) := by
  have h : ((s + 5 * (k : Int)) % 26).toNat < 26 := by omega
  have all : ∀ i : Fin 26, letters[i.1]? = some (97 + i.1) := by decide +kernel
  exact all ⟨_, h⟩
theorem own_in (s : Int) (k : Nat) : own s k ∈ letters := List.mem_of_getElem? (own_at s k)
theorem own_inj {s : Int} {i j : Nat} (hi : i < 8) (hj : j < 8) (h : own s i = own s j) : i = j := by
  unfold own at h
  omega
/-- the names: one head, a letter of its own each, any tails -/
def Named (s : Int) (css : List (List Nat)) : Prop := ∃ hd : List Nat, hd.length ≤ 5 ∧ (∀ c ∈ hd, c ∈ letters) ∧ ∀ (k : Nat) (cs : List Nat), css[k]? = some cs → ∃ tl : List Nat, cs = hd ++ (own s k :: tl) ∧ tl.length ≤ 6 ∧ ∀ c ∈ tl, c ∈ letters
theorem Named.len {s : Int} {css : List (List Nat)} (h : Named s css) : ∀ cs ∈ css, 1 ≤ cs.length ∧ cs.length ≤ 12 ∧ ∀ c ∈ cs, c ∈ letters := fun cs hc => by
  obtain ⟨hd, h5, hh, all⟩ := h
  obtain ⟨k, hk⟩ := List.mem_iff_getElem?.mp hc
  obtain ⟨tl, rfl, h6, ht⟩ := all k cs hk
  refine ⟨by rw [List.length_append, List.length_cons]; omega, by rw [List.length_append, List.length_cons]; omega, fun c hc => ?_⟩
  rcases List.mem_append.mp hc with h | h
  · exact hh c h
  · rcases List.mem_cons.mp h with h | h
    · rw [h]
      exact own_in s k
    · exact ht c h
theorem Named.nodup {s : Int} {css : List (List Nat)} (h : Named s css) (h8 : css.length ≤ 8) : css.Nodup := by
  obtain ⟨hd, h5, hh, all⟩ := h
  refine List.pairwise_iff_getElem.mpr fun i j hi hj hij e => ?_
  obtain ⟨t1, e1, _⟩ := all i _ (List.getElem?_eq_getElem hi)
  obtain ⟨t2, e2, _⟩ := all j _ (List.getElem?_eq_getElem hj)
  rw [e] at e1
  have z := List.append_cancel_left (e1.symm.trans e2)
  have := own_inj (by omega) (by omega) (List.cons.inj z).1
  omega
def spNames : Sp := fun vs H Q _ => ∃ (b L : Addr) (n : Nat), vs = [.ref b, .int n] ∧ n ≤ 8 ∧ Box H b L ∧ ∀ (l : Addr) (s : Int) (css : List (List Nat)) G, css.length = n → Named s css → SameBut b H G → Box G b L → l ≠ b → l ≠ L → H l = none → G l = some (.lst (css.map fun cs => V.str (tx cs))) → Q (.ref l) G
section
variable {P : Program} {w : World} {K : PySem.W.Frag} {mg : Str → Option Value} {base : Heap} {u : Cs}
abbrev sLnames : Stmt := top 16
theorem scLnames : FnScope ["_law_box_here", "_law_count", "_law_letters", "_law_shift", "_law_head", "_law_tail", "_law_own", "_law_names_here", "_law_k"] ["_law_box_here", "_law_count"] (defScope sLnames) := ⟨rfl, rfl, rfl, by decide +kernel, rfl, by decide +kernel, by decide +kernel⟩
theorem ok_names {f : Addr} {fd : FuncData} (F : Fun K "_law_names" "_law_names" sLnames f fd) (T : Tx mg u) (cLtake : Cal P w K mg base 1 "_law_take" spTake []) (cLword : Cal P w K mg base 2 "_law_word" spWord []) : FnOk P w K mg base CX0 3 f fd ["_law_box_here", "_law_count"] spNames := by
  refine F.ok scLnames (fun vs H Q E h => ?_) (fun cdv A outer s H vs Q E hr h => ?_)
  · obtain ⟨b, L, n, rfl, _⟩ := h
    rfl
  obtain ⟨b, L, n, rfl, n8, B, q⟩ := h
  refine ⟨_, (pss_cons (ps_set (i := 2) scLnames.nd rfl (Or.inl rfl) pe_str)
  (pss_cons (ps_set (i := 3) scLnames.nd rfl (Or.inl rfl) (pe_c cLtake hr (by decide) rfl (pa_cons (pv 0) (pa_cons pe_int pa_nil))))
  (pss_cons (ps_set (i := 4) scLnames.nd rfl (Or.inl rfl) (pe_c cLword hr (by decide) rfl (pa_cons (pv 0) (pa_cons pe_int pa_nil))))
  (pss_cons (ps_set (i := 5) scLnames.nd rfl (Or.inl rfl) (pe_c cLword hr (by decide) rfl (pa_cons (pv 0) (pa_cons pe_int pa_nil))))
  (pss_cons (ps_set (i := 6) scLnames.nd rfl (Or.inl rfl) (pe_c cLtake hr (by decide) rfl (pa_cons (pv 0) (pa_cons pe_int pa_nil))))
  (pss_cons (ps_set (i := 7) scLnames.nd rfl (Or.inl rfl) (pe_lst pa_nil))
  (pss_cons (ps_for PassesOwn.never rfl (pi_range1 rfl T.range (pa_cons (pv 1) pa_nil)) (pg_name (i := 8) scLnames.nd rfl (Or.inl rfl))
    (C8.pss_cut (ps_if (pt_cmpR op_eq (pv 6) pe_int (nomark _))
      (pss_one (ps_set (i := 5) scLnames.nd rfl (Or.inl rfl) (pe_c cLword hr (by decide) rfl (pa_cons (pv 0) (pa_cons pe_int pa_nil)))))
      pss_nil)
    (pss_one (ps_expr (pe_bm PySem.F.plainAttrs_list PySem.F.slot_list_append PySem.F.type_list_append mt_append (pv 7) (pa_cons (pe_op op_add_str (pe_op op_add_str (pv 4) (pe_ix ix_str (pv 2) (pe_op op_mod (pe_callTy call_int1 (by rfl) T.int (by decide +kernel) (pa_cons (pe_op op_add (pv 3) (pe_op op_mul pe_int (pv 8))) pa_nil)) pe_int) (fun _ _ => rfl))) (pv 5)) pa_nil))))))
  (pss_one (ps_ret (pv 7)))))))))), ?_⟩
  refine ⟨_, rfl, b, L, 26, rfl, by decide, by decide, B, fun v1 o1 v10 v11 B1 ho1 => ?_⟩
  have sb1 : SameBut b H (upd H b o1) := SameBut.upd
  generalize upd H b o1 = H1 at B1 sb1 ⊢
  refine ⟨_, rfl, b, L, 6, rfl, by decide, by decide, B1, fun hd H2 hl hc sb2 B2 => ?_⟩
  refine ⟨_, rfl, b, L, 7, rfl, by decide, by decide, B2, fun t0 H3 tl0 tc0 sb3 B3 => ?_⟩
  refine ⟨_, rfl, b, L, 2, rfl, by decide, by decide, B3, fun v4 o4 v40 v41 B4 ho4 => ?_⟩
  have sb4 : SameBut b H (upd H3 b o4) := ((sb1.trans sb2).trans sb3).trans SameBut.upd
  generalize upd H3 b o4 = H4 at B4 sb4 ⊢
  refine ⟨Nat.zero_le _, fun l nl => ?_⟩
  obtain ⟨lb, lL⟩ := B4.new nl
  have hnl : H l = none := by
    cases e : H l with
    | none => rfl
    | some o =>
      have z := sb4 l o lb e
      rw [nl] at z
      cases z
  have B5 := B4.upd (o := .lst []) lb lL
  have e5 : (upd H4 l (.lst [])) l = some (.lst []) := upd_same
  have sb5 : SameBut b H (upd H4 l (.lst [])) := sb4.trans (SameBut.of (same_upd nl))
  generalize upd H4 l (.lst []) = H5 at B5 e5 sb5 ⊢
  refine ⟨_, rfl, _, rfl, by omega, by omega, for_range (lo := 0) (n := ((n : Int)).toNat) (fun i σ H' => ∃ (css : List (List Nat)) (tl : List Nat) (y : Option V), σ = [some (.ref b), some (.int n), some (.str "abcdefghijklmnopqrstuvwxyz"), some (.int v1), some (.str (tx hd)), some (.str (tx tl)), some (.int v4), some (.ref l), y] ∧
      css.length = i ∧ tl.length ≤ 6 ∧ (∀ c ∈ tl, c ∈ letters) ∧ H' l = some (.lst (css.map fun cs => V.str (tx cs))) ∧ SameBut b H H' ∧ Box H' b L ∧ ∀ (k : Nat) (cs : List Nat), css[k]? = some cs → ∃ tl : List Nat, cs = hd ++ (own v1 k :: tl) ∧ tl.length ≤ 6 ∧ ∀ c ∈ tl, c ∈ letters)
    ⟨[], t0, none, rfl, rfl, by omega, tc0, e5, sb5, B5, fun k cs h => by simp at h⟩ ?_ ?_⟩
  · rintro i σ H' hi ⟨css, tl, y, rfl, hcl, htl, htc, el, sb, BB, all⟩
    refine ⟨fun σ2 G => ∃ tl2 : List Nat, σ2 = [some (.ref b), some (.int n), some (.str "abcdefghijklmnopqrstuvwxyz"), some (.int v1), some (.str (tx hd)), some (.str (tx tl2)), some (.int v4), some (.ref l), some (.int (0 + (i : Int)))] ∧ tl2.length ≤ 6 ∧ (∀ c ∈ tl2, c ∈ letters) ∧ G l = some (.lst (css.map fun cs => V.str (tx cs))) ∧ SameBut b H G ∧ Box G b L, ?_, ?_⟩
    · refine ⟨_, rfl, rfl, _, rfl, ite2 (fun _ => ?_) (fun _ => ?_)⟩
      · refine ⟨_, rfl, b, L, 7, rfl, by decide, by decide, BB, fun t2 G tl2 tc2 sb2 BG => ?_⟩
        exact ⟨t2, rfl, by omega, tc2, sb2 _ _ lb el, sb.trans sb2, BG⟩
      · exact ⟨tl, rfl, htl, htc, el, sb, BB⟩
    rintro σ2 G ⟨tl2, rfl, h6, hc6, el2, sbG, BG⟩
    have hat := own_at v1 i
    refine ⟨_, rfl, .inl ⟨rfl, _, SqL.of el2⟩, _, rfl, _, rfl, _, rfl, _, rfl, _, _, rfl, rfl, .inl ⟨by omega, by omega⟩, _, _, rfl, rfl, .inl ⟨_, rfl, ?_⟩⟩
    refine ⟨_, _, rfl, rfl, by show (0 : Int) < 26; decide, ?_⟩
    have e0 : (0 : Int) + (i : Int) = (i : Int) := Int.zero_add _
    rw [← e0] at hat
    have big : ∀ m, m ≤ 100 → m ≤ sizeLine := fun m h => Nat.le_trans h (by decide)
    refine ⟨_, _, own v1 i, rfl, rfl, by decide, atI_pos (Int.emod_nonneg _ (by decide)) hat, ?_⟩
    refine ⟨_, _, rfl, rfl, big _ ?_, _, rfl, _, _, rfl, rfl, big _ ?_, ?_⟩
    · show (tx hd).length + 1 ≤ 100
      rw [tx_len]
      omega
    · show (tx hd ++ tx [own v1 i]).length + (tx tl2).length ≤ 100
      rw [tx_app, tx_len, tx_len, List.length_append]
      show hd.length + 1 + tl2.length ≤ 100
      omega
    have et : (tx hd ++ tx [own v1 i]) ++ tx tl2 = tx (hd ++ (own v1 i :: tl2)) := by
      rw [tx_app, tx_app, List.append_assoc]
      rfl
    refine ⟨l, _, _, rfl, rfl, el2, by rw [List.length_map]; exact small1000 (by omega), ?_⟩
    refine ⟨css ++ [hd ++ (own v1 i :: tl2)], tl2, _, rfl, by rw [List.length_append, hcl]; rfl, h6, hc6, ?_, ?_, BG.upd lb lL, fun k cs hk => ?_⟩
    · rw [upd_same, List.map_append]
      show some (HO.lst (css.map (fun cs => V.str (tx cs)) ++ [V.str ((tx hd ++ tx [own v1 i]) ++ tx tl2)])) = _
      rw [et]
      rfl
    · intro a o na ea
      rw [upd_ne (ne_of_none ea hnl)]
      exact sbG a o na ea
    · by_cases hk2 : k < css.length
      · rw [List.getElem?_append_left hk2] at hk
        exact all k cs hk
      · rw [List.getElem?_append_right (by omega)] at hk
        have z : k - css.length = 0 := by
          cases e : k - css.length with
          | zero => rfl
          | succ m =>
            rw [e] at hk
            simp at hk
        rw [z] at hk
        have ek : k = i := by omega
        have ec : hd ++ (own v1 i :: tl2) = cs := Option.some.inj hk
        rw [ek]
        exact ⟨tl2, ec.symm, h6, hc6⟩
  · rintro σ H' ⟨css, tl, y, rfl, hcl, htl, htc, el, sb, BB, all⟩
    exact ⟨_, rfl, q l v1 css H' (by omega) ⟨hd, by omega, hc, all⟩ sb BB lb lL hnl el⟩
end
end VL

namespace VL
open PySem PySem.Spec PyProof.Rows L2
open C8 (Cal pe_c Met pe_mt)
/-- a catalog whose tuple is told with its object -/
def CatZ (C : Addr) (H : Hp) (a : Addr) (ns : List Str) : Prop := ∃ dx t, H a = some (.ins C dx [("names", .ref t)]) ∧ PT H t (ns.map V.str)
theorem CatZ.same {C : Addr} {H G : Hp} {a : Addr} {ns : List Str} (h : CatZ C H a ns) (s : Same H G) : CatZ C G a ns := by
  obtain ⟨dx, t, h1, h2⟩ := h
  exact ⟨dx, t, s _ _ h1, h2.same s⟩
/-- the body of __init__, its tuple told with its object -/
def spInitZ (C : Addr) : Sp := fun vs H Q _ => ∃ (x dx p : Addr) (ns : List Str), vs = [.ref x, .ref p] ∧ H x = some (.ins C dx []) ∧ PT H p (ns.map V.str) ∧ Good ns ∧
  ∀ G, Same H G → Q .non (upd G x (.ins C dx [("names", .ref p)]))
/-- len(c) -/
def spLen (C : Addr) : Sp := fun vs H Q _ => ∃ (c : Addr) (ns : List Str), vs = [.ref c] ∧ CatZ C H c ns ∧ Q (.int (ns.length : Int)) H
/-- z in c -/
def spIn (C : Addr) : Sp := fun vs H Q _ => ∃ (c : Addr) (ns : List Str) (z : Str), vs = [.ref c, .str z] ∧ CatZ C H c ns ∧ Q (.bl (decide (z ∈ ns))) H
/-- c == x -/
def spEqC (C : Addr) : Sp := fun vs H Q _ => ∃ (c : Addr) (ns : List Str) (x : V), vs = [.ref c, x] ∧ CatZ C H c ns ∧ ns.length ≤ 8 ∧ (∀ z ∈ ns, PyData.strOk z = true) ∧
  ((∃ d ms, x = .ref d ∧ CatZ C H d ms ∧ ms.length ≤ 8 ∧ (∀ z ∈ ms, PyData.strOk z = true) ∧ Q (.bl (decide (ns = ms))) H) ∨ (∃ t xs, x = .ref t ∧ H t = some (.tup xs) ∧ Q (.bl false) H))
/-- the place of the first z -/
def spIdx (C UM : Addr) : Sp := fun vs H Q E => ∃ (c : Addr) (ns : List Str) (z : Str), vs = [.ref c, .str z] ∧ CatZ C H c ns ∧
  (∀ j : Nat, ns[j]? = some z → (∀ m : Nat, m < j → ns[m]? ≠ some z) → Q (.int (j : Int)) H) ∧ (z ∉ ns → ∀ d, H d = none → E (.ref UM) (some d) (upd H d (.xd [("name", .str z)])))
theorem first_at {ns : List Str} {z : Str} (h : z ∈ ns) : ∃ j : Nat, ns[j]? = some z ∧ ∀ m : Nat, m < j → ns[m]? ≠ some z := by
  induction ns with
  | nil => cases h
  | cons y r ih =>
    by_cases e : y = z
    · exact ⟨0, by rw [e]; rfl, fun m hm => absurd hm (Nat.not_lt_zero m)⟩
    · rcases List.mem_cons.mp h with h | h
      · exact absurd h.symm e
      · obtain ⟨j, h1, h2⟩ := ih h
        refine ⟨j + 1, by simpa using h1, fun m hm => ?_⟩
        cases m with
        | zero => simpa using e
        | succ m => simpa using h2 m (by omega)
/-- what isinstance asks of the class -/
structure InsF (K : PySem.W.Frag) (C : Addr) : Prop where
  ca : PySem.W.findIn K (.ref C) "__class__" = some (some (.builtin "object.__class__"))
  cn : PySem.W.specialIn K (.builtin "object.__class__") "__get__" = some (some (.builtin "getset_descriptor.__get__"))
  ct : PySem.W.takesIn K (.builtin "object.__class__") = some true
  cm : PySem.W.mroIn K C (.type "object") = some true
  self : PySem.W.kitOne K (.ref C) (.ref C) = some true
  tup : PySem.W.kitOne K (.type "tuple") (.ref C) = some false
section
variable {P : Program} {w : World} {K : PySem.W.Frag} {mg : Str → Option Value} {base : Heap} {u : Cs}
abbrev sisname : Stmt := top 8
theorem scisname : FnScope ["value", "letter"] ["value"] (defScope sisname) := ⟨rfl, rfl, rfl, by decide +kernel, rfl, by decide +kernel, by decide +kernel⟩
theorem ok_name {f : Addr} {fd : FuncData} (F : Fun K "is_name" "is_name" sisname f fd) (T : Tx mg u) : FnOk P w K mg base CX0 1 f fd ["value"] spName := by
  refine F.ok scisname (fun vs H Q E h => ?_) (fun cdv A outer s H vs Q E hr h => ?_)
  · obtain ⟨z, rfl, _⟩ := h
    rfl
  obtain ⟨z, rfl, hz, q⟩ := h
  refine ⟨_, (pss_one (ps_ret (pe_and (pe_callB call_isi (by rfl) T.isinstance (by decide +kernel) (pa_cons (pv 0) (pa_cons (pe_bltn (v := .ty "str") rfl T.str (by decide +kernel) rfl) pa_nil))) (pe_and (pe_chain op_le op_le pe_int (pe_callB call_len_str (by rfl) T.len PySem.boot_len (pa_cons (pv 0) pa_nil)) (pe_glob rfl T.mLONGEST_NAME T.rLONGEST_NAME)) (pe_one (pe_callB (cr_all rfl) (by rfl) T.all (by decide +kernel) (pa_cons (pe_lc (own := [("letter", 1)]) (g := gName 1) (tt := tYes) rfl scisname.nd (pi_str (pv 0)) (blkOk_by (N := ["value", "letter"]) (sc := defScope sisname) (by decide +kernel)) (fun _ _ _ _ _ => pg_name (i := 1) scisname.nd rfl (Or.inl rfl)) (fun _ _ _ _ _ => pts_nil) (fun _ _ _ _ _ => (pe_cmpR op_in_sign (pv 1) (pe_glob rfl T.mLETTERS T.rLETTERS) rfl))) pa_nil))))))), ?_⟩
  have hz2 : z.length ≤ sizeLine := Nat.le_trans hz (by decide)
  refine ⟨_, rfl, _, _, .type "str", _, true, rfl, .ty _, .base (.str _), kit_ty (by decide +kernel), _, rfl, iteT' rfl ?_⟩
  refine ⟨_, rfl, z, rfl, hz2, _, _, rfl, rfl, _, rfl, ?_⟩
  cases e1 : decide ((1 : Int) ≤ (z.length : Int)) with
  | false =>
    refine iteF' rfl ⟨_, rfl, iteF' rfl ?_⟩
    have := q H (Same.refl H)
    rw [show nameB z = false by unfold nameB; rw [e1]; rfl] at this
    exact this
  | true =>
    refine iteT' rfl ⟨_, _, rfl, rfl, _, rfl, ?_⟩
    cases e2 : decide ((z.length : Int) ≤ 12) with
    | false =>
      refine iteF' rfl ?_
      have := q H (Same.refl H)
      rw [show nameB z = false by unfold nameB; rw [e1, e2]; rfl] at this
      exact this
    | true =>
      refine iteT' rfl ?_
      refine ⟨_, rfl, z, rfl, fun D nD => ?_⟩
      refine lp_it walk_str (fun i G => Same H G ∧ G D = some (.lst (((z.cps.toList.take i).map fun c => decide (c ∈ letters)).map V.bl))) ⟨same_upd nD, upd_same⟩ (fun _ _ _ _ => trivial) ?_ ?_
      · rintro i v G0 G hi ⟨sm, eD⟩ ⟨rfl, c, hc, rfl⟩
        refine ⟨rfl, ?_⟩
        refine ⟨_, rfl, c, _, rfl, rfl, _, eD, ?_, fun a o ea => ?_, ?_⟩
        · rw [List.length_map, List.length_map, List.length_take]
          have : z.cps.toList.length = z.length := by simp [Str.length]
          exact Nat.lt_of_le_of_lt (Nat.min_le_right _ _) (Nat.lt_of_le_of_lt (show z.cps.toList.length ≤ 100000 by omega) (by decide))
        · rw [upd_ne (ne_of_none ea nD)]
          exact sm _ _ ea
        · rw [upd_same, List.take_add_one]
          have hc2 : z.cps.toList[i]? = some c := by simpa using hc
          rw [hc2, List.map_append, List.map_append]
          rfl
      · rintro G ⟨sm, eD⟩
        have el : z.cps.toList.take z.cps.size = z.cps.toList := List.take_of_length_le (by simp)
        rw [el] at eD
        refine ⟨D, _, rfl, SqL.of eD, ?_⟩
        have := q G sm
        rw [show nameB z = ((z.cps.toList.map fun c => decide (c ∈ letters)).all id) by unfold nameB; rw [e1, e2, List.all_map]; rfl] at this
        exact this
abbrev saredifferentnames : Stmt := top 11
theorem scaredifferentnames : FnScope ["values", "value"] ["values"] (defScope saredifferentnames) := ⟨rfl, rfl, rfl, by decide +kernel, rfl, by decide +kernel, by decide +kernel⟩
theorem ok_diff {f : Addr} {fd : FuncData} (F : Fun K "_are_different_names" "_are_different_names" saredifferentnames f fd) (T : Tx mg u) (cisname : Cal P w K mg base 1 "is_name" spName []) : FnOk P w K mg base CX0 2 f fd ["values"] (spDiff K) := by
  refine F.ok scaredifferentnames (fun vs H Q E h => ?_) (fun cdv A outer s H vs Q E hr h => ?_)
  · obtain ⟨t, ns, rfl, _⟩ := h
    rfl
  obtain ⟨t, ns, rfl, hT, hl, hz, q⟩ := h
  refine ⟨_, (pss_one (ps_ret (pe_and (pe_callB (cr_all rfl) (by rfl) T.all (by decide +kernel) (pa_cons (pe_lc (own := [("value", 1)]) (g := gName 1) (tt := tYes) rfl scaredifferentnames.nd (pi_tup (pv 0)) (blkOk_by (N := ["values", "value"]) (sc := defScope saredifferentnames) (by decide +kernel)) (fun _ _ _ _ _ => pg_name (i := 1) scaredifferentnames.nd rfl (Or.inl rfl)) (fun _ _ _ _ _ => pts_nil) (fun _ _ _ _ _ => (pe_c cisname hr (by decide) rfl (pa_cons (pv 1) pa_nil)))) pa_nil)) (pe_one (pe_cmpR op_eq (pe_lenSetS K rfl rfl T.len rfl T.set (pv 0)) (pe_callB call_len_seq (by rfl) T.len PySem.boot_len (pa_cons (pv 0) pa_nil)) (nomark _)))))), ?_⟩
  refine ⟨_, rfl, t, rfl, ⟨_, hT⟩, fun D nD => ?_⟩
  refine lp_it (walk_tup (xs := ns.map V.str)) (fun i G => Same H G ∧ G D = some (.lst (((ns.take i).map nameB).map V.bl))) ⟨same_upd nD, upd_same⟩ (fun i G _ p => p.1.sqt hT) ?_ ?_
  · rintro i v G0 G hi ⟨sm, eD⟩ ⟨rfl, ev⟩
    obtain ⟨z, ez, rfl⟩ := map_at ev
    refine ⟨rfl, ?_⟩
    refine ⟨_, rfl, z, rfl, hz z (List.mem_of_getElem? ez), fun G2 s2 => ?_⟩
    refine ⟨_, s2 _ _ eD, ?_, fun a o ea => ?_, ?_⟩
    · rw [List.length_map, List.length_map, List.length_take]
      exact small1000 (by omega)
    · rw [upd_ne (ne_of_none ea nD)]
      exact s2 _ _ (sm _ _ ea)
    · rw [upd_same, List.take_add_one, ez, List.map_append, List.map_append]
      rfl
  · rintro G ⟨sm, eD⟩
    rw [List.length_map, List.take_length] at eD
    refine ⟨D, _, rfl, SqL.of eD, _, rfl, ?_⟩
    have q := q G sm
    have ea : ((ns.map nameB).all id) = ns.all nameB := by rw [List.all_map]; rfl
    rw [ea]
    cases e1 : ns.all nameB with
    | false =>
      rw [show diffB ns = false by unfold diffB; rw [e1]; rfl] at q
      exact iteF' rfl q
    | true =>
      refine iteT' rfl ?_
      refine ⟨_, rfl, t, ns, rfl, sm.sqt hT, by omega, _, rfl, t, _, rfl, .inr (sm.sqt hT), rfl, ?_⟩
      have ed : decide (V.int ((dst ns ns.length : Nat) : Int) = V.int (((ns.map V.str).length : Nat) : Int)) = decide ns.Nodup := by
        rw [List.length_map]
        by_cases h : ns.Nodup
        · rw [dst_nodup h _ (Nat.le_refl _), decide_eq_true rfl, decide_eq_true h]
        · rw [decide_eq_false h, decide_eq_false fun z => h ?_]
          have e := Int.ofNat.inj (V.int.inj z)
          have := dst_dup ns.length (Nat.le_refl _) e
          rw [List.take_length] at this
          exact this
      show Q (V.bl (decide (V.int ((dst ns ns.length : Nat) : Int) = V.int (((ns.map V.str).length : Nat) : Int)))) G
      rw [ed]
      rw [show diffB ns = decide ns.Nodup by unfold diffB; rw [e1]; rfl] at q
      exact q
abbrev sCataloginit : Stmt := inClass (top 10) 1
theorem scCataloginit : FnScope ["self", "names"] ["self", "names"] (defScope sCataloginit) := ⟨rfl, rfl, rfl, by decide +kernel, rfl, by decide +kernel, by decide +kernel⟩
/-- what the class must have -/
structure CatF (K : PySem.W.Frag) (C fI : Addr) (uM : Value) : Prop where
  cl : Cls K C
  nN : NoAttr K C "names"
  con : Con K C "MOST" (.int 8) uM
  mk0 : Mk K C fI
theorem fn_init {fI : Addr} {uM : Value} {fd : FuncData} (F : Fun K "__init__" "Catalog.__init__" sCataloginit fI fd) (T : Tx mg u) (CF : CatF K u.C fI uM) (caredifferentnames : Cal P w K mg base 2 "_are_different_names" (spDiff K) [])
    (hb : ∀ us rest : List Value, us.length = (["self"] : List Str).length → bindArgs fd ⟨us ++ rest, []⟩ = (newTuple rest >>= fun t => pure (((["self"] : List Str).zip us) ++ [(("names" : Str), t)]))) :
    FnR P w K mg base CX0 3 fI (fun vs H Q E => ∃ ws rest, vs = ws ++ rest ∧ ws.length = (["self"] : List Str).length ∧ rest.length ≤ sizeLine ∧ ∀ p ob, H p = Option.none → PT (upd H p (.frz ob (.tup rest))) p rest → spInitZ u.C (ws ++ [V.ref p]) (upd H p (.frz ob (.tup rest))) Q E) := by
  obtain ⟨oc, od, kV, doc, pm, an, cdv, ct, osl, rfl, lk, hcd⟩ := F.ex
  refine fn_starF lk hcd scCataloginit StX.cxUp_none hb fun A outer s H vs Q E hr h => ?_
  obtain ⟨x, dx, t, ns, rfl, hx, ht, ⟨g1, g8, gd, gz⟩, q⟩ := h
  refine ⟨_, PSs.nox (pss_cons (ps_if (PW.pt (pw_or (pt_not (pt_chain op_le op_le pe_int (pe_callB call_len_seq (by rfl) T.len PySem.boot_len (pa_cons (pv 1) pa_nil)) (pe_con (pv 0) rfl))) (pw_or1 (pt_not (pt_val (pe_c caredifferentnames hr (by decide) rfl (pa_cons (pv 1) pa_nil)))))))
    (pss_one ps_never)
    pss_nil)
  (pss_one (ps_fld (pv 0) (pv 1) rfl))), ?_⟩
  refine ⟨_, rfl, t, _, rfl, .inr ht.sq, _, _, rfl, rfl, _, rfl, ?_⟩
  rw [List.length_map]
  refine iteT' (decide_eq_true (by omega)) ?_
  refine ⟨_, rfl, x, u.C, dx, _, .int 8, uM, rfl, hx, CF.cl, CF.con, rfl, _, _, rfl, rfl, _, rfl, ?_⟩
  have e8 : decide ((ns.length : Int) ≤ 8) = true := decide_eq_true (by omega)
  refine iteF' (by rw [e8]; rfl) ?_
  refine ⟨_, rfl, t, ns, rfl, ht.sq, by omega, gz, fun G sm => ?_⟩
  refine ⟨_, rfl, iteF' (by rw [gd]; rfl) ?_⟩
  exact ⟨_, rfl, _, rfl, x, u.C, dx, [], rfl, sm _ _ hx, CF.cl, CF.nN, (by show 0 < 1000; decide), q G sm⟩
abbrev sCataloglen : Stmt := inClass (top 10) 3
theorem scCataloglen : FnScope ["self"] ["self"] (defScope sCataloglen) := ⟨rfl, rfl, rfl, by decide +kernel, rfl, by decide +kernel, by decide +kernel⟩
theorem ok_len {fI f : Addr} {uM : Value} {fd : FuncData} (F : Fun K "__len__" "Catalog.__len__" sCataloglen f fd) (T : Tx mg u) (CF : CatF K u.C fI uM) : FnOk P w K mg base CX0 1 f fd ["self"] (spLen u.C) := by
  refine F.ok scCataloglen (fun vs H Q E h => ?_) (fun cdv A outer s H vs Q E hr h => ?_)
  · obtain ⟨c, ns, rfl, _⟩ := h
    rfl
  obtain ⟨c, ns, rfl, ⟨dx, tn, hc, htn⟩, q⟩ := h
  refine ⟨_, (pss_one (ps_ret (pe_callB call_len_seq (by rfl) T.len PySem.boot_len (pa_cons (pe_fld (pv 0) rfl) pa_nil)))), ?_⟩
  refine ⟨_, rfl, c, u.C, dx, _, .ref tn, rfl, hc, CF.cl, CF.nN, rfl, tn, _, rfl, .inr (htn.sq), ?_⟩
  rw [List.length_map]
  exact q
abbrev sCatalogcontains : Stmt := inClass (top 10) 4
theorem scCatalogcontains : FnScope ["self", "name"] ["self", "name"] (defScope sCatalogcontains) := ⟨rfl, rfl, rfl, by decide +kernel, rfl, by decide +kernel, by decide +kernel⟩
theorem eqV_str {y z : Str} : eqV (.str y) (.str z) = decide (z = y) := by
  by_cases e : z = y
  · subst e
    rw [decide_eq_true rfl]
    first | rfl | (unfold eqV; simp)
  · rw [decide_eq_false e]
    have e1 : ¬ y = z := fun h => e h.symm
    unfold eqV
    simp [e, e1]
theorem inV_strs {z : Str} : ∀ {ns : List Str}, inV (.str z) (ns.map V.str) = decide (z ∈ ns)
  | [] => rfl
  | y :: r => by
    have ih := inV_strs (z := z) (ns := r)
    unfold inV at ih ⊢
    rw [List.map_cons, List.any_cons, ih]
    have q : eqV (.str y) (.str z) = decide (z = y) := eqV_str
    rw [q]
    simp
theorem flat_strs (ns : List Str) : (ns.map V.str).all flatV = true := by
  rw [List.all_map, List.all_eq_true]
  intro z _
  rfl
theorem ok_in {fI f : Addr} {uM : Value} {fd : FuncData} (F : Fun K "__contains__" "Catalog.__contains__" sCatalogcontains f fd) (T : Tx mg u) (CF : CatF K u.C fI uM) : FnOk P w K mg base CX0 1 f fd ["self", "name"] (spIn u.C) := by
  refine F.ok scCatalogcontains (fun vs H Q E h => ?_) (fun cdv A outer s H vs Q E hr h => ?_)
  · obtain ⟨c, ns, z, rfl, _⟩ := h
    rfl
  obtain ⟨c, ns, z, rfl, ⟨dx, tn, hc, htn⟩, q⟩ := h
  refine ⟨_, (pss_one (ps_ret (pe_cmpR op_in_seq (pv 1) (pe_fld (pv 0) rfl) rfl))), ?_⟩
  refine ⟨_, rfl, _, rfl, c, u.C, dx, _, .ref tn, rfl, hc, CF.cl, CF.nN, rfl, tn, _, rfl, .inr (htn.sq), rfl, flat_strs ns, ?_⟩
  rw [if_neg Bool.false_ne_true, inV_strs]
  exact q
theorem eqvAll_strs : ∀ {ns ms : List Str}, PyData.eqvAll (ns.map PyData.str) (ms.map PyData.str) = decide (ns = ms)
  | [], [] => rfl
  | [], _ :: _ => rfl
  | _ :: _, [] => rfl
  | a :: ns, b :: ms => by
    have ih := eqvAll_strs (ns := ns) (ms := ms)
    show (a == b && PyData.eqvAll (ns.map PyData.str) (ms.map PyData.str)) = _
    rw [ih]
    by_cases h1 : a = b <;> by_cases h2 : ns = ms <;> simp [h1, h2]
theorem dp_strs {K : PySem.W.Frag} {H : Hp} : ∀ ns : List Str, DpAll K H (ns.map V.str) (ns.map PyData.str)
  | [] => .nil
  | z :: r => .cons (.str z) (dp_strs r)
theorem lay_strs : ∀ {ns : List Str}, (∀ z ∈ ns, PyData.strOk z = true) → PyData.canLayAll0 (ns.map PyData.str) = true ∧ PyData.depthAll (ns.map PyData.str) = 0
  | [], _ => ⟨rfl, rfl⟩
  | z :: r, h => by
    obtain ⟨h1, h2⟩ := lay_strs (ns := r) fun y hy => h y (List.mem_cons_of_mem _ hy)
    refine ⟨?_, ?_⟩
    · show (PyData.strOk z && PyData.canLayAll0 (r.map PyData.str)) = true
      rw [h z List.mem_cons_self, h1]
      rfl
    · show max 0 (PyData.depthAll (r.map PyData.str)) = 0
      rw [h2]
      rfl
theorem shaped_strs {ns : List Str} (h : ∀ z ∈ ns, PyData.strOk z = true) : SeqAt.shaped (.tuple (ns.map PyData.str)) = true := by
  obtain ⟨h1, h2⟩ := lay_strs h
  show (PyData.canLayAll0 (ns.map PyData.str) && decide (PyData.depthAll (ns.map PyData.str) + 1 ≤ 64)) = true
  rw [h1, h2]
  rfl
abbrev sCatalogeq : Stmt := inClass (top 10) 5
theorem scCatalogeq : FnScope ["self", "other"] ["self", "other"] (defScope sCatalogeq) := ⟨rfl, rfl, rfl, by decide +kernel, rfl, by decide +kernel, by decide +kernel⟩
theorem hu_64 {A : Around} {k : Nat} (hr : Room k A) : A.units + 64 < cLine := Nat.lt_of_le_of_lt (Nat.le_refl _) hr.units
theorem ok_eqc {fI f : Addr} {uM : Value} {fd : FuncData} (F : Fun K "__eq__" "Catalog.__eq__" sCatalogeq f fd) (T : Tx mg u) (CF : CatF K u.C fI uM) (IF : InsF K u.C) : FnOk P w K mg base CX0 1 f fd ["self", "other"] (spEqC u.C) := by
  refine F.ok scCatalogeq (fun vs H Q E h => ?_) (fun cdv A outer s H vs Q E hr h => ?_)
  · obtain ⟨c, ns, x, rfl, _⟩ := h
    rfl
  obtain ⟨c, ns, x, rfl, ⟨dx, tn, hc, htn⟩, n8, nz, hx⟩ := h
  refine ⟨_, (pss_one (ps_ret (pe_and (pe_callB call_isi (by rfl) T.isinstance (by decide +kernel) (pa_cons (pv 1) (pa_cons (pe_glob rfl T.mCatalog T.rCatalog) pa_nil))) (pe_one (pe_cmpR (op_eqD (hu_64 hr)) (pe_fld (pv 0) rfl) (pe_fld (pv 1) rfl) (nomark _)))))), ?_⟩
  rcases hx with ⟨d, ms, rfl, ⟨dy, tm, hd, htm⟩, m8, mz, q⟩ | ⟨t, xs, rfl, ht, q⟩
  · refine ⟨_, rfl, _, _, .ref u.C, _, true, rfl, .own _, .base (.ins hd CF.cl IF.ca IF.cn IF.ct IF.cm), IF.self, _, rfl, iteT' rfl ?_⟩
    refine ⟨_, rfl, c, u.C, dx, _, .ref tn, rfl, hc, CF.cl, CF.nN, rfl, _, rfl, d, u.C, dy, _, .ref tm, rfl, hd, CF.cl, CF.nN, rfl, _, _, .tup (htn.sq) (dp_strs ns), .tup (htm.sq) (dp_strs ms), shaped_strs nz, shaped_strs mz, ?_⟩
    have e : PyData.eqv (.tuple (ns.map PyData.str)) (.tuple (ms.map PyData.str)) = decide (ns = ms) := eqvAll_strs
    rw [e]
    exact q
  · exact ⟨_, rfl, _, _, .type "tuple", _, false, rfl, .own _, .base (.tup ht), IF.tup, _, rfl, iteF' rfl q⟩
abbrev sCatalogindexof : Stmt := inClass (top 10) 6
theorem scCatalogindexof : FnScope ["self", "name"] ["self", "name"] (defScope sCatalogindexof) := ⟨rfl, rfl, rfl, by decide +kernel, rfl, by decide +kernel, by decide +kernel⟩
theorem ok_idx {fI f UM : Addr} {uM : Value} {fd : FuncData} (F : Fun K "index_of" "Catalog.index_of" sCatalogindexof f fd) (T : Tx mg u) (CF : CatF K u.C fI uM) (OU : OwnX P w K mg base "UnknownMark" UM "name") : FnOk P w K mg base (L2N.CX P w) 4 f fd ["self", "name"] (spIdx u.C UM) := by
  obtain ⟨oc, od, kV, doc, pm, an, cdv, ct, osl, rfl, lk, hcd⟩ := F.ex
  refine fn_of lk hcd scCatalogindexof (fun vs H Q E h => ?_) fun A outer s H vs Q E hr h => ?_
  · obtain ⟨c, ns, z, rfl, _⟩ := h
    rfl
  obtain ⟨c, ns, z, rfl, ⟨dx, tn, hc, htn⟩, yes, no⟩ := h
  refine ⟨_, (pss_cons (ps_if (pt_cmpR op_notIn_seq (pv 1) (pe_fld (pv 0) rfl) rfl)
    (pss_one (L2N.ps_raise rfl (L2N.takes_of rfl rfl rfl rfl) (pmk_own1xN OU hr (by decide) rfl (pa_cons (pv 1) pa_nil))))
    pss_nil)
  (pss_one (ps_ret (pe_pm PySem.F.slot_tuple_index PySem.F.type_tuple_index mt_tup_index (pe_fld (pv 0) rfl) (pa_cons (pv 1) pa_nil))))), ?_⟩
  refine ⟨_, rfl, _, rfl, c, u.C, dx, _, .ref tn, rfl, hc, CF.cl, CF.nN, rfl, tn, _, rfl, .inr htn.sq, rfl, flat_strs ns, ?_⟩
  rw [if_pos rfl, inV_strs]
  by_cases hz : z ∈ ns
  · refine ⟨_, rfl, iteF' (by rw [decide_eq_true hz]; rfl) ?_⟩
    obtain ⟨j, h1, h2⟩ := first_at hz
    exact ⟨_, rfl, c, u.C, dx, _, .ref tn, rfl, hc, CF.cl, CF.nN, rfl, ⟨tn, _, rfl, htn⟩, _, rfl, tn, ns, z, j, rfl, rfl, htn.sq, h1, h2, yes j h1 h2⟩
  · refine ⟨_, rfl, iteT' (by rw [decide_eq_false hz]; rfl) ?_⟩
    exact ⟨_, rfl, _, rfl, fun d nd => no hz d nd⟩
end
end VL

namespace VL
open PySem PySem.Spec PyProof.Rows L2
open C8 (Cal pe_c Met pe_mt)
/-- the wish of Catalog( *ns) -/
def spC (C : Addr) : Sp := fun vs H Q E => ∃ ws rest, vs = ws ++ rest ∧ ws.length = (["self"] : List Str).length ∧ rest.length ≤ sizeLine ∧ ∀ p ob, H p = Option.none → PT (upd H p (.frz ob (.tup rest))) p rest → spInitZ C (ws ++ [V.ref p]) (upd H p (.frz ob (.tup rest))) Q E
theorem mk_cat {C : Addr} {H : Hp} {ns : List Str} {Q : VK} {E : XK} (g : Good ns) (q : ∀ a G, H a = none → Same H G → CatZ C G a ns → Q (.ref a) G) (x dx : Addr) (nx : H x = none) (nd : H dx = none) (ne : dx ≠ x) :
    spC C (V.ref x :: ns.map V.str) (upd (upd H dx (.own x)) x (.ins C dx [])) (fun v G => v = .non ∧ Q (.ref x) G) E := by
  refine ⟨[.ref x], ns.map V.str, rfl, rfl, ?_, fun p ob np hp => ?_⟩
  · rw [List.length_map]
    exact Nat.le_trans g.2.1 (by decide)
  have px : p ≠ x := fun e => by rw [e, upd_same] at np; cases np
  have pd : p ≠ dx := fun e => by rw [e, upd_ne ne, upd_same] at np; cases np
  refine ⟨x, dx, p, ns, rfl, by rw [upd_ne px.symm, upd_same], hp, g, fun G sm => ⟨rfl, q x _ nx (fun a o ea => ?_) ?_⟩⟩
  · rw [upd_ne (ne_of_none ea nx)]
    refine sm a o ?_
    have ap : a ≠ p := fun e => by
      rw [upd_ne px, upd_ne pd, ← e, ea] at np
      cases np
    rw [upd_ne ap, upd_ne (ne_of_none ea nx), upd_ne (ne_of_none ea nd)]
    exact ea
  · obtain ⟨ob2, h1, h2⟩ := hp.same sm
    exact ⟨dx, p, upd_same, ob2, by rw [upd_ne px]; exact h1, h2⟩
def spCatalog (C : Addr) : Sp := fun vs H Q _ => ∃ (l : Addr) (ns : List Str), vs = [.ref l] ∧ H l = some (.lst (ns.map V.str)) ∧ (ns.length = 1 ∨ ns.length = 2 ∨ ns.length = 3 ∨ ns.length = 8) ∧ Good ns ∧ ∀ a G, H a = none → Same H G → CatZ C G a ns → Q (.ref a) G
section
variable {P : Program} {w : World} {K : PySem.W.Frag} {mg : Str → Option Value} {base : Heap} {u : Cs}
abbrev sLcatalog : Stmt := top 17
theorem scLcatalog : FnScope ["_law_names_here"] ["_law_names_here"] (defScope sLcatalog) := ⟨rfl, rfl, rfl, by decide +kernel, rfl, by decide +kernel, by decide +kernel⟩
theorem ok_cat {fI f : Addr} {uM : Value} {fd : FuncData} (F : Fun K "_law_catalog" "_law_catalog" sLcatalog f fd) (T : Tx mg u) (CF : CatF K u.C fI uM) (GI : FnR P w K mg base CX0 3 fI (spC u.C)) : FnOk P w K mg base CX0 5 f fd ["_law_names_here"] (spCatalog u.C) := by
  refine F.ok scLcatalog (fun vs H Q E h => ?_) (fun cdv A outer s H vs Q E hr h => ?_)
  · obtain ⟨l, ns, rfl, _⟩ := h
    rfl
  obtain ⟨l, ns, rfl, hl, hn, g, q⟩ := h
  refine ⟨_, (pss_cons (ps_if (pt_cmpR op_eq (pe_callB call_len_seq (by rfl) T.len PySem.boot_len (pa_cons (pv 0) pa_nil)) pe_int (nomark _))
    (pss_one (ps_ret (StX.pe_makeR CF.mk0 GI (hr.mono (by decide)) rfl T.mCatalog pass0 (pa_cons (pe_ix ix_list (pv 0) pe_int (fun _ _ => rfl)) pa_nil))))
    pss_nil)
  (pss_cons (ps_if (pt_cmpR op_eq (pe_callB call_len_seq (by rfl) T.len PySem.boot_len (pa_cons (pv 0) pa_nil)) pe_int (nomark _))
    (pss_one (ps_ret (StX.pe_makeR CF.mk0 GI (hr.mono (by decide)) rfl T.mCatalog pass0 (pa_cons (pe_ix ix_list (pv 0) pe_int (fun _ _ => rfl)) (pa_cons (pe_ix ix_list (pv 0) pe_int (fun _ _ => rfl)) pa_nil)))))
    pss_nil)
  (pss_cons (ps_if (pt_cmpR op_eq (pe_callB call_len_seq (by rfl) T.len PySem.boot_len (pa_cons (pv 0) pa_nil)) pe_int (nomark _))
    (pss_one (ps_ret (StX.pe_makeR CF.mk0 GI (hr.mono (by decide)) rfl T.mCatalog pass0 (pa_cons (pe_ix ix_list (pv 0) pe_int (fun _ _ => rfl)) (pa_cons (pe_ix ix_list (pv 0) pe_int (fun _ _ => rfl)) (pa_cons (pe_ix ix_list (pv 0) pe_int (fun _ _ => rfl)) pa_nil))))))
    pss_nil)
  (pss_one (ps_ret (StX.pe_makeR CF.mk0 GI (hr.mono (by decide)) rfl T.mCatalog pass0 (pa_cons (pe_ix ix_list (pv 0) pe_int (fun _ _ => rfl)) (pa_cons (pe_ix ix_list (pv 0) pe_int (fun _ _ => rfl)) (pa_cons (pe_ix ix_list (pv 0) pe_int (fun _ _ => rfl)) (pa_cons (pe_ix ix_list (pv 0) pe_int (fun _ _ => rfl)) (pa_cons (pe_ix ix_list (pv 0) pe_int (fun _ _ => rfl)) (pa_cons (pe_ix ix_list (pv 0) pe_int (fun _ _ => rfl)) (pa_cons (pe_ix ix_list (pv 0) pe_int (fun _ _ => rfl)) (pa_cons (pe_ix ix_list (pv 0) pe_int (fun _ _ => rfl)) pa_nil)))))))))))))), ?_⟩
  have mk := mk_cat (E := fun _ _ _ => False) g q
  match ns, hn with
  | [a], _ => exact ⟨_, rfl, l, _, rfl, .inl (SqL.of hl), rfl, _, rfl, iteT' rfl ⟨_, rfl, l, _, _, .str a, rfl, rfl, SqL.of hl, rfl, mk⟩⟩
  | [a, b], _ => exact ⟨_, rfl, l, _, rfl, .inl (SqL.of hl), rfl, _, rfl, iteF' rfl ⟨_, rfl, l, _, rfl, .inl (SqL.of hl), rfl, _, rfl, iteT' rfl ⟨_, rfl, l, _, _, .str a, rfl, rfl, SqL.of hl, rfl, _, rfl, l, _, _, .str b, rfl, rfl, SqL.of hl, rfl, mk⟩⟩⟩
  | [a, b, c], _ => exact ⟨_, rfl, l, _, rfl, .inl (SqL.of hl), rfl, _, rfl, iteF' rfl ⟨_, rfl, l, _, rfl, .inl (SqL.of hl), rfl, _, rfl, iteF' rfl ⟨_, rfl, l, _, rfl, .inl (SqL.of hl), rfl, _, rfl, iteT' rfl ⟨_, rfl, l, _, _, .str a, rfl, rfl, SqL.of hl, rfl, _, rfl, l, _, _, .str b, rfl, rfl, SqL.of hl, rfl, _, rfl, l, _, _, .str c, rfl, rfl, SqL.of hl, rfl, mk⟩⟩⟩⟩
  | [a, b, c, d, e, f, g, h], _ => exact ⟨_, rfl, l, _, rfl, .inl (SqL.of hl), rfl, _, rfl, iteF' rfl ⟨_, rfl, l, _, rfl, .inl (SqL.of hl), rfl, _, rfl, iteF' rfl ⟨_, rfl, l, _, rfl, .inl (SqL.of hl), rfl, _, rfl, iteF' rfl ⟨_, rfl, l, _, _, .str a, rfl, rfl, SqL.of hl, rfl, _, rfl, l, _, _, .str b, rfl, rfl, SqL.of hl, rfl, _, rfl, l, _, _, .str c, rfl, rfl, SqL.of hl, rfl, _, rfl, l, _, _, .str d, rfl, rfl, SqL.of hl, rfl, _, rfl, l, _, _, .str e, rfl, rfl, SqL.of hl, rfl, _, rfl, l, _, _, .str f, rfl, rfl, SqL.of hl, rfl, _, rfl, l, _, _, .str g, rfl, rfl, SqL.of hl, rfl, _, rfl, l, _, _, .str h, rfl, rfl, SqL.of hl, rfl, mk⟩⟩⟩⟩
  | [], h => exact absurd h (by decide)
  | [a, b, c, d], h => exact absurd h (show ¬ (4 = 1 ∨ 4 = 2 ∨ 4 = 3 ∨ 4 = 8) by decide)
  | [a, b, c, d, e], h => exact absurd h (show ¬ (5 = 1 ∨ 5 = 2 ∨ 5 = 3 ∨ 5 = 8) by decide)
  | [a, b, c, d, e, f], h => exact absurd h (show ¬ (6 = 1 ∨ 6 = 2 ∨ 6 = 3 ∨ 6 = 8) by decide)
  | [a, b, c, d, e, f, g], h => exact absurd h (show ¬ (7 = 1 ∨ 7 = 2 ∨ 7 = 3 ∨ 7 = 8) by decide)
  | a :: b :: c :: d :: e :: f :: g :: h :: i :: r, z => exact absurd z (by simp only [List.length_cons]; omega)
end
end VL

namespace VL
open PySem PySem.Spec PyProof.Rows L2
open C8 (Cal pe_c Met pe_mt)
/-- two equal texts are the same, also where an error is handled -/
def spSameZ : Sp := fun vs H Q _ => ∃ z : Str, vs = [.str z, .str z] ∧ Q (.bl true) H
section
variable {P : Program} {w : World} {K : PySem.W.Frag} {mg : Str → Option Value} {base : Heap} {u : Cs}
theorem ok_sameH {f : Addr} {fd : FuncData} (F : Fun K "_law_same" "_law_same" sLsame f fd) (T : Tx mg u) : L2H.FnH P w K mg base CX0 1 f fd ["_law_actual", "_law_due"] spSameZ := by
  obtain ⟨oc, od, kV, doc, pm, an, cdv, ct, osl, rfl, lk, hcd⟩ := F.ex
  refine L2H.fn_ofH lk hcd scLsame (fun vs H Q E h => ?_) fun A outer s H vs Q E p hot hr h => ?_
  · obtain ⟨z, rfl, _⟩ := h
    rfl
  obtain ⟨z, rfl, q⟩ := h
  refine ⟨_, (pss_cons (ps_if (pt_cmpR op_isN (pv 1) pe_non (nomark _)) (pss_one ps_never) pss_nil)
  (pss_cons (ps_if (pt_val (pe_callB call_isi (by rfl) T.isinstance (by decide +kernel) (pa_cons (pv 1) (pa_cons (pe_bltn (v := .ty "bool") rfl T.bool (by decide +kernel) rfl) pa_nil)))) (pss_one ps_never) pss_nil)
  (pss_cons (ps_if (pt_val (pe_callB call_isi (by rfl) T.isinstance (by decide +kernel) (pa_cons (pv 1) (pa_cons (pe_bltn (v := .ty "int") rfl T.int (by decide +kernel) rfl) pa_nil)))) (pss_one ps_never) pss_nil)
  (pss_cons (ps_if (pt_val (pe_callB call_isi (by rfl) T.isinstance (by decide +kernel) (pa_cons (pv 1) (pa_cons (pe_bltn (v := .ty "str") rfl T.str (by decide +kernel) rfl) pa_nil))))
    (pss_one (ps_ret (pe_and (pe_callB call_isi (by rfl) T.isinstance (by decide +kernel) (pa_cons (pv 0) (pa_cons (pe_bltn (v := .ty "str") rfl T.str (by decide +kernel) rfl) pa_nil))) (pe_one (pe_cmpR op_eq (pv 0) (pv 1) (nomark _)))))) pss_nil) pss_never)))), ?_⟩
  refine ⟨_, rfl, rfl, _, rfl, iteF' rfl ?_⟩
  refine ⟨_, rfl, ⟨_, _, .type "str", _, false, rfl, .ty _, .base (.str _), kit_ty (by decide +kernel), ⟨_, rfl, iteF' rfl ?_⟩⟩⟩
  refine ⟨_, rfl, ⟨_, _, .type "str", _, false, rfl, .ty _, .base (.str _), kit_ty (by decide +kernel), ⟨_, rfl, iteF' rfl ?_⟩⟩⟩
  refine ⟨_, rfl, ⟨_, _, .type "str", _, true, rfl, .ty _, .base (.str _), kit_ty (by decide +kernel), ⟨_, rfl, iteT' rfl ?_⟩⟩⟩
  refine ⟨_, rfl, ⟨_, _, .type "str", _, true, rfl, .ty _, .base (.str _), kit_ty (by decide +kernel), ⟨_, rfl, iteT' rfl ?_⟩⟩⟩
  refine ⟨_, rfl, _, rfl, rfl, ?_⟩
  rw [decide_eq_true rfl]
  exact q
/-- what the classes must be -/
structure UkF (K : PySem.W.Frag) (mg : Str → Option Value) (UM SE : Addr) : Prop where
  mS : mg "ShelfError" = some (.ref SE)
  mV : mg "ValueError" = none
  ec : ExcC K UM
  kS : PySem.W.kitOne K (.ref UM) (.ref SE) = some true
  kV : PySem.W.kitOne K (.ref UM) (.type "ValueError") = some true
/-- isinstance(e, c) of a caught error, whatever its class -/
theorem call_isA {X : Cx} {a : Addr} {cls : Value} {d : Option Addr} {oe : Obj} {pn : List (Addr × Obj)} (hz : Zc cls d oe) (hf : ∃ vs, oe.data = .fields vs) :
    CallR (X.suite a ((a, oe) :: pn)) (.builtin "isinstance") (fun xs H Q => ∃ D d1, cls = .ref D ∧ d = some d1 ∧ ExcC X.K D ∧ rIsD X.K D a d1 xs H Q) := by
  rintro pins s σ H xs us Q I r ⟨D, d1, rfl, rfl, C, h⟩
  exact call_isD C hz hf pins s σ H xs us Q I r h
theorem takesN0 {X : Cx} : L2N.Takes X (fun _ _ _ _ => False) := by
  rintro u s ⟨_, _, _, _, _, _, _, _, _, _, _, _, _, _, _, _, w⟩
  exact w.elim
def spUnknown (C : Addr) : Sp := fun vs H Q _ => ∃ (c : Addr) (ns : List Str) (z : Str), vs = [.ref c, .str z] ∧ CatZ C H c ns ∧ z ∉ ns ∧ ∀ G, Same H G → Q (.bl true) G
abbrev sLunknown : Stmt := top 19
theorem scLunknown : FnScope ["_law_catalog_here", "_law_word_here", "e"] ["_law_catalog_here", "_law_word_here"] (defScope sLunknown) := ⟨rfl, rfl, rfl, by decide +kernel, rfl, by decide +kernel, by decide +kernel⟩
theorem ok_unknown {fI f fX fS UM SE : Addr} {uM : Value} {fd fdX fdS : FuncData} (F : Fun K "_law_unknown" "_law_unknown" sLunknown f fd) (T : Tx mg u) (CF : CatF K u.C fI uM) (OU : OwnX P w K mg base "UnknownMark" UM "name") (UF : UkF K mg UM SE)
    (MX : Meth K u.C "index_of" fX) (FX : FnOk P w K mg base (L2N.CX P w) 4 fX fdX ["self", "name"] (spIdx u.C UM)) (bX : Binds K fdX ["self", "name"] [])
    (FS : L2H.FnH P w K mg base CX0 1 fS fdS ["_law_actual", "_law_due"] spSameZ) (mS : mg "_law_same" = some (.ref fS)) (kS : PySem.W.keepIn K (.ref fS) = true) (bS : Binds K fdS ["_law_actual", "_law_due"] []) : FnOk P w K mg base CX0 5 f fd ["_law_catalog_here", "_law_word_here"] (spUnknown u.C) := by
  refine F.ok scLunknown (fun vs H Q E h => ?_) (fun cdv A outer s H vs Q E hr h => ?_)
  · obtain ⟨c, ns, z, rfl, _⟩ := h
    rfl
  obtain ⟨c, ns, z, rfl, hC, hn, q⟩ := h
  have hC0 := hC
  obtain ⟨dx, tn, hc, htn⟩ := hC0
  refine ⟨_, PSs.nox (pss_cons (L2N.ps_try_as (i := 2) (tb := _) (ts := fun a cls d => _) (Wout := fun _ _ _ _ => False) rfl rfl scLunknown.nd rfl rfl ⟨rfl, by decide, Or.inl OU.m⟩ takesN0
    (fun W pn xe tk _ => pss_one (ps_expr (pe_methKw (pv 0) CF.cl MX (fn_rk0 FX bX) hr (fun σ => L2N.passAt tk σ) (pa_cons (pv 1) pa_nil) pk_nil)))
    (fun a oe cls d pn hz hf => pss_one (ps_ret (pe_and (L2H.pe_callH (E := fun _ _ _ _ => False) FS (L2H.RoomH.mono (L2H.roomH_mark hr _) (show 1 ≤ 4 by decide)) (hot_suite hz hf) rfl mS kS bS (fun _ _ _ _ _ _ _ z => z.elim) (pa_cons (pe_xf OU.xf OU.no hz.zc hf (pv 2)) (pa_cons (pv 1) pa_nil)))
      (pe_and (pe_callB (call_isA hz.zc hf) (by rfl) T.isinstance (by decide +kernel) (pa_cons (pv 2) (pa_cons (pe_glob rfl UF.mS (show RelV (.ref SE) (.ref SE) from rfl)) pa_nil)))
        (pe_one (pe_callB (call_isA hz.zc hf) (by rfl) T.isinstance (by decide +kernel) (pa_cons (pv 2) (pa_cons (pe_bltn (v := .ty "ValueError") rfl UF.mV (by decide +kernel) rfl) pa_nil)))))))))
    (pss_one ps_never)), ?_⟩
  refine ⟨_, rfl, c, dx, _, rfl, hc, rfl, _, rfl, rfl, c, ns, z, rfl, hC, fun j h1 _ => absurd (List.mem_of_getElem? h1) hn, fun _ d nd => ⟨true, OU.te, fun _ a na => ?_, fun q => Bool.noConfusion q⟩⟩
  have at_ : upd H d (.xd [("name", .str z)]) d = some (.xd [("name", V.str z)]) := upd_same
  refine ⟨_, rfl, rfl, rfl, d, _, .str z, rfl, at_, rfl, _, rfl, z, rfl, _, rfl, iteT' rfl ?_⟩
  refine ⟨_, rfl, UM, d, rfl, rfl, UF.ec, .ref SE, .ref SE, true, _, rfl, at_, fun _ e => e, UF.kS, _, rfl, iteT' rfl ?_⟩
  exact ⟨_, rfl, UM, d, rfl, rfl, UF.ec, .ty "ValueError", .type "ValueError", true, _, rfl, at_, fun _ e => e, UF.kV, q _ (same_upd nd)⟩
end
end VL

namespace VL
open PySem PySem.Spec PyProof.Rows L2
open C8 (Cal pe_c Met pe_mt)
/-! ### the names -/
def nmz (css : List (List Nat)) : List Str := css.map tx
theorem nmz_vals (css : List (List Nat)) : (css.map fun cs => V.str (tx cs)) = (nmz css).map V.str := by
  unfold nmz
  rw [List.map_map]
  rfl
theorem nmz_len (css : List (List Nat)) : (nmz css).length = css.length := List.length_map _
theorem nameB_tx {cs : List Nat} (h1 : 1 ≤ cs.length) (h2 : cs.length ≤ 12) (h : ∀ c ∈ cs, c ∈ letters) : nameB (tx cs) = true := by
  unfold nameB
  rw [tx_len]
  have e : (tx cs).cps.toList = cs := by simp [tx]
  rw [e]
  simp only [Bool.and_eq_true, decide_eq_true_eq, List.all_eq_true]
  exact ⟨⟨by omega, by omega⟩, h⟩
theorem nmz_nodup {css : List (List Nat)} (h : css.Nodup) : (nmz css).Nodup := by
  unfold nmz
  exact List.pairwise_map.mpr (h.imp fun ne e => ne (tx_inj e))
theorem Named.good {s : Int} {css : List (List Nat)} (h : Named s css) (h1 : 1 ≤ css.length) (h8 : css.length ≤ 8) : Good (nmz css) := by
  refine ⟨by rw [nmz_len]; exact h1, by rw [nmz_len]; exact h8, ?_, ?_⟩
  · unfold diffB
    rw [decide_eq_true (nmz_nodup (h.nodup h8)), Bool.and_true, List.all_eq_true]
    intro z hz
    obtain ⟨cs, hc, rfl⟩ := List.mem_map.mp hz
    obtain ⟨a, b, c⟩ := h.len cs hc
    exact nameB_tx a b c
  · intro z hz
    obtain ⟨cs, hc, rfl⟩ := List.mem_map.mp hz
    rw [tx_len]
    have := (h.len cs hc).2.1
    omega
theorem letter_lt {c : Nat} (h : c ∈ letters) : 97 ≤ c ∧ c ≤ 122 := by
  have all : ∀ c ∈ letters, 97 ≤ c ∧ c ≤ 122 := by decide +kernel
  exact all c h
/-- what is no name is none of them -/
theorem Named.out {s : Int} {css : List (List Nat)} (h : Named s css) {z : Str} (hz : z.cps.toList = [] ∨ ∃ c ∈ z.cps.toList, c ∉ letters) : z ∉ nmz css := by
  intro hm
  obtain ⟨cs, hc, rfl⟩ := List.mem_map.mp hm
  have e : (tx cs).cps.toList = cs := by simp [tx]
  rw [e] at hz
  obtain ⟨a, _, b⟩ := h.len cs hc
  rcases hz with rfl | ⟨c, h1, h2⟩
  · cases a
  · exact h2 (b c h1)
theorem upper_out {cs : List Nat} (h1 : 1 ≤ cs.length) (h : ∀ c ∈ cs, c ∈ letters) : ∃ c ∈ (Txt.upper (tx cs)).cps.toList, c ∉ letters := by
  match cs, h1 with
  | c :: r, _ =>
    obtain ⟨a, b⟩ := letter_lt (h c List.mem_cons_self)
    have e : tx (c :: r) = (⟨#[c]⟩ : Str) ++ tx r := by
      show tx ([c] ++ r) = tx [c] ++ tx r
      rw [tx_app]
    rw [e, PySem.W.KOpn.upper_app, PySem.W.KOpn.upper_one (show c < 128 by omega), if_pos ⟨a, b⟩]
    refine ⟨c - 32, ?_, fun z => ?_⟩
    · show c - 32 ∈ (#[c - 32] ++ (Txt.upper (tx r)).cps).toList
      simp
    · have := (letter_lt z).1
      omega
theorem space_out (z : Str) : ∃ c ∈ ((" " : Str) ++ z).cps.toList, c ∉ letters := by
  refine ⟨32, ?_, by decide +kernel⟩
  show 32 ∈ ((" " : Str).cps ++ z.cps).toList
  rw [Array.toList_append]
  exact List.mem_append_left _ (by decide +kernel)
theorem Named.okz {s : Int} {css : List (List Nat)} (h : Named s css) : ∀ z ∈ nmz css, PyData.strOk z = true := fun z hz => by
  obtain ⟨cs, hc, rfl⟩ := List.mem_map.mp hz
  unfold PyData.strOk
  rw [← Array.all_toList, List.all_eq_true]
  intro c h1
  have h2 : c ∈ cs := by simpa [tx] using h1
  have := (letter_lt ((h.len cs hc).2.2 c h2)).2
  exact decide_eq_true (by omega)
theorem rev_eq {ns : List Str} (nd : ns.Nodup) (h1 : 1 ≤ ns.length) : decide (ns = ns.reverse) = decide (ns.length = 1) := by
  match ns, h1 with
  | [a], _ => rw [decide_eq_true (show [a] = [a].reverse from rfl), decide_eq_true (show [a].length = 1 from rfl)]
  | a :: b :: r, _ =>
    have h2 : ¬ (a :: b :: r).length = 1 := by simp only [List.length_cons]; omega
    rw [decide_eq_false h2]
    refine decide_eq_false fun e => ?_
    have hl : (a :: b :: r)[0]? = (a :: b :: r).reverse[0]? := congrArg (fun l : List Str => l[0]?) e
    rw [List.getElem?_reverse (by simp)] at hl
    have h3 : (b :: r)[r.length]? = some a := hl.symm
    exact (List.nodup_cons.mp nd).1 (List.mem_of_getElem? h3)
theorem Good.rev {ns : List Str} (g : Good ns) : Good ns.reverse := by
  obtain ⟨a, b, c, d⟩ := g
  refine ⟨by rw [List.length_reverse]; exact a, by rw [List.length_reverse]; exact b, ?_, fun z hz => d z (List.mem_reverse.mp hz)⟩
  unfold diffB at c ⊢
  rw [List.all_reverse]
  simp only [Bool.and_eq_true, decide_eq_true_eq] at c ⊢
  exact ⟨c.1, List.pairwise_reverse.mpr (c.2.imp Ne.symm)⟩
theorem Good.one {ns : List Str} {z : Str} (g : Good ns) (h : z ∈ ns) : Good [z] := by
  obtain ⟨a, b, c, d⟩ := g
  refine ⟨Nat.le_refl 1, by show 1 ≤ 8; decide, ?_, fun y hy => by rw [List.mem_singleton.mp hy]; exact d z h⟩
  unfold diffB at c ⊢
  simp only [Bool.and_eq_true, decide_eq_true_eq, List.all_eq_true] at c ⊢
  exact ⟨fun y hy => by rw [List.mem_singleton.mp hy]; exact c.1 z h, by simp⟩
/-- the tuple of the catalog and a new one of the same flat things -/
def spSameP : Sp := fun vs H Q _ => ∃ (a b : Addr) (ys : List V), vs = [.ref a, .ref b] ∧ PT H a ys ∧ H b = some (.tup ys) ∧ ys.length ≤ 100000 ∧ (∀ y ∈ ys, flt y = true) ∧ Q (.bl true) H
section
variable {P : Program} {w : World} {K : PySem.W.Frag} {mg : Str → Option Value} {base : Heap} {u : Cs}
theorem ok_sameP {f : Addr} {fd : FuncData} (F : Fun K "_law_same" "_law_same" sLsame f fd) (T : Tx mg u) (cLsame : Cal P w K mg base 1 "_law_same" (spSame 1) []) : FnOk P w K mg base CX0 2 f fd ["_law_actual", "_law_due"] spSameP := by
  refine F.ok scLsame (fun vs H Q E h => ?_) (fun cdv A outer s H vs Q E hr h => ?_)
  · obtain ⟨a, b, ys, rfl, _⟩ := h
    rfl
  obtain ⟨a, b, ys, rfl, hpt, hb, hz, hfl, q⟩ := h
  refine ⟨_, (pss_cons (ps_if (pt_cmpR op_isN (pv 1) pe_non (nomark _))
    (pss_one (ps_ret (pe_cmpR op_isN (pv 0) pe_non (nomark _))))
    pss_nil)
  (pss_cons (ps_if (pt_val (pe_callB call_isi (by rfl) T.isinstance (by decide +kernel) (pa_cons (pv 1) (pa_cons (pe_bltn (v := .ty "bool") rfl T.bool (by decide +kernel) rfl) pa_nil))))
    (pss_one (ps_ret (pe_and (pe_callB call_isi (by rfl) T.isinstance (by decide +kernel) (pa_cons (pv 0) (pa_cons (pe_bltn (v := .ty "bool") rfl T.bool (by decide +kernel) rfl) pa_nil))) (pe_one (pe_cmpR op_eq (pv 0) (pv 1) (nomark _))))))
    pss_nil)
  (pss_cons (ps_if (pt_val (pe_callB call_isi (by rfl) T.isinstance (by decide +kernel) (pa_cons (pv 1) (pa_cons (pe_bltn (v := .ty "int") rfl T.int (by decide +kernel) rfl) pa_nil))))
    (pss_one (ps_ret (pe_and (pe_callB call_isi (by rfl) T.isinstance (by decide +kernel) (pa_cons (pv 0) (pa_cons (pe_bltn (v := .ty "int") rfl T.int (by decide +kernel) rfl) pa_nil))) (pe_and (pe_not (pe_callB call_isi (by rfl) T.isinstance (by decide +kernel) (pa_cons (pv 0) (pa_cons (pe_bltn (v := .ty "bool") rfl T.bool (by decide +kernel) rfl) pa_nil)))) (pe_one (pe_cmpR op_eq (pv 0) (pv 1) (nomark _)))))))
    pss_nil)
  (pss_cons (ps_if (pt_val (pe_callB call_isi (by rfl) T.isinstance (by decide +kernel) (pa_cons (pv 1) (pa_cons (pe_bltn (v := .ty "str") rfl T.str (by decide +kernel) rfl) pa_nil))))
    (pss_one (ps_ret (pe_and (pe_callB call_isi (by rfl) T.isinstance (by decide +kernel) (pa_cons (pv 0) (pa_cons (pe_bltn (v := .ty "str") rfl T.str (by decide +kernel) rfl) pa_nil))) (pe_one (pe_cmpR op_eq (pv 0) (pv 1) (nomark _))))))
    pss_nil)
  (pss_cons (ps_if (pt_cmpR op_ne (pe_callB call_isi (by rfl) T.isinstance (by decide +kernel) (pa_cons (pv 1) (pa_cons (pe_bltn (v := .ty "tuple") rfl T.tuple (by decide +kernel) rfl) pa_nil))) (pe_callB call_isi (by rfl) T.isinstance (by decide +kernel) (pa_cons (pv 0) (pa_cons (pe_bltn (v := .ty "tuple") rfl T.tuple (by decide +kernel) rfl) pa_nil))) (nomark _))
    (pss_one (ps_ret pe_bl))
    pss_nil)
  (pss_cons (ps_if (PW.pt (pw_or (pt_cmpR op_ne (pe_callB call_isi (by rfl) T.isinstance (by decide +kernel) (pa_cons (pv 1) (pa_cons (pe_bltn (v := .ty "list") rfl T.list (by decide +kernel) rfl) pa_nil))) (pe_callB call_isi (by rfl) T.isinstance (by decide +kernel) (pa_cons (pv 0) (pa_cons (pe_bltn (v := .ty "list") rfl T.list (by decide +kernel) rfl) pa_nil))) (nomark _)) (pw_or1 (pt_cmpR op_ne (pe_callB call_len_seq (by rfl) T.len PySem.boot_len (pa_cons (pv 0) pa_nil)) (pe_callB call_len_seq (by rfl) T.len PySem.boot_len (pa_cons (pv 1) pa_nil)) (nomark _)))))
    (pss_one (ps_ret pe_bl))
    pss_nil)
  (pss_cons (ps_for PassesOwn.never rfl (pi_range1 rfl T.range (pa_cons (pe_callB call_len_seq (by rfl) T.len PySem.boot_len (pa_cons (pv 1) pa_nil)) pa_nil)) (pg_name (i := 2) scLsame.nd rfl (Or.inl rfl))
    (pss_one (ps_if (pt_not (pt_val (pe_c cLsame hr (Nat.le_refl _) rfl (pa_cons (pe_ix ix_seq (pv 0) (pv 2) (fun _ _ => rfl)) (pa_cons (pe_ix ix_seq (pv 1) (pv 2) (fun _ _ => rfl)) pa_nil)))))
      (pss_one (ps_ret pe_bl))
      pss_nil)))
  (pss_one (ps_ret pe_bl))))))))), ?_⟩
  obtain ⟨xs, rfl⟩ : ∃ xs, xs = ys := ⟨_, rfl⟩
  have hA : SqL K H a xs ∨ SqT K H a xs := .inr hpt.sq
  have hB : SqL K H b xs ∨ SqT K H b xs := .inr (SqT.of hb)
  have tyA : TyX K H (.ref a) (.type "tuple") := by
    obtain ⟨ob, h1, _⟩ := hpt
    exact .fTuple h1
  have tyB : TyX K H (.ref b) (.type "tuple") := .base (.tup hb)
  have k1 : kitB "tuple" "bool" = some false := by decide +kernel
  have k2 : kitB "tuple" "int" = some false := by decide +kernel
  have k3 : kitB "tuple" "str" = some false := by decide +kernel
  have k4 : kitB "tuple" "tuple" = some true := by decide +kernel
  have k5 : kitB "tuple" "list" = some false := by decide +kernel
  have SP : ∀ (i : Nat) (z : V), xs[i]? = some z → Sm H 0 z z := fun i z e => ⟨rfl, hfl z (List.mem_of_getElem? e)⟩
  have no : ∀ c : V, (!decide (c = c)) = false := fun c => by rw [decide_eq_true rfl]; rfl
  refine ⟨_, rfl, rfl, _, rfl, iteF' rfl ?_⟩
  refine ⟨_, rfl, ⟨_, _, .type "tuple", _, false, rfl, .ty _, tyB, kit_ty k1, ⟨_, rfl, iteF' rfl ?_⟩⟩⟩
  refine ⟨_, rfl, ⟨_, _, .type "tuple", _, false, rfl, .ty _, tyB, kit_ty k2, ⟨_, rfl, iteF' rfl ?_⟩⟩⟩
  refine ⟨_, rfl, ⟨_, _, .type "tuple", _, false, rfl, .ty _, tyB, kit_ty k3, ⟨_, rfl, iteF' rfl ?_⟩⟩⟩
  refine ⟨_, rfl, ⟨_, _, .type "tuple", _, true, rfl, .ty _, tyB, kit_ty k4, ⟨_, rfl, ⟨_, _, .type "tuple", _, true, rfl, .ty _, tyA, kit_ty k4, ⟨rfl, _, rfl, iteF' (no _) ?_⟩⟩⟩⟩⟩
  refine ⟨_, rfl, ⟨_, _, .type "tuple", _, false, rfl, .ty _, tyB, kit_ty k5, ⟨_, rfl, ⟨_, _, .type "tuple", _, false, rfl, .ty _, tyA, kit_ty k5, ⟨rfl, _, rfl, iteF' (no _) ?_⟩⟩⟩⟩⟩
  refine ⟨_, rfl, a, xs, rfl, hA, _, rfl, b, xs, rfl, hB, rfl, _, rfl, iteF' (no _) ?_⟩
  refine ⟨_, rfl, b, xs, rfl, hB, _, rfl, by omega, by omega, for_range (lo := 0) (n := ((xs.length : Nat) : Int).toNat) (fun i σ H' => ∃ z, σ = [some (.ref a), some (.ref b), z] ∧ H' = H) ⟨none, rfl, rfl⟩ ?_ ?_⟩
  · rintro i σ H' hi ⟨z, rfl, rfl⟩
    have h1 : i < xs.length := by omega
    have h2 : i < xs.length := by omega
    have e0 : (0 : Int) + (i : Int) = (i : Int) := Int.zero_add _
    have g1 : xs[i]? = some xs[i] := List.getElem?_eq_getElem h2
    have g2 : xs[i]? = some xs[i] := List.getElem?_eq_getElem h1
    refine ⟨_, rfl, _, rfl, ?_⟩
    have step : ∀ {c : Addr} {zs : List V} {z : V} {R : VK}, (SqL K H' c zs ∨ SqT K H' c zs) → zs[i]? = some z → R z H' → rIx K (.ref c) (.int ((0 : Int) + (i : Int))) H' R := fun {c zs z R} hc hz r => by
      rw [e0]
      rcases hc with hc | hc
      · exact .inl ⟨c, zs, i, z, rfl, rfl, hc, atI_nat hz, r⟩
      · exact .inr (.inl ⟨c, zs, i, z, rfl, rfl, hc, atI_nat hz, r⟩)
    refine step hA g1 ⟨_, rfl, _, rfl, step hB g2 ?_⟩
    refine ⟨_, _, rfl, SP i _ g1, _, rfl, iteF' rfl ?_⟩
    exact ⟨_, rfl, rfl⟩
  · rintro σ H' ⟨z, rfl, rfl⟩
    exact q
end
end VL

set_option maxHeartbeats 8000000
namespace VL
open PySem PySem.Spec PyProof.Rows L2
open C8 (Cal pe_c Met pe_mt)
theorem passN0 {X : Cx} : ∀ σ : L2.St, PassesAt (L2N.CX X.prog X.w) X σ (fun _ _ _ => False) := by
  rintro σ pins H s e s' I ⟨_, _, _, _, _, _, _, _, _, _, _, _, z⟩
  exact z.elim
def spLaw (K : PySem.W.Frag) : Sp := fun vs H Q _ => ∃ (a : Addr) (ns : List Int), vs = [.ref a] ∧ SqL K H a (ns.map V.int) ∧ ns.length ≤ 63 ∧ ∀ G, Q (.bl true) G
theorem mk_catR {C : Addr} {H : Hp} {ns : List Str} {R : Addr → Hp → Prop} {E : XK} (g : Good ns) (q : ∀ a G, H a = none → Same H G → CatZ C G a ns → R a G) (x dx : Addr) (nx : H x = none) (nd : H dx = none) (ne : dx ≠ x) :
    spC C (V.ref x :: ns.map V.str) (upd (upd H dx (.own x)) x (.ins C dx [])) (fun v G => v = .non ∧ R x G) E :=
  mk_cat (Q := fun v G => match v with | .ref a => R a G | _ => False) g q x dx nx nd ne
theorem one_eq {ns : List Str} (h : 0 < ns.length) : decide ([ns[0]] = ns) = decide (ns.length = 1) := by
  match ns, h with
  | [a], _ => rw [decide_eq_true (show [[a][0]] = [a] from rfl), decide_eq_true (show [a].length = 1 from rfl)]
  | a :: b :: r, _ =>
    rw [decide_eq_false (show ¬ (a :: b :: r).length = 1 by simp only [List.length_cons]; omega)]
    refine decide_eq_false fun e => ?_
    have := congrArg List.length e
    simp at this
section
variable {P : Program} {w : World} {K : PySem.W.Frag} {mg : Str → Option Value} {base : Heap} {u : Cs}
abbrev slaw : Stmt := top 20
theorem sclaw : FnScope ["_law_script", "_law_box_here", "_law_count", "_law_names_here", "_law_word_here", "_law_catalog_here", "_law_k", "_law_odd", "_law_short", "_law_turned", "_law_equal"] ["_law_script"] (defScope slaw) := ⟨rfl, rfl, rfl, by decide +kernel, rfl, by decide +kernel, by decide +kernel⟩
theorem ok_law {fI f fX UM : Addr} {uM : Value} {fd fdX : FuncData} (F : Fun K "law" "law" slaw f fd) (T : Tx mg u) (CF : CatF K u.C fI uM) (GI : FnR P w K mg base CX0 3 fI (spC u.C)) (hno : PySem.W.subIn K (.type "tuple") (.ref u.C) = some false)
    (cLbox : Cal P w K mg base 1 "_law_box" (spBox K) []) (cLtake : Cal P w K mg base 1 "_law_take" spTake []) (cLword : Cal P w K mg base 2 "_law_word" spWord []) (cLnames : Cal P w K mg base 3 "_law_names" spNames []) (cLcatalog : Cal P w K mg base 5 "_law_catalog" (spCatalog u.C) [])
    (cLsame : Cal P w K mg base 1 "_law_same" (spSame 1) []) (cLsameP : Cal P w K mg base 2 "_law_same" spSameP []) (cLunknown : Cal P w K mg base 5 "_law_unknown" (spUnknown u.C) [])
    (cLen : Met P w K mg base 1 u.C "__len__" (spLen u.C) []) (cIn : Met P w K mg base 1 u.C "__contains__" (spIn u.C) []) (cEq : Met P w K mg base 1 u.C "__eq__" (spEqC u.C) [])
    (MX : Meth K u.C "index_of" fX) (FX : FnOk P w K mg base (L2N.CX P w) 4 fX fdX ["self", "name"] (spIdx u.C UM)) (bX : Binds K fdX ["self", "name"] []) :
    FnOk P w K mg base CX0 6 f fd ["_law_script"] (spLaw K) := by
  refine F.ok sclaw (fun vs H Q E h => ?_) (fun cdv A outer s H vs Q E hr h => ?_)
  · obtain ⟨a, ns, rfl, _⟩ := h
    rfl
  obtain ⟨a0, ns0, rfl, hS, h63, q⟩ := h
  refine ⟨_, (pss_cons (ps_set (i := 1) sclaw.nd rfl (Or.inl rfl) (pe_c cLbox hr (by decide) rfl (pa_cons (pv 0) pa_nil)))
  (pss_cons (ps_set (i := 2) sclaw.nd rfl (Or.inr rfl) (pe_ix ix_list (pe_lst (pa_cons pe_int (pa_cons pe_int (pa_cons pe_int (pa_cons pe_int pa_nil))))) (pe_c cLtake hr (by decide) rfl (pa_cons (pv 1) (pa_cons pe_int pa_nil))) (fun _ _ => rfl)))
  (pss_cons (ps_set (i := 3) sclaw.nd rfl (Or.inr rfl) (pe_c cLnames hr (by decide) rfl (pa_cons (pv 1) (pa_cons (pv 2) pa_nil))))
  (pss_cons (ps_set (i := 4) sclaw.nd rfl (Or.inl rfl) (pe_op op_add_str pe_str (pe_c cLword hr (by decide) rfl (pa_cons (pv 1) (pa_cons pe_int pa_nil)))))
  (pss_cons (ps_set (i := 5) sclaw.nd rfl (Or.inl rfl) (pe_c cLcatalog hr (by decide) rfl (pa_cons (pe_callTy call_list_of (by rfl) T.list (by decide +kernel) (pa_cons (pv 3) pa_nil)) pa_nil)))
  (pss_cons (ps_if (PW.pt (pw_or (pt_not (pt_val (pe_c cLsameP hr (by decide) rfl (pa_cons (pe_fld (pv 5) rfl) (pa_cons (pe_callTy call_tuple_of (by rfl) T.tuple (by decide +kernel) (pa_cons (pv 3) pa_nil)) pa_nil))))) (pw_or1 (pt_not (pt_val (pe_c cLsame hr (by decide) rfl (pa_cons (pe_callB (call_lenO cLen hr (by decide)) (by rfl) T.len PySem.boot_len (pa_cons (pv 5) pa_nil)) (pa_cons (pv 2) pa_nil))))))))
    (pss_one (ps_ret pe_bl))
    pss_nil)
  (pss_cons (ps_for PassesOwn.never rfl (pi_range1 rfl T.range (pa_cons (pv 2) pa_nil)) (pg_name (i := 6) sclaw.nd rfl (Or.inl rfl))
    (pss_one (ps_if (PW.pt (pw_or (pt_cmpR op_notBl (pe_cmpR (op_inO cIn hr (by decide)) (pe_ix ix_list (pv 3) (pv 6) (fun _ _ => rfl)) (pv 5) rfl) pe_bl (nomark _)) (pw_or1 (pt_not (pt_val (pe_c cLsame hr (by decide) rfl (pa_cons (pe_methKw (E := fun _ _ _ _ => False) (pv 5) CF.cl MX (fn_rk0 FX bX) (hr.mono (by decide)) passN0 (pa_cons (pe_ix ix_list (pv 3) (pv 6) (fun _ _ => rfl)) pa_nil) pk_nil) (pa_cons (pv 6) pa_nil))))))))
      (pss_one (ps_ret pe_bl))
      pss_nil)))
  (C8.pss_cut (ps_if (pt_cmpR op_notIn_seq (pv 4) (pv 3) rfl)
    (pss_one (ps_if (PW.pt (pw_or (pt_cmpR op_notBl (pe_cmpR (op_inO cIn hr (by decide)) (pv 4) (pv 5) rfl) pe_bl (nomark _)) (pw_or1 (pt_not (pt_val (pe_c cLunknown hr (by decide) rfl (pa_cons (pv 5) (pa_cons (pv 4) pa_nil))))))))
      (pss_one (ps_ret pe_bl))
      pss_nil))
    pss_nil)
  (pss_cons (ps_for PassesOwn.never rfl (pi_list (pe_lst (pa_cons pe_str (pa_cons (pe_upper (pe_ix ix_list (pv 3) pe_int (fun _ _ => rfl))) (pa_cons (pe_op op_add_str pe_str (pe_ix ix_list (pv 3) pe_int (fun _ _ => rfl))) pa_nil))))) (pg_name (i := 7) sclaw.nd rfl (Or.inl rfl))
    (pss_one (ps_if (PW.pt (pw_or (pt_cmpR op_notBl (pe_cmpR (op_inO cIn hr (by decide)) (pv 7) (pv 5) rfl) pe_bl (nomark _)) (pw_or1 (pt_not (pt_val (pe_c cLunknown hr (by decide) rfl (pa_cons (pv 5) (pa_cons (pv 7) pa_nil))))))))
      (pss_one (ps_ret pe_bl))
      pss_nil)))
  (pss_cons (ps_set (i := 8) sclaw.nd rfl (Or.inl rfl) (StX.pe_makeR CF.mk0 GI (hr.mono (by decide)) rfl T.mCatalog pass0 (pa_cons (pe_ix ix_list (pv 3) pe_int (fun _ _ => rfl)) pa_nil)))
  (pss_cons (ps_if (PW.pt (pw_or (pt_not (pt_val (pe_c cLsame hr (by decide) rfl (pa_cons (pe_cmpR (op_eqO cEq hr (by decide)) (pv 8) (pv 5) (nomark _)) (pa_cons (pe_cmpR op_eq (pv 2) pe_int (nomark _)) pa_nil))))) (pw_or1 (pt_not (pt_val (pe_c cLsame hr (by decide) rfl (pa_cons (pe_cmpR (op_eqO cEq hr (by decide)) (pv 5) (pv 8) (nomark _)) (pa_cons (pe_cmpR op_eq (pv 2) pe_int (nomark _)) pa_nil))))))))
    (pss_one (ps_ret pe_bl))
    pss_nil)
  (pss_cons (ps_setLc (i := 9) (own := [("_law_k", 6)]) (g := gName 6) (tt := tYes) rfl sclaw.nd rfl rfl (sw_true rfl rfl rfl (by decide +kernel)) (pi_range1 rfl T.range (pa_cons (pv 2) pa_nil)) (blkOk_by (N := ["_law_script", "_law_box_here", "_law_count", "_law_names_here", "_law_word_here", "_law_catalog_here", "_law_k", "_law_odd", "_law_short", "_law_turned", "_law_equal"]) (sc := defScope slaw) (by decide +kernel)) (fun _ _ _ _ _ => pg_name (i := 6) sclaw.nd rfl (Or.inl rfl)) (fun _ _ _ _ _ => pts_nil) (fun _ _ _ _ _ => (pe_ix (ix_listK K) (pv 3) (pe_op op_sub (pe_op op_sub (pv 2) pe_int) (pv 6)) (fun _ _ => rfl))))
  (pss_cons (ps_if (PW.pt (pw_or (pt_cmpR op_notBl (pe_cmpR (op_eqO cEq hr (by decide)) (pv 5) (pe_c cLcatalog hr (by decide) rfl (pa_cons (pe_callTy call_list_of (by rfl) T.list (by decide +kernel) (pa_cons (pv 3) pa_nil)) pa_nil)) (nomark _)) pe_bl (nomark _)) (pw_or1 (pt_cmpR op_notBl (pe_cmpR (op_eqO cEq hr (by decide)) (pv 5) (pe_callTy call_tuple_of (by rfl) T.tuple (by decide +kernel) (pa_cons (pv 3) pa_nil)) (nomark _)) pe_bl (nomark _)))))
    (pss_one (ps_ret pe_bl))
    pss_nil)
  (pss_cons (ps_set (i := 10) sclaw.nd rfl (Or.inl rfl) (pe_cmpR (op_eqO cEq hr (by decide)) (pv 5) (pe_c cLcatalog hr (by decide) rfl (pa_cons (pv 9) pa_nil)) (nomark _)))
  (pss_one (ps_ret (pe_c cLsame hr (by decide) rfl (pa_cons (pv 10) (pa_cons (pe_cmpR op_eq (pv 2) pe_int (nomark _)) pa_nil))))))))))))))))))), ?_⟩
  refine ⟨_, rfl, a0, ns0, rfl, hS, h63, fun b L H1 _ _ _ B1 => ?_⟩
  refine ⟨by show 4 ≤ sizeLine; decide, fun D nD => ?_⟩
  have sD := same_upd (o := .lst [.int 3, .int 1, .int 2, .int 8]) nD
  have eD : (upd H1 D (.lst [.int 3, .int 1, .int 2, .int 8])) D = some (.lst [.int 3, .int 1, .int 2, .int 8]) := upd_same
  obtain ⟨Db, DL⟩ := B1.new nD
  have B2 := B1.same sD
  refine ⟨_, rfl, b, L, 4, rfl, by decide, by decide, B2, fun v o v0 v1 B3 ho => ?_⟩
  have eD2 := Eq.trans (upd_ne (o := o) Db) eD
  obtain ⟨n, hn, hod⟩ : ∃ n : Nat, (n = 1 ∨ n = 2 ∨ n = 3 ∨ n = 8) ∧ atI [V.int 3, .int 1, .int 2, .int 8] v = some (.int n) := by
    have hv : v = 0 ∨ v = 1 ∨ v = 2 ∨ v = 3 := by omega
    rcases hv with rfl | rfl | rfl | rfl
    · exact ⟨3, by decide, rfl⟩
    · exact ⟨1, by decide, rfl⟩
    · exact ⟨2, by decide, rfl⟩
    · exact ⟨8, by decide, rfl⟩
  refine ⟨D, _, v, .int n, rfl, rfl, SqL.of eD2, hod, ?_⟩
  generalize upd (upd H1 D (.lst [.int 3, .int 1, .int 2, .int 8])) b o = H3 at B3 ⊢
  refine ⟨_, rfl, _, rfl, b, L, n, rfl, by omega, B3, fun l s css H4 hlen hnm sb B4 lb lL nl el => ?_⟩
  rw [nmz_vals] at el
  have n1 : 1 ≤ css.length := by omega
  have n8 : css.length ≤ 8 := by omega
  have good := hnm.good n1 n8
  have nd := nmz_nodup (hnm.nodup n8)
  have okz := hnm.okz
  have hlz : (nmz css).length = n := by rw [nmz_len]; exact hlen
  refine ⟨_, rfl, b, L, 6, rfl, by decide, by decide, B4, fun cs H5 hcl hcs sb2 B5 => ?_⟩
  have el := sb2 _ _ lb el
  refine ⟨_, _, rfl, rfl, ?_, ?_⟩
  · show ("a" : Str).length + (tx cs).length ≤ sizeLine
    rw [tx_len]
    show 1 + cs.length ≤ 16777216
    omega
  refine ⟨_, rfl, l, _, rfl, .inl (SqL.of el), fun m nm => ?_⟩
  have sm := same_upd (o := .lst ((nmz css).map V.str)) nm
  have hout : ∀ z : Str, (z.cps.toList = [] ∨ ∃ c ∈ z.cps.toList, c ∉ letters) → z ∉ nmz css := fun z h => hnm.out h
  have hup : ∀ z ∈ nmz css, ∃ c ∈ (Txt.upper z).cps.toList, c ∉ letters := fun z hz => by
    obtain ⟨xs, hx, rfl⟩ := List.mem_map.mp hz
    obtain ⟨h1, _, h2⟩ := hnm.len xs hx
    exact upper_out h1 h2
  refine ⟨m, nmz css, rfl, upd_same, by rw [hlz]; exact hn, good, fun c H7 nc s7 hC => ?_⟩
  have el := s7 _ _ (sm _ _ el)
  generalize nmz css = ns at *
  have n1 : 1 ≤ ns.length := by omega
  have n8 : ns.length ≤ 8 := by omega
  -- names, len
  have hC0 := hC
  obtain ⟨dx, tn, hc, htn⟩ := hC0
  refine ⟨_, rfl, c, u.C, dx, _, .ref tn, rfl, hc, CF.cl, CF.nN, rfl, _, rfl, l, _, rfl, .inl ⟨SqL.of el, fun t nt => ?_⟩⟩
  have st := same_upd (o := .tup (ns.map V.str)) nt
  have hC := hC.same st
  have el := st _ _ el
  have flat : ∀ y ∈ ns.map V.str, flt y = true := fun y hy => by
    obtain ⟨z, _, rfl⟩ := List.mem_map.mp hy
    rfl
  have small : (ns.map V.str).length ≤ 100000 := by rw [List.length_map]; omega
  refine ⟨tn, t, _, rfl, htn.same st, upd_same, small, flat, ?_⟩
  generalize upd H7 t (.tup (ns.map V.str)) = H8 at hC el ⊢
  subst hlz
  have hC0 := hC
  obtain ⟨dx, tn, hc, htn⟩ := hC0
  refine ⟨_, rfl, iteF' rfl ⟨_, rfl, c, dx, _, rfl, hc, c, ns, rfl, hC, _, rfl, by omega, by omega, _, rfl, _, _, rfl, Sm.flat rfl, _, rfl, iteF' rfl ?_⟩⟩
  -- each name
  refine ⟨_, rfl, _, rfl, by omega, by omega, for_range (lo := 0) (n := ((ns.length : Nat) : Int).toNat) (fun i σ G => ∃ y, σ = [some (.ref a0), some (.ref b), some (.int (ns.length : Int)), some (.ref l), some (.str ("a" ++ tx cs)), some (.ref c), y, none, none, none, none] ∧ Same H8 G) ⟨none, rfl, Same.refl _⟩ ?_ ?_⟩
  · rintro i σ G hi ⟨y, rfl, sg⟩
    have hi2 : i < ns.length := by omega
    have ez : ns[i]? = some ns[i] := List.getElem?_eq_getElem hi2
    have ev : (ns.map V.str)[i]? = some (V.str ns[i]) := by rw [List.getElem?_map, ez]; rfl
    have at_ : atI (ns.map V.str) ((0 : Int) + (i : Int)) = some (.str ns[i]) := by rw [Int.zero_add]; exact atI_nat ev
    have hm : ns[i] ∈ ns := List.getElem_mem hi2
    have hcG := sg _ _ hc
    have hCG := hC.same sg
    have elG := sg _ _ el
    refine ⟨_, rfl, _, rfl, l, _, _, _, rfl, rfl, SqL.of elG, at_, _, rfl, c, dx, _, rfl, hcG, c, ns, ns[i], rfl, hCG, _, rfl, ?_⟩
    rw [decide_eq_true hm]
    refine ⟨_, _, rfl, rfl, _, rfl, iteF' rfl ?_⟩
    refine ⟨_, rfl, c, dx, _, rfl, hcG, rfl, _, rfl, _, rfl, l, _, _, _, rfl, rfl, SqL.of elG, at_, rfl, c, ns, ns[i], rfl, hCG, fun j h1 h2 => ?_, fun h => absurd hm h⟩
    have ej : j = i := by
      rcases Nat.lt_trichotomy i j with h | h | h
      · exact absurd ez (h2 i h)
      · exact h.symm
      · exfalso
        have hj : j < ns.length := by omega
        have e1 : ns[j] = ns[i] := by
          have := List.getElem?_eq_getElem hj
          rw [h1] at this
          exact (Option.some.inj this).symm
        exact (List.pairwise_iff_getElem.mp nd j i hj hi2 h) e1
    subst ej
    exact ⟨_, rfl, _, _, rfl, by rw [Int.zero_add]; exact Sm.flat rfl, _, rfl, iteF' rfl ⟨_, rfl, sg⟩⟩
  rintro σ G ⟨y, rfl, sg⟩
  have hcG := sg _ _ hc
  have hC := hC.same sg
  have el := sg _ _ el
  have hcz : ∀ {X : Hp}, Same G X → X c = some (.ins u.C dx [("names", .ref tn)]) := fun sx => sx _ _ hcG
  refine ⟨fun σ X => σ = [some (.ref a0), some (.ref b), some (.int (ns.length : Int)), some (.ref l), some (.str ("a" ++ tx cs)), some (.ref c), y, none, none, none, none] ∧ Same G X, ?_, ?_⟩
  · refine ⟨_, rfl, _, rfl, l, _, rfl, .inl (SqL.of el), rfl, flat_strs ns, ?_⟩
    rw [if_pos rfl, inV_strs]
    by_cases hz : ("a" ++ tx cs : Str) ∈ ns
    · exact ⟨_, rfl, iteF' (by rw [decide_eq_true hz]; rfl) ⟨rfl, Same.refl _⟩⟩
    · refine ⟨_, rfl, iteT' (by rw [decide_eq_false hz]; rfl) ?_⟩
      refine ⟨_, rfl, _, rfl, c, dx, _, rfl, hcG, c, ns, _, rfl, hC, _, rfl, ?_⟩
      rw [decide_eq_false hz]
      refine ⟨_, _, rfl, rfl, _, rfl, iteF' rfl ?_⟩
      exact ⟨_, rfl, _, rfl, c, ns, _, rfl, hC, hz, fun X sx => ⟨_, rfl, iteF' rfl ⟨rfl, sx⟩⟩⟩
  rintro σ G2 ⟨rfl, s2⟩
  have hcG := s2 _ _ hcG
  have hC := hC.same s2
  have el := s2 _ _ el
  -- the odd ones
  have hl0 : 0 < ns.length := n1
  have e0 : ns[0]? = some ns[0] := List.getElem?_eq_getElem hl0
  have at0 : atI (ns.map V.str) 0 = some (.str ns[0]) := atI_nat (j := 0) (by rw [List.getElem?_map, e0]; rfl)
  have lz : ns[0].length ≤ 100000 := good.2.2.2 _ (List.getElem_mem hl0)
  refine ⟨_, rfl, l, _, _, _, rfl, rfl, SqL.of el, at0, ⟨_, rfl⟩, _, rfl, rfl, by omega, _, rfl, l, _, _, _, rfl, rfl, SqL.of el, at0, _, _, rfl, rfl, ?_, ?_⟩
  · show (" " : Str).length + ns[0].length ≤ sizeLine
    show 1 + ns[0].length ≤ 16777216
    omega
  refine ⟨by show 3 ≤ sizeLine; decide, fun O nO => ?_⟩
  have sO := same_upd (o := .lst [.str "", .str (Txt.upper ns[0]), .str (" " ++ ns[0])]) nO
  have eO : (upd G2 O (.lst [.str "", .str (Txt.upper ns[0]), .str (" " ++ ns[0])])) O = some (.lst [.str "", .str (Txt.upper ns[0]), .str (" " ++ ns[0])]) := upd_same
  have hcG := sO _ _ hcG
  have hC := hC.same sO
  have el := sO _ _ el
  have odd : ∀ x ∈ [V.str "", .str (Txt.upper ns[0]), .str (" " ++ ns[0])], ∃ z, x = V.str z ∧ z ∉ ns := fun x hx => by
    simp only [List.mem_cons, List.not_mem_nil, or_false] at hx
    rcases hx with rfl | rfl | rfl
    · exact ⟨_, rfl, hout _ (.inl rfl)⟩
    · exact ⟨_, rfl, hout _ (.inr (hup _ (List.getElem_mem hl0)))⟩
    · exact ⟨_, rfl, hout _ (.inr (space_out _))⟩
  generalize upd G2 O (.lst [.str "", .str (Txt.upper ns[0]), .str (" " ++ ns[0])]) = G3 at hcG hC el eO ⊢
  generalize [V.str "", .str (Txt.upper ns[0]), .str (" " ++ ns[0])] = os at odd eO ⊢
  refine ⟨O, rfl, ⟨_, SqL.of eO⟩, for_list (xs := os) (fun i σ X => ∃ y7, σ = [some (.ref a0), some (.ref b), some (.int (ns.length : Int)), some (.ref l), some (.str ("a" ++ tx cs)), some (.ref c), y, y7, none, none, none] ∧ Same G3 X) ⟨none, rfl, Same.refl _⟩ (fun i σ X _ p => ?_) ?_ ?_⟩
  · obtain ⟨_, _, sx⟩ := p
    exact SqL.of (sx _ _ eO)
  · rintro i x σ X hx ⟨y7, rfl, sx⟩
    obtain ⟨z, rfl, hz⟩ := odd x (List.mem_of_getElem? hx)
    have hCX := hC.same sx
    refine ⟨_, rfl, _, rfl, c, dx, _, rfl, sx _ _ hcG, c, ns, z, rfl, hCX, _, rfl, ?_⟩
    rw [decide_eq_false hz]
    refine ⟨_, _, rfl, rfl, _, rfl, iteF' rfl ?_⟩
    exact ⟨_, rfl, _, rfl, c, ns, z, rfl, hCX, hz, fun Y sy => ⟨_, rfl, iteF' rfl ⟨_, rfl, sx.trans sy⟩⟩⟩
  rintro σ X ⟨y7, rfl, sx⟩
  have hcG := sx _ _ hcG
  have hC := hC.same sx
  have el := sx _ _ el
  -- a shorter one
  refine ⟨_, rfl, l, _, _, _, rfl, rfl, SqL.of el, at0, mk_catR (ns := [ns[0]]) (good.one (List.getElem_mem hl0)) fun c2 X2 nc2 sx2 hC2 => ?_⟩
  have hcG := sx2 _ _ hcG
  have hC := hC.same sx2
  have el := sx2 _ _ el
  have hC20 := hC2
  obtain ⟨dy, ty, hc2, hty⟩ := hC20
  have okz1 : ∀ z ∈ [ns[0]], PyData.strOk z = true := fun z hz => by rw [List.mem_singleton.mp hz]; exact okz _ (List.getElem_mem hl0)
  have hcnt : decide (V.int (ns.length : Int) = V.int 1) = decide (ns.length = 1) := by
    by_cases h : ns.length = 1
    · rw [decide_eq_true h, h]
      rfl
    · rw [decide_eq_false h]
      exact decide_eq_false fun e => h (by have := V.int.inj e; omega)
  have one1 : decide ([ns[0]] = ns) = decide (ns.length = 1) := one_eq hl0
  have one2 : decide (ns = [ns[0]]) = decide (ns.length = 1) := by rw [← one1]; exact decide_eq_decide.mpr ⟨Eq.symm, Eq.symm⟩
  refine ⟨_, rfl, _, rfl, c2, dy, _, rfl, hc2, .inl ⟨c, dx, _, rfl, hcG⟩, c2, [ns[0]], .ref c, rfl, hC2, by show 1 ≤ 8; decide, okz1, .inl ⟨c, ns, rfl, hC, n8, okz, _, rfl, _, rfl, rfl, _, _, rfl, ?_, _, rfl, iteF' rfl ?_⟩⟩
  · rw [hcnt, one1]
    exact Sm.flat rfl
  refine ⟨_, rfl, _, rfl, c, dx, _, rfl, hcG, .inl ⟨c2, dy, _, rfl, hc2⟩, c, ns, .ref c2, rfl, hC, n8, okz, .inl ⟨c2, [ns[0]], rfl, hC2, by show 1 ≤ 8; decide, okz1, _, rfl, _, rfl, rfl, _, _, rfl, ?_, _, rfl, iteF' rfl ?_⟩⟩
  · rw [hcnt, one2]
    exact Sm.flat rfl
  -- the names turned
  refine ⟨_, rfl, _, rfl, by omega, by omega, fun R nR => ?_⟩
  refine lp_it walk_rg (fun i Y => Same X2 Y ∧ Y R = some (.lst ((ns.reverse.take i).map V.str))) ⟨same_upd nR, upd_same⟩ (fun _ _ _ _ => trivial) ?_ ?_
  · rintro i v Y0 Y hi ⟨sy, eR⟩ ⟨rfl, rfl⟩
    have hi2 : i < ns.length := by omega
    have e1 : ns.reverse[i]? = ns[ns.length - 1 - i]? := List.getElem?_reverse hi2
    have hk : ns.length - 1 - i < ns.length := by omega
    have e2 : ns[ns.length - 1 - i]? = some ns[ns.length - 1 - i] := List.getElem?_eq_getElem hk
    have at_ : atI (ns.map V.str) ((ns.length : Int) - 1 - (i : Int)) = some (.str ns[ns.length - 1 - i]) := by
      have e3 : (ns.length : Int) - 1 - (i : Int) = ((ns.length - 1 - i : Nat) : Int) := by omega
      rw [e3]
      exact atI_nat (by rw [List.getElem?_map, e2]; rfl)
    refine ⟨rfl, ?_⟩
    refine ⟨_, rfl, _, rfl, _, _, rfl, rfl, _, rfl, _, _, rfl, rfl, l, _, _, _, rfl, rfl, SqL.of (sy _ _ el), at_, _, eR, ?_, fun a o ea => ?_, ?_⟩
    · rw [List.length_map, List.length_take, List.length_reverse]
      exact small1000 (by omega)
    · rw [upd_ne (ne_of_none ea nR)]
      exact sy a o ea
    · rw [upd_same, List.take_add_one, e1, e2, List.map_append]
      rfl
  rintro Y ⟨sy, eR⟩
  have full : ns.reverse.take ns.length = ns.reverse := List.take_of_length_le (by rw [List.length_reverse]; exact Nat.le_refl _)
  rw [show ((ns.length : Nat) : Int).toNat = ns.length from rfl, full] at eR
  have hcG := sy _ _ hcG
  have hC := hC.same sy
  have el := sy _ _ el
  -- another of the same names, and the tuple of the names
  refine ⟨_, rfl, _, rfl, l, _, rfl, .inl (SqL.of el), fun m2 nm2 => ?_⟩
  have sm2 := same_upd (o := .lst (ns.map V.str)) nm2
  refine ⟨m2, ns, rfl, upd_same, hn, good, fun c3 Z nc3 s3 hC3 => ?_⟩
  have s4 := sm2.trans s3
  have hcG := s4 _ _ hcG
  have hC := hC.same s4
  have el := s4 _ _ el
  have eR := s4 _ _ eR
  have hC30 := hC3
  obtain ⟨dz, tz, hc3, htz⟩ := hC30
  refine ⟨c, dx, _, rfl, hcG, .inl ⟨c3, dz, _, rfl, hc3⟩, c, ns, .ref c3, rfl, hC, n8, okz, .inl ⟨c3, ns, rfl, hC3, n8, okz, _, rfl, ?_⟩⟩
  rw [decide_eq_true (show ns = ns from rfl)]
  refine ⟨_, _, rfl, rfl, _, rfl, iteF' rfl ?_⟩
  refine ⟨_, rfl, _, rfl, l, _, rfl, .inl ⟨SqL.of el, fun t2 nt2 => ?_⟩⟩
  have st2 := same_upd (o := .tup (ns.map V.str)) nt2
  have et2 : (upd Z t2 (.tup (ns.map V.str))) t2 = some (.tup (ns.map V.str)) := upd_same
  have hcG := st2 _ _ hcG
  have hC := hC.same st2
  have eR := st2 _ _ eR
  generalize upd Z t2 (.tup (ns.map V.str)) = Z2 at hcG hC eR et2 ⊢
  refine ⟨c, dx, _, rfl, hcG, .inr ⟨t2, _, rfl, et2, hno⟩, c, ns, .ref t2, rfl, hC, n8, okz, .inr ⟨t2, _, rfl, et2, _, rfl, _, _, rfl, rfl, _, rfl, iteF' rfl ?_⟩⟩
  -- and the turned ones
  have hn' : ns.reverse.length = 1 ∨ ns.reverse.length = 2 ∨ ns.reverse.length = 3 ∨ ns.reverse.length = 8 := by rw [List.length_reverse]; exact hn
  refine ⟨_, rfl, _, rfl, R, ns.reverse, rfl, eR, hn', good.rev, fun c4 Z4 nc4 s4 hC4 => ?_⟩
  have hcG := s4 _ _ hcG
  have hC := hC.same s4
  have hC40 := hC4
  obtain ⟨dw, tw, hc4, htw⟩ := hC40
  refine ⟨c, dx, _, rfl, hcG, .inl ⟨c4, dw, _, rfl, hc4⟩, c, ns, .ref c4, rfl, hC, n8, okz, .inl ⟨c4, ns.reverse, rfl, hC4, by rw [List.length_reverse]; exact n8, fun z hz => okz z (List.mem_reverse.mp hz), _, rfl, ?_⟩⟩
  refine ⟨_, rfl, _, rfl, rfl, _, _, rfl, ?_, q _⟩
  rw [hcnt, rev_eq nd n1]
  exact Sm.flat rfl
end
end VL

namespace VL
open PySem PySem.Spec PyProof.Rows L2
open C8 (Cal pe_c Met pe_mt)
open NdefX (nscope_by)
abbrev sXinit : Stmt := inClass (top 4) 0
theorem excC_of {K : PySem.W.Frag} {C N SE : Addr} {nm q : Str} {bs : List Value} {sn : List Str} {sub : List Value} {ab : Bool} {col : Option Bool} {dd : Option Addr} {k0 k1 k2 k3 k5 : Option Value}
    (x : K.lookup C = some (excClassObj nm q C N bs [.ref SE, .type "ValueError", .type "Exception", .type "BaseException", .type "object"] true sn sub ab col dd k0 k1 k2 k3 k5 "ValueError.__new__")) (sa : PySem.W.findIn K (.ref C) "__setattr__" = some (some (.builtin "object.__setattr__"))) (eC : PySem.W.subIn K (.ref C) (.type "BaseException") = some true) (tC : PySem.W.typeIn K (.ref C) = some (.type "type")) (kC : PySem.W.keepIn K (.ref C) = true) : OexC K C :=
  ⟨⟨nm, q, N, bs, _, sn, sub, ab, col, dd, k0, k1, k2, k3, k5, x, rfl⟩, sa, eC, tC, kC⟩
theorem all_mk {l : PySem.W.OpenLaw} {w : World} {K : PySem.W.Frag} {h : Heap} {mg : Str → Option Value} {fa C f1 f3 f4 f5 f2 f7 f8 f6 f9 f10 fI fQ fH fE fD : Addr} {uM uLETTERS uLONGEST_NAME : Value} (X : K.In h) (G : h.Ns mainGlobals mg) (hfa : mg "law" = some (.ref fa))
    {od1 an1 od3 an3 od4 an4 od5 an5 od2 an2 od7 an7 od8 an8 od6 an6 od9 an9 od10 an10 odI anI odQ anQ odH anH odE anE odD anD : Option Addr} {sl1 sl3 sl4 sl5 sl2 sl7 sl8 sl6 sl9 sl10 slI slQ slH slE slD : Array (Option Value)} {oc1 kV1 dc1 pm1 cd1 ct1 oc3 kV3 dc3 pm3 cd3 ct3 oc4 kV4 dc4 pm4 cd4 ct4 oc5 kV5 dc5 pm5 cd5 ct5 oc2 kV2 dc2 pm2 cd2 ct2 oc7 kV7 dc7 pm7 cd7 ct7 oc8 kV8 dc8 pm8 cd8 ct8 oc6 kV6 dc6 pm6 cd6 ct6 oc9 kV9 dc9 pm9 cd9 ct9 oc10 kV10 dc10 pm10 cd10 ct10 ocI kVI dcI pmI cdI ctI ocQ kVQ dcQ pmQ cdQ ctQ ocH kVH dcH pmH cdH ctH ocE kVE dcE pmE cdE ctE ocD kVD dcD pmD cdD ctD : Value}
    {IB SE fX cc cda NX : Addr} {nmX qX file : Str} {bsX subX : List Value} {snX : List Str} {abX : Bool} {colX : Option Bool} {ddX odX anX cdd cld : Option Addr} {x0 x1 x2 x3 x5 : Option Value} {slX ccs csl : Array (Option Value)} {ocX kVX dcX pmX ctX ccl cl : Value} {cvs : Array Value} {tf : Tok}
    (a1 : PySem.W.nsIn K mainGlobals "is_name" = some (some (.ref f1))) (l1 : K.lookup f1 = some ⟨oc1, od1, .func (PySem.W.fnOf "is_name" "is_name" (defArgs sisname) (defBody sisname) (defScope sisname) .none kV1 dc1 pm1 an1 cd1 ct1), sl1⟩) (c1 : PySem.W.codeIn K cd1 "is_name" = true) (k1 : PySem.W.keepIn K (.ref f1) = true)
    (a3 : PySem.W.nsIn K mainGlobals "_are_different_names" = some (some (.ref f3))) (l3 : K.lookup f3 = some ⟨oc3, od3, .func (PySem.W.fnOf "_are_different_names" "_are_different_names" (defArgs saredifferentnames) (defBody saredifferentnames) (defScope saredifferentnames) .none kV3 dc3 pm3 an3 cd3 ct3), sl3⟩) (c3 : PySem.W.codeIn K cd3 "_are_different_names" = true) (k3 : PySem.W.keepIn K (.ref f3) = true)
    (a4 : PySem.W.nsIn K mainGlobals "_law_box" = some (some (.ref f4))) (l4 : K.lookup f4 = some ⟨oc4, od4, .func (PySem.W.fnOf "_law_box" "_law_box" (defArgs sLbox) (defBody sLbox) (defScope sLbox) .none kV4 dc4 pm4 an4 cd4 ct4), sl4⟩) (c4 : PySem.W.codeIn K cd4 "_law_box" = true) (k4 : PySem.W.keepIn K (.ref f4) = true)
    (a5 : PySem.W.nsIn K mainGlobals "_law_take" = some (some (.ref f5))) (l5 : K.lookup f5 = some ⟨oc5, od5, .func (PySem.W.fnOf "_law_take" "_law_take" (defArgs sLtake) (defBody sLtake) (defScope sLtake) .none kV5 dc5 pm5 an5 cd5 ct5), sl5⟩) (c5 : PySem.W.codeIn K cd5 "_law_take" = true) (k5 : PySem.W.keepIn K (.ref f5) = true)
    (a2 : PySem.W.nsIn K mainGlobals "_law_word" = some (some (.ref f2))) (l2 : K.lookup f2 = some ⟨oc2, od2, .func (PySem.W.fnOf "_law_word" "_law_word" (defArgs sLword) (defBody sLword) (defScope sLword) .none kV2 dc2 pm2 an2 cd2 ct2), sl2⟩) (c2 : PySem.W.codeIn K cd2 "_law_word" = true) (k2 : PySem.W.keepIn K (.ref f2) = true)
    (a7 : PySem.W.nsIn K mainGlobals "_law_names" = some (some (.ref f7))) (l7 : K.lookup f7 = some ⟨oc7, od7, .func (PySem.W.fnOf "_law_names" "_law_names" (defArgs sLnames) (defBody sLnames) (defScope sLnames) .none kV7 dc7 pm7 an7 cd7 ct7), sl7⟩) (c7 : PySem.W.codeIn K cd7 "_law_names" = true) (k7 : PySem.W.keepIn K (.ref f7) = true)
    (a8 : PySem.W.nsIn K mainGlobals "_law_catalog" = some (some (.ref f8))) (l8 : K.lookup f8 = some ⟨oc8, od8, .func (PySem.W.fnOf "_law_catalog" "_law_catalog" (defArgs sLcatalog) (defBody sLcatalog) (defScope sLcatalog) .none kV8 dc8 pm8 an8 cd8 ct8), sl8⟩) (c8 : PySem.W.codeIn K cd8 "_law_catalog" = true) (k8 : PySem.W.keepIn K (.ref f8) = true)
    (a6 : PySem.W.nsIn K mainGlobals "_law_same" = some (some (.ref f6))) (l6 : K.lookup f6 = some ⟨oc6, od6, .func (PySem.W.fnOf "_law_same" "_law_same" (defArgs sLsame) (defBody sLsame) (defScope sLsame) .none kV6 dc6 pm6 an6 cd6 ct6), sl6⟩) (c6 : PySem.W.codeIn K cd6 "_law_same" = true) (k6 : PySem.W.keepIn K (.ref f6) = true)
    (a9 : PySem.W.nsIn K mainGlobals "_law_unknown" = some (some (.ref f9))) (l9 : K.lookup f9 = some ⟨oc9, od9, .func (PySem.W.fnOf "_law_unknown" "_law_unknown" (defArgs sLunknown) (defBody sLunknown) (defScope sLunknown) .none kV9 dc9 pm9 an9 cd9 ct9), sl9⟩) (c9 : PySem.W.codeIn K cd9 "_law_unknown" = true) (k9 : PySem.W.keepIn K (.ref f9) = true)
    (a10 : PySem.W.nsIn K mainGlobals "law" = some (some (.ref f10))) (l10 : K.lookup f10 = some ⟨oc10, od10, .func (PySem.W.fnOf "law" "law" (defArgs slaw) (defBody slaw) (defScope slaw) .none kV10 dc10 pm10 an10 cd10 ct10), sl10⟩) (c10 : PySem.W.codeIn K cd10 "law" = true) (k10 : PySem.W.keepIn K (.ref f10) = true)
    (aC : PySem.W.nsIn K mainGlobals "Catalog" = some (some (.ref C)))
    (aI : PySem.W.findIn K (.ref C) "__init__" = some (some (.ref fI))) (iI : PySem.W.isFn K (.ref fI) = true) (lI : K.lookup fI = some ⟨ocI, odI, .func (PySem.W.fnOf "__init__" "Catalog.__init__" (defArgs sCataloginit) (defBody sCataloginit) (defScope sCataloginit) .none kVI dcI pmI anI cdI ctI), slI⟩) (cI : PySem.W.codeIn K cdI "Catalog.__init__" = true) (kI : PySem.W.keepIn K (.ref fI) = true)
    (aQ : PySem.W.findIn K (.ref C) "__len__" = some (some (.ref fQ))) (iQ : PySem.W.isFn K (.ref fQ) = true) (lQ : K.lookup fQ = some ⟨ocQ, odQ, .func (PySem.W.fnOf "__len__" "Catalog.__len__" (defArgs sCataloglen) (defBody sCataloglen) (defScope sCataloglen) .none kVQ dcQ pmQ anQ cdQ ctQ), slQ⟩) (cQ : PySem.W.codeIn K cdQ "Catalog.__len__" = true) (kQ : PySem.W.keepIn K (.ref fQ) = true)
    (aH : PySem.W.findIn K (.ref C) "__contains__" = some (some (.ref fH))) (iH : PySem.W.isFn K (.ref fH) = true) (lH : K.lookup fH = some ⟨ocH, odH, .func (PySem.W.fnOf "__contains__" "Catalog.__contains__" (defArgs sCatalogcontains) (defBody sCatalogcontains) (defScope sCatalogcontains) .none kVH dcH pmH anH cdH ctH), slH⟩) (cH : PySem.W.codeIn K cdH "Catalog.__contains__" = true) (kH : PySem.W.keepIn K (.ref fH) = true)
    (aE : PySem.W.findIn K (.ref C) "__eq__" = some (some (.ref fE))) (iE : PySem.W.isFn K (.ref fE) = true) (lE : K.lookup fE = some ⟨ocE, odE, .func (PySem.W.fnOf "__eq__" "Catalog.__eq__" (defArgs sCatalogeq) (defBody sCatalogeq) (defScope sCatalogeq) .none kVE dcE pmE anE cdE ctE), slE⟩) (cE : PySem.W.codeIn K cdE "Catalog.__eq__" = true) (kE : PySem.W.keepIn K (.ref fE) = true)
    (aD : PySem.W.findIn K (.ref C) "index_of" = some (some (.ref fD))) (iD : PySem.W.isFn K (.ref fD) = true) (lD : K.lookup fD = some ⟨ocD, odD, .func (PySem.W.fnOf "index_of" "Catalog.index_of" (defArgs sCatalogindexof) (defBody sCatalogindexof) (defScope sCatalogindexof) .none kVD dcD pmD anD cdD ctD), slD⟩) (cD : PySem.W.codeIn K cdD "Catalog.index_of" = true) (kD : PySem.W.keepIn K (.ref fD) = true)
    (pg : PySem.W.plainGet K C Str.empty = true)
    (hd : PySem.W.hasDictIn K C = true)
    (po : PySem.W.plainOver K C = true)
    (sa : PySem.W.findIn K (.ref C) "__setattr__" = some (some (.builtin "object.__setattr__")))
    (mk : PySem.W.makesIn K C = true)
    (kC : PySem.W.keepIn K (.ref C) = true)
    (nN : PySem.W.findIn K (.ref C) "names" = some none)
    (mM : PySem.W.findIn K (.ref C) "MOST" = some (some uM))
    (rM : RelV (.int 8) uM)
    (gM : PySem.W.specialIn K uM "__get__" = some none)
    (ca : PySem.W.findIn K (.ref C) "__class__" = some (some (.builtin "object.__class__")))
    (cn : PySem.W.specialIn K (.builtin "object.__class__") "__get__" = some (some (.builtin "getset_descriptor.__get__")))
    (ct : PySem.W.takesIn K (.builtin "object.__class__") = some true)
    (cm : PySem.W.mroIn K C (.type "object") = some true)
    (kCC : PySem.W.kitOne K (.ref C) (.ref C) = some true)
    (kTC : PySem.W.kitOne K (.type "tuple") (.ref C) = some false)
    (sTC : PySem.W.subIn K (.type "tuple") (.ref C) = some false)
    (aX : PySem.W.nsIn K mainGlobals "UnknownMark" = some (some (.ref IB)))
    (xX : K.lookup IB = some (excClassObj nmX qX IB NX bsX [.ref SE, .type "ValueError", .type "Exception", .type "BaseException", .type "object"] true snX subX abX colX ddX x0 x1 x2 x3 x5 "ValueError.__new__"))
    (saX : PySem.W.findIn K (.ref IB) "__setattr__" = some (some (.builtin "object.__setattr__")))
    (eX : PySem.W.subIn K (.ref IB) (.type "BaseException") = some true)
    (tyX : PySem.W.typeIn K (.ref IB) = some (.type "type"))
    (kX : PySem.W.keepIn K (.ref IB) = true)
    (iX : PySem.W.findIn K (.ref IB) "__init__" = some (some (.ref fX)))
    (tX : PySem.W.typeIn K (.ref fX) = some (.type "function"))
    (lX : K.lookup fX = some ⟨ocX, odX, .func (PySem.W.ksFn "__init__" "UnknownMark.__init__" (defArgs sXinit) (defBody sXinit) (defScope sXinit) .none kVX dcX pmX anX (.ref cda) ctX cc), slX⟩)
    (cX : PySem.W.codeIn K (.ref cda) "UnknownMark.__init__" = true)
    (supX : PySem.W.ks_superIn K IB IB "__init__" = some (some (.builtin "ValueError.__init__")))
    (svX : PySem.W.subIn K (.ref IB) (.type "ValueError") = some true)
    (slfX : PySem.W.mroIn K IB (.ref IB) = some true)
    (thX : PySem.W.nsIn K cStatics "thirdparty.any" = some none)
    (cdX : K.lookup cda = some ⟨ccl, cdd, .fields cvs, ccs⟩)
    (cvX : cvs[2]? = some (.str file tf))
    (fiX : ((l.prog.main.file : Str) == file) = true)
    (ceX : K.lookup cc = some ⟨cl, cld, .cell (some (.ref IB)), csl⟩)
    (zsuper : PySem.W.nsIn K mainGlobals "super" = some none)
    (tpX : (l.prog.main.scope.names.lookup ("super" : Str)).isSome = false)
    (nbX : PySem.W.findIn K (.ref IB) "name" = some none)
    (gaX : PySem.W.findIn K (.ref IB) "__getattribute__" = some (some (.builtin "BaseException.__getattribute__")))
    (ggX : PySem.W.findIn K (.ref IB) "__getattr__" = some none)
    (hdX : PySem.W.hasDictIn K IB = true)
    (ssX : PySem.W.subIn K (.ref IB) (.ref IB) = some true)
    (aS : PySem.W.nsIn K mainGlobals "ShelfError" = some (some (.ref SE)))
    (zValueError : PySem.W.nsIn K mainGlobals "ValueError" = some none)
    (haX : PySem.W.findIn K (.ref IB) "__class__" = some (some (.builtin "object.__class__")))
    (hmX : PySem.W.mroIn K IB (.type "object") = some true)
    (kXS : PySem.W.kitOne K (.ref IB) (.ref SE) = some true)
    (kXV : PySem.W.kitOne K (.ref IB) (.type "ValueError") = some true)
    (mLETTERS : PySem.W.nsIn K mainGlobals "LETTERS" = some (some uLETTERS)) (rLETTERS : RelV (.str "abcdefghijklmnopqrstuvwxyz") uLETTERS)
    (mLONGEST_NAME : PySem.W.nsIn K mainGlobals "LONGEST_NAME" = some (some uLONGEST_NAME)) (rLONGEST_NAME : RelV (.int 12) uLONGEST_NAME)
    (zlen : PySem.W.nsIn K mainGlobals "len" = some none) (zlist : PySem.W.nsIn K mainGlobals "list" = some none) (zint : PySem.W.nsIn K mainGlobals "int" = some none) (zisinstance : PySem.W.nsIn K mainGlobals "isinstance" = some none) (zbool : PySem.W.nsIn K mainGlobals "bool" = some none) (zstr : PySem.W.nsIn K mainGlobals "str" = some none) (ztuple : PySem.W.nsIn K mainGlobals "tuple" = some none) (zrange : PySem.W.nsIn K mainGlobals "range" = some none) (zall : PySem.W.nsIn K mainGlobals "all" = some none) (zset : PySem.W.nsIn K mainGlobals "set" = some none) :
    ∃ fd : FuncData, (∀ (s : Shared) (v : Value), BindsTo s fd ⟨[v], []⟩ [("_law_script", v)]) ∧ ∀ base : Heap, K.In base → base.Ns mainGlobals mg → FnOk l.prog w K mg base CX0 6 fa fd ["_law_script"] (spLaw K) := by
  have e := hfa.symm.trans (PySem.W.mg_of X G a10)
  cases e
  let u : Cs := ⟨uLETTERS, uLONGEST_NAME, C⟩
  have T : Tx mg u := ⟨PySem.W.mg_none_of X G zlen, PySem.W.mg_none_of X G zlist, PySem.W.mg_none_of X G zint, PySem.W.mg_none_of X G zisinstance, PySem.W.mg_none_of X G zbool, PySem.W.mg_none_of X G zstr, PySem.W.mg_none_of X G ztuple, PySem.W.mg_none_of X G zrange, PySem.W.mg_none_of X G zall, PySem.W.mg_none_of X G zset, PySem.W.mg_of X G mLETTERS, rLETTERS, PySem.W.mg_of X G mLONGEST_NAME, rLONGEST_NAME, PySem.W.mg_of X G aC, rfl⟩
  have F1 := fun_mk (st := sisname) l1 c1 k1
  have b1 := F1.binds (ps := ["value"]) fun _ _ _ _ _ _ us hl => match us, hl with | [_], _ => rfl
  have m1 := PySem.W.mg_of X G a1
  have F3 := fun_mk (st := saredifferentnames) l3 c3 k3
  have b3 := F3.binds (ps := ["values"]) fun _ _ _ _ _ _ us hl => match us, hl with | [_], _ => rfl
  have m3 := PySem.W.mg_of X G a3
  have F4 := fun_mk (st := sLbox) l4 c4 k4
  have b4 := F4.binds (ps := ["_law_script"]) fun _ _ _ _ _ _ us hl => match us, hl with | [_], _ => rfl
  have m4 := PySem.W.mg_of X G a4
  have F5 := fun_mk (st := sLtake) l5 c5 k5
  have b5 := F5.binds (ps := ["_law_box_here", "_law_size"]) fun _ _ _ _ _ _ us hl => match us, hl with | [_, _], _ => rfl
  have m5 := PySem.W.mg_of X G a5
  have F2 := fun_mk (st := sLword) l2 c2 k2
  have b2 := F2.binds (ps := ["_law_box_here", "_law_size"]) fun _ _ _ _ _ _ us hl => match us, hl with | [_, _], _ => rfl
  have m2 := PySem.W.mg_of X G a2
  have F7 := fun_mk (st := sLnames) l7 c7 k7
  have b7 := F7.binds (ps := ["_law_box_here", "_law_count"]) fun _ _ _ _ _ _ us hl => match us, hl with | [_, _], _ => rfl
  have m7 := PySem.W.mg_of X G a7
  have F8 := fun_mk (st := sLcatalog) l8 c8 k8
  have b8 := F8.binds (ps := ["_law_names_here"]) fun _ _ _ _ _ _ us hl => match us, hl with | [_], _ => rfl
  have m8 := PySem.W.mg_of X G a8
  have F6 := fun_mk (st := sLsame) l6 c6 k6
  have b6 := F6.binds (ps := ["_law_actual", "_law_due"]) fun _ _ _ _ _ _ us hl => match us, hl with | [_, _], _ => rfl
  have m6 := PySem.W.mg_of X G a6
  have F9 := fun_mk (st := sLunknown) l9 c9 k9
  have b9 := F9.binds (ps := ["_law_catalog_here", "_law_word_here"]) fun _ _ _ _ _ _ us hl => match us, hl with | [_, _], _ => rfl
  have m9 := PySem.W.mg_of X G a9
  have F10 := fun_mk (st := slaw) l10 c10 k10
  have FI := fun_mk (st := sCataloginit) lI cI kI
  have FQ := fun_mk (st := sCataloglen) lQ cQ kQ
  have bQ := FQ.binds (ps := ["self"]) fun _ _ _ _ _ _ us hl => match us, hl with | [_], _ => rfl
  have FH := fun_mk (st := sCatalogcontains) lH cH kH
  have bH := FH.binds (ps := ["self", "name"]) fun _ _ _ _ _ _ us hl => match us, hl with | [_, _], _ => rfl
  have FE := fun_mk (st := sCatalogeq) lE cE kE
  have bE := FE.binds (ps := ["self", "other"]) fun _ _ _ _ _ _ us hl => match us, hl with | [_, _], _ => rfl
  have FD := fun_mk (st := sCatalogindexof) lD cD kD
  have bD := FD.binds (ps := ["self", "name"]) fun _ _ _ _ _ _ us hl => match us, hl with | [_, _], _ => rfl
  have CF : CatF K u.C fI uM := ⟨⟨pg, hd, po, sa⟩, nN, ⟨mM, rM, gM, by decide⟩, ⟨mk, aI, iI, kC⟩⟩
  have IF : InsF K u.C := ⟨ca, cn, ct, cm, kCC, kTC⟩
  have UF : UkF K mg IB SE := ⟨PySem.W.mg_of X G aS, PySem.W.mg_none_of X G zValueError, ⟨gaX, ggX, eX, hdX, haX, cn, ct, hmX⟩, kXS, kXV⟩
  have MX : Meth K u.C "index_of" fD := ⟨aD, iD, kD⟩
  have OX : OexC K IB := excC_of xX saX eX tyX kX
  have SX : SupC l.prog K mg IB cc cda := ⟨OX, supX, svX, slfX, thX, ⟨ccl, cdd, cvs, ccs, file, tf, cdX, cvX, fiX⟩, ⟨cl, cld, csl, ceX⟩, PySem.W.mg_none_of X G zsuper, tpX⟩
  exact ⟨PySem.W.fnOf "law" "law" (defArgs slaw) (defBody slaw) (defScope slaw) .none kV10 dc10 pm10 an10 cd10 ct10, fun s v => .of_eq rfl, fun base _ _ => by
    have FX := ok_own1 (P := l.prog) (w := w) (base := base) (prm := "name") (fld := "name") (st := sXinit) rfl lX cX (nscope_by (by decide +kernel)) rfl rfl rfl SX rfl nbX (by decide) (by decide)
    have OB : OwnX l.prog w K mg base "UnknownMark" IB "name" := ⟨OX, ⟨fX, _, ["self", "name"], FX, iX, tX, .all fun us hl => match us, hl with | [_, _], _ => rfl⟩, PySem.W.mg_of X G aX, nbX, ⟨gaX, ggX, eX, hdX⟩, PySem.W.exm_ref eX hdX tyX ssX⟩
    have cN := cal_of (P := l.prog) (w := w) (base := base) F1 (ok_name F1 T) m1 b1
    have GI := fn_init (P := l.prog) (w := w) (base := base) FI T CF (cal_of F3 (ok_diff F3 T cN) m3 b3) (StX.bind_star1 (B := fun z => bindArgs (PySem.W.fnOf "__init__" "Catalog.__init__" (defArgs sCataloginit) (defBody sCataloginit) (defScope sCataloginit) .none kVI dcI pmI anI cdI ctI) ⟨z, []⟩) (p1 := "self") (pv := "names") (fun _ => rfl) (fun _ _ _ => rfl))
    have cT := cal_of (P := l.prog) (w := w) (base := base) F5 (ok_take F5 T) m5 b5
    have cW := cal_of (P := l.prog) (w := w) (base := base) F2 (ok_word F2 T cT) m2 b2
    have cS := cal_same (P := l.prog) (w := w) (base := base) F6 T m6 b6 1
    have GD := ok_idx (P := l.prog) (w := w) (base := base) FD T CF OB
    exact ok_law (UM := IB) F10 T CF GI sTC (cal_of F4 (ok_box F4 T) m4 b4) cT cW (cal_of F7 (ok_names F7 T cT cW) m7 b7) (cal_of F8 (ok_cat F8 T CF GI) m8 b8) cS (cal_of F6 (ok_sameP F6 T cS) m6 b6)
      (cal_of F9 (ok_unknown F9 T CF OB UF MX GD bD (ok_sameH F6 T) m6 k6 b6) m9 b9) ⟨fQ, _, _, [], CF.cl, ⟨aQ, iQ, kQ⟩, ok_len FQ T CF, bQ, .nil⟩ ⟨fH, _, _, [], CF.cl, ⟨aH, iH, kH⟩, ok_in FH T CF, bH, .nil⟩ ⟨fE, _, _, [], CF.cl, ⟨aE, iE, kE⟩, ok_eqc FE T CF IF, bE, .nil⟩ MX GD bD⟩
end VL
open PySem PySem.W PyProof.Rows
set_option maxHeartbeats 0 in
theorem PySem.Challenge.cw_shelfterms_k01_catalog_names_holds : PySem.Challenge.rw_shelfterms_k01_catalog_names.Holds := by
  w_on; o_law; k_head; (case hw => w_witness2)
  k_fill
  refine L2.walk_of (l := PySem.Challenge.rw_shelfterms_k01_catalog_names) (n := 63) (k := 6) (x := "_law_script") (CX := fun _ => L2.CX0) (sp := fun w => VL.spLaw _) rfl (by decide) rfl ⟨rfl, by decide, by decide⟩ (fun w h Y => PySem.W.kIn_of Y) ?F (fun _ _ a ns hl _ hS => ⟨a, ns, rfl, hS, hl, fun _ => rfl⟩) (fun _ _ _ _ _ h => h)
  case F =>
    intro w mg fa h KX G hmg
    refine' VL.all_mk KX G hmg ?a1 ?l1 ?c1 ?k1 ?a3 ?l3 ?c3 ?k3 ?a4 ?l4 ?c4 ?k4 ?a5 ?l5 ?c5 ?k5 ?a2 ?l2 ?c2 ?k2 ?a7 ?l7 ?c7 ?k7 ?a8 ?l8 ?c8 ?k8 ?a6 ?l6 ?c6 ?k6 ?a9 ?l9 ?c9 ?k9 ?a10 ?l10 ?c10 ?k10 ?aC ?aI ?iI ?lI ?cI ?kI ?aQ ?iQ ?lQ ?cQ ?kQ ?aH ?iH ?lH ?cH ?kH ?aE ?iE ?lE ?cE ?kE ?aD ?iD ?lD ?cD ?kD ?pg ?hd ?po ?sa ?mk ?kC ?nN ?mM ?rM ?gM ?ca ?cn ?ct ?cm ?kCC ?kTC ?sTC ?aX ?xX ?saX ?eX ?tyX ?kX ?iX ?tX ?lX ?cX ?supX ?svX ?slfX ?thX ?cdX ?cvX ?fiX ?ceX ?zsuper ?tpX ?nbX ?gaX ?ggX ?hdX ?ssX ?aS ?zValueError ?haX ?hmX ?kXS ?kXV ?mLETTERS ?rLETTERS ?mLONGEST_NAME ?rLONGEST_NAME ?zlen ?zlist ?zint ?zisinstance ?zbool ?zstr ?ztuple ?zrange ?zall ?zset
    (case a1 => k_is)
    (case l1 => k_is)
    (case c1 => k_is)
    (case k1 => k_is)
    (case a3 => k_is)
    (case l3 => k_is)
    (case c3 => k_is)
    (case k3 => k_is)
    (case a4 => k_is)
    (case l4 => k_is)
    (case c4 => k_is)
    (case k4 => k_is)
    (case a5 => k_is)
    (case l5 => k_is)
    (case c5 => k_is)
    (case k5 => k_is)
    (case a2 => k_is)
    (case l2 => k_is)
    (case c2 => k_is)
    (case k2 => k_is)
    (case a7 => k_is)
    (case l7 => k_is)
    (case c7 => k_is)
    (case k7 => k_is)
    (case a8 => k_is)
    (case l8 => k_is)
    (case c8 => k_is)
    (case k8 => k_is)
    (case a6 => k_is)
    (case l6 => k_is)
    (case c6 => k_is)
    (case k6 => k_is)
    (case a9 => k_is)
    (case l9 => k_is)
    (case c9 => k_is)
    (case k9 => k_is)
    (case a10 => k_is)
    (case l10 => k_is)
    (case c10 => k_is)
    (case k10 => k_is)
    (case aC => k_is)
    (case aI => k_is)
    (case iI => k_is)
    (case lI => k_is)
    (case cI => k_is)
    (case kI => k_is)
    (case aQ => k_is)
    (case iQ => k_is)
    (case lQ => k_is)
    (case cQ => k_is)
    (case kQ => k_is)
    (case aH => k_is)
    (case iH => k_is)
    (case lH => k_is)
    (case cH => k_is)
    (case kH => k_is)
    (case aE => k_is)
    (case iE => k_is)
    (case lE => k_is)
    (case cE => k_is)
    (case kE => k_is)
    (case aD => k_is)
    (case iD => k_is)
    (case lD => k_is)
    (case cD => k_is)
    (case kD => k_is)
    (case pg => k_is)
    (case hd => k_is)
    (case po => k_is)
    (case sa => k_is)
    (case mk => k_is)
    (case kC => k_is)
    (case nN => k_is)
    (case mM => k_is)
    (case rM => exact ⟨_, rfl⟩)
    (case gM => k_is)
    (case ca => k_is)
    (case cn => k_is)
    (case ct => k_is)
    (case cm => k_is)
    (case kCC => kit_is)
    (case kTC => kit_is)
    (case sTC => k_is)
    (case aX => k_is)
    (case xX => k_is)
    (case saX => k_is)
    (case eX => k_is)
    (case tyX => k_is)
    (case kX => k_is)
    (case iX => k_is)
    (case tX => k_is)
    (case lX => k_is)
    (case cX => k_is)
    (case supX => ks_is)
    (case svX => k_is)
    (case slfX => k_is)
    (case thX => k_is)
    (case cdX => k_is)
    (case cvX => first | rfl | decide +kernel | kernel_rfl)
    (case fiX => first | rfl | decide +kernel | kernel_rfl)
    (case ceX => k_is)
    (case zsuper => k_is)
    (case tpX => first | rfl | decide +kernel)
    (case nbX => k_is)
    (case gaX => k_is)
    (case ggX => k_is)
    (case hdX => k_is)
    (case ssX => first | rfl | k_is)
    (case aS => k_is)
    (case zValueError => k_is)
    (case haX => k_is)
    (case hmX => k_is)
    (case kXS => kit_is)
    (case kXV => kit_is)
    (case mLETTERS => k_is)
    (case rLETTERS => exact ⟨_, rfl⟩)
    (case mLONGEST_NAME => k_is)
    (case rLONGEST_NAME => exact ⟨_, rfl⟩)
    (case zlen => k_is)
    (case zlist => k_is)
    (case zint => k_is)
    (case zisinstance => k_is)
    (case zbool => k_is)
    (case zstr => k_is)
    (case ztuple => k_is)
    (case zrange => k_is)
    (case zall => k_is)
    (case zset => k_is)

