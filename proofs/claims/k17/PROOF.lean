import PyProof.Rows.All
import Wide.All
import OpenK.AllK
import Wide.FinOn
import HandS.ForMost
import HandS.IsInst
import HandS.Codes
import HandS.Wide
import HandS.Walk
import HandS.Zip
import KE.GoesEnum
import HandS.Strs
import HandS.ClsMeth
import HandS.Star
import HandS.Style
import HandS.Defaults
import PyProof.CollectStr
import HandS.Nested
import HandS.NestedK
import HandS.ExcInit
import HandS.ExcField
import HandS.ExcIs
import HandS.WordsExc
import HandS.ExcSuper
import KE.KExcSuper
import KE.KSuper
import HandS.Dict
import HandS.WordsDict
import KE.KParD
import HandS.ExcCtx
import HandS.HotCalls
import KE.KExcIs
import HandS.OwnEq
import HandS.TupAny
import HandS.Text
import HandS.FStr
import HandS.Deep
import HandS.Sort
import HandS.Conv
import HandS.Property
import KE.KOpsOwn
import OpenK.KMeth
import HandS.TupLe
import HandS.ExcOwn
import HandS.Iter
import HandS.Steps
import KE.GoesEnumKw
import HandS.Exc
import PyProof.DictUpdate
import HandS.DictEq
import HandS.DictComp
import KE.KDictList
import PyProof.InstEq
import KE.RegKSuper
import PySem.Challenge.RW_shelfterms_k17_evidence_joined
set_option Elab.async false
set_option linter.all false
set_option maxRecDepth 100000
set_option maxHeartbeats 4000000
namespace VL
open PySem PySem.Spec PyProof.Rows L2
open C8 (Cal pe_c)
/-! ### heaps -/
/-- all but b is kept -/
def Kp (b : Addr) (H H' : Hp) : Prop := ∀ c o, c ≠ b → H c = some o → H' c = some o
theorem Kp.refl (b : Addr) (H : Hp) : Kp b H H := fun _ _ _ h => h
theorem Kp.trans {b : Addr} {H H1 H2 : Hp} (x : Kp b H H1) (y : Kp b H1 H2) : Kp b H H2 := fun c o n h => y c o n (x c o n h)
theorem Kp.of {b : Addr} {H H' : Hp} (x : Same H H') : Kp b H H' := fun c o _ h => x c o h
theorem Kp.upd {b : Addr} {H : Hp} (o : HO) : Kp b H (upd H b o) := fun c u n h => by
  rw [upd_ne n]
  exact h
theorem same_upd {H : Hp} {p : Addr} {o : HO} (h : H p = none) : Same H (upd H p o) := fun b x e => by
  rw [upd_ne (ne_of_none e h)]
  exact e
theorem _root_.L2.Same.sqt {K : PySem.W.Frag} {H H' : Hp} {a : Addr} {xs : List V} (e : Same H H') (h : SqT K H a xs) : SqT K H' a xs := by
  rcases h with (h | ⟨o, h⟩) | h
  · exact .inl (.inl (e _ _ h))
  · exact .inl (.inr ⟨o, e _ _ h⟩)
  · exact .inr h
/-- tuples are kept -/
def KT (H H' : Hp) : Prop := ∀ c xs, H c = some (.tup xs) → H' c = some (.tup xs)
theorem KT.refl (H : Hp) : KT H H := fun _ _ h => h
theorem KT.trans {H H1 H2 : Hp} (x : KT H H1) (y : KT H1 H2) : KT H H2 := fun c xs h => y c xs (x c xs h)
theorem KT.of {H H' : Hp} (x : Same H H') : KT H H' := fun c xs h => x c _ h
theorem KT.lst {H H' : Hp} {b : Addr} {xs : List V} (x : Kp b H H') (h : H b = some (.lst xs)) : KT H H' := fun c ys e => x c _ (ne_of e h (by intro z; cases z)) e
theorem KT.upd {H : Hp} {b : Addr} {xs : List V} {o : HO} (h : H b = some (.lst xs)) : KT H (upd H b o) := KT.lst (Kp.upd o) h

theorem upd_self {H : Hp} {b : Addr} {o : HO} (h : H b = some o) : L2.upd H b o = H := by
  funext c
  by_cases e : c = b
  · subst e; rw [upd_same, h]
  · rw [upd_ne e]

/-! ### the script's box -/
/-- the law's box stands at b: the cells in the list at L, the place, the rest, the seed -/
def Box (H : Hp) (b L : Addr) : Prop := ∃ (cs : List Int) (p r x : Int), L ≠ b ∧ H L = some (.lst (cs.map V.int)) ∧ H b = some (.lst [.ref L, .int p, .int r, .int x]) ∧ 0 ≤ p ∧ 0 ≤ x ∧ x < 2147483647
theorem Box.lst {H : Hp} {b L : Addr} (h : Box H b L) : ∃ xs, H b = some (.lst xs) := by
  obtain ⟨cs, p, r, x, _, _, h, _⟩ := h
  exact ⟨_, h⟩
theorem Box.lstL {H : Hp} {b L : Addr} (h : Box H b L) : ∃ xs, H L = some (.lst xs) := by
  obtain ⟨cs, p, r, x, _, h, _⟩ := h
  exact ⟨_, h⟩
theorem Box.same {H H' : Hp} {b L : Addr} (h : Box H b L) (s : Same H H') : Box H' b L := by
  obtain ⟨cs, p, r, x, n, hL, hb, q⟩ := h
  exact ⟨cs, p, r, x, n, s _ _ hL, s _ _ hb, q⟩
/-- another object may change -/
theorem Box.upd {H : Hp} {b L l : Addr} {o : HO} (h : Box H b L) (h1 : l ≠ b) (h2 : l ≠ L) : Box (L2.upd H l o) b L := by
  obtain ⟨cs, p, r, x, n, hL, hb, q⟩ := h
  exact ⟨cs, p, r, x, n, by rw [upd_ne h2.symm]; exact hL, by rw [upd_ne h1.symm]; exact hb, q⟩
/-- a new object is neither -/
theorem Box.new {H : Hp} {b L l : Addr} (h : Box H b L) (n : H l = none) : l ≠ b ∧ l ≠ L := by
  obtain ⟨xs, h1⟩ := h.lst
  obtain ⟨ys, h2⟩ := h.lstL
  exact ⟨(ne_of_none h1 n).symm, (ne_of_none h2 n).symm⟩

/-! ### the same data -/
def flt : V → Bool
  | .non => true
  | .bl _ => true
  | .int _ => true
  | .str _ => true
  | _ => false
/-- x and y hold the same data, of depth n at most -/
def Sm (H : Hp) : Nat → V → V → Prop
  | 0, x, y => x = y ∧ flt y = true
  | n + 1, x, y => (x = y ∧ flt y = true) ∨ ∃ (a b : Addr) (xs ys : List V), x = .ref a ∧ y = .ref b ∧
      ((H a = some (.lst xs) ∧ H b = some (.lst ys)) ∨ (H a = some (.tup xs) ∧ H b = some (.tup ys))) ∧ xs.length = ys.length ∧ xs.length ≤ 100000 ∧ ∀ (i : Nat) u v, xs[i]? = some u → ys[i]? = some v → Sm H n u v
theorem Sm.flat {H : Hp} {n : Nat} {x : V} (h : flt x = true) : Sm H n x x := by
  cases n with
  | zero => exact ⟨rfl, h⟩
  | succ n => exact .inl ⟨rfl, h⟩
theorem Sm.tup {H : Hp} {n : Nat} {a b : Addr} {xs ys : List V} (ha : H a = some (.tup xs)) (hb : H b = some (.tup ys)) (hl : xs.length = ys.length) (hz : xs.length ≤ 100000) (h : ∀ (i : Nat) u v, xs[i]? = some u → ys[i]? = some v → Sm H n u v) : Sm H (n + 1) (.ref a) (.ref b) :=
  .inr ⟨a, b, xs, ys, rfl, rfl, .inr ⟨ha, hb⟩, hl, hz, h⟩
theorem Sm.lst {H : Hp} {n : Nat} {a b : Addr} {xs ys : List V} (ha : H a = some (.lst xs)) (hb : H b = some (.lst ys)) (hl : xs.length = ys.length) (hz : xs.length ≤ 100000) (h : ∀ (i : Nat) u v, xs[i]? = some u → ys[i]? = some v → Sm H n u v) : Sm H (n + 1) (.ref a) (.ref b) :=
  .inr ⟨a, b, xs, ys, rfl, rfl, .inl ⟨ha, hb⟩, hl, hz, h⟩
/-- two sequences of the same flat things -/
theorem Sm.tupF {H : Hp} {n : Nat} {a b : Addr} {xs : List V} (ha : H a = some (.tup xs)) (hb : H b = some (.tup xs)) (hz : xs.length ≤ 100000) (h : ∀ x ∈ xs, flt x = true) : Sm H (n + 1) (.ref a) (.ref b) :=
  Sm.tup ha hb rfl hz fun i u v hu hv => by
    rw [hu] at hv
    cases hv
    exact Sm.flat (h _ (List.mem_of_getElem? hu))
theorem Sm.lstF {H : Hp} {n : Nat} {a b : Addr} {xs : List V} (ha : H a = some (.lst xs)) (hb : H b = some (.lst xs)) (hz : xs.length ≤ 100000) (h : ∀ x ∈ xs, flt x = true) : Sm H (n + 1) (.ref a) (.ref b) :=
  Sm.lst ha hb rfl hz fun i u v hu hv => by
    rw [hu] at hv
    cases hv
    exact Sm.flat (h _ (List.mem_of_getElem? hu))
theorem flt_ints (ns : List Int) : ∀ x ∈ ns.map V.int, flt x = true := fun x h => by
  obtain ⟨n, _, rfl⟩ := List.mem_map.mp h
  rfl

theorem Sm.cases {H : Hp} {n : Nat} {x y : V} (h : Sm H n x y) : (x = y ∧ flt y = true) ∨ ∃ (m : Nat) (a b : Addr) (xs ys : List V), n = m + 1 ∧ x = .ref a ∧ y = .ref b ∧
      ((H a = some (.lst xs) ∧ H b = some (.lst ys)) ∨ (H a = some (.tup xs) ∧ H b = some (.tup ys))) ∧ xs.length = ys.length ∧ xs.length ≤ 100000 ∧ ∀ (i : Nat) u v, xs[i]? = some u → ys[i]? = some v → Sm H m u v := by
  cases n with
  | zero => exact .inl h
  | succ n =>
    rcases h with h | ⟨a, b, xs, ys, h⟩
    · exact .inl h
    · exact .inr ⟨n, a, b, xs, ys, rfl, h⟩
theorem isi {K : PySem.W.Frag} {H : Hp} {x : V} {T : String} {Q : VK} (t : String) (b : Bool) (ty : TyX K H x (.type t)) (h : kitB t T = some b) (q : Q (.bl b) H) : rIsi K [x, .ty T] H Q := ⟨x, .ty T, .type t, .type T, b, rfl, .ty T, ty, kit_ty h, q⟩

/-! ### rules with the written part told (within a comprehension) -/
section
variable {X : Cx}
theorem ix_listK (K : PySem.W.Frag) (h : X.K = K := by rfl) : IxR X (rIxL K) := h ▸ ix_list
theorem ix_tupK (K : PySem.W.Frag) (h : X.K = K := by rfl) : IxR X (rIxT K) := h ▸ ix_tup
def rLenK (K : PySem.W.Frag) : List V → Hp → VK → Prop := fun xs H Q => ∃ p ys, xs = [.ref p] ∧ (SqL K H p ys ∨ SqT K H p ys) ∧ Q (.int ys.length) H
theorem call_lenK (K : PySem.W.Frag) (h : X.K = K := by rfl) : CallR X (.builtin "len") (rLenK K) := h ▸ call_len_seq
theorem pi_tupK (K : PySem.W.Frag) {tg l : Expr} {tl : TE} (hl : PE X l tl) (h : X.K = K := by rfl) : PI X tg l (iTup K tl) := h ▸ pi_tup hl
theorem pi_listK (K : PySem.W.Frag) {tg l : Expr} {tl : TE} (hl : PE X l tl) (h : X.K = K := by rfl) : PI X tg l (iList K tl) := h ▸ pi_list hl
theorem call_isiK' (K : PySem.W.Frag) (h : X.K = K := by rfl) : CallR X (.builtin "isinstance") (rIsi K) := h ▸ call_isi
end

/-! ### promises of the law's own defs -/
def spBox (K : PySem.W.Frag) : Sp := fun vs H Q _ => ∃ (a : Addr) (ns : List Int), vs = [.ref a] ∧ SqL K H a (ns.map V.int) ∧ ns.length ≤ 63 ∧ ∀ b L H', H b = none → H L = none → Same H H' → Box H' b L → Q (.ref b) H'
def spTake : Sp := fun vs H Q _ => ∃ (b L : Addr) (n : Int), vs = [.ref b, .int n] ∧ 0 < n ∧ n < 2 ^ 64 ∧ Box H b L ∧ ∀ v o, 0 ≤ v → v < n → Box (upd H b o) b L → (∃ xs, o = .lst xs) → Q (.int v) (upd H b o)
def spNo : Sp := fun _ _ _ _ => False
def spSame : Nat → Sp
  | 0 => spNo
  | n + 1 => fun vs H Q _ => ∃ x y, vs = [x, y] ∧ Sm H n x y ∧ Q (.bl true) H
theorem fn_no {P : Program} {w : World} {K : PySem.W.Frag} {mg : Str → Option Value} {base : Heap} {k : Nat} {f : Addr} {fd : FuncData} {ps : List Str} : FnOk P w K mg base CX0 k f fd ps spNo :=
  ⟨fun _ _ _ _ h => h.elim, fun _ _ _ _ _ _ _ _ _ _ _ _ _ h => h.elim⟩
theorem iteF' {c : Bool} {A B : Prop} (e : c = false) (h : B) : if c = true then A else B := by
  subst e
  exact iteF h
theorem iteT' {c : Bool} {A B : Prop} (e : c = true) (h : A) : if c = true then A else B := by
  subst e
  exact iteT h
/-- a def of the module, as its callers want it -/
theorem cal_of {P : Program} {w : World} {K : PySem.W.Frag} {mg : Str → Option Value} {base : Heap} {k : Nat} {x : Str} {st : Stmt} {f : Addr} {fd : FuncData} {ps : List Str} {sp : Sp} (F : Fun K x x st f fd) (G : FnOk P w K mg base CX0 k f fd ps sp) (hm : mg x = some (.ref f)) (b : Binds K fd ps []) :
    Cal P w K mg base k x sp [] := ⟨f, fd, ps, [], G, hm, F.kp, b, .nil⟩
theorem cutV_ints (ns : List Int) (lo hi : Option Int) : ∃ cs : List Int, cutV (ns.map V.int) lo hi = cs.map V.int := by
  unfold cutV
  rw [← List.map_drop, ← List.map_take]
  exact ⟨_, rfl⟩
theorem map_at {α β : Type} {f : α → β} {xs : List α} {i : Nat} {y : β} (h : (xs.map f)[i]? = some y) : ∃ x, xs[i]? = some x ∧ y = f x := by
  rw [List.getElem?_map] at h
  obtain ⟨x, h1, h2⟩ := Option.map_eq_some_iff.mp h
  exact ⟨x, h1, h2.symm⟩
theorem atI0 {α : Type} {x : α} {xs : List α} : atI (x :: xs) 0 = some x := atI_nat (j := 0) rfl
theorem atI_pos {α : Type} {xs : List α} {p : Int} {x : α} (h0 : 0 ≤ p) (h : xs[p.toNat]? = some x) : atI xs p = some x := by
  obtain ⟨n, rfl⟩ := Int.eq_ofNat_of_zero_le h0
  exact atI_nat h
theorem atI_ints {cs : List Int} {p : Int} (h0 : 0 ≤ p) (h : p < (cs.length : Int)) : ∃ c, cs[p.toNat]? = some c ∧ atI (cs.map V.int) p = some (.int c) := by
  have h1 : p.toNat < cs.length := by omega
  have h2 : cs[p.toNat]? = some (cs[p.toNat]'h1) := List.getElem?_eq_getElem h1
  refine ⟨_, h2, atI_pos h0 ?_⟩
  rw [List.getElem?_map, h2]
  rfl
theorem ixN_nat {n j : Nat} (h : j < n) : ixN n (j : Int) = some j := by
  unfold ixN
  rw [if_pos (by omega), if_pos (by omega)]
  rfl
end VL

namespace VL
open PySem PySem.Spec PyProof.Rows L2
/-! ### enumerate over a tuple (mine: the layer's pi_enum walks lists alone) -/
def EnT (K : PySem.W.Frag) (a : Addr) : It where
  go := fun k G => ∃ (zs : List V) (z : V), SqT K G a zs ∧ zs[k]? = some z
  yld := fun k G u G' => ∃ (T : Addr) (z : V), u = .ref T ∧ G T = none ∧ G' = upd G T (.tup [.int (k : Nat), z]) ∧ ∀ zs, SqT K G a zs → zs[k]? = some z
  stop := fun k G => ∃ zs : List V, SqT K G a zs ∧ zs.length = k
theorem enT_turn {P : Program} {w : World} {K : PySem.W.Frag} {es : List Expr} {q : Nat} {ps : Pos} (a en ti : Addr) :
    Turn P w K (.Tuple es q ps) (EnT K a) [en, ti] en (fun k h => (∃ was, IsEnum h en ti ((k : Nat) : Int) was) ∧ h.IsTupleIter ti a k ∧ en ≠ ti) := by
  refine ⟨List.mem_cons_self .., ?_, ?_, ?_, ?_, ?_⟩
  · rintro k h ⟨⟨was, h1⟩, ⟨ob, h2, _, h3⟩, _⟩ c hc
    rcases List.mem_cons.mp hc with rfl | hc
    · exact ⟨_, h1, fun _ z => nomatch z⟩
    · cases List.mem_singleton.mp hc
      refine ⟨ob, h2, fun _ z => ?_⟩
      rw [h3] at z
      cases z
  · rintro k h h' ⟨⟨was, h1⟩, h2, ne⟩ kp
    exact ⟨⟨was, kp en (List.mem_cons_self ..) _ h1⟩, h2.at fun ob z => kp ti (List.mem_cons_of_mem _ (List.mem_cons_self ..)) ob z, ne⟩
  · rintro X rfl rfl rfl calm k pins s σ G E I free ⟨⟨was, h1⟩, h2, ne⟩ ⟨zs, z, hq, hz⟩
    obtain ⟨vs, rv, hT, _⟩ := I.tuple hq
    obtain ⟨u, hu, ru⟩ := rv.get hz
    have nea : en ≠ a := fun e => by
      subst e
      obtain ⟨ob, e1, e2, _⟩ := hT
      have e3 := h1.symm.trans e1
      cases e3
      exact absurd (Value.type.inj e2) (by decide)
    have nta : a ≠ ti := fun e => by
      subst e
      obtain ⟨ob, e1, e2, _⟩ := hT
      obtain ⟨oc, c1, c2, _⟩ := h2
      rw [c1] at e1
      cases e1
      rw [c2] at e2
      exact absurd (Value.type.inj e2) (by decide)
    have elt : en < s.heap.objs.size := Heap.lt_size h1
    have tlt : ti < s.heap.objs.size := by
      obtain ⟨ob, e1, _⟩ := h2
      exact Heap.lt_size e1
    have klt : k < vs.toArray.size := by
      have := (List.getElem?_eq_some_iff.mp hu).1
      simpa using this
    have D := Draws.tuple (prog := X.prog) (w := X.w) (A := X.A.in1) (I.ok.hd calm) ti a nta vs.toArray
    refine wpAny_pyNext_enum_itemC (c := (k : Int)) D h1 ⟨h2, hT⟩ klt ne (fun c => ?_) fun x h' tk hx out st' tup _ kp => ?_
    · rcases List.mem_cons.mp c with e | c
      · exact ne e
      · exact nea (List.mem_singleton.mp c)
    · have ex : x = u := by
        have hx' : vs.toArray[k]? = some x := hx
        rw [List.getElem?_toArray, hu] at hx'
        exact (Option.some.inj hx').symm
      subst ex
      refine ⟨_, rfl, wpAny_letOwnedTupleGo_enum (s := { s with heap := h', toks := tk + 1 }) out fun g eg sb => ?_⟩
      have tup2 : g.get? s.heap.objs.size = some { cls := .type "tuple", data := .seq #[.int k tk, x] } := (sb.2 _ (Nat.ne_of_gt elt)).trans tup
      have made : ObjOk X.prog X.w (upd G s.heap.objs.size (.tup [.int (k : Nat), z])) g s.heap.objs.size (.tup [.int (k : Nat), z]) := by
        refine ⟨by show 2 ≤ sizeLine; decide, [.int k tk, x], ?_, _, tup2, rfl, _, rfl⟩
        exact .cons ⟨_, rfl⟩ (.cons ru .nil)
      have I' : Inv X pins σ (upd G s.heap.objs.size (.tup [.int (k : Nat), z])) { s with heap := g, toks := tk + 1 } := by
        refine I.turnedNew (ch := [en, ti]) (fun c ob hc e => ?_) free (Nat.le_refl _) made
        have c1 : c ≠ en := fun e => hc (e ▸ List.mem_cons_self ..)
        have c2 : c ≠ ti := fun e => hc (e ▸ List.mem_cons_of_mem _ (List.mem_cons_self ..))
        exact (sb.2 c c1).trans (kp c ob c1 c2 e)
      refine ⟨.ref s.heap.objs.size, _, I', rfl, ⟨_, z, rfl, I.hok.fresh (Nat.le_refl _), rfl, fun ys hy => ?_⟩, ⟨⟨x, ?_⟩, st'.1.at fun ob e => (sb.2 ti ne.symm).trans e, ne⟩, fun c hc => ?_⟩
      · rw [I.tuple_inj hy hq]
        exact hz
      · have e1 : ((k + 1 : Nat) : Int) = (k : Int) + 1 := by omega
        rw [e1]
        exact eg
      · have clt : c < s.heap.objs.size := by
          rcases List.mem_cons.mp hc with rfl | hc
          · exact elt
          · cases List.mem_singleton.mp hc
            exact tlt
        rw [upd_ne (Nat.ne_of_lt clt)]
        exact (free c hc).1
  · rintro X rfl rfl rfl calm k pins s σ G E I free ⟨⟨was, h1⟩, h2, ne⟩ ⟨zs, hq, hz⟩
    obtain ⟨vs, rv, hT, _⟩ := I.tuple hq
    have hl := rv.length
    obtain ⟨f0, f1, f2, f3, f4, f5⟩ := free ti (List.mem_cons_of_mem _ (List.mem_cons_self ..))
    have nta : a ≠ ti := fun e => by
      subst e
      obtain ⟨ob, e1, e2, _⟩ := hT
      obtain ⟨oc, c1, c2, _⟩ := h2
      rw [c1] at e1
      cases e1
      rw [c2] at e2
      exact absurd (Value.type.inj e2) (by decide)
    have D := Draws.tuple (prog := X.prog) (w := X.w) (A := X.A.in1) (I.ok.hd calm) ti a nta vs.toArray
    have ek : k = vs.toArray.size := by
      rw [← hz, hl]
      simp
    refine wpAny_pyNext_enum_endD D h1 ⟨ek ▸ h2, hT⟩ fun g ext => ⟨rfl, I.turned (t' := s.toks) (fun c ob hc e => ext c ob hc e) f0 f1 f3 f4 f5⟩
  · rintro A k s Q E ⟨⟨was, h1⟩, _⟩ q
    exact wpAny_pyIter_enum h1 q
/-- what enumerate(v) leaves: the iterator of v, behind it the enumerate object -/
abbrev enHeap (hp : Heap) (o : Obj) : Heap := (hp.push o).push { cls := .type "enumerate", data := .fields #[.none, .bool false, .ref hp.objs.size, rawInt 0, .none, .none] }
theorem en_meets {v : Value} {o : Obj} {B0 : Heap → Prop} (B : Begins v o B0) :
    Meets (Builtin.«enumerate.__new__» ⟨[.type "enumerate", v], []⟩) (fun _ R s => B0 s.heap ∧ R (.ok (.ret (.ref (s.heap.push o).objs.size))) { s with heap := enHeap s.heap o }) := by
  refine .of_wp fun prog w A R s hh => ?_
  obtain ⟨hp, gg, dd, tt, oo⟩ := s
  obtain ⟨b0, hR⟩ := hh
  have hsub := sub_enumerate
  have st : ∀ {A1 : Around} {E1 : Value → Shared → Prop} {Q1 : Value → Shared → Prop}, Q1 (.ref hp.objs.size) ⟨hp.push o, gg, dd, tt, oo⟩ → wpAny (model prog w) A1 (pyIter v) Q1 E1 ⟨hp, gg, dd, tt, oo⟩ :=
    fun z => B.iter prog w _ _ ⟨hp, gg, dd, tt, oo⟩ _ b0 z
  wp_walk using st
  refine wpAny_stack_any fun sk => wpAny_pure ?_
  split
  · rename_i c _ _ _ _ _
    cases (c == Value.type "enumerate") <;> (wp_walk using st; exact ⟨_, rfl, hR⟩)
  · wp_walk using st
    exact ⟨_, rfl, hR⟩
theorem en_call {prog : Program} {w : World} {A : Around} {E : Value → Shared → Prop} {s : Shared} {v : Value} {o : Obj} {B0 : Heap → Prop} {Q : Value → Shared → Prop} (B : Begins v o B0) (b0 : B0 s.heap)
    (q : Q (.ref (s.heap.objs.size + 1)) { s with heap := enHeap s.heap o }) : wpAny (model prog w) A (call (.type "enumerate") [v]) Q E s := by
  have z : (s.heap.push o).objs.size = s.heap.objs.size + 1 := Heap.size_push ..
  refine callType_new F.called_enumerate (by decide) (F.typeCall_enumerate_1 _) (F.newCall_enumerate_1 _) (fun b => F.args_object_init_2 b _) F.entry_enumerate_new (en_meets B) ⟨b0, ?_⟩
  show _ ∧ _
  rw [z]
  have g := Heap.get?_push_size (s.heap.push o) (o := { cls := .type "enumerate", data := .fields #[.none, .bool false, .ref s.heap.objs.size, rawInt 0, .none, .none] }) rfl
  rw [z] at g
  exact ⟨⟨_, g, rfl⟩, q⟩
/-- a comprehension's loop (either loop of one with two for) over a walk: B is what the turn must bring about, told what comes next -/
theorem lp_it {J : It} {n : Nat} {G : Hp → Prop} {Y : Nat → Hp → V → Hp → Prop} (w : Walk J n G Y) {B : (Hp → Prop) → V → Hp → Prop} {H0 : Hp} {Qd : Hp → Prop} (Pv : Nat → Hp → Prop) (h0 : Pv 0 H0) (hG : ∀ i H, i ≤ n → Pv i H → G H)
    (hs : ∀ i x H H', i < n → Pv i H → Y i H x H' → B (Pv (i + 1)) x H') (hd : ∀ H, Pv n H → Qd H) :
    ∃ W : Nat → Nat → Hp → Prop, (∃ m, W 0 m H0) ∧ ∀ i m H, W i m H → (J.stop i H ∧ Qd H) ∨ (J.go i H ∧ ∃ Nx : Hp → Prop, (∀ H', Nx H' → ∃ m', m' < m ∧ W (i + 1) m' H') ∧ ∀ x H', J.yld i H x H' → B Nx x H') := by
  refine ⟨fun i m H => m + i = n ∧ Pv i H, ⟨n, rfl, h0⟩, ?_⟩
  rintro i m H ⟨em, p⟩
  have g := hG i H (by omega) p
  by_cases z : m = 0
  · have e : i = n := by omega
    subst e
    exact .inl ⟨w.stops H g, hd H p⟩
  · exact .inr ⟨w.goes i H (by omega) g, Pv (i + 1), fun H' p' => ⟨m - 1, by omega, by omega, p'⟩, fun x H' y => hs i x H H' (by omega) p (w.yields i H x H' (by omega) g y)⟩
theorem walk_rg {n : Nat} : Walk (Itr 0 n) n (fun _ => True) (fun i H x H' => H' = H ∧ x = .int (i : Int)) :=
  walk_range.mono (fun _ _ => trivial) fun i H x H' _ _ y => ⟨y.1, y.2.trans (congrArg V.int (Int.zero_add _))⟩
def iEnT (K : PySem.W.Frag) (ta : TA) : TI := fun σ G R => ta σ G fun vs G1 => ∃ a zs, vs = [.ref a] ∧ SqT K G1 a zs ∧ R (EnT K a) G1
theorem pi_enT {X : Cx} {e : Expr} {ta : TA} {p pos tpos : Pos} {es : List Expr} {q : Nat} (hg : Gl X "enumerate") (hm : X.mg "enumerate" = none) (ha : PA X [e] ta)
    (hs : starEach [e] X.env = [(false, eval e X.env)] := by rfl) : PI X (.Tuple es q tpos) (.Call (.Name "enumerate" p) [e] [] pos) (iEnT X.K ta) := by
  constructor
  intro pins s σ G R I h
  refine Call_ (ld_blt I hg hm boot_enumerate (PyProof.Rows.callWith_type1 (thn (ha.run pos pins s σ G _ I h) fun us s1 ⟨vs, G1, I1, r1, a, zs, ev, hq, hR⟩ => ?_) hs rfl))
  subst ev
  obtain ⟨u, rfl, ru⟩ := vals1 r1
  cases (show u = Value.ref a from ru)
  obtain ⟨its, rv, hT, _⟩ := I1.tuple hq
  have B := begins_tuple a its.toArray
  have z : (s1.heap.push { cls := .type "tuple_iterator", data := .fields #[.ref a, .int 0 0] }).objs.size = s1.heap.objs.size + 1 := Heap.size_push ..
  have kp : ∀ c ob, s1.heap.get? c = some ob → (enHeap s1.heap { cls := .type "tuple_iterator", data := .fields #[.ref a, .int 0 0] }).get? c = some ob := fun c ob e => Heap.get?_push_of_some _ (Heap.get?_push_of_some _ e)
  have he : IsEnum (enHeap s1.heap { cls := .type "tuple_iterator", data := .fields #[.ref a, .int 0 0] }) (s1.heap.objs.size + 1) s1.heap.objs.size 0 .none := by
    have g := Heap.get?_push_size (s1.heap.push { cls := .type "tuple_iterator", data := .fields #[.ref a, .int 0 0] }) (o := { cls := .type "enumerate", data := .fields #[.none, .bool false, .ref s1.heap.objs.size, rawInt 0, .none, .none] }) rfl
    rw [z] at g
    exact g
  have hit : (enHeap s1.heap { cls := .type "tuple_iterator", data := .fields #[.ref a, .int 0 0] }).IsTupleIter s1.heap.objs.size a 0 := ⟨_, Heap.get?_push_of_some _ (Heap.get?_push_size _ rfl), rfl, rfl⟩
  refine en_call B (show s1.heap.IsTuple a its.toArray from hT) (wpAny_pyIter_enum he ?_)
  have I2 : Inv X pins σ G1 { s1 with heap := enHeap s1.heap { cls := .type "tuple_iterator", data := .fields #[.ref a, .int 0 0] } } := I1.kept (t' := s1.toks) kp
  refine ⟨s1.heap.objs.size + 1, [s1.heap.objs.size + 1, s1.heap.objs.size], _, _, G1, rfl, I2, enT_turn a (s1.heap.objs.size + 1) s1.heap.objs.size, ⟨⟨.none, he⟩, hit, Nat.succ_ne_self _⟩, fun c hc => ?_, hR⟩
  have le : s1.heap.objs.size ≤ c := by
    rcases List.mem_cons.mp hc with rfl | hc
    · exact Nat.le_succ _
    · cases List.mem_singleton.mp hc
      exact Nat.le_refl _
  exact I1.fpOk le (I1.hok.fresh le)
theorem walk_enT {K : PySem.W.Frag} {a : Addr} {xs : List V} : Walk (EnT K a) xs.length (fun H => SqT K H a xs) (YPair (fun i => some (.int (i : Nat))) (fun i => xs[i]?)) := by
  refine ⟨fun i G hi q => ⟨xs, xs[i], q, List.getElem?_eq_getElem hi⟩, fun G q => ⟨xs, q, rfl⟩, ?_⟩
  rintro i G u G' _ q ⟨T, z, h1, h2, h3, h4⟩
  exact ⟨T, .int (i : Nat), z, h1, h2, h3, rfl, h4 xs q⟩
theorem walk_zipT {K : PySem.W.Frag} {a b : Addr} {xs ys : List V} (hl : xs.length = ys.length) : Walk (RZ.ItzT K a b) xs.length (fun H => SqT K H a xs ∧ SqT K H b ys) (YPair (fun i => xs[i]?) (fun i => ys[i]?)) := by
  refine ⟨fun i G hi q => ⟨xs, ys, xs[i], ys[i], q.1, q.2, List.getElem?_eq_getElem hi, List.getElem?_eq_getElem (hl ▸ hi)⟩, fun G q => ⟨xs, ys, q.1, q.2, .inl (Nat.le_refl _)⟩, ?_⟩
  rintro i G u G' _ q ⟨T, x, y, h1, h2, h3, h4, h5⟩
  exact ⟨T, x, y, h1, h2, h3, h4 xs q.1, h5 ys q.2⟩
end VL

namespace VL
open PySem PySem.Spec PyProof.Rows L2
/-! ### terms: lists of pairs of ints -/
/-- the values xs are the pairs ts -/
def TermsAt (H : Hp) (xs : List V) (ts : List (Int × Int)) : Prop := xs.length = ts.length ∧ ∀ (i : Nat) x, xs[i]? = some x → ∃ p m d, ts[i]? = some (m, d) ∧ x = .ref p ∧ H p = some (.tup [.int m, .int d])
theorem TermsAt.nil {H : Hp} : TermsAt H [] [] := ⟨rfl, fun i x e => by cases e⟩
theorem TermsAt.keep {H H' : Hp} {xs : List V} {ts : List (Int × Int)} (h : TermsAt H xs ts) (k : KT H H') : TermsAt H' xs ts := ⟨h.1, fun i x e => by
  obtain ⟨p, m, d, h1, h2, h3⟩ := h.2 i x e
  exact ⟨p, m, d, h1, h2, k _ _ h3⟩⟩
theorem TermsAt.snoc {H : Hp} {xs : List V} {ts : List (Int × Int)} {p : Addr} {m d : Int} (h : TermsAt H xs ts) (e : H p = some (.tup [.int m, .int d])) : TermsAt H (xs ++ [.ref p]) (ts ++ [(m, d)]) := by
  refine ⟨by rw [List.length_append, List.length_append, h.1]; rfl, fun i x ex => ?_⟩
  by_cases hi : i < xs.length
  · rw [List.getElem?_append_left hi] at ex
    rw [List.getElem?_append_left (by rw [← h.1]; exact hi)]
    exact h.2 i x ex
  · rw [List.getElem?_append_right (by omega)] at ex
    have : i - xs.length = 0 := by
      have := (List.getElem?_eq_some_iff.mp ex).1
      rw [List.length_singleton] at this
      omega
    rw [this] at ex
    rw [List.getElem?_append_right (by rw [← h.1]; omega), ← h.1, this]
    exact ⟨p, m, d, rfl, (Option.some.inj ex).symm, e⟩
theorem TermsAt.at {H : Hp} {xs : List V} {ts : List (Int × Int)} {i : Nat} {m d : Int} (h : TermsAt H xs ts) (e : ts[i]? = some (m, d)) : ∃ p, xs[i]? = some (.ref p) ∧ H p = some (.tup [.int m, .int d]) := by
  have hi : i < xs.length := by
    rw [h.1]
    exact (List.getElem?_eq_some_iff.mp e).1
  obtain ⟨p, m', d', h1, h2, h3⟩ := h.2 i _ (List.getElem?_eq_getElem hi)
  rw [e] at h1
  cases h1
  exact ⟨p, by rw [List.getElem?_eq_getElem hi, h2], h3⟩
/-- two lists of the same terms hold the same data -/
theorem TermsAt.sm {H : Hp} {n : Nat} {p q : Addr} {xs ys : List V} {ts : List (Int × Int)} (hp : H p = some (.lst xs)) (hq : H q = some (.lst ys)) (h1 : TermsAt H xs ts) (h2 : TermsAt H ys ts) (hz : ts.length ≤ 100000) : Sm H (n + 2) (.ref p) (.ref q) := by
  refine Sm.lst hp hq (by rw [h1.1, h2.1]) (by rw [h1.1]; exact hz) fun i u v hu hv => ?_
  obtain ⟨a, m, d, e1, rfl, e3⟩ := h1.2 i u hu
  obtain ⟨b, m', d', e4, rfl, e6⟩ := h2.2 i v hv
  rw [e1] at e4
  cases e4
  refine Sm.tupF e3 e6 (by show 2 ≤ 100000; decide) fun x hx => ?_
  rcases List.mem_cons.mp hx with rfl | hx
  · rfl
  · rcases List.mem_cons.mp hx with rfl | hx
    · rfl
    · cases hx
end VL

namespace VL
open PySem PySem.Spec PyProof.Rows L2
/-! ### set(t) of a tuple of texts, any number (mine: the layer's is for one text at most) -/
/-- how many different ones are among the first i -/
def dst {α : Type} [DecidableEq α] (ks : List α) : Nat → Nat
  | 0 => 0
  | i + 1 => match ks[i]? with
    | some k => if k ∈ ks.take i then dst ks i else dst ks i + 1
    | none => dst ks i
theorem dst_le {α : Type} [DecidableEq α] (ks : List α) : ∀ i, dst ks i ≤ i
  | 0 => Nat.le_refl _
  | i + 1 => by
    have h := dst_le ks i
    unfold dst
    split
    · split <;> omega
    · omega
theorem nodup_not_mem {α : Type} [DecidableEq α] {ks : List α} (h : ks.Nodup) {i : Nat} {k : α} (e : ks[i]? = some k) : k ∉ ks.take i := fun hm => by
  obtain ⟨j, hj⟩ := List.mem_iff_getElem?.mp hm
  rw [List.getElem?_take] at hj
  by_cases hji : j < i
  · rw [if_pos hji] at hj
    obtain ⟨hl, ej⟩ := List.getElem?_eq_some_iff.mp hj
    obtain ⟨hl2, ei⟩ := List.getElem?_eq_some_iff.mp e
    exact absurd (ej.trans ei.symm) (List.pairwise_iff_getElem.mp h j i hl hl2 hji)
  · rw [if_neg hji] at hj
    cases hj
theorem dst_nodup {α : Type} [DecidableEq α] {ks : List α} (h : ks.Nodup) : ∀ i, i ≤ ks.length → dst ks i = i
  | 0, _ => rfl
  | i + 1, hi => by
    have e : ks[i]? = some ks[i] := List.getElem?_eq_getElem hi
    unfold dst
    rw [e]
    show (if ks[i] ∈ ks.take i then dst ks i else dst ks i + 1) = i + 1
    rw [if_neg (nodup_not_mem h e), dst_nodup h i (by omega)]
theorem dst_dup {α : Type} [DecidableEq α] {ks : List α} : ∀ i, i ≤ ks.length → dst ks i = i → (ks.take i).Nodup
  | 0, _, _ => by rw [List.take_zero]; exact List.Pairwise.nil
  | i + 1, hi, hd => by
    have e : ks[i]? = some ks[i] := List.getElem?_eq_getElem hi
    unfold dst at hd
    rw [e] at hd
    have hd : (if ks[i] ∈ ks.take i then dst ks i else dst ks i + 1) = i + 1 := hd
    have hl := dst_le ks i
    by_cases hm : ks[i] ∈ ks.take i
    · rw [if_pos hm] at hd
      omega
    · rw [if_neg hm] at hd
      have ih := dst_dup (ks := ks) i (by omega) (by omega)
      rw [List.take_add_one, e]
      refine List.nodup_append.mpr ⟨ih, by simp, fun x hx y hy => ?_⟩
      have : y = ks[i] := by simpa using hy
      subst this
      exact fun z => hm (z ▸ hx)
section
variable {prog : Program} {w : World} {A : Around} {R : Result → Shared → Prop} {I : Addr} {fp wr : List Addr} {G : Array GenState → Array GenState → Prop} {n : Nat} {Pv : Nat → Value → Prop} {St : Nat → Shared → Prop}
theorem put_all (W : WalksS prog w A.in1 I fp wr G n Pv St) (S : Addr) (out : S ∉ fp) (ks : List Str) (en : ks.length = n) (room : n + 1 < scanBound) (val : ∀ i v, Pv i v → ∃ x t, ks[i]? = some x ∧ v = .str x t) :
    ∀ (m i : Nat) (s : Shared), i + m = n → St i s → s.heap.SetOf (PySem.strKind prog w) S (fun k => decide (k ∈ ks.take i)) (dst ks i) →
      (∀ s', Moved (S :: wr) G s s' → s'.heap.SetOf (PySem.strKind prog w) S (fun k => decide (k ∈ ks)) (dst ks n) → R (.ok (.ret .none)) s') →
      codeAny (model prog w) A (.builtin "set.update.loop" ⟨[.ref S, .ref I], []⟩) R s := by
  have outw : S ∉ wr := fun z => out (W.sub _ z)
  have up : ∀ b ∈ wr, b ∈ S :: wr := fun b z => List.mem_cons_of_mem _ z
  intro m
  induction m with
  | zero =>
    intro i s hi st held fin
    obtain rfl : i = n := by omega
    refine codeAny_builtin PyProof.Rows.F.entry_set_update_loop (Around.under_plainId PyProof.Rows.F.plain_set_update_loop _ ▸ ?_)
    refine wpAny_bind (W.done s _ _ st fun s' mv => wpAny_pure (fin s' (mv.mono up) ?_))
    obtain ⟨o, es, ep, t, ho, r⟩ := held
    rw [← en, List.take_length] at r
    rw [← en]
    exact ⟨o, es, ep, t, mv.heap S _ outw ho, r⟩
  | succ m ih =>
    intro i s hi st held fin
    refine codeAny_builtin PyProof.Rows.F.entry_set_update_loop (Around.under_plainId PyProof.Rows.F.plain_set_update_loop _ ▸ ?_)
    refine wpAny_bind (W.item i s _ _ (by omega) st fun v s' pv st' mv => ?_)
    obtain ⟨x, t, ex, rfl⟩ := val i v pv
    obtain ⟨o, es, ep, tb, ho, r⟩ := held
    have held' : s'.heap.SetOf (PySem.strKind prog w) S (fun k => decide (k ∈ ks.take i)) (dst ks i) := ⟨o, es, ep, tb, mv.heap S _ outw ho, r⟩
    refine wpAny_bind (wpAny_holding ?_)
    unfold setAdd
    refine wpAny_holding (wpAny_bind ((PySem.strKind prog w).pyHash (k := x) (strKind_is _ _ _ _) ?_))
    have hd := dst_le ks i
    refine wpAny_setAddHashed_of (knd := PySem.strKind prog w) (s := { s' with toks := s'.toks + 1 }) (strKind_is _ _ _ _) rfl held' (by omega) fun h' sb more => ?_
    have more' : h'.SetOf (PySem.strKind prog w) S (fun k => decide (k ∈ ks.take (i + 1))) (dst ks (i + 1)) := by
      refine SetOf_congr more (fun k => ?_) ?_
      · rw [List.take_add_one, ex]
        show (decide (k ∈ ks.take i) || decide (k = x)) = decide (k ∈ ks.take i ++ [x])
        rw [Bool.eq_iff_iff]
        simp [List.mem_append]
      · show (if decide (x ∈ ks.take i) = true then dst ks i else dst ks i + 1) = dst ks (i + 1)
        conv => rhs; unfold dst
        rw [ex]
        by_cases hm : x ∈ ks.take i
        · simp [hm]
        · simp [hm]
    have nS : ∀ b ∈ fp, b ≠ S := fun b hb z => out (z ▸ hb)
    refine wpAny_pure ⟨plainId_quiet PyProof.Rows.F.plain_set_update_loop _, ih (i + 1) _ (by omega) ?_ more' fun s2 mv2 held2 => ?_⟩
    · exact W.frame _ s' _ _ st' (Nat.le_succ _) fun b hb u e => (sb.2 b (nS b hb)).trans e
    · refine fin s2 (Moved.trans W.gtrans ((mv.mono up).then_heap (Nat.le_succ _) fun b u hb e => ?_) mv2) held2
      exact (sb.2 b fun z => hb (z ▸ List.mem_cons_self)).trans e
end
abbrev mtSet (led : Bool) : Obj := { cls := .type "set", dict := none, data := .set #[] 0 (.fresh 0 0 led) }
section
variable {prog : Program} {w : World} {A : Around} {E : Value → Shared → Prop} {s : Shared}
/-- what set.__init__ brings about: the heap with the set filled -/
def Filled (prog : Program) (w : World) (s : Shared) (xs : List Str) (s2 : Shared) : Prop :=
  ∃ (g : Heap) (tk : Nat), s2 = { s with heap := g, toks := tk } ∧ g.SetOf (PySem.strKind prog w) s.heap.objs.size (fun k => decide (k ∈ xs)) (dst xs xs.length) ∧ ∀ b o, s.heap.get? b = some o → g.get? b = some o
theorem init_tup {l : Addr} {items : Array Value} {xs : List Str} (led : Bool) (calm : A.handled = none) (hl : s.heap.IsTuple l items) (hi : PyProof.Rows.StrsAre items.toList xs) (room : xs.length + 1 < scanBound) :
    codeAny (model prog w) A (.call (.builtin "set.__init__") ⟨[.ref s.heap.objs.size, .ref l], []⟩) (wants (fun r s2 => r = .none ∧ Filled prog w s xs s2) E) { s with heap := s.heap.push (mtSet led) } := by
  have hS : (s.heap.push (mtSet led)).get? s.heap.objs.size = some (mtSet led) := Heap.get?_push_size _ rfl
  have hT : Shared.TypeIs { s with heap := s.heap.push (mtSet led) } (.ref s.heap.objs.size) "set" := ⟨_, hS, rfl⟩
  refine codeAny_call_builtin PySem.F.called_set.init.plain PySem.F.entry_set_init (check_set_init_1 hT ?_)
  have esz : xs.length = items.size := by
    rw [← StrsAre.len_eq hi, Array.length_toList]
  obtain ⟨⟨ocls, odict, odata, oslots⟩, hol, hcl, nl, hdl⟩ := id hl
  cases (show ocls = .type "tuple" from hcl)
  cases (show odata = .seq items nl from hdl)
  have hol' := Heap.get?_push_of_some (mtSet led) hol
  have k1 := PySem.F.sub_tuple_set
  have k2 := PySem.F.sub_tuple_frozenset
  have k3 : (Value.type "tuple" == Value.type "dict") = false := by decide
  have hl1 : (s.heap.push (mtSet led)).IsTuple l items := ⟨_, hol', rfl, nl, rfl⟩
  have lS : l < s.heap.objs.size := Heap.lt_size hol
  have zS : (s.heap.push (mtSet led)).objs.size = s.heap.objs.size + 1 := Heap.size_push ..
  unfold Builtin.«set.__init__» noKeywords Builtin.Frozenset.updateFrom
  generalize ePI : pyIter = PI
  wp_walk
  subst ePI
  refine wpAny_pyIter_tuple hl1 (wpAny_bind (wpAny_runValue ?_))
  have calm2 : A.in1.in1.handled = none := by simp [calm]
  have nIt : l ≠ (s.heap.push (mtSet led)).objs.size := by
    rw [zS]
    exact Nat.ne_of_lt (Nat.lt_succ_of_lt lS)
  have out : s.heap.objs.size ∉ [(s.heap.push (mtSet led)).objs.size, l] := by
    rw [zS]
    simp only [List.mem_cons, List.not_mem_nil, or_false, not_or]
    exact ⟨Nat.ne_of_lt (Nat.lt_succ_self _), (Nat.ne_of_lt lS).symm⟩
  have val : ∀ (i : Nat) (v : Value), items[i]? = some v → ∃ x t, xs[i]? = some x ∧ v = .str x t := fun i v hv => by
    have hlt : i < xs.length := by
      rw [esz]
      exact (Array.getElem?_eq_some_iff.mp hv).1
    obtain ⟨t, e⟩ := SS.strs_at hi i v (by rw [Array.getElem?_toList]; exact hv)
    refine ⟨xs[i], t, List.getElem?_eq_getElem hlt, ?_⟩
    rw [e, List.getD_eq_getElem?_getD, List.getElem?_eq_getElem hlt]
    rfl
  refine put_all ((Walks.tuple calm2 _ l nIt items).toS) s.heap.objs.size out xs esz (by omega) val items.size 0 _ (Nat.zero_add _) ?_ ?_ fun s2 mv held => ?_
  · exact ⟨⟨_, Heap.get?_push_size _ rfl, rfl, rfl⟩, hl1.push _⟩
  · have hget := Heap.get?_push_of_some ({ cls := .type "tuple_iterator", data := .fields #[.ref l, .int 0 0] } : Obj) hS
    exact SetOf_congr ((setObjOf_fresh (knd := PySem.strKind prog w) led).setOf hget (by unfold scanBound; omega)) (fun _ => rfl) rfl
  · obtain ⟨g, g2, dr, tk, os'⟩ := s2
    cases (show g2 = s.gens from mv.gens)
    cases (show dr = s.drawn from mv.drawn)
    cases (show os' = s.os from mv.os)
    rw [← esz] at held
    refine wpAny_pure (wpAny_pure ⟨rfl, g, tk, rfl, held, fun b o e => ?_⟩)
    have bS := Heap.lt_size e
    refine mv.heap b o ?_ (Heap.get?_push_of_some _ (Heap.get?_push_of_some _ e))
    rw [zS]
    simp only [List.mem_cons, List.not_mem_nil, or_false, not_or]
    exact ⟨Nat.ne_of_lt bS, Nat.ne_of_lt (Nat.lt_succ_of_lt bS)⟩
theorem set_tup {l : Addr} {items : Array Value} {xs : List Str} {Q : Value → Shared → Prop} (calm : A.handled = none) (hl : s.heap.IsTuple l items) (hi : PyProof.Rows.StrsAre items.toList xs) (room : xs.length + 1 < scanBound)
    (h : ∀ s2, Filled prog w s xs s2 → Q (.ref s.heap.objs.size) s2) : wpAny (model prog w) A (call (.type "set") [.ref l]) Q E s := by
  obtain ⟨c, tl, f1⟩ := PySem.F.called_set.mro
  have f2 := PySem.F.called_set.made
  have f3 := PySem.F.called_set.sub
  have f4 := PySem.F.called_set.notType
  have f5 := PySem.F.called_set.canCreate
  have f6 := PySem.F.typeCall_set_1 (.ref l)
  have f7 := PySem.F.called_set.init.lookup
  refine wpAny_call (codeAny_of_tree (wpAny_pure ⟨Code.quiet_builtin _ (by decide +kernel), codeAny_builtin PySem.F.entry_type_call ?_⟩))
  rw [Around.under_plain (weight_type_call_type "set" [.ref l] []) rfl]
  repeat (any_goals (first | assumption | wp_step))
  refine codeAny_mono (code_set_new_1 (.ref l) (E := E) (Q₁ := fun ob s1 => ∃ led : Bool, ob = .ref s.heap.objs.size ∧ s1 = { s with heap := s.heap.push (mtSet led) }) fun led => ⟨led, rfl, rfl⟩) fun r s1 hr => ?_
  cases r with
  | error e => exact hr
  | ok fl =>
    cases fl with
    | ret ob =>
      obtain ⟨led, rfl, rfl⟩ := hr
      have f8 := PySem.F.called_set.init.bind (.ref s.heap.objs.size)
      have hT : Shared.TypeIs { s with heap := s.heap.push (mtSet led) } (.ref s.heap.objs.size) "set" := ⟨_, Heap.get?_push_size _ rfl, rfl⟩
      repeat (any_goals (first | assumption | wp_step))
      refine codeAny_mono (init_tup led (E := E) calm hl hi room) fun r2 s2 hr2 => ?_
      cases r2 with
      | error e => exact hr2
      | ok fl2 =>
        cases fl2 with
        | ret r =>
          obtain ⟨rfl, z⟩ := hr2
          repeat (any_goals (first | assumption | wp_step))
          exact h _ z
        | _ => exact hr2.elim
    | _ => exact hr.elim
end
/-- len(set(t)), t a tuple of texts -/
def tLenSetS (K : PySem.W.Frag) (ta : TE) : TE := fun σ G Q => ta σ G fun x G1 => ∃ (l : Addr) (xs : List Str), x = .ref l ∧ SqT K G1 l (xs.map V.str) ∧ xs.length ≤ 1000 ∧ Q (.int (dst xs xs.length : Nat)) G1
theorem pe_lenSetS (K : PySem.W.Frag) {X : Cx} {a : Expr} {ta : TE} {p p2 q pos : Pos} (hc : X.calm = true) (hg : Gl X "len") (hm : X.mg "len" = none) (hg2 : Gl X "set") (hm2 : X.mg "set" = none) (ha : PE X a ta)
    (na : starEach [a] X.env = (false, eval a X.env) :: starEach [] X.env := by rfl) (hK : X.K = K := by rfl) : PE X (.Call (.Name "len" p) [.Call (.Name "set" p2) [a] [] q] [] pos) (tLenSetS K ta) := by
  subst hK
  constructor
  intro pins s σ G Q I h
  refine Call_ (ld_blt I hg hm boot_len (PyProof.Rows.callWith_builtin1 (PyProof.Rows.args_cons (Call_ (ld_blt I hg2 hm2 boot_set ?_)) rfl) rfl rfl))
  refine PyProof.Rows.callWith_type1 (PyProof.Rows.args_cons (thn (ha.run pins s σ G _ I h) fun v s1 ⟨x, G1, I1, r1, l, xs, ex, hq, hz, hQ⟩ => PyProof.Rows.args_nil ?_) na) na rfl
  subst ex
  cases r1
  obtain ⟨its, rv, hT, _⟩ := I1.tuple hq
  refine set_tup (xs := xs) (I1.ok.hd hc) hT (by simpa using strsAre_of rv) (by unfold scanBound; omega) fun s2 ⟨g, tk, e2, held, kp⟩ => PyProof.Rows.args_nil ?_
  subst e2
  obtain ⟨o, es, ep, t, ho, hex, hd, _, _, _, hf, hn⟩ := held
  have I2 : Inv X pins σ G1 { s1 with heap := g, toks := tk } := I1.kept kp
  have hd2 := dst_le xs xs.length
  exact call_len_set ho hex hd hf (by rw [hn]; omega) ⟨.int (dst xs xs.length : Nat), G1, I2.tok _, ⟨_, by rw [hn]⟩, hQ⟩
end VL

namespace VL
open PySem PySem.Spec PyProof.Rows L2
open C8 (Cal pe_c Met pe_mt)
/-! ### x( *text), x a local name that holds a class -/
/-- the signs of a text, each a text -/
def signs (z : Str) : List V := z.cps.toList.map fun c => V.str ⟨#[c]⟩
theorem signs_vals : ∀ (us : List Value) (cs : List Nat), us.length = cs.length → (∀ (i : Nat) (v : Value) (c : Nat), us[i]? = some v → cs[i]? = some c → ∃ t, v = Value.str ⟨#[c]⟩ t) → Vals (cs.map fun c => V.str ⟨#[c]⟩) us
  | [], [], _, _ => .nil
  | [], _ :: _, h, _ => by cases h
  | _ :: _, [], h, _ => by cases h
  | u :: us, c :: cs, h, hv => .cons (hv 0 u c rfl rfl) (signs_vals us cs (Nat.succ.inj h) fun i v c' e1 e2 => hv (i + 1) v c' (by simpa using e1) (by simpa using e2))
theorem signs_rel {z : Str} {acc : Array Value} (h : ItemsOf (SignAt z) acc z.cps.size) : Vals (signs z) acc.toList := by
  refine signs_vals acc.toList z.cps.toList (by simpa using h.1) fun i v c e1 e2 => ?_
  obtain ⟨c', u, h1, h2⟩ := h.2 i v (by simpa using e1)
  have e3 : z.cps[i]? = some c := by simpa using e2
  rw [e3] at h1
  cases h1
  exact ⟨u, h2⟩
section
variable {X : Cx} {pins : List (Addr × Obj)} {σ : L2.St} {H : Hp} {s : Shared}
theorem star_txt {z : Str} {t : Tok} {E : Value → Shared → Prop} {Q : List Value → Shared → Prop} (I : Inv X pins σ H s) (hz : z.length ≤ sizeLine) (calm : X.calm = true) (hQ : ∀ us s', Inv X pins σ H s' → Vals (signs z) us → Q us s') :
    PySem.W.StarOf (model X.prog X.w) X.A E (.str z t) Q s := by
  have got : wpAny (model X.prog X.w) X.A (collect (.str z t)) Q E s := by
    refine wpAny_collect_str (I.ok.hd calm) z t (fun s' acc kp eg ed eo items => ?_) hz
    obtain ⟨g, g2, d2, tk, os2⟩ := s'
    cases (show g2 = s.gens from eg)
    cases (show d2 = s.drawn from ed)
    cases (show os2 = s.os from eo)
    exact hQ _ _ (I.kept (t' := tk) kp) (signs_rel items)
  unfold PySem.W.StarOf notIterableAtAll
  exact wpAny_bind (wpAny_specialOf (T := "str") (v := .str z t) rfl PySem.F.slot_str_iter.lookup (wpAny_pure ⟨rfl, got⟩))
/-- x( *text): a new instance -/
def tMkTxt (i : Nat) (C : Addr) (sp : Sp) (E : XK) (te : TE) : TE := fun σ H Q => σ[i]? = some (some (.ref C)) ∧ te σ H fun y H1 => ∃ z : Str, y = .str z ∧ z.length ≤ sizeLine ∧
  ∀ x dx, H1 x = Option.none → H1 dx = Option.none → dx ≠ x → sp (V.ref x :: signs z) (upd (upd H1 dx (.own x)) x (.ins C dx [])) (fun v H2 => v = .non ∧ Q (.ref x) H2) E
theorem pe_mkTxt {CX : CXT} {k i : Nat} {f C : Addr} {sp : Sp} {E : XK} {x : Str} {p sp_ pos : Pos} {e : Expr} {te : TE} (M : Mk X.K C f) (F : FnR X.prog X.w X.K X.mg X.base CX k f sp) (hr : Room (k + 1) X.A) (calm : X.calm = true)
    (hN : X.N[i]? = some x) (hv : Vis X.env.scope x) (hx : Passes CX X E) (he : PE X e te) (hdb : (x == ("__debug__" : Str)) = false := by decide) (hcd : (x == ("__classdict__" : Str)) = false := by decide)
    (hst : starEach [.Starred e sp_] X.env = [(true, eval e X.env)] := by rfl) : PE X (.Call (.Name x p) [.Starred e sp_] [] pos) (tMkTxt i C sp E te) := by
  constructor
  intro pins s σ H Q I ⟨hs, ht⟩
  refine wpAny_Call_Name_kw (thn ((pe_var (pos := p) hN hv hdb hcd).run pins s σ H (fun v H1 => v = .ref C ∧ H1 = H) I ⟨.ref C, hs, rfl, rfl⟩) fun u s1 ⟨v, H1, I1, r1, ev, eh⟩ => ?_)
  subst ev eh
  cases r1
  refine PySem.W.callWith_S (h₀ := X.base) I.ok.mod.kin M.kp (thn (he.run pins s1 σ _ _ I1 ht) fun v s2 ⟨y, H2, I2, ry, z, ey, hz, q⟩ => ?_) hst
  subst ey
  obtain ⟨t, rfl⟩ := ry
  exact star_txt I2 hz calm fun us s3 I3 rv => ⟨I3.kIn, StX.run_makeR M F hr hx I3 rv q⟩
end
/-! ### kinds -/
/-- the built-in class of a thing, as far as the heap tells -/
def kd (H : Hp) : V → Option String
  | .non => some "NoneType"
  | .bl _ => some "bool"
  | .int _ => some "int"
  | .str _ => some "str"
  | .ref a => match H a with
    | some (.lst _) => some "list"
    | some (.tup _) => some "tuple"
    | some (.dK _) => some "dict"
    | _ => none
  | _ => none
theorem kd_lst {H : Hp} {a : Addr} {xs : List V} (h : H a = some (.lst xs)) : kd H (.ref a) = some "list" := by
  show (match H a with | some (.lst _) => some "list" | some (.tup _) => some "tuple" | some (.dK _) => some "dict" | _ => none) = _
  rw [h]
theorem kd_tup {H : Hp} {a : Addr} {xs : List V} (h : H a = some (.tup xs)) : kd H (.ref a) = some "tuple" := by
  show (match H a with | some (.lst _) => some "list" | some (.tup _) => some "tuple" | some (.dK _) => some "dict" | _ => none) = _
  rw [h]
theorem kd_dK {H : Hp} {a : Addr} {xs : List (Key × V)} (h : H a = some (.dK xs)) : kd H (.ref a) = some "dict" := by
  show (match H a with | some (.lst _) => some "list" | some (.tup _) => some "tuple" | some (.dK _) => some "dict" | _ => none) = _
  rw [h]
theorem kd_ty {K : PySem.W.Frag} {H : Hp} {x : V} {t : String} (h : kd H x = some t) : TyX K H x (.type t) := by
  cases x with
  | non => cases h; exact .base .non
  | bl b => cases h; exact .base (.bl b)
  | int i => cases h; exact .base (.int i)
  | str z => cases h; exact .base (.str z)
  | ref a =>
    have h : (match H a with | some (.lst _) => some "list" | some (.tup _) => some "tuple" | some (.dK _) => some "dict" | _ => none) = some t := h
    split at h
    · cases h; exact .base (.lst (by assumption))
    · cases h; exact .base (.tup (by assumption))
    · cases h; exact .base (.dK (by assumption))
    · cases h
  | byt b => cases h
  | flt b => cases h
  | ty n => cases h
theorem kd_same {H H' : Hp} {x : V} {t : String} (s : Same H H') (h : kd H x = some t) : kd H' x = some t := by
  cases x with
  | ref a =>
    have h : (match H a with | some (.lst _) => some "list" | some (.tup _) => some "tuple" | some (.dK _) => some "dict" | _ => none) = some t := h
    split at h
    · cases h; exact kd_lst (s _ _ (by assumption))
    · cases h; exact kd_tup (s _ _ (by assumption))
    · cases h; exact kd_dK (s _ _ (by assumption))
    · cases h
  | _ => exact h
/-- is it of the class T: told by the name alone -/
theorem kd_is {H : Hp} {x : V} {t : String} (h : kd H x = some t) : t = "NoneType" ∨ t = "bool" ∨ t = "int" ∨ t = "str" ∨ t = "list" ∨ t = "tuple" ∨ t = "dict" := by
  cases x with
  | non => cases h; exact .inl rfl
  | bl b => cases h; exact .inr (.inl rfl)
  | int i => cases h; exact .inr (.inr (.inl rfl))
  | str z => cases h; exact .inr (.inr (.inr (.inl rfl)))
  | ref a =>
    have h : (match H a with | some (.lst _) => some "list" | some (.tup _) => some "tuple" | some (.dK _) => some "dict" | _ => none) = some t := h
    split at h
    · cases h; exact .inr (.inr (.inr (.inr (.inl rfl))))
    · cases h; exact .inr (.inr (.inr (.inr (.inr (.inl rfl)))))
    · cases h; exact .inr (.inr (.inr (.inr (.inr (.inr rfl)))))
    · cases h
  | byt b => cases h
  | flt b => cases h
  | ty n => cases h
theorem isB {t T : String} (h : t = "NoneType" ∨ t = "bool" ∨ t = "int" ∨ t = "str" ∨ t = "list" ∨ t = "tuple" ∨ t = "dict") (hT : T = "int" ∨ T = "bool" ∨ T = "str" ∨ T = "list" ∨ T = "tuple") :
    kitB t T = some (decide (t = T) || (decide (t = "bool") && decide (T = "int"))) := by
  rcases hT with rfl | rfl | rfl | rfl | rfl <;> rcases h with rfl | rfl | rfl | rfl | rfl | rfl | rfl <;> decide +kernel
/-- the text is a name -/
def letters : List Nat := ("abcdefghijklmnopqrstuvwxyz" : Str).cps.toList
def nameB (z : Str) : Bool := (decide (1 ≤ (z.length : Int)) && decide ((z.length : Int) ≤ 12)) && z.cps.toList.all fun c => decide (c ∈ letters)
/-- it is an integer within the bounds, no bool -/
def intB (lo hi : Int) : V → Bool
  | .int i => decide (lo ≤ i) && decide (i ≤ hi)
  | _ => false
theorem kd_int {H : Hp} {x : V} {t : String} (h : kd H x = some t) : (∃ i, x = .int i) ∨ (∃ b, x = .bl b) ∨ (kitB t "int" = some false ∧ ∀ lo hi, intB lo hi x = false) := by
  cases x with
  | int i => exact .inl ⟨i, rfl⟩
  | bl b => exact .inr (.inl ⟨b, rfl⟩)
  | non => cases h; exact .inr (.inr ⟨by decide +kernel, fun _ _ => rfl⟩)
  | str z => cases h; exact .inr (.inr ⟨by decide +kernel, fun _ _ => rfl⟩)
  | ref a =>
    have h : (match H a with | some (.lst _) => some "list" | some (.tup _) => some "tuple" | some (.dK _) => some "dict" | _ => none) = some t := h
    split at h
    · cases h; exact .inr (.inr ⟨by decide +kernel, fun _ _ => rfl⟩)
    · cases h; exact .inr (.inr ⟨by decide +kernel, fun _ _ => rfl⟩)
    · cases h; exact .inr (.inr ⟨by decide +kernel, fun _ _ => rfl⟩)
    · cases h
  | byt b => cases h
  | flt b => cases h
  | ty n => cases h
theorem kd_notup {H : Hp} {x : V} {t : String} (h : kd H x = some t) (n : t ≠ "tuple") : kitB t "tuple" = some false := by
  rw [isB (kd_is h) (.inr (.inr (.inr (.inr rfl))))]
  rcases kd_is h with rfl | rfl | rfl | rfl | rfl | rfl | rfl <;> first | rfl | exact absurd rfl n
def spName : Sp := fun vs H Q _ => ∃ z : Str, vs = [.str z] ∧ z.length ≤ 100000 ∧ ∀ H', Same H H' → Q (.bl (nameB z)) H'
def spInt : Sp := fun vs H Q _ => ∃ (x : V) (t : String) (lo hi : Int), vs = [x, .int lo, .int hi] ∧ kd H x = some t ∧ Q (.bl (intB lo hi x)) H
/-- all are names, no two alike -/
def diffB (ns : List Str) : Bool := ns.all nameB && decide (ns.Nodup)
def spDiff (K : PySem.W.Frag) : Sp := fun vs H Q _ => ∃ (t : Addr) (ns : List Str), vs = [.ref t] ∧ SqT K H t (ns.map V.str) ∧ ns.length ≤ 100 ∧ (∀ z ∈ ns, z.length ≤ 100000) ∧ ∀ H', Same H H' → Q (.bl (diffB ns)) H'
/-- a catalog of these names stands at a -/
def CatAt (C : Addr) (H : Hp) (a : Addr) (ns : List Str) : Prop := ∃ dx t, H a = some (.ins C dx [("names", .ref t)]) ∧ H t = some (.tup (ns.map V.str))
theorem CatAt.same {C : Addr} {H H' : Hp} {a : Addr} {ns : List Str} (h : CatAt C H a ns) (s : Same H H') : CatAt C H' a ns := by
  obtain ⟨dx, t, h1, h2⟩ := h
  exact ⟨dx, t, s _ _ h1, s _ _ h2⟩
/-- another object may change, if it is neither an instance nor a tuple -/
theorem CatAt.upd {C : Addr} {H : Hp} {a l : Addr} {ns : List Str} {xs : List V} {o : HO} (h : CatAt C H a ns) (hl : H l = some (.lst xs)) : CatAt C (L2.upd H l o) a ns := by
  obtain ⟨dx, t, h1, h2⟩ := h
  exact ⟨dx, t, by rw [upd_ne (ne_of h1 hl (by intro z; cases z))]; exact h1, by rw [upd_ne (ne_of h2 hl (by intro z; cases z))]; exact h2⟩
/-- the names fit a catalog -/
def Good (ns : List Str) : Prop := 1 ≤ ns.length ∧ ns.length ≤ 8 ∧ diffB ns = true ∧ ∀ z ∈ ns, z.length ≤ 100000
/-- the body of Catalog.__init__, behind its star argument -/
def spInit (C : Addr) : Sp := fun vs H Q _ => ∃ (x dx p : Addr) (ns : List Str), vs = [.ref x, .ref p] ∧ H x = some (.ins C dx []) ∧ H p = some (.tup (ns.map V.str)) ∧ Good ns ∧
  ∀ H1, Same H H1 → Q .non (upd H1 x (.ins C dx [("names", .ref p)]))
/-- the first n of the names a to h -/
def abc (n : Nat) : List Str := ((("abcdefgh" : Str).cps.toList).take n).map fun c => ⟨#[c]⟩
def spNumbered (C : Addr) : Sp := fun vs H Q _ => ∃ n : Nat, vs = [.ref C, .int n] ∧ 1 ≤ n ∧ n ≤ 8 ∧ ∀ a H', H a = none → Same H H' → CatAt C H' a (abc n) → Q (.ref a) H'
/-- the answer of is_book -/
def bookB (n : Nat) (xs : List V) : Bool := decide (xs.length = n) && xs.all (intB (-1000000000000) 1000000000000)
def spBook (K : PySem.W.Frag) (C : Addr) : Sp := fun vs H Q _ => ∃ (c : Addr) (ns : List Str) (v : V), vs = [.ref c, v] ∧ CatAt C H c ns ∧ ns.length ≤ 8 ∧
  ((∃ t xs, v = .ref t ∧ H t = some (.tup xs) ∧ xs.length ≤ 1000 ∧ (∀ x ∈ xs, ∃ k, kd H x = some k) ∧ ∀ H', Same H H' → Q (.bl (bookB ns.length xs)) H') ∨
   (∃ t, kd H v = some t ∧ t ≠ "tuple" ∧ Q (.bl false) H))
theorem abc_len {n : Nat} (h : n ≤ 8) : (abc n).length = n := by
  unfold abc
  rw [List.length_map, List.length_take]
  show min n 8 = n
  omega
theorem abc_good {n : Nat} (h1 : 1 ≤ n) (h8 : n ≤ 8) : Good (abc n) := by
  refine ⟨by rw [abc_len h8]; exact h1, by rw [abc_len h8]; exact h8, ?_, ?_⟩
  · have : ∀ n : Fin 9, diffB (abc n.1) = true := by decide +kernel
    exact this ⟨n, by omega⟩
  · intro z hz
    obtain ⟨c, _, rfl⟩ := List.mem_map.mp hz
    show 1 ≤ 100000
    decide
end VL

/-! an own exception whose __init__ says super().__init__(text), over ValueError (directly or by classes of the program) -/
namespace VL
open PySem PySem.Spec PyProof.Rows L2
open NdefX (NScope NF CellsAt startF ncx envF inv_startN)
/-- what is written of the class at C, the cell of its __class__, the code object of its __init__ -/
structure SupC (P : Program) (K : PySem.W.Frag) (mg : Str → Option Value) (C cc cda : Addr) : Prop where
  o : OexC K C
  sup : PySem.W.ks_superIn K C C "__init__" = some (some (.builtin "ValueError.__init__"))
  sv : PySem.W.subIn K (.ref C) (.type "ValueError") = some true
  self : PySem.W.mroIn K C (.ref C) = some true
  third : PySem.W.nsIn K cStatics "thirdparty.any" = some none
  code : ∃ ccl cdd vs ccs file tf, K.lookup cda = some ⟨ccl, cdd, .fields vs, ccs⟩ ∧ vs[2]? = some (.str file tf) ∧ ((P.main.file : Str) == file) = true
  cell : ∃ cl cld csl, K.lookup cc = some ⟨cl, cld, .cell (some (.ref C)), csl⟩
  noS : mg "super" = none
  top : (P.main.scope.names.lookup ("super" : Str)).isSome = false
abbrev sF (name qual : Str) (params : Arguments) (body : List Stmt) (scope : Scope) (cc cda : Addr) : NF := ⟨name, qual, params, body, scope, [("__class__", cc)], cda⟩
section
variable {CX : CXT} {P : Program} {w : World} {K : PySem.W.Frag} {mg : Str → Option Value} {base : Heap} {N ps : List Str} {k : Nat} {sp : Sp} {f C cc cda : Addr} {name qual : Str} {params : Arguments} {scope : Scope} {dV kV doc pm ct oc : Value} {an od : Option Addr} {osl : Array (Option Value)}
theorem sup_eval {p0 p1 p2 p3 p4 : Pos} {ms : Str} {j : Nat} (env : Env) (hpos : p2.endLine = p4.line) : ∃ pl : Sem Bool, eval (.Call (.Attribute (.Call (.Name "super" p0) [] [] p1) "__init__" p2) [.Constant (.str ms) j p3] [] p4) env = (do
      let ov ← attributeBase (.Call (.Name "super" p0) [] [] p1) "__init__" env (eval (.Call (.Name "super" p0) [] [] p1) env)
      standAt p2.atName
      let (f, first) ← holding [ov] (getMethod ov "__init__" pl)
      callWith p4 f first (backTo p4 (starEach [.Constant (.str ms) j p3] env)) []) := by
  refine ⟨(do return (← importBound (.Call (.Name "super" p0) [] [] p1) env).getD true), ?_⟩
  have e : ∀ few, methodCallPos few (.Call (.Name "super" p0) [] [] p1) env p2 p4 = pure p4 := fun few => by
    unfold methodCallPos
    exact if_pos (by rw [hpos]; simp)
  unfold eval
  unfold methodCall
  simp only [e, pure_bind]
  rfl
theorem boot_super : bootBuiltins "super" = some (.type "super") := by kernel_rfl
theorem fn_super {ar : Arg} {p0 p1 p2 p3 p4 p5 : Pos} {ms : Str} {j : Nat} {rest body : List Stmt} (ebody : body = .Expr (.Call (.Attribute (.Call (.Name "super" p0) [] [] p1) "__init__" p2) [.Constant (.str ms) j p3] [] p4) p5 :: rest)
    (lk : K.lookup f = some ⟨oc, od, .func (PySem.W.ksFn name qual params body scope dV kV doc pm an (.ref cda) ct cc), osl⟩)
    (hcd : PySem.W.codeIn K (.ref cda) qual = true) (S : NScope N ("self" :: ps) ["__class__"] scope)
    (hp : (params.posonlyargs ++ params.args).head? = some ar) (har : ar.arg = "self") (hks : scope.names.lookup ("super" : Str) = some .globalImplicit)
    (T : SupC P K mg C cc cda) (hpos : p2.endLine = p4.line)
    (hbody : ∀ (A : Around) (outer : List Env) (s : Shared) (H : Hp) (vs : List V) (Q : VK) (E : XK), Room k (A.deeper (envF (sF name qual params body scope cc cda) f s.heap.objs.size)) → sp vs H Q E →
      ∃ a ws, vs = .ref a :: ws ∧ ws.length = ps.length ∧ H a = some (exo a C none) ∧ ∃ t, PSs (ncx CX P w K mg base N (sF name qual params body scope cc cda) f A outer s H E) rest t ∧ t { nx := fun _ H' => Q .non H', rt := Q } (startF N vs [none]) H)
    (len : ∀ vs H Q E, sp vs H Q E → vs.length = (("self" : Str) :: ps).length) :
    FnOk P w K mg base CX (k + 1) f (PySem.W.ksFn name qual params body scope dV kV doc pm an (.ref cda) ct cc) ("self" :: ps) sp := by
  refine ⟨len, fun A outer s H args us vs Q E hr e0 hb hv hsp => ?_⟩
  have hl := len _ _ _ _ hsp
  have KX : K.In s.heap := e0.mod.kin.keeps fun b o e => (e0.bs b o e).1
  have lim : s.heap.NoLimit := e0.mod.nolimit.keeps fun b o e => (e0.bs b o e).1
  refine PySem.ks_codeAny_call_defAt (fd := PySem.W.ksFn name qual params body scope dV kV doc pm an (.ref cda) ct cc) (body := body) (binds := (("self" : Str) :: ps).zip us) hr.depth (KX _ _ lk) rfl lim (PySem.W.codeRec_of KX hcd) rfl hb S.nocell
    (fun ⟨n, _⟩ hy => S.par n (List.of_mem_zip hy).1) (fun h₁ hns kp => ?_) S.co S.gen S.kind
  obtain ⟨cl, cld, csl, hcell⟩ := T.cell
  have hbc : base.get? cc = some ⟨cl, cld, .cell (some (.ref C)), csl⟩ := e0.mod.kin _ _ hcell
  have C0 : CellsAt [(("__class__" : Str), cc)] ["__class__"] [none] s.heap H := by
    refine ⟨rfl, fun y c e => ?_, fun x y c e1 e2 => ?_, fun i y e => ?_⟩
    · have z : c = cc := by
        simp only [List.lookup] at e
        split at e
        · exact (Option.some.inj e).symm
        · cases e
      subst z
      exact ⟨(e0.bs _ _ hbc).2, _, _, (e0.bs _ _ hbc).1, rfl⟩
    · have key : ∀ {z : Str}, List.lookup z [(("__class__" : Str), cc)] = some c → z = "__class__" := fun {z} e => by
        simp only [List.lookup] at e
        split at e
        · rename_i h
          exact beq_iff_eq.mp h
        · cases e
      rw [key e1, key e2]
    · have z : i = 0 := by
        cases i with
        | zero => rfl
        | succ i => simp at e
      subst z
      cases e
      refine ⟨cc, by simp [List.lookup], fun v h => ?_⟩
      cases h
  obtain ⟨a, ws, rfl, hw, ha, t, ht, q⟩ := hbody A outer s H vs Q E (hr.deeper _) hsp
  have I : Inv (ncx CX P w K mg base N (sF name qual params body scope cc cda) f A outer s H E) [] (startF N (.ref a :: ws) [none]) H { s with heap := h₁, toks := s.toks + ((("self" : Str) :: ps).zip us).length } :=
    inv_startN (F := sF name qual params body scope cc cda) S hr.hd e0 hl hv C0 hns kp
  have fin0 : ∀ {σ' : L2.St} {H' : Hp} {v : V} {u : Value} {s' : Shared}, Inv (ncx CX P w K mg base N (sF name qual params body scope cc cda) f A outer s H E) [] σ' H' s' → L2.RelV v u → Q v H' → CE outer P w H s Q u s' :=
    fun {σ' H' v u s'} J rv q => ⟨v, H', J.os, J.bare, J.base, J.hok, rv, q⟩
  have go : ∀ s', Inv (ncx CX P w K mg base N (sF name qual params body scope cc cda) f A outer s H E) [] (startF N (.ref a :: ws) [none]) H s' →
      wpAny (model P w) (A.deeper (envF (sF name qual params body scope cc cda) f s.heap.objs.size)) (execs rest (envF (sF name qual params body scope cc cda) f s.heap.objs.size))
        (fun fl s' => CR CX outer P w H s Q E (.ok (.ret (match fl with | .ret v => v | _ => .none))) s')
        (fun e s' => wpAny (model P w) (A.deeper (envF (sF name qual params body scope cc cda) f s.heap.objs.size)) (leaving (envF (sF name qual params body scope cc cda) f s.heap.objs.size) e) (fun _ s'' => CR CX outer P w H s Q E (.error e) s'') (fun e' s'' => CR CX outer P w H s Q E (.error e') s'') s') s' := fun s' J => by
    refine wpAny_mono (ht.run [] s' _ H _ J q) (fun fl s2 hs => ?_) fun e s2 hs => hs
    cases fl with
    | ret u =>
      obtain ⟨v, σ', H', J, rv, q⟩ := hs
      exact fin0 J rv q
    | next =>
      obtain ⟨σ', H', J, q⟩ := hs
      exact fin0 (v := V.non) (u := Value.none) J rfl q
    | brk =>
      obtain ⟨_, _, _, q⟩ := hs
      exact False.elim q
    | cont =>
      obtain ⟨_, _, _, q⟩ := hs
      exact False.elim q
  -- super()
  have hu0 : ∃ us', us = Value.ref a :: us' := by
    cases hv with
    | @cons _ u0 _ ur ra rw' =>
      obtain rfl : u0 = Value.ref a := ra
      exact ⟨ur, rfl⟩
  obtain ⟨us', rfl⟩ := hu0
  obtain ⟨ccl, cdd, cvs, ccs, file, tf, hcode, hvs, hfile⟩ := T.code
  obtain ⟨nm, qq, NN, bs, bm, sn, sub, ab, col, dd, k0, k1, k2, k3, k5, hC, hbm⟩ := T.o.cls
  obtain ⟨t1, hoa⟩ := exo_at I.hok ha
  have X1 : K.In h₁ := I.kIn
  have hclC : PySem.W.clsIn K C = some { name := nm, bases := bs, mro := .ref C :: bm, ns := NN, qualname := qq, hasDict := true, slotNames := sn, subclasses := sub, abstract := ab, collection := col, hasDel := false } := by unfold PySem.W.clsIn; rw [hC] <;> rfl
  have hself : (List.zip (("self" : Str) :: ps) (Value.ref a :: us')).reverse.lookup ("self" : Str) = some (.ref a) := by
    have nd : (("self" : Str) :: ps).Nodup := by
      have z := S.nd.sublist (List.take_sublist ((("self" : Str) :: ps).length + (["__class__"] : List Str).length) N)
      rw [S.pre] at z
      exact (List.nodup_append.mp z).1
    exact NdefX.zip_look (i := 0) nd rfl rfl
  subst ebody
  have hD2 : (excClassObj nm qq C NN bs bm true sn sub ab col dd k0 k1 k2 k3 k5 "ValueError.__new__").data = .cls { name := nm, bases := bs, mro := .ref C :: bm, ns := NN, qualname := qq, hasDict := true, slotNames := sn, subclasses := sub, abstract := ab, collection := col, hasDel := false } := rfl
  have bk : ∀ b o, base.get? b = some o → h₁.get? b = some o := fun b o e => kp b o (e0.bs b o e).1
  obtain ⟨mb, hb1, hb2⟩ := e0.mod.blt
  obtain ⟨pl, he⟩ := sup_eval (p0 := p0) (p1 := p1) (p2 := p2) (p3 := p3) (p4 := p4) (ms := ms) (j := j) (callEnv (PySem.W.ksFn name qual params (.Expr (.Call (.Attribute (.Call (.Name "super" p0) [] [] p1) "__init__" p2) [.Constant (.str ms) j p3] [] p4) p5 :: rest) scope dV kV doc pm an (.ref cda) ct cc) s.heap.objs.size f) hpos
  refine PySem.ks_wpAt_execs_cons (PySem.ks_wpAt_Expr_any (PySem.ks_wpAt_MethodCall (pl := pl) (PySem.ks_wpAt_super_base (cc := cda) hks (S.frk _ (by simp)) (by decide) rfl (X1 _ _ lk) rfl hp rfl (X1 _ _ hcode) rfl hvs hfile T.top ?_) he) (hi := by
    show (scope.kind == .module && _) = false
    rw [S.kind]
    rfl) (hs := by first | rfl | (unfold swapsWith; rfl)))
  refine PySem.W.ks_loadName_global S.kind hks (PySem.Calls.loadGlobal_builtin (e0.mod.glob.keeps bk) T.noS (hb1.keeps bk) ((hb2 _ (by decide)).trans boot_super) ⟨rfl, ?_⟩)
  refine wpAny_loadName_free S.kind (S.frk _ (by simp)) (c := cc) (by first | rfl | simp [List.lookup]) ⟨_, X1 _ _ hcell, rfl⟩ ?_
  rw [har]
  refine wpAny_loadName_local S.kind (S.par _ (by simp)) hns hself ?_
  refine PySem.ks_wpAny_isType_cls (X1 _ _ hC) hD2 ⟨rfl, ?_⟩
  refine PySem.ks_wpAny_call_super (X1 _ _ hC) hD2 hoa rfl (fun c e => by cases e) (PySem.W.looks_mroIn X1 T.self) (fun h2 e2 k2 => ?_)
  -- the method
  have X2 : K.In h2 := X1.keeps k2
  have hxC : a ≠ C := fun z => by
    have y := X1 _ _ hC
    rw [← z] at y
    have y2 := hoa.symm.trans y
    cases y2
  have hal : PySem.W.alongIn K "__init__" (((Value.ref C :: bm).dropWhile (· != .ref C)).drop 1) = some (some (.builtin "ValueError.__init__")) := by
    have z := T.sup
    unfold PySem.W.ks_superIn at z
    rw [hclC] at z
    exact z
  have I2 : PySem.W.InstAt h2 a { cls := .ref C, data := .fields #[.ref t1, .none, .none, .none, .bool false, .none] } C none := ⟨k2 _ _ hoa, rfl, rfl, trivial⟩
  refine PySem.W.kxs_getMethod PySem.W.kxs_ValueError e2 (PySem.W.looks_opaque X2 T.third) (l₀ := Value.ref C :: bm) (fun A Q E s k q => wpAny_bind ((PySem.W.looks_clsIn X2 hclC) A _ E s k (wpAny_pure q))) rfl X2 hal (I2.type.andThen (PySem.W.looks_subIn X2 T.sv)) hxC (by decide) ?_
  -- its argument, its call
  have k3 : ∀ b o, h₁.get? b = some o → (h2.push (PySem.W.kxs_mw "ValueError.__init__" a)).get? b = some o := fun b o e => Heap.get?_push_of_some _ (k2 b o e)
  have hu : (h2.push (PySem.W.kxs_mw "ValueError.__init__" a)).get? h2.objs.size = some (PySem.W.kxs_mw "ValueError.__init__" a) := Heap.get?_push_at rfl rfl
  have J : Inv (ncx CX P w K mg base N (sF name qual params (.Expr (.Call (.Attribute (.Call (.Name "super" p0) [] [] p1) "__init__" p2) [.Constant (.str ms) j p3] [] p4) p5 :: rest) scope cc cda) f A outer s H E) [(h2.objs.size, PySem.W.kxs_mw "ValueError.__init__" a)] (startF N (.ref a :: ws) [none]) H ⟨h2.push (PySem.W.kxs_mw "ValueError.__init__" a), s.gens, s.drawn, s.toks + ((("self" : Str) :: ps).zip (Value.ref a :: us')).length + 1, s.os⟩ := by
    have J0 := I.un (t' := s.toks + ((("self" : Str) :: ps).zip (Value.ref a :: us')).length + 1) (Un.kept k3) (I.hok.kept k3)
    have lt : h₁.objs.size < h2.objs.size := Heap.lt_size e2
    refine J0.pins_of fun p hp => ?_
    obtain rfl := List.mem_singleton.mp hp
    refine ⟨hu, I.hok.fresh (Nat.le_of_lt lt), fun z => ?_, I.nofs (Nat.le_of_lt lt), fun v z => by cases z⟩
    have y : s.heap.objs.size < h₁.objs.size := I.lt
    have z : h2.objs.size = s.heap.objs.size := z
    omega
  have har : PA (ncx CX P w K mg base N (sF name qual params (.Expr (.Call (.Attribute (.Call (.Name "super" p0) [] [] p1) "__init__" p2) [.Constant (.str ms) j p3] [] p4) p5 :: rest) scope cc cda) f A outer s H E) [.Constant (.str ms) j p3] (tCons (tC (.str ms)) tNil) := pa_cons pe_str pa_nil
  refine PySem.W.kxs_callWith (i := "ValueError.__init__") (x := a) rfl (PySem.Calls.evalArgs_plain (thn (har.run p4 _ _ _ H (fun vs H1 => vs = [V.str ms] ∧ H1 = H) J ⟨rfl, rfl⟩) fun ur s1 ⟨vs, H1, I1, r1, ev, eH⟩ => ?_))
  subst eH
  have hu1 : s1.heap.get? h2.objs.size = some (PySem.W.kxs_mw "ValueError.__init__" a) := (I1.pin (h2.objs.size, PySem.W.kxs_mw "ValueError.__init__" a) (List.mem_append_right _ List.mem_cons_self)).1
  refine ⟨hu1, ?_⟩
  have hz : ur.length ≤ sizeLine := by
    rw [← r1.length, ev]
    show 1 ≤ sizeLine
    decide
  have I1k := I1.kIn
  obtain ⟨t2, hoa2⟩ := exo_at I1.hok ha
  have I1' := I1
  obtain ⟨hh, g, d, tk, os⟩ := s1
  refine wpAny_call (codeAny_of_tree ?_)
  show wpAny _ (Around.in1 _) (callAny (.ref h2.objs.size) ⟨[] ++ ur, []⟩) _ _ _
  simp only [callAny]
  refine wpAny_bind (wpAny_load hu1 ?_)
  simp only [PySem.W.kxs_mw, show (Value.type "method-wrapper" == Value.type "method" || Value.type "method-wrapper" == Value.type "builtin_function_or_method" || Value.type "method-wrapper" == Value.type "method-wrapper") = true by decide, if_true]
  refine PySem.W.KFB.if_so (by decide) ?_
  refine wpAny_bind (PySem.W.check_bound_init PySem.F.excBase_ValueError.toExcCallFacts (I1k _ _ hC) hoa2 rfl ?_)
  refine wpAny_bind (wpAny_pure (wpAny_pure ?_))
  refine ⟨plainId_quiet PySem.F.excBase_ValueError.init.plain _, codeAny_builtin PySem.F.excBase_ValueError.initEntry ?_⟩
  refine PySem.W.exc_init_tree (cls := .ref C) (t0 := t2) (dv := none) (c2 := .none) (c3 := .none) (b4 := .bool false) hoa2 hz fun h' k' hx _ => ?_
  have J2 := I1'.write (t' := tk) (x := a) (e := a) (o := exo a C none) (by rw [ha]; exact True.intro) (.inl rfl) k' ⟨_, hx⟩ (exo_ok hx)
  have eu : upd H1 a (exo a C none) = H1 := by
    funext b
    by_cases hb : b = a
    · rw [hb, upd_same, ha]
    · rw [upd_ne hb]
  rw [eu] at J2
  have J3 := J2.pins_of (pins' := []) fun p hp => nomatch hp
  exact wpAt_of_wpAny (go _ J3)
end
end VL

/-! a def with *v and **d, called with keywords -/
namespace VL
open PySem PySem.Spec PyProof.Rows L2
/-- the entry that a keyword makes -/
def kwE (P : Params) (t : Tok) (x : Str × Value) : DictEntry := ⟨PyData.keyHash P x.1, .str x.1 t, x.2⟩
/-- none of the entries has a key of these, none an object as its key -/
def Clear (es : List DictEntry) (ex : List (Str × Value)) : Prop := ∀ e ∈ es, e.refKey = false ∧ ∀ x ∈ ex, e.key.isStr x.1 = false
theorem Clear.next {P : Params} {t : Tok} {es : List DictEntry} {x : Str × Value} {ex : List (Str × Value)} (h : Clear es (x :: ex)) (hx : ∀ y ∈ ex, x.1 ≠ y.1) : Clear (es ++ [kwE P t x]) ex := fun e he =>
  (List.mem_append.mp he).elim (fun z => ⟨(h e z).1, fun y hy => (h e z).2 y (List.mem_cons_of_mem _ hy)⟩) fun z => by
    rw [List.mem_singleton.mp z]
    exact ⟨rfl, fun y hy => beq_eq_false_iff_ne.mpr (hx y hy)⟩
section
variable {prog : Program} {w : World} {A : Around} {E : Value → Shared → Prop} {d : Addr}
/-- one keyword goes into the dict at d -/
theorem kw_one {s : Shared} {es : List DictEntry} {n : Nat} {x : Str × Value} {Q : Unit → Shared → Prop} (at_ : s.heap.get? d = some (PySem.W.dictOf es n)) (cl : Clear es [x])
    (h : ∀ G, G.get? d = some (PySem.W.dictOf (es ++ [kwE w.params s.toks x]) (n + 1)) → (∀ b o, b ≠ d → s.heap.get? b = some o → G.get? b = some o) → Q () { s with heap := G, toks := s.toks + 1 }) :
    wpAny (model prog w) A (nsSet d x.1 x.2) Q E s := by
  have key : ∀ e ∈ es, e.key.isStr x.1 = false := fun e he => (cl e he).2 x (List.mem_singleton.mpr rfl)
  have noKey : (es.any fun e => e.key.isStr x.1) = false := List.any_eq_false.mpr fun e he => by simp [key e he]
  have noRef : (es.any fun e => e.refKey) = false := List.any_eq_false.mpr fun e he => by simp [(cl e he).1]
  have put : Obj.putName x.1 (PyData.keyHash w.params x.1) (.str x.1 s.toks) x.2 (PySem.W.dictOf es n) = PySem.W.dictOf (es ++ [kwE w.params s.toks x]) (n + 1) := by
    rw [PySem.W.putName_dict, PySem.W.putL_new key]
    exact congrArg (PySem.W.dictOf _) (if_neg (by rw [noKey]; exact Bool.false_ne_true))
  have plain : aRefKeyMayBeTheName x.1 es.toArray = false := by
    rw [aRefKeyMayBeTheName_at]
    simp [noKey, noRef]
  unfold nsSet
  refine wpAny_bind ?_
  refine wpAny_bind ?_
  refine wpAny_askSetting (wpAny_pure ?_)
  refine wpAny_bind (wpAny_mkText ?_)
  refine wpAny_bind (wpAny_loadPart at_ ?_)
  dsimp only
  rw [plain]
  exact wpAny_updatePart at_ (h _ ((Heap.get?_update_self _ at_ ((congrArg Obj.isFreed put).trans rfl)).trans (congrArg some put)) fun b o nb z => (Heap.get?_update_other _ _ (Ne.symm nb)).trans z)
/-- all of them, one behind another -/
theorem kw_all : ∀ (ex : List (Str × Value)) {s : Shared} {es : List DictEntry} {n : Nat} {Q : PUnit → Shared → Prop}, s.heap.get? d = some (PySem.W.dictOf es n) → Clear es ex → (ex.map (·.1)).Nodup →
    (∀ G, G.get? d = some (PySem.W.dictOf (es ++ PySem.W.kwEs w.params s.toks ex) (n + ex.length)) → (∀ b o, b ≠ d → s.heap.get? b = some o → G.get? b = some o) → Q ⟨⟩ { s with heap := G, toks := s.toks + ex.length }) →
    wpAny (model prog w) A (forIn ex PUnit.unit fun x _ => nsSet d x.1 x.2 >>= fun _ => pure (ForInStep.yield PUnit.unit)) Q E s := by
  intro ex
  induction ex with
  | nil =>
    intro s es n Q at_ _ _ h
    have z := h s.heap (by rw [show PySem.W.kwEs w.params s.toks [] = [] from rfl, List.append_nil]; exact at_) fun _ _ _ e => e
    rw [List.forIn_nil]
    exact wpAny_pure z
  | cons x ex ih =>
    intro s es n Q at_ cl nd h
    have nd2 := List.nodup_cons.mp (show (x.1 :: ex.map (·.1)).Nodup from nd)
    have far : ∀ y ∈ ex, x.1 ≠ y.1 := fun y hy e => nd2.1 (e ▸ List.mem_map_of_mem hy)
    rw [List.forIn_cons]
    refine wpAny_bind (wpAny_bind (kw_one at_ (fun e he => ⟨(cl e he).1, fun y hy => (cl e he).2 y (by rw [List.mem_singleton.mp hy]; exact List.mem_cons_self)⟩) fun G at2 k2 => wpAny_pure ?_))
    refine ih (s := { s with heap := G, toks := s.toks + 1 }) at2 (cl.next far) nd2.2 fun G2 at3 k3 => ?_
    have z := h G2 (by rw [List.append_assoc] at at3; rw [List.length_cons, Nat.add_comm ex.length 1, ← Nat.add_assoc]; exact at3) fun b o nb e => k3 b o nb (k2 b o nb e)
    rw [List.length_cons, Nat.add_comm ex.length 1, ← Nat.add_assoc] at z
    exact z
end
/-! ### the dict as HandS tells it -/
def kwD (ex : List (Str × V)) : List (Key × V) := ex.map fun x => (Sum.inr x.1, x.2)
def kwU (ex : List (Str × Value)) : List (Key × Value) := ex.map fun x => (Sum.inr x.1, x.2)
theorem kw_pairs {P : Program} {w : World} : ∀ (ex : List (Str × Value)) (t : Tok), Pairs (mixKind P w) (PySem.W.kwEs w.params t ex) (kwU ex)
  | [], _ => Pairs.nil
  | x :: r, t => Pairs.cons (keyIs_str x.1 t) rfl (kw_pairs r (t + 1))
theorem kw_dict {P : Program} {w : World} {h : Heap} {a : Addr} {ex : List (Str × Value)} {t : Tok} {n : Nat} (hd : h.get? a = some (PySem.W.dictOf (PySem.W.kwEs w.params t ex) n)) (hn : (ex.map (·.1)).Nodup) : h.DictOf (mixKind P w) a (kwU ex) := by
  refine ⟨_, (PySem.W.kwEs w.params t ex).toArray, n, hd, ⟨rfl, rfl, rfl⟩, rfl, fun e he => ?_, kw_pairs ex t, ?_⟩
  · obtain ⟨k, u, hk, hh⟩ := PySem.W.kwEs_key ex t e (List.mem_toArray.mp he)
    exact ⟨.inr k, by rw [hk]; exact keyIs_str k u, hh.trans rfl⟩
  · unfold kwU
    rw [List.map_map]
    have e : ((fun x : Key × Value => x.1) ∘ fun x : Str × Value => ((Sum.inr x.1 : Key), x.2)) = (fun k : Str => (Sum.inr k : Key)) ∘ fun x : Str × Value => x.1 := rfl
    rw [e, ← List.map_map]
    exact hn.map _ fun a b ne z => ne (Sum.inr.inj z)
theorem kw_KV : ∀ {ks : List Str} {zs : List V} {ws : List Value}, Vals zs ws → KV (kwD (ks.zip zs)) (kwU (ks.zip ws))
  | [], _, _, _ => .nil
  | _ :: _, _, _, .nil => .nil
  | k :: ks, _, _, .cons r rs => .cons ⟨rfl, r⟩ (kw_KV rs)
/-- the promise of a def that is called with keywords of these names -/
def FnRK (P : Program) (w : World) (K : PySem.W.Frag) (mg : Str → Option Value) (base : Heap) (CX : CXT) (k : Nat) (f : Addr) (ks : List Str) (sp : List V → Sp) : Prop :=
  ∀ (A : Around) (outer : List Env) (s : Shared) (H : Hp) (us ws : List Value) (vs zs : List V) (Q : VK) (E : XK), Room k A → Env0 P w K mg base A outer s H → Vals vs us → Vals zs ws → zs.length = ks.length → sp zs vs H Q E →
    codeAny (model P w) A (.call (.ref f) ⟨us, ks.zip ws⟩) (CR CX outer P w H s Q E) s
theorem nodup_zip : ∀ {ks : List Str} {ws : List Value}, ks.Nodup → ((ks.zip ws).map (·.1)).Nodup
  | [], _, _ => by simp
  | _ :: _, [], _ => by simp
  | k :: ks, w :: ws, h => by
    have nd := List.nodup_cons.mp h
    exact List.nodup_cons.mpr ⟨fun z => by
      obtain ⟨p, hp, e⟩ := List.mem_map.mp z
      exact nd.1 (by rw [show k = p.1 from e.symm]; exact (List.of_mem_zip hp).1), nodup_zip nd.2⟩
section
variable {CX : CXT} {P : Program} {w : World} {K : PySem.W.Frag} {mg : Str → Option Value} {base : Heap} {N ps : List Str} {k : Nat} {sp : Sp} {f : Addr} {name qual : Str} {params : Arguments} {body : List Stmt} {scope : Scope} {dV kV doc pm cdv ct oc : Value} {an od : Option Addr} {osl : Array (Option Value)}
theorem fn_kw {pv pd : Str} {ks : List Str} (lk : K.lookup f = some ⟨oc, od, .func (PySem.W.fnOf name qual params body scope dV kV doc pm an cdv ct), osl⟩) (hcd : PySem.W.codeIn K cdv qual = true) (S : FnScope N (ps ++ [pv, pd]) scope) (hCX : StX.CXUp CX)
    (hnd : ks.Nodup) (hks : ks.length ≤ 1000)
    (hb : ∀ us rest ws : List Value, us.length = ps.length → ws.length = ks.length → bindArgs (PySem.W.fnOf name qual params body scope dV kV doc pm an cdv ct) ⟨us ++ rest, ks.zip ws⟩ =
      (newTuple rest >>= fun t => (alloc ({ cls := .type "dict", data := .dict #[] } : Obj) : Sem Addr) >>= fun d => (forIn (ks.zip ws) PUnit.unit fun x _ => (nsSet d x.1 x.2 >>= fun _ => pure (ForInStep.yield PUnit.unit))) >>= fun _ => pure (ps.zip us ++ [(pv, t), (pd, Value.ref d)])))
    (hbody : ∀ (A : Around) (outer : List Env) (s : Shared) (H : Hp) (vs : List V) (Q : VK) (E : XK), Room k (A.deeper (envOfC qual scope s.heap.objs.size f cdv)) → sp vs H Q E →
      ∃ t, PSs (cxOf CX P w K mg base N qual scope f cdv A outer s H E) body t ∧ t { nx := fun _ H' => Q .non H', rt := Q } (start N vs) H) :
    FnRK P w K mg base CX (k + 1) f ks (fun zs vs H Q E => ∃ ws rest, vs = ws ++ rest ∧ ws.length = ps.length ∧ rest.length ≤ sizeLine ∧ ∀ p d, H p = Option.none → H d = Option.none → d ≠ p → sp (ws ++ [V.ref p, V.ref d]) (upd (upd H p (.tup rest)) d (.dK (kwD (ks.zip zs)))) Q E) := by
  intro A outer s H us kws vs zs Q E hr e0 r rz lz want
  obtain ⟨ws, rest, rfl, lw, zr, want⟩ := want
  obtain ⟨ua, ub, rfl, ra, rb⟩ := StX.vals_split r
  have lu : ua.length = ps.length := ra.length.symm.trans lw
  have lk2 : kws.length = ks.length := rz.length.symm.trans lz
  have tn : H s.heap.objs.size = Option.none := e0.hok.fresh (Nat.le_refl _)
  -- the tuple's object, the heap with it, the dict's place
  let ot : Obj := { cls := .type "tuple", data := .seq ub.toArray }
  have grown : (s.heap.push ot).objs.size = s.heap.objs.size + 1 := Heap.size_push _ _
  have apart : (s.heap.push ot).objs.size ≠ s.heap.objs.size := fun z => absurd (grown.symm.trans z) (Nat.succ_ne_self _)
  have dn : H (s.heap.push ot).objs.size = Option.none := e0.hok.fresh (grown ▸ Nat.le_succ _)
  let Ht := upd H s.heap.objs.size (.tup rest)
  let Hd := upd Ht (s.heap.push ot).objs.size (.dK (kwD (ks.zip zs)))
  refine StX.run_bnd lk hcd S hr e0 (G := fun xs G => ∃ p d, H p = Option.none ∧ H d = Option.none ∧ d ≠ p ∧ xs = ws ++ [V.ref p, V.ref d] ∧ G = upd (upd H p (.tup rest)) d (.dK (kwD (ks.zip zs)))) (fun A' Ex Q' go => ?_) fun s2 G xs ⟨p, d, fp, fd, ne, ex, eG⟩ hr' => ?_
  · rw [hb ua ub kws lu lk2]
    refine wpAny_bind (wpAny_newTuple (wpAny_bind (wpAny_alloc (wpAny_bind ?_))) (rb.length ▸ zr))
    refine kw_all (ks.zip kws) (s := { s with heap := (s.heap.push ot).push ({ cls := .type "dict", data := .dict #[] } : Obj) }) (es := []) (n := 0) (Heap.get?_push_size _ rfl) (fun _ z => nomatch z) (nodup_zip hnd) fun F atd kF => wpAny_pure ?_
    have okT : ObjOk P w Ht (s.heap.push ot) s.heap.objs.size (.tup rest) := ⟨zr, ub, rb, ot, Heap.get?_push_size _ rfl, rfl, _, rfl⟩
    have eT := StX.env0_laid e0 okT
    have unT := StX.un_laid (fs := frs outer) (s := s) (o := ot) (u := .tup rest) tn
    have k1 : ∀ b o, (s.heap.push ot).get? b = some o → F.get? b = some o := fun b o e => kF b o (Nat.ne_of_lt (Heap.lt_size e)) (Heap.get?_push_of_some _ e)
    have okD : ObjOk P w Hd F (s.heap.push ot).objs.size (.dK (kwD (ks.zip zs))) := by
      refine dk_new ?_ (beq_eq_false_iff_ne.mpr (Ne.symm (Nat.ne_of_lt (StX.env0_big eT)))) (kw_KV rz) (kw_dict (by rw [List.nil_append] at atd; exact atd) (nodup_zip hnd))
      have few : (kwD (ks.zip zs)).length ≤ ks.length := by
        unfold kwD
        rw [List.length_map, List.length_zip]
        exact Nat.min_le_left _ _
      exact Nat.le_trans (Nat.le_trans few hks) (by decide)
    have unD : Un (frs outer) [] Ht Hd (s.heap.push ot) F := Un.laid k1 (Nat.le_refl _) (eT.hok.fresh (Nat.le_refl _))
    have eD : Env0 P w K mg base A outer { s with heap := F, toks := s.toks + (ks.zip kws).length } Hd :=
      { frames := eT.frames, mod := eT.mod, bare := eT.bare
        bs := fun b x e => ⟨k1 b x (eT.bs b x e).1, (upd_ne (Nat.ne_of_lt (Heap.lt_size (eT.bs b x e).1))).trans (eT.bs b x e).2⟩
        bsz := Nat.le_trans eT.bsz (Nat.le_of_lt (Heap.lt_size atd))
        funs := Heap.FunFrames.of_keeps (fun b x e _ => ⟨x, k1 b x e, rfl⟩) eT.funs
        frf := fun b z => by
          obtain ⟨_, x, e, _⟩ := eT.funs.mem z
          exact (upd_ne (Nat.ne_of_lt (Heap.lt_size e))).trans (eT.frf b z)
        hok := eT.hok.laid k1 (Nat.le_refl _) okD }
    have out := go _ _ (ws ++ [V.ref s.heap.objs.size, V.ref (s.heap.push ot).objs.size]) (ua ++ [Value.ref s.heap.objs.size, Value.ref (s.heap.push ot).objs.size]) eD (unT.trans unD) rfl
      (fun e s' => hCX outer s H _ _ E e s' (unT.trans unD) (fun b o z => k1 b o (Heap.get?_push_of_some _ z)) rfl) (ra.append (.cons rfl (.cons rfl .nil))) (by rw [List.length_append, List.length_append, lw] <;> rfl) ⟨_, _, tn, dn, apart, rfl, rfl⟩
    rw [List.zip_append lu.symm] at out
    exact out
  · subst ex eG
    exact hbody A outer s2 _ _ Q E hr' (want p d fp fd ne)
end
end VL

/-! raising an own exception of one field; a method called with keywords, which may raise -/
namespace VL
open PySem PySem.Spec PyProof.Rows L2
/-- __init__ of an own exception with one field -/
def spSup1 (C : Addr) (fld : Str) : Sp := fun vs H Q _ => ∃ (a : Addr) (x : V), vs = [.ref a, x] ∧ H a = some (exo a C none) ∧ ∀ dx, H dx = none → dx ≠ a → Q .non (upd (upd H dx (exd dx [(fld, x)])) a (exo a C (some dx)))
/-- the own exception of the name x: its class at C, its field -/
structure OwnX (P : Program) (w : World) (K : PySem.W.Frag) (mg : Str → Option Value) (base : Heap) (x : Str) (C : Addr) (fld : Str) : Prop where
  o : OexC K C
  ex : ∃ (fI : Addr) (fd : FuncData) (ps : List Str), FnOk P w K mg base CX0 2 fI fd ps (spSup1 C fld) ∧ PySem.W.findIn K (.ref C) "__init__" = some (some (.ref fI)) ∧ PySem.W.typeIn K (.ref fI) = some (.type "function") ∧ Binds K fd ps []
  m : mg x = some (.ref C)
  no : PySem.W.findIn K (.ref C) fld = some none
  xf : XfC K C
  te : PySem.W.exmOne K (.ref C) (.ref C) = some true
/-- X(e): whatever free place the fields take -/
def tX1 (C : Addr) (fld : Str) (ta : TA) : L2.St → Hp → XK → Prop := fun σ H Q => ta σ H fun vs H1 => ∃ x, vs = [x] ∧ ∀ d, H1 d = none → Q (.ref C) (some d) (upd H1 d (.xd [(fld, x)]))
/-- an argument list's reading, closed under weaker wishes -/
def clos (ta : TA) : TA := fun σ H k => ∃ k0 : List V → Hp → Prop, ta σ H k0 ∧ ∀ vs H1, k0 vs H1 → k vs H1
theorem pa_clos {X : Cx} {es : List Expr} {ta : TA} (ha : PA X es ta) : PA X es (clos ta) :=
  ⟨fun pos pins s σ H Q I ⟨_, h, hk⟩ => thn (ha.run pos pins s σ H _ I h) fun _ _ ⟨vs, H1, J, r, q⟩ => ⟨vs, H1, J, r, hk _ _ q⟩⟩
/-- the exception let go, its fields stand alone -/
theorem fields_alone {H : Hp} {a dx C : Addr} {fld : Str} {y : V} (na : H a = none) :
    upd (L2.del (upd (upd (upd H a (exo a C none)) dx (exd dx [(fld, y)])) a (exo a C (some dx))) a) dx (.xd [(fld, y)]) = upd H dx (.xd [(fld, y)]) := funext fun b => by
  by_cases h1 : b = dx
  · rw [h1, upd_same, upd_same]
  · by_cases h2 : b = a
    · rw [upd_ne h1, upd_ne h1, h2, del_same, na]
    · rw [upd_ne h1, upd_ne h1, del_ne h2, upd_ne h2, upd_ne h1, upd_ne h2]
/-- what __init__ is asked, out of what the raise is wished to leave -/
theorem sup1_asked {C a : Addr} {fld : Str} {y : V} {H : Hp} {Q : XK} (na : H a = none) (q : ∀ d, H d = none → Q (.ref C) (some d) (upd H d (.xd [(fld, y)]))) :
    spSup1 C fld (.ref a :: ([y] ++ [])) (upd H a (exo a C none)) (fun v H2 => v = .non ∧ ∃ (d : Addr) (fs : List (Str × V)), H2 a = some (exo a C (some d)) ∧ H2 d = some (exd d fs) ∧ H d = none ∧ Q (.ref C) (some d) (upd (L2.del H2 a) d (.xd fs))) (fun _ _ _ => False) := by
  refine ⟨a, y, rfl, upd_same, fun dx ndx ne => ?_⟩
  rw [upd_ne ne] at ndx
  refine ⟨rfl, dx, [(fld, y)], upd_same, by rw [upd_ne ne, upd_same], ndx, ?_⟩
  rw [fields_alone na]
  exact q dx ndx
theorem pmk_own1x {X : Cx} {C : Addr} {fld x : Str} {e : Expr} {ta : TA} {p pos : Pos} {j : Nat} (O : OwnX X.prog X.w X.K X.mg X.base x C fld) (hr : Room j X.A) (hj : 3 ≤ j) (hg : Gl X x) (ha : PA X [e] ta) (hdb : (x == ("__debug__" : Str)) = false := by decide)
    (he : starEach (e :: []) X.env = (false, eval e X.env) :: starEach [] X.env := by rfl) (hpl : (backTo pos (starEach [] X.env)).any (·.1) = false := by rfl) :
    PMk X (.Call (.Name x p) [e] [] pos) (tX1 C fld ta) := by
  obtain ⟨fI, fd, ps, F1, iC, tI, hb⟩ := O.ex
  have base := pmk_oex (ta := clos ta) (pos := pos) (p := p) O.o iC tI F1 (hr.mono hj) hb .nil pass0 hg O.m (pa_clos ha) hdb he hpl
  intro pins s σ H Q I h
  exact base pins s σ H Q I ⟨_, h, fun vs H1 ⟨y, ev, q⟩ => by
    subst ev
    exact ⟨by show 1 ≤ 1000; decide, fun a na => sup1_asked na q⟩⟩
/-! ### o.m(e, .., k = v, ..), which may raise -/
def tMethKw (C : Addr) (m : Str) (n : Nat) (sp : List V → Sp) (E : L2.St → XK) (ta : TE) (t tk : TA) : TE := fun σ H Q => ta σ H fun x H1 => ∃ a dx fs, x = .ref a ∧ H1 a = some (.ins C dx fs) ∧ fs.lookup m = none ∧
  t σ H1 fun vs H2 => tk σ H2 fun zs H3 => zs.length = n ∧ sp zs (x :: vs) H3 Q (E σ)
section
variable {X : Cx} {CX : CXT} {k : Nat} {f C : Addr} {m : Str} {ks : List Str} {sp : List V → Sp} {E : L2.St → XK} {o e : Expr} {es : List Expr} {kws : List Keyword} {ta : TE} {t tk : TA} {apos pos : Pos}
theorem run_kw {pins : List (Addr × Obj)} {σ : L2.St} {H : Hp} {s : Shared} {Q : VK} {us ws : List Value} {vs zs : List V} (F : FnRK X.prog X.w X.K X.mg X.base CX k f ks sp) (hr : Room k X.A) (hx : PassesAt CX X σ (E σ))
    (J : Inv X pins σ H s) (r : Vals vs us) (rz : Vals zs ws) (l : zs.length = ks.length) (h : sp zs vs H Q (E σ)) : wpAny (model X.prog X.w) X.A (call (.ref f) us (ks.zip ws)) (EP X pins σ Q) X.xe s :=
  wpAny_call (codeAny_mono (F X.A X.stack s H us ws vs zs Q (E σ) hr J.env0 r rz l h) fun
    | .error _, _, hq => hx _ _ _ _ _ J hq
    | .ok (.ret _), _, hq => J.after hq
    | .ok .next, _, hq => hq.elim
    | .ok .brk, _, hq => hq.elim
    | .ok .cont, _, hq => hq.elim)
/-- the method is found; what follows is the call with the object ahead -/
theorem meth_then {pl : Sem Bool} {pins : List (Addr × Obj)} {σ : L2.St} {H : Hp} {s : Shared} {Q : VK} {R : V → Hp → Prop} (he : PE X o ta) (c : Cls X.K C) (hm : Meth X.K C m f)
    (ht : eval (.Call (.Attribute o m apos) es kws pos) X.env = (eval o X.env >>= fun ov => standAt apos.atName >>= fun _ => holding [ov] (getMethod ov m pl) >>= fun gf => callWith pos gf.1 gf.2 (backTo pos (starEach es X.env)) (backToKw pos (keywordEach kws X.env))))
    (J : Inv X pins σ H s) (h : ta σ H fun x H1 => ∃ a dx fs, x = .ref a ∧ H1 a = some (.ins C dx fs) ∧ fs.lookup m = none ∧ R x H1)
    (go : ∀ a H1 s1, Inv X pins σ H1 s1 → R (.ref a) H1 → wpAny (model X.prog X.w) X.A (callWith pos (.ref f) [.ref a] (backTo pos (starEach es X.env)) (backToKw pos (keywordEach kws X.env))) (EP X pins σ Q) X.xe s1) :
    wpAny (model X.prog X.w) X.A (eval (.Call (.Attribute o m apos) es kws pos) X.env) (EP X pins σ Q) X.xe s :=
  PySem.W.methodCall_KW (pl := pl) (thn (he.run pins s σ H _ J h) fun w s1 ⟨_, H1, J1, rw, a, _, _, e, ea, l, r⟩ => by
    subst e
    cases rw
    exact getmeth_ok J1 ea c hm l (go a H1 s1 J1 r)) ht
theorem pe_methKw {pl : Sem Bool} (he : PE X o ta) (c : Cls X.K C) (hm : Meth X.K C m f) (F : FnRK X.prog X.w X.K X.mg X.base CX k f ks sp) (hr : Room k X.A) (hx : ∀ σ, PassesAt CX X σ (E σ)) (ha : PA X (e :: es) t) (hkw : PK X kws tk)
    (hall : (backToKw pos (keywordEach kws X.env)).all (·.1.isSome) = true := by rfl) (hks : (backToKw pos (keywordEach kws X.env)).filterMap (·.1) = ks := by rfl)
    (hst : starEach (e :: es) X.env = (false, eval e X.env) :: starEach es X.env := by rfl) (hpl : ((backTo pos (starEach (e :: es) X.env)).any (·.1) || (backToKw pos (keywordEach kws X.env)).any (·.1.isNone)) = false := by rfl)
    (ht : eval (.Call (.Attribute o m apos) (e :: es) kws pos) X.env = (eval o X.env >>= fun ov => standAt apos.atName >>= fun _ => holding [ov] (getMethod ov m pl) >>= fun gf => callWith pos gf.1 gf.2 (backTo pos (starEach (e :: es) X.env)) (backToKw pos (keywordEach kws X.env))) := by rfl) :
    PE X (.Call (.Attribute o m apos) (e :: es) kws pos) (tMethKw C m ks.length sp E ta t tk) :=
  ⟨fun pins s σ H Q J h => meth_then (R := fun x H1 => t σ H1 fun vs H2 => tk σ H2 fun zs H3 => zs.length = ks.length ∧ sp zs (x :: vs) H3 Q (E σ)) he c hm ht J h fun a H1 s1 J1 q =>
    PySem.W.callWith_KW (h₀ := X.base) J.ok.mod.kin hm.kp hall (thn (ha.run pos pins s1 σ H1 _ J1 q) fun us s2 ⟨vs, H2, J2, r, q2⟩ =>
      thn (hkw.run pos pins s2 σ H2 _ J2 q2) fun ws s3 ⟨zs, H3, J3, rz, lz, q3⟩ => ⟨J3.kIn, by
        rw [hks]
        exact run_kw (us := .ref a :: us) (vs := .ref a :: vs) F hr (hx σ) J3 (.cons rfl r) rz lz q3⟩) hpl hst⟩
theorem pe_methKw0 {pl : Sem Bool} (he : PE X o ta) (c : Cls X.K C) (hm : Meth X.K C m f) (F : FnRK X.prog X.w X.K X.mg X.base CX k f ks sp) (hr : Room k X.A) (hx : ∀ σ, PassesAt CX X σ (E σ)) (hkw : PK X kws tk)
    (hall : (backToKw pos (keywordEach kws X.env)).all (·.1.isSome) = true := by rfl) (hks : (backToKw pos (keywordEach kws X.env)).filterMap (·.1) = ks := by rfl)
    (hpl : ((backTo pos (starEach [] X.env)).any (·.1) || (backToKw pos (keywordEach kws X.env)).any (·.1.isNone)) = false := by rfl)
    (ht : eval (.Call (.Attribute o m apos) [] kws pos) X.env = (eval o X.env >>= fun ov => standAt apos.atName >>= fun _ => holding [ov] (getMethod ov m pl) >>= fun gf => callWith pos gf.1 gf.2 (backTo pos (starEach [] X.env)) (backToKw pos (keywordEach kws X.env))) := by rfl) :
    PE X (.Call (.Attribute o m apos) [] kws pos) (tMethKw C m ks.length sp E ta tNil tk) :=
  ⟨fun pins s σ H Q J h => meth_then (R := fun x H1 => tk σ H1 fun zs H3 => zs.length = ks.length ∧ sp zs [x] H3 Q (E σ)) he c hm ht J h fun a H1 s1 J1 q =>
    PySem.W.callWith_KW0 (h₀ := X.base) J.ok.mod.kin hm.kp hall (thn (hkw.run pos pins s1 σ H1 _ J1 q) fun ws s3 ⟨zs, H3, J3, rz, lz, q3⟩ => ⟨J3.kIn, by
        rw [hks]
        exact run_kw (us := [.ref a]) (vs := [.ref a]) F hr (hx σ) J3 (.cons rfl .nil) rz lz q3⟩) hpl⟩
end
end VL

/-! an own exception of one field, out of its text -/
namespace VL
open PySem PySem.Spec PyProof.Rows L2
open NdefX (NScope nscope_by ncx envF startF)
theorem ok_own1 {P : Program} {w : World} {K : PySem.W.Frag} {mg : Str → Option Value} {base : Heap} {f C cc cda : Addr} {prm fld qual : Str} {st : Stmt} {dV kV doc pm ct oc : Value} {an od : Option Addr} {osl : Array (Option Value)}
    {ar : Arg} {p0 p1 p2 p3 p4 p5 q1 q2 q3 q4 : Pos} {ms : Str} {j : Nat}
    (ebody : defBody st = .Expr (.Call (.Attribute (.Call (.Name "super" p0) [] [] p1) "__init__" p2) [.Constant (.str ms) j p3] [] p4) p5 :: [.Assign [.Attribute (.Name "self" q1) fld q2] (.Name prm q3) q4])
    (lk : K.lookup f = some ⟨oc, od, .func (PySem.W.ksFn "__init__" qual (defArgs st) (defBody st) (defScope st) dV kV doc pm an (.ref cda) ct cc), osl⟩)
    (hcd : PySem.W.codeIn K (.ref cda) qual = true) (S : NScope ["self", prm, "__class__"] ["self", prm] ["__class__"] (defScope st))
    (hp : ((defArgs st).posonlyargs ++ (defArgs st).args).head? = some ar) (har : ar.arg = "self") (hks : (defScope st).names.lookup ("super" : Str) = some .globalImplicit)
    (T : SupC P K mg C cc cda) (hpos : p2.endLine = p4.line) (no : PySem.W.findIn K (.ref C) fld = some none) (hd1 : (prm == ("__debug__" : Str)) = false) (hd2 : (prm == ("__classdict__" : Str)) = false) :
    FnOk P w K mg base CX0 2 f (PySem.W.ksFn "__init__" qual (defArgs st) (defBody st) (defScope st) dV kV doc pm an (.ref cda) ct cc) ["self", prm] (spSup1 C fld) := by
  refine fn_super (ps := [prm]) (k := 1) ebody lk hcd S hp har hks T hpos (fun A outer s H vs Q E hr h => ?_) (fun vs H Q E h => ?_)
  · obtain ⟨a, x, rfl, ha, q⟩ := h
    refine ⟨a, [x], rfl, rfl, ha, _, pss_one (ps_ost (to := tVar 0) (te := tVar 1) (pe_var rfl (.inl (S.par _ (by simp)))) (pe_var rfl (.inl (S.par _ (by simp))) hd1 hd2)), ?_⟩
    exact ⟨_, rfl, _, rfl, a, C, rfl, T.o, no, .inl ⟨ha, fun dx ndx ne => q dx ndx ne⟩⟩
  · obtain ⟨a, x, rfl, _⟩ := h
    rfl
end VL

/-! raising where the handler calls defs: the same, with the exception's context told -/
namespace VL
open PySem PySem.Spec PyProof.Rows L2
/-- what the class's call gives, told once for both layers -/
theorem own_called {X : Cx} {C fI : Addr} {fd : FuncData} {ps : List Str} {fld : Str} {pins : List (Addr × Obj)} {σ : L2.St} {H1 : Hp} {s1 : Shared} {y : V} {us : List Value} {Q : XK} (T : OexC X.K C) (iC : PySem.W.findIn X.K (.ref C) "__init__" = some (some (.ref fI))) (tI : PySem.W.typeIn X.K (.ref fI) = some (.type "function"))
    (F1 : FnOk X.prog X.w X.K X.mg X.base CX0 2 fI fd ps (spSup1 C fld)) (hb : Binds X.K fd ps []) (hr : Room 3 X.A) (J : Inv X pins σ H1 s1) (r : Vals [y] us) (q : ∀ d, H1 d = none → Q (.ref C) (some d) (upd H1 d (.xd [(fld, y)]))) :
    wpAny (model X.prog X.w) X.A (call (.ref C) us) (L2N.MkP X pins σ Q) X.xe s1 := by
  obtain ⟨nm, qn, N, bs, bm, sn, sub, ab, col, dd, m0, m1, m2, m3, m5, at_, chain⟩ := T.cls
  obtain ⟨h0, g0, d0, k0, o0⟩ := s1
  -- the arguments' tuple, the bare exception
  let te : Obj := PySem.W.kdv_tup us
  let E0 : Addr := h0.objs.size + 1
  let hx := (h0.push te).push (PySem.HandSPX.excO C h0.objs.size)
  have more : ∀ b o, h0.get? b = some o → hx.get? b = some o := fun b o e => Heap.get?_push_of_some _ (Heap.get?_push_of_some _ e)
  have bare : hx.get? E0 = some (PySem.HandSPX.excO C h0.objs.size) := by
    show ((h0.push te).push _).get? (h0.objs.size + 1) = _
    rw [← Heap.size_push h0 te]
    exact Heap.get?_push_size _ rfl
  have free : H1 E0 = none := J.hok.fresh (Nat.le_succ _)
  have Jx : Inv X pins σ (upd H1 E0 (exo E0 C none)) ⟨hx, g0, d0, k0, o0⟩ := J.laid (t' := k0) more (Nat.le_succ _) (exo_ok bare)
  have asked := sup1_asked (C := C) (fld := fld) free q
  have rv : Vals (V.ref E0 :: ([y] ++ [])) (Value.ref E0 :: us) := .cons rfl r
  have len : (Value.ref E0 :: us).length = ps.length := rv.length.symm.trans (F1.len _ _ _ _ asked)
  have bound : BindsTo ⟨hx, g0, d0, k0, o0⟩ fd ⟨Value.ref E0 :: us, []⟩ (ps.zip (Value.ref E0 :: us)) := by
    have z := hb ⟨hx, g0, d0, k0, o0⟩ (Value.ref E0 :: us) Jx.kIn (by rw [List.append_nil]; exact len)
    rw [List.append_nil] at z
    exact z
  have short : us.length ≤ sizeLine := by
    rw [← r.length]
    show 1 ≤ sizeLine
    decide
  refine wpAny_call (PySem.HandSPX.call_own PySem.F.excBase_ValueError (fun Y => PySem.HandSPX.refsVE_contains Y bm chain) (J.kIn _ _ at_) (PySem.W.looks_findIn J.kIn iC) (fun self => PySem.W.bind_fn J.kIn self tI) short
    (codeAny_mono (F1.run _ X.stack _ _ _ _ _ _ _ (hr.make C us []) (Jx.env0.make C us []) bound rv asked) fun
    | .error e, s', z => z.elim
    | .ok .next, _, z => z.elim
    | .ok .brk, _, z => z.elim
    | .ok .cont, _, z => z.elim
    | .ok (.ret u), s', z => ?_))
  obtain ⟨v, H2, sameOs, bareG, un, ok, ru, ev, d, fs, ea, ed, nd, q2⟩ := z
  subst ev
  obtain ⟨h2, g2, d2, k2, o2⟩ := s'
  obtain ⟨t0, G, JG, up, gone, there, na⟩ := mk_end0 (d2 := d2) (t2 := k2) J (Nat.le_succ _) more un ok sameOs bareG ea ed nd
  refine ⟨ru, E0, _, _, ⟨G, g2, d2, k2, o2⟩, _, .ref C, some d, rfl, JG, up, gone, there, ⟨rfl, rfl, fun vs e => ?_⟩, rfl, rfl, na, rfl, bareG, raises_own T.exC T.tyC, q2⟩
  cases e
  rfl
section
variable {X : Cx} {C : Addr} {fld x : Str} {e : Expr} {ta : TA} {p pos : Pos} {j : Nat}
theorem pmk_own1xN (O : OwnX X.prog X.w X.K X.mg X.base x C fld) (hr : Room j X.A) (hj : 3 ≤ j) (hg : Gl X x) (ha : PA X [e] ta) (hdb : (x == ("__debug__" : Str)) = false := by decide)
    (he : starEach (e :: []) X.env = (false, eval e X.env) :: starEach [] X.env := by rfl) (hpl : (backTo pos (starEach [] X.env)).any (·.1) = false := by rfl) :
    L2N.PMk X (.Call (.Name x p) [e] [] pos) (tX1 C fld ta) := by
  obtain ⟨fI, fd, ps, F1, iC, tI, hb⟩ := O.ex
  exact fun pins s σ H Q J h => wpAny_Call_Name_kw (ld_glob J hg O.m (PySem.W.callWith_K (h₀ := X.base) J.ok.mod.kin O.o.kC (thn (ha.run pos pins s σ H _ J h) fun us s1 ⟨vs, H1, J1, r, y, ev, q⟩ => ⟨J1.kIn, by
    subst ev
    exact own_called O.o iC tI F1 hb (hr.mono hj) J1 r q⟩) he hpl) hdb)
end
/-- a plain def as one that is called with no keywords -/
theorem fn_rk0 {CX : CXT} {P : Program} {w : World} {K : PySem.W.Frag} {mg : Str → Option Value} {base : Heap} {k : Nat} {f : Addr} {fd : FuncData} {ps : List Str} {sp : Sp} (F : FnOk P w K mg base CX k f fd ps sp) (hb : Binds K fd ps []) : FnRK P w K mg base CX k f [] (fun _ => sp) := by
  intro A outer s H us ws vs zs Q E hr e0 r rz hl h
  refine F.run A outer s H ⟨us, []⟩ us vs Q E hr e0 ?_ r h
  have z := hb s us (e0.mod.kin.keeps fun b o e => (e0.bs b o e).1) (by rw [List.append_nil]; exact r.length.symm.trans (F.len _ _ _ _ h))
  rw [List.append_nil] at z
  exact z
/-- a suite in which defs may be called -/
theorem hot_suite {X : Cx} {a : Addr} {oe : Obj} {cls : Value} {d : Option Addr} {pn : List (Addr × Obj)} (hz : L2N.Zn cls d oe) (hf : ∃ vs, oe.data = .fields vs) : L2H.HotC (X.suite a ((a, oe) :: pn)) :=
  hf.elim fun vs hv => ⟨(a, oe), ⟨rfl, vs, hv, hz.2.2 vs hv⟩, .head _⟩
end VL

namespace VL
open PySem PySem.Spec PyProof.Rows L2
/-- isinstance(e, c), e the error that the suite holds, its dict at d -/
def rIsD (K : PySem.W.Frag) (D a d : Addr) : List V → Hp → VK → Prop := fun xs H Q => ∃ (c : V) (cv : Value) (b : Bool) (fs : List (Str × V)), xs = [.ref a, c] ∧ H d = some (.xd fs) ∧ (∀ u, RelV c u → u = cv) ∧ PySem.W.kitOne K (.ref D) cv = some b ∧ Q (.bl b) H
theorem call_isD {X : Cx} {a D d : Addr} {oe : Obj} {pn : List (Addr × Obj)} (C : ExcC X.K D) (hz : Zc (.ref D) (some d) oe) (hf : ∃ vs, oe.data = .fields vs) : CallR (X.suite a ((a, oe) :: pn)) (.builtin "isinstance") (rIsD X.K D a d) := fun pins s σ H xs us Q J r h => by
  obtain ⟨c, cv, b, fs, rfl, hd, hcv, e, q⟩ := h
  match us, r with
  | [u1, u2], .cons r1 (.cons r2 .nil) =>
    cases r1
    cases hcv _ r2
    obtain ⟨vs, fields⟩ := hf
    obtain ⟨mA, hns, _⟩ := (show ObjOk X.prog X.w H s.heap d (.xd fs) from J.hok d _ hd)
    obtain ⟨od, there, _⟩ := lookIn_ns hns
    have held := (J.pin (a, oe) (List.mem_append_left _ List.mem_cons_self)).1
    have inst : PySem.W.InstAt s.heap a oe D (some od) := ⟨held, hz.1, by unfold PySem.W.notCls; rw [fields] <;> rfl, by rw [hz.2]; exact there⟩
    have known : (PySem.W.clsIn X.K D).isSome = true := by
      obtain ⟨cd, z, _⟩ := PySem.W.any_some C.hd
      rw [z] <;> rfl
    exact PySem.W.kia_one (PySem.W.kitx_exc (od := some od) known C.hg C.hk C.hs C.ha C.hn C.ht C.hm) J.kIn inst e (fun z => nomatch z) fun tk => ⟨.bl b, H, J.kept (t' := tk) fun _ _ z => z, rfl, q⟩
end VL

/-! len(o), x in o, o == x of an instance of an own class, by its own methods -/
namespace VL
open PySem PySem.Spec PyProof.Rows L2
open C8 (Met)
section
variable {X : Cx} {pins : List (Addr × Obj)} {σ : L2.St} {H : Hp} {s : Shared} {C f : Addr} {k j : Nat} {m : Str} {sp : Sp}
/-- a method runs, somewhere below the body -/
theorem met_run {A : Around} {fd : FuncData} {ps : List Str} {ds : List Value} {us : List Value} {vs : List V} {Q : VK} {Ex : Value → Shared → Prop} (hr : Room k A) (hfr : A.frames = X.A.frames) (F : FnOk X.prog X.w X.K X.mg X.base CX0 k f fd ps sp) (hb : Binds X.K fd ps ds) (hd : Vals [] ds) (I : Inv X pins σ H s) (r : Vals vs us)
    (h : sp vs H Q (fun _ _ _ => False)) : wpAny (model X.prog X.w) A (call (.ref f) us) (EP X pins σ Q) Ex s := by
  cases hd
  have e0 : Env0 X.prog X.w X.K X.mg X.base A X.stack s H := by
    have e := I.env0
    exact ⟨by rw [hfr]; exact e.frames, e.mod, e.bs, e.bsz, e.funs, e.frf, e.hok, e.bare⟩
  have hl := F.len _ _ _ _ h
  have hl2 : us.length = ps.length := by rw [← r.length]; exact hl
  refine wpAny_call (codeAny_mono (F.run A X.stack s H ⟨us, []⟩ us vs _ (fun _ _ _ => False) hr e0 (by
    have z := hb s us I.kIn (by rw [List.append_nil]; exact hl2)
    rw [List.append_nil] at z
    exact z) r h) fun r s' hq => ?_)
  cases r with
  | error e => exact False.elim hq
  | ok fl =>
    cases fl with
    | ret w => exact I.after hq
    | next => exact False.elim hq
    | brk => exact False.elim hq
    | cont => exact False.elim hq
/-- len(o) -/
def rLenO (C : Addr) (sp : Sp) : List V → Hp → VK → Prop := fun xs H Q => ∃ (a dx : Addr) (fs : List (Str × V)), xs = [.ref a] ∧ H a = some (.ins C dx fs) ∧ sp [.ref a] H (fun v H' => ∃ n : Int, v = .int n ∧ 0 ≤ n ∧ n < 2 ^ 63 ∧ Q (.int n) H') (fun _ _ _ => False)
theorem call_lenO (c : Met X.prog X.w X.K X.mg X.base k C "__len__" sp []) (hr : Room j X.A) (hk : k + 1 ≤ j) : CallR X (.builtin "len") (rLenO C sp) := by
  intro pins s σ H xs us Q I r h
  obtain ⟨a, dx, fs, rfl, ha, hs⟩ := h
  obtain ⟨f, fd, ps, ds, cl, me, F, hb, hd⟩ := c.ex
  obtain ⟨u, rfl, ru⟩ := vals1 r
  obtain rfl : u = Value.ref a := ru
  obtain ⟨mA, J, _⟩ := ins_get I.hok ha
  obtain ⟨od, J, _⟩ := J.look
  obtain ⟨mm, hF⟩ := I.fr
  refine PySem.W.len_K hF I.ok.mod.kin J me.at_ me.fn (thn (met_run (A := X.A.in1) ((hr.mono hk).in1) rfl F hb hd I (vs := [.ref a]) (us := [.ref a]) (.cons rfl .nil) hs) fun v s' hv => ?_)
  obtain ⟨x, H', I', rx, n, rfl, n0, n1, q⟩ := hv
  obtain ⟨t, rfl⟩ := rx
  exact ⟨⟨n0, n1⟩, .int n, H', I'.tok _, ⟨_, rfl⟩, q⟩
/-- x in o -/
def rInO (C : Addr) (sp : Sp) : R2 := fun x y H Q => ∃ (a dx : Addr) (fs : List (Str × V)), y = .ref a ∧ H a = some (.ins C dx fs) ∧ sp [.ref a, x] H (fun v H' => ∃ b, v = .bl b ∧ Q (.bl b) H') (fun _ _ _ => False)
theorem op_inO (c : Met X.prog X.w X.K X.mg X.base k C "__contains__" sp []) (hr : Room j X.A) (hk : k ≤ j) : OpR X (compareOp .In) (rInO C sp) := by
  intro pins s σ H x y v u Q I rx ry h
  obtain ⟨a, dx, fs, rfl, ha, hs⟩ := h
  obtain ⟨f, fd, ps, ds, cl, me, F, hb, hd⟩ := c.ex
  obtain rfl : u = Value.ref a := ry
  obtain ⟨mA, J, _⟩ := ins_get I.hok ha
  obtain ⟨od, J, _⟩ := J.look
  obtain ⟨mm, hF⟩ := I.fr
  refine PySem.W.in_K hF I.ok.mod.kin J me.at_ me.fn (thn (met_run (hr.mono hk) rfl F hb hd I (vs := [.ref a, x]) (us := [.ref a, v]) (.cons rfl (.cons rx .nil)) hs) fun w s' hv => ?_)
  obtain ⟨z, H', I', rz, b, rfl, q⟩ := hv
  obtain rfl : w = Value.bool b := rz
  exact wpAny_truthy_bool ⟨.bl b, H', I', rfl, q⟩
/-- o == x, x of the built-in class T or another instance of the class -/
def EqTo (K : PySem.W.Frag) (C : Addr) (H : Hp) (y : V) : Prop := (∃ b dy gs, y = .ref b ∧ H b = some (.ins C dy gs)) ∨ ∃ t xs, y = .ref t ∧ H t = some (.tup xs) ∧ PySem.W.subIn K (.type "tuple") (.ref C) = some false
def rEqO (K : PySem.W.Frag) (C : Addr) (sp : Sp) : R2 := fun x y H Q => ∃ (a dx : Addr) (fs : List (Str × V)), x = .ref a ∧ H a = some (.ins C dx fs) ∧ EqTo K C H y ∧ sp [.ref a, y] H (fun v H' => ∃ b, v = .bl b ∧ Q (.bl b) H') (fun _ _ _ => False)
theorem op_eqO (c : Met X.prog X.w X.K X.mg X.base k C "__eq__" sp []) (hr : Room j X.A) (hk : k ≤ j) : OpR X (compareOp .Eq) (rEqO X.K C sp) := by
  intro pins s σ H x y v u Q I rx ry h
  obtain ⟨a, dx, fs, rfl, ha, hy, hs⟩ := h
  obtain ⟨f, fd, ps, ds, cl, me, F, hb, hd⟩ := c.ex
  obtain rfl : v = Value.ref a := rx
  obtain ⟨mA, J, _⟩ := ins_get I.hok ha
  obtain ⟨od, J, _⟩ := J.look
  obtain ⟨mm, hF⟩ := I.fr
  show wpAny (model X.prog X.w) X.A (richCompare .Eq (.ref a) u) (EP X pins σ Q) X.xe s
  obtain ⟨tb, hty, hnf⟩ : ∃ tb, PySem.W.Looks (model X.prog X.w) s.heap (typeOf u) tb ∧ PySem.W.notFirst X.K C tb = true := by
    rcases hy with ⟨b, dy, gs, rfl, hb'⟩ | ⟨t, xs, rfl, ht, hno⟩
    · obtain rfl : u = Value.ref b := ry
      obtain ⟨mB, J', _⟩ := ins_get I.hok hb'
      obtain ⟨od', J', _⟩ := J'.look
      exact ⟨.ref C, J'.type, by simp [PySem.W.notFirst]⟩
    · obtain rfl : u = Value.ref t := ry
      obtain ⟨its, _, p1, _⟩ := I.tuple (SqT.of ht)
      refine ⟨.type "tuple", ?_, by simp [PySem.W.notFirst, hno]⟩
      obtain ⟨o, ho, hc, _⟩ := p1
      intro A Q E s' kp q
      exact wpAny_typeOf ⟨o, kp _ _ ho, hc⟩ q
  refine PySem.W.cmp_K (op := .Eq) (tb := tb) (hr.mono hk).units0 hF I.ok.mod.kin J hty hnf me.at_ me.fn (thn (met_run (hr.mono hk) rfl F hb hd I (vs := [.ref a, y]) (us := [.ref a, u]) (.cons rfl (.cons ry .nil)) hs) fun w s' hv => ?_)
  obtain ⟨z, H', I', rz, b, rfl, q⟩ := hv
  obtain rfl : w = Value.bool b := rz
  exact ⟨.bl b, H', I', rfl, q⟩
end
end VL

/-! def f(a, *v) whose tuple is told by its object; a method of such a tuple -/
namespace VL
open PySem PySem.Spec PyProof.Rows L2
/-- a plain tuple's object -/
def tupObj (us : List Value) : Obj := { cls := .type "tuple", data := .seq us.toArray }
/-- a plain tuple, told with its object -/
def PT (H : Hp) (p : Addr) (xs : List V) : Prop := ∃ ob : Obj, H p = some (.frz ob (.tup xs)) ∧ ob.cls = .type "tuple" ∧ ob.dict = Option.none
theorem PT.same {H H' : Hp} {p : Addr} {xs : List V} (h : PT H p xs) (s : Same H H') : PT H' p xs := by
  obtain ⟨ob, h1, h2⟩ := h
  exact ⟨ob, s _ _ h1, h2⟩
theorem PT.sq {K : PySem.W.Frag} {H : Hp} {p : Addr} {xs : List V} (h : PT H p xs) : SqT K H p xs := by
  obtain ⟨ob, h1, _⟩ := h
  exact .inl (.inr ⟨ob, h1⟩)
section
variable {P : Program} {w : World} {K : PySem.W.Frag} {base : Heap} {mg : Str → Option Value} {CX : CXT} {sp : Sp} {N ps : List Str} {pv name qual : Str} {k : Nat}
  {params : Arguments} {scope : Scope} {body : List Stmt} {f : Addr} {oc dV kV doc pm cdv ct : Value} {od an : Option Addr} {osl : Array (Option Value)}
/-- the def takes what is left over as one tuple -/
abbrev Rest (fd : FuncData) (ps : List Str) (pv : Str) : Prop :=
  ∀ us more : List Value, us.length = ps.length → bindArgs fd ⟨us ++ more, []⟩ = (newTuple more >>= fun t => pure (ps.zip us ++ [(pv, t)]))
/-- the body keeps the wish -/
abbrev Runs (P : Program) (w : World) (K : PySem.W.Frag) (mg : Str → Option Value) (base : Heap) (CX : CXT) (N : List Str) (qual : Str) (scope : Scope) (f : Addr) (cdv : Value) (k : Nat) (body : List Stmt) (sp : Sp) : Prop :=
  ∀ (A : Around) (outer : List Env) (s : Shared) (H : Hp) (vs : List V) (Q : VK) (E : XK), Room k (A.deeper (envOfC qual scope s.heap.objs.size f cdv)) → sp vs H Q E →
    ∃ te, PSs (cxOf CX P w K mg base N qual scope f cdv A outer s H E) body te ∧ te ⟨fun _ G => Q .non G, Q, fun _ _ => False, fun _ _ => False⟩ (start N vs) H
/-- the parameters are bound: what is left over lies in a plain tuple -/
theorem bnd_frz {fd : FuncData} {A : Around} {outer : List Env} {s : Shared} {H : Hp} {E : XK} {ws rest : List V} {u1 u2 : List Value} (up : StX.CXUp CX) (e0 : Env0 P w K mg base A outer s H) (r1 : Vals ws u1) (r2 : Vals rest u2) (hl : ws.length = ps.length) (hz : rest.length ≤ sizeLine)
    (hb : bindArgs fd ⟨u1 ++ u2, []⟩ = (newTuple u2 >>= fun t => pure (ps.zip u1 ++ [(pv, t)]))) :
    StX.Bnd CX P w K mg base fd ⟨u1 ++ u2, []⟩ (ps ++ [pv]) A outer s H E (fun xs G => ∃ p, xs = ws ++ [V.ref p] ∧ PT G p rest ∧ ∃ ob, H p = Option.none ∧ G = upd H p (.frz ob (.tup rest))) := by
  intro A1 Ex Q h
  have new : H s.heap.objs.size = Option.none := e0.hok.fresh (Nat.le_refl _)
  have small : u2.length ≤ sizeLine := by rw [← r2.length]; exact hz
  have stands : (s.heap.push (tupObj u2)).get? s.heap.objs.size = some (tupObj u2) := Heap.get?_push_size _ rfl
  have un : Un (frs outer) [] H (upd H s.heap.objs.size (.frz (tupObj u2) (.tup rest))) s.heap (s.heap.push (tupObj u2)) := StX.un_laid new
  have le : ps.length = u1.length := by rw [← hl]; exact r1.length
  rw [hb]
  refine wpAny_bind (wpAny_newTuple (wpAny_pure ?_) small)
  have g := h { s with heap := s.heap.push (tupObj u2) } (upd H s.heap.objs.size (.frz (tupObj u2) (.tup rest))) (ws ++ [.ref s.heap.objs.size]) (u1 ++ [.ref s.heap.objs.size])
    (StX.env0_laid e0 ⟨stands, hz, u2, r2, tupObj u2, stands, rfl, 0, rfl⟩) un rfl
    (fun e s' q => up outer s H { s with heap := s.heap.push (tupObj u2) } _ E e s' un (fun b o e => Heap.get?_push_of_some _ e) rfl q)
    (r1.append (.cons (show RelV (.ref s.heap.objs.size) (.ref s.heap.objs.size) from rfl) .nil))
    (by simp [hl]) ⟨_, rfl, ⟨_, upd_same, rfl, rfl⟩, _, new, rfl⟩
  rwa [List.zip_append le] at g
/-- def f(a, .., *v) -/
theorem fn_starF (lk : K.lookup f = some ⟨oc, od, .func (PySem.W.fnOf name qual params body scope dV kV doc pm an cdv ct), osl⟩) (hcd : PySem.W.codeIn K cdv qual = true) (S : FnScope N (ps ++ [pv]) scope) (up : StX.CXUp CX)
    (hb : Rest (PySem.W.fnOf name qual params body scope dV kV doc pm an cdv ct) ps pv) (run : Runs P w K mg base CX N qual scope f cdv k body sp) :
    FnR P w K mg base CX (k + 1) f (fun vs H Q E => ∃ ws rest, vs = ws ++ rest ∧ ws.length = ps.length ∧ rest.length ≤ sizeLine ∧ ∀ p ob, H p = Option.none → PT (upd H p (.frz ob (.tup rest))) p rest → sp (ws ++ [.ref p]) (upd H p (.frz ob (.tup rest))) Q E) := by
  intro A outer s H us vs Q E room e0 r h
  obtain ⟨ws, rest, rfl, hl, hz, q⟩ := h
  obtain ⟨u1, u2, rfl, r1, r2⟩ := StX.vals_split r
  have le : u1.length = ps.length := by rw [← r1.length]; exact hl
  refine StX.run_bnd lk hcd S room e0 (bnd_frz up e0 r1 r2 hl hz (hb u1 u2 le)) ?_
  rintro s2 _ _ ⟨p, rfl, hp, ob, hn, rfl⟩ room2
  exact run A outer s2 _ _ Q E room2 (q p ob hn hp)
end
section
variable {X : Cx} {o e : Expr} {es : List Expr} {to : TE} {t : TA} {name : Str} {apos cpos : Pos} {T id : String} {r : V → List V → Hp → VK → Prop}
/-- o.m(..), o a plain tuple -/
def tPM (r : V → List V → Hp → VK → Prop) (to : TE) (t : TA) : TE := fun σ H Q => to σ H fun x H1 => (∃ p xs, x = .ref p ∧ PT H1 p xs) ∧ t σ H1 fun ys H2 => r x ys H2 Q
theorem pe_pm (slot : Slot "tuple" name id) (hty : typeOf (.builtin id) = pure (.type "method_descriptor")) (hm : MtR X id r) (ho : PE X o to) (ha : PA X (e :: es) t)
    (form : attributeBase o name X.env (eval o X.env) = eval o X.env ∧ (apos.endLine == cpos.line) = true ∧ starEach (e :: es) X.env = (false, eval e X.env) :: starEach es X.env ∧ (backTo cpos (starEach es X.env)).any (·.1) = false ∧
      ((backTo cpos (starEach (e :: es) X.env)).all (fun y => !y.1) && (backToKw cpos (keywordEach [] X.env)).all (fun y => y.1.isSome) && decide ((e :: es).length + ([] : List Keyword).length + (if ([] : List Keyword).isEmpty then 0 else 1) < 30)) = true := by exact ⟨rfl, rfl, rfl, rfl, rfl⟩) :
    PE X (.Call (.Attribute o name apos) (e :: es) [] cpos) (tPM r to t) := by
  obtain ⟨hbase, hline, hs, hplain, hfew⟩ := form
  constructor
  intro pins s σ H Q I h
  refine wpAny_Call_method_late hbase hfew hline rfl (thn (ho.run pins s σ H _ I h) ?_)
  rintro v s1 ⟨x, H1, I1, r1, ⟨p, xs, rfl, ob, hp, hc, hd⟩, q1⟩
  cases r1
  have there : s1.heap.get? p = some ob := (I1.hok p _ hp).1
  refine ⟨"tuple", id, PySem.F.plainAttrs_tuple, slot, hty, ⟨ob, there, hc⟩, ?_, ?_⟩
  · rintro _ ⟨⟩
    exact ⟨ob, there, hd⟩
  have args := ha.run cpos pins s1 σ H1 _ I1 q1
  rw [hs] at args ⊢
  refine Calls.callWith_builtin (by unfold backTo at hplain ⊢; rw [List.map_cons, List.any_cons]; exact hplain) (Calls.evalArgs_plain (thn args ?_))
  rintro us s2 ⟨vs, H2, I2, r2, q2⟩
  exact hm pins s2 σ H2 (.ref p) vs _ us Q I2 rfl r2 q2
end
end VL

/-! C(e, ..) whose __init__ may raise, within a try; C() -/
namespace VL
open PySem PySem.Spec PyProof.Rows L2
/-- isinstance(e, c) of a caught error, whatever its class -/
theorem call_isA {X : Cx} {a : Addr} {cls : Value} {d : Option Addr} {oe : Obj} {pn : List (Addr × Obj)} (hz : Zc cls d oe) (hf : ∃ vs, oe.data = .fields vs) :
    CallR (X.suite a ((a, oe) :: pn)) (.builtin "isinstance") (fun xs H Q => ∃ D d1, cls = .ref D ∧ d = some d1 ∧ ExcC X.K D ∧ rIsD X.K D a d1 xs H Q) := by
  rintro pins s σ H xs us Q I r ⟨D, d1, rfl, rfl, C, h⟩
  exact call_isD C hz hf pins s σ H xs us Q I r h
/-- tuple(xs), the written part told -/
theorem call_tupleK (K : PySem.W.Frag) {X : Cx} (h : X.K = K := by rfl) : CallR X (.type "tuple") (fun us G k => ∃ a ys, us = [.ref a] ∧ ((SqL K G a ys ∧ ∀ b, G b = none → k (.ref b) (upd G b (.tup ys))) ∨ (SqT K G a ys ∧ k (.ref a) G))) := by
  subst h
  exact call_tuple_of
/-- no exception leaves -/
theorem takesN0 {X : Cx} : L2N.Takes X (fun _ _ _ _ => False) := by
  rintro u s ⟨_, _, _, _, _, _, _, _, _, _, _, _, _, _, _, _, w⟩
  exact w.elim
theorem passN0 {X : Cx} : ∀ σ : L2.St, PassesAt (L2N.CX X.prog X.w) X σ (fun _ _ _ => False) := by
  rintro σ pins H s e s' I ⟨_, _, _, _, _, _, _, _, _, _, _, _, z⟩
  exact z.elim
section
variable {X : Cx} {CX : CXT} {k : Nat} {f C : Addr} {sp : Sp} {E : L2.St → XK} {x : Str} {e : Expr} {es : List Expr} {t : TA} {p pos : Pos}
/-- a new object and its dict, what __init__ is then asked -/
def Fresh (C : Addr) (sp : Sp) (vs : List V) (H : Hp) (Q : VK) (E : XK) : Prop :=
  ∀ a d, H a = none → H d = none → d ≠ a → sp (.ref a :: vs) (upd (upd H d (.own a)) a (.ins C d [])) (fun v G => v = .non ∧ Q (.ref a) G) E
theorem make_at {pins : List (Addr × Obj)} {σ : L2.St} {H : Hp} {s : Shared} {Q : VK} {us : List Value} {vs : List V} (M : Mk X.K C f) (F : FnR X.prog X.w X.K X.mg X.base CX k f sp) (room : Room (k + 1) X.A) (out : PassesAt CX X σ (E σ))
    (J : Inv X pins σ H s) (r : Vals vs us) (h : Fresh C sp vs H Q (E σ)) : wpAny (model X.prog X.w) X.A (call (.ref C) us) (EP X pins σ Q) X.xe s := by
  let D := s.heap.objs.size
  have free : ∀ b, D ≤ b → H b = none := fun b hb => J.hok.fresh hb
  have made := Inv.made (C := C) J
  have asked := h (D + 1) D (free _ (Nat.le_succ D)) (free _ (Nat.le_refl D)) (Nat.ne_of_lt (Nat.lt_succ_self D))
  have run := F _ X.stack _ _ (.ref (D + 1) :: us) _ _ (E σ) (room.make C us []) (made.env0.make C us []) (.cons (show RelV (.ref (D + 1)) (.ref (D + 1)) from rfl) r) asked
  exact wpAny_call (make_map J.kIn M.makes M.init (beq_iff_eq.mp M.fn) (codeAny_mono run fun
    | .error _, _, z => out _ _ _ _ _ made z
    | .ok (.ret _), _, z => (made.after z).elim fun _ z => z.elim fun G ⟨J2, rv, ev, q⟩ => by
        subst ev
        exact ⟨rv, .ref (D + 1), G, J2, rfl, q⟩
    | .ok .next, _, z => z.elim
    | .ok .brk, _, z => z.elim
    | .ok .cont, _, z => z.elim))
def tMakeT (C : Addr) (sp : Sp) (E : L2.St → XK) (t : TA) : TE := fun σ H Q => t σ H fun vs G => Fresh C sp vs G Q (E σ)
theorem pe_makeT (M : Mk X.K C f) (F : FnR X.prog X.w X.K X.mg X.base CX k f sp) (room : Room (k + 1) X.A) (hg : Gl X x) (hm : X.mg x = some (.ref C)) (out : ∀ σ, PassesAt CX X σ (E σ)) (ha : PA X (e :: es) t)
    (form : (x == ("__debug__" : Str)) = false ∧ starEach (e :: es) X.env = (false, eval e X.env) :: starEach es X.env ∧ (backTo pos (starEach es X.env)).any (·.1) = false := by exact ⟨by decide, rfl, rfl⟩) :
    PE X (.Call (.Name x p) (e :: es) [] pos) (tMakeT C sp E t) :=
  ⟨fun pins s σ H Q J h => wpAny_Call_Name_kw (ld_glob J hg hm (PySem.W.callWith_K (h₀ := X.base) J.ok.mod.kin M.kp (thn (ha.run pos pins s σ H _ J h) fun us s1 ⟨vs, H1, J1, r, q⟩ =>
    ⟨J1.kIn, make_at M F room (out σ) J1 r q⟩) form.2.1 form.2.2) form.1)⟩
theorem pe_makeT0 (M : Mk X.K C f) (F : FnR X.prog X.w X.K X.mg X.base CX k f sp) (room : Room (k + 1) X.A) (hg : Gl X x) (hm : X.mg x = some (.ref C)) (out : ∀ σ, PassesAt CX X σ (E σ)) (hdb : (x == ("__debug__" : Str)) = false := by decide) :
    PE X (.Call (.Name x p) [] [] pos) (tMakeT C sp E tNil) :=
  ⟨fun pins s σ H Q J h => wpAny_Call_Name_kw (ld_glob J hg hm (PySem.W.callWith_K0 J.kIn M.kp (make_at (us := []) M F room (out σ) J .nil h)) hdb)⟩
end
end VL

/-! the data layer: what a def does, told over data alone -/
namespace DL
open PySem PySem.Spec PyProof.Rows L2 VL
/-- data, with instances -/
inductive D where
  | non | bl (b : Bool) | int (i : Int) | str (s : Str)
  | tup (xs : List D) | lst (xs : List D)
  | ins (C : Addr) (fs : List Str) (xs : List D)
  | dct (ks : List Key) (xs : List D)
  | ref (a : Addr)
  | err (a C d : Addr) (fs : List Str) (xs : List D)
/-- what is known of an instance beside its fields -/
structure CI where
  I : Addr → Addr → Hp → Prop
  mono : ∀ {C a : Addr} {F F' : Hp}, Same F F' → I C a F → I C a F'
theorem rd_same {F F' : Hp} {a : Addr} {u : HO} (s : Same F F') (h : Rd F a u) : Rd F' a u := by
  rcases h with h | ⟨o, h⟩
  · exact .inl (s _ _ h)
  · exact .inr ⟨o, s _ _ h⟩
/-- the value v is the datum x, all of it in the frozen heap F -/
inductive Rep (ci : CI) (F : Hp) : D → V → Prop where
  | non : Rep ci F .non .non
  | bl (b : Bool) : Rep ci F (.bl b) (.bl b)
  | int (i : Int) : Rep ci F (.int i) (.int i)
  | str (s : Str) : Rep ci F (.str s) (.str s)
  | tup {a : Addr} {xs : List D} {vs : List V} (h : Rd F a (.tup vs)) (l : xs.length = vs.length) (r : ∀ (i : Nat) x v, xs[i]? = some x → vs[i]? = some v → Rep ci F x v) : Rep ci F (.tup xs) (.ref a)
  | lst {a : Addr} {xs : List D} {vs : List V} (h : F a = some (.lst vs)) (l : xs.length = vs.length) (r : ∀ (i : Nat) x v, xs[i]? = some x → vs[i]? = some v → Rep ci F x v) : Rep ci F (.lst xs) (.ref a)
  | ins {C a dx : Addr} {fs : List Str} {xs : List D} {vs : List V} (h : F a = some (.ins C dx (fs.zip vs))) (lf : fs.length = vs.length) (l : xs.length = vs.length) (r : ∀ (i : Nat) x v, xs[i]? = some x → vs[i]? = some v → Rep ci F x v) (q : ci.I C a F) : Rep ci F (.ins C fs xs) (.ref a)
  | ref (a : Addr) : Rep ci F (.ref a) (.ref a)
  | err {a C d : Addr} {fs : List Str} {xs : List D} {vs : List V} (h : F d = some (.xd (fs.zip vs))) (lf : fs.length = vs.length) (l : xs.length = vs.length) (r : ∀ (i : Nat) x v, xs[i]? = some x → vs[i]? = some v → Rep ci F x v) : Rep ci F (.err a C d fs xs) (.ref a)
  | dct {a : Addr} {ks : List Key} {xs : List D} {vs : List V} (h : F a = some (.dK (ks.zip vs))) (lf : ks.length = vs.length) (l : xs.length = vs.length) (r : ∀ (i : Nat) x v, xs[i]? = some x → vs[i]? = some v → Rep ci F x v) : Rep ci F (.dct ks xs) (.ref a)
theorem Rep.mono {ci : CI} {F F' : Hp} (s : Same F F') {x : D} {v : V} (h : Rep ci F x v) : Rep ci F' x v := by
  induction h with
  | non => exact .non
  | bl b => exact .bl b
  | int i => exact .int i
  | str z => exact .str z
  | ref a => exact .ref a
  | err h lf l r ih => exact .err (s _ _ h) lf l ih
  | tup h l r ih => exact .tup (rd_same s h) l ih
  | lst h l r ih => exact .lst (s _ _ h) l ih
  | ins h lf l r q ih => exact .ins (s _ _ h) lf l ih (ci.mono s q)
  | dct h lf l r ih => exact .dct (s _ _ h) lf l ih
/-- value by value -/
def Reps (ci : CI) (F : Hp) (xs : List D) (vs : List V) : Prop := xs.length = vs.length ∧ ∀ (i : Nat) x v, xs[i]? = some x → vs[i]? = some v → Rep ci F x v
section
variable {ci : CI} {F F' : Hp} {xs ys : List D} {vs ws : List V}
theorem Reps.mono (s : Same F F') (h : Reps ci F xs vs) : Reps ci F' xs vs := ⟨h.1, fun i x v a b => (h.2 i x v a b).mono s⟩
theorem Reps.nil : Reps ci F [] [] := ⟨rfl, fun i x v a => by simp at a⟩
theorem Reps.cons {x : D} {v : V} (h : Rep ci F x v) (t : Reps ci F xs vs) : Reps ci F (x :: xs) (v :: vs) := by
  refine ⟨by simp [t.1], fun i y w a b => ?_⟩
  cases i with
  | zero => simp at a b; subst a b; exact h
  | succ i => exact t.2 i y w (by simpa using a) (by simpa using b)
theorem Reps.get {i : Nat} {x : D} (h : Reps ci F xs vs) (e : xs[i]? = some x) : ∃ v, vs[i]? = some v ∧ Rep ci F x v := by
  have hi : i < vs.length := by rw [← h.1]; exact (List.getElem?_eq_some_iff.mp e).1
  exact ⟨vs[i], List.getElem?_eq_getElem hi, h.2 i x _ e (List.getElem?_eq_getElem hi)⟩
theorem Reps.back {i : Nat} {v : V} (h : Reps ci F xs vs) (e : vs[i]? = some v) : ∃ x, xs[i]? = some x ∧ Rep ci F x v := by
  have hi : i < xs.length := by rw [h.1]; exact (List.getElem?_eq_some_iff.mp e).1
  exact ⟨xs[i], List.getElem?_eq_getElem hi, h.2 i _ v (List.getElem?_eq_getElem hi) e⟩
theorem Reps.append (h : Reps ci F xs vs) (g : Reps ci F ys ws) : Reps ci F (xs ++ ys) (vs ++ ws) := by
  refine ⟨by simp [h.1, g.1], fun i x v a b => ?_⟩
  by_cases hi : i < xs.length
  · rw [List.getElem?_append_left hi] at a
    rw [List.getElem?_append_left (by rw [← h.1]; exact hi)] at b
    exact h.2 i x v a b
  · rw [List.getElem?_append_right (by omega)] at a
    rw [List.getElem?_append_right (by rw [← h.1]; omega), ← h.1] at b
    exact g.2 _ x v a b
theorem Reps.snoc {x : D} {v : V} (t : Reps ci F xs vs) (h : Rep ci F x v) : Reps ci F (xs ++ [x]) (vs ++ [v]) := t.append (.cons h .nil)
theorem Reps.drop (n : Nat) (h : Reps ci F xs vs) : Reps ci F (xs.drop n) (vs.drop n) := by
  refine ⟨by simp [h.1], fun i x v a b => ?_⟩
  rw [List.getElem?_drop] at a b
  exact h.2 _ x v a b
theorem Reps.take (n : Nat) (h : Reps ci F xs vs) : Reps ci F (xs.take n) (vs.take n) := by
  refine ⟨by simp [h.1], fun i x v a b => ?_⟩
  rw [List.getElem?_take] at a b
  split at a
  · rename_i hi
    rw [if_pos hi] at b
    exact h.2 _ x v a b
  · cases a
theorem Reps.set {x : D} {v : V} (i : Nat) (t : Reps ci F xs vs) (h : Rep ci F x v) : Reps ci F (xs.set i x) (vs.set i v) := by
  refine ⟨by simp [t.1], fun j y w a b => ?_⟩
  by_cases hj : i = j
  · subst hj
    have hi : i < xs.length := by
      have := (List.getElem?_eq_some_iff.mp a).1
      simpa using this
    rw [List.getElem?_set_self hi] at a
    rw [List.getElem?_set_self (by rw [← t.1]; exact hi)] at b
    cases a; cases b
    exact h
  · rw [List.getElem?_set_ne hj] at a b
    exact t.2 j y w a b
theorem Reps.reverse (h : Reps ci F xs vs) : Reps ci F xs.reverse vs.reverse := by
  refine ⟨by simp [h.1], fun i x v a b => ?_⟩
  have hi : i < xs.length := by
    have := (List.getElem?_eq_some_iff.mp a).1
    simpa using this
  rw [List.getElem?_reverse hi] at a
  rw [List.getElem?_reverse (by rw [← h.1]; exact hi), ← h.1] at b
  exact h.2 _ x v a b
theorem Reps.erase (n : Nat) (h : Reps ci F xs vs) : Reps ci F (xs.eraseIdx n) (vs.eraseIdx n) := by
  have e1 := List.eraseIdx_eq_take_drop_succ xs n
  have e2 := List.eraseIdx_eq_take_drop_succ vs n
  rw [e1, e2]
  exact (h.take n).append (h.drop (n + 1))
theorem Reps.nth {i : Int} {x : D} (h : Reps ci F xs vs) (e : atI xs i = some x) : ∃ v, atI vs i = some v ∧ Rep ci F x v := by
  unfold atI at e ⊢
  rw [← h.1]
  obtain ⟨j, h1, h2⟩ := Option.bind_eq_some_iff.mp e
  rw [h1]
  exact h.get h2
theorem Rep.reps_t {v : V} (h : Rep ci F (.tup xs) v) : ∃ a vs, v = .ref a ∧ Rd F a (.tup vs) ∧ Reps ci F xs vs := by
  cases h with
  | tup h l r => exact ⟨_, _, rfl, h, l, r⟩
theorem Rep.reps_l {v : V} (h : Rep ci F (.lst xs) v) : ∃ a vs, v = .ref a ∧ F a = some (.lst vs) ∧ Reps ci F xs vs := by
  cases h with
  | lst h l r => exact ⟨_, _, rfl, h, l, r⟩
theorem Reps.t {a : Addr} (h : Reps ci F xs vs) (e : F a = some (.tup vs)) : Rep ci F (.tup xs) (.ref a) := .tup (.inl e) h.1 h.2
theorem Reps.l {a : Addr} (h : Reps ci F xs vs) (e : F a = some (.lst vs)) : Rep ci F (.lst xs) (.ref a) := .lst e h.1 h.2
end
/-- a slot, a result: unknown; data; a list that another holds; a list of one's own; the law's box -/
inductive Sl where
  | no | d (x : D) | v (xs : List D) | m (xs : List D) | box
def SlRep (ci : CI) (b L : Addr) (F H : Hp) : Sl → V → Prop
  | .no, _ => True
  | .d x, v => Rep ci F x v
  | .v xs, v => ∃ a vs, v = .ref a ∧ H a = some (.lst vs) ∧ Reps ci F xs vs ∧ a ≠ b
  | .m xs, v => ∃ a vs, v = .ref a ∧ H a = some (.lst vs) ∧ Reps ci F xs vs ∧ a ≠ b ∧ a ≠ L ∧ F a = none
  | .box, v => v = .ref b
/-- what a run leaves as it was -/
structure Fr (b L : Addr) (F H F' H' : Hp) : Prop where
  ff : Same F F'
  hh : ∀ a o, a ≠ b → H a = some o → H' a = some o
  nw : ∀ a o, F' a = some o → F a = some o ∨ H a = none
  s0 : Same F H
  s1 : Same F' H'
  b0 : Box H b L
  b1 : Box H' b L
section
variable {ci : CI} {b L : Addr} {F H F' H' F2 H2 : Hp}
theorem Fr.refl (s : Same F H) (B : Box H b L) : Fr b L F H F H := ⟨Same.refl _, fun _ _ _ h => h, fun _ _ h => .inl h, s, s, B, B⟩
theorem Fr.free (x : Fr b L F H F' H') {a : Addr} (h : H' a = none) : H a = none := by
  cases e : H a with
  | none => rfl
  | some o =>
    by_cases z : a = b
    · subst z
      obtain ⟨ys, h1⟩ := x.b1.lst
      rw [h] at h1
      cases h1
    · rw [x.hh a o z e] at h
      cases h
theorem Fr.trans (x : Fr b L F H F' H') (y : Fr b L F' H' F2 H2) : Fr b L F H F2 H2 :=
  ⟨x.ff.trans y.ff, fun a o n h => y.hh a o n (x.hh a o n h), fun a o h => (y.nw a o h).elim (fun h => x.nw a o h) fun h => .inr (x.free h), x.s0, y.s1, x.b0, y.b1⟩
theorem Fr.no (x : Fr b L F H F' H') {a : Addr} {o : HO} (h : F a = none) (e : H a = some o) : F' a = none := by
  cases q : F' a with
  | none => rfl
  | some u =>
    rcases x.nw a u q with z | z
    · rw [h] at z; cases z
    · rw [e] at z; cases z
theorem same_free {F H : Hp} (s : Same F H) {p : Addr} (h : H p = none) : F p = none := s.free h
/-- a new object, frozen -/
theorem Fr.new (s : Same F H) (B : Box H b L) {p : Addr} (o : HO) (h : H p = none) : Fr b L F H (upd F p o) (upd H p o) := by
  obtain ⟨n1, n2⟩ := B.new h
  refine ⟨same_upd (same_free s h), fun a u n e => same_upd h _ _ e, fun a u e => ?_, s, fun a u e => ?_, B, B.upd n1 n2⟩
  · by_cases z : a = p
    · exact .inr (z ▸ h)
    · rw [upd_ne z] at e
      exact .inl e
  · by_cases z : a = p
    · subst z
      rw [upd_same] at e ⊢
      exact e
    · rw [upd_ne z] at e ⊢
      exact s _ _ e
/-- a new object, not frozen -/
theorem Fr.tmp (s : Same F H) (B : Box H b L) {p : Addr} (o : HO) (h : H p = none) : Fr b L F H F (upd H p o) := by
  obtain ⟨n1, n2⟩ := B.new h
  refine ⟨Same.refl _, fun a u n e => same_upd h _ _ e, fun a u e => .inl e, s, fun a u e => ?_, B, B.upd n1 n2⟩
  have z : a ≠ p := fun z => by
    rw [z, same_free s h] at e
    cases e
  rw [upd_ne z]
  exact s _ _ e
/-- the box has changed -/
theorem Fr.took (s : Same F H) (B : Box H b L) {o : HO} (h : F b = none) (B' : Box (upd H b o) b L) : Fr b L F H F (upd H b o) := by
  refine ⟨Same.refl _, fun a u n e => by rw [upd_ne n]; exact e, fun a u e => .inl e, s, fun a u e => ?_, B, B'⟩
  have z : a ≠ b := fun z => by
    rw [z, h] at e
    cases e
  rw [upd_ne z]
  exact s _ _ e
/-- an object that was not there at the entry becomes frozen -/
theorem Fr.frz (x : Fr b L F H F' H') {p : Addr} {o : HO} (h : H p = none) (n : F' p = none) (e : H' p = some o) : Fr b L F H (upd F' p o) H' := by
  refine ⟨x.ff.trans (same_upd n), x.hh, fun a u q => ?_, x.s0, fun a u q => ?_, x.b0, x.b1⟩
  · by_cases z : a = p
    · exact .inr (z ▸ h)
    · rw [upd_ne z] at q
      exact x.nw a u q
  · by_cases z : a = p
    · subst z
      rw [upd_same] at q
      rw [← q]
      exact e
    · rw [upd_ne z] at q
      exact x.s1 _ _ q
theorem SlRep.fr (x : Fr b L F H F' H') {r : Sl} {v : V} (h : SlRep ci b L F H r v) : SlRep ci b L F' H' r v := by
  cases r with
  | no => trivial
  | d y => exact Rep.mono x.ff h
  | v xs =>
    obtain ⟨a, vs, e, h1, h2, h3⟩ := h
    exact ⟨a, vs, e, x.hh a _ h3 h1, h2.mono x.ff, h3⟩
  | m xs =>
    obtain ⟨a, vs, e, h1, h2, h3, h4, h5⟩ := h
    exact ⟨a, vs, e, x.hh a _ h3 h1, h2.mono x.ff, h3, h4, x.no h5 h1⟩
  | box => exact h
/-- a list of one's own was not there before -/
def Fresh (H : Hp) (r : Sl) (v : V) : Prop := ∀ xs a, r = .m xs → v = .ref a → H a = none
theorem Fresh.d {x : D} {v : V} : Fresh H (.d x) v := fun _ _ e => nomatch e
theorem Fresh.vv {xs : List D} {v : V} : Fresh H (.v xs) v := fun _ _ e => nomatch e
theorem Fresh.bx {v : V} : Fresh H .box v := fun _ _ e => nomatch e
theorem Fresh.fr (x : Fr b L F H F' H') {r : Sl} {v : V} (h : Fresh H' r v) : Fresh H r v := fun xs a e1 e2 => x.free (h xs a e1 e2)
/-- what is seen of it -/
def withV (r : Sl) (k : D → Prop) : Prop := match r with
  | .d x => k x
  | .v xs => k (.lst xs)
  | .m xs => k (.lst xs)
  | _ => False
/-- .. as data that may be kept -/
def withD (r : Sl) (k : D → Prop) : Prop := match r with
  | .d x => k x
  | .m xs => k (.lst xs)
  | _ => False
/-- the value shows the datum -/
def VR (ci : CI) (b : Addr) (F H : Hp) (x : D) (v : V) : Prop := Rep ci F x v ∨ ∃ xs a vs, x = .lst xs ∧ v = .ref a ∧ H a = some (.lst vs) ∧ Reps ci F xs vs ∧ a ≠ b
theorem VR.fr (x : Fr b L F H F' H') {y : D} {v : V} (h : VR ci b F H y v) : VR ci b F' H' y v := by
  rcases h with h | ⟨xs, a, vs, e1, e2, h1, h2, h3⟩
  · exact .inl (h.mono x.ff)
  · exact .inr ⟨xs, a, vs, e1, e2, x.hh a _ h3 h1, h2.mono x.ff, h3⟩
theorem withV_of {r : Sl} {v : V} {k : D → Prop} (h : SlRep ci b L F H r v) (q : withV r k) : ∃ x, VR ci b F H x v ∧ k x := by
  cases r with
  | no => exact q.elim
  | d y => exact ⟨y, .inl h, q⟩
  | v xs =>
    obtain ⟨a, vs, e, h1, h2, h3⟩ := h
    exact ⟨.lst xs, .inr ⟨xs, a, vs, rfl, e, h1, h2, h3⟩, q⟩
  | m xs =>
    obtain ⟨a, vs, e, h1, h2, h3, h4, h5⟩ := h
    exact ⟨.lst xs, .inr ⟨xs, a, vs, rfl, e, h1, h2, h3⟩, q⟩
  | box => exact q.elim
/-- a fresh result becomes data -/
theorem withD_of (x : Fr b L F H F' H') {r : Sl} {v : V} {k : D → Prop} (h : SlRep ci b L F' H' r v) (f : Fresh H r v) (q : withD r k) : ∃ y F2, Fr b L F H F2 H' ∧ Same F' F2 ∧ Rep ci F2 y v ∧ k y := by
  cases r with
  | no => exact q.elim
  | d y => exact ⟨y, F', x, Same.refl _, h, q⟩
  | v xs => exact q.elim
  | m xs =>
    obtain ⟨a, vs, e, h1, h2, h3, h4, h5⟩ := h
    refine ⟨.lst xs, upd F' a (.lst vs), x.frz (f xs a rfl e) h5 h1, same_upd h5, ?_, q⟩
    subst e
    exact (h2.mono (same_upd h5)).l upd_same
  | box => exact q.elim
theorem VR.int {i : Int} {v : V} (h : VR ci b F H (.int i) v) : v = .int i := by
  rcases h with h | ⟨_, _, _, e, _⟩
  · cases h; rfl
  · cases e
theorem VR.str {i : Str} {v : V} (h : VR ci b F H (.str i) v) : v = .str i := by
  rcases h with h | ⟨_, _, _, e, _⟩
  · cases h; rfl
  · cases e
theorem VR.bl {i : Bool} {v : V} (h : VR ci b F H (.bl i) v) : v = .bl i := by
  rcases h with h | ⟨_, _, _, e, _⟩
  · cases h; rfl
  · cases e
theorem VR.non {v : V} (h : VR ci b F H .non v) : v = .non := by
  rcases h with h | ⟨_, _, _, e, _⟩
  · cases h; rfl
  · cases e
theorem VR.lst {xs : List D} {v : V} (s : Same F H) (h : VR ci b F H (.lst xs) v) : ∃ a vs, v = .ref a ∧ H a = some (.lst vs) ∧ Reps ci F xs vs := by
  rcases h with h | ⟨_, a, vs, e, e2, h1, h2, _⟩
  · obtain ⟨a, vs, e, h1, h2⟩ := h.reps_l
    exact ⟨a, vs, e, s _ _ h1, h2⟩
  · cases e
    exact ⟨a, vs, e2, h1, h2⟩
theorem VR.tup {xs : List D} {v : V} (s : Same F H) (h : VR ci b F H (.tup xs) v) : ∃ a vs, v = .ref a ∧ Rd H a (.tup vs) ∧ Reps ci F xs vs := by
  rcases h with h | ⟨_, a, vs, e, _⟩
  · obtain ⟨a, vs, e, h1, h2⟩ := h.reps_t
    exact ⟨a, vs, e, rd_same s h1, h2⟩
  · cases e
end
/-! ### the state of a def's body -/
/-- ρ tells the slots σ; F is frozen, H the heap, F0 H0 those of the entry -/
structure StRep (ci : CI) (b L : Addr) (F0 H0 : Hp) (ρ : List Sl) (σ : L2.St) (F H : Hp) : Prop where
  fr : Fr b L F0 H0 F H
  fb : F0 b = none ∧ F0 L = none
  len : ρ.length = σ.length
  sl : ∀ (i : Nat) r, ρ[i]? = some r → r ≠ .no → ∃ v, σ[i]? = some (some v) ∧ SlRep ci b L F H r v
  ow : ∀ (i : Nat) xs a, ρ[i]? = some (.m xs) → σ[i]? = some (some (.ref a)) → H0 a = none
  vw : ∀ (i : Nat) xs a, ρ[i]? = some (.v xs) → σ[i]? = some (some (.ref a)) → ∃ o, H0 a = some o
  sep : ∀ (i j : Nat) xs ys a, ρ[i]? = some (.m xs) → ρ[j]? = some (.m ys) → σ[i]? = some (some (.ref a)) → σ[j]? = some (some (.ref a)) → i = j
section
variable {ci : CI} {b L : Addr} {F0 H0 F H F' H' : Hp} {ρ : List Sl} {σ : L2.St}
theorem StRep.nb (S : StRep ci b L F0 H0 ρ σ F H) : F b = none := by
  obtain ⟨ys, e⟩ := S.fr.b0.lst
  exact S.fr.no S.fb.1 e
theorem StRep.nL (S : StRep ci b L F0 H0 ρ σ F H) : F L = none := by
  obtain ⟨ys, e⟩ := S.fr.b0.lstL
  exact S.fr.no S.fb.2 e
theorem StRep.go (S : StRep ci b L F0 H0 ρ σ F H) (x : Fr b L F H F' H') : StRep ci b L F0 H0 ρ σ F' H' :=
  ⟨S.fr.trans x, S.fb, S.len, fun i r h n => by
    obtain ⟨v, h1, h2⟩ := S.sl i r h n
    exact ⟨v, h1, h2.fr x⟩, S.ow, S.vw, S.sep⟩
theorem StRep.rf (S : StRep ci b L F0 H0 ρ σ F H) : Fr b L F H F H := Fr.refl S.fr.s1 S.fr.b1
/-- a slot is stored -/
theorem StRep.set (S : StRep ci b L F0 H0 ρ σ F H) {i : Nat} (hi : i < σ.length) {r : Sl} {v : V} (h : SlRep ci b L F H r v) (f : Fresh H0 r v) (nv : ∀ xs, r ≠ .v xs) (apart : ∀ xs a, r = .m xs → v = .ref a → ∀ (j : Nat) ys, j ≠ i → ρ[j]? = some (.m ys) → σ[j]? ≠ some (some (.ref a))) : StRep ci b L F0 H0 (ρ.set i r) (σ.set i (some v)) F H := by
  have hr : i < ρ.length := by rw [S.len]; exact hi
  have at_ : ∀ (j : Nat) q, (ρ.set i r)[j]? = some q → (j = i ∧ q = r) ∨ (j ≠ i ∧ ρ[j]? = some q) := fun j q e => by
    by_cases z : i = j
    · subst z
      rw [List.getElem?_set_self hr] at e
      exact .inl ⟨rfl, (Option.some.inj e).symm⟩
    · rw [List.getElem?_set_ne z] at e
      exact .inr ⟨fun w => z w.symm, e⟩
  have as_ : ∀ (j : Nat), j ≠ i → (σ.set i (some v))[j]? = σ[j]? := fun j n => List.getElem?_set_ne (fun w => n w.symm)
  have ai : (σ.set i (some v))[i]? = some (some v) := List.getElem?_set_self hi
  refine ⟨S.fr, S.fb, by simp [S.len], fun j q e n => ?_, fun j xs a e1 e2 => ?_, fun j xs a e1 e2 => ?_, fun j k xs ys a e1 e2 e3 e4 => ?_⟩
  · rcases at_ j q e with ⟨rfl, rfl⟩ | ⟨z, e⟩
    · exact ⟨v, ai, h⟩
    · obtain ⟨w, h1, h2⟩ := S.sl j q e n
      exact ⟨w, by rw [as_ j z]; exact h1, h2⟩
  · rcases at_ j _ e1 with ⟨rfl, e⟩ | ⟨z, e⟩
    · rw [ai] at e2
      exact f xs a e.symm (Option.some.inj (Option.some.inj e2))
    · rw [as_ j z] at e2
      exact S.ow j xs a e e2
  · rcases at_ j _ e1 with ⟨rfl, e⟩ | ⟨z, e⟩
    · exact absurd e.symm (nv xs)
    · rw [as_ j z] at e2
      exact S.vw j xs a e e2
  · rcases at_ j _ e1 with ⟨rfl, e⟩ | ⟨z, e⟩ <;> rcases at_ k _ e2 with ⟨rfl, e'⟩ | ⟨z', e'⟩
    · rfl
    · rw [ai] at e3
      rw [as_ k z'] at e4
      exact absurd e4 (apart xs a e.symm (Option.some.inj (Option.some.inj e3)) k ys z' e')
    · rw [ai] at e4
      rw [as_ j z] at e3
      exact absurd e3 (apart ys a e'.symm (Option.some.inj (Option.some.inj e4)) j xs z e)
    · rw [as_ j z] at e3
      rw [as_ k z'] at e4
      exact S.sep j k xs ys a e e' e3 e4
/-- .. with a result -/
theorem StRep.put (S : StRep ci b L F0 H0 ρ σ F H) (x : Fr b L F H F' H') {i : Nat} (hi : i < σ.length) {r : Sl} {v : V} (h : SlRep ci b L F' H' r v) (f : Fresh H r v) (nv : ∀ xs, r ≠ .v xs) : StRep ci b L F0 H0 (ρ.set i r) (σ.set i (some v)) F' H' :=
  (S.go x).set hi h (f.fr S.fr) nv fun xs a e1 e2 j ys _ ej es => by
    obtain ⟨w, h1, a2, vs, h2, h3, _⟩ := S.sl j _ ej (fun z => nomatch z)
    rw [h1] at es
    cases es
    cases h2
    rw [f xs a e1 e2] at h3
    cases h3
/-- a list of one's own is changed -/
theorem StRep.mut (S : StRep ci b L F0 H0 ρ σ F H) {i : Nat} {xs ys : List D} {a : Addr} {ws : List V} (hi : ρ[i]? = some (.m xs)) (hs : σ[i]? = some (some (.ref a))) (h : Reps ci F ys ws) : StRep ci b L F0 H0 (ρ.set i (.m ys)) σ F (upd H a (.lst ws)) := by
  have hr : i < ρ.length := (List.getElem?_eq_some_iff.mp hi).1
  have h0 := S.ow i xs a hi hs
  obtain ⟨v, h1, a2, vs, h2, h3, h4, h5, h6, h7⟩ := S.sl i _ hi (fun z => nomatch z)
  rw [hs] at h1
  cases h1
  cases h2
  have s' : Same F (upd H a (.lst ws)) := fun c o e => by
    rw [upd_ne (ne_of_none e h7)]
    exact S.fr.s1 _ _ e
  have B' : Box (upd H a (.lst ws)) b L := S.fr.b1.upd h5 h6
  refine ⟨⟨S.fr.ff, fun c o n e => by rw [upd_ne (ne_of_none e h0)]; exact S.fr.hh c o n e, S.fr.nw, S.fr.s0, s', S.fr.b0, B'⟩, S.fb, by simp [S.len], fun j q e n => ?_, fun j zs c e1 e2 => ?_, fun j zs c e1 e2 => ?_, fun j k us zs c e1 e2 e3 e4 => ?_⟩
  · by_cases z : i = j
    · subst z
      rw [List.getElem?_set_self hr] at e
      cases e
      exact ⟨_, hs, a, ws, rfl, upd_same, h, h5, h6, h7⟩
    · rw [List.getElem?_set_ne z] at e
      obtain ⟨w, g1, g2⟩ := S.sl j q e n
      refine ⟨w, g1, ?_⟩
      cases q with
      | no => trivial
      | d y => exact g2
      | box => exact g2
      | v zs =>
        obtain ⟨c, us, e1, e2, e3, e4⟩ := g2
        subst e1
        obtain ⟨o, eo⟩ := S.vw j zs c e g1
        exact ⟨c, us, rfl, by rw [upd_ne (ne_of_none eo h0)]; exact e2, e3, e4⟩
      | m zs =>
        obtain ⟨c, us, e1, e2, e3, e4⟩ := g2
        subst e1
        have ne : c ≠ a := fun w => by
          subst w
          exact z (S.sep i j xs zs c hi e hs g1)
        exact ⟨c, us, rfl, by rw [upd_ne ne]; exact e2, e3, e4⟩
  · by_cases z : i = j
    · subst z
      rw [hs] at e2
      cases e2
      exact h0
    · rw [List.getElem?_set_ne z] at e1
      exact S.ow j zs c e1 e2
  · by_cases z : i = j
    · subst z
      rw [List.getElem?_set_self hr] at e1
      cases e1
    · rw [List.getElem?_set_ne z] at e1
      exact S.vw j zs c e1 e2
  · have get : ∀ (m : Nat) us, (ρ.set i (.m ys))[m]? = some (.m us) → ∃ us', ρ[m]? = some (.m us') := fun m us e => by
      by_cases z : i = m
      · subst z
        exact ⟨xs, hi⟩
      · rw [List.getElem?_set_ne z] at e
        exact ⟨us, e⟩
    obtain ⟨u1, g1⟩ := get j us e1
    obtain ⟨u2, g2⟩ := get k zs e2
    exact S.sep j k u1 u2 c g1 g2 e3 e4
/-- a list of one's own becomes data -/
def frz (i : Nat) (ρ : List Sl) : List Sl := match ρ[i]? with
  | some (.m xs) => ρ.set i (.d (.lst xs))
  | _ => ρ
theorem StRep.frz (S : StRep ci b L F0 H0 ρ σ F H) (i : Nat) : ∃ F', Same F F' ∧ StRep ci b L F0 H0 (frz i ρ) σ F' H := by
  unfold DL.frz
  split
  · rename_i xs hi
    have hr : i < ρ.length := (List.getElem?_eq_some_iff.mp hi).1
    obtain ⟨v, h1, a, vs, h2, h3, h4, h5, h6, h7⟩ := S.sl i _ hi (fun z => nomatch z)
    subst h2
    have h0 := S.ow i xs a hi h1
    refine ⟨upd F a (.lst vs), same_upd h7, S.fr.frz h0 h7 h3, S.fb, by simp [S.len], fun j q e n => ?_, fun j zs c e1 e2 => ?_, fun j zs c e1 e2 => ?_, fun j k us zs c e1 e2 e3 e4 => ?_⟩
    · by_cases z : i = j
      · subst z
        rw [List.getElem?_set_self hr] at e
        cases e
        exact ⟨_, h1, (h4.mono (same_upd h7)).l upd_same⟩
      · rw [List.getElem?_set_ne z] at e
        obtain ⟨w, g1, g2⟩ := S.sl j q e n
        refine ⟨w, g1, ?_⟩
        cases q with
        | no => trivial
        | d y => exact Rep.mono (same_upd h7) g2
        | box => exact g2
        | v zs =>
          obtain ⟨c, us, e1, e2, e3, e4⟩ := g2
          exact ⟨c, us, e1, e2, e3.mono (same_upd h7), e4⟩
        | m zs =>
          obtain ⟨c, us, e1, e2, e3, e4, e5, e6⟩ := g2
          subst e1
          have ne : c ≠ a := fun w => by
            subst w
            exact z (S.sep i j xs zs c hi e h1 g1)
          exact ⟨c, us, rfl, e2, e3.mono (same_upd h7), e4, e5, by rw [upd_ne ne]; exact e6⟩
    · by_cases z : i = j
      · subst z
        rw [List.getElem?_set_self hr] at e1
        cases e1
      · rw [List.getElem?_set_ne z] at e1
        exact S.ow j zs c e1 e2
    · by_cases z : i = j
      · subst z
        rw [List.getElem?_set_self hr] at e1
        cases e1
      · rw [List.getElem?_set_ne z] at e1
        exact S.vw j zs c e1 e2
    · have get : ∀ (m : Nat) us, (ρ.set i (.d (.lst xs)))[m]? = some (.m us) → ρ[m]? = some (.m us) := fun m us e => by
        by_cases z : i = m
        · subst z
          rw [List.getElem?_set_self hr] at e
          cases e
        · rw [List.getElem?_set_ne z] at e
          exact e
      exact S.sep j k us zs c (get j us e1) (get k zs e2) e3 e4
  · exact ⟨F, Same.refl _, S⟩
/-- a slot is forgotten -/
theorem StRep.forget (S : StRep ci b L F0 H0 ρ σ F H) (i : Nat) : StRep ci b L F0 H0 (ρ.set i .no) σ F H := by
  have get : ∀ (m : Nat) q, (ρ.set i .no)[m]? = some q → q ≠ .no → ρ[m]? = some q := fun m q e n => by
    by_cases z : i = m
    · subst z
      by_cases hr : i < ρ.length
      · rw [List.getElem?_set_self hr] at e
        cases e
        exact absurd rfl n
      · rw [List.getElem?_eq_none (by simp; omega)] at e
        cases e
    · rw [List.getElem?_set_ne z] at e
      exact e
  exact ⟨S.fr, S.fb, by simp [S.len], fun j q e n => S.sl j q (get j q e n) n, fun j xs a e => S.ow j xs a (get j _ e (fun z => nomatch z)), fun j xs a e => S.vw j xs a (get j _ e (fun z => nomatch z)),
    fun j k xs ys a e1 e2 => S.sep j k xs ys a (get j _ e1 (fun z => nomatch z)) (get k _ e2 (fun z => nomatch z))⟩
end
end DL

/-! the data layer: expressions -/
namespace DL
open PySem PySem.Spec PyProof.Rows L2 VL
abbrev TD := List Sl → (Sl → Prop) → Prop
abbrev TDT := List Sl → (Bool → Prop) → Prop
abbrev TDA := List Sl → (List Sl → Prop) → Prop
abbrev TDD := List Sl → (List D → Prop) → Prop
abbrev TDO := List Sl → (Option Int → Prop) → Prop
def Post (ci : CI) (b L : Addr) (F H : Hp) (R : Sl → Prop) (Q : VK) : Prop := ∀ v H' F' r, Fr b L F H F' H' → SlRep ci b L F' H' r v → Fresh H r v → R r → Q v H'
theorem Post.d {ci : CI} {b L : Addr} {F H F' H' : Hp} {R : Sl → Prop} {Q : VK} {v : V} {y : D} (q : Post ci b L F H R Q) (x : Fr b L F H F' H') (rep : Rep ci F' y v) (k : R (.d y)) : Q v H' := q v H' F' (.d y) x rep Fresh.d k
/-- an expression, in each of the contexts 𝒳 -/
structure DE (ci : CI) {ι : Type} (𝒳 : ι → Cx) (e : Expr) (t : TD) : Prop where
  ex : ∃ te : TE, (∀ i, PE (𝒳 i) e te) ∧ ∀ (b L : Addr) (F0 H0 : Hp) (ρ : List Sl) (σ : L2.St) (F H : Hp) (R : Sl → Prop) (Q : VK), StRep ci b L F0 H0 ρ σ F H → t ρ R → Post ci b L F H R Q → te σ H Q
/-- a test -/
structure DT (ci : CI) {ι : Type} (𝒳 : ι → Cx) (e : Expr) (t : TDT) : Prop where
  ex : ∃ tt : TT, (∀ i, PT (𝒳 i) e tt) ∧ ∀ (b L : Addr) (F0 H0 : Hp) (ρ : List Sl) (σ : L2.St) (F H : Hp) (R : Bool → Prop) (Q : Bool → Hp → Prop), StRep ci b L F0 H0 ρ σ F H → t ρ R → (∀ c H' F', Fr b L F H F' H' → R c → Q c H') → tt σ H Q
/-- and, or as a test -/
structure DW (ci : CI) {ι : Type} (𝒳 : ι → Cx) (e : Expr) (t : TDT) : Prop where
  ex : ∃ tt : TT, (∀ i, PW (𝒳 i) e tt) ∧ ∀ (b L : Addr) (F0 H0 : Hp) (ρ : List Sl) (σ : L2.St) (F H : Hp) (R : Bool → Prop) (Q : Bool → Hp → Prop), StRep ci b L F0 H0 ρ σ F H → t ρ R → (∀ c H' F', Fr b L F H F' H' → R c → Q c H') → tt σ H Q
/-- as an argument: a list is seen, not kept -/
def Sl.arg : Sl → Sl
  | .m xs => .v xs
  | .d (.lst xs) => .v xs
  | r => r
theorem SlRep.arg {ci : CI} {b L : Addr} {F H : Hp} {r : Sl} {v : V} (s : Same F H) (n : F b = none) (h : SlRep ci b L F H r v) : SlRep ci b L F H r.arg v := by
  cases r with
  | m xs =>
    obtain ⟨a, vs, e, h1, h2, h3, _⟩ := h
    exact ⟨a, vs, e, h1, h2, h3⟩
  | d x =>
    cases x with
    | lst xs =>
      obtain ⟨a, vs, e, h1, h2⟩ := (show Rep ci F (.lst xs) v from h).reps_l
      exact ⟨a, vs, e, s _ _ h1, h2, ne_of_none h1 n⟩
    | _ => exact h
  | _ => exact h
/-- results one beside the other -/
def SlReps (ci : CI) (b L : Addr) (F H : Hp) (rs : List Sl) (vs : List V) : Prop := rs.length = vs.length ∧ ∀ (i : Nat) r v, rs[i]? = some r → vs[i]? = some v → SlRep ci b L F H r v
theorem SlReps.nil {ci : CI} {b L : Addr} {F H : Hp} : SlReps ci b L F H [] [] := ⟨rfl, fun i r v e => by simp at e⟩
theorem SlReps.cons {ci : CI} {b L : Addr} {F H : Hp} {r : Sl} {rs : List Sl} {v : V} {vs : List V} (h : SlRep ci b L F H r v) (t : SlReps ci b L F H rs vs) : SlReps ci b L F H (r :: rs) (v :: vs) := by
  refine ⟨by simp [t.1], fun i q w a b => ?_⟩
  cases i with
  | zero => simp at a b; subst a b; exact h
  | succ i => exact t.2 i q w (by simpa using a) (by simpa using b)
theorem SlReps.fr {ci : CI} {b L : Addr} {F H F' H' : Hp} {rs : List Sl} {vs : List V} (x : Fr b L F H F' H') (h : SlReps ci b L F H rs vs) : SlReps ci b L F' H' rs vs := ⟨h.1, fun i r v a b => (h.2 i r v a b).fr x⟩
/-- arguments -/
structure DA (ci : CI) {ι : Type} (𝒳 : ι → Cx) (es : List Expr) (t : TDA) : Prop where
  ex : ∃ ta : TA, (∀ i, PA (𝒳 i) es ta) ∧ ∀ (b L : Addr) (F0 H0 : Hp) (ρ : List Sl) (σ : L2.St) (F H : Hp) (R : List Sl → Prop) (Q : List V → Hp → Prop), StRep ci b L F0 H0 ρ σ F H → t ρ R → (∀ vs H' F' rs, Fr b L F H F' H' → SlReps ci b L F' H' rs vs → R rs → Q vs H') → ta σ H Q
/-- items that are kept -/
structure DK (ci : CI) {ι : Type} (𝒳 : ι → Cx) (es : List Expr) (t : TDD) : Prop where
  ex : ∃ ta : TA, (∀ i, PA (𝒳 i) es ta) ∧ ∀ (b L : Addr) (F0 H0 : Hp) (ρ : List Sl) (σ : L2.St) (F H : Hp) (R : List D → Prop) (Q : List V → Hp → Prop), StRep ci b L F0 H0 ρ σ F H → t ρ R → (∀ vs H' F' xs, Fr b L F H F' H' → Reps ci F' xs vs → R xs → Q vs H') → ta σ H Q
section
variable {ci : CI} {ι : Type} {𝒳 : ι → Cx} {a c : Expr} {ta tb tc : TD} {pos : Pos}
/-! ### names, constants -/
def dVar (i : Nat) : TD := fun ρ R => match ρ[i]? with
  | some (.d x) => R (.d x)
  | some (.v xs) => R (.v xs)
  | some (.m xs) => R (.v xs)
  | some .box => R .box
  | _ => False
theorem de_var (k : Nat) {x : Str} (hN : ∀ i, (𝒳 i).N[k]? = some x := by intro _; rfl) (hv : ∀ i, Vis (𝒳 i).env.scope x := by intro _; first | exact Or.inl rfl | exact Or.inr (Or.inl rfl) | exact Or.inr (Or.inr rfl)) (hd : (x == ("__debug__" : Str)) = false := by decide)
    (hcd : (x == ("__classdict__" : Str)) = false := by decide) : DE ci 𝒳 (.Name x pos) (dVar k) := by
  refine ⟨tVar k, fun i => pe_var (hN i) (hv i) hd hcd, fun b L F0 H0 ρ σ F H R Q S h q => ?_⟩
  unfold dVar at h
  split at h
  · rename_i x e
    obtain ⟨v, h1, h2⟩ := S.sl k _ e (fun z => nomatch z)
    exact ⟨v, h1, q v H F (.d x) S.rf h2 Fresh.d h⟩
  · rename_i xs e
    obtain ⟨v, h1, h2⟩ := S.sl k _ e (fun z => nomatch z)
    exact ⟨v, h1, q v H F (.v xs) S.rf h2 Fresh.vv h⟩
  · rename_i xs e
    obtain ⟨v, h1, a, vs, e1, e2, e3, e4, _⟩ := S.sl k _ e (fun z => nomatch z)
    exact ⟨v, h1, q v H F (.v xs) S.rf ⟨a, vs, e1, e2, e3, e4⟩ Fresh.vv h⟩
  · rename_i e
    obtain ⟨v, h1, h2⟩ := S.sl k _ e (fun z => nomatch z)
    exact ⟨v, h1, q v H F .box S.rf h2 Fresh.bx h⟩
  · exact h.elim
def dC (x : D) : TD := fun _ R => R (.d x)
theorem de_c {v : V} {x : D} (h : ∀ i, PE (𝒳 i) a (tC v)) (r : ∀ F, Rep ci F x v) : DE ci 𝒳 a (dC x) :=
  ⟨tC v, h, fun _ _ _ _ _ _ F H R Q S h q => q v H F (.d x) S.rf (r F) Fresh.d h⟩
theorem de_int {i j} : DE ci 𝒳 (.Constant (.int i) j pos) (dC (.int i)) := de_c (fun _ => pe_int) fun _ => .int i
theorem de_bl {i j} : DE ci 𝒳 (.Constant (.bool i) j pos) (dC (.bl i)) := de_c (fun _ => pe_bl) fun _ => .bl i
theorem de_non {j} : DE ci 𝒳 (.Constant .none j pos) (dC .non) := de_c (fun _ => pe_non) fun _ => .non
theorem de_str {i j} : DE ci 𝒳 (.Constant (.str i) j pos) (dC (.str i)) := de_c (fun _ => pe_str) fun _ => .str i
/-- a constant of the module -/
theorem de_glob {x : Str} {y : D} {v : V} {u : Value} (hg : ∀ i, Gl (𝒳 i) x) (hm : ∀ i, (𝒳 i).mg x = some u) (r : RelV v u) (ry : ∀ F, Rep ci F y v) (hd : (x == ("__debug__" : Str)) = false := by decide) : DE ci 𝒳 (.Name x pos) (dC y) :=
  de_c (fun i => pe_glob (hg i) (hm i) r hd) ry
/-! ### operators -/
abbrev F2 := D → D → (Sl → Prop) → Prop
abbrev F1 := D → (Sl → Prop) → Prop
/-- a two-place operation on values does what f says of data -/
def Bin (ci : CI) (r : R2) (f : F2) : Prop := ∀ (b L : Addr) (F H : Hp) (x y : D) (v w : V) (R : Sl → Prop) (Q : VK), Fr b L F H F H → VR ci b F H x v → VR ci b F H y w → f x y R → Post ci b L F H R Q → r v w H Q
def Una (ci : CI) (r : V → Hp → VK → Prop) (f : F1) : Prop := ∀ (b L : Addr) (F H : Hp) (x : D) (v : V) (R : Sl → Prop) (Q : VK), Fr b L F H F H → VR ci b F H x v → f x R → Post ci b L F H R Q → r v H Q
def dBin (f : F2) (ta tb : TD) : TD := fun ρ R => ta ρ fun r => withV r fun x => tb ρ fun q => withV q fun y => f x y R
def dUna (f : F1) (ta : TD) : TD := fun ρ R => ta ρ fun r => withV r fun x => f x R
theorem Post.mono {b L : Addr} {F H F' H' : Hp} {R : Sl → Prop} {Q : VK} (x : Fr b L F H F' H') (q : Post ci b L F H R Q) : Post ci b L F' H' R Q := fun v H2 F2 r y h f k => q v H2 F2 r (x.trans y) h (f.fr x) k
theorem bin_sound {te1 te2 : TE} {r : R2} {f : F2} (hb : Bin ci r f)
    (h1 : ∀ (b L : Addr) (F0 H0 : Hp) (ρ : List Sl) (σ : L2.St) (F H : Hp) (R : Sl → Prop) (Q : VK), StRep ci b L F0 H0 ρ σ F H → ta ρ R → Post ci b L F H R Q → te1 σ H Q)
    (h2 : ∀ (b L : Addr) (F0 H0 : Hp) (ρ : List Sl) (σ : L2.St) (F H : Hp) (R : Sl → Prop) (Q : VK), StRep ci b L F0 H0 ρ σ F H → tb ρ R → Post ci b L F H R Q → te2 σ H Q)
    (b L : Addr) (F0 H0 : Hp) (ρ : List Sl) (σ : L2.St) (F H : Hp) (R : Sl → Prop) (Q : VK) (S : StRep ci b L F0 H0 ρ σ F H) (h : dBin f ta tb ρ R) (q : Post ci b L F H R Q) : tOp r te1 te2 σ H Q := by
  refine h1 b L F0 H0 ρ σ F H _ _ S h fun v H1 F1 r1 x1 rep1 _ k1 => ?_
  obtain ⟨x, rx, k1⟩ := withV_of rep1 k1
  refine h2 b L F0 H0 ρ σ F1 H1 _ _ (S.go x1) k1 fun w H2 F2 r2 x2 rep2 _ k2 => ?_
  obtain ⟨y, ry, k2⟩ := withV_of rep2 k2
  exact hb b L F2 H2 x y v w R Q (Fr.refl x2.s1 x2.b1) (rx.fr x2) ry k2 (q.mono (x1.trans x2))
theorem de_op {op : Operator} {r : R2} {f : F2} (ho : ∀ i, OpR (𝒳 i) (binaryOp op) r) (hb : Bin ci r f) (ha : DE ci 𝒳 a ta) (hc : DE ci 𝒳 c tb) : DE ci 𝒳 (.BinOp a op c pos) (dBin f ta tb) := by
  obtain ⟨te1, p1, h1⟩ := ha.ex
  obtain ⟨te2, p2, h2⟩ := hc.ex
  exact ⟨_, fun i => pe_op (ho i) (p1 i) (p2 i), bin_sound hb h1 h2⟩
theorem de_cmp {op : CmpOp} {r : R2} {f : F2} (ho : ∀ i, OpR (𝒳 i) (compareOp op) r) (hb : Bin ci r f) (ha : DE ci 𝒳 a ta) (hc : DE ci 𝒳 c tb) (hm : behindInMarks op c = false) : DE ci 𝒳 (.Compare a [op] [c] pos) (dBin f ta tb) := by
  obtain ⟨te1, p1, h1⟩ := ha.ex
  obtain ⟨te2, p2, h2⟩ := hc.ex
  exact ⟨_, fun i => pe_cmpR (ho i) (p1 i) (p2 i) hm, bin_sound hb h1 h2⟩
theorem de_un {op : UnaryOp} {r : V → Hp → VK → Prop} {f : F1} (ho : ∀ i, UnR (𝒳 i) (unaryOp op) r) (hb : Una ci r f) (ha : DE ci 𝒳 a ta) : DE ci 𝒳 (.UnaryOp op a pos) (dUna f ta) := by
  obtain ⟨te1, p1, h1⟩ := ha.ex
  refine ⟨tUn r te1, fun i => pe_un (ho i) (p1 i), fun b L F0 H0 ρ σ F H R Q S h q => ?_⟩
  refine h1 b L F0 H0 ρ σ F H _ _ S h fun v H1 F1 r1 x1 rep1 _ k1 => ?_
  obtain ⟨x, rx, k1⟩ := withV_of rep1 k1
  exact hb b L F1 H1 x v R Q (Fr.refl x1.s1 x1.b1) rx k1 (q.mono x1)
/-- a bool as a test -/
def dB (t : TD) : TDT := fun ρ R => t ρ fun r => withV r fun x => ∃ k, x = .bl k ∧ R k
theorem dt_val (ha : DE ci 𝒳 a ta) (he : ∀ i whole, isTrue a (𝒳 i).env whole = (do let v ← whole; standAt a.pos; holding [v] (truthy v)) := by intro _ _; rfl) : DT ci 𝒳 a (dB ta) := by
  obtain ⟨te1, p1, h1⟩ := ha.ex
  refine ⟨tB te1, fun i => pt_val (p1 i) (he i), fun b L F0 H0 ρ σ F H R Q S h q => ?_⟩
  refine h1 b L F0 H0 ρ σ F H _ _ S h fun v H1 F1 r1 x1 rep1 _ k1 => ?_
  obtain ⟨x, rx, k, rfl, kq⟩ := withV_of rep1 k1
  exact ⟨k, rx.bl, q k H1 F1 x1 kq⟩
theorem dt_cmp {op : CmpOp} {r : R2} {f : F2} (ho : ∀ i, OpR (𝒳 i) (compareOp op) r) (hb : Bin ci r f) (ha : DE ci 𝒳 a ta) (hc : DE ci 𝒳 c tb) (hm : behindInMarks op c = false) : DT ci 𝒳 (.Compare a [op] [c] pos) (dB (dBin f ta tb)) := by
  obtain ⟨te1, p1, h1⟩ := ha.ex
  obtain ⟨te2, p2, h2⟩ := hc.ex
  refine ⟨_, fun i => pt_cmpR (ho i) (p1 i) (p2 i) hm, fun b L F0 H0 ρ σ F H R Q S h q => ?_⟩
  exact bin_sound hb h1 h2 b L F0 H0 ρ σ F H _ _ S h fun v H1 F1 r1 x1 rep1 _ k1 => by
    obtain ⟨x, rx, k, rfl, kq⟩ := withV_of rep1 k1
    exact ⟨k, rx.bl, q k H1 F1 x1 kq⟩
/-- a op1 b op2 c -/
def dChain (f g : F2) (ta tb tc : TD) : TD := fun ρ R => ta ρ fun r => withV r fun x => tb ρ fun q => withV q fun y => f x y fun s => ∃ k, s = .d (.bl k) ∧ if k = true then tc ρ fun p => withV p fun z => g y z R else R (.d (.bl false))
theorem chain_sound {e : Expr} {te1 te2 te3 : TE} {r r' : R2} {f g : F2} (hb : Bin ci r f) (hb' : Bin ci r' g)
    (h1 : ∀ (b L : Addr) (F0 H0 : Hp) (ρ : List Sl) (σ : L2.St) (F H : Hp) (R : Sl → Prop) (Q : VK), StRep ci b L F0 H0 ρ σ F H → ta ρ R → Post ci b L F H R Q → te1 σ H Q)
    (h2 : ∀ (b L : Addr) (F0 H0 : Hp) (ρ : List Sl) (σ : L2.St) (F H : Hp) (R : Sl → Prop) (Q : VK), StRep ci b L F0 H0 ρ σ F H → tb ρ R → Post ci b L F H R Q → te2 σ H Q)
    (h3 : ∀ (b L : Addr) (F0 H0 : Hp) (ρ : List Sl) (σ : L2.St) (F H : Hp) (R : Sl → Prop) (Q : VK), StRep ci b L F0 H0 ρ σ F H → tc ρ R → Post ci b L F H R Q → te3 σ H Q)
    (b L : Addr) (F0 H0 : Hp) (ρ : List Sl) (σ : L2.St) (F H : Hp) (R : Sl → Prop) (Q : VK) (S : StRep ci b L F0 H0 ρ σ F H) (h : dChain f g ta tb tc ρ R) (q : Post ci b L F H R Q) : tChain r r' te1 te2 te3 σ H Q := by
  refine h1 b L F0 H0 ρ σ F H _ _ S h fun v H1 F1 r1 x1 rep1 _ k1 => ?_
  obtain ⟨x, rx, k1⟩ := withV_of rep1 k1
  refine h2 b L F0 H0 ρ σ F1 H1 _ _ (S.go x1) k1 fun w H2 F2 r2 x2 rep2 _ k2 => ?_
  obtain ⟨y, ry, k2⟩ := withV_of rep2 k2
  refine hb b L F2 H2 x y v w _ _ (Fr.refl x2.s1 x2.b1) (rx.fr x2) ry k2 fun u H3 F3 r3 x3 rep3 _ k3 => ?_
  obtain ⟨k, rfl, k3⟩ := k3
  refine ⟨k, VR.bl (.inl rep3 : VR ci b F3 H3 (.bl k) u), ?_⟩
  cases k with
  | true =>
    refine iteT ?_
    rw [if_pos rfl] at k3
    refine h3 b L F0 H0 ρ σ F3 H3 _ _ ((S.go (x1.trans x2)).go x3) k3 fun u' H4 F4 r4 x4 rep4 _ k4 => ?_
    obtain ⟨z, rz, k4⟩ := withV_of rep4 k4
    exact hb' b L F4 H4 y z w u' R Q (Fr.refl x4.s1 x4.b1) (ry.fr (x3.trans x4)) rz k4 (q.mono (((x1.trans x2).trans x3).trans x4))
  | false =>
    refine iteF ?_
    rw [if_neg Bool.false_ne_true] at k3
    exact q.d ((x1.trans x2).trans x3) (Rep.bl false) k3
theorem de_chain {e : Expr} {op op' : CmpOp} {r r' : R2} {f g : F2} (ho : ∀ i, OpR (𝒳 i) (compareOp op) r) (hb : Bin ci r f) (ho' : ∀ i, OpR (𝒳 i) (compareOp op') r') (hb' : Bin ci r' g) (ha : DE ci 𝒳 a ta) (hc : DE ci 𝒳 c tb) (he : DE ci 𝒳 e tc)
    (hm : lastMarks [op, op'] [c, e] = false := by with_unfolding_all rfl) : DE ci 𝒳 (.Compare a [op, op'] [c, e] pos) (dChain f g ta tb tc) := by
  obtain ⟨te1, p1, h1⟩ := ha.ex
  obtain ⟨te2, p2, h2⟩ := hc.ex
  obtain ⟨te3, p3, h3⟩ := he.ex
  exact ⟨_, fun i => pe_chain (ho i) (ho' i) (p1 i) (p2 i) (p3 i) hm, chain_sound (e := e) hb hb' h1 h2 h3⟩
theorem dt_chain {e : Expr} {op op' : CmpOp} {r r' : R2} {f g : F2} (ho : ∀ i, OpR (𝒳 i) (compareOp op) r) (hb : Bin ci r f) (ho' : ∀ i, OpR (𝒳 i) (compareOp op') r') (hb' : Bin ci r' g) (ha : DE ci 𝒳 a ta) (hc : DE ci 𝒳 c tb) (he : DE ci 𝒳 e tc)
    (hm : lastMarks [op, op'] [c, e] = false := by with_unfolding_all rfl) : DT ci 𝒳 (.Compare a [op, op'] [c, e] pos) (dB (dChain f g ta tb tc)) := by
  obtain ⟨te1, p1, h1⟩ := ha.ex
  obtain ⟨te2, p2, h2⟩ := hc.ex
  obtain ⟨te3, p3, h3⟩ := he.ex
  refine ⟨_, fun i => pt_chain (ho i) (ho' i) (p1 i) (p2 i) (p3 i) hm, fun b L F0 H0 ρ σ F H R Q S h q => ?_⟩
  exact chain_sound (e := e) hb hb' h1 h2 h3 b L F0 H0 ρ σ F H _ _ S h fun v H1 F1 r1 x1 rep1 _ k1 => by
    obtain ⟨x, rx, k, rfl, kq⟩ := withV_of rep1 k1
    exact ⟨k, rx.bl, q k H1 F1 x1 kq⟩
/-! ### and, or, not -/
variable {rest : List Expr} {tA tB' : TDT}
def dAnd (t u : TDT) : TDT := fun ρ R => t ρ fun c => if c = true then u ρ R else R false
def dOr (t u : TDT) : TDT := fun ρ R => t ρ fun c => if c = true then R true else u ρ R
def dNot (t : TDT) : TDT := fun ρ R => t ρ fun c => R (!c)
theorem dw_and1 (ha : DT ci 𝒳 a tA) : DW ci 𝒳 (.BoolOp .And [a] pos) tA := let ⟨tt, p, h⟩ := ha.ex; ⟨tt, fun i => pw_and1 (p i), h⟩
theorem dw_or1 (ha : DT ci 𝒳 a tA) : DW ci 𝒳 (.BoolOp .Or [a] pos) tA := let ⟨tt, p, h⟩ := ha.ex; ⟨tt, fun i => pw_or1 (p i), h⟩
theorem dw_and (ha : DT ci 𝒳 a tA) (hb : DW ci 𝒳 (.BoolOp .And (c :: rest) pos) tB') : DW ci 𝒳 (.BoolOp .And (a :: c :: rest) pos) (dAnd tA tB') := by
  obtain ⟨t1, p1, h1⟩ := ha.ex
  obtain ⟨t2, p2, h2⟩ := hb.ex
  refine ⟨tAnd t1 t2, fun i => pw_and (p1 i) (p2 i), fun b L F0 H0 ρ σ F H R Q S h q => ?_⟩
  refine h1 b L F0 H0 ρ σ F H _ _ S h fun k H1 F1 x1 k1 => ?_
  cases k with
  | true =>
    rw [if_pos rfl] at k1
    exact iteT (h2 b L F0 H0 ρ σ F1 H1 _ _ (S.go x1) k1 fun k H2 F2 x2 k2 => q k H2 F2 (x1.trans x2) k2)
  | false =>
    rw [if_neg Bool.false_ne_true] at k1
    exact iteF (q false H1 F1 x1 k1)
theorem dw_or (ha : DT ci 𝒳 a tA) (hb : DW ci 𝒳 (.BoolOp .Or (c :: rest) pos) tB') : DW ci 𝒳 (.BoolOp .Or (a :: c :: rest) pos) (dOr tA tB') := by
  obtain ⟨t1, p1, h1⟩ := ha.ex
  obtain ⟨t2, p2, h2⟩ := hb.ex
  refine ⟨tOr t1 t2, fun i => pw_or (p1 i) (p2 i), fun b L F0 H0 ρ σ F H R Q S h q => ?_⟩
  refine h1 b L F0 H0 ρ σ F H _ _ S h fun k H1 F1 x1 k1 => ?_
  cases k with
  | true =>
    rw [if_pos rfl] at k1
    exact iteT (q true H1 F1 x1 k1)
  | false =>
    rw [if_neg Bool.false_ne_true] at k1
    exact iteF (h2 b L F0 H0 ρ σ F1 H1 _ _ (S.go x1) k1 fun k H2 F2 x2 k2 => q k H2 F2 (x1.trans x2) k2)
theorem DW.dt (h : DW ci 𝒳 a tA) : DT ci 𝒳 a tA := let ⟨tt, p, h⟩ := h.ex; ⟨tt, fun i => (p i).pt, h⟩
theorem dt_not (ha : DT ci 𝒳 a tA) : DT ci 𝒳 (.UnaryOp .Not a pos) (dNot tA) := by
  obtain ⟨t1, p1, h1⟩ := ha.ex
  exact ⟨tNot t1, fun i => pt_not (p1 i), fun b L F0 H0 ρ σ F H R Q S h q => h1 b L F0 H0 ρ σ F H _ _ S h fun k H1 F1 x1 k1 => q _ H1 F1 x1 k1⟩
/-- .. as values -/
def dAndV (ta tb : TD) : TD := fun ρ R => ta ρ fun r => withV r fun x => ∃ k, x = .bl k ∧ if k = true then tb ρ R else R (.d (.bl false))
def dOrV (ta tb : TD) : TD := fun ρ R => ta ρ fun r => withV r fun x => ∃ k, x = .bl k ∧ if k = true then R (.d (.bl true)) else tb ρ R
def dNotV (ta : TD) : TD := fun ρ R => ta ρ fun r => withV r fun x => ∃ k, x = .bl k ∧ R (.d (.bl (!k)))
theorem de_one {op} (ha : DE ci 𝒳 a ta) : DE ci 𝒳 (.BoolOp op [a] pos) ta := let ⟨tt, p, h⟩ := ha.ex; ⟨tt, fun i => pe_one (p i), h⟩
theorem de_and (ha : DE ci 𝒳 a ta) (hb : DE ci 𝒳 (.BoolOp .And (c :: rest) pos) tb) : DE ci 𝒳 (.BoolOp .And (a :: c :: rest) pos) (dAndV ta tb) := by
  obtain ⟨t1, p1, h1⟩ := ha.ex
  obtain ⟨t2, p2, h2⟩ := hb.ex
  refine ⟨tAndV t1 t2, fun i => pe_and (p1 i) (p2 i), fun b L F0 H0 ρ σ F H R Q S h q => ?_⟩
  refine h1 b L F0 H0 ρ σ F H _ _ S h fun v H1 F1 r1 x1 rep1 _ k1 => ?_
  obtain ⟨x, rx, k, rfl, k1⟩ := withV_of rep1 k1
  refine ⟨k, rx.bl, ?_⟩
  cases k with
  | true =>
    rw [if_pos rfl] at k1
    exact iteT (h2 b L F0 H0 ρ σ F1 H1 _ _ (S.go x1) k1 (q.mono x1))
  | false =>
    rw [if_neg Bool.false_ne_true] at k1
    exact iteF (q.d x1 (Rep.bl false) k1)
theorem de_or (ha : DE ci 𝒳 a ta) (hb : DE ci 𝒳 (.BoolOp .Or (c :: rest) pos) tb) : DE ci 𝒳 (.BoolOp .Or (a :: c :: rest) pos) (dOrV ta tb) := by
  obtain ⟨t1, p1, h1⟩ := ha.ex
  obtain ⟨t2, p2, h2⟩ := hb.ex
  refine ⟨tOrV t1 t2, fun i => pe_or (p1 i) (p2 i), fun b L F0 H0 ρ σ F H R Q S h q => ?_⟩
  refine h1 b L F0 H0 ρ σ F H _ _ S h fun v H1 F1 r1 x1 rep1 _ k1 => ?_
  obtain ⟨x, rx, k, rfl, k1⟩ := withV_of rep1 k1
  refine ⟨k, rx.bl, ?_⟩
  cases k with
  | true =>
    rw [if_pos rfl] at k1
    exact iteT (q.d x1 (Rep.bl true) k1)
  | false =>
    rw [if_neg Bool.false_ne_true] at k1
    exact iteF (h2 b L F0 H0 ρ σ F1 H1 _ _ (S.go x1) k1 (q.mono x1))
theorem de_not (ha : DE ci 𝒳 a ta) : DE ci 𝒳 (.UnaryOp .Not a pos) (dNotV ta) := by
  obtain ⟨t1, p1, h1⟩ := ha.ex
  refine ⟨tNotV t1, fun i => pe_not (p1 i), fun b L F0 H0 ρ σ F H R Q S h q => ?_⟩
  refine h1 b L F0 H0 ρ σ F H _ _ S h fun v H1 F1 r1 x1 rep1 _ k1 => ?_
  obtain ⟨x, rx, k, rfl, k1⟩ := withV_of rep1 k1
  exact ⟨k, rx.bl, q.d x1 (Rep.bl _) k1⟩
def dIf (t : TDT) (ta tb : TD) : TD := fun ρ R => t ρ fun c => if c = true then ta ρ R else tb ρ R
theorem de_if {e : Expr} (hc : DT ci 𝒳 e tA) (ha : DE ci 𝒳 a ta) (hb : DE ci 𝒳 c tb) : DE ci 𝒳 (.IfExp e a c pos) (dIf tA ta tb) := by
  obtain ⟨t0, p0, h0⟩ := hc.ex
  obtain ⟨t1, p1, h1⟩ := ha.ex
  obtain ⟨t2, p2, h2⟩ := hb.ex
  refine ⟨tIf t0 t1 t2, fun i => pe_ifExp (p0 i) (p1 i) (p2 i), fun b L F0 H0 ρ σ F H R Q S h q => ?_⟩
  refine h0 b L F0 H0 ρ σ F H _ _ S h fun k H1 F1 x1 k1 => ?_
  cases k with
  | true =>
    rw [if_pos rfl] at k1
    exact iteT (h1 b L F0 H0 ρ σ F1 H1 _ _ (S.go x1) k1 (q.mono x1))
  | false =>
    rw [if_neg Bool.false_ne_true] at k1
    exact iteF (h2 b L F0 H0 ρ σ F1 H1 _ _ (S.go x1) k1 (q.mono x1))
/-! ### argument lists, displays -/
variable {e : Expr} {es : List Expr}
theorem da_nil : DA ci 𝒳 [] (fun _ R => R []) := ⟨tNil, fun _ => pa_nil, fun b L F0 H0 ρ σ F H R Q S h q => q [] H F [] S.rf .nil h⟩
def dArgs (ta : TD) (tr : TDA) : TDA := fun ρ R => ta ρ fun r => tr ρ fun rs => R (r.arg :: rs)
theorem da_cons {tr : TDA} (ha : DE ci 𝒳 e ta) (hr : DA ci 𝒳 es tr) (hs : ∀ i, starEach (e :: es) (𝒳 i).env = (false, eval e (𝒳 i).env) :: starEach es (𝒳 i).env := by intro _; rfl) : DA ci 𝒳 (e :: es) (dArgs ta tr) := by
  obtain ⟨t1, p1, h1⟩ := ha.ex
  obtain ⟨t2, p2, h2⟩ := hr.ex
  refine ⟨tCons t1 t2, fun i => pa_cons (p1 i) (p2 i) (hs i), fun b L F0 H0 ρ σ F H R Q S h q => ?_⟩
  refine h1 b L F0 H0 ρ σ F H _ _ S h fun v H1 F1 r1 x1 rep1 _ k1 => ?_
  refine h2 b L F0 H0 ρ σ F1 H1 _ _ (S.go x1) k1 fun vs H2 F2 rs x2 rep2 k2 => ?_
  exact q _ H2 F2 _ (x1.trans x2) (.cons ((SlRep.arg x1.s1 (S.go x1).nb rep1).fr x2) rep2) k2
theorem dk_nil : DK ci 𝒳 [] (fun _ R => R []) := ⟨tNil, fun _ => pa_nil, fun b L F0 H0 ρ σ F H R Q S h q => q [] H F [] S.rf .nil h⟩
def dKeep (ta : TD) (tr : TDD) : TDD := fun ρ R => ta ρ fun r => withD r fun x => tr ρ fun xs => R (x :: xs)
theorem dk_cons {tr : TDD} (ha : DE ci 𝒳 e ta) (hr : DK ci 𝒳 es tr) (hs : ∀ i, starEach (e :: es) (𝒳 i).env = (false, eval e (𝒳 i).env) :: starEach es (𝒳 i).env := by intro _; rfl) : DK ci 𝒳 (e :: es) (dKeep ta tr) := by
  obtain ⟨t1, p1, h1⟩ := ha.ex
  obtain ⟨t2, p2, h2⟩ := hr.ex
  refine ⟨tCons t1 t2, fun i => pa_cons (p1 i) (p2 i) (hs i), fun b L F0 H0 ρ σ F H R Q S h q => ?_⟩
  refine h1 b L F0 H0 ρ σ F H _ _ S h fun v H1 F1 r1 x1 rep1 f1 k1 => ?_
  obtain ⟨y, G, x1, _, ry, k1⟩ := withD_of x1 rep1 f1 k1
  refine h2 b L F0 H0 ρ σ G H1 _ _ (S.go x1) k1 fun vs H2 F2 rs x2 rep2 k2 => ?_
  exact q _ H2 F2 _ (x1.trans x2) (.cons (ry.mono x2.ff) rep2) k2
theorem slen {n : Nat} (h : n ≤ 1000000) : n ≤ sizeLine := Nat.le_trans h (by decide)
theorem slenlt {n : Nat} (h : n ≤ 1000000) : n < sizeLine := Nat.lt_of_le_of_lt h (by decide)
def dTup (t : TDD) : TD := fun ρ R => t ρ fun xs => xs.length ≤ 1000000 ∧ R (.d (.tup xs))
def dLst (t : TDD) : TD := fun ρ R => t ρ fun xs => xs.length ≤ 1000000 ∧ R (.m xs)
theorem de_tup {t : TDD} {x1} (h : DK ci 𝒳 es t) : DE ci 𝒳 (.Tuple es x1 pos) (dTup t) := by
  obtain ⟨t1, p1, h1⟩ := h.ex
  refine ⟨tTup t1, fun i => pe_tup (p1 i), fun b L F0 H0 ρ σ F H R Q S h q => ?_⟩
  refine h1 b L F0 H0 ρ σ F H _ _ S h fun vs H1 F1 xs x1 rep k1 => ⟨by rw [← rep.1]; exact slen k1.1, fun p hp => ?_⟩
  have y := Fr.new x1.s1 x1.b1 (.tup vs) hp
  exact q.d (x1.trans y) ((rep.mono y.ff).t upd_same) k1.2
theorem sl_m {b L : Addr} {F H F1 H1 : Hp} {p : Addr} {vs : List V} {xs : List D} (x : Fr b L F H F1 H1) (rep : Reps ci F1 xs vs) (hp : H1 p = none) : SlRep ci b L F1 (upd H1 p (.lst vs)) (.m xs) (.ref p) := by
  obtain ⟨n1, n2⟩ := x.b1.new hp
  exact ⟨p, vs, rfl, upd_same, rep, n1, n2, same_free x.s1 hp⟩
theorem fresh_m {b L : Addr} {F H F1 H1 : Hp} {p : Addr} {xs : List D} (x : Fr b L F H F1 H1) (hp : H1 p = none) : Fresh H (.m xs) (.ref p) := fun _ a _ e => by
  cases e
  exact x.free hp
theorem de_lst {t : TDD} (h : DK ci 𝒳 es t) : DE ci 𝒳 (.List es pos) (dLst t) := by
  obtain ⟨t1, p1, h1⟩ := h.ex
  refine ⟨tLst t1, fun i => pe_lst (p1 i), fun b L F0 H0 ρ σ F H R Q S h q => ?_⟩
  refine h1 b L F0 H0 ρ σ F H _ _ S h fun vs H1 F1 xs x1 rep k1 => ⟨by rw [← rep.1]; exact slen k1.1, fun p hp => ?_⟩
  exact q _ _ _ _ (x1.trans (Fr.tmp x1.s1 x1.b1 (.lst vs) hp)) (sl_m x1 rep hp) (fresh_m x1 hp) k1.2
/-! ### subscripts, slices -/
theorem de_ix {r : R2} {f : F2} (ho : ∀ i, IxR (𝒳 i) r) (hb : Bin ci r f) (ha : DE ci 𝒳 a ta) (hc : DE ci 𝒳 c tb) (hs : PlainIx c := by exact fun _ _ => rfl) : DE ci 𝒳 (.Subscript a c pos) (dBin f ta tb) := by
  obtain ⟨te1, p1, h1⟩ := ha.ex
  obtain ⟨te2, p2, h2⟩ := hc.ex
  exact ⟨_, fun i => pe_ix (ho i) (p1 i) (p2 i) hs, bin_sound hb h1 h2⟩
structure DO (ci : CI) {ι : Type} (𝒳 : ι → Cx) (e : Option Expr) (t : TDO) : Prop where
  ex : ∃ to : TO, (∀ i, PO (𝒳 i) e to) ∧ ∀ (b L : Addr) (F0 H0 : Hp) (ρ : List Sl) (σ : L2.St) (F H : Hp) (R : Option Int → Prop) (Q : Option Int → Hp → Prop), StRep ci b L F0 H0 ρ σ F H → t ρ R → (∀ o H' F', Fr b L F H F' H' → R o → Q o H') → to σ H Q
theorem do_none : DO ci 𝒳 none (fun _ R => R none) := ⟨tNoPart, fun _ => po_none, fun b L F0 H0 ρ σ F H R Q S h q => q none H F S.rf h⟩
theorem do_some (ha : DE ci 𝒳 a ta) : DO ci 𝒳 (some a) (fun ρ R => ta ρ fun r => withV r fun x => ∃ i, x = .int i ∧ R (some i)) := by
  obtain ⟨te1, p1, h1⟩ := ha.ex
  refine ⟨tPart te1, fun i => po_some (p1 i), fun b L F0 H0 ρ σ F H R Q S h q => ?_⟩
  refine h1 b L F0 H0 ρ σ F H _ _ S h fun v H1 F1 r1 x1 rep1 _ k1 => ?_
  obtain ⟨x, rx, k, rfl, k1⟩ := withV_of rep1 k1
  exact ⟨k, rx.int, q _ H1 F1 x1 k1⟩
/-- a part of a sequence -/
def cutD (xs : List D) (lo hi : Option Int) : List D := (xs.drop (HT.sIx xs.length 0 lo)).take (HT.sIx xs.length xs.length hi - HT.sIx xs.length 0 lo)
theorem Reps.cut {F : Hp} {xs : List D} {vs : List V} (h : Reps ci F xs vs) (lo hi : Option Int) : Reps ci F (cutD xs lo hi) (cutV vs lo hi) := by
  unfold cutD cutV
  rw [h.1]
  exact (h.drop _).take _
def sliceF (x : D) (lo hi : Option Int) (R : Sl → Prop) : Prop := match x with
  | .lst xs => R (.m (cutD xs lo hi))
  | .tup xs => R (.d (.tup (cutD xs lo hi)))
  | .str z => z.length ≤ 1000000 ∧ R (.d (.str (Txt.slice z lo hi)))
  | _ => False
end
end DL

/-! the data layer: operators -/
namespace DL
open PySem PySem.Spec PyProof.Rows L2 VL
section
variable {ci : CI} {K : PySem.W.Frag}
theorem VR.seqL {b : Addr} {F H : Hp} {xs : List D} {v : V} (s : Same F H) (h : VR ci b F H (.lst xs) v) : ∃ a vs, v = .ref a ∧ SqL K H a vs ∧ Reps ci F xs vs := by
  obtain ⟨a, vs, e, h1, h2⟩ := h.lst s
  exact ⟨a, vs, e, SqL.of h1, h2⟩
theorem VR.seqT {b : Addr} {F H : Hp} {xs : List D} {v : V} (s : Same F H) (h : VR ci b F H (.tup xs) v) : ∃ a vs, v = .ref a ∧ SqT K H a vs ∧ Reps ci F xs vs := by
  obtain ⟨a, vs, e, h1, h2⟩ := h.tup s
  exact ⟨a, vs, e, .inl h1, h2⟩
/-! ### + - * % // ** -/
def addF : F2 := fun x y R => match x, y with
  | .int i, .int j => R (.d (.int (i + j)))
  | .str s, .str t => s.length + t.length ≤ 1000000 ∧ R (.d (.str (s ++ t)))
  | .lst xs, .lst ys => xs.length + ys.length ≤ 1000000 ∧ R (.m (xs ++ ys))
  | .tup xs, .tup ys => xs.length + ys.length ≤ 1000000 ∧ R (.d (.tup (xs ++ ys)))
  | _, _ => False
def rAddA (K : PySem.W.Frag) : R2 := fun x y H Q => (rI0 fun i j => .int (i + j)) x y H Q ∨ (∃ i j, x = .str i ∧ y = .str j ∧ i.length + j.length ≤ sizeLine ∧ Q (.str (i ++ j)) H) ∨ rCat x y H Q ∨ rCatA K x y H Q
theorem op_addA {X : Cx} (K : PySem.W.Frag) (h : X.K = K) : OpR X (binaryOp .Add) (rAddA K) := by
  subst h
  exact op_add.or (op_add_str.or (op_cat.or op_catA))
theorem bin_add : Bin ci (rAddA K) addF := by
  intro b L F H x y v w R Q fr hx hy h q
  have s := fr.s1
  cases x with
  | int i =>
    cases y with
    | int j =>
      rw [hx.int, hy.int]
      exact .inl ⟨i, j, rfl, rfl, q.d fr (Rep.int _) h⟩
    | _ => exact h.elim
  | str i =>
    cases y with
    | str j =>
      rw [hx.str, hy.str]
      exact .inr (.inl ⟨i, j, rfl, rfl, slen h.1, q.d fr (Rep.str _) h.2⟩)
    | _ => exact h.elim
  | lst xs =>
    cases y with
    | lst ys =>
      obtain ⟨a, vs, rfl, h1, h2⟩ := hx.lst s
      obtain ⟨c, ws, rfl, h3, h4⟩ := hy.lst s
      refine .inr (.inr (.inl ⟨a, c, vs, ws, rfl, rfl, h1, h3, by rw [← h2.1, ← h4.1]; exact slen h.1, fun p hp => ?_⟩))
      exact q _ _ _ _ (Fr.tmp s fr.b1 _ hp) (sl_m fr (h2.append h4) hp) (fresh_m fr hp) h.2
    | _ => exact h.elim
  | tup xs =>
    cases y with
    | tup ys =>
      obtain ⟨a, vs, rfl, h1, h2⟩ := hx.tup s
      obtain ⟨c, ws, rfl, h3, h4⟩ := hy.tup s
      obtain ⟨c1, us1, e1, g1, g2⟩ := hx.elim (fun h => h.reps_t) (fun ⟨_, _, _, z, _⟩ => nomatch z)
      obtain ⟨c2, us2, e2, g3, g4⟩ := hy.elim (fun h => h.reps_t) (fun ⟨_, _, _, z, _⟩ => nomatch z)
      cases e1; cases e2
      refine .inr (.inr (.inr ⟨a, c, us1, us2, rfl, rfl, .inl (rd_same s g1), .inl (rd_same s g3), by rw [← g2.1, ← g4.1]; exact slen h.1, fun e => ?_, fun n e => ?_, fun n1 n2 p hp => ?_⟩))
      · subst e
        have z : xs = [] := List.eq_nil_of_length_eq_zero (by rw [g2.1]; rfl)
        subst z
        exact q.d fr (.tup g3 g4.1 g4.2) (by simpa using h.2)
      · subst e
        have z : ys = [] := List.eq_nil_of_length_eq_zero (by rw [g4.1]; rfl)
        subst z
        exact q.d fr (.tup g1 g2.1 g2.2) (by simpa using h.2)
      · have y := Fr.new s fr.b1 (.tup (us1 ++ us2)) hp
        exact q.d y (((g2.append g4).mono y.ff).t upd_same) h.2
    | _ => exact h.elim
  | _ => cases y <;> exact h.elim
/-- two ints -/
def iiF (C : Int → Int → Prop) (g : Int → Int → D) : F2 := fun x y R => match x, y with
  | .int i, .int j => C i j ∧ R (.d (g i j))
  | _, _ => False
def iiF0 (g : Int → Int → D) : F2 := fun x y R => match x, y with
  | .int i, .int j => R (.d (g i j))
  | _, _ => False
theorem bin_ii {C : Int → Int → Prop} {g : Int → Int → D} {gv : Int → Int → V} (hg : ∀ i j F, Rep ci F (g i j) (gv i j)) : Bin ci (rI C gv) (iiF C g) := by
  intro b L F H x y v w R Q fr hx hy h q
  cases x with
  | int i =>
    cases y with
    | int j =>
      rw [hx.int, hy.int]
      exact ⟨i, j, rfl, rfl, h.1, q.d fr (hg i j F) h.2⟩
    | _ => exact h.elim
  | _ => cases y <;> exact h.elim
theorem bin_ii0 {g : Int → Int → D} {gv : Int → Int → V} (hg : ∀ i j F, Rep ci F (g i j) (gv i j)) : Bin ci (rI0 gv) (iiF0 g) := by
  intro b L F H x y v w R Q fr hx hy h q
  cases x with
  | int i =>
    cases y with
    | int j =>
      rw [hx.int, hy.int]
      exact ⟨i, j, rfl, rfl, q.d fr (hg i j F) h⟩
    | _ => exact h.elim
  | _ => cases y <;> exact h.elim
abbrev subF : F2 := iiF0 fun i j => .int (i - j)
abbrev mulF : F2 := iiF CMul fun i j => .int (i * j)
abbrev modF : F2 := iiF (fun _ j => 0 < j) fun i j => .int (i % j)
abbrev fdivF : F2 := iiF CDiv fun i j => .int (i / j)
abbrev powF : F2 := iiF CPow fun i j => .int (i ^ j.toNat)
abbrev ltF : F2 := iiF0 fun i j => .bl (decide (i < j))
abbrev leF : F2 := iiF0 fun i j => .bl (decide (i ≤ j))
abbrev gtF : F2 := iiF0 fun i j => .bl (decide (j < i))
abbrev geF : F2 := iiF0 fun i j => .bl (decide (j ≤ i))
variable {ι : Type} {𝒳 : ι → Cx} {a c e : Expr} {ta tb tc : TD} {pos : Pos}
theorem de_add (K : PySem.W.Frag) (ha : DE ci 𝒳 a ta) (hc : DE ci 𝒳 c tb) (hK : ∀ i, (𝒳 i).K = K := by intro _; rfl) : DE ci 𝒳 (.BinOp a .Add c pos) (dBin addF ta tb) := de_op (fun i => op_addA K (hK i)) bin_add ha hc
theorem de_sub (ha : DE ci 𝒳 a ta) (hc : DE ci 𝒳 c tb) : DE ci 𝒳 (.BinOp a .Sub c pos) (dBin subF ta tb) := de_op (fun _ => op_sub) (bin_ii0 fun _ _ _ => .int _) ha hc
theorem de_mul (ha : DE ci 𝒳 a ta) (hc : DE ci 𝒳 c tb) : DE ci 𝒳 (.BinOp a .Mult c pos) (dBin mulF ta tb) := de_op (fun _ => op_mul) (bin_ii fun _ _ _ => .int _) ha hc
theorem de_mod (ha : DE ci 𝒳 a ta) (hc : DE ci 𝒳 c tb) : DE ci 𝒳 (.BinOp a .Mod c pos) (dBin modF ta tb) := de_op (fun _ => op_mod) (bin_ii fun _ _ _ => .int _) ha hc
theorem de_fdiv (ha : DE ci 𝒳 a ta) (hc : DE ci 𝒳 c tb) : DE ci 𝒳 (.BinOp a .FloorDiv c pos) (dBin fdivF ta tb) := de_op (fun _ => op_fdiv) (bin_ii fun _ _ _ => .int _) ha hc
theorem de_pow (ha : DE ci 𝒳 a ta) (hc : DE ci 𝒳 c tb) : DE ci 𝒳 (.BinOp a .Pow c pos) (dBin powF ta tb) := de_op (fun _ => op_pow) (bin_ii fun _ _ _ => .int _) ha hc
def negF : F1 := fun x R => match x with
  | .int i => R (.d (.int (-i)))
  | _ => False
theorem de_neg (ha : DE ci 𝒳 a ta) : DE ci 𝒳 (.UnaryOp .USub a pos) (dUna negF ta) := de_un (r := rU fun i => .int (-i)) (fun _ => un_neg) (by
  intro b L F H x v R Q fr hx h q
  cases x with
  | int i =>
    rw [hx.int]
    exact ⟨i, rfl, q.d fr (Rep.int _) h⟩
  | _ => exact h.elim) ha
/-! ### comparisons -/
theorem de_lt (ha : DE ci 𝒳 a ta) (hc : DE ci 𝒳 c tb) : DE ci 𝒳 (.Compare a [.Lt] [c] pos) (dBin ltF ta tb) := de_cmp (fun _ => op_lt) (bin_ii0 fun _ _ _ => .bl _) ha hc (nomark _)
theorem de_le (ha : DE ci 𝒳 a ta) (hc : DE ci 𝒳 c tb) : DE ci 𝒳 (.Compare a [.LtE] [c] pos) (dBin leF ta tb) := de_cmp (fun _ => op_le) (bin_ii0 fun _ _ _ => .bl _) ha hc (nomark _)
theorem de_gt (ha : DE ci 𝒳 a ta) (hc : DE ci 𝒳 c tb) : DE ci 𝒳 (.Compare a [.Gt] [c] pos) (dBin gtF ta tb) := de_cmp (fun _ => op_gt) (bin_ii0 fun _ _ _ => .bl _) ha hc (nomark _)
theorem de_ge (ha : DE ci 𝒳 a ta) (hc : DE ci 𝒳 c tb) : DE ci 𝒳 (.Compare a [.GtE] [c] pos) (dBin geF ta tb) := de_cmp (fun _ => op_ge) (bin_ii0 fun _ _ _ => .bl _) ha hc (nomark _)
theorem dt_lt (ha : DE ci 𝒳 a ta) (hc : DE ci 𝒳 c tb) : DT ci 𝒳 (.Compare a [.Lt] [c] pos) (dB (dBin ltF ta tb)) := dt_cmp (fun _ => op_lt) (bin_ii0 fun _ _ _ => .bl _) ha hc (nomark _)
theorem dt_le (ha : DE ci 𝒳 a ta) (hc : DE ci 𝒳 c tb) : DT ci 𝒳 (.Compare a [.LtE] [c] pos) (dB (dBin leF ta tb)) := dt_cmp (fun _ => op_le) (bin_ii0 fun _ _ _ => .bl _) ha hc (nomark _)
theorem dt_gt (ha : DE ci 𝒳 a ta) (hc : DE ci 𝒳 c tb) : DT ci 𝒳 (.Compare a [.Gt] [c] pos) (dB (dBin gtF ta tb)) := dt_cmp (fun _ => op_gt) (bin_ii0 fun _ _ _ => .bl _) ha hc (nomark _)
theorem dt_ge (ha : DE ci 𝒳 a ta) (hc : DE ci 𝒳 c tb) : DT ci 𝒳 (.Compare a [.GtE] [c] pos) (dB (dBin geF ta tb)) := dt_cmp (fun _ => op_ge) (bin_ii0 fun _ _ _ => .bl _) ha hc (nomark _)
/-- a <= b <= c of ints -/
theorem de_lele (ha : DE ci 𝒳 a ta) (hc : DE ci 𝒳 c tb) (he : DE ci 𝒳 e tc) (hm : lastMarks [CmpOp.LtE, .LtE] [c, e] = false := by with_unfolding_all rfl) : DE ci 𝒳 (.Compare a [.LtE, .LtE] [c, e] pos) (dChain leF leF ta tb tc) := de_chain (fun _ => op_le) (bin_ii0 fun _ _ _ => .bl _) (fun _ => op_le) (bin_ii0 fun _ _ _ => .bl _) ha hc he hm
theorem dt_lele (ha : DE ci 𝒳 a ta) (hc : DE ci 𝒳 c tb) (he : DE ci 𝒳 e tc) (hm : lastMarks [CmpOp.LtE, .LtE] [c, e] = false := by with_unfolding_all rfl) : DT ci 𝒳 (.Compare a [.LtE, .LtE] [c, e] pos) (dB (dChain leF leF ta tb tc)) := dt_chain (fun _ => op_le) (bin_ii0 fun _ _ _ => .bl _) (fun _ => op_le) (bin_ii0 fun _ _ _ => .bl _) ha hc he hm
/-! ### is -/
def isNon : D → Bool
  | .non => true
  | _ => false
def isNF : F2 := fun x y R => match y with
  | .non => R (.d (.bl (isNon x)))
  | _ => False
def notNF : F2 := fun x y R => match y with
  | .non => R (.d (.bl (!isNon x)))
  | _ => False
theorem VR.isNon {b : Addr} {F H : Hp} {x : D} {v : V} (h : VR ci b F H x v) : decide (v = .non) = DL.isNon x := by
  rcases h with h | ⟨_, _, _, rfl, rfl, _⟩
  · cases h <;> first | rfl | exact decide_eq_false (fun z => nomatch z)
  · exact decide_eq_false (fun z => nomatch z)
theorem bin_isN : Bin ci (fun x y H Q => y = .non ∧ Q (.bl (decide (x = .non))) H) isNF := by
  intro b L F H x y v w R Q fr hx hy h q
  cases y with
  | non =>
    refine ⟨hy.non, ?_⟩
    rw [hx.isNon]
    exact q.d fr (Rep.bl _) h
  | _ => exact h.elim
theorem bin_notN : Bin ci (fun x y H Q => y = .non ∧ Q (.bl (!decide (x = .non))) H) notNF := by
  intro b L F H x y v w R Q fr hx hy h q
  cases y with
  | non =>
    refine ⟨hy.non, ?_⟩
    rw [hx.isNon]
    exact q.d fr (Rep.bl _) h
  | _ => exact h.elim
theorem de_isN (ha : DE ci 𝒳 a ta) (hc : DE ci 𝒳 c tb) : DE ci 𝒳 (.Compare a [.Is] [c] pos) (dBin isNF ta tb) := de_cmp (fun _ => op_isN) bin_isN ha hc (nomark _)
theorem de_notN (ha : DE ci 𝒳 a ta) (hc : DE ci 𝒳 c tb) : DE ci 𝒳 (.Compare a [.IsNot] [c] pos) (dBin notNF ta tb) := de_cmp (fun _ => op_notN) bin_notN ha hc (nomark _)
theorem dt_isN (ha : DE ci 𝒳 a ta) (hc : DE ci 𝒳 c tb) : DT ci 𝒳 (.Compare a [.Is] [c] pos) (dB (dBin isNF ta tb)) := dt_cmp (fun _ => op_isN) bin_isN ha hc (nomark _)
theorem dt_notN (ha : DE ci 𝒳 a ta) (hc : DE ci 𝒳 c tb) : DT ci 𝒳 (.Compare a [.IsNot] [c] pos) (dB (dBin notNF ta tb)) := dt_cmp (fun _ => op_notN) bin_notN ha hc (nomark _)
def isBF : F2 := fun x y R => match x, y with
  | .bl p, .bl q => R (.d (.bl (decide (p = q))))
  | _, _ => False
def notBF : F2 := fun x y R => match x, y with
  | .bl p, .bl q => R (.d (.bl (!decide (p = q))))
  | _, _ => False
theorem dt_isB (ha : DE ci 𝒳 a ta) (hc : DE ci 𝒳 c tb) : DT ci 𝒳 (.Compare a [.Is] [c] pos) (dB (dBin isBF ta tb)) := dt_cmp (fun _ => op_isBl) (by
  intro b L F H x y v w R Q fr hx hy h q
  cases x with
  | bl p =>
    cases y with
    | bl p' =>
      rw [hx.bl, hy.bl]
      exact ⟨p, p', rfl, rfl, q.d fr (Rep.bl _) h⟩
    | _ => exact h.elim
  | _ => cases y <;> exact h.elim) ha hc (nomark _)
theorem de_isB (ha : DE ci 𝒳 a ta) (hc : DE ci 𝒳 c tb) : DE ci 𝒳 (.Compare a [.Is] [c] pos) (dBin isBF ta tb) := de_cmp (fun _ => op_isBl) (by
  intro b L F H x y v w R Q fr hx hy h q
  cases x with
  | bl p =>
    cases y with
    | bl p' =>
      rw [hx.bl, hy.bl]
      exact ⟨p, p', rfl, rfl, q.d fr (Rep.bl _) h⟩
    | _ => exact h.elim
  | _ => cases y <;> exact h.elim) ha hc (nomark _)
theorem dt_notB (ha : DE ci 𝒳 a ta) (hc : DE ci 𝒳 c tb) : DT ci 𝒳 (.Compare a [.IsNot] [c] pos) (dB (dBin notBF ta tb)) := dt_cmp (fun _ => op_notBl) (by
  intro b L F H x y v w R Q fr hx hy h q
  cases x with
  | bl p =>
    cases y with
    | bl p' =>
      rw [hx.bl, hy.bl]
      exact ⟨p, p', rfl, rfl, q.d fr (Rep.bl _) h⟩
    | _ => exact h.elim
  | _ => cases y <;> exact h.elim) ha hc (nomark _)
/-! ### == of plain data -/
mutual
/-- plain data as the library tells it -/
inductive Py : D → PyData → Prop
  | non : Py .non .none
  | bl (b : Bool) : Py (.bl b) (.bool b)
  | int (i : Int) : Py (.int i) (.int i)
  | str (x : Str) : Py (.str x) (.str x)
  | lst {xs : List D} {ds : List PyData} : Pys xs ds → Py (.lst xs) (.list ds)
  | tup {xs : List D} {ds : List PyData} : Pys xs ds → Py (.tup xs) (.tuple ds)
inductive Pys : List D → List PyData → Prop
  | nil : Pys [] []
  | cons {x : D} {xs : List D} {d : PyData} {ds : List PyData} : Py x d → Pys xs ds → Pys (x :: xs) (d :: ds)
end
mutual
theorem Py.dp {F H : Hp} (s : Same F H) : ∀ (d : PyData) (x : D) (v : V), Py x d → Rep ci F x v → Dp K H v d
  | .none, _, _, h, r => by cases h; cases r; exact .non
  | .bool b, _, _, h, r => by cases h; cases r; exact .bl b
  | .int i, _, _, h, r => by cases h; cases r; exact .int i
  | .str z, _, _, h, r => by cases h; cases r; exact .str z
  | .list ds, _, _, h, r => by
    cases h with
    | lst hs =>
      obtain ⟨a, vs, rfl, h1, h2⟩ := r.reps_l
      exact .lst (SqL.of (s _ _ h1)) (Pys.dp s ds _ vs hs h2)
  | .tuple ds, _, _, h, r => by
    cases h with
    | tup hs =>
      obtain ⟨a, vs, rfl, h1, h2⟩ := r.reps_t
      exact .tup (.inl (rd_same s h1)) (Pys.dp s ds _ vs hs h2)
  | .dict _, _, _, h, _ => by cases h
theorem Pys.dp {F H : Hp} (s : Same F H) : ∀ (ds : List PyData) (xs : List D) (vs : List V), Pys xs ds → Reps ci F xs vs → DpAll K H vs ds
  | [], _, vs, h, r => by
    cases h
    have z : vs = [] := List.eq_nil_of_length_eq_zero (by rw [← r.1]; rfl)
    subst z
    exact .nil
  | d :: ds, _, vs, h, r => by
    cases h with
    | cons h1 h2 =>
      cases vs with
      | nil => have := r.1; simp at this
      | cons v vs =>
        refine .cons (Py.dp s d _ v h1 (r.2 0 _ _ rfl rfl)) (Pys.dp s ds _ vs h2 ⟨by have := r.1; simpa using this, fun i x w a b => r.2 (i + 1) x w (by simpa using a) (by simpa using b)⟩)
end
theorem VR.dp {b : Addr} {F H : Hp} {x : D} {v : V} {d : PyData} (s : Same F H) (h : VR ci b F H x v) (p : Py x d) : Dp K H v d := by
  rcases h with h | ⟨xs, a, vs, rfl, rfl, h1, h2, _⟩
  · exact p.dp s d x v h
  · cases p with
    | lst hs => exact .lst (SqL.of h1) (Pys.dp s _ _ _ hs h2)
/-- scalars -/
def D.sc : D → Option V
  | .non => some .non
  | .bl b => some (.bl b)
  | .int i => some (.int i)
  | .str s => some (.str s)
  | _ => none
theorem VR.sc {b : Addr} {F H : Hp} {x : D} {v u : V} (h : VR ci b F H x v) (e : x.sc = some u) : v = u := by
  rcases h with h | ⟨_, _, _, rfl, _⟩
  · cases h <;> cases e <;> rfl
  · cases e
def eqF : F2 := fun x y R => match x, y with
  | .int i, .int j => R (.d (.bl (decide (i = j))))
  | .str i, .str j => R (.d (.bl (decide (i = j))))
  | .bl i, .bl j => R (.d (.bl (decide (i = j))))
  | x, y => ∃ d e, Py x d ∧ Py y e ∧ SeqAt.shaped d = true ∧ SeqAt.shaped e = true ∧ R (.d (.bl (PyData.eqv d e)))
def neF : F2 := fun x y R => match x, y with
  | .int i, .int j => R (.d (.bl (!decide (i = j))))
  | .str i, .str j => R (.d (.bl (!decide (i = j))))
  | .bl i, .bl j => R (.d (.bl (!decide (i = j))))
  | x, y => ∃ d e, Py x d ∧ Py y e ∧ SeqAt.shaped d = true ∧ SeqAt.shaped e = true ∧ R (.d (.bl (!PyData.eqv d e)))
def rEqA (K : PySem.W.Frag) : R2 := fun x y H Q => rEq x y H Q ∨ rEqD K x y H Q
def rNeA (K : PySem.W.Frag) : R2 := fun x y H Q => rNe x y H Q ∨ rNeD K x y H Q
theorem op_eqA {X : Cx} (K : PySem.W.Frag) {j : Nat} (hr : Room j X.A) (h : X.K = K) : OpR X (compareOp .Eq) (rEqA K) := by
  subst h
  exact op_eq.or (op_eqD hr.units)
theorem op_neA {X : Cx} (K : PySem.W.Frag) {j : Nat} (hr : Room j X.A) (h : X.K = K) : OpR X (compareOp .NotEq) (rNeA K) := by
  subst h
  exact op_ne.or (op_neD hr.units)
theorem bin_eq : Bin ci (rEqA K) eqF := by
  intro b L F H x y v w R Q fr hx hy h q
  have gen : (∃ d e, Py x d ∧ Py y e ∧ SeqAt.shaped d = true ∧ SeqAt.shaped e = true ∧ R (.d (.bl (PyData.eqv d e)))) → rEqA K v w H Q := fun ⟨d, e, p1, p2, s1, s2, k⟩ =>
    .inr ⟨d, e, hx.dp fr.s1 p1, hy.dp fr.s1 p2, s1, s2, q.d fr (Rep.bl _) k⟩
  unfold eqF at h
  split at h
  · rename_i i j
    rw [hx.int, hy.int]
    refine .inl ⟨rfl, ?_⟩
    rw [show decide (V.int i = V.int j) = decide (i = j) from decide_eq_decide.mpr ⟨V.int.inj, congrArg _⟩]
    exact q.d fr (Rep.bl _) h
  · rename_i i j
    rw [hx.str, hy.str]
    refine .inl ⟨rfl, ?_⟩
    rw [show decide (V.str i = V.str j) = decide (i = j) from decide_eq_decide.mpr ⟨V.str.inj, congrArg _⟩]
    exact q.d fr (Rep.bl _) h
  · rename_i i j
    rw [hx.bl, hy.bl]
    refine .inl ⟨rfl, ?_⟩
    rw [show decide (V.bl i = V.bl j) = decide (i = j) from decide_eq_decide.mpr ⟨V.bl.inj, congrArg _⟩]
    exact q.d fr (Rep.bl _) h
  · exact gen h
theorem bin_ne : Bin ci (rNeA K) neF := by
  intro b L F H x y v w R Q fr hx hy h q
  have gen : (∃ d e, Py x d ∧ Py y e ∧ SeqAt.shaped d = true ∧ SeqAt.shaped e = true ∧ R (.d (.bl (!PyData.eqv d e)))) → rNeA K v w H Q := fun ⟨d, e, p1, p2, s1, s2, k⟩ =>
    .inr ⟨d, e, hx.dp fr.s1 p1, hy.dp fr.s1 p2, s1, s2, q.d fr (Rep.bl _) k⟩
  unfold neF at h
  split at h
  · rename_i i j
    rw [hx.int, hy.int]
    refine .inl ⟨rfl, ?_⟩
    rw [show decide (V.int i = V.int j) = decide (i = j) from decide_eq_decide.mpr ⟨V.int.inj, congrArg _⟩]
    exact q.d fr (Rep.bl _) h
  · rename_i i j
    rw [hx.str, hy.str]
    refine .inl ⟨rfl, ?_⟩
    rw [show decide (V.str i = V.str j) = decide (i = j) from decide_eq_decide.mpr ⟨V.str.inj, congrArg _⟩]
    exact q.d fr (Rep.bl _) h
  · rename_i i j
    rw [hx.bl, hy.bl]
    refine .inl ⟨rfl, ?_⟩
    rw [show decide (V.bl i = V.bl j) = decide (i = j) from decide_eq_decide.mpr ⟨V.bl.inj, congrArg _⟩]
    exact q.d fr (Rep.bl _) h
  · exact gen h
theorem de_eq (K : PySem.W.Frag) {j : Nat} (hr : ∀ i, Room j (𝒳 i).A) (ha : DE ci 𝒳 a ta) (hc : DE ci 𝒳 c tb) (hK : ∀ i, (𝒳 i).K = K := by intro _; rfl) : DE ci 𝒳 (.Compare a [.Eq] [c] pos) (dBin eqF ta tb) := de_cmp (fun i => op_eqA K (hr i) (hK i)) bin_eq ha hc (nomark _)
theorem de_ne (K : PySem.W.Frag) {j : Nat} (hr : ∀ i, Room j (𝒳 i).A) (ha : DE ci 𝒳 a ta) (hc : DE ci 𝒳 c tb) (hK : ∀ i, (𝒳 i).K = K := by intro _; rfl) : DE ci 𝒳 (.Compare a [.NotEq] [c] pos) (dBin neF ta tb) := de_cmp (fun i => op_neA K (hr i) (hK i)) bin_ne ha hc (nomark _)
theorem dt_eq (K : PySem.W.Frag) {j : Nat} (hr : ∀ i, Room j (𝒳 i).A) (ha : DE ci 𝒳 a ta) (hc : DE ci 𝒳 c tb) (hK : ∀ i, (𝒳 i).K = K := by intro _; rfl) : DT ci 𝒳 (.Compare a [.Eq] [c] pos) (dB (dBin eqF ta tb)) := dt_cmp (fun i => op_eqA K (hr i) (hK i)) bin_eq ha hc (nomark _)
theorem dt_ne (K : PySem.W.Frag) {j : Nat} (hr : ∀ i, Room j (𝒳 i).A) (ha : DE ci 𝒳 a ta) (hc : DE ci 𝒳 c tb) (hK : ∀ i, (𝒳 i).K = K := by intro _; rfl) : DT ci 𝒳 (.Compare a [.NotEq] [c] pos) (dB (dBin neF ta tb)) := dt_cmp (fun i => op_neA K (hr i) (hK i)) bin_ne ha hc (nomark _)
/-! ### in, over flat things -/
def flatX : D → Bool
  | .non => true
  | .bl _ => true
  | .int _ => true
  | .str _ => true
  | _ => false
/-- == of flat things -/
def eqX : D → D → Bool
  | .non, .non => true
  | .bl a, .bl b => a == b
  | .bl a, .int j => (if a then 1 else 0) == j
  | .int i, .bl b => i == (if b then 1 else 0)
  | .int i, .int j => decide (i = j)
  | .str x, .str y => decide (x = y)
  | _, _ => false
def inX (x : D) (ys : List D) : Bool := ys.any fun y => eqX y x
def inF (neg : Bool) : F2 := fun x y R => match y with
  | .lst ys => flatX x = true ∧ ys.all flatX = true ∧ R (.d (.bl (if neg then !inX x ys else inX x ys)))
  | .tup ys => flatX x = true ∧ ys.all flatX = true ∧ R (.d (.bl (if neg then !inX x ys else inX x ys)))
  | _ => False
theorem flatX_rep {F : Hp} {x : D} {v : V} (h : Rep ci F x v) (f : flatX x = true) : flatV v = true := by
  cases h <;> first | rfl | cases f
theorem eqX_rep {F : Hp} {x y : D} {v w : V} (h : Rep ci F x v) (f : flatX x = true) (g : Rep ci F y w) (f' : flatX y = true) : eqV v w = eqX x y := by
  cases h <;> first | cases f | skip
  all_goals cases g <;> first | cases f' | skip
  all_goals simp [eqV, eqX]
  all_goals first | rfl | skip
theorem all_rep {F : Hp} : ∀ {ys : List D} {ws : List V}, Reps ci F ys ws → ys.all flatX = true → ws.all flatV = true ∧ ∀ x v, Rep ci F x v → flatX x = true → inV v ws = inX x ys
  | [], [], _, _ => ⟨rfl, fun _ _ _ _ => rfl⟩
  | [], _ :: _, h, _ => by have := h.1; simp at this
  | _ :: _, [], h, _ => by have := h.1; simp at this
  | y :: ys, w :: ws, h, f => by
    rw [List.all_cons, Bool.and_eq_true] at f
    have h0 := h.2 0 y w rfl rfl
    obtain ⟨i1, i2⟩ := all_rep (ys := ys) (ws := ws) ⟨by have := h.1; simpa using this, fun i x v a b => h.2 (i + 1) x v (by simpa using a) (by simpa using b)⟩ f.2
    refine ⟨by rw [List.all_cons, Bool.and_eq_true]; exact ⟨flatX_rep h0 f.1, i1⟩, fun x v hx fx => ?_⟩
    have := i2 x v hx fx
    unfold inV inX at this ⊢
    rw [List.any_cons, List.any_cons, this, eqX_rep h0 f.1 hx fx]
theorem bin_in (neg : Bool) : Bin ci (rIn K neg) (inF neg) := by
  intro b L F H x y v w R Q fr hx hy h q
  have fx : flatX x = true → Rep ci F x v := fun f => by
    rcases hx with hx | ⟨_, _, _, rfl, _⟩
    · exact hx
    · cases f
  cases y with
  | lst ys =>
    obtain ⟨a, ws, rfl, h1, h2⟩ := hy.lst fr.s1
    obtain ⟨i1, i2⟩ := all_rep h2 h.2.1
    refine ⟨a, ws, rfl, .inl (SqL.of h1), flatX_rep (fx h.1) h.1, i1, ?_⟩
    rw [i2 x v (fx h.1) h.1]
    exact q.d fr (Rep.bl _) h.2.2
  | tup ys =>
    obtain ⟨a, ws, rfl, h1, h2⟩ := hy.tup fr.s1
    obtain ⟨i1, i2⟩ := all_rep h2 h.2.1
    refine ⟨a, ws, rfl, .inr (.inl h1), flatX_rep (fx h.1) h.1, i1, ?_⟩
    rw [i2 x v (fx h.1) h.1]
    exact q.d fr (Rep.bl _) h.2.2
  | _ => exact h.elim
theorem op_inK {X : Cx} (K : PySem.W.Frag) (h : X.K = K) : OpR X (compareOp .In) (rIn K false) := h ▸ op_in_seq
theorem op_notInK {X : Cx} (K : PySem.W.Frag) (h : X.K = K) : OpR X (compareOp .NotIn) (rIn K true) := h ▸ op_notIn_seq
theorem de_in (K : PySem.W.Frag) (ha : DE ci 𝒳 a ta) (hc : DE ci 𝒳 c tb) (hm : behindInMarks .In c = false := by with_unfolding_all rfl) (hK : ∀ i, (𝒳 i).K = K := by intro _; rfl) : DE ci 𝒳 (.Compare a [.In] [c] pos) (dBin (inF false) ta tb) := de_cmp (fun i => op_inK K (hK i)) (bin_in false) ha hc hm
theorem de_notIn (K : PySem.W.Frag) (ha : DE ci 𝒳 a ta) (hc : DE ci 𝒳 c tb) (hm : behindInMarks .NotIn c = false := by with_unfolding_all rfl) (hK : ∀ i, (𝒳 i).K = K := by intro _; rfl) : DE ci 𝒳 (.Compare a [.NotIn] [c] pos) (dBin (inF true) ta tb) := de_cmp (fun i => op_notInK K (hK i)) (bin_in true) ha hc hm
theorem dt_in (K : PySem.W.Frag) (ha : DE ci 𝒳 a ta) (hc : DE ci 𝒳 c tb) (hm : behindInMarks .In c = false := by with_unfolding_all rfl) (hK : ∀ i, (𝒳 i).K = K := by intro _; rfl) : DT ci 𝒳 (.Compare a [.In] [c] pos) (dB (dBin (inF false) ta tb)) := dt_cmp (fun i => op_inK K (hK i)) (bin_in false) ha hc hm
theorem dt_notIn (K : PySem.W.Frag) (ha : DE ci 𝒳 a ta) (hc : DE ci 𝒳 c tb) (hm : behindInMarks .NotIn c = false := by with_unfolding_all rfl) (hK : ∀ i, (𝒳 i).K = K := by intro _; rfl) : DT ci 𝒳 (.Compare a [.NotIn] [c] pos) (dB (dBin (inF true) ta tb)) := dt_cmp (fun i => op_notInK K (hK i)) (bin_in true) ha hc hm
/-! ### items, slices -/
def ixF : F2 := fun x y R => match x, y with
  | .lst xs, .int i => ∃ z, atI xs i = some z ∧ R (.d z)
  | .tup xs, .int i => ∃ z, atI xs i = some z ∧ R (.d z)
  | .str s, .int i => s.length ≤ 1000000 ∧ ∃ c, atI s.cps.toList i = some c ∧ R (.d (.str ⟨#[c]⟩))
  | _, _ => False
theorem ix_seqK {X : Cx} (K : PySem.W.Frag) (h : X.K = K) : IxR X (rIx K) := h ▸ ix_seq
theorem bin_ix : Bin ci (rIx K) ixF := by
  intro b L F H x y v w R Q fr hx hy h q
  cases y with
  | int i =>
    rw [hy.int]
    cases x with
    | lst xs =>
      obtain ⟨a, vs, rfl, h1, h2⟩ := hx.lst fr.s1
      obtain ⟨z, hz, k⟩ := h
      obtain ⟨u, hu, ru⟩ := h2.nth hz
      exact .inl ⟨a, vs, i, u, rfl, rfl, SqL.of h1, hu, q.d fr ru k⟩
    | tup xs =>
      obtain ⟨a, vs, rfl, h1, h2⟩ := hx.tup fr.s1
      obtain ⟨z, hz, k⟩ := h
      obtain ⟨u, hu, ru⟩ := h2.nth hz
      exact .inr (.inl ⟨a, vs, i, u, rfl, rfl, .inl h1, hu, q.d fr ru k⟩)
    | str s =>
      rw [hx.str]
      obtain ⟨l, c, hc, k⟩ := h
      exact .inr (.inr ⟨s, i, c, rfl, rfl, slen l, hc, q.d fr (Rep.str _) k⟩)
    | _ => exact h.elim
  | _ => cases x <;> exact h.elim
theorem de_item (K : PySem.W.Frag) (ha : DE ci 𝒳 a ta) (hc : DE ci 𝒳 c tb) (hK : ∀ i, (𝒳 i).K = K := by intro _; rfl) (hs : PlainIx c := by exact fun _ _ => rfl) : DE ci 𝒳 (.Subscript a c pos) (dBin ixF ta tb) := de_ix (fun i => ix_seqK K (hK i)) bin_ix ha hc hs
def rSlA (K : PySem.W.Frag) : V → Option Int → Option Int → Hp → VK → Prop := fun x lo hi H Q => rSlL K x lo hi H Q ∨ rSlT K x lo hi H Q
theorem sl_A {X : Cx} (K : PySem.W.Frag) (h : X.K = K) : SlR X (rSlA K) := by
  subst h
  exact sl_list.or sl_tup
def sliceF2 (x : D) (lo hi : Option Int) (R : Sl → Prop) : Prop := match x with
  | .lst xs => R (.m (cutD xs lo hi))
  | .tup xs => R (.d (.tup (cutD xs lo hi)))
  | _ => False
variable {lo hi : Option Expr} {tl th : TDO} {p2 : Pos}
def dSl (ta : TD) (tl th : TDO) : TD := fun ρ R => ta ρ fun r => withV r fun x => tl ρ fun l => th ρ fun u => sliceF2 x l u R
end
end DL

/-! the data layer: slices, walks, comprehensions, calls -/
namespace DL
open PySem PySem.Spec PyProof.Rows L2 VL
open C8 (Cal pe_c Met pe_mt pe_mt0)
section
variable {ci : CI} {K : PySem.W.Frag} {ι : Type} {𝒳 : ι → Cx} {a c e : Expr} {ta tb tc : TD} {pos : Pos}
/-! ### slices -/
def rSlB (K : PySem.W.Frag) : V → Option Int → Option Int → Hp → VK → Prop := fun x lo hi H Q => rSlL K x lo hi H Q ∨ L2.rSlA K x lo hi H Q
theorem sl_B {X : Cx} (K : PySem.W.Frag) (h : X.K = K) : SlR X (rSlB K) := by
  subst h
  exact sl_list.or sl_tupA
theorem cutD_all {xs : List D} {lo hi : Option Int} (h : HT.sIx xs.length 0 lo = 0 ∧ HT.sIx xs.length xs.length hi = xs.length) : cutD xs lo hi = xs := by
  unfold cutD
  rw [h.1, h.2]
  simp
variable {lo hi : Option Expr} {tl th : TDO} {p2 : Pos}
theorem de_slice (K : PySem.W.Frag) (ha : DE ci 𝒳 a ta) (hl : DO ci 𝒳 lo tl) (hh : DO ci 𝒳 hi th) (hK : ∀ i, (𝒳 i).K = K := by intro _; rfl) : DE ci 𝒳 (.Subscript a (.Slice lo hi none p2) pos) (dSl ta tl th) := by
  obtain ⟨t1, p1, h1⟩ := ha.ex
  obtain ⟨t2, q2, h2⟩ := hl.ex
  obtain ⟨t3, q3, h3⟩ := hh.ex
  refine ⟨tSl (rSlB K) t1 t2 t3, fun i => pe_slice (sl_B K (hK i)) (p1 i) (q2 i) (q3 i), fun b L F0 H0 ρ σ F H R Q S h q => ?_⟩
  refine h1 b L F0 H0 ρ σ F H _ _ S h fun v H1 F1 r1 x1 rep1 _ k1 => ?_
  obtain ⟨x, rx, k1⟩ := withV_of rep1 k1
  refine h2 b L F0 H0 ρ σ F1 H1 _ _ (S.go x1) k1 fun o1 H2 F2 x2 k2 => ?_
  refine h3 b L F0 H0 ρ σ F2 H2 _ _ ((S.go x1).go x2) k2 fun o2 H3 F3 x3 k3 => ?_
  have fr := Fr.refl x3.s1 x3.b1
  have hx := rx.fr (x2.trans x3)
  have q := q.mono ((x1.trans x2).trans x3)
  cases x with
  | lst xs =>
    obtain ⟨p, vs, rfl, g1, g2⟩ := hx.lst x3.s1
    exact .inl ⟨p, vs, rfl, SqL.of g1, fun l hl => q _ _ _ _ (Fr.tmp x3.s1 x3.b1 _ hl) (sl_m fr (g2.cut o1 o2) hl) (fresh_m fr hl) k3⟩
  | tup xs =>
    obtain ⟨p, vs, e, g1, g2⟩ := hx.elim (fun h => h.reps_t) (fun ⟨_, _, _, z, _⟩ => nomatch z)
    subst e
    refine .inr ⟨p, vs, rfl, .inl (rd_same x3.s1 g1), fun e => ?_, fun n l hl => ?_⟩
    · rw [← g2.1] at e
      have k3 : R (.d (.tup (cutD xs o1 o2))) := k3
      rw [cutD_all e] at k3
      exact q.d fr (.tup g1 g2.1 g2.2) k3
    · have y := Fr.new x3.s1 x3.b1 (.tup (cutV vs o1 o2)) hl
      exact q.d y (((g2.cut o1 o2).mono y.ff).t upd_same) k3
  | _ => exact k3.elim
/-! ### walks -/
structure WalkD (ci : CI) (b L : Addr) (J : It) (xs : List D) (Fs : Hp) (G : Hp → Prop) : Prop where
  goes : ∀ i H, i < xs.length → G H → J.go i H
  stops : ∀ H, G H → J.stop xs.length H
  yields : ∀ i F H v H', i < xs.length → G H → Same Fs F → Same F H → Box H b L → J.yld i H v H' → ∃ F' x, Fr b L F H F' H' ∧ xs[i]? = some x ∧ Rep ci F' x v
/-- what is walked by a comprehension (c = true) or by a for -/
structure DI (ci : CI) {ι : Type} (c : Bool) (𝒳 : ι → Cx) (tg e : Expr) (t : TDD) : Prop where
  ex : ∃ wi : TI, (∀ i, PI (𝒳 i) tg e wi) ∧ ∀ (b L : Addr) (F0 H0 : Hp) (ρ : List Sl) (σ : L2.St) (F H : Hp) (R : List D → Prop) (Q : It → Hp → Prop), StRep ci b L F0 H0 ρ σ F H → t ρ R →
    (∀ J H' F' xs G, Fr b L F H F' H' → WalkD ci b L J xs F' G → (∀ F2 H2, Fr b L F0 H0 F2 H2 → Same F' F2 → (c = true → Fr b L F' H' F2 H2) → G H2) → R xs → Q J H') → wi σ H Q
/-- range(n) as data -/
def rngD (lo : Int) (n : Nat) : List D := (List.range n).map fun (i : Nat) => D.int (lo + (i : Int))
theorem rngD_len {lo : Int} {n : Nat} : (rngD lo n).length = n := by simp [rngD]
theorem rngD_at {lo : Int} {n i : Nat} (h : i < n) : (rngD lo n)[i]? = some (.int (lo + (i : Int))) := by
  unfold rngD
  rw [List.getElem?_map, List.getElem?_range h]
  rfl
theorem walkD_rng {b L : Addr} {lo : Int} {n : Nat} {Fs : Hp} : WalkD ci b L (Itr lo n) (rngD lo n) Fs (fun _ => True) := by
  refine ⟨fun i H hi _ => by rw [rngD_len] at hi; exact hi, fun H _ => by rw [rngD_len]; exact Nat.le_refl _, fun i F H v H' hi _ _ s B y => ?_⟩
  obtain ⟨rfl, rfl⟩ := y
  rw [rngD_len] at hi
  exact ⟨F, _, Fr.refl s B, rngD_at hi, .int _⟩
variable {es : List Expr} {tr : TDA} {tg : Expr}
def oneInt (rs : List Sl) (k : Int → Prop) : Prop := match rs with
  | [.d (.int n)] => k n
  | _ => False
def twoInt (rs : List Sl) (k : Int → Int → Prop) : Prop := match rs with
  | [.d (.int n), .d (.int m)] => k n m
  | _ => False
theorem oneInt_of {b L : Addr} {F H : Hp} {rs : List Sl} {vs : List V} {k : Int → Prop} (h : SlReps ci b L F H rs vs) (q : oneInt rs k) : ∃ n, vs = [.int n] ∧ k n := by
  unfold oneInt at q
  split at q
  · rename_i n
    have l := h.1
    match vs, l with
    | [v], _ =>
      have r := h.2 0 _ v rfl rfl
      cases (show Rep ci F (.int n) v from r)
      exact ⟨n, rfl, q⟩
  · exact q.elim
theorem twoInt_of {b L : Addr} {F H : Hp} {rs : List Sl} {vs : List V} {k : Int → Int → Prop} (h : SlReps ci b L F H rs vs) (q : twoInt rs k) : ∃ n m, vs = [.int n, .int m] ∧ k n m := by
  unfold twoInt at q
  split at q
  · rename_i n m
    have l := h.1
    match vs, l with
    | [v, w], _ =>
      cases (show Rep ci F (.int n) v from h.2 0 _ v rfl rfl)
      cases (show Rep ci F (.int m) w from h.2 1 _ w rfl rfl)
      exact ⟨n, m, rfl, q⟩
  · exact q.elim
def dRng1 (tr : TDA) : TDD := fun ρ R => tr ρ fun rs => oneInt rs fun n => -(2 ^ 62) ≤ n ∧ n < 2 ^ 62 ∧ R (rngD 0 n.toNat)
def dRng2 (tr : TDA) : TDD := fun ρ R => tr ρ fun rs => twoInt rs fun m n => (-(2 ^ 62) ≤ m ∧ m < 2 ^ 62 ∧ -(2 ^ 62) ≤ n ∧ n < 2 ^ 62) ∧ R (rngD m (n - m).toNat)
theorem di_range1 {cc : Bool} {p : Pos} (hg : ∀ i, Gl (𝒳 i) "range") (hm : ∀ i, (𝒳 i).mg "range" = none) (ha : DA ci 𝒳 [a] tr) (hs : ∀ i, starEach [a] (𝒳 i).env = [(false, eval a (𝒳 i).env)] := by intro _; rfl) : DI ci cc 𝒳 tg (.Call (.Name "range" p) [a] [] pos) (dRng1 tr) := by
  obtain ⟨t1, p1, h1⟩ := ha.ex
  refine ⟨iRng1 t1, fun i => pi_range1 (hg i) (hm i) (p1 i) (hs i), fun b L F0 H0 ρ σ F H R Q S h q => ?_⟩
  refine h1 b L F0 H0 ρ σ F H _ _ S h fun vs H1 F1 rs x1 rep k => ?_
  obtain ⟨n, rfl, k1, k2, k3⟩ := oneInt_of rep k
  exact ⟨n, rfl, k1, k2, q _ H1 F1 _ _ x1 walkD_rng (fun _ _ _ _ _ => trivial) k3⟩
theorem di_range2 {cc : Bool} {p : Pos} (hg : ∀ i, Gl (𝒳 i) "range") (hm : ∀ i, (𝒳 i).mg "range" = none) (ha : DA ci 𝒳 [a, c] tr) (hs : ∀ i, starEach [a, c] (𝒳 i).env = [(false, eval a (𝒳 i).env), (false, eval c (𝒳 i).env)] := by intro _; rfl) (hs2 : ∀ i, starEach [c] (𝒳 i).env = [(false, eval c (𝒳 i).env)] := by intro _; rfl) :
    DI ci cc 𝒳 tg (.Call (.Name "range" p) [a, c] [] pos) (dRng2 tr) := by
  obtain ⟨t1, p1, h1⟩ := ha.ex
  refine ⟨iRng2 t1, fun i => pi_range2 (hg i) (hm i) (p1 i) (hs i) (hs2 i), fun b L F0 H0 ρ σ F H R Q S h q => ?_⟩
  refine h1 b L F0 H0 ρ σ F H _ _ S h fun vs H1 F1 rs x1 rep k => ?_
  obtain ⟨m, n, rfl, k1, k3⟩ := twoInt_of rep k
  exact ⟨m, n, rfl, k1, q _ H1 F1 _ _ x1 walkD_rng (fun _ _ _ _ _ => trivial) k3⟩
/-- a list or a tuple, walked -/
def iSeq (K : PySem.W.Frag) (tl : TE) : TI := fun σ H R => tl σ H fun x H1 => ∃ a, x = .ref a ∧ (((∃ xs, SqL K H1 a xs) ∧ R (Itl K a) H1) ∨ ((∃ xs, SqT K H1 a xs) ∧ R (Itt K a) H1))
theorem pi_seq {X : Cx} {l : Expr} {tl : TE} (hl : PE X l tl) : PI X tg l (iSeq X.K tl) := by
  refine ⟨fun pins s σ H R I h => ?_⟩
  refine thn (hl.run pins s σ H _ I h) fun v s1 ⟨x, H1, I1, r1, p, ex, q⟩ => ?_
  subst ex
  cases r1
  have fp : ∀ z ∈ [s1.heap.objs.size], FpOk X pins H1 z := fun z hz => by
    cases List.mem_singleton.mp hz
    exact I1.fpOk (Nat.le_refl _) (I1.hok.fresh (Nat.le_refl _))
  rcases q with ⟨⟨xs, hq⟩, q⟩ | ⟨⟨xs, hq⟩, q⟩
  · obtain ⟨its, rv, pl, _⟩ := I1.list hq
    exact wpAny_pyIter_list pl.isList ⟨s1.heap.objs.size, [s1.heap.objs.size], _, _, H1, rfl, I1.kept (t' := s1.toks) fun z o ez => Heap.get?_push_of_some _ ez, turn_list p _, ⟨_, Heap.get?_push_size _ rfl, rfl, rfl⟩, fp, q⟩
  · obtain ⟨its, rv, pl, _⟩ := I1.tuple hq
    exact wpAny_pyIter_tuple (show s1.heap.IsTuple p its.toArray from pl) ⟨s1.heap.objs.size, [s1.heap.objs.size], _, _, H1, rfl, I1.kept (t' := s1.toks) fun z o ez => Heap.get?_push_of_some _ ez, turn_tuple p _, ⟨_, Heap.get?_push_size _ rfl, rfl, rfl⟩, fp, q⟩
theorem pi_seqK (K : PySem.W.Frag) {X : Cx} {l : Expr} {tl : TE} (h : X.K = K) (hl : PE X l tl) : PI X tg l (iSeq K tl) := h ▸ pi_seq hl
theorem walkD_lst {b L : Addr} {xs : List D} {p : Addr} {vs : List V} {Fs : Hp} (r : Reps ci Fs xs vs) : WalkD ci b L (Itl K p) xs Fs (fun H => SqL K H p vs) := by
  refine ⟨fun i H hi g => ⟨vs, _, g, List.getElem?_eq_getElem (by rw [← r.1]; exact hi)⟩, fun H g => ⟨vs, g, by rw [r.1]; exact Nat.le_refl _⟩, fun i F H v H' hi g s s' B y => ?_⟩
  obtain ⟨rfl, y⟩ := y
  obtain ⟨x, h1, h2⟩ := r.back (y vs g)
  exact ⟨F, x, Fr.refl s' B, h1, h2.mono s⟩
theorem walkD_tup {b L : Addr} {xs : List D} {p : Addr} {vs : List V} {Fs : Hp} (r : Reps ci Fs xs vs) : WalkD ci b L (Itt K p) xs Fs (fun H => SqT K H p vs) := by
  refine ⟨fun i H hi g => ⟨vs, _, g, List.getElem?_eq_getElem (by rw [← r.1]; exact hi)⟩, fun H g => ⟨vs, g, by rw [r.1]; exact Nat.le_refl _⟩, fun i F H v H' hi g s s' B y => ?_⟩
  obtain ⟨rfl, y⟩ := y
  obtain ⟨x, h1, h2⟩ := r.back (y vs g)
  exact ⟨F, x, Fr.refl s' B, h1, h2.mono s⟩
def seqX (x : D) (k : List D → Prop) : Prop := match x with
  | .lst xs => k xs
  | .tup xs => k xs
  | _ => False
/-- in a comprehension: whatever is seen -/
def dSeqC (ta : TD) : TDD := fun ρ R => ta ρ fun r => withV r fun x => seqX x R
/-- in a for: data, or what a caller holds (s: the slot of a parameter) -/
def dSeqF (ta : TD) : TDD := fun ρ R => ta ρ fun r => withD r fun x => seqX x R
theorem di_seqC (K : PySem.W.Frag) (ha : DE ci 𝒳 a ta) (hK : ∀ i, (𝒳 i).K = K := by intro _; rfl) : DI ci true 𝒳 tg a (dSeqC ta) := by
  obtain ⟨t1, p1, h1⟩ := ha.ex
  refine ⟨iSeq K t1, fun i => pi_seqK K (hK i) (p1 i), fun b L F0 H0 ρ σ F H R Q S h q => ?_⟩
  refine h1 b L F0 H0 ρ σ F H _ _ S h fun v H1 F1 r1 x1 rep1 _ k => ?_
  have nb := (S.go x1).nb
  obtain ⟨x, rx, k⟩ := withV_of rep1 k
  cases x with
  | lst xs =>
    rcases rx with rx | ⟨_, p, vs, e0, e, g1, g2, g3⟩
    · obtain ⟨p, vs, e, g1, g2⟩ := rx.reps_l
      exact ⟨p, e, .inl ⟨⟨vs, SqL.of (x1.s1 _ _ g1)⟩, q _ H1 F1 xs _ x1 (walkD_lst g2) (fun F2 H2 y s _ => SqL.of (y.s1 _ _ (s _ _ g1))) k⟩⟩
    · cases e0
      exact ⟨p, e, .inl ⟨⟨vs, SqL.of g1⟩, q _ H1 F1 xs _ x1 (walkD_lst g2) (fun F2 H2 y s z => SqL.of ((z rfl).hh _ _ g3 g1)) k⟩⟩
  | tup xs =>
    obtain ⟨p, vs, e, g1, g2⟩ := rx.elim (fun h => h.reps_t) (fun ⟨_, _, _, z, _⟩ => nomatch z)
    exact ⟨p, e, .inr ⟨⟨vs, .inl (rd_same x1.s1 g1)⟩, q _ H1 F1 xs _ x1 (walkD_tup g2) (fun F2 H2 y s _ => .inl (rd_same y.s1 (rd_same s g1))) k⟩⟩
  | _ => exact k.elim
theorem di_seqF (K : PySem.W.Frag) (ha : DE ci 𝒳 a ta) (hK : ∀ i, (𝒳 i).K = K := by intro _; rfl) : DI ci false 𝒳 tg a (dSeqF ta) := by
  obtain ⟨t1, p1, h1⟩ := ha.ex
  refine ⟨iSeq K t1, fun i => pi_seqK K (hK i) (p1 i), fun b L F0 H0 ρ σ F H R Q S h q => ?_⟩
  refine h1 b L F0 H0 ρ σ F H _ _ S h fun v H1 F1 r1 x1 rep1 f1 k => ?_
  obtain ⟨x, F2, x1, _, rx, k⟩ := withD_of x1 rep1 f1 k
  cases x with
  | lst xs =>
    obtain ⟨p, vs, e, g1, g2⟩ := rx.reps_l
    exact ⟨p, e, .inl ⟨⟨vs, SqL.of (x1.s1 _ _ g1)⟩, q _ H1 F2 xs _ x1 (walkD_lst g2) (fun F2 H2 y s _ => SqL.of (y.s1 _ _ (s _ _ g1))) k⟩⟩
  | tup xs =>
    obtain ⟨p, vs, e, g1, g2⟩ := rx.reps_t
    exact ⟨p, e, .inr ⟨⟨vs, .inl (rd_same x1.s1 g1)⟩, q _ H1 F2 xs _ x1 (walkD_tup g2) (fun F2 H2 y s _ => .inl (rd_same y.s1 (rd_same s g1))) k⟩⟩
  | _ => exact k.elim
/-- in a for: a list that a caller holds, by its parameter's slot -/
def dSeqP (k : Nat) : TDD := fun ρ R => match ρ[k]? with
  | some (.v xs) => R xs
  | _ => False
theorem di_seqP (K : PySem.W.Frag) (k : Nat) {x : Str} (hN : ∀ i, (𝒳 i).N[k]? = some x := by intro _; rfl) (hv : ∀ i, Vis (𝒳 i).env.scope x := by intro _; first | exact Or.inl rfl | exact Or.inr (Or.inl rfl) | exact Or.inr (Or.inr rfl)) (hK : ∀ i, (𝒳 i).K = K := by intro _; rfl)
    (hd : (x == ("__debug__" : Str)) = false := by decide) (hcd : (x == ("__classdict__" : Str)) = false := by decide) : DI ci false 𝒳 tg (.Name x pos) (dSeqP k) := by
  refine ⟨iSeq K (tVar k), fun i => pi_seqK K (hK i) (pe_var (hN i) (hv i) hd hcd), fun b L F0 H0 ρ σ F H R Q S h q => ?_⟩
  unfold dSeqP at h
  split at h
  · rename_i xs ek
    obtain ⟨v, e1, p, vs, e, g1, g2, g3⟩ := S.sl k _ ek (fun z => nomatch z)
    subst e
    obtain ⟨o, ho⟩ := S.vw k xs p ek e1
    have h0 : H0 p = some (.lst vs) := by
      have z := S.fr.hh p o g3 ho
      rw [g1] at z
      rw [ho, ← z]
    exact ⟨_, e1, p, rfl, .inl ⟨⟨vs, SqL.of g1⟩, q _ H F xs _ S.rf (walkD_lst g2) (fun F2 H2 y s _ => SqL.of (y.hh p _ g3 h0)) h⟩⟩
  · exact h.elim
/-! ### targets -/
abbrev TDG := D → List Sl → (List Sl → Prop) → Prop
structure DG (ci : CI) {ι : Type} (𝒳 : ι → Cx) (tg : Expr) (vs : List Nat) (t : TDG) : Prop where
  ex : ∃ g : TG, (∀ i, PG (𝒳 i) tg g) ∧ ∀ (b L : Addr) (F0 H0 : Hp) (ρ : List Sl) (σ : L2.St) (F H : Hp) (x : D) (v : V) (R : List Sl → Prop) (Q : L2.St → Hp → Prop), StRep ci b L F0 H0 ρ σ F H → Rep ci F x v → t x ρ R →
    (∀ ρ' σ', StRep ci b L F0 H0 ρ' σ' F H → (∀ us, (∀ i ∈ vs, i ∈ us) → wipe σ' us = wipe σ us) → R ρ' → Q σ' H) → g v σ H Q
theorem wipe_set {σ : L2.St} {k : Nat} {v : Option V} : ∀ {us : List Nat}, k ∈ us → wipe (σ.set k v) us = wipe σ us := by
  intro us
  induction us generalizing σ with
  | nil => intro h; cases h
  | cons u us ih =>
    intro h
    show (wipe (σ.set k v) us).set u none = (wipe σ us).set u none
    by_cases z : k ∈ us
    · rw [ih z]
    · have e : k = u := (List.mem_cons.mp h).resolve_right z
      subst e
      have comm : ∀ (ws : List Nat), k ∉ ws → wipe (σ.set k v) ws = (wipe σ ws).set k v := by
        intro ws
        induction ws with
        | nil => intro _; rfl
        | cons w ws ih2 =>
          intro hw
          show (wipe (σ.set k v) ws).set w none = ((wipe σ ws).set w none).set k v
          rw [ih2 (fun q => hw (List.mem_cons_of_mem _ q))]
          exact List.set_comm _ _ (fun q => hw (q ▸ List.mem_cons_self))
      rw [comm us z, List.set_set]
def gtName (k : Nat) : TDG := fun x ρ R => R (ρ.set k (.d x))
theorem dg_name (k : Nat) {x : Str} (hN : ∀ i, (𝒳 i).N.Nodup) (hi : ∀ i, (𝒳 i).N[k]? = some x := by intro _; rfl) (hx : ∀ i, Loc (𝒳 i).env.scope x := by intro _; first | exact Or.inl rfl | exact Or.inr rfl)
    (hf : ∀ i, (𝒳 i).fn x = true ∨ (𝒳 i).env.scope.names.lookup x = some .local := by intro _; first | exact .inl rfl | exact .inr rfl) : DG ci 𝒳 (.Name x pos) [k] (gtName k) := by
  refine ⟨gName k, fun i => pg_name (hN i) (hi i) (hx i) (hf i), fun b L F0 H0 ρ σ F H y v R Q S r h q => ?_⟩
  by_cases hs : k < σ.length
  · exact q _ _ (S.set hs (r := .d y) r Fresh.d (fun _ z => nomatch z) (fun _ _ z => nomatch z)) (fun us hu => wipe_set (hu k (by simp))) h
  · have e1 : σ.set k (some v) = σ := List.set_eq_of_length_le (by omega)
    have e2 : ρ.set k (.d y) = ρ := List.set_eq_of_length_le (by rw [S.len]; omega)
    show Q (σ.set k (some v)) H
    rw [e1]
    have h : R (ρ.set k (.d y)) := h
    rw [e2] at h
    exact q _ _ S (fun _ _ => rfl) h
/-- several targets, from a tuple -/
abbrev TDGs := List D → List Sl → (List Sl → Prop) → Prop
structure DGs (ci : CI) {ι : Type} (𝒳 : ι → Cx) (ts : List Expr) (vs : List Nat) (t : TDGs) : Prop where
  ex : ∃ g : TGs, (∀ i, PGs (𝒳 i) ts g) ∧ ∀ (b L : Addr) (F0 H0 : Hp) (ρ : List Sl) (σ : L2.St) (F H : Hp) (xs : List D) (us : List V) (R : List Sl → Prop) (Q : L2.St → Hp → Prop), StRep ci b L F0 H0 ρ σ F H → Reps ci F xs us → t xs ρ R →
    (∀ ρ' σ', StRep ci b L F0 H0 ρ' σ' F H → (∀ us, (∀ i ∈ vs, i ∈ us) → wipe σ' us = wipe σ us) → R ρ' → Q σ' H) → g us σ H Q
def gtNil : TDGs := fun xs ρ R => match xs with
  | [] => R ρ
  | _ => False
def gtCons (t : TDG) (u : TDGs) : TDGs := fun xs ρ R => match xs with
  | x :: r => t x ρ fun ρ' => u r ρ' R
  | _ => False
theorem dgs_nil : DGs ci 𝒳 [] [] gtNil := by
  refine ⟨gNil, fun _ => pgs_nil, fun b L F0 H0 ρ σ F H xs us R Q S r h q => ?_⟩
  cases xs with
  | nil => exact ⟨List.eq_nil_of_length_eq_zero (by rw [← r.1]; rfl), q ρ σ S (fun _ _ => rfl) h⟩
  | cons x xs => exact h.elim
theorem dgs_cons {e : Expr} {es : List Expr} {t : TDG} {u : TDGs} {vs ws : List Nat} (h1 : DG ci 𝒳 e vs t) (h2 : DGs ci 𝒳 es ws u) (hs : ∀ i, (assignEach (e :: es) (𝒳 i).env).map (·.2) = assign e (𝒳 i).env :: (assignEach es (𝒳 i).env).map (·.2) := by intro _; rfl) : DGs ci 𝒳 (e :: es) (vs ++ ws) (gtCons t u) := by
  obtain ⟨g1, p1, k1⟩ := h1.ex
  obtain ⟨g2, p2, k2⟩ := h2.ex
  refine ⟨gCons g1 g2, fun i => pgs_cons (p1 i) (p2 i) (hs i), fun b L F0 H0 ρ σ F H xs us R Q S r h q => ?_⟩
  cases xs with
  | nil => exact h.elim
  | cons x xs =>
    cases us with
    | nil => have := r.1; simp at this
    | cons v us =>
      have rt : Reps ci F xs us := ⟨by have := r.1; simpa using this, fun i y w a b => r.2 (i + 1) y w (by simpa using a) (by simpa using b)⟩
      refine ⟨v, us, rfl, k1 b L F0 H0 ρ σ F H x v _ _ S (r.2 0 _ _ rfl rfl) h fun ρ1 σ1 S1 w1 h1 => ?_⟩
      exact k2 b L F0 H0 ρ1 σ1 F H xs us _ _ S1 rt h1 fun ρ2 σ2 S2 w2 h2 => q ρ2 σ2 S2 (fun zs hz => by rw [w2 zs fun i hi => hz i (List.mem_append_right _ hi), w1 zs fun i hi => hz i (List.mem_append_left _ hi)]) h2
def gtTup (n : Nat) (t : TDGs) : TDG := fun x ρ R => match x with
  | .tup xs => xs.length = n ∧ t xs ρ R
  | _ => False
theorem dg_tup (K : PySem.W.Frag) {es : List Expr} {k : Nat} {t : TDGs} {n : Nat} {vs : List Nat} (hc : ∀ i, (𝒳 i).calm = true) (h : DGs ci 𝒳 es vs t) (hK : ∀ i, (𝒳 i).K = K := by intro _; rfl)
    (hn : ∀ i, (assignEach es (𝒳 i).env).length = n := by intro _; rfl) (hst : ∀ i, (assignEach es (𝒳 i).env).findIdx? (·.1) = none := by intro _; rfl) : DG ci 𝒳 (.Tuple es k pos) vs (gtTup n t) := by
  obtain ⟨g, p, q⟩ := h.ex
  refine ⟨gTup K n g, fun i => by rw [← hK i]; exact pg_tup (hc i) (p i) (hn i) (hst i), fun b L F0 H0 ρ σ F H x v R Q S r h k => ?_⟩
  cases x with
  | tup xs =>
    obtain ⟨a, us, rfl, h1, h2⟩ := r.reps_t
    exact ⟨a, us, rfl, .inl (rd_same S.fr.s1 h1), by rw [← h2.1]; exact h.1, q b L F0 H0 ρ σ F H xs us R Q S h2 h.2 k⟩
  | _ => exact h.elim
end
end DL

/-! the data layer: comprehensions, calls of defs -/
namespace DL
open PySem PySem.Spec PyProof.Rows L2 VL
open C8 (Cal pe_c Met pe_mt pe_mt0)
/-! ### slots wiped -/
def wipeR (ρ : List Sl) : List Nat → List Sl
  | [] => ρ
  | v :: vs => (wipeR ρ vs).set v .no
theorem StRep.wipe1 {ci : CI} {b L : Addr} {F0 H0 F H : Hp} {ρ : List Sl} {σ : L2.St} (S : StRep ci b L F0 H0 ρ σ F H) (k : Nat) : StRep ci b L F0 H0 (ρ.set k .no) (σ.set k none) F H := by
  have get : ∀ (m : Nat) q, (ρ.set k .no)[m]? = some q → q ≠ .no → ρ[m]? = some q ∧ m ≠ k := fun m q e n => by
    by_cases z : k = m
    · subst z
      by_cases hr : k < ρ.length
      · rw [List.getElem?_set_self hr] at e
        cases e
        exact absurd rfl n
      · rw [List.getElem?_eq_none (by simp; omega)] at e
        cases e
    · rw [List.getElem?_set_ne z] at e
      exact ⟨e, fun w => z w.symm⟩
  have gs : ∀ (m : Nat), m ≠ k → (σ.set k none)[m]? = σ[m]? := fun m n => List.getElem?_set_ne (fun w => n w.symm)
  refine ⟨S.fr, S.fb, by simp [S.len], fun j q e n => ?_, fun j xs a e e2 => ?_, fun j xs a e e2 => ?_, fun j i xs ys a e1 e2 e3 e4 => ?_⟩
  · obtain ⟨e, z⟩ := get j q e n
    rw [gs j z]
    exact S.sl j q e n
  · obtain ⟨e, z⟩ := get j _ e (fun z => nomatch z)
    rw [gs j z] at e2
    exact S.ow j xs a e e2
  · obtain ⟨e, z⟩ := get j _ e (fun z => nomatch z)
    rw [gs j z] at e2
    exact S.vw j xs a e e2
  · obtain ⟨e1, z1⟩ := get j _ e1 (fun z => nomatch z)
    obtain ⟨e2, z2⟩ := get i _ e2 (fun z => nomatch z)
    rw [gs j z1] at e3
    rw [gs i z2] at e4
    exact S.sep j i xs ys a e1 e2 e3 e4
theorem StRep.wipe {ci : CI} {b L : Addr} {F0 H0 F H : Hp} {ρ : List Sl} {σ : L2.St} (S : StRep ci b L F0 H0 ρ σ F H) : ∀ vs : List Nat, StRep ci b L F0 H0 (wipeR ρ vs) (L2.wipe σ vs) F H
  | [] => S
  | v :: vs => (S.wipe vs).wipe1 v
theorem wipe_at {σ : L2.St} : ∀ {vs : List Nat} {i : Nat}, (L2.wipe σ vs)[i]? = if i ∈ vs ∧ i < σ.length then some none else σ[i]?
  | [], i => by simp [L2.wipe]
  | v :: vs, i => by
    show ((L2.wipe σ vs).set v none)[i]? = _
    by_cases z : v = i
    · subst z
      by_cases h : v < σ.length
      · rw [List.getElem?_set_self (by rw [wipe_length]; exact h), if_pos ⟨List.mem_cons_self, h⟩]
      · rw [List.getElem?_eq_none (by simp [wipe_length]; omega), if_neg (fun q => h q.2), List.getElem?_eq_none (by omega)]
    · rw [List.getElem?_set_ne z, wipe_at (vs := vs)]
      have e : (i ∈ v :: vs ∧ i < σ.length) = (i ∈ vs ∧ i < σ.length) := by
        rw [List.mem_cons]
        exact propext ⟨fun q => ⟨q.1.resolve_left fun w => z w.symm, q.2⟩, fun q => ⟨.inr q.1, q.2⟩⟩
      simp only [e]
theorem wipe_idem {σ : L2.St} {vs : List Nat} : L2.wipe (L2.wipe σ vs) vs = L2.wipe σ vs := by
  apply List.ext_getElem?
  intro i
  rw [wipe_at, wipe_length, wipe_at]
  split
  · rfl
  · rfl
section
variable {ci : CI} {K : PySem.W.Frag} {ι : Type} {𝒳 : ι → Cx} {a c e : Expr} {ta tb tc : TD} {pos : Pos}
/-! ### comprehensions -/
/-- a context's block -/
structure BI (ι : Type) where
  i : ι
  s : Shared
  H : Hp
  C : Addr
  cl : List (Str × Addr)
  fp : List Addr
abbrev blkX (𝒳 : ι → Cx) (scope : Scope) : BI ι → Cx := fun p => (𝒳 p.i).blk p.s p.H scope (compEnvC scope p.cl p.C (𝒳 p.i).env) p.fp
structure DTs (ci : CI) {ι : Type} (𝒳 : ι → Cx) (ifs : List Expr) (t : TDT) : Prop where
  ex : ∃ tt : TT, (∀ i, PTs (𝒳 i) ifs tt) ∧ ∀ (b L : Addr) (F0 H0 : Hp) (ρ : List Sl) (σ : L2.St) (F H : Hp) (R : Bool → Prop) (Q : Bool → Hp → Prop), StRep ci b L F0 H0 ρ σ F H → t ρ R → (∀ c H' F', Fr b L F H F' H' → R c → Q c H') → tt σ H Q
def dYes : TDT := fun _ R => R true
theorem dts_nil : DTs ci 𝒳 [] dYes := ⟨tYes, fun _ => pts_nil, fun b L F0 H0 ρ σ F H R Q S h q => q true H F S.rf h⟩
theorem dts_one {t : TDT} (h : DT ci 𝒳 a t) : DTs ci 𝒳 [a] t := let ⟨tt, p, q⟩ := h.ex; ⟨tt, fun i => pts_one (p i), q⟩
def compW (g : TDG) (tc : TDT) (te : TD) (ρ : List Sl) : List D → (List D → Prop) → Prop
  | [], Q => Q []
  | x :: xs, Q => g x ρ fun ρ' => tc ρ' fun b => if b = true then te ρ' fun r => withD r fun y => compW g tc te ρ xs fun ys => Q (y :: ys) else compW g tc te ρ xs Q
theorem compW_mono {g : TDG} {tc : TDT} {te : TD} {ρ : List Sl} : True := trivial
def dLc (ti : TDD) (g : TDG) (tc : TDT) (te : TD) (vs : List Nat) : TD := fun ρ R => ti ρ fun xs => xs.length ≤ 1000000 ∧ compW g tc te (wipeR ρ vs) xs fun ys => R (.m ys)
theorem lc_sound {wi : TI} {g : TG} {tt : TT} {te : TE} {ti : TDD} {gd : TDG} {tcd : TDT} {ted : TD} {vs ws : List Nat} (hws : ∀ i ∈ ws, i ∈ vs)
    (hi : ∀ (b L : Addr) (F0 H0 : Hp) (ρ : List Sl) (σ : L2.St) (F H : Hp) (R : List D → Prop) (Q : It → Hp → Prop), StRep ci b L F0 H0 ρ σ F H → ti ρ R →
      (∀ J H' F' xs G, Fr b L F H F' H' → WalkD ci b L J xs F' G → (∀ F2 H2, Fr b L F0 H0 F2 H2 → Same F' F2 → (true = true → Fr b L F' H' F2 H2) → G H2) → R xs → Q J H') → wi σ H Q)
    (hg : ∀ (b L : Addr) (F0 H0 : Hp) (ρ : List Sl) (σ : L2.St) (F H : Hp) (x : D) (v : V) (R : List Sl → Prop) (Q : L2.St → Hp → Prop), StRep ci b L F0 H0 ρ σ F H → Rep ci F x v → gd x ρ R →
      (∀ ρ' σ', StRep ci b L F0 H0 ρ' σ' F H → (∀ us, (∀ i ∈ ws, i ∈ us) → wipe σ' us = wipe σ us) → R ρ' → Q σ' H) → g v σ H Q)
    (ht : ∀ (b L : Addr) (F0 H0 : Hp) (ρ : List Sl) (σ : L2.St) (F H : Hp) (R : Bool → Prop) (Q : Bool → Hp → Prop), StRep ci b L F0 H0 ρ σ F H → tcd ρ R → (∀ c H' F', Fr b L F H F' H' → R c → Q c H') → tt σ H Q)
    (he : ∀ (b L : Addr) (F0 H0 : Hp) (ρ : List Sl) (σ : L2.St) (F H : Hp) (R : Sl → Prop) (Q : VK), StRep ci b L F0 H0 ρ σ F H → ted ρ R → Post ci b L F H R Q → te σ H Q)
    (b L : Addr) (F0 H0 : Hp) (ρ : List Sl) (σ : L2.St) (F H : Hp) (R : Sl → Prop) (Q : VK) (S : StRep ci b L F0 H0 ρ σ F H) (h : dLc ti gd tcd ted vs ρ R) (q : Post ci b L F H R Q) : tLc wi g tt te vs σ H Q := by
  refine hi b L F0 H0 ρ σ F H _ _ S h fun J H1 F1 xs G x1 wk stab k => ?_
  intro Dl nD
  obtain ⟨kl, k⟩ := k
  have S1 := S.go x1
  obtain ⟨nb, nL⟩ := x1.b1.new nD
  refine ⟨fun i m H => m + i = xs.length ∧ ∃ F2 acc ds, Fr b L F1 H1 F2 H ∧ F2 Dl = none ∧ H Dl = some (.lst acc) ∧ Reps ci F2 ds acc ∧ acc.length ≤ i ∧ compW gd tcd ted (wipeR ρ vs) (xs.drop i) (fun ys => R (.m (ds ++ ys))), ⟨xs.length, rfl, F1, [], [], Fr.tmp x1.s1 x1.b1 _ nD, same_free x1.s1 nD, upd_same, .nil, Nat.le_refl _, k⟩, ?_⟩
  rintro i m H2 ⟨em, F2, acc, ds, fr, nF, eD, rep, la, kk⟩
  have gg := stab F2 H2 (S1.go fr).fr fr.ff (fun _ => fr)
  by_cases hi : i < xs.length
  · refine .inr ⟨wk.goes i H2 hi gg, fun H => ∃ F2 acc ds, Fr b L F1 H1 F2 H ∧ F2 Dl = none ∧ H Dl = some (.lst acc) ∧ Reps ci F2 ds acc ∧ acc.length ≤ i + 1 ∧ compW gd tcd ted (wipeR ρ vs) (xs.drop (i + 1)) (fun ys => R (.m (ds ++ ys))), fun H' p => ⟨m - 1, by omega, by omega, p⟩, fun v H3 y => ?_⟩
    obtain ⟨F3, x, x3, ex, rx⟩ := wk.yields i F2 H2 v H3 hi gg fr.ff fr.s1 fr.b1 y
    have ed : xs.drop i = x :: xs.drop (i + 1) := by
      have z := List.drop_eq_getElem_cons hi
      rw [List.getElem?_eq_getElem hi] at ex
      rw [z, Option.some.inj ex]
    rw [ed] at kk
    have S3 := ((S1.go fr).go x3).wipe vs
    have eD3 := x3.hh _ _ nb eD
    have nF3 := x3.no nF eD
    refine hg b L F0 H0 _ _ F3 H3 x v _ _ S3 rx kk fun ρ4 σ4 S4 w4 k4 => ⟨by rw [w4 vs hws, wipe_idem], ?_⟩
    refine ht b L F0 H0 ρ4 σ4 F3 H3 _ _ S4 k4 fun cc H5 F5 x5 k5 => ?_
    have eD5 := x5.hh _ _ nb eD3
    have nF5 := x5.no nF3 eD3
    cases cc with
    | true =>
      rw [if_pos rfl] at k5
      refine iteT ?_
      refine he b L F0 H0 ρ4 σ4 F5 H5 _ _ (S4.go x5) k5 fun u H6 F6 r x6 rep6 fresh k6 => ?_
      obtain ⟨y, F7, x7, s7, ry, k7⟩ := withD_of x6 rep6 fresh k6
      have eD7 := x7.hh _ _ nb eD5
      have nF7 := x7.no nF5 eD5
      have frr := ((fr.trans x3).trans x5).trans x7
      refine ⟨acc, eD7, slenlt (by omega), F7, acc ++ [u], ds ++ [y], ?_, nF7, upd_same, (rep.mono ((x3.trans x5).trans x7).ff).snoc ry, by rw [List.length_append]; show acc.length + 1 ≤ i + 1; omega, ?_⟩
      · refine ⟨frr.ff, fun a o n ea => ?_, frr.nw, frr.s0, fun a o ea => ?_, frr.b0, frr.b1.upd nb nL⟩
        · rw [upd_ne (ne_of_none ea nD)]
          exact frr.hh a o n ea
        · rw [upd_ne (ne_of_none ea nF7)]
          exact frr.s1 a o ea
      · simpa only [List.append_assoc, List.singleton_append] using k7
    | false =>
      rw [if_neg Bool.false_ne_true] at k5
      refine iteF ⟨F5, acc, ds, (fr.trans x3).trans x5, nF5, eD5, rep.mono (x3.trans x5).ff, by omega, k5⟩
  · have e : i = xs.length := by omega
    subst e
    refine .inl ⟨wk.stops H2 gg, q (.ref Dl) H2 F2 (.m ds) (x1.trans fr) ⟨Dl, acc, rfl, eD, rep, nb, nL, nF⟩ (fresh_m x1 nD) ?_⟩
    rw [List.drop_length] at kk
    have kk : R (.m (ds ++ [])) := kk
    rwa [List.append_nil] at kk
variable {elt tg iter : Expr} {ifs : List Expr} {scope : Scope} {own : List (Str × Nat)} {ti : TDD} {gd : TDG} {tcd : TDT} {ted : TD} {ws : List Nat}
theorem de_lc (hc : ∀ i, (𝒳 i).calm = true) (hN : ∀ i, (𝒳 i).N.Nodup) (hi : DI ci true 𝒳 tg iter ti) (ok : ∀ i, BlkOk (𝒳 i).N (𝒳 i).env.scope scope own) (hg : DG ci (blkX 𝒳 scope) tg ws gd) (ht : DTs ci (blkX 𝒳 scope) ifs tcd) (he : DE ci (blkX 𝒳 scope) elt ted)
    (hws : ∀ i ∈ ws, i ∈ own.map (·.2) := by decide) (hs : ∀ i x, foldedSetIterable iter (𝒳 i).env x = pure x := by intro _ _; rfl) : DE ci 𝒳 (.ListComp elt [⟨tg, iter, ifs, 0⟩] scope pos) (dLc ti gd tcd ted (own.map (·.2))) := by
  obtain ⟨wi, p1, h1⟩ := hi.ex
  obtain ⟨g, p2, h2⟩ := hg.ex
  obtain ⟨tt, p3, h3⟩ := ht.ex
  obtain ⟨te, p4, h4⟩ := he.ex
  exact ⟨tLc wi g tt te (own.map (·.2)), fun i => pe_lc (hc i) (hN i) (p1 i) (ok i) (fun s H C cl fp => p2 ⟨i, s, H, C, cl, fp⟩) (fun s H C cl fp => p3 ⟨i, s, H, C, cl, fp⟩) (fun s H C cl fp => p4 ⟨i, s, H, C, cl, fp⟩) (hs i),
    lc_sound hws h1 h2 h3 h4⟩
/-! ### what a def promises -/
abbrev DSp := List Sl → (Sl → Prop) → Prop
def lift (ci : CI) (s : DSp) : Sp := fun vs H Q _ => ∃ (b L : Addr) (F : Hp) (rs : List Sl) (R : Sl → Prop), Fr b L F H F H ∧ F b = none ∧ F L = none ∧ SlReps ci b L F H rs vs ∧ (∀ r ∈ rs, ∀ xs, r ≠ .m xs) ∧ s rs R ∧ Post ci b L F H R Q
theorem Sl.arg_nm (r : Sl) : ∀ xs, r.arg ≠ .m xs := by
  intro xs
  cases r with
  | d x => cases x <;> exact fun z => nomatch z
  | _ => exact fun z => nomatch z
structure DAa (ci : CI) {ι : Type} (𝒳 : ι → Cx) (es : List Expr) (t : TDA) : Prop where
  ex : ∃ ta : TA, (∀ i, PA (𝒳 i) es ta) ∧ ∀ (b L : Addr) (F0 H0 : Hp) (ρ : List Sl) (σ : L2.St) (F H : Hp) (R : List Sl → Prop) (Q : List V → Hp → Prop), StRep ci b L F0 H0 ρ σ F H → t ρ R → (∀ vs H' F' rs, Fr b L F H F' H' → SlReps ci b L F' H' rs vs → (∀ r ∈ rs, ∀ xs, r ≠ .m xs) → R rs → Q vs H') → ta σ H Q
variable {es : List Expr} {tr : TDA} {x m : Str} {s : DSp} {k j : Nat} {p apos : Pos} {C : Addr} {o : Expr}
theorem daa_nil : DAa ci 𝒳 [] (fun _ R => R []) := ⟨tNil, fun _ => pa_nil, fun b L F0 H0 ρ σ F H R Q S h q => q [] H F [] S.rf .nil (fun _ z => nomatch z) h⟩
theorem daa_cons {tr : TDA} (ha : DE ci 𝒳 e ta) (hr : DAa ci 𝒳 es tr) (hs : ∀ i, starEach (e :: es) (𝒳 i).env = (false, eval e (𝒳 i).env) :: starEach es (𝒳 i).env := by intro _; rfl) : DAa ci 𝒳 (e :: es) (dArgs ta tr) := by
  obtain ⟨t1, p1, h1⟩ := ha.ex
  obtain ⟨t2, p2, h2⟩ := hr.ex
  refine ⟨tCons t1 t2, fun i => pa_cons (p1 i) (p2 i) (hs i), fun b L F0 H0 ρ σ F H R Q S h q => ?_⟩
  refine h1 b L F0 H0 ρ σ F H _ _ S h fun v H1 F1 r1 x1 rep1 _ k1 => ?_
  refine h2 b L F0 H0 ρ σ F1 H1 _ _ (S.go x1) k1 fun vs H2 F2 rs x2 rep2 nm k2 => ?_
  refine q _ H2 F2 _ (x1.trans x2) (.cons ((SlRep.arg x1.s1 (S.go x1).nb rep1).fr x2) rep2) (fun r hr => ?_) k2
  rcases List.mem_cons.mp hr with rfl | hr
  · exact Sl.arg_nm r1
  · exact nm r hr
theorem DAa.da (h : DAa ci 𝒳 es tr) : DA ci 𝒳 es tr := let ⟨t, p, q⟩ := h.ex; ⟨t, p, fun b L F0 H0 ρ σ F H R Q S k z => q b L F0 H0 ρ σ F H R Q S k fun vs H' F' rs x1 r1 _ k1 => z vs H' F' rs x1 r1 k1⟩
theorem de_call {e : Expr} (c : ∀ i, Cal (𝒳 i).prog (𝒳 i).w (𝒳 i).K (𝒳 i).mg (𝒳 i).base k x (lift ci s) []) (hr : ∀ i, Room j (𝒳 i).A) (hk : k ≤ j) (hg : ∀ i, Gl (𝒳 i) x) (ha : DAa ci 𝒳 (e :: es) tr)
    (hdb : (x == ("__debug__" : Str)) = false := by decide) (he : ∀ i, starEach (e :: es) (𝒳 i).env = (false, eval e (𝒳 i).env) :: starEach es (𝒳 i).env := by intro _; rfl) (hpl : ∀ i, (backTo pos (starEach es (𝒳 i).env)).any (·.1) = false := by intro _; rfl) :
    DE ci 𝒳 (.Call (.Name x p) (e :: es) [] pos) (fun ρ R => tr ρ fun rs => s rs R) := by
  obtain ⟨t1, p1, h1⟩ := ha.ex
  refine ⟨tCall (lift ci s) [] E0 t1, fun i => pe_c (c i) (hr i) hk (hg i) (p1 i) hdb (he i) (hpl i), fun b L F0 H0 ρ σ F H R Q S h q => ?_⟩
  refine h1 b L F0 H0 ρ σ F H _ _ S h fun vs H1 F1 rs x1 rep nm k1 => ?_
  have S1 := S.go x1
  show lift ci s (vs ++ []) H1 Q E0
  rw [List.append_nil]
  exact ⟨b, L, F1, rs, R, S1.rf, S1.nb, S1.nL, rep, nm, k1, q.mono x1⟩
/-- o.m(..), o an instance of the class at C -/
def dMeth (C : Addr) (m : Str) (s : DSp) (ta : TD) (tr : TDA) : TD := fun ρ R => ta ρ fun r => withV r fun x => ∃ fs xs, x = .ins C fs xs ∧ m ∉ fs ∧ tr ρ fun rs => s (.d x :: rs) R
theorem lookup_zip_none {m : Str} : ∀ {fs : List Str} {vs : List V}, m ∉ fs → (fs.zip vs).lookup m = none
  | [], _, _ => rfl
  | _ :: _, [], _ => rfl
  | f :: fs, v :: vs, h => by
    have h1 : (m == f) = false := beq_eq_false_iff_ne.mpr fun e => h (e ▸ List.mem_cons_self)
    show (match m == f with | true => some v | false => (fs.zip vs).lookup m) = none
    rw [h1]
    exact lookup_zip_none fun q => h (List.mem_cons_of_mem _ q)
theorem meth_sound {te : TE} {tav : TA} {C : Addr}
    (h1 : ∀ (b L : Addr) (F0 H0 : Hp) (ρ : List Sl) (σ : L2.St) (F H : Hp) (R : Sl → Prop) (Q : VK), StRep ci b L F0 H0 ρ σ F H → ta ρ R → Post ci b L F H R Q → te σ H Q)
    (h2 : ∀ (b L : Addr) (F0 H0 : Hp) (ρ : List Sl) (σ : L2.St) (F H : Hp) (R : List Sl → Prop) (Q : List V → Hp → Prop), StRep ci b L F0 H0 ρ σ F H → tr ρ R → (∀ vs H' F' rs, Fr b L F H F' H' → SlReps ci b L F' H' rs vs → (∀ r ∈ rs, ∀ xs, r ≠ .m xs) → R rs → Q vs H') → tav σ H Q)
    (b L : Addr) (F0 H0 : Hp) (ρ : List Sl) (σ : L2.St) (F H : Hp) (R : Sl → Prop) (Q : VK) (S : StRep ci b L F0 H0 ρ σ F H) (h : dMeth C m s ta tr ρ R) (q : Post ci b L F H R Q) : tMeth C m (lift ci s) [] E0 te tav σ H Q := by
  refine h1 b L F0 H0 ρ σ F H _ _ S h fun v H1 F1 r1 x1 rep1 _ k1 => ?_
  obtain ⟨x, rx, fs, xs, rfl, nm, k1⟩ := withV_of rep1 k1
  have rx' : Rep ci F1 (.ins C fs xs) v := rx.elim id (fun ⟨_, _, _, z, _⟩ => nomatch z)
  have keep := rx'
  cases rx' with
  | ins hh lf l r qq =>
    refine ⟨_, _, _, rfl, x1.s1 _ _ hh, lookup_zip_none nm, ?_⟩
    refine h2 b L F0 H0 ρ σ F1 H1 _ _ (S.go x1) k1 fun vs H2 F2 rs x2 rep2 nm2 k2 => ?_
    have S2 := (S.go x1).go x2
    show lift ci s (_ :: (vs ++ [])) H2 Q E0
    rw [List.append_nil]
    refine ⟨b, L, F2, _ :: rs, R, S2.rf, S2.nb, S2.nL, .cons (r := .d (.ins C fs xs)) (keep.mono x2.ff) rep2, fun r hr => ?_, k2, q.mono (x1.trans x2)⟩
    rcases List.mem_cons.mp hr with rfl | hr
    · exact fun _ z => nomatch z
    · exact nm2 r hr
theorem de_meth {e : Expr} {pl : ι → Sem Bool} (c : ∀ i, Met (𝒳 i).prog (𝒳 i).w (𝒳 i).K (𝒳 i).mg (𝒳 i).base k C m (lift ci s) []) (hr : ∀ i, Room j (𝒳 i).A) (hk : k ≤ j) (ho : DE ci 𝒳 o ta) (ha : DAa ci 𝒳 (e :: es) tr)
    (hst : ∀ i, starEach (e :: es) (𝒳 i).env = (false, eval e (𝒳 i).env) :: starEach es (𝒳 i).env := by intro _; rfl) (hpl : ∀ i, (backTo pos (starEach es (𝒳 i).env)).any (·.1) = false := by intro _; rfl)
    (ht : ∀ i, eval (.Call (.Attribute o m apos) (e :: es) [] pos) (𝒳 i).env = (do
      let ov ← eval o (𝒳 i).env
      standAt apos.atName
      let (f, first) ← holding [ov] (getMethod ov m (pl i))
      callWith pos f first (backTo pos (starEach (e :: es) (𝒳 i).env)) (backToKw pos (keywordEach [] (𝒳 i).env))) := by intro _; rfl) :
    DE ci 𝒳 (.Call (.Attribute o m apos) (e :: es) [] pos) (dMeth C m s ta tr) := by
  obtain ⟨t1, p1, h1⟩ := ho.ex
  obtain ⟨t2, p2, h2⟩ := ha.ex
  exact ⟨_, fun i => pe_mt (pl := pl i) (c i) (hr i) hk (p1 i) (p2 i) (hst i) (hpl i) (ht i), meth_sound h1 h2⟩
theorem de_meth0 {pl : ι → Sem Bool} (c : ∀ i, Met (𝒳 i).prog (𝒳 i).w (𝒳 i).K (𝒳 i).mg (𝒳 i).base k C m (lift ci s) []) (hr : ∀ i, Room j (𝒳 i).A) (hk : k ≤ j) (ho : DE ci 𝒳 o ta)
    (ht : ∀ i, eval (.Call (.Attribute o m apos) [] [] pos) (𝒳 i).env = (do
      let ov ← eval o (𝒳 i).env
      standAt apos.atName
      let (f, first) ← holding [ov] (getMethod ov m (pl i))
      callWith pos f first (backTo pos (starEach [] (𝒳 i).env)) (backToKw pos (keywordEach [] (𝒳 i).env))) := by intro _; rfl) :
    DE ci 𝒳 (.Call (.Attribute o m apos) [] [] pos) (dMeth C m s ta fun _ R => R []) := by
  obtain ⟨t1, p1, h1⟩ := ho.ex
  obtain ⟨t2, p2, h2⟩ := (daa_nil (ci := ci) (𝒳 := 𝒳)).ex
  exact ⟨_, fun i => pe_mt0 (pl := pl i) (c i) (hr i) hk (p1 i) (ht i), meth_sound h1 (fun b L F0 H0 ρ σ F H R Q S h q => q [] H F [] S.rf .nil (fun _ z => nomatch z) h)⟩
/-! ### attributes -/
def lookD (f : Str) : List Str → List D → Option D
  | g :: gs, x :: xs => if f = g then some x else lookD f gs xs
  | _, _ => none
def fldF (f : Str) (x : D) (R : Sl → Prop) : Prop := match x with
  | .ins _ fs xs => ∃ y, lookD f fs xs = some y ∧ R (.d y)
  | _ => False
theorem lookD_rep {F : Hp} {f : Str} {y : D} : ∀ {fs : List Str} {xs : List D} {vs : List V}, Reps ci F xs vs → fs.length = vs.length → lookD f fs xs = some y → ∃ v, (fs.zip vs).lookup f = some v ∧ Rep ci F y v
  | [], _, _, _, _, h => by unfold lookD at h; cases h
  | _ :: _, [], _, _, _, h => by unfold lookD at h; cases h
  | g :: gs, x :: xs, [], r, _, _ => by have := r.1; simp at this
  | g :: gs, x :: xs, v :: vs, r, l, h => by
    unfold lookD at h
    by_cases z : f = g
    · rw [if_pos z] at h
      cases h
      have b : (f == g) = true := beq_iff_eq.mpr z
      refine ⟨v, ?_, r.2 0 _ _ rfl rfl⟩
      show (match f == g with | true => some v | false => (gs.zip vs).lookup f) = some v
      rw [b]
    · rw [if_neg z] at h
      have b : (f == g) = false := beq_eq_false_iff_ne.mpr z
      obtain ⟨w, h1, h2⟩ := lookD_rep (fs := gs) (xs := xs) (vs := vs) ⟨by have := r.1; simpa using this, fun i y w a b => r.2 (i + 1) y w (by simpa using a) (by simpa using b)⟩ (by simpa using l) h
      refine ⟨w, ?_, h2⟩
      show (match f == g with | true => some v | false => (gs.zip vs).lookup f) = some w
      rw [b]
      exact h1
/-- e.f: cl tells that the class at C is plain and has nothing called f -/
theorem de_fld (K : PySem.W.Frag) {f : Str} (cl : Cls K C) (nf : NoAttr K C f) (ha : DE ci 𝒳 a ta) (hK : ∀ i, (𝒳 i).K = K := by intro _; rfl) (hb : ∀ i, attributeBase a f (𝒳 i).env (eval a (𝒳 i).env) = eval a (𝒳 i).env := by intro _; rfl) :
    DE ci 𝒳 (.Attribute a f pos) (fun ρ R => ta ρ fun r => withV r fun x => (∃ fs xs, x = .ins C fs xs) ∧ fldF f x R) := by
  obtain ⟨t1, p1, h1⟩ := ha.ex
  refine ⟨tFld K t1 f, fun i => by rw [← hK i]; exact pe_fld (p1 i) (hb i), fun b L F0 H0 ρ σ F H R Q S h q => ?_⟩
  refine h1 b L F0 H0 ρ σ F H _ _ S h fun v H1 F1 r1 x1 rep1 _ k1 => ?_
  obtain ⟨x, rx, ⟨fs, xs, rfl⟩, y, hy, k1⟩ := withV_of rep1 k1
  have rx' : Rep ci F1 (.ins C fs xs) v := rx.elim id (fun ⟨_, _, _, z, _⟩ => nomatch z)
  cases rx' with
  | ins hh lf l r qq =>
    obtain ⟨w, hw, rw'⟩ := lookD_rep ⟨l, r⟩ lf hy
    exact ⟨_, C, _, _, w, rfl, x1.s1 _ _ hh, cl, nf, hw, q.d x1 rw' k1⟩
end
end DL

/-! the data layer: built-ins -/
namespace DL
open PySem PySem.Spec PyProof.Rows L2 VL
section
variable {ci : CI} {K : PySem.W.Frag} {ι : Type} {𝒳 : ι → Cx} {a c e : Expr} {ta tb tc : TD} {pos : Pos} {x : Str} {p : Pos} {id T : String} {r : List V → Hp → VK → Prop} {f : F1}
/-- a call with one value -/
def Cl1 (ci : CI) (r : List V → Hp → VK → Prop) (f : F1) : Prop := ∀ (b L : Addr) (F H : Hp) (x : D) (v : V) (R : Sl → Prop) (Q : VK), Fr b L F H F H → VR ci b F H x v → f x R → Post ci b L F H R Q → r [v] H Q
theorem cl1_sound {te : TE} (hf : Cl1 ci r f)
    (h1 : ∀ (b L : Addr) (F0 H0 : Hp) (ρ : List Sl) (σ : L2.St) (F H : Hp) (R : Sl → Prop) (Q : VK), StRep ci b L F0 H0 ρ σ F H → ta ρ R → Post ci b L F H R Q → te σ H Q)
    (b L : Addr) (F0 H0 : Hp) (ρ : List Sl) (σ : L2.St) (F H : Hp) (R : Sl → Prop) (Q : VK) (S : StRep ci b L F0 H0 ρ σ F H) (h : dUna f ta ρ R) (q : Post ci b L F H R Q) : tCB r (tCons te tNil) σ H Q := by
  refine h1 b L F0 H0 ρ σ F H _ _ S h fun v H1 F1 r1 x1 rep1 _ k1 => ?_
  obtain ⟨x, rx, k1⟩ := withV_of rep1 k1
  exact hf b L F1 H1 x v R Q (Fr.refl x1.s1 x1.b1) rx k1 (q.mono x1)
theorem de_B1 (hc : ∀ i, CallR (𝒳 i) (.builtin id) r) (hf : Cl1 ci r f) (hg : ∀ i, Gl (𝒳 i) x) (hm : ∀ i, (𝒳 i).mg x = none) (hv : bootBuiltins x = some (.builtin id)) (ha : DE ci 𝒳 a ta) (hn : x ≠ "__name__" := by decide) (hdb : (x == ("__debug__" : Str)) = false := by decide)
    (he : ∀ i, starEach [a] (𝒳 i).env = [(false, eval a (𝒳 i).env)] := by intro _; rfl) (hpl : ∀ i, (backTo pos (starEach [] (𝒳 i).env)).any (·.1) = false := by intro _; rfl) : DE ci 𝒳 (.Call (.Name x p) [a] [] pos) (dUna f ta) := by
  obtain ⟨t1, p1, h1⟩ := ha.ex
  exact ⟨tCB r (tCons t1 tNil), fun i => pe_callB (hc i) (hg i) (hm i) hv (pa_cons (p1 i) pa_nil (he i)) hn hdb (he i) (hpl i), cl1_sound hf h1⟩
theorem de_T1 (hc : ∀ i, CallR (𝒳 i) (.type T) r) (hf : Cl1 ci r f) (hg : ∀ i, Gl (𝒳 i) x) (hm : ∀ i, (𝒳 i).mg x = none) (hv : bootBuiltins x = some (.type T)) (ha : DE ci 𝒳 a ta) (hn : x ≠ "__name__" := by decide) (hdb : (x == ("__debug__" : Str)) = false := by decide)
    (he : ∀ i, starEach [a] (𝒳 i).env = [(false, eval a (𝒳 i).env)] := by intro _; rfl) (hpl : ∀ i, (backTo pos (starEach [] (𝒳 i).env)).any (·.1) = false := by intro _; rfl) : DE ci 𝒳 (.Call (.Name x p) [a] [] pos) (dUna f ta) := by
  obtain ⟨t1, p1, h1⟩ := ha.ex
  exact ⟨tCB r (tCons t1 tNil), fun i => pe_callTy (hc i) (hg i) (hm i) hv (pa_cons (p1 i) pa_nil (he i)) hn hdb (he i) (hpl i), cl1_sound hf h1⟩
/-! len -/
def lenF : F1 := fun x R => match x with
  | .lst xs => R (.d (.int xs.length))
  | .tup xs => R (.d (.int xs.length))
  | .str s => s.length ≤ 1000000 ∧ R (.d (.int s.length))
  | _ => False
def rLenA (K : PySem.W.Frag) : List V → Hp → VK → Prop := fun xs H Q => ∃ x n, xs = [x] ∧ LenV K x H n ∧ Q (.int n) H
theorem call_lenA {X : Cx} (K : PySem.W.Frag) (h : X.K = K) : CallR X (.builtin "len") (rLenA K) := h ▸ call_len
theorem cl_len : Cl1 ci (rLenA K) lenF := by
  intro b L F H x v R Q fr hx h q
  cases x with
  | lst xs =>
    obtain ⟨a, vs, rfl, h1, h2⟩ := hx.lst fr.s1
    exact ⟨_, vs.length, rfl, .inl ⟨vs, SqL.of h1, rfl⟩, by rw [← h2.1]; exact q.d fr (Rep.int _) h⟩
  | tup xs =>
    obtain ⟨a, vs, rfl, h1, h2⟩ := hx.tup fr.s1
    exact ⟨_, vs.length, rfl, .inr ⟨vs, .inl h1, rfl⟩, by rw [← h2.1]; exact q.d fr (Rep.int _) h⟩
  | str s =>
    rw [hx.str]
    exact ⟨_, s.length, rfl, ⟨slen h.1, rfl⟩, q.d fr (Rep.int _) h.2⟩
  | _ => exact h.elim
theorem de_len (K : PySem.W.Frag) (hm : ∀ i, (𝒳 i).mg "len" = none) (ha : DE ci 𝒳 a ta) (hg : ∀ i, Gl (𝒳 i) "len" := by intro _; rfl) (hK : ∀ i, (𝒳 i).K = K := by intro _; rfl)
    (he : ∀ i, starEach [a] (𝒳 i).env = [(false, eval a (𝒳 i).env)] := by intro _; rfl) (hpl : ∀ i, (backTo pos (starEach [] (𝒳 i).env)).any (·.1) = false := by intro _; rfl) : DE ci 𝒳 (.Call (.Name "len" p) [a] [] pos) (dUna lenF ta) := de_B1 (fun i => call_lenA K (hK i)) cl_len hg hm PySem.boot_len ha (he := he) (hpl := hpl)
/-! list, tuple -/
def listF : F1 := fun x R => match x with
  | .lst xs => R (.m xs)
  | .tup xs => R (.m xs)
  | _ => False
def rListA (K : PySem.W.Frag) : List V → Hp → VK → Prop := fun xs H Q => ∃ p ys, xs = [.ref p] ∧ (SqL K H p ys ∨ SqT K H p ys) ∧ ∀ l, H l = none → Q (.ref l) (upd H l (.lst ys))
theorem call_listA {X : Cx} (K : PySem.W.Frag) (h : X.K = K) : CallR X (.type "list") (rListA K) := h ▸ call_list_of
theorem cl_list : Cl1 ci (rListA K) listF := by
  intro b L F H x v R Q fr hx h q
  cases x with
  | lst xs =>
    obtain ⟨a, vs, rfl, h1, h2⟩ := hx.lst fr.s1
    exact ⟨a, vs, rfl, .inl (SqL.of h1), fun l hl => q _ _ _ _ (Fr.tmp fr.s1 fr.b1 _ hl) (sl_m fr h2 hl) (fresh_m fr hl) h⟩
  | tup xs =>
    obtain ⟨a, vs, rfl, h1, h2⟩ := hx.tup fr.s1
    exact ⟨a, vs, rfl, .inr (.inl h1), fun l hl => q _ _ _ _ (Fr.tmp fr.s1 fr.b1 _ hl) (sl_m fr h2 hl) (fresh_m fr hl) h⟩
  | _ => exact h.elim
theorem de_list (K : PySem.W.Frag) (hm : ∀ i, (𝒳 i).mg "list" = none) (ha : DE ci 𝒳 a ta) (hg : ∀ i, Gl (𝒳 i) "list" := by intro _; rfl) (hK : ∀ i, (𝒳 i).K = K := by intro _; rfl)
    (he : ∀ i, starEach [a] (𝒳 i).env = [(false, eval a (𝒳 i).env)] := by intro _; rfl) (hpl : ∀ i, (backTo pos (starEach [] (𝒳 i).env)).any (·.1) = false := by intro _; rfl) : DE ci 𝒳 (.Call (.Name "list" p) [a] [] pos) (dUna listF ta) := de_T1 (fun i => call_listA K (hK i)) cl_list hg hm (by decide +kernel) ha (he := he) (hpl := hpl)
def tupF : F1 := fun x R => match x with
  | .lst xs => R (.d (.tup xs))
  | .tup xs => R (.d (.tup xs))
  | _ => False
def rTupA (K : PySem.W.Frag) : List V → Hp → VK → Prop := fun xs H Q => ∃ p ys, xs = [.ref p] ∧ ((SqL K H p ys ∧ ∀ l, H l = none → Q (.ref l) (upd H l (.tup ys))) ∨ (SqT K H p ys ∧ Q (.ref p) H))
theorem call_tupA {X : Cx} (K : PySem.W.Frag) (h : X.K = K) : CallR X (.type "tuple") (rTupA K) := h ▸ call_tuple_of
theorem cl_tup : Cl1 ci (rTupA K) tupF := by
  intro b L F H x v R Q fr hx h q
  cases x with
  | lst xs =>
    obtain ⟨a, vs, rfl, h1, h2⟩ := hx.lst fr.s1
    refine ⟨a, vs, rfl, .inl ⟨SqL.of h1, fun l hl => ?_⟩⟩
    have y := Fr.new fr.s1 fr.b1 (.tup vs) hl
    exact q.d y ((h2.mono y.ff).t upd_same) h
  | tup xs =>
    obtain ⟨a, vs, rfl, h1, h2⟩ := hx.elim (fun h => h.reps_t) (fun ⟨_, _, _, z, _⟩ => nomatch z)
    exact ⟨a, vs, rfl, .inr ⟨.inl (rd_same fr.s1 h1), q.d fr (.tup h1 h2.1 h2.2) h⟩⟩
  | _ => exact h.elim
theorem de_tuple (K : PySem.W.Frag) (hm : ∀ i, (𝒳 i).mg "tuple" = none) (ha : DE ci 𝒳 a ta) (hg : ∀ i, Gl (𝒳 i) "tuple" := by intro _; rfl) (hK : ∀ i, (𝒳 i).K = K := by intro _; rfl)
    (he : ∀ i, starEach [a] (𝒳 i).env = [(false, eval a (𝒳 i).env)] := by intro _; rfl) (hpl : ∀ i, (backTo pos (starEach [] (𝒳 i).env)).any (·.1) = false := by intro _; rfl) : DE ci 𝒳 (.Call (.Name "tuple" p) [a] [] pos) (dUna tupF ta) := de_T1 (fun i => call_tupA K (hK i)) cl_tup hg hm (by decide +kernel) ha (he := he) (hpl := hpl)
/-! int -/
def intF : F1 := fun x R => match x with
  | .int i => R (.d (.int i))
  | .bl k => R (.d (.int (if k then 1 else 0)))
  | _ => False
theorem de_intc (hm : ∀ i, (𝒳 i).mg "int" = none) (ha : DE ci 𝒳 a ta) (hg : ∀ i, Gl (𝒳 i) "int" := by intro _; rfl)
    (he : ∀ i, starEach [a] (𝒳 i).env = [(false, eval a (𝒳 i).env)] := by intro _; rfl) (hpl : ∀ i, (backTo pos (starEach [] (𝒳 i).env)).any (·.1) = false := by intro _; rfl) : DE ci 𝒳 (.Call (.Name "int" p) [a] [] pos) (dUna intF ta) := de_T1 (fun _ => call_int1) (by
  intro b L F H x v R Q fr hx h q
  cases x with
  | int i =>
    rw [hx.int]
    exact .inl ⟨i, rfl, q.d fr (Rep.int _) h⟩
  | bl k =>
    rw [hx.bl]
    exact .inr ⟨k, rfl, q.d fr (Rep.int _) h⟩
  | _ => exact h.elim) hg hm (by decide +kernel) ha (he := he) (hpl := hpl)
/-! sum, all, any -/
def allF (g : List Bool → Bool) : F1 := fun x R => match x with
  | .lst xs => ∃ bs : List Bool, xs = bs.map D.bl ∧ R (.d (.bl (g bs)))
  | _ => False
theorem reps_bls {F : Hp} : ∀ {bs : List Bool} {vs : List V}, Reps ci F (bs.map D.bl) vs → vs = bs.map V.bl
  | [], vs, h => List.eq_nil_of_length_eq_zero (by rw [← h.1]; rfl)
  | b :: bs, [], h => by have := h.1; simp at this
  | b :: bs, v :: vs, h => by
    cases (show Rep ci F (.bl b) v from h.2 0 _ _ rfl rfl)
    rw [reps_bls (bs := bs) (vs := vs) ⟨by have := h.1; simpa using this, fun i y w a b => h.2 (i + 1) y w (by simpa using a) (by simpa using b)⟩]
    rfl
theorem reps_ints {F : Hp} : ∀ {ns : List Int} {vs : List V}, Reps ci F (ns.map D.int) vs → vs = ns.map V.int
  | [], vs, h => List.eq_nil_of_length_eq_zero (by rw [← h.1]; rfl)
  | b :: bs, [], h => by have := h.1; simp at this
  | b :: bs, v :: vs, h => by
    cases (show Rep ci F (.int b) v from h.2 0 _ _ rfl rfl)
    rw [reps_ints (ns := bs) (vs := vs) ⟨by have := h.1; simpa using this, fun i y w a b => h.2 (i + 1) y w (by simpa using a) (by simpa using b)⟩]
    rfl
theorem reps_strs {F : Hp} : ∀ {ns : List Str} {vs : List V}, Reps ci F (ns.map D.str) vs → vs = ns.map V.str
  | [], vs, h => List.eq_nil_of_length_eq_zero (by rw [← h.1]; rfl)
  | b :: bs, [], h => by have := h.1; simp at this
  | b :: bs, v :: vs, h => by
    cases (show Rep ci F (.str b) v from h.2 0 _ _ rfl rfl)
    rw [reps_strs (ns := bs) (vs := vs) ⟨by have := h.1; simpa using this, fun i y w a b => h.2 (i + 1) y w (by simpa using a) (by simpa using b)⟩]
    rfl
theorem cr_allK {X : Cx} (K : PySem.W.Frag) (hc : X.calm = true) (h : X.K = K) : CallR X (.builtin "all") (rAll K) := h ▸ cr_all hc
theorem cr_anyK {X : Cx} (K : PySem.W.Frag) (hc : X.calm = true) (h : X.K = K) : CallR X (.builtin "any") (rAny K) := h ▸ cr_any hc
theorem cr_sumK {X : Cx} (K : PySem.W.Frag) (hc : X.calm = true) (h : X.K = K) : CallR X (.builtin "sum") (rSum K) := h ▸ cr_sum hc
theorem de_all (K : PySem.W.Frag) (hc : ∀ i, (𝒳 i).calm = true) (hm : ∀ i, (𝒳 i).mg "all" = none) (ha : DE ci 𝒳 a ta) (hg : ∀ i, Gl (𝒳 i) "all" := by intro _; rfl) (hK : ∀ i, (𝒳 i).K = K := by intro _; rfl)
    (he : ∀ i, starEach [a] (𝒳 i).env = [(false, eval a (𝒳 i).env)] := by intro _; rfl) (hpl : ∀ i, (backTo pos (starEach [] (𝒳 i).env)).any (·.1) = false := by intro _; rfl) : DE ci 𝒳 (.Call (.Name "all" p) [a] [] pos) (dUna (allF fun bs => bs.all _root_.id) ta) := de_B1 (fun i => cr_allK K (hc i) (hK i)) (by
  intro b L F H x v R Q fr hx h q
  cases x with
  | lst xs =>
    obtain ⟨bs, rfl, k⟩ := h
    obtain ⟨a, vs, rfl, h1, h2⟩ := hx.lst fr.s1
    refine ⟨a, bs, rfl, SqL.of ?_, q.d fr (Rep.bl _) k⟩
    rw [← reps_bls h2]
    exact h1
  | _ => exact h.elim) hg hm (by decide +kernel) ha (he := he) (hpl := hpl)
theorem de_any (K : PySem.W.Frag) (hc : ∀ i, (𝒳 i).calm = true) (hm : ∀ i, (𝒳 i).mg "any" = none) (ha : DE ci 𝒳 a ta) (hg : ∀ i, Gl (𝒳 i) "any" := by intro _; rfl) (hK : ∀ i, (𝒳 i).K = K := by intro _; rfl)
    (he : ∀ i, starEach [a] (𝒳 i).env = [(false, eval a (𝒳 i).env)] := by intro _; rfl) (hpl : ∀ i, (backTo pos (starEach [] (𝒳 i).env)).any (·.1) = false := by intro _; rfl) : DE ci 𝒳 (.Call (.Name "any" p) [a] [] pos) (dUna (allF fun bs => bs.any _root_.id) ta) := de_B1 (fun i => cr_anyK K (hc i) (hK i)) (by
  intro b L F H x v R Q fr hx h q
  cases x with
  | lst xs =>
    obtain ⟨bs, rfl, k⟩ := h
    obtain ⟨a, vs, rfl, h1, h2⟩ := hx.lst fr.s1
    refine ⟨a, bs, rfl, SqL.of ?_, q.d fr (Rep.bl _) k⟩
    rw [← reps_bls h2]
    exact h1
  | _ => exact h.elim) hg hm (by decide +kernel) ha (he := he) (hpl := hpl)
def sumF : F1 := fun x R => match x with
  | .lst xs => ∃ ns : List Int, xs = ns.map D.int ∧ R (.d (.int ns.sum))
  | _ => False
theorem de_sum (K : PySem.W.Frag) (hc : ∀ i, (𝒳 i).calm = true) (hm : ∀ i, (𝒳 i).mg "sum" = none) (ha : DE ci 𝒳 a ta) (hg : ∀ i, Gl (𝒳 i) "sum" := by intro _; rfl) (hK : ∀ i, (𝒳 i).K = K := by intro _; rfl)
    (he : ∀ i, starEach [a] (𝒳 i).env = [(false, eval a (𝒳 i).env)] := by intro _; rfl) (hpl : ∀ i, (backTo pos (starEach [] (𝒳 i).env)).any (·.1) = false := by intro _; rfl) : DE ci 𝒳 (.Call (.Name "sum" p) [a] [] pos) (dUna sumF ta) := de_B1 (fun i => cr_sumK K (hc i) (hK i)) (by
  intro b L F H x v R Q fr hx h q
  cases x with
  | lst xs =>
    obtain ⟨ns, rfl, k⟩ := h
    obtain ⟨a, vs, rfl, h1, h2⟩ := hx.lst fr.s1
    refine ⟨a, ns, rfl, SqL.of ?_, q.d fr (Rep.int _) k⟩
    rw [← reps_ints h2]
    exact h1
  | _ => exact h.elim) hg hm (by decide +kernel) ha (he := he) (hpl := hpl)
/-- list(range(n)) -/
theorem reps_rng {F : Hp} (n : Nat) : Reps ci F (rngD 0 n) ((List.range n).map fun (i : Nat) => V.int (i : Int)) := by
  refine ⟨by simp [rngD], fun i x v h1 h2 => ?_⟩
  have hi : i < n := by
    have := (List.getElem?_eq_some_iff.mp h1).1
    rwa [rngD_len] at this
  rw [rngD_at hi] at h1
  rw [List.getElem?_map, List.getElem?_range hi] at h2
  cases h1; cases h2
  rw [Int.zero_add]
  exact .int _
end
end DL

/-! the data layer: statements -/
namespace DL
open PySem PySem.Spec PyProof.Rows L2 VL
structure DEnds where
  nx : List Sl → Prop
  rt : Sl → Prop
  bk : List Sl → Prop := fun _ => False
  ct : List Sl → Prop := fun _ => False
abbrev TDS := DEnds → List Sl → Prop
structure EOk (ci : CI) (b L : Addr) (F0 H0 F : Hp) (DD : DEnds) (E : Ends) : Prop where
  nx : ∀ ρ σ F' H, StRep ci b L F0 H0 ρ σ F' H → Same F F' → DD.nx ρ → E.nx σ H
  bk : ∀ ρ σ F' H, StRep ci b L F0 H0 ρ σ F' H → Same F F' → DD.bk ρ → E.bk σ H
  ct : ∀ ρ σ F' H, StRep ci b L F0 H0 ρ σ F' H → Same F F' → DD.ct ρ → E.ct σ H
  rt : Post ci b L F0 H0 DD.rt E.rt
theorem EOk.mono {ci : CI} {b L : Addr} {F0 H0 F F' : Hp} {DD : DEnds} {E : Ends} (s : Same F F') (h : EOk ci b L F0 H0 F DD E) : EOk ci b L F0 H0 F' DD E :=
  ⟨fun ρ σ G H S t => h.nx ρ σ G H S (s.trans t), fun ρ σ G H S t => h.bk ρ σ G H S (s.trans t), fun ρ σ G H S t => h.ct ρ σ G H S (s.trans t), h.rt⟩
structure DS (ci : CI) {ι : Type} (𝒳 : ι → Cx) (st : Stmt) (t : TDS) : Prop where
  ex : ∃ ts : TS, (∀ i, PS (𝒳 i) st ts) ∧ ∀ (b L : Addr) (F0 H0 : Hp) (ρ : List Sl) (σ : L2.St) (F H : Hp) (DD : DEnds) (E : Ends), StRep ci b L F0 H0 ρ σ F H → t DD ρ → EOk ci b L F0 H0 F DD E → ts E σ H
structure DSs (ci : CI) {ι : Type} (𝒳 : ι → Cx) (st : List Stmt) (t : TDS) : Prop where
  ex : ∃ ts : TS, (∀ i, PSs (𝒳 i) st ts) ∧ ∀ (b L : Addr) (F0 H0 : Hp) (ρ : List Sl) (σ : L2.St) (F H : Hp) (DD : DEnds) (E : Ends), StRep ci b L F0 H0 ρ σ F H → t DD ρ → EOk ci b L F0 H0 F DD E → ts E σ H
section
variable {ci : CI} {K : PySem.W.Frag} {ι : Type} {𝒳 : ι → Cx} {a c e : Expr} {ta tb tc : TD} {pos : Pos} {st : Stmt} {rest sts sts' : List Stmt} {t u : TDS} {tA : TDT}
def sNext : TDS := fun DD ρ => DD.nx ρ
def sSeq (t u : TDS) : TDS := fun DD ρ => t { DD with nx := u DD } ρ
theorem dss_nil : DSs ci 𝒳 [] sNext := ⟨tNext, fun _ => pss_nil, fun b L F0 H0 ρ σ F H DD E S h q => q.nx ρ σ F H S (Same.refl _) h⟩
theorem dss_cons (h1 : DS ci 𝒳 st t) (h2 : DSs ci 𝒳 rest u) : DSs ci 𝒳 (st :: rest) (sSeq t u) := by
  obtain ⟨t1, p1, q1⟩ := h1.ex
  obtain ⟨t2, p2, q2⟩ := h2.ex
  exact ⟨tSeq t1 t2, fun i => pss_cons (p1 i) (p2 i), fun b L F0 H0 ρ σ F H DD E S h q => q1 b L F0 H0 ρ σ F H _ _ S h ⟨fun ρ' σ' F' H' S' s k => q2 b L F0 H0 ρ' σ' F' H' DD E S' k (q.mono s), q.bk, q.ct, q.rt⟩⟩
theorem dss_one (h1 : DS ci 𝒳 st t) : DSs ci 𝒳 [st] t := let ⟨t1, p1, q1⟩ := h1.ex; ⟨t1, fun i => pss_one (p1 i), q1⟩
/-- a list of one's own becomes data, ahead of a block -/
theorem dss_frz (k : Nat) (h : DSs ci 𝒳 sts t) : DSs ci 𝒳 sts (fun DD ρ => t DD (frz k ρ)) := by
  obtain ⟨t1, p1, q1⟩ := h.ex
  refine ⟨t1, p1, fun b L F0 H0 ρ σ F H DD E S h q => ?_⟩
  obtain ⟨F', s, S'⟩ := S.frz k
  exact q1 b L F0 H0 _ σ F' H DD E S' h (q.mono s)
/-- a slot is forgotten, ahead of a block -/
theorem dss_forget (k : Nat) (h : DSs ci 𝒳 sts t) : DSs ci 𝒳 sts (fun DD ρ => t DD (ρ.set k .no)) := by
  obtain ⟨t1, p1, q1⟩ := h.ex
  exact ⟨t1, p1, fun b L F0 H0 ρ σ F H DD E S h q => q1 b L F0 H0 _ σ F H DD E (S.forget k) h q⟩
def sBreak : TDS := fun DD ρ => DD.bk ρ
def sCont : TDS := fun DD ρ => DD.ct ρ
theorem ds_pass : DS ci 𝒳 (.Pass pos) sNext := ⟨tNext, fun _ => ps_pass, fun b L F0 H0 ρ σ F H DD E S h q => q.nx ρ σ F H S (Same.refl _) h⟩
theorem ds_break : DS ci 𝒳 (.Break pos) sBreak := ⟨tBreak, fun _ => ps_break, fun b L F0 H0 ρ σ F H DD E S h q => q.bk ρ σ F H S (Same.refl _) h⟩
theorem ds_continue : DS ci 𝒳 (.Continue pos) sCont := ⟨tCont, fun _ => ps_continue, fun b L F0 H0 ρ σ F H DD E S h q => q.ct ρ σ F H S (Same.refl _) h⟩
def sNever : TDS := fun _ _ => False
theorem ds_never : DS ci 𝒳 st sNever := ⟨tNever, fun _ => ps_never, fun b L F0 H0 ρ σ F H DD E S h q => h.elim⟩
theorem dss_never : DSs ci 𝒳 sts sNever := ⟨tNever, fun _ => pss_never, fun b L F0 H0 ρ σ F H DD E S h q => h.elim⟩
/-- what a slot may hold -/
def keepR (r : Sl) (k : Sl → Prop) : Prop := match r with
  | .d x => k (.d x)
  | .m xs => k (.m xs)
  | .box => k .box
  | _ => False
theorem keepR_of {r : Sl} {k : Sl → Prop} (h : keepR r k) : k r ∧ ∀ xs, r ≠ .v xs := by
  cases r with
  | d x => exact ⟨h, fun _ z => nomatch z⟩
  | m x => exact ⟨h, fun _ z => nomatch z⟩
  | box => exact ⟨h, fun _ z => nomatch z⟩
  | _ => exact h.elim
def sSet (k : Nat) (te : TD) : TDS := fun DD ρ => te ρ fun r => keepR r fun r => DD.nx (ρ.set k r)
theorem set_sound {te : TE} (k : Nat)
    (h1 : ∀ (b L : Addr) (F0 H0 : Hp) (ρ : List Sl) (σ : L2.St) (F H : Hp) (R : Sl → Prop) (Q : VK), StRep ci b L F0 H0 ρ σ F H → ta ρ R → Post ci b L F H R Q → te σ H Q)
    (b L : Addr) (F0 H0 : Hp) (ρ : List Sl) (σ : L2.St) (F H : Hp) (DD : DEnds) (E : Ends) (S : StRep ci b L F0 H0 ρ σ F H) (h : sSet k ta DD ρ) (q : EOk ci b L F0 H0 F DD E) : tAsg te (gName k) E σ H := by
  refine h1 b L F0 H0 ρ σ F H _ _ S h fun v H1 F1 r x1 rep fr k1 => ?_
  obtain ⟨k1, nv⟩ := keepR_of k1
  show E.nx (σ.set k (some v)) H1
  by_cases hk : k < σ.length
  · exact q.nx _ _ F1 H1 (S.put x1 hk rep fr nv) x1.ff k1
  · have e1 : σ.set k (some v) = σ := List.set_eq_of_length_le (by omega)
    have e2 : ρ.set k r = ρ := List.set_eq_of_length_le (by rw [S.len]; omega)
    rw [e1]
    rw [e2] at k1
    exact q.nx _ _ F1 H1 (S.go x1) x1.ff k1
theorem ds_set (k : Nat) {x : Str} {pos' : Pos} (hN : ∀ i, (𝒳 i).N.Nodup) (ha : DE ci 𝒳 a ta) (hi : ∀ i, (𝒳 i).N[k]? = some x := by intro _; rfl) (hx : ∀ i, Loc (𝒳 i).env.scope x := by intro _; first | exact Or.inl rfl | exact Or.inr rfl)
    (hs : ∀ i, swapsWith a (some (.Name x pos')) pos.line (𝒳 i).env = pure false := by intro _; rfl) (hf : ∀ i, (𝒳 i).fn x = true ∨ (𝒳 i).env.scope.names.lookup x = some .local := by intro _; first | exact .inl rfl | exact .inr rfl) : DS ci 𝒳 (.Assign [.Name x pos'] a pos) (sSet k ta) := by
  obtain ⟨t1, p1, h1⟩ := ha.ex
  exact ⟨tAsg t1 (gName k), fun i => ps_set (hN i) (hi i) (hx i) (p1 i) (hs i) (hf i), set_sound k h1⟩
/-- name = [..] on one line -/
theorem ds_setLc (k : Nat) {elt tg iter : Expr} {ifs : List Expr} {scope : Scope} {own : List (Str × Nat)} {ti : TDD} {gd : TDG} {tcd : TDT} {ted : TD} {ws : List Nat} {y : Str} {py spos : Pos} (hc : ∀ i, (𝒳 i).calm = true) (hN : ∀ i, (𝒳 i).N.Nodup) (hi : DI ci true 𝒳 tg iter ti) (ok : ∀ i, BlkOk (𝒳 i).N (𝒳 i).env.scope scope own) (hg : DG ci (blkX 𝒳 scope) tg ws gd) (ht : DTs ci (blkX 𝒳 scope) ifs tcd) (he : DE ci (blkX 𝒳 scope) elt ted)
    (hy : ∀ i, (𝒳 i).N[k]? = some y := by intro _; rfl) (hyl : ∀ i, (𝒳 i).env.scope.names.lookup y = some .local := by intro _; rfl)
    (hsw : ∀ i, swapsWith (.ListComp elt [⟨tg, iter, ifs, 0⟩] scope pos) (some (.Name y py)) spos.line (𝒳 i).env = pure true := by exact fun _ => sw_true rfl rfl rfl (by decide +kernel))
    (hws : ∀ i ∈ ws, i ∈ own.map (·.2) := by decide) (hs : ∀ i x, foldedSetIterable iter (𝒳 i).env x = pure x := by intro _ _; rfl) : DS ci 𝒳 (.Assign [.Name y py] (.ListComp elt [⟨tg, iter, ifs, 0⟩] scope pos) spos) (sSet k (dLc ti gd tcd ted (own.map (·.2)))) := by
  obtain ⟨wi, p1, h1⟩ := hi.ex
  obtain ⟨g, p2, h2⟩ := hg.ex
  obtain ⟨tt, p3, h3⟩ := ht.ex
  obtain ⟨te, p4, h4⟩ := he.ex
  exact ⟨_, fun i => ps_setLc (hc i) (hN i) (hy i) (hyl i) (hsw i) (p1 i) (ok i) (fun s H C cl fp => p2 ⟨i, s, H, C, cl, fp⟩) (fun s H C cl fp => p3 ⟨i, s, H, C, cl, fp⟩) (fun s H C cl fp => p4 ⟨i, s, H, C, cl, fp⟩) (hs i),
    set_sound k (lc_sound hws h1 h2 h3 h4)⟩
/-- a, b = e -/
def sUnp (te : TD) (g : TDG) : TDS := fun DD ρ => te ρ fun r => withD r fun x => g x ρ DD.nx
theorem ds_unp {tg : Expr} {g : TDG} {vs : List Nat} (ha : DE ci 𝒳 a ta) (hg : DG ci 𝒳 tg vs g) (hs : ∀ i, swapsWithSole [tg] a pos.line (𝒳 i).env = pure false := by intro _; rfl) (hw : ∀ i, swappedStores [tg] a (𝒳 i).env = pure none := by intro _; rfl)
    (hh : ∀ i, (assignEach [tg] (𝒳 i).env).map (·.2) = [assign tg (𝒳 i).env] := by intro _; rfl) : DS ci 𝒳 (.Assign [tg] a pos) (sUnp ta g) := by
  obtain ⟨t1, p1, h1⟩ := ha.ex
  obtain ⟨t2, p2, h2⟩ := hg.ex
  refine ⟨tAsg t1 t2, fun i => ps_asg (p1 i) (p2 i) (hs i) (hw i) (hh i), fun b L F0 H0 ρ σ F H DD E S h q => ?_⟩
  refine h1 b L F0 H0 ρ σ F H _ _ S h fun v H1 F1 r x1 rep fr k1 => ?_
  obtain ⟨x, F2, x2, _, rx, k1⟩ := withD_of x1 rep fr k1
  exact h2 b L F0 H0 ρ σ F2 H1 x v _ _ (S.go x2) rx k1 fun ρ' σ' S' _ k2 => q.nx ρ' σ' F2 H1 S' x2.ff k2
def sRet (te : TD) : TDS := fun DD ρ => te ρ fun r => keepR r DD.rt
theorem ds_ret (ha : DE ci 𝒳 a ta) : DS ci 𝒳 (.Return (some a) pos) (sRet ta) := by
  obtain ⟨t1, p1, h1⟩ := ha.ex
  refine ⟨tRet t1, fun i => ps_ret (p1 i), fun b L F0 H0 ρ σ F H DD E S h q => ?_⟩
  refine h1 b L F0 H0 ρ σ F H _ _ S h fun v H1 F1 r x1 rep fr k1 => ?_
  exact q.rt v H1 F1 r (S.fr.trans x1) rep (fr.fr S.fr) (keepR_of k1).1
/-- return x, x a list of one's own -/
def sRetM (k : Nat) : TDS := fun DD ρ => match ρ[k]? with
  | some (.m xs) => DD.rt (.m xs)
  | some (.d x) => DD.rt (.d x)
  | _ => False
theorem ds_retM (k : Nat) {x : Str} {p : Pos} (hN : ∀ i, (𝒳 i).N[k]? = some x := by intro _; rfl) (hv : ∀ i, Vis (𝒳 i).env.scope x := by intro _; first | exact Or.inl rfl | exact Or.inr (Or.inl rfl) | exact Or.inr (Or.inr rfl)) (hd : (x == ("__debug__" : Str)) = false := by decide)
    (hcd : (x == ("__classdict__" : Str)) = false := by decide) : DS ci 𝒳 (.Return (some (.Name x p)) pos) (sRetM k) := by
  refine ⟨tRet (tVar k), fun i => ps_ret (pe_var (hN i) (hv i) hd hcd), fun b L F0 H0 ρ σ F H DD E S h q => ?_⟩
  unfold sRetM at h
  split at h
  · rename_i xs e
    obtain ⟨v, h1, h2⟩ := S.sl k _ e (fun z => nomatch z)
    refine ⟨v, h1, q.rt v H F (.m xs) S.fr h2 (fun ys z e1 e2 => ?_) h⟩
    subst e2
    exact S.ow k xs z e h1
  · rename_i xs e
    obtain ⟨v, h1, h2⟩ := S.sl k _ e (fun z => nomatch z)
    exact ⟨v, h1, q.rt v H F (.d xs) S.fr h2 Fresh.d h⟩
  · exact h.elim
def sRetN : TDS := fun DD _ => DD.rt (.d .non)
theorem ds_retN : DS ci 𝒳 (.Return none pos) sRetN := ⟨tRetN, fun _ => ps_retN, fun b L F0 H0 ρ σ F H DD E S h q => q.rt _ _ F (.d .non) S.fr Rep.non Fresh.d h⟩
def sDrop (te : TD) : TDS := fun DD ρ => te ρ fun _ => DD.nx ρ
theorem ds_expr (ha : DE ci 𝒳 a ta) (hs : ∀ i, swapsWith a none pos.line (𝒳 i).env = pure false := by intro _; rfl) : DS ci 𝒳 (.Expr a pos) (sDrop ta) := by
  obtain ⟨t1, p1, h1⟩ := ha.ex
  refine ⟨tDrop t1, fun i => ps_expr (p1 i) (hs i), fun b L F0 H0 ρ σ F H DD E S h q => ?_⟩
  exact h1 b L F0 H0 ρ σ F H _ _ S h fun v H1 F1 r x1 rep fr k1 => q.nx ρ σ F1 H1 (S.go x1) x1.ff k1
def sIf (c : TDT) (t u : TDS) : TDS := fun DD ρ => c ρ fun k => if k = true then t DD ρ else u DD ρ
theorem ds_if (hc : DT ci 𝒳 c tA) (h1 : DSs ci 𝒳 sts t) (h2 : DSs ci 𝒳 sts' u) : DS ci 𝒳 (.If c sts sts' pos) (sIf tA t u) := by
  obtain ⟨t0, p0, q0⟩ := hc.ex
  obtain ⟨t1, p1, q1⟩ := h1.ex
  obtain ⟨t2, p2, q2⟩ := h2.ex
  refine ⟨tIfS t0 t1 t2, fun i => ps_if (p0 i) (p1 i) (p2 i), fun b L F0 H0 ρ σ F H DD E S h q => ?_⟩
  refine q0 b L F0 H0 ρ σ F H _ _ S h fun k H1 F1 x1 k1 => ?_
  cases k with
  | true =>
    rw [if_pos rfl] at k1
    exact iteT (q1 b L F0 H0 ρ σ F1 H1 DD E (S.go x1) k1 (q.mono x1.ff))
  | false =>
    rw [if_neg Bool.false_ne_true] at k1
    exact iteF (q2 b L F0 H0 ρ σ F1 H1 DD E (S.go x1) k1 (q.mono x1.ff))
/-- a statement, then what follows, told once for all ways that come there -/
def sCut (t u : TDS) : TDS := fun DD ρ => ∃ Mid : List Sl → Prop, t { DD with nx := Mid } ρ ∧ ∀ ρ', Mid ρ' → u DD ρ'
theorem dss_cut (h1 : DS ci 𝒳 st t) (h2 : DSs ci 𝒳 rest u) : DSs ci 𝒳 (st :: rest) (sCut t u) := by
  obtain ⟨t1, p1, q1⟩ := h1.ex
  obtain ⟨t2, p2, q2⟩ := h2.ex
  refine ⟨tSeq t1 t2, fun i => pss_cons (p1 i) (p2 i), fun b L F0 H0 ρ σ F H DD E S h q => ?_⟩
  obtain ⟨Mid, h, hm⟩ := h
  exact q1 b L F0 H0 ρ σ F H _ _ S h ⟨fun ρ' σ' F' H' S' s k => q2 b L F0 H0 ρ' σ' F' H' DD E S' (hm ρ' k) (q.mono s), q.bk, q.ct, q.rt⟩
/-! ### for -/
def sFor (ti : TDD) (g : TDG) (tb : TDS) : TDS := fun DD ρ => ti ρ fun xs => ∃ I : Nat → List Sl → Prop, I 0 ρ ∧ (∀ i x ρ, xs[i]? = some x → I i ρ → g x ρ fun ρ' => tb { nx := I (i + 1), ct := I (i + 1), bk := DD.nx, rt := DD.rt } ρ') ∧ ∀ ρ, I xs.length ρ → DD.nx ρ
theorem ds_for {tg iter : Expr} {ti : TDD} {g : TDG} {vs : List Nat} {tb : TDS} (hp : ∀ i, PassesOwn (model (𝒳 i).prog (𝒳 i).w) (𝒳 i).A (𝒳 i).env (𝒳 i).xe) (hc : ∀ i, (𝒳 i).calm = true) (hi : DI ci false 𝒳 tg iter ti) (hg : DG ci 𝒳 tg vs g) (hb : DSs ci 𝒳 sts tb)
    (hs : ∀ i x, foldedSetIterable iter (𝒳 i).env x = pure x := by intro _ _; rfl) : DS ci 𝒳 (.For tg iter sts [] pos) (sFor ti g tb) := by
  obtain ⟨wi, p1, h1⟩ := hi.ex
  obtain ⟨gg, p2, h2⟩ := hg.ex
  obtain ⟨tt, p3, h3⟩ := hb.ex
  refine ⟨tFor wi gg tt, fun i => ps_for (hp i) (hc i) (p1 i) (p2 i) (p3 i) (hs i), fun b L F0 H0 ρ σ F H DD E S h q => ?_⟩
  refine h1 b L F0 H0 ρ σ F H _ _ S h fun J H1 F1 xs G x1 wk stab k => ?_
  obtain ⟨I, k0, kt, kd⟩ := k
  refine ⟨fun i m σ H => m + i = xs.length ∧ ∃ ρ F2, StRep ci b L F0 H0 ρ σ F2 H ∧ Same F1 F2 ∧ I i ρ, ⟨xs.length, rfl, ρ, F1, S.go x1, Same.refl _, k0⟩, ?_⟩
  rintro i m σ2 H2 ⟨em, ρ2, F2, S2, s2, kk⟩
  have gG := stab F2 H2 S2.fr s2 (fun z => nomatch z)
  by_cases hi : i < xs.length
  · refine .inr ⟨wk.goes i H2 hi gG, fun σ H => ∃ ρ F2, StRep ci b L F0 H0 ρ σ F2 H ∧ Same F1 F2 ∧ I (i + 1) ρ, fun σ' H' p => ⟨m - 1, by omega, by omega, p⟩, fun v H3 y => ?_⟩
    obtain ⟨F3, x, x3, ex, rx⟩ := wk.yields i F2 H2 v H3 hi gG s2 S2.fr.s1 S2.fr.b1 y
    refine h2 b L F0 H0 ρ2 σ2 F3 H3 x v _ _ (S2.go x3) rx (kt i x ρ2 ex kk) fun ρ4 σ4 S4 _ k4 => ?_
    have s3 := s2.trans x3.ff
    refine h3 b L F0 H0 ρ4 σ4 F3 H3 _ _ S4 k4 ⟨fun ρ5 σ5 F5 H5 S5 s5 k5 => ⟨ρ5, F5, S5, s3.trans s5, k5⟩, fun ρ5 σ5 F5 H5 S5 s5 k5 => q.nx ρ5 σ5 F5 H5 S5 (x1.ff.trans (s3.trans s5)) k5, fun ρ5 σ5 F5 H5 S5 s5 k5 => ⟨ρ5, F5, S5, s3.trans s5, k5⟩, q.rt⟩
  · have e : i = xs.length := by omega
    subst e
    exact .inl ⟨wk.stops H2 gG, q.nx ρ2 σ2 F2 H2 S2 (x1.ff.trans s2) (kd ρ2 kk)⟩
/-! ### comprehensions, by what each item gives -/
theorem compW_map {g : TDG} {te : TD} {ρ : List Sl} (P : D → D → Prop) : ∀ {xs : List D} {Q : List D → Prop}, (∀ x ∈ xs, ∀ k : D → Prop, (∀ y, P x y → k y) → g x ρ fun ρ' => te ρ' fun r => withD r k) → (∀ ys, Paired P xs ys → Q ys) → compW g dYes te ρ xs Q
  | [], Q, _, q => q [] .nil
  | x :: xs, Q, h, q => by
    unfold compW dYes
    simp only [if_true]
    exact h x List.mem_cons_self _ fun y p => compW_map P (xs := xs) (fun z hz => h z (List.mem_cons_of_mem _ hz)) fun ys hp => q _ (.cons p hp)
/-- .. each item gives f of it -/
theorem compW_fn {g : TDG} {te : TD} {ρ : List Sl} (f : D → D) {xs : List D} {Q : List D → Prop} (h : ∀ x ∈ xs, ∀ k : D → Prop, k (f x) → g x ρ fun ρ' => te ρ' fun r => withD r k) (q : Q (xs.map f)) : compW g dYes te ρ xs Q := by
  refine compW_map (fun x y => y = f x) (fun x hx k hk => h x hx k (hk _ rfl)) fun ys hp => ?_
  have e : ys = xs.map f := by
    clear h q
    induction hp with
    | nil => rfl
    | cons h t ih => rw [h, ih]; rfl
  rw [e]
  exact q
theorem compW_filter {g : TDG} {tc : TDT} {te : TD} {ρ : List Sl} (p : D → Bool) (f : D → D) : ∀ {xs : List D} {Q : List D → Prop}, (∀ x ∈ xs, ∀ (k : D → Prop) (k0 : Prop), (p x = true → k (f x)) → (p x = false → k0) → g x ρ fun ρ' => tc ρ' fun b => if b = true then te ρ' fun r => withD r k else k0) → Q ((xs.filter p).map f) → compW g tc te ρ xs Q
  | [], Q, _, q => q
  | x :: xs, Q, h, q => by
    refine h x List.mem_cons_self _ _ (fun e => compW_filter p f (xs := xs) (fun z hz => h z (List.mem_cons_of_mem _ hz)) ?_) (fun e => compW_filter p f (xs := xs) (fun z hz => h z (List.mem_cons_of_mem _ hz)) ?_)
    · rw [List.filter_cons_of_pos (by exact e)] at q
      exact q
    · rw [List.filter_cons_of_neg (by rw [e]; exact Bool.false_ne_true)] at q
      exact q
/-! ### a list of one's own, changed -/
theorem StRep.cell {b L : Addr} {F0 H0 F H : Hp} {ρ : List Sl} {σ : L2.St} {k : Nat} {xs : List D} (S : StRep ci b L F0 H0 ρ σ F H) (h : ρ[k]? = some (.m xs)) : ∃ p vs, σ[k]? = some (some (.ref p)) ∧ H p = some (.lst vs) ∧ Reps ci F xs vs := by
  obtain ⟨v, h1, p, vs, rfl, h3, h4, _⟩ := S.sl k _ h (fun z => nomatch z)
  exact ⟨p, vs, h1, h3, h4⟩
def sApp (k : Nat) (te : TD) : TDS := fun DD ρ => te ρ fun r => withD r fun y => ∃ xs, ρ[k]? = some (.m xs) ∧ xs.length ≤ 1000000 ∧ DD.nx (ρ.set k (.m (xs ++ [y])))
/-- the cell is there ahead of the argument -/
def isM (k : Nat) (ρ : List Sl) : Prop := match ρ[k]? with
  | some (.m _) => True
  | _ => False
theorem isM_of {k : Nat} {ρ : List Sl} (h : isM k ρ) : ∃ xs, ρ[k]? = some (.m xs) := by
  unfold isM at h
  split at h
  · exact ⟨_, by assumption⟩
  · exact h.elim
variable {x : Str} {p apos cpos : Pos}
theorem ds_append (K : PySem.W.Frag) (k : Nat) (ha : DE ci 𝒳 a ta) (hN : ∀ i, (𝒳 i).N[k]? = some x := by intro _; rfl) (hv : ∀ i, Vis (𝒳 i).env.scope x := by intro _; first | exact Or.inl rfl | exact Or.inr (Or.inl rfl) | exact Or.inr (Or.inr rfl)) (hK : ∀ i, (𝒳 i).K = K := by intro _; rfl)
    (hs : ∀ i, swapsWith (.Call (.Attribute (.Name x p) "append" apos) [a] [] cpos) none pos.line (𝒳 i).env = pure false := by intro _; rfl)
    (hbase : ∀ i, attributeBase (.Name x p) "append" (𝒳 i).env (eval (.Name x p) (𝒳 i).env) = eval (.Name x p) (𝒳 i).env := by intro _; rfl)
    (hfew : ∀ i, ((backTo cpos (starEach [a] (𝒳 i).env)).all (fun x => !x.1) && (backToKw cpos (keywordEach [] (𝒳 i).env)).all (fun x => x.1.isSome)
      && decide (([a] : List Expr).length + ([] : List Keyword).length + (if ([] : List Keyword).isEmpty then 0 else 1) < 30)) = true := by intro _; rfl)
    (hline : (apos.endLine == cpos.line) = true := by rfl) (hst : ∀ i, starEach [a] (𝒳 i).env = [(false, eval a (𝒳 i).env)] := by intro _; rfl) (hplain : ∀ i, (backTo cpos (starEach [] (𝒳 i).env)).any (·.1) = false := by intro _; rfl)
    (hd : (x == ("__debug__" : Str)) = false := by decide) (hcd : (x == ("__classdict__" : Str)) = false := by decide) :
    DS ci 𝒳 (.Expr (.Call (.Attribute (.Name x p) "append" apos) [a] [] cpos) pos) (fun DD ρ => isM k ρ ∧ sApp k ta DD ρ) := by
  obtain ⟨t1, p1, h1⟩ := ha.ex
  refine ⟨tDrop (tBM K "list" rAppend (tVar k) (tCons t1 tNil)), fun i => ps_expr (by rw [← hK i]; exact pe_bm PySem.F.plainAttrs_list PySem.F.slot_list_append PySem.F.type_list_append mt_append (pe_var (hN i) (hv i) hd hcd) (pa_cons (p1 i) pa_nil (hst i)) (hbase i) (hfew i) hline (hst i) (hplain i)) (hs i), fun b L F0 H0 ρ σ F H DD E S h q => ?_⟩
  obtain ⟨hm, h⟩ := h
  obtain ⟨xs0, e0⟩ := isM_of hm
  obtain ⟨l, vs0, es, eH, _⟩ := S.cell e0
  refine ⟨.ref l, es, .inl ⟨rfl, vs0, SqL.of eH⟩, ?_⟩
  refine h1 b L F0 H0 ρ σ F H _ _ S h fun v H1 F1 r x1 rep fr k1 => ?_
  obtain ⟨y, F2, x2, _, ry, xs, ek, lx, k1⟩ := withD_of x1 rep fr k1
  have S2 := S.go x2
  obtain ⟨l2, vs, es2, eH2, rv⟩ := S2.cell ek
  rw [es] at es2
  cases es2
  exact ⟨l, vs, v, rfl, rfl, eH2, by rw [← rv.1]; exact slenlt lx, q.nx _ _ F2 _ (S2.mut ek es (rv.snoc ry)) x2.ff k1⟩
/-- y = x.pop(i) -/
def sPop (j k : Nat) (te : TD) : TDS := fun DD ρ => te ρ fun r => withV r fun z => ∃ i xs n y, z = .int i ∧ ρ[k]? = some (.m xs) ∧ -(2 ^ 63) ≤ i ∧ i < 2 ^ 63 ∧ seqIndex? i xs.length = some n ∧ xs[n]? = some y ∧ DD.nx ((ρ.set k (.m (xs.eraseIdx n))).set j (.d y))
theorem ds_setpop (K : PySem.W.Frag) (j k : Nat) {yn : Str} {yp : Pos} (hNd : ∀ i, (𝒳 i).N.Nodup) (ha : DE ci 𝒳 a ta) (hj : ∀ i, (𝒳 i).N[j]? = some yn := by intro _; rfl) (hjl : ∀ i, Loc (𝒳 i).env.scope yn := by intro _; first | exact Or.inl rfl | exact Or.inr rfl)
    (hN : ∀ i, (𝒳 i).N[k]? = some x := by intro _; rfl) (hv : ∀ i, Vis (𝒳 i).env.scope x := by intro _; first | exact Or.inl rfl | exact Or.inr (Or.inl rfl) | exact Or.inr (Or.inr rfl)) (hK : ∀ i, (𝒳 i).K = K := by intro _; rfl)
    (hs : ∀ i, swapsWith (.Call (.Attribute (.Name x p) "pop" apos) [a] [] cpos) (some (.Name yn yp)) pos.line (𝒳 i).env = pure false := by intro _; rfl) (hf : ∀ i, (𝒳 i).fn yn = true ∨ (𝒳 i).env.scope.names.lookup yn = some .local := by intro _; first | exact .inl rfl | exact .inr rfl)
    (hbase : ∀ i, attributeBase (.Name x p) "pop" (𝒳 i).env (eval (.Name x p) (𝒳 i).env) = eval (.Name x p) (𝒳 i).env := by intro _; rfl)
    (hfew : ∀ i, ((backTo cpos (starEach [a] (𝒳 i).env)).all (fun x => !x.1) && (backToKw cpos (keywordEach [] (𝒳 i).env)).all (fun x => x.1.isSome)
      && decide (([a] : List Expr).length + ([] : List Keyword).length + (if ([] : List Keyword).isEmpty then 0 else 1) < 30)) = true := by intro _; rfl)
    (hline : (apos.endLine == cpos.line) = true := by rfl) (hst : ∀ i, starEach [a] (𝒳 i).env = [(false, eval a (𝒳 i).env)] := by intro _; rfl) (hplain : ∀ i, (backTo cpos (starEach [] (𝒳 i).env)).any (·.1) = false := by intro _; rfl)
    (hd : (x == ("__debug__" : Str)) = false := by decide) (hcd : (x == ("__classdict__" : Str)) = false := by decide) :
    DS ci 𝒳 (.Assign [.Name yn yp] (.Call (.Attribute (.Name x p) "pop" apos) [a] [] cpos) pos) (fun DD ρ => isM k ρ ∧ sPop j k ta DD ρ) := by
  obtain ⟨t1, p1, h1⟩ := ha.ex
  refine ⟨tAsg (tBM K "list" rPopAt (tVar k) (tCons t1 tNil)) (gName j), fun i => ps_set (hNd i) (hj i) (hjl i) (by rw [← hK i]; exact pe_bm PySem.F.plainAttrs_list PySem.F.slot_list_pop PySem.F.type_list_pop mt_popAt (pe_var (hN i) (hv i) hd hcd) (pa_cons (p1 i) pa_nil (hst i)) (hbase i) (hfew i) hline (hst i) (hplain i)) (hs i) (hf i), fun b L F0 H0 ρ σ F H DD E S h q => ?_⟩
  obtain ⟨hm, h⟩ := h
  obtain ⟨xs0, e0⟩ := isM_of hm
  obtain ⟨l, vs0, es, eH, _⟩ := S.cell e0
  refine ⟨.ref l, es, .inl ⟨rfl, vs0, SqL.of eH⟩, ?_⟩
  refine h1 b L F0 H0 ρ σ F H _ _ S h fun v H1 F1 r x1 rep fr k1 => ?_
  obtain ⟨z, rz, i, xs, n, y, rfl, ek, i1, i2, hn, hy, k1⟩ := withV_of rep k1
  have S2 := S.go x1
  obtain ⟨l2, vs, es2, eH2, rv⟩ := S2.cell ek
  rw [es] at es2
  cases es2
  obtain ⟨w, hw, rw'⟩ := rv.get hy
  have S3 := S2.mut ek es (rv.erase n)
  refine ⟨l, vs, i, n, w, rfl, by rw [rz.int], eH2, i1, i2, by rw [← rv.1]; exact hn, hw, ?_⟩
  show E.nx (σ.set j (some w)) _
  by_cases hjl : j < σ.length
  · exact q.nx _ _ F1 _ (S3.set hjl (r := .d y) rw' Fresh.d (fun _ z => nomatch z) (fun _ _ z => nomatch z)) x1.ff k1
  · have e1 : σ.set j (some w) = σ := List.set_eq_of_length_le (by omega)
    have e2 : (ρ.set k (.m (xs.eraseIdx n))).set j (.d y) = ρ.set k (.m (xs.eraseIdx n)) := List.set_eq_of_length_le (by rw [S3.len]; omega)
    rw [e1]
    rw [e2] at k1
    exact q.nx _ _ F1 _ S3 x1.ff k1
/-- x[i] = e -/
def sItem (k : Nat) (te ti : TD) : TDS := fun DD ρ => te ρ fun r => withD r fun y => ti ρ fun r2 => withV r2 fun z => ∃ i xs n, z = .int i ∧ ρ[k]? = some (.m xs) ∧ ixN xs.length i = some n ∧ DD.nx (ρ.set k (.m (xs.set n y)))
theorem ds_setitem (k : Nat) (ha : DE ci 𝒳 a ta) (hi : DE ci 𝒳 c tb) (hN : ∀ i, (𝒳 i).N[k]? = some x := by intro _; rfl) (hv : ∀ i, Vis (𝒳 i).env.scope x := by intro _; first | exact Or.inl rfl | exact Or.inr (Or.inl rfl) | exact Or.inr (Or.inr rfl))
    (hs : ∀ i, swapsWithSole [.Subscript (.Name x p) c apos] a pos.line (𝒳 i).env = pure false := by intro _; rfl) (hw : ∀ i, swappedStores [.Subscript (.Name x p) c apos] a (𝒳 i).env = pure none := by intro _; rfl)
    (hh : ∀ i, (assignEach [.Subscript (.Name x p) c apos] (𝒳 i).env).map (·.2) = [assign (.Subscript (.Name x p) c apos) (𝒳 i).env] := by intro _; rfl)
    (hg : ∀ i v, assign (.Subscript (.Name x p) c apos) (𝒳 i).env v = (do
      let ov ← holding [v] (eval (.Name x p) (𝒳 i).env)
      let iv ← holding [v, ov] (eval c (𝒳 i).env)
      standAt apos
      holding [v, ov, iv] (setItem ov iv v)
      release [v, ov, iv] []) := by intro _ _; rfl) (hd : (x == ("__debug__" : Str)) = false := by decide) (hcd : (x == ("__classdict__" : Str)) = false := by decide) :
    DS ci 𝒳 (.Assign [.Subscript (.Name x p) c apos] a pos) (fun DD ρ => isM k ρ ∧ sItem k ta tb DD ρ) := by
  obtain ⟨t1, p1, h1⟩ := ha.ex
  obtain ⟨t2, p2, h2⟩ := hi.ex
  refine ⟨tAsg t1 (gSub (tVar k) t2 rSetL), fun i => ps_asg (p1 i) (pg_sub (pe_var (hN i) (hv i) hd hcd) (p2 i) set_list (hg i)) (hs i) (hw i) (hh i), fun b L F0 H0 ρ σ F H DD E S h q => ?_⟩
  obtain ⟨hm, h⟩ := h
  obtain ⟨xs0, e0⟩ := isM_of hm
  obtain ⟨l, vs0, es, _, _⟩ := S.cell e0
  refine h1 b L F0 H0 ρ σ F H _ _ S h fun v H1 F1 r x1 rep fr k1 => ?_
  obtain ⟨y, F2, x2, _, ry, k1⟩ := withD_of x1 rep fr k1
  have S2 := S.go x2
  refine ⟨.ref l, es, ?_⟩
  refine h2 b L F0 H0 ρ σ F2 H1 _ _ S2 k1 fun u H3 F3 r3 x3 rep3 _ k3 => ?_
  obtain ⟨z, rz, i, xs, n, rfl, ek, hn, k3⟩ := withV_of rep3 k3
  have S3 := S2.go x3
  obtain ⟨l2, vs, es2, eH, rv⟩ := S3.cell ek
  rw [es] at es2
  cases es2
  exact ⟨l, vs, i, n, rfl, by rw [rz.int], eH, by rw [← rv.1]; exact hn, q.nx _ _ F3 _ (S3.mut ek es (rv.set n (ry.mono x3.ff))) (x2.ff.trans x3.ff) k3⟩
/-! ### list(range(n)) -/
theorem de_listRg {p pos2 p2 : Pos} (hc : ∀ i, (𝒳 i).calm = true) (hm : ∀ i, (𝒳 i).mg "list" = none) (hm2 : ∀ i, (𝒳 i).mg "range" = none) (ha : DE ci 𝒳 a ta) (hg : ∀ i, Gl (𝒳 i) "list" := by intro _; rfl) (hg2 : ∀ i, Gl (𝒳 i) "range" := by intro _; rfl)
    (na : ∀ i, starEach [a] (𝒳 i).env = (false, eval a (𝒳 i).env) :: starEach [] (𝒳 i).env := by intro _; rfl) (nb : ∀ i, starEach [.Call (.Name "range" p2) [a] [] pos2] (𝒳 i).env = (false, eval (.Call (.Name "range" p2) [a] [] pos2) (𝒳 i).env) :: starEach [] (𝒳 i).env := by intro _; rfl) :
    DE ci 𝒳 (.Call (.Name "list" p) [.Call (.Name "range" p2) [a] [] pos2] [] pos) (fun ρ R => ta ρ fun r => withV r fun x => ∃ n : Nat, x = .int n ∧ n ≤ 1000000 ∧ R (.m (rngD 0 n))) := by
  obtain ⟨t1, p1, h1⟩ := ha.ex
  refine ⟨tLstRg (tRg1 t1), fun i => pe_listRg (hc i) (hg i) (hm i) (prg_1 (hg2 i) (hm2 i) (p1 i) (na i)) (nb i), fun b L F0 H0 ρ σ F H R Q S h q => ?_⟩
  refine h1 b L F0 H0 ρ σ F H _ _ S h fun v H1 F1 r x1 rep fr k1 => ?_
  obtain ⟨z, rz, n, rfl, hn, k1⟩ := withV_of rep k1
  refine ⟨n, rz.int, RgOk.of_le (by omega) (by omega) (by omega) (by omega), fun l hl => ?_⟩
  have er : rgV 0 (n : Int) = (List.range n).map fun (i : Nat) => V.int (i : Int) := by
    unfold rgV
    rw [show ((n : Int) - 0).toNat = n by omega]
    exact List.map_congr_left fun i _ => congrArg V.int (Int.zero_add _)
  rw [er]
  exact q _ _ _ _ (x1.trans (Fr.tmp x1.s1 x1.b1 _ hl)) (sl_m x1 (reps_rng n) hl) (fresh_m x1 hl) k1
end
/-! ### a def -/
/-- what is known where a def's body runs -/
structure Ent (k : Nat) (qual : Str) (sc : Scope) (f : Addr) where
  cdv : Value
  A : Around
  outer : List Env
  s : Shared
  H : Hp
  E : XK
  hr : Room k (A.deeper (envOfC qual sc s.heap.objs.size f cdv))
abbrev entX (P : Program) (w : World) (K : PySem.W.Frag) (mg : Str → Option Value) (base : Heap) (N : List Str) (k : Nat) (qual : Str) (sc : Scope) (f : Addr) : Ent k qual sc f → Cx :=
  fun i => (cxOf CX0 P w K mg base N qual sc f i.cdv i.A i.outer i.s i.H i.E).nox
theorem entry {ci : CI} {b L : Addr} {F H : Hp} {rs : List Sl} {vs : List V} {N : List Str} (fr : Fr b L F H F H) (nb : F b = none) (nL : F L = none) (rep : SlReps ci b L F H rs vs) (nm : ∀ r ∈ rs, ∀ xs, r ≠ .m xs) (hl : vs.length ≤ N.length) :
    StRep ci b L F H (rs ++ List.replicate (N.length - rs.length) .no) (L2.start N vs) F H := by
  have at_ : ∀ (i : Nat) r, (rs ++ List.replicate (N.length - rs.length) Sl.no)[i]? = some r → r ≠ .no → rs[i]? = some r := fun i r e n => by
    by_cases hi : i < rs.length
    · rwa [List.getElem?_append_left hi] at e
    · rw [List.getElem?_append_right (by omega), List.getElem?_replicate] at e
      split at e
      · cases e
        exact absurd rfl n
      · cases e
  have as_ : ∀ (i : Nat) v, vs[i]? = some v → (L2.start N vs)[i]? = some (some v) := fun i v e => by
    unfold L2.start
    have hi : i < vs.length := (List.getElem?_eq_some_iff.mp e).1
    rw [List.getElem?_append_left (by simpa using hi), List.getElem?_map, e]
    rfl
  have bk : ∀ (i : Nat) r v, rs[i]? = some r → (L2.start N vs)[i]? = some (some v) → vs[i]? = some v := fun i r v e e2 => by
    have hi : i < vs.length := by rw [← rep.1]; exact (List.getElem?_eq_some_iff.mp e).1
    have := as_ i _ (List.getElem?_eq_getElem hi)
    rw [e2] at this
    cases this
    exact List.getElem?_eq_getElem hi
  refine ⟨fr, ⟨nb, nL⟩, ?_, fun i r e n => ?_, fun i xs a e e2 => ?_, fun i xs a e e2 => ?_, fun i j xs ys a e1 e2 _ _ => ?_⟩
  · unfold L2.start
    rw [List.length_append, List.length_append, List.length_replicate, List.length_replicate, List.length_map, rep.1]
  · have e := at_ i r e n
    have hi : i < vs.length := by rw [← rep.1]; exact (List.getElem?_eq_some_iff.mp e).1
    exact ⟨vs[i], as_ i _ (List.getElem?_eq_getElem hi), rep.2 i r _ e (List.getElem?_eq_getElem hi)⟩
  · have e := at_ i _ e (fun z => nomatch z)
    exact absurd rfl (nm _ (List.mem_of_getElem? e) xs)
  · have e := at_ i _ e (fun z => nomatch z)
    obtain ⟨a2, us, e3, h1, _⟩ := rep.2 i _ _ e (bk i _ _ e e2)
    cases e3
    exact ⟨_, h1⟩
  · have e := at_ i _ e1 (fun z => nomatch z)
    exact absurd rfl (nm _ (List.mem_of_getElem? e) xs)
section
variable {ci : CI} {P : Program} {w : World} {K : PySem.W.Frag} {mg : Str → Option Value} {base : Heap}
/-- THE RULE for a def, over data -/
theorem okD {x qual : Str} {st : Stmt} {f : Addr} {fd : FuncData} {N ps : List Str} {k : Nat} {s : DSp} (F : Fun K x qual st f fd) (Sc : FnScope N ps (defScope st)) (len : ∀ rs R, s rs R → rs.length = ps.length) (hps : ps.length ≤ N.length)
    (h : ∃ t, DSs ci (entX P w K mg base N k qual (defScope st) f) (defBody st) t ∧ ∀ rs R, s rs R → t { nx := fun _ => R (.d .non), rt := R } (rs ++ List.replicate (N.length - rs.length) .no)) : FnOk P w K mg base CX0 (k + 1) f fd ps (lift ci s) := by
  obtain ⟨t, hb, hs⟩ := h
  obtain ⟨ts, hp, hq⟩ := hb.ex
  refine F.ok Sc (fun vs H Q E h => ?_) fun cdv A outer s0 H vs Q E hr h => ?_
  · obtain ⟨b, L, F1, rs, R, _, _, _, rep, _, h1, _⟩ := h
    rw [← rep.1]
    exact len rs R h1
  · obtain ⟨b, L, F1, rs, R, fr, nb, nL, rep, nm, h1, post⟩ := h
    have hl := len rs R h1
    have S := entry (N := N) fr nb nL rep nm (by rw [← rep.1, hl]; exact hps)
    exact ⟨ts, hp ⟨cdv, A, outer, s0, H, E, hr⟩, hq b L F1 H _ _ F1 H _ _ S (hs rs R h1) ⟨fun ρ σ F' H' S' _ k => post _ _ F' (.d .non) S'.fr Rep.non Fresh.d k, fun _ _ _ _ _ _ z => z.elim, fun _ _ _ _ _ _ z => z.elim, post⟩⟩
end
end DL

/-! the data layer: isinstance of built-in classes; the law's take and same -/
namespace DL
open PySem PySem.Spec PyProof.Rows L2 VL
open C8 (Cal)
/-- is it of the built-in class T -/
def isK (T : String) : D → Option Bool
  | .non => some false
  | .bl _ => some (decide (T = "bool") || decide (T = "int"))
  | .int _ => some (decide (T = "int"))
  | .str _ => some (decide (T = "str"))
  | .tup _ => some (decide (T = "tuple"))
  | .lst _ => some (decide (T = "list"))
  | _ => none
def isiF (T : String) : F1 := fun x R => ∃ b, isK T x = some b ∧ R (.d (.bl b))
theorem kit5 {t T : String} (ht : t = "NoneType" ∨ t = "bool" ∨ t = "int" ∨ t = "str" ∨ t = "tuple" ∨ t = "list") (hT : T = "int" ∨ T = "bool" ∨ T = "str" ∨ T = "list" ∨ T = "tuple") : kitB t T = some (decide (t = T) || (decide (t = "bool") && decide (T = "int"))) := by
  rcases hT with rfl | rfl | rfl | rfl | rfl <;> rcases ht with rfl | rfl | rfl | rfl | rfl | rfl <;> decide +kernel
section
variable {ci : CI} {K : PySem.W.Frag} {ι : Type} {𝒳 : ι → Cx} {a c e : Expr} {ta tb tc : TD} {pos : Pos}
theorem isi_ok {b : Addr} {F H : Hp} {x : D} {v : V} {T : String} {r : Bool} (s : Same F H) (hT : T = "int" ∨ T = "bool" ∨ T = "str" ∨ T = "list" ∨ T = "tuple") (h : VR ci b F H x v) (e : isK T x = some r) : ∃ t : String, TyX K H v (.type t) ∧ kitB t T = some r := by
  have at_ : ∀ t : String, (t = "NoneType" ∨ t = "bool" ∨ t = "int" ∨ t = "str" ∨ t = "tuple" ∨ t = "list") → TyX K H v (.type t) → (decide (t = T) || (decide (t = "bool") && decide (T = "int"))) = r → ∃ t : String, TyX K H v (.type t) ∧ kitB t T = some r := fun t ht ty er => ⟨t, ty, by rw [kit5 ht hT, er]⟩
  cases x with
  | non =>
    rw [h.non]
    rw [h.non] at at_
    cases e
    exact at_ "NoneType" (.inl rfl) (.base .non) (by rcases hT with rfl | rfl | rfl | rfl | rfl <;> rfl)
  | bl k =>
    rw [h.bl]
    rw [h.bl] at at_
    cases e
    exact at_ "bool" (.inr (.inl rfl)) (.base (.bl k)) (by rcases hT with rfl | rfl | rfl | rfl | rfl <;> rfl)
  | int i =>
    rw [h.int]
    rw [h.int] at at_
    cases e
    exact at_ "int" (.inr (.inr (.inl rfl))) (.base (.int i)) (by rcases hT with rfl | rfl | rfl | rfl | rfl <;> rfl)
  | str i =>
    rw [h.str]
    rw [h.str] at at_
    cases e
    exact at_ "str" (.inr (.inr (.inr (.inl rfl)))) (.base (.str i)) (by rcases hT with rfl | rfl | rfl | rfl | rfl <;> rfl)
  | tup xs =>
    obtain ⟨p, vs, rfl, h1, _⟩ := h.tup s
    cases e
    refine at_ "tuple" (.inr (.inr (.inr (.inr (.inl rfl))))) ?_ (by rcases hT with rfl | rfl | rfl | rfl | rfl <;> rfl)
    rcases h1 with h1 | ⟨o, h1⟩
    · exact .base (.tup h1)
    · exact .fTuple h1
  | lst xs =>
    obtain ⟨p, vs, rfl, h1, _⟩ := h.lst s
    cases e
    exact at_ "list" (.inr (.inr (.inr (.inr (.inr rfl))))) (.base (.lst h1)) (by rcases hT with rfl | rfl | rfl | rfl | rfl <;> rfl)
  | _ => cases e
theorem call_isiA {X : Cx} (K : PySem.W.Frag) (h : X.K = K) : CallR X (.builtin "isinstance") (rIsi K) := h ▸ call_isi
theorem de_isi (K : PySem.W.Frag) {T : String} {p q : Pos} {y : Str} (hm : ∀ i, (𝒳 i).mg "isinstance" = none) (hy : ∀ i, (𝒳 i).mg y = none) (ha : DE ci 𝒳 a ta) (hT : T = "int" ∨ T = "bool" ∨ T = "str" ∨ T = "list" ∨ T = "tuple" := by decide) (hv : bootBuiltins y = some (.type T) := by decide +kernel)
    (hg : ∀ i, Gl (𝒳 i) "isinstance" := by intro _; rfl) (hg2 : ∀ i, Gl (𝒳 i) y := by intro _; rfl) (hK : ∀ i, (𝒳 i).K = K := by intro _; rfl) (hn : y ≠ "__name__" := by decide) (hd : (y == ("__debug__" : Str)) = false := by decide)
    (he : ∀ i, starEach [a, .Name y q] (𝒳 i).env = (false, eval a (𝒳 i).env) :: starEach [.Name y q] (𝒳 i).env := by intro _; rfl) (he2 : ∀ i, starEach [.Name y q] (𝒳 i).env = (false, eval (.Name y q) (𝒳 i).env) :: starEach [] (𝒳 i).env := by intro _; rfl)
    (hpl : ∀ i, (backTo pos (starEach [.Name y q] (𝒳 i).env)).any (·.1) = false := by intro _; rfl) : DE ci 𝒳 (.Call (.Name "isinstance" p) [a, .Name y q] [] pos) (dUna (isiF T) ta) := by
  obtain ⟨t1, p1, h1⟩ := ha.ex
  refine ⟨tCB (rIsi K) (tCons t1 (tCons (tC (.ty T)) tNil)), fun i => pe_callB (call_isiA K (hK i)) (hg i) (hm i) (by decide +kernel) (pa_cons (p1 i) (pa_cons (pe_bltn (v := .ty T) (hg2 i) (hy i) hv rfl hn hd) pa_nil (he2 i)) (he i)) (by decide) (by decide) (he i) (hpl i), fun b L F0 H0 ρ σ F H R Q S h q => ?_⟩
  refine h1 b L F0 H0 ρ σ F H _ _ S h fun v H1 F1 r x1 rep fr k1 => ?_
  obtain ⟨x, rx, b2, eb, k1⟩ := withV_of rep k1
  obtain ⟨t, ty, kb⟩ := isi_ok (K := K) x1.s1 hT rx eb
  exact ⟨v, .ty T, .type t, .type T, b2, rfl, .ty T, ty, kit_ty kb, q.d x1 (Rep.bl b2) k1⟩
end
/-! ### take -/
def dTake : DSp := fun rs R => ∃ n : Int, rs = [.box, .d (.int n)] ∧ 0 < n ∧ n < 2 ^ 64 ∧ ∀ v, 0 ≤ v → v < n → R (.d (.int v))
theorem lift_take {ci : CI} {vs : List V} {H : Hp} {Q : VK} {E : XK} (h : lift ci dTake vs H Q E) : spTake vs H Q E := by
  obtain ⟨b, L, F, rs, R, fr, nb, nL, rep, nm, ⟨n, rfl, n0, n1, q⟩, post⟩ := h
  match vs, rep.1 with
  | [v, w], _ =>
    cases (show v = .ref b from rep.2 0 _ v rfl rfl)
    cases (show Rep ci F (.int n) w from rep.2 1 _ w rfl rfl)
    exact ⟨b, L, n, rfl, n0, n1, fr.b0, fun v o v0 v1 B _ => post.d (Fr.took fr.s0 fr.b0 nb B) (Rep.int v) (q v v0 v1)⟩
/-! ### same -/
def Sl.see : Sl → Option D
  | .d x => some x
  | .v xs => some (.lst xs)
  | .m xs => some (.lst xs)
  | _ => none
/-- as deep as n at most, made of plain things -/
def Dep : Nat → D → Prop
  | 0, x => flatX x = true
  | n + 1, x => flatX x = true ∨ ∃ xs, (x = .lst xs ∨ x = .tup xs) ∧ xs.length ≤ 1000000 ∧ ∀ y ∈ xs, Dep n y
theorem Dep.flat {x : D} (h : flatX x = true) : ∀ n, Dep n x
  | 0 => h
  | _ + 1 => .inl h
theorem Dep.up {x : D} : ∀ {n : Nat}, Dep n x → Dep (n + 1) x := by
  intro n
  induction n generalizing x with
  | zero => exact fun h => .inl h
  | succ n ih => exact fun h => h.elim .inl fun ⟨xs, e, l, h⟩ => .inr ⟨xs, e, l, fun y hy => ih (h y hy)⟩
theorem Dep.lst {xs : List D} {n : Nat} (l : xs.length ≤ 1000000) (h : ∀ y ∈ xs, Dep n y) : Dep (n + 1) (.lst xs) := .inr ⟨xs, .inl rfl, l, h⟩
theorem Dep.tup {xs : List D} {n : Nat} (l : xs.length ≤ 1000000) (h : ∀ y ∈ xs, Dep n y) : Dep (n + 1) (.tup xs) := .inr ⟨xs, .inr rfl, l, h⟩
def dSame : Nat → DSp
  | 0 => fun _ _ => False
  | n + 1 => fun rs R => ∃ r q x, rs = [r, q] ∧ r.see = some x ∧ q.see = some x ∧ Dep n x ∧ R (.d (.bl true))
theorem see_v {r : Sl} {x : D} {k : D → Prop} (h : r.see = some x) (q : k x) : withV r k := by
  cases r with
  | d y => cases h; exact q
  | v xs => cases h; exact q
  | m xs => cases h; exact q
  | _ => cases h
theorem see_arg {r : Sl} {x : D} (h : r.see = some x) : r.arg.see = some x := by
  cases r with
  | d y => cases y <;> exact h
  | _ => exact h
/-- a name's slot, seen -/
theorem var_v {i : Nat} {ρ : List Sl} {r : Sl} {x : D} {k : D → Prop} (e : ρ[i]? = some r) (h : r.see = some x) (q : k x) : dVar i ρ fun r => withV r k := by
  unfold dVar
  rw [e]
  cases r with
  | d y => cases h; exact q
  | v xs => cases h; exact q
  | m xs => cases h; exact q
  | _ => cases h
end DL

/-! the data layer: classes of the program: how their objects are made, their methods, operators, properties -/
namespace DL
open PySem PySem.Spec PyProof.Rows L2 VL
open C8 (Cal Met)
/-! ### a heap without one object -/
def rm (x : Addr) (H : Hp) : Hp := fun a => if a = x then none else H a
theorem rm_ne {x a : Addr} {H : Hp} (h : a ≠ x) : rm x H a = H a := if_neg h
theorem rm_self {x : Addr} {H : Hp} : rm x H x = none := if_pos rfl
theorem rm_some {x a : Addr} {H : Hp} {o : HO} (h : rm x H a = some o) : a ≠ x ∧ H a = some o := by
  by_cases e : a = x
  · rw [e, rm_self] at h; cases h
  · rw [rm_ne e] at h; exact ⟨e, h⟩
theorem rm_upd {x : Addr} {H : Hp} {o : HO} : rm x (upd H x o) = rm x H := by
  funext a
  by_cases e : a = x
  · rw [e, rm_self, rm_self]
  · rw [rm_ne e, rm_ne e, upd_ne e]
theorem rm_upd_ne {x p : Addr} {H : Hp} {o : HO} (n : p ≠ x) : rm x (upd H p o) = upd (rm x H) p o := by
  funext a
  by_cases e : a = x
  · subst e
    rw [rm_self, upd_ne (fun z => n z.symm), rm_self]
  · rw [rm_ne e]
    by_cases z : a = p
    · subst z
      rw [upd_same, upd_same]
    · rw [upd_ne z, upd_ne z, rm_ne e]
theorem rm_free {x : Addr} {H : Hp} (h : H x = none) : rm x H = H := by
  funext a
  by_cases e : a = x
  · rw [e, rm_self, h]
  · exact rm_ne e
theorem Box.rm {H : Hp} {b L x : Addr} (h : Box H b L) (h1 : x ≠ b) (h2 : x ≠ L) : Box (rm x H) b L := by
  obtain ⟨cs, p, r, y, n, hL, hb, q⟩ := h
  exact ⟨cs, p, r, y, n, by rw [rm_ne h2.symm]; exact hL, by rw [rm_ne h1.symm]; exact hb, q⟩
theorem Box.unrm {H : Hp} {b L x : Addr} (h : Box (DL.rm x H) b L) : Box H b L := by
  obtain ⟨cs, p, r, y, n, hL, hb, q⟩ := h
  exact ⟨cs, p, r, y, n, (rm_some hL).2, (rm_some hb).2, q⟩
theorem Fr.rm {b L x : Addr} {F H F' H' : Hp} {o : HO} (f : Fr b L F H F' H') (n : F x = none) (e : H x = some o) (h1 : x ≠ b) (h2 : x ≠ L) : Fr b L F (rm x H) F' (rm x H') := by
  refine ⟨f.ff, fun a u na q => ?_, fun a u q => ?_, fun a u q => ?_, fun a u q => ?_, Box.rm f.b0 h1 h2, Box.rm f.b1 h1 h2⟩
  · obtain ⟨e1, e2⟩ := rm_some q
    rw [rm_ne e1]
    exact f.hh a u na e2
  · by_cases z : a = x
    · subst z
      exact .inr rm_self
    · rw [rm_ne z]
      exact f.nw a u q
  · have z : a ≠ x := fun z => by
      rw [z, n] at q
      cases q
    rw [rm_ne z]
    exact f.s0 a u q
  · have z : a ≠ x := fun z => by
      rw [z, f.no n e] at q
      cases q
    rw [rm_ne z]
    exact f.s1 a u q
/-! ### an object under construction -/
/-- what an __init__ does: from its arguments (self left out) to the fields it leaves -/
abbrev ISp := List Sl → (List Str → List D → Prop) → Prop
def liftI (ci : CI) (C : Addr) (s : ISp) : Sp := fun vs H Q _ => ∃ (b L x dx : Addr) (F : Hp) (args : List V) (rs : List Sl) (R : List Str → List D → Prop), vs = .ref x :: args ∧ x ≠ b ∧ x ≠ L ∧ H x = some (.ins C dx []) ∧ F x = none ∧ Fr b L F H F H ∧ F b = none ∧ F L = none ∧
  SlReps ci b L F H rs args ∧ (∀ r ∈ rs, ∀ xs, r ≠ .m xs) ∧ s rs R ∧
  ∀ F' H' fs xs ws, Fr b L F (rm x H) F' (rm x H') → H' x = some (.ins C dx (fs.zip ws)) → fs.length = ws.length → Reps ci F' xs ws → F' x = none → R fs xs → Q .non H'
structure IRep (ci : CI) (b L x dx C : Addr) (F0 G0 : Hp) (ρ : List Sl) (σ : L2.St) (F H : Hp) (fs : List Str) (xs : List D) (ws : List V) : Prop where
  st : StRep ci b L F H ρ σ F H
  fr : Fr b L F0 G0 F (rm x H)
  hx : H x = some (.ins C dx (fs.zip ws))
  lf : fs.length = ws.length
  rp : Reps ci F xs ws
  nx : F x = none
  nb : x ≠ b
  nL : x ≠ L
  s0 : ρ[0]? = some (.d (.ref x))
def noM (ρ : List Sl) : Prop := ∀ r ∈ ρ, ∀ ys, r ≠ .m ys
abbrev TDN := Addr → List Sl → List Str → List D → (List Str → List D → Prop) → Prop
/-- a body of an __init__ -/
structure DN (ci : CI) {ι : Type} (K : PySem.W.Frag) (C : Addr) (𝒳 : ι → Cx) (st : List Stmt) (t : TDN) : Prop where
  ex : ∃ ts : TS, (∀ i, PSs (𝒳 i) st ts) ∧ ∀ (b L x dx : Addr) (F0 G0 : Hp) (ρ : List Sl) (σ : L2.St) (F H : Hp) (fs : List Str) (xs : List D) (ws : List V) (R : List Str → List D → Prop) (E : Ends), IRep ci b L x dx C F0 G0 ρ σ F H fs xs ws → t x ρ fs xs R →
    (∀ ρ' σ' F' H' fs' xs' ws', IRep ci b L x dx C F0 G0 ρ' σ' F' H' fs' xs' ws' → R fs' xs' → E.nx σ' H') → ts E σ H
section
variable {ci : CI} {b L x : Addr} {F0 H0 F H F' H' : Hp} {ρ : List Sl} {σ : L2.St}
/-- the state, seen from here on -/
theorem StRep.rebase (S : StRep ci b L F0 H0 ρ σ F H) (n : noM ρ) (B : ∀ a o, H0 a = some o → a ≠ b → ∃ u, H a = some u) : StRep ci b L F H ρ σ F H := by
  refine ⟨S.rf, ⟨S.nb, S.nL⟩, S.len, S.sl, fun i xs a e => ?_, fun i xs a e e2 => ?_, fun i j xs ys a e => ?_⟩
  · exact absurd rfl (n _ (List.mem_of_getElem? e) xs)
  · obtain ⟨v, h1, a2, vs, h2, h3, _⟩ := S.sl i _ e (fun z => nomatch z)
    rw [e2] at h1
    cases h1
    cases h2
    exact ⟨_, h3⟩
  · exact absurd rfl (n _ (List.mem_of_getElem? e) xs)
theorem StRep.base (S : StRep ci b L F0 H0 ρ σ F H) (n : noM ρ) : StRep ci b L F H ρ σ F H := S.rebase n fun a o e z => ⟨o, S.fr.hh a o z e⟩
/-- another object changes that is nobody's -/
theorem StRep.poke (S : StRep ci b L F H ρ σ F H) (n : noM ρ) {o : HO} (nx : F x = none) (nb : x ≠ b) (nL : x ≠ L) (nl : ∀ vs, H x ≠ some (.lst vs)) : StRep ci b L F (upd H x o) ρ σ F (upd H x o) := by
  have s' : Same F (upd H x o) := fun a u e => by
    have z : a ≠ x := fun z => by
      rw [z, nx] at e
      cases e
    rw [upd_ne z]
    exact S.fr.s1 a u e
  have B' : Box (upd H x o) b L := S.fr.b1.upd nb nL
  refine ⟨Fr.refl s' B', S.fb, S.len, fun i r e z => ?_, fun i xs a e => ?_, fun i xs a e e2 => ?_, fun i j xs ys a e => ?_⟩
  · obtain ⟨v, h1, h2⟩ := S.sl i r e z
    refine ⟨v, h1, ?_⟩
    cases r with
    | no => trivial
    | d y => exact h2
    | box => exact h2
    | v xs =>
      obtain ⟨a, vs, e1, h3, h4, h5⟩ := h2
      have z : a ≠ x := fun z => nl vs (z ▸ h3)
      exact ⟨a, vs, e1, by rw [upd_ne z]; exact h3, h4, h5⟩
    | m xs => exact absurd rfl (n _ (List.mem_of_getElem? e) xs)
  · exact absurd rfl (n _ (List.mem_of_getElem? e) xs)
  · obtain ⟨v, h1, a2, vs, h2, h3, _⟩ := S.sl i _ e (fun z => nomatch z)
    rw [e2] at h1
    cases h1
    cases h2
    have z : a ≠ x := fun z => nl vs (z ▸ h3)
    exact ⟨_, by rw [upd_ne z]; exact h3⟩
  · exact absurd rfl (n _ (List.mem_of_getElem? e) xs)
end
theorem putF_new {f : Str} {v : V} : ∀ {fs : List (Str × V)}, fs.lookup f = none → putF f v fs = fs ++ [(f, v)]
  | [], _ => rfl
  | (g, u) :: fs, h => by
    have h : (match f == g with | true => some u | false => fs.lookup f) = none := h
    cases e : f == g with
    | true => rw [e] at h; cases h
    | false =>
      rw [e] at h
      have n : ¬ f = g := fun z => by rw [z, beq_self_eq_true] at e; cases e
      unfold putF
      first
        | rw [if_neg n, putF_new h]; rfl
        | rw [if_neg (fun z => n z.symm), putF_new h]; rfl
        | simp only [e, putF_new h]; rfl
section
variable {ci : CI} {K : PySem.W.Frag} {ι : Type} {𝒳 : ι → Cx} {C : Addr} {a e : Expr} {ta tb : TD} {pos pos' p : Pos} {st : Stmt} {rest : List Stmt} {t : TDN} {u : TDS}
theorem dn_nil : DN ci K C 𝒳 [] (fun _ ρ fs xs R => R fs xs) := ⟨tNext, fun _ => pss_nil, fun b L x dx F0 G0 ρ σ F H fs xs ws R E S h q => q _ _ _ _ _ _ _ S h⟩
/-- a statement that leaves the object alone -/
theorem dn_st (h1 : DS ci 𝒳 st u) (h2 : DN ci K C 𝒳 rest t) : DN ci K C 𝒳 (st :: rest) (fun x ρ fs xs R => u { nx := fun ρ' => noM ρ' ∧ ρ'[0]? = some (.d (.ref x)) ∧ t x ρ' fs xs R, rt := fun _ => False } ρ) := by
  obtain ⟨t1, p1, q1⟩ := h1.ex
  obtain ⟨t2, p2, q2⟩ := h2.ex
  refine ⟨tSeq t1 t2, fun i => pss_cons (p1 i) (p2 i), fun b L x dx F0 G0 ρ σ F H fs xs ws R E S h q => ?_⟩
  refine q1 b L F H ρ σ F H _ _ S.st h ⟨fun ρ' σ' F' H' S' _ k => ?_, fun _ _ _ _ _ _ z => z.elim, fun _ _ _ _ _ _ z => z.elim, fun _ _ _ _ _ _ _ z => z.elim⟩
  obtain ⟨nm, e0, k⟩ := k
  refine q2 b L x dx F0 G0 ρ' σ' F' H' fs xs ws R E ⟨S'.base nm, S.fr.trans (S'.fr.rm S.nx S.hx S.nb S.nL), S'.fr.hh _ _ S.nb S.hx, S.lf, S.rp.mono S'.fr.ff, S'.fr.no S.nx S.hx, S.nb, S.nL, e0⟩ k q
/-- self.f = e -/
theorem dn_set {f : Str} (cl : Cls K C) (nf : NoAttr K C f) (ha : DE ci 𝒳 a ta) (hK : ∀ i, (𝒳 i).K = K := by intro _; rfl) (hN : ∀ i, (𝒳 i).N[0]? = some ("self" : Str) := by intro _; rfl) (hv : ∀ i, Vis (𝒳 i).env.scope "self" := by intro _; first | exact Or.inl rfl | exact Or.inr (Or.inl rfl) | exact Or.inr (Or.inr rfl))
    (hs : ∀ i, swapsWith a (some (.Attribute (.Name "self" p) f pos')) pos.line (𝒳 i).env = pure false := by intro _; rfl) (h2 : DN ci K C 𝒳 rest t) :
    DN ci K C 𝒳 (.Assign [.Attribute (.Name "self" p) f pos'] a pos :: rest) (fun x ρ fs xs R => noM ρ ∧ ta ρ fun r => withD r fun y => f ∉ fs ∧ fs.length < 900 ∧ t x ρ (fs ++ [f]) (xs ++ [y]) R) := by
  obtain ⟨t1, p1, q1⟩ := ha.ex
  obtain ⟨t2, p2, q2⟩ := h2.ex
  refine ⟨tSeq (sFld K (tVar 0) t1 f) t2, fun i => pss_cons (by rw [← hK i]; exact ps_fld (pe_var (hN i) (hv i) (by decide) (by decide)) (p1 i) (hs i)) (p2 i), fun b L x dx F0 G0 ρ σ F H fs xs ws R E S h q => ?_⟩
  obtain ⟨nm, h⟩ := h
  refine q1 b L F H ρ σ F H _ _ S.st h fun v H1 F1 r x1 rep fr k => ?_
  obtain ⟨y, F2, x2, _, ry, nn, len, k⟩ := withD_of x1 rep fr k
  have S2 := S.st.go x2
  obtain ⟨v0, e0, r0⟩ := S2.sl 0 _ S.s0 (fun z => nomatch z)
  cases (show Rep ci F2 (.ref x) v0 from r0)
  have hx2 := x2.hh _ _ S.nb S.hx
  have nx2 := x2.no S.nx S.hx
  have lk := lookup_zip_none (vs := ws) nn
  have lz : (fs.zip ws).length = fs.length := by rw [List.length_zip, S.lf, Nat.min_self]
  refine ⟨.ref x, e0, x, C, dx, _, rfl, hx2, cl, nf, by rw [lz]; omega, ?_⟩
  rw [putF_new lk]
  have ez : fs.zip ws ++ [(f, v)] = (fs ++ [f]).zip (ws ++ [v]) := by rw [List.zip_append S.lf]; rfl
  rw [ez]
  have S3 := S2.base nm
  refine q2 b L x dx F0 G0 ρ σ F2 _ (fs ++ [f]) (xs ++ [y]) (ws ++ [v]) R E ⟨S3.poke nm nx2 S.nb S.nL (fun vs z => by rw [hx2] at z; cases z), ?_, upd_same, by simp [S.lf], (S.rp.mono x2.ff).snoc ry, nx2, S.nb, S.nL, S.s0⟩ k q
  rw [rm_upd]
  exact S.fr.trans (x2.rm S.nx S.hx S.nb S.nL)
end
section
variable {ci : CI} {P : Program} {w : World} {K : PySem.W.Frag} {mg : Str → Option Value} {base : Heap} {C : Addr}
theorem init_go {N : List Str} {k : Nat} {qual : Str} {sc : Scope} {f : Addr} {body : List Stmt} {s : ISp} {t : TDN} (hb : DN ci K C (entX P w K mg base N k qual sc f) body t) (len : ∀ rs R, s rs R → rs.length + 1 ≤ N.length) (hs : ∀ x rs R, s rs R → t x ((.d (.ref x) :: rs) ++ List.replicate (N.length - (rs.length + 1)) .no) [] [] R) :
    ∃ ts : TS, (∀ i, PSs (entX P w K mg base N k qual sc f i) body ts) ∧ ∀ vs H Q E, liftI ci C s vs H Q E → ts { nx := fun _ H' => Q .non H', rt := Q } (L2.start N vs) H := by
  obtain ⟨ts, hp, hq⟩ := hb.ex
  refine ⟨ts, hp, fun vs H Q E h => ?_⟩
  obtain ⟨b, L, x, dx, F, args, rs, R, rfl, nb, nL, hx, nx, fr, fb, fL, rep, nm, h1, post⟩ := h
  have hl := len rs R h1
  have nm2 : ∀ r ∈ (Sl.d (.ref x) :: rs), ∀ xs, r ≠ .m xs := fun r hr => by
    rcases List.mem_cons.mp hr with rfl | hr
    · exact fun _ z => nomatch z
    · exact nm r hr
  have S := entry (ci := ci) (N := N) fr fb fL (rs := .d (.ref x) :: rs) (vs := .ref x :: args) (.cons (r := .d (.ref x)) (Rep.ref x) rep) nm2 (by have := rep.1; simp only [List.length_cons]; omega)
  exact hq b L x dx F (rm x H) _ _ F H [] [] [] R _ ⟨S, Fr.refl (fun a u e => by
      have z : a ≠ x := fun z => by
        rw [z, nx] at e
        cases e
      rw [rm_ne z]
      exact fr.s1 a u e) (Box.rm fr.b1 nb nL), hx, rfl, .nil, nx, nb, nL, rfl⟩ (hs x rs R h1) fun ρ' σ' F' H' fs xs ws S' k => post F' H' fs xs ws S'.fr S'.hx S'.lf S'.rp S'.nx k
/-- def __init__(self, *v) -/
def starS (s : ISp) : ISp := fun rs R => ∃ xs : List D, rs = xs.map Sl.d ∧ xs.length ≤ 1000000 ∧ s [.d (.tup xs)] R
theorem reps_of_d {b L : Addr} {F H : Hp} : ∀ {xs : List D} {vs : List V}, SlReps ci b L F H (xs.map Sl.d) vs → Reps ci F xs vs := fun {xs vs} h => by
  refine ⟨by have := h.1; simpa using this, fun i x v e1 e2 => ?_⟩
  exact h.2 i (.d x) v (by rw [List.getElem?_map, e1]; rfl) e2
theorem okIS {f : Addr} {fd : FuncData} {qual pv : Str} {st : Stmt} {N : List Str} {k : Nat} {s : ISp} (F : Fun K "__init__" qual st f fd) (Sc : FnScope N ["self", pv] (defScope st)) (hN : 2 ≤ N.length) (len : ∀ rs R, s rs R → rs.length = 1)
    (hb : ∀ us rest : List Value, us.length = (["self"] : List Str).length → bindArgs fd ⟨us ++ rest, []⟩ = (newTuple rest >>= fun t => pure (((["self"] : List Str).zip us) ++ [(pv, t)])))
    (h : ∃ t, DN ci K C (entX P w K mg base N k qual (defScope st) f) (defBody st) t ∧ ∀ x rs R, s rs R → t x ((.d (.ref x) :: rs) ++ List.replicate (N.length - (rs.length + 1)) .no) [] [] R) : FnR P w K mg base CX0 (k + 1) f (liftI ci C (starS s)) := by
  obtain ⟨t, hd, hs⟩ := h
  obtain ⟨ts, hp, hq⟩ := init_go (ci := ci) (s := s) hd (fun rs R z => by rw [len rs R z]; exact hN) hs
  obtain ⟨oc, od, kV, doc, pm, an, cdv, ct, osl, rfl, lk, hcd⟩ := F.ex
  refine (StX.fn_star (sp := fun vs H Q E => liftI ci C s vs H Q E) lk hcd Sc StX.cxUp_none hb fun A outer s0 H vs Q E hr h => ⟨ts, PSs.nox (hp ⟨cdv, A, outer, s0, H, E, hr⟩), hq vs H Q E h⟩).imp fun vs H Q E h => ?_
  obtain ⟨b, L, x, dx, F1, args, rs, R, rfl, nb, nL, hx, nx, fr, fb, fL, rep, nm, ⟨xs, rfl, hz, h1⟩, post⟩ := h
  have rp := reps_of_d rep
  refine ⟨[.ref x], args, rfl, rfl, by rw [← rp.1]; exact slen hz, fun p hp => ?_⟩
  have px : p ≠ x := fun z => by rw [z, hx] at hp; cases hp
  have y := Fr.new fr.s1 fr.b1 (.tup args) hp
  refine ⟨b, L, x, dx, upd F1 p (.tup args), [.ref p], [.d (.tup xs)], R, rfl, nb, nL, by rw [upd_ne px.symm]; exact hx, by rw [upd_ne px.symm]; exact nx, Fr.refl y.s1 y.b1, y.no fb fr.b0.lst.choose_spec, y.no fL fr.b0.lstL.choose_spec, .cons (r := .d (.tup xs)) ((rp.mono y.ff).t upd_same) .nil, fun r hr => ?_, h1, fun F' H' fs ys ws f1 e1 e2 e3 e4 e5 => ?_⟩
  · rcases List.mem_cons.mp hr with rfl | hr
    · exact fun _ z => nomatch z
    · cases hr
  · exact post F' H' fs ys ws ((y.rm nx hx nb nL).trans f1) e1 e2 e3 e4 e5
end
/-! ### C( *e) -/
section
variable {X : Cx}
def tMkS (K : PySem.W.Frag) (tcl : TE) (C : Addr) (sp : Sp) (E : XK) (te : TE) : TE := fun σ H Q => tcl σ H fun c H1 => c = .ref C ∧ te σ H1 fun y H2 => ∃ p xs, y = .ref p ∧ (SqT K H2 p xs ∨ SqL K H2 p xs) ∧
  ∀ x dx, H2 x = Option.none → H2 dx = Option.none → dx ≠ x → sp (V.ref x :: xs) (upd (upd H2 dx (.own x)) x (.ins C dx [])) (fun v H3 => v = .non ∧ Q (.ref x) H3) E
theorem pe_mkS {CX : CXT} {k : Nat} {f C : Addr} {sp : Sp} {E : XK} {x : Str} {p sp_ pos : Pos} {e : Expr} {te tcl : TE} (M : Mk X.K C f) (F : FnR X.prog X.w X.K X.mg X.base CX k f sp) (hr : Room (k + 1) X.A)
    (hf : PE X (.Name x p) tcl) (hx : Passes CX X E) (he : PE X e te) (hst : starEach [.Starred e sp_] X.env = [(true, eval e X.env)] := by rfl) : PE X (.Call (.Name x p) [.Starred e sp_] [] pos) (tMkS X.K tcl C sp E te) := by
  constructor
  intro pins s σ H Q I h
  refine wpAny_Call_Name_kw (thn (hf.run pins s σ H _ I h) fun u s1 ⟨v, H1, I1, r1, ev, q⟩ => ?_)
  subst ev
  cases r1
  refine PySem.W.callWith_S (h₀ := X.base) I.ok.mod.kin M.kp (thn (he.run pins s1 σ _ _ I1 q) fun v s2 ⟨y, H2, I2, ry, p0, xs, ey, hq, q2⟩ => ?_) hst
  subst ey
  cases ry
  exact StX.star_any I2 hq fun us s3 I3 rv => ⟨I3.kIn, StX.run_makeR M F hr hx I3 rv q2⟩
end
section
variable {ci : CI} {K : PySem.W.Frag} {ι : Type} {𝒳 : ι → Cx} {C : Addr} {a c e o : Expr} {es : List Expr} {ta tb tf : TD} {tr : TDA} {tk : TDD} {pos pos' p sp_ apos : Pos} {x m : Str} {k j : Nat} {s : DSp} {si : ISp}
theorem make_sound {b L : Addr} {F H : Hp} {args : List V} {rs : List Sl} {R : Sl → Prop} {Q : VK} {E : XK} (hci : ∀ a F, ci.I C a F) (fr : Fr b L F H F H) (fb : F b = none) (fL : F L = none) (rep : SlReps ci b L F H rs args) (nm : ∀ r ∈ rs, ∀ xs, r ≠ .m xs) (h : si rs fun fs xs => R (.d (.ins C fs xs))) (q : Post ci b L F H R Q) :
    ∀ x dx, H x = Option.none → H dx = Option.none → dx ≠ x → liftI ci C si (V.ref x :: args) (upd (upd H dx (.own x)) x (.ins C dx [])) (fun v H3 => v = .non ∧ Q (.ref x) H3) E := by
  intro x dx hx hdx ne
  obtain ⟨nb, nL⟩ := fr.b1.new hx
  have y1 := Fr.tmp fr.s1 fr.b1 (.own x) hdx
  have hx1 : upd H dx (.own x) x = none := by rw [upd_ne ne.symm]; exact hx
  have y2 := Fr.tmp y1.s1 y1.b1 (.ins C dx []) hx1
  have y := y1.trans y2
  have nx : F x = none := same_free fr.s1 hx
  refine ⟨b, L, x, dx, F, args, rs, _, rfl, nb, nL, upd_same, nx, Fr.refl y.s1 y.b1, fb, fL, rep.fr y, nm, h, fun F' H' fs xs ws f1 e1 e2 e3 e4 k => ⟨rfl, ?_⟩⟩
  have er : rm x (upd (upd H dx (.own x)) x (.ins C dx [])) = upd H dx (.own x) := by rw [rm_upd, rm_free hx1]
  rw [er] at f1
  have f2 := y1.trans f1
  have ff : Fr b L F H (upd F' x (.ins C dx (fs.zip ws))) H' := by
    refine ⟨f2.ff.trans (same_upd e4), fun a u na q => (rm_some (f2.hh a u na q)).2, fun a u q => ?_, fr.s1, fun a u q => ?_, fr.b1, Box.unrm f2.b1⟩
    · by_cases z : a = x
      · exact .inr (z ▸ hx)
      · rw [upd_ne z] at q
        exact f2.nw a u q
    · by_cases z : a = x
      · subst z
        rw [upd_same] at q
        cases q
        exact e1
      · rw [upd_ne z] at q
        exact (rm_some (f2.s1 a u q)).2
  have r2 := e3.mono (same_upd (o := .ins C dx (fs.zip ws)) e4)
  exact q.d ff (.ins upd_same e2 r2.1 r2.2 (hci x _)) k
theorem rep_sq {b : Addr} {F H : Hp} {y : D} {v : V} {xs : List D} (s : Same F H) (r : VR ci b F H y v) (e : y = .tup xs ∨ y = .lst xs) : ∃ p vs, v = .ref p ∧ (SqT K H p vs ∨ SqL K H p vs) ∧ Reps ci F xs vs := by
  rcases e with rfl | rfl
  · obtain ⟨p, vs, e1, h, rp⟩ := r.tup s
    exact ⟨p, vs, e1, .inl (.inl h), rp⟩
  · obtain ⟨p, vs, e1, h, rp⟩ := r.lst s
    exact ⟨p, vs, e1, .inr (SqL.of h), rp⟩
def dMkS (C : Addr) (si : ISp) (tf ta : TD) : TD := fun ρ R => tf ρ fun r => r = .d (.ref C) ∧ ta ρ fun q => withV q fun y => ∃ xs, (y = .tup xs ∨ y = .lst xs) ∧ si (xs.map Sl.d) fun fs ys => R (.d (.ins C fs ys))
theorem sl_of_reps {b L : Addr} {F H : Hp} {xs : List D} {vs : List V} (h : Reps ci F xs vs) : SlReps ci b L F H (xs.map Sl.d) vs := by
  refine ⟨by simp [h.1], fun i r v e1 e2 => ?_⟩
  rw [List.getElem?_map] at e1
  obtain ⟨y, e3, e4⟩ := Option.map_eq_some_iff.mp e1
  subst e4
  exact h.2 i y v e3 e2
theorem nm_map {xs : List D} : ∀ r ∈ xs.map Sl.d, ∀ ys, r ≠ .m ys := fun r hr ys => by
  obtain ⟨y, _, e⟩ := List.mem_map.mp hr
  rw [← e]
  exact fun z => nomatch z
theorem de_mkS (K : PySem.W.Frag) {fI : Addr} (hci : ∀ a F, ci.I C a F) (M : Mk K C fI) (Fn : ∀ i, FnR (𝒳 i).prog (𝒳 i).w K (𝒳 i).mg (𝒳 i).base CX0 k fI (liftI ci C si)) (hr : ∀ i, Room (k + 1) (𝒳 i).A) (hf : DE ci 𝒳 (.Name x p) tf) (ha : DE ci 𝒳 a ta) (hK : ∀ i, (𝒳 i).K = K := by intro _; rfl)
    (hst : ∀ i, starEach [.Starred a sp_] (𝒳 i).env = [(true, eval a (𝒳 i).env)] := by intro _; rfl) : DE ci 𝒳 (.Call (.Name x p) [.Starred a sp_] [] pos) (dMkS C si tf ta) := by
  obtain ⟨t1, p1, h1⟩ := hf.ex
  obtain ⟨t2, p2, h2⟩ := ha.ex
  refine ⟨tMkS K t1 C (liftI ci C si) E0 t2, fun i => by
    have z := pe_mkS (X := 𝒳 i) (CX := CX0) (E := E0) (sp_ := sp_) (pos := pos) ((hK i).symm ▸ M) ((hK i).symm ▸ Fn i) (hr i) (p1 i) (fun _ _ _ _ _ _ _ h => h.elim) (p2 i) (hst i)
    rw [hK i] at z
    exact z, fun b L F0 H0 ρ σ F H R Q S h q => ?_⟩
  refine h1 b L F0 H0 ρ σ F H _ _ S h fun v H1 F1 r1 x1 rep1 _ k1 => ?_
  obtain ⟨rfl, k1⟩ := k1
  cases (show Rep ci F1 (.ref C) v from rep1)
  refine ⟨rfl, h2 b L F0 H0 ρ σ F1 H1 _ _ (S.go x1) k1 fun w H2 F2 r2 x2 rep2 _ k2 => ?_⟩
  obtain ⟨y, ry, xs, ey, k2⟩ := withV_of rep2 k2
  obtain ⟨pp, vs, rfl, hq, rp⟩ := rep_sq (K := K) x2.s1 ry ey
  have S2 := (S.go x1).go x2
  exact ⟨pp, vs, rfl, hq, make_sound hci S2.rf S2.nb S2.nL (sl_of_reps rp) nm_map k2 (q.mono (x1.trans x2))⟩
/-- C(e, ..) -/
theorem de_mk (K : PySem.W.Frag) {fI : Addr} (hci : ∀ a F, ci.I C a F) (M : Mk K C fI) (Fn : ∀ i, FnR (𝒳 i).prog (𝒳 i).w K (𝒳 i).mg (𝒳 i).base CX0 k fI (liftI ci C si)) (hr : ∀ i, Room (k + 1) (𝒳 i).A) (hg : ∀ i, Gl (𝒳 i) x) (hm : ∀ i, (𝒳 i).mg x = some (.ref C)) (ha : DAa ci 𝒳 (e :: es) tr) (hK : ∀ i, (𝒳 i).K = K := by intro _; rfl) (hdb : (x == ("__debug__" : Str)) = false := by decide)
    (he : ∀ i, starEach (e :: es) (𝒳 i).env = (false, eval e (𝒳 i).env) :: starEach es (𝒳 i).env := by intro _; rfl) (hpl : ∀ i, (backTo pos (starEach es (𝒳 i).env)).any (·.1) = false := by intro _; rfl) : DE ci 𝒳 (.Call (.Name x p) (e :: es) [] pos) (fun ρ R => tr ρ fun rs => si rs fun fs ys => R (.d (.ins C fs ys))) := by
  obtain ⟨t1, p1, h1⟩ := ha.ex
  refine ⟨StX.tMakeR C (liftI ci C si) E0 t1, fun i => StX.pe_makeR (CX := CX0) ((hK i).symm ▸ M) ((hK i).symm ▸ Fn i) (hr i) (hg i) (hm i) (fun _ _ _ _ _ _ _ h => h.elim) (p1 i) hdb (he i) (hpl i), fun b L F0 H0 ρ σ F H R Q S h q => ?_⟩
  refine h1 b L F0 H0 ρ σ F H _ _ S h fun vs H1 F1 rs x1 rep nm k1 => ?_
  have S1 := S.go x1
  exact make_sound hci S1.rf S1.nb S1.nL rep nm k1 (q.mono x1)
/-! ### classes as values -/
theorem de_cls (hg : ∀ i, Gl (𝒳 i) x := by intro _; rfl) (hm : ∀ i, (𝒳 i).mg x = some (.ref C)) (hd : (x == ("__debug__" : Str)) = false := by decide) : DE ci 𝒳 (.Name x pos) (dC (.ref C)) := de_c (fun i => pe_glob (v := .ref C) (hg i) (hm i) rfl hd) fun F => .ref C
/-- C.f, a constant of the class -/
theorem de_cval (K : PySem.W.Frag) {f : Str} {mc u : Value} {v : V} {y : D} (r : ClX.CRead K C mc) (kk : ClX.CVal K C mc f v u) (ry : ∀ F, Rep ci F y v) (ha : DE ci 𝒳 a (dC (.ref C))) (hK : ∀ i, (𝒳 i).K = K := by intro _; rfl) (hb : ∀ i, attributeBase a f (𝒳 i).env (eval a (𝒳 i).env) = eval a (𝒳 i).env := by intro _; rfl) : DE ci 𝒳 (.Attribute a f pos) (dC y) := by
  obtain ⟨t1, p1, h1⟩ := ha.ex
  refine ⟨ClX.tCVal K t1 f, fun i => by rw [← hK i]; exact ClX.pe_cval (p1 i) (hb i), fun b L F0 H0 ρ σ F H R Q S h q => ?_⟩
  refine h1 b L F0 H0 ρ σ F H (fun r => r = .d (.ref C)) _ S rfl fun w H1 F1 r1 x1 rep1 _ k1 => ?_
  subst k1
  cases (show Rep ci F1 (.ref C) w from rep1)
  exact ⟨C, mc, v, u, rfl, r, kk, q.d x1 (ry F1) h⟩
/-- C.m(e, ..), m a classmethod -/
theorem de_cmeth (K : PySem.W.Frag) {mc : Value} {pp g : Addr} {pl : ι → Sem Bool} (r : ClX.CRead K C mc) (cm : ClX.CMet K C mc m pp g) (Fn : ∀ i, FnR (𝒳 i).prog (𝒳 i).w K (𝒳 i).mg (𝒳 i).base CX0 k g (lift ci s)) (hr : ∀ i, Room k (𝒳 i).A) (ho : DE ci 𝒳 o ta) (ha : DAa ci 𝒳 (e :: es) tr) (hK : ∀ i, (𝒳 i).K = K := by intro _; rfl)
    (hst : ∀ i, starEach (e :: es) (𝒳 i).env = (false, eval e (𝒳 i).env) :: starEach es (𝒳 i).env := by intro _; rfl) (hpl : ∀ i, (backTo pos (starEach es (𝒳 i).env)).any (·.1) = false := by intro _; rfl)
    (ht : ∀ i, eval (.Call (.Attribute o m apos) (e :: es) [] pos) (𝒳 i).env = (do
      let ov ← eval o (𝒳 i).env
      standAt apos.atName
      let (f, first) ← holding [ov] (getMethod ov m (pl i))
      callWith pos f first (backTo pos (starEach (e :: es) (𝒳 i).env)) (backToKw pos (keywordEach [] (𝒳 i).env))) := by intro _; rfl) :
    DE ci 𝒳 (.Call (.Attribute o m apos) (e :: es) [] pos) (fun ρ R => ta ρ fun r => r = .d (.ref C) ∧ tr ρ fun rs => s (.d (.ref C) :: rs) R) := by
  obtain ⟨t1, p1, h1⟩ := ho.ex
  obtain ⟨t2, p2, h2⟩ := ha.ex
  refine ⟨ClX.tCMeth C (lift ci s) E0 t1 t2, fun i => ClX.pe_cmeth (CX := CX0) (pl := pl i) (p1 i) ((hK i).symm ▸ r) ((hK i).symm ▸ cm) ((hK i).symm ▸ Fn i) (hr i) (fun _ _ _ _ _ _ _ h => h.elim) (p2 i) (hst i) (hpl i) (ht i), fun b L F0 H0 ρ σ F H R Q S h q => ?_⟩
  refine h1 b L F0 H0 ρ σ F H _ _ S h fun w H1 F1 r1 x1 rep1 _ k1 => ?_
  obtain ⟨rfl, k1⟩ := k1
  cases (show Rep ci F1 (.ref C) w from rep1)
  refine ⟨rfl, h2 b L F0 H0 ρ σ F1 H1 _ _ (S.go x1) k1 fun vs H2 F2 rs x2 rep2 nm k2 => ?_⟩
  have S2 := (S.go x1).go x2
  refine ⟨b, L, F2, .d (.ref C) :: rs, R, S2.rf, S2.nb, S2.nL, .cons (r := .d (.ref C)) (Rep.ref C) rep2, fun r hr => ?_, k2, q.mono (x1.trans x2)⟩
  rcases List.mem_cons.mp hr with rfl | hr
  · exact fun _ z => nomatch z
  · exact nm r hr
/-- e.f, f a property -/
theorem de_prop (K : PySem.W.Frag) {f : Str} {pp g : Addr} {fd : FuncData} {ps : List Str} (cl : Cls K C) (hp : PropOf K C f pp g) (Fn : ∀ i, FnOk (𝒳 i).prog (𝒳 i).w K (𝒳 i).mg (𝒳 i).base CX0 k g fd ps (lift ci s)) (hb : Binds K fd ps []) (hr : ∀ i, Room (k + 1) (𝒳 i).A) (ha : DE ci 𝒳 a ta) (hK : ∀ i, (𝒳 i).K = K := by intro _; rfl)
    (hab : ∀ i, attributeBase a f (𝒳 i).env (eval a (𝒳 i).env) = eval a (𝒳 i).env := by intro _; rfl) : DE ci 𝒳 (.Attribute a f pos) (fun ρ R => ta ρ fun r => withV r fun x => ∃ fs xs, x = .ins C fs xs ∧ s [.d x] R) := by
  obtain ⟨t1, p1, h1⟩ := ha.ex
  refine ⟨tProp C (lift ci s) [] E0 t1, fun i => pe_prop (CX := CX0) (p1 i) ((hK i).symm ▸ cl) ((hK i).symm ▸ hp) ((hK i).symm ▸ Fn i) (hr i) ((hK i).symm ▸ hb) .nil (fun _ _ _ _ _ _ _ h => h.elim) (hab i), fun b L F0 H0 ρ σ F H R Q S h q => ?_⟩
  refine h1 b L F0 H0 ρ σ F H _ _ S h fun v H1 F1 r1 x1 rep1 _ k1 => ?_
  obtain ⟨x, rx, fs, xs, rfl, k1⟩ := withV_of rep1 k1
  have rx' : Rep ci F1 (.ins C fs xs) v := rx.elim id (fun ⟨_, _, _, z, _⟩ => nomatch z)
  have keep := rx'
  have S1 := S.go x1
  cases rx' with
  | ins hh lf l r qq =>
    refine ⟨_, _, _, rfl, x1.s1 _ _ hh, b, L, F1, [.d (.ins C fs xs)], R, S1.rf, S1.nb, S1.nL, .cons (r := .d (.ins C fs xs)) keep .nil, fun r hr => ?_, k1, q.mono x1⟩
    rcases List.mem_cons.mp hr with rfl | hr
    · exact fun _ z => nomatch z
    · cases hr
end
end DL

/-! the data layer: the operators of a class of the program; [*a, *b]; len(set(..)); where a law begins -/
namespace DL
open PySem PySem.Spec PyProof.Rows L2 VL
open C8 (Cal Met)
section
variable {X : Cx} {k j : Nat} {C : Addr} {sp : Sp}
def rNegO (C : Addr) (sp : Sp) : V → Hp → VK → Prop := fun x H Q => ∃ (a dx : Addr) (fs : List (Str × V)), x = .ref a ∧ H a = some (.ins C dx fs) ∧ sp [.ref a] H Q (fun _ _ _ => False)
theorem un_negO (c : Met X.prog X.w X.K X.mg X.base k C "__neg__" sp []) (hr : Room j X.A) (hk : k ≤ j) : UnR X (unaryOp .USub) (rNegO C sp) := by
  intro pins s σ H x v Q I rx h
  obtain ⟨a, dx, fs, rfl, ha, hs⟩ := h
  obtain ⟨f, fd, ps, ds, cl, me, F, hb, hd⟩ := c.ex
  obtain rfl : v = Value.ref a := rx
  obtain ⟨mA, J, _⟩ := ins_get I.hok ha
  obtain ⟨od, J, _⟩ := J.look
  obtain ⟨mm, hF⟩ := I.fr
  exact PySem.W.ksp_neg hF I.ok.mod.kin J me.at_ me.fn (met_run (hr.mono hk) rfl F hb hd I (vs := [.ref a]) (us := [.ref a]) (.cons rfl .nil) hs)
/-- a op b, both of the class; the result an object -/
def rBinO (C : Addr) (sp : Sp) : R2 := fun x y H Q => ∃ (a dx b dy : Addr) (fs gs : List (Str × V)), x = .ref a ∧ H a = some (.ins C dx fs) ∧ y = .ref b ∧ H b = some (.ins C dy gs) ∧ sp [.ref a, .ref b] H (fun v H' => (∃ c, v = .ref c) ∧ Q v H') (fun _ _ _ => False)
theorem op_binO {op : Operator} {m : Str} (c : Met X.prog X.w X.K X.mg X.base k C m sp []) (hm : PySem.dunder op.info.2 = m) (sf : PySem.W.selfFirst X.K C = true) (hr : Room j X.A) (hk : k ≤ j) : OpR X (binaryOp op) (rBinO C sp) := by
  intro pins s σ H x y v u Q I rx ry h
  obtain ⟨a, dx, b, dy, fs, gs, rfl, ha, rfl, hb', hs⟩ := h
  obtain ⟨f, fd, ps, ds, cl, me, F, hb, hd⟩ := c.ex
  obtain rfl : v = Value.ref a := rx
  obtain rfl : u = Value.ref b := ry
  obtain ⟨mA, J, _⟩ := ins_get I.hok ha
  obtain ⟨od, J, _⟩ := J.look
  obtain ⟨mB, J', _⟩ := ins_get I.hok hb'
  obtain ⟨od', J', _⟩ := J'.look
  obtain ⟨mm, hF⟩ := I.fr
  refine PySem.W.binop_K hF I.ok.mod.kin J J'.type sf (by rw [hm]; exact me.at_) me.fn (thn (met_run (hr.mono hk) rfl F hb hd I (vs := [.ref a, .ref b]) (us := [.ref a, .ref b]) (.cons rfl (.cons rfl .nil)) hs) fun w s' hv => ?_)
  obtain ⟨z, H', I', rz, ⟨c, rfl⟩, q⟩ := hv
  obtain rfl : w = Value.ref c := rz
  exact ⟨.ref c, H', I', rfl, q⟩
end
section
variable {ci : CI} {K : PySem.W.Frag} {ι : Type} {𝒳 : ι → Cx} {C : Addr} {a c e o : Expr} {es : List Expr} {ta tb tf : TD} {tr : TDA} {tk : TDD} {pos pos' p sp_ apos : Pos} {x m : Str} {k j : Nat} {s : DSp}
theorem vr_ins {b : Addr} {F H : Hp} {C : Addr} {fs : List Str} {xs : List D} {v : V} (h : VR ci b F H (.ins C fs xs) v) : Rep ci F (.ins C fs xs) v := h.elim id fun ⟨_, _, _, z, _⟩ => nomatch z
theorem rep_ins {F : Hp} {C : Addr} {fs : List Str} {xs : List D} {v : V} (h : Rep ci F (.ins C fs xs) v) : ∃ a dx gs, v = .ref a ∧ F a = some (.ins C dx gs) := by
  cases h with
  | ins hh lf l r qq => exact ⟨_, _, _, rfl, hh⟩
theorem nm1 {r : Sl} (h : ∀ xs, r ≠ .m xs) : ∀ q ∈ [r], ∀ xs, q ≠ Sl.m xs := fun q hq => by
  rcases List.mem_cons.mp hq with rfl | hq
  · exact h
  · cases hq
theorem nm2 {r r' : Sl} (h : ∀ xs, r ≠ .m xs) (h' : ∀ xs, r' ≠ .m xs) : ∀ q ∈ [r, r'], ∀ xs, q ≠ Sl.m xs := fun q hq => by
  rcases List.mem_cons.mp hq with rfl | hq
  · exact h
  · exact nm1 h' q hq
/-- a def is asked with data -/
theorem lift_go {b L : Addr} {F0 H0 F H : Hp} {ρ : List Sl} {σ : L2.St} {vs : List V} {rs : List Sl} {R : Sl → Prop} {Q : VK} {E : XK} (S : StRep ci b L F0 H0 ρ σ F H) (rep : SlReps ci b L F H rs vs) (nm : ∀ r ∈ rs, ∀ xs, r ≠ .m xs) (h : s rs R) (q : Post ci b L F H R Q) : lift ci s vs H Q E :=
  ⟨b, L, F, rs, R, S.rf, S.nb, S.nL, rep, nm, h, q⟩
theorem de_negO (c' : ∀ i, Met (𝒳 i).prog (𝒳 i).w (𝒳 i).K (𝒳 i).mg (𝒳 i).base k C "__neg__" (lift ci s) []) (hr : ∀ i, Room j (𝒳 i).A) (hk : k ≤ j) (ha : DE ci 𝒳 a ta) : DE ci 𝒳 (.UnaryOp .USub a pos) (fun ρ R => ta ρ fun r => withV r fun x => ∃ fs xs, x = .ins C fs xs ∧ s [.d x] R) := by
  obtain ⟨te1, p1, h1⟩ := ha.ex
  refine ⟨tUn (rNegO C (lift ci s)) te1, fun i => pe_un (un_negO (c' i) (hr i) hk) (p1 i), fun b L F0 H0 ρ σ F H R Q S h q => ?_⟩
  refine h1 b L F0 H0 ρ σ F H _ _ S h fun v H1 F1 r1 x1 rep1 _ k1 => ?_
  obtain ⟨x, rx, fs, xs, rfl, k1⟩ := withV_of rep1 k1
  have rx := vr_ins rx
  obtain ⟨a, dx, gs, rfl, hh⟩ := rep_ins rx
  exact ⟨a, dx, gs, rfl, x1.s1 _ _ hh, lift_go (S.go x1) (.cons (r := .d (.ins C fs xs)) rx .nil) (nm1 fun _ z => nomatch z) k1 (q.mono x1)⟩
/-- is it a thing that has an address -/
def refD : D → Bool
  | .tup _ => true
  | .lst _ => true
  | .ins _ _ _ => true
  | .dct _ _ => true
  | .ref _ => true
  | _ => false
theorem rep_ref {F : Hp} {x : D} {v : V} (h : Rep ci F x v) (e : refD x = true) : ∃ a, v = .ref a := by
  cases h with
  | tup => exact ⟨_, rfl⟩
  | lst => exact ⟨_, rfl⟩
  | ins => exact ⟨_, rfl⟩
  | dct => exact ⟨_, rfl⟩
  | ref => exact ⟨_, rfl⟩
  | _ => cases e
theorem de_binO {op : Operator} (K : PySem.W.Frag) (sf : PySem.W.selfFirst K C = true) (c' : ∀ i, Met (𝒳 i).prog (𝒳 i).w (𝒳 i).K (𝒳 i).mg (𝒳 i).base k C m (lift ci s) []) (hm : PySem.dunder op.info.2 = m) (hr : ∀ i, Room j (𝒳 i).A) (hk : k ≤ j) (ha : DE ci 𝒳 a ta) (hc : DE ci 𝒳 c tb) (hK : ∀ i, (𝒳 i).K = K := by intro _; rfl) :
    DE ci 𝒳 (.BinOp a op c pos) (fun ρ R => ta ρ fun r => withV r fun x => ∃ fs xs, x = .ins C fs xs ∧ tb ρ fun q => withV q fun y => ∃ gs ys, y = .ins C gs ys ∧ s [.d x, .d y] fun r => ∃ z, r = .d z ∧ refD z = true ∧ R (.d z)) := by
  obtain ⟨te1, p1, h1⟩ := ha.ex
  obtain ⟨te2, p2, h2⟩ := hc.ex
  refine ⟨tOp (rBinO C (lift ci s)) te1 te2, fun i => pe_op (op_binO (c' i) hm (by rw [hK i]; exact sf) (hr i) hk) (p1 i) (p2 i), fun b L F0 H0 ρ σ F H R Q S h q => ?_⟩
  refine h1 b L F0 H0 ρ σ F H _ _ S h fun v H1 F1 r1 x1 rep1 _ k1 => ?_
  obtain ⟨x, rx, fs, xs, rfl, k1⟩ := withV_of rep1 k1
  refine h2 b L F0 H0 ρ σ F1 H1 _ _ (S.go x1) k1 fun w H2 F2 r2 x2 rep2 _ k2 => ?_
  obtain ⟨y, ry, gs, ys, rfl, k2⟩ := withV_of rep2 k2
  have rx := (vr_ins rx).mono x2.ff
  have ry := vr_ins ry
  obtain ⟨a, dx, us, rfl, hh⟩ := rep_ins rx
  obtain ⟨b', dy, us', rfl, hh'⟩ := rep_ins ry
  refine ⟨a, dx, b', dy, us, us', rfl, x2.s1 _ _ hh, rfl, x2.s1 _ _ hh', lift_go ((S.go x1).go x2) (.cons (r := .d (.ins C fs xs)) rx (.cons (r := .d (.ins C gs ys)) ry .nil)) (nm2 (fun _ z => nomatch z) fun _ z => nomatch z) k2 fun v3 H3 F3 r3 x3 rep3 fr3 k3 => ?_⟩
  obtain ⟨z, rfl, ez, k3⟩ := k3
  exact ⟨rep_ref rep3 ez, q v3 H3 F3 (.d z) ((x1.trans x2).trans x3) rep3 Fresh.d k3⟩
def eqOF (C : Addr) (s : DSp) : F2 := fun x y R => ∃ fs xs gs ys, x = .ins C fs xs ∧ y = .ins C gs ys ∧ s [.d x, .d y] fun r => ∃ b, r = .d (.bl b) ∧ R (.d (.bl b))
theorem bin_eqO (K : PySem.W.Frag) (C : Addr) (s : DSp) : ∀ (b L : Addr) (F H : Hp) (x y : D) (v w : V) (R : Sl → Prop) (Q : VK), Fr b L F H F H → F b = none → F L = none → VR ci b F H x v → VR ci b F H y w → eqOF C s x y R → Post ci b L F H R Q → rEqO K C (lift ci s) v w H Q := by
  rintro b L F H x y v w R Q fr fb fL hx hy ⟨fs, xs, gs, ys, rfl, rfl, h⟩ q
  have rx := vr_ins hx
  have ry := vr_ins hy
  obtain ⟨a, dx, us, rfl, hh⟩ := rep_ins rx
  obtain ⟨b', dy, us', rfl, hh'⟩ := rep_ins ry
  refine ⟨a, dx, us, rfl, fr.s1 _ _ hh, .inl ⟨b', dy, us', rfl, fr.s1 _ _ hh'⟩, b, L, F, _, _, fr, fb, fL, .cons (r := .d (.ins C fs xs)) rx (.cons (r := .d (.ins C gs ys)) ry .nil), nm2 (fun _ z => nomatch z) (fun _ z => nomatch z), h, fun v3 H3 F3 r3 x3 rep3 fr3 k3 => ?_⟩
  obtain ⟨z, rfl, k3⟩ := k3
  cases (show Rep ci F3 (.bl z) v3 from rep3)
  exact ⟨z, rfl, q.d x3 (Rep.bl z) k3⟩
theorem eqO_sound {te1 te2 : TE} {K : PySem.W.Frag}
    (h1 : ∀ (b L : Addr) (F0 H0 : Hp) (ρ : List Sl) (σ : L2.St) (F H : Hp) (R : Sl → Prop) (Q : VK), StRep ci b L F0 H0 ρ σ F H → ta ρ R → Post ci b L F H R Q → te1 σ H Q)
    (h2 : ∀ (b L : Addr) (F0 H0 : Hp) (ρ : List Sl) (σ : L2.St) (F H : Hp) (R : Sl → Prop) (Q : VK), StRep ci b L F0 H0 ρ σ F H → tb ρ R → Post ci b L F H R Q → te2 σ H Q)
    (b L : Addr) (F0 H0 : Hp) (ρ : List Sl) (σ : L2.St) (F H : Hp) (R : Sl → Prop) (Q : VK) (S : StRep ci b L F0 H0 ρ σ F H) (h : dBin (eqOF C s) ta tb ρ R) (q : Post ci b L F H R Q) : tOp (rEqO K C (lift ci s)) te1 te2 σ H Q := by
  refine h1 b L F0 H0 ρ σ F H _ _ S h fun v H1 F1 r1 x1 rep1 _ k1 => ?_
  obtain ⟨x, rx, k1⟩ := withV_of rep1 k1
  refine h2 b L F0 H0 ρ σ F1 H1 _ _ (S.go x1) k1 fun w H2 F2 r2 x2 rep2 _ k2 => ?_
  obtain ⟨y, ry, k2⟩ := withV_of rep2 k2
  have S2 := (S.go x1).go x2
  exact bin_eqO K C s b L F2 H2 x y v w R Q S2.rf S2.nb S2.nL (rx.fr x2) ry k2 (q.mono (x1.trans x2))
theorem de_eqO (K : PySem.W.Frag) (c' : ∀ i, Met (𝒳 i).prog (𝒳 i).w (𝒳 i).K (𝒳 i).mg (𝒳 i).base k C "__eq__" (lift ci s) []) (hr : ∀ i, Room j (𝒳 i).A) (hk : k ≤ j) (ha : DE ci 𝒳 a ta) (hc : DE ci 𝒳 c tb) (hm : behindInMarks .Eq c = false := by exact nobehind _ (by decide) (by decide)) (hK : ∀ i, (𝒳 i).K = K := by intro _; rfl) : DE ci 𝒳 (.Compare a [.Eq] [c] pos) (dBin (eqOF C s) ta tb) := by
  obtain ⟨te1, p1, h1⟩ := ha.ex
  obtain ⟨te2, p2, h2⟩ := hc.ex
  exact ⟨tOp (rEqO K C (lift ci s)) te1 te2, fun i => pe_cmpR (by rw [← hK i]; exact op_eqO (c' i) (hr i) hk) (p1 i) (p2 i) hm, eqO_sound h1 h2⟩
theorem dt_eqO (K : PySem.W.Frag) (c' : ∀ i, Met (𝒳 i).prog (𝒳 i).w (𝒳 i).K (𝒳 i).mg (𝒳 i).base k C "__eq__" (lift ci s) []) (hr : ∀ i, Room j (𝒳 i).A) (hk : k ≤ j) (ha : DE ci 𝒳 a ta) (hc : DE ci 𝒳 c tb) (hm : behindInMarks .Eq c = false := by exact nobehind _ (by decide) (by decide)) (hK : ∀ i, (𝒳 i).K = K := by intro _; rfl) : DT ci 𝒳 (.Compare a [.Eq] [c] pos) (dB (dBin (eqOF C s) ta tb)) := by
  obtain ⟨te1, p1, h1⟩ := ha.ex
  obtain ⟨te2, p2, h2⟩ := hc.ex
  refine ⟨_, fun i => pt_cmpR (by have z := op_eqO (c' i) (hr i) hk; rw [hK i] at z; exact z) (p1 i) (p2 i) hm, fun b L F0 H0 ρ σ F H R Q S h q => ?_⟩
  exact eqO_sound h1 h2 b L F0 H0 ρ σ F H _ _ S h fun v H1 F1 r1 x1 rep1 _ k1 => by
    obtain ⟨x, rx, k, rfl, kq⟩ := withV_of rep1 k1
    exact ⟨k, rx.bl, q k H1 F1 x1 kq⟩
/-! ### isinstance(x, C), C a class of the program -/
/-! ### [*a, ..] -/
theorem dk_star (K : PySem.W.Frag) (ha : DE ci 𝒳 a ta) (hr : DK ci 𝒳 es tk) (hK : ∀ i, (𝒳 i).K = K := by intro _; rfl) (hs : ∀ i, starEach (.Starred a p :: es) (𝒳 i).env = (true, eval a (𝒳 i).env) :: starEach es (𝒳 i).env := by intro _; rfl) : DK ci 𝒳 (.Starred a p :: es) (fun ρ R => ta ρ fun r => withV r fun y => ∃ xs, (y = .tup xs ∨ y = .lst xs) ∧ tk ρ fun ys => R (xs ++ ys)) := by
  obtain ⟨t1, p1, h1⟩ := ha.ex
  obtain ⟨t2, p2, h2⟩ := hr.ex
  refine ⟨StX.tStar K t1 t2, fun i => by rw [← hK i]; exact StX.pa_star (p1 i) (p2 i) (hs i), fun b L F0 H0 ρ σ F H R Q S h q => ?_⟩
  refine h1 b L F0 H0 ρ σ F H _ _ S h fun v H1 F1 r1 x1 rep1 _ k1 => ?_
  obtain ⟨y, ry, xs, ey, k1⟩ := withV_of rep1 k1
  obtain ⟨pp, vs, rfl, hq, rp⟩ := rep_sq (K := K) x1.s1 ry ey
  refine ⟨pp, vs, rfl, hq, h2 b L F0 H0 ρ σ F1 H1 _ _ (S.go x1) k1 fun us H2 F2 ys x2 rep2 k2 => ?_⟩
  exact q _ H2 F2 _ (x1.trans x2) ((rp.mono x2.ff).append rep2) k2
/-! ### len(set(xs)), different ints -/
theorem de_lenSetN (K : PySem.W.Frag) {p2 q : Pos} (hc : ∀ i, (𝒳 i).calm = true) (hm : ∀ i, (𝒳 i).mg "len" = none) (hm2 : ∀ i, (𝒳 i).mg "set" = none) (ha : DE ci 𝒳 a ta) (hg : ∀ i, Gl (𝒳 i) "len" := by intro _; rfl) (hg2 : ∀ i, Gl (𝒳 i) "set" := by intro _; rfl) (hK : ∀ i, (𝒳 i).K = K := by intro _; rfl)
    (na : ∀ i, starEach [a] (𝒳 i).env = (false, eval a (𝒳 i).env) :: starEach [] (𝒳 i).env := by intro _; rfl) : DE ci 𝒳 (.Call (.Name "len" p) [.Call (.Name "set" p2) [a] [] q] [] pos) (fun ρ R => ta ρ fun r => withV r fun y => ∃ ns : List Int, y = .lst (ns.map D.int) ∧ ns.Nodup ∧ ns.length ≤ 4000 ∧ R (.d (.int (ns.length : Nat)))) := by
  obtain ⟨t1, p1, h1⟩ := ha.ex
  refine ⟨RZ.tLenSetI K t1, fun i => by rw [← hK i]; exact RZ.pe_lenSetI (hg i) (hm i) (hg2 i) (hm2 i) (p1 i) (hc i) (na i), fun b L F0 H0 ρ σ F H R Q S h q => ?_⟩
  refine h1 b L F0 H0 ρ σ F H _ _ S h fun v H1 F1 r1 x1 rep1 _ k1 => ?_
  obtain ⟨y, ry, ns, rfl, nd, hl, k1⟩ := withV_of rep1 k1
  obtain ⟨pp, vs, rfl, hq, rp⟩ := ry.lst x1.s1
  have ev := reps_ints rp
  subst ev
  exact ⟨pp, ns, rfl, SqL.of hq, nd, hl, q.d x1 (Rep.int _) k1⟩
end
/-! ### the law's beginning -/
section
variable {ci : CI} {P : Program} {w : World} {K : PySem.W.Frag} {mg : Str → Option Value} {base : Heap}
/-- what is asked of a law: it returns True -/
def spLawD (K : PySem.W.Frag) : Sp := fun vs H Q _ => ∃ (a : Addr) (ns : List Int), vs = [.ref a] ∧ SqL K H a (ns.map V.int) ∧ ns.length ≤ 63 ∧ ∀ H', Q (.bl true) H'
theorem okLaw {st st0 : Stmt} {rest : List Stmt} {f : Addr} {fd : FuncData} {N : List Str} {k : Nat} (F : Fun K "law" "law" st f fd) (Sc : FnScope N ["_law_script"] (defScope st)) (eb : defBody st = st0 :: rest) (hN : 2 ≤ N.length)
    (h0 : ∀ i : Ent k "law" (defScope st) f, PS (entX P w K mg base N k "law" (defScope st) f i) st0 (tAsg (tCall (spBox K) [] E0 (tCons (tVar 0) tNil)) (gName 1)))
    (h : ∃ t, DSs ci (entX P w K mg base N k "law" (defScope st) f) rest t ∧ t { nx := fun _ => False, rt := fun r => r = .d (.bl true) } ([.no, .box] ++ List.replicate (N.length - 2) .no)) : FnOk P w K mg base CX0 (k + 1) f fd ["_law_script"] (spLawD K) := by
  obtain ⟨t, hb, hs⟩ := h
  obtain ⟨ts, hp, hq⟩ := hb.ex
  refine F.ok Sc (fun vs H Q E h => ?_) fun cdv A outer s0 H vs Q E hr h => ?_
  · obtain ⟨a, ns, rfl, _⟩ := h
    rfl
  obtain ⟨a, ns, rfl, hS, h63, q⟩ := h
  refine ⟨_, by rw [eb]; exact pss_cons (h0 ⟨cdv, A, outer, s0, H, E, hr⟩) (hp ⟨cdv, A, outer, s0, H, E, hr⟩), ?_⟩
  have e0 : (L2.start N [V.ref a])[0]? = some (some (V.ref a)) := rfl
  refine ⟨.ref a, e0, a, ns, rfl, hS, h63, fun b L H' nb nL sm B => ?_⟩
  have ln : (L2.start N [V.ref a]).length = N.length := by
    unfold L2.start
    rw [List.length_append, List.length_replicate, List.length_map]
    show 1 + (N.length - 1) = N.length
    omega
  have fr : Fr b L (fun _ => none) H' (fun _ => none) H' := Fr.refl (fun _ _ z => nomatch z) B
  have only : ∀ (i : Nat) r, (([.no, .box] : List Sl) ++ List.replicate (N.length - 2) .no)[i]? = some r → r ≠ .no → i = 1 ∧ r = .box := fun i r e n => by
    match i, e with
    | 0, e => cases e; exact absurd rfl n
    | 1, e => cases e; exact ⟨rfl, rfl⟩
    | i + 2, e =>
      have e : (List.replicate (N.length - 2) Sl.no)[i]? = some r := e
      rw [List.getElem?_replicate] at e
      split at e
      · cases e; exact absurd rfl n
      · cases e
  have S : StRep ci b L (fun _ => none) H' ([.no, .box] ++ List.replicate (N.length - 2) .no) ((L2.start N [V.ref a]).set 1 (some (.ref b))) (fun _ => none) H' := by
    refine ⟨fr, ⟨rfl, rfl⟩, ?_, fun i r e n => ?_, fun i xs a e => ?_, fun i xs a e => ?_, fun i j xs ys a e => ?_⟩
    · rw [List.length_set, ln, List.length_append, List.length_replicate]
      show 2 + (N.length - 2) = N.length
      omega
    · obtain ⟨rfl, rfl⟩ := only i r e n
      exact ⟨.ref b, List.getElem?_set_self (by rw [ln]; omega), rfl⟩
    · have z := (only i _ e (fun z => nomatch z)).2
      cases z
    · have z := (only i _ e (fun z => nomatch z)).2
      cases z
    · have z := (only i _ e (fun z => nomatch z)).2
      cases z
  refine hq b L _ H' _ _ _ H' _ _ S hs ⟨fun _ _ _ _ _ _ z => z.elim, fun _ _ _ _ _ _ z => z.elim, fun _ _ _ _ _ _ z => z.elim, fun v H2 F2 r x rep fr2 k => ?_⟩
  subst k
  cases (show Rep ci F2 (.bl true) v from rep)
  exact q H2
end
end DL

/-! the data layer: isinstance of a class of the program; equality of coded data; good terms and rules as data -/
namespace DL
open PySem PySem.Spec PyProof.Rows L2 VL
open C8 (Cal Met)
/-! ### isinstance(x, C) -/
structure InF (K : PySem.W.Frag) (C : Addr) : Prop where
  ca : PySem.W.findIn K (.ref C) "__class__" = some (some (.builtin "object.__class__"))
  cn : PySem.W.specialIn K (.builtin "object.__class__") "__get__" = some (some (.builtin "getset_descriptor.__get__"))
  ct : PySem.W.takesIn K (.builtin "object.__class__") = some true
  cm : PySem.W.mroIn K C (.type "object") = some true
  self : PySem.W.kitOne K (.ref C) (.ref C) = some true
/-- what a class of the program must have, as the written part tells -/
structure ClF (K : PySem.W.Frag) (C fI : Addr) : Prop where
  cl : Cls K C
  inF : InF K C
  mak : Mk K C fI
  rd : ClX.CRead K C (.type "type")
  sf : PySem.W.selfFirst K C = true
def isCF (C : Addr) : F1 := fun x R => ∃ fs xs, x = .ins C fs xs ∧ R (.d (.bl true))
section
variable {ci : CI} {ι : Type} {𝒳 : ι → Cx} {a : Expr} {ta : TD} {pos : Pos}
theorem de_isiC (K : PySem.W.Frag) {C : Addr} {p q : Pos} {y : Str} (cl : Cls K C) (I : InF K C) (hm : ∀ i, (𝒳 i).mg "isinstance" = none) (hy : ∀ i, (𝒳 i).mg y = some (.ref C)) (ha : DE ci 𝒳 a ta)
    (hg : ∀ i, Gl (𝒳 i) "isinstance" := by intro _; rfl) (hg2 : ∀ i, Gl (𝒳 i) y := by intro _; rfl) (hK : ∀ i, (𝒳 i).K = K := by intro _; rfl) (hd : (y == ("__debug__" : Str)) = false := by decide)
    (he : ∀ i, starEach [a, .Name y q] (𝒳 i).env = (false, eval a (𝒳 i).env) :: starEach [.Name y q] (𝒳 i).env := by intro _; rfl) (he2 : ∀ i, starEach [.Name y q] (𝒳 i).env = (false, eval (.Name y q) (𝒳 i).env) :: starEach [] (𝒳 i).env := by intro _; rfl)
    (hpl : ∀ i, (backTo pos (starEach [.Name y q] (𝒳 i).env)).any (·.1) = false := by intro _; rfl) : DE ci 𝒳 (.Call (.Name "isinstance" p) [a, .Name y q] [] pos) (dUna (isCF C) ta) := by
  obtain ⟨t1, p1, h1⟩ := ha.ex
  refine ⟨tCB (rIsi K) (tCons t1 (tCons (tC (.ref C)) tNil)), fun i => pe_callB (call_isiA K (hK i)) (hg i) (hm i) (by decide +kernel) (pa_cons (p1 i) (pa_cons (pe_glob (v := .ref C) (hg2 i) (hy i) rfl hd) pa_nil (he2 i)) (he i)) (by decide) (by decide) (he i) (hpl i), fun b L F0 H0 ρ σ F H R Q S h q => ?_⟩
  refine h1 b L F0 H0 ρ σ F H _ _ S h fun v H1 F1 r x1 rep fr k1 => ?_
  obtain ⟨x, rx, fs, xs, rfl, k1⟩ := withV_of rep k1
  obtain ⟨aa, dx, gs, rfl, hh⟩ := rep_ins (vr_ins rx)
  exact ⟨.ref aa, .ref C, .ref C, .ref C, true, rfl, .own _, .base (.ins (x1.s1 _ _ hh) cl I.ca I.cn I.ct I.cm), I.self, q.d x1 (Rep.bl true) k1⟩
end
/-! ### coded data -/
structure Enc (α : Type) [DecidableEq α] where
  d : α → D
  p : α → PyData
  ok : α → Prop
  n : Nat
  py : ∀ a, Py (d a) (p a)
  eqv : ∀ a b, PyData.eqv (p a) (p b) = decide (a = b)
  lay : ∀ a, ok a → PyData.canLay0 (p a) = true
  dep : ∀ a, PyData.depth (p a) ≤ n
def encI : Enc Int where
  d := D.int
  p := PyData.int
  ok := fun _ => True
  n := 0
  py := fun a => .int a
  eqv := fun a b => by
    unfold PyData.eqv
    rw [Bool.eq_iff_iff]
    simp
  lay := fun _ _ => rfl
  dep := fun _ => Nat.le_refl _
def encS : Enc Str where
  d := D.str
  p := PyData.str
  ok := fun x => PyData.strOk x = true
  n := 0
  py := fun a => .str a
  eqv := fun a b => by
    unfold PyData.eqv
    rw [Bool.eq_iff_iff]
    simp
  lay := fun a h => h
  dep := fun _ => Nat.le_refl _
section
variable {α : Type} [DecidableEq α] (E : Enc α)
theorem pys_map : ∀ (xs : List α), Pys (xs.map E.d) (xs.map E.p)
  | [] => .nil
  | x :: xs => .cons (E.py x) (pys_map xs)
theorem eqvAll_map : ∀ (xs ys : List α), PyData.eqvAll (xs.map E.p) (ys.map E.p) = decide (xs = ys)
  | [], [] => rfl
  | [], _ :: _ => rfl
  | _ :: _, [] => rfl
  | x :: xs, y :: ys => by
    show (PyData.eqv (E.p x) (E.p y) && PyData.eqvAll (xs.map E.p) (ys.map E.p)) = _
    rw [E.eqv, eqvAll_map xs ys, Bool.eq_iff_iff]
    simp
theorem layAll_map : ∀ (xs : List α), (∀ x ∈ xs, E.ok x) → PyData.canLayAll0 (xs.map E.p) = true
  | [], _ => rfl
  | x :: xs, h => by
    show (PyData.canLay0 (E.p x) && PyData.canLayAll0 (xs.map E.p)) = true
    rw [E.lay x (h x List.mem_cons_self), layAll_map xs fun y hy => h y (List.mem_cons_of_mem _ hy)]
    rfl
theorem depAll_map : ∀ (xs : List α), PyData.depthAll (xs.map E.p) ≤ E.n
  | [] => Nat.zero_le _
  | x :: xs => by
    show max (PyData.depth (E.p x)) (PyData.depthAll (xs.map E.p)) ≤ E.n
    exact Nat.max_le.mpr ⟨E.dep x, depAll_map xs⟩
def encT : Enc (List α) where
  d := fun xs => .tup (xs.map E.d)
  p := fun xs => .tuple (xs.map E.p)
  ok := fun xs => ∀ x ∈ xs, E.ok x
  n := E.n + 1
  py := fun xs => .tup (pys_map E xs)
  eqv := fun xs ys => eqvAll_map E xs ys
  lay := fun xs h => layAll_map E xs h
  dep := fun xs => Nat.succ_le_succ (depAll_map E xs)
def encL : Enc (List α) where
  d := fun xs => .lst (xs.map E.d)
  p := fun xs => .list (xs.map E.p)
  ok := fun xs => ∀ x ∈ xs, E.ok x
  n := E.n + 1
  py := fun xs => .lst (pys_map E xs)
  eqv := fun xs ys => eqvAll_map E xs ys
  lay := fun xs h => layAll_map E xs h
  dep := fun xs => Nat.succ_le_succ (depAll_map E xs)
theorem Enc.shaped {E : Enc α} {a : α} (h : E.ok a) (hn : E.n ≤ 64 := by decide) : SeqAt.shaped (E.p a) = true := by
  show (PyData.canLay0 (E.p a) && decide (PyData.depth (E.p a) ≤ 64)) = true
  rw [E.lay a h, decide_eq_true (Nat.le_trans (E.dep a) hn)]
  rfl
theorem eqF_T {xs ys : List α} {R : Sl → Prop} (hx : ∀ x ∈ xs, E.ok x) (hy : ∀ x ∈ ys, E.ok x) (h : R (.d (.bl (decide (xs = ys))))) (hn : E.n + 1 ≤ 64 := by decide) : eqF (.tup (xs.map E.d)) (.tup (ys.map E.d)) R := by
  refine ⟨_, _, (encT E).py xs, (encT E).py ys, Enc.shaped (E := encT E) hx hn, Enc.shaped (E := encT E) hy hn, ?_⟩
  rw [(encT E).eqv]
  exact h
theorem eqF_L {xs ys : List α} {R : Sl → Prop} (hx : ∀ x ∈ xs, E.ok x) (hy : ∀ x ∈ ys, E.ok x) (h : R (.d (.bl (decide (xs = ys))))) (hn : E.n + 1 ≤ 64 := by decide) : eqF (.lst (xs.map E.d)) (.lst (ys.map E.d)) R := by
  refine ⟨_, _, (encL E).py xs, (encL E).py ys, Enc.shaped (E := encL E) hx hn, Enc.shaped (E := encL E) hy hn, ?_⟩
  rw [(encL E).eqv]
  exact h
end
/-! ### terms -/
abbrev Tm := Int × Int
def tD (t : Tm) : D := .tup [.int t.1, .int t.2]
def tP (t : Tm) : PyData := .tuple [.int t.1, .int t.2]
def encTm : Enc Tm where
  d := tD
  p := tP
  ok := fun _ => True
  n := 1
  py := fun t => .tup (.cons (.int _) (.cons (.int _) .nil))
  eqv := fun a b => by
    have e := (encT encI).eqv [a.1, a.2] [b.1, b.2]
    have e2 : PyData.eqv (tP a) (tP b) = decide ([a.1, a.2] = [b.1, b.2]) := e
    rw [e2, Bool.eq_iff_iff]
    simp [Prod.ext_iff]
  lay := fun _ _ => rfl
  dep := fun _ => Nat.le_refl _
/-- terms of a rule -/
structure Good (n : Int) (ts : List Tm) : Prop where
  r : ∀ t ∈ ts, 0 ≤ t.1 ∧ t.1 < n ∧ (t.2 = 1 ∨ t.2 = -1)
  nd : (ts.map (·.1)).Nodup
theorem nodup_sub {α : Type} [DecidableEq α] : ∀ {xs ys : List α}, xs.Nodup → (∀ x ∈ xs, x ∈ ys) → xs.length ≤ ys.length
  | [], _, _, _ => Nat.zero_le _
  | x :: xs, ys, nd, h => by
    obtain ⟨h1, h2⟩ := List.nodup_cons.mp nd
    have hm := h x List.mem_cons_self
    have ih := nodup_sub (ys := ys.erase x) h2 fun y hy => (List.mem_erase_of_ne (fun (e : y = x) => h1 (by rw [← e]; exact hy))).mpr (h y (List.mem_cons_of_mem _ hy))
    rw [List.length_erase_of_mem hm] at ih
    have := List.length_pos_of_mem hm
    show xs.length + 1 ≤ ys.length
    omega
theorem nodup_bound {ns : List Int} (nd : ns.Nodup) {n : Nat} (h : ∀ x ∈ ns, 0 ≤ x ∧ x < (n : Int)) : ns.length ≤ n := by
  have nd2 : (ns.map Int.toNat).Nodup := by
    refine List.pairwise_map.mpr (nd.imp_of_mem fun {a b} ha hb ne e => ne ?_)
    have := h a ha
    have := h b hb
    omega
  have sub : ∀ x ∈ ns.map Int.toNat, x ∈ List.range n := fun x hx => by
    obtain ⟨y, hy, rfl⟩ := List.mem_map.mp hx
    have := h y hy
    exact List.mem_range.mpr (by omega)
  have := nodup_sub nd2 sub
  simpa using this
theorem Good.len {n : Nat} {ts : List Tm} (h : Good n ts) : ts.length ≤ n := by
  have := nodup_bound (n := n) h.nd fun x hx => by
    obtain ⟨t, ht, rfl⟩ := List.mem_map.mp hx
    exact ⟨(h.r t ht).1, (h.r t ht).2.1⟩
  simpa using this
theorem Good.mono {n m : Int} {ts : List Tm} (h : Good n ts) (l : n ≤ m) : Good m ts := ⟨fun t ht => ⟨(h.r t ht).1, Int.lt_of_lt_of_le (h.r t ht).2.1 l, (h.r t ht).2.2⟩, h.nd⟩
theorem Good.sub {n : Int} {ts us : List Tm} (h : Good n ts) (s : us.Sublist ts) : Good n us := ⟨fun t ht => h.r t (s.subset ht), h.nd.sublist (s.map _)⟩
def neg (ts : List Tm) : List Tm := ts.map fun t => (t.1, -t.2)
theorem Good.neg {n : Int} {ts : List Tm} (h : Good n ts) : Good n (neg ts) := by
  refine ⟨fun t ht => ?_, ?_⟩
  · obtain ⟨u, hu, rfl⟩ := List.mem_map.mp ht
    obtain ⟨a, b, c⟩ := h.r u hu
    exact ⟨a, b, c.elim (fun e => .inr (by show -u.2 = -1; omega)) fun e => .inl (by show -u.2 = 1; omega)⟩
  · have e : (DL.neg ts).map (·.1) = ts.map (·.1) := by
      unfold DL.neg
      rw [List.map_map]
      rfl
    rw [e]
    exact h.nd
def more (a b : List Tm) : List Tm := b.filter fun t => !decide (t.1 ∈ a.map (·.1))
def joined (a b : List Tm) : List Tm := a ++ more a b
theorem Good.joined {n : Int} {a b : List Tm} (ha : Good n a) (hb : Good n b) : Good n (joined a b) := by
  refine ⟨fun t ht => ?_, ?_⟩
  · rcases List.mem_append.mp ht with h | h
    · exact ha.r t h
    · exact hb.r t (List.mem_filter.mp h).1
  · unfold DL.joined
    rw [List.map_append]
    refine List.nodup_append.mpr ⟨ha.nd, (hb.sub List.filter_sublist).nd, fun x hx y hy e => ?_⟩
    subst e
    obtain ⟨t, ht, rfl⟩ := List.mem_map.mp hy
    have := (List.mem_filter.mp ht).2
    simp only [Bool.not_eq_true', decide_eq_false_iff_not] at this
    exact this hx
theorem neg_neg_ (ts : List Tm) : neg (neg ts) = ts := by
  unfold neg
  rw [List.map_map]
  conv => rhs; rw [← List.map_id ts]
  exact List.map_congr_left fun t _ => by simp
theorem joined_self (a : List Tm) : joined a a = a := by
  unfold joined more
  have : a.filter (fun t => !decide (t.1 ∈ a.map (·.1))) = [] := List.filter_eq_nil_iff.mpr fun t ht => by
    have : t.1 ∈ a.map (·.1) := List.mem_map.mpr ⟨t, ht, rfl⟩
    simp only [this, decide_true]
    decide
  rw [this, List.append_nil]
theorem joined_assoc (a b c : List Tm) : joined (joined a b) c = joined a (joined b c) := by
  unfold joined more
  rw [List.append_assoc]
  congr 1
  rw [List.filter_append]
  congr 1
  rw [List.filter_filter]
  refine List.filter_congr fun t ht => ?_
  rw [Bool.eq_iff_iff]
  simp only [Bool.not_eq_true', decide_eq_false_iff_not, List.map_append, List.mem_append, Bool.and_eq_true, not_or]
  constructor
  · rintro ⟨h1, h2⟩
    refine ⟨h1, fun hm => h2 ?_⟩
    obtain ⟨u, hu, e⟩ := List.mem_map.mp hm
    refine List.mem_map.mpr ⟨u, List.mem_filter.mpr ⟨hu, ?_⟩, e⟩
    simp only [Bool.not_eq_true', decide_eq_false_iff_not]
    rw [e]
    exact h1
  · rintro ⟨h1, h2⟩
    refine ⟨h1, fun hm => h2 ?_⟩
    obtain ⟨u, hu, e⟩ := List.mem_map.mp hm
    exact List.mem_map.mpr ⟨u, (List.mem_filter.mp hu).1, e⟩
end DL
namespace DL
theorem Good.snoc {n m d : Int} {ts : List Tm} (h : Good n ts) (h1 : 0 ≤ m) (h2 : m < n) (h3 : d = 1 ∨ d = -1) (h4 : m ∉ ts.map (·.1)) : Good n (ts ++ [(m, d)]) := by
  refine ⟨fun t ht => ?_, ?_⟩
  · rcases List.mem_append.mp ht with ht | ht
    · exact h.r t ht
    · rw [List.mem_singleton.mp ht]
      exact ⟨h1, h2, h3⟩
  · rw [List.map_append]
    refine List.nodup_append.mpr ⟨h.nd, by simp, fun x hx y hy e => ?_⟩
    have : y = m := by simpa using hy
    subst e
    subst this
    exact h4 hx
theorem mem_erase_nd {α : Type} {xs : List α} (nd : xs.Nodup) {i : Nat} (hi : i < xs.length) {y : α} (h : y ∈ xs.eraseIdx i) : y ∈ xs ∧ y ≠ xs[i] := by
  obtain ⟨j, hj, ne, e⟩ := List.mem_eraseIdx_iff_getElem.mp h
  have p := List.pairwise_iff_getElem.mp nd
  refine ⟨by rw [← e]; exact List.getElem_mem hj, fun z => ?_⟩
  rw [← e] at z
  rcases Nat.lt_trichotomy j i with c | c | c
  · exact p j i hj hi c z
  · exact ne c
  · exact p i j hi hj c z.symm
theorem nodup_range (n : Nat) : ((List.range n).map fun (i : Nat) => (0 + (i : Int))).Nodup := by
  refine List.pairwise_map.mpr (List.pairwise_lt_range.imp fun {a b} h e => ?_)
  omega
theorem rngD_map (n : Nat) : rngD 0 n = ((List.range n).map fun (i : Nat) => (0 + (i : Int))).map D.int := by
  unfold rngD
  rw [List.map_map]
  rfl
end DL

/-! what the defs of kinds and rules promise, over data -/
namespace DL
open PySem PySem.Spec PyProof.Rows L2 VL
def intD (lo hi : Int) : D → Bool
  | .int i => decide (lo ≤ i) && decide (i ≤ hi)
  | _ => false
def plK (x : D) : Prop := (isK "int" x).isSome = true
def dInteger : DSp := fun rs R => ∃ r x lo hi, rs = [r, .d (.int lo), .d (.int hi)] ∧ r.see = some x ∧ plK x ∧ R (.d (.bl (intD lo hi x)))
def nzD : D → Bool
  | .int i => decide (i ≠ 0)
  | _ => true
def termB (c : Int) : D → Bool
  | .tup [a, b] => intD 0 (c - 1) a && (intD (-1) 1 b && nzD b)
  | _ => false
def plT (x : D) : Prop := plK x ∧ ∀ xs, x = .tup xs → ∀ y ∈ xs, plK y
def dTerm : DSp := fun rs R => ∃ r x c, rs = [r, .d (.int c)] ∧ r.see = some x ∧ plT x ∧ R (.d (.bl (termB c x)))
def tsD (ts : List Tm) : D := .tup (ts.map tD)
def dTerms : DSp := fun rs R => ∃ ts, rs = [.d (tsD ts)] ∧ Good 8 ts ∧ R (.d (.bl true))
def dInit : ISp := fun rs R => ∃ ts, rs = [.d (tsD ts)] ∧ Good 8 ts ∧ R ["terms"] [tsD ts]
def rD (C : Addr) (ts : List Tm) : D := .ins C ["terms"] [tsD ts]
def dListed (C : Addr) : DSp := fun rs R => ∃ r x ts, rs = [.d (.ref C), r] ∧ r.see = some x ∧ (x = .lst (ts.map tD) ∨ x = .tup (ts.map tD)) ∧ Good 8 ts ∧ R (.d (rD C ts))
def marksD (ts : List Tm) : D := .tup ((ts.map (·.1)).map D.int)
def dMarks (C : Addr) : DSp := fun rs R => ∃ ts, rs = [.d (rD C ts)] ∧ ts.length ≤ 1000 ∧ R (.d (marksD ts))
def dEq (C : Addr) : DSp := fun rs R => ∃ as bs, rs = [.d (rD C as), .d (rD C bs)] ∧ R (.d (.bl (decide (as = bs))))
def dNeg (C : Addr) : DSp := fun rs R => ∃ ts, rs = [.d (rD C ts)] ∧ Good 8 ts ∧ R (.d (rD C (neg ts)))
def dAdd (C : Addr) : DSp := fun rs R => ∃ as bs, rs = [.d (rD C as), .d (rD C bs)] ∧ Good 8 as ∧ Good 8 bs ∧ R (.d (rD C (joined as bs)))
theorem eqX_int (a b : Int) : eqX (.int a) (.int b) = decide (a = b) := rfl
theorem inX_marks (x : Int) (ms : List Int) : inX (.int x) (ms.map D.int) = decide (x ∈ ms) := by
  unfold inX
  rw [Bool.eq_iff_iff]
  simp only [List.any_map, List.any_eq_true, Function.comp, eqX_int, decide_eq_true_eq]
  exact ⟨fun ⟨y, hy, e⟩ => e ▸ hy, fun h => ⟨x, h, rfl⟩⟩
def pickT : D → D
  | .tup [a, _] => a
  | _ => .non
def negT : D → D
  | .tup [a, .int j] => .tup [a, .int (-j)]
  | _ => .non
theorem pick_map (ts : List Tm) : (ts.map tD).map pickT = (ts.map (·.1)).map D.int := by
  rw [List.map_map, List.map_map]
  rfl
theorem neg_map (ts : List Tm) : (ts.map tD).map negT = (neg ts).map tD := by
  unfold neg
  rw [List.map_map, List.map_map]
  rfl
def outT (ms : List Int) : D → Bool
  | .tup [.int a, _] => !decide (a ∈ ms)
  | _ => false
theorem more_map (as bs : List Tm) : ((bs.map tD).filter (outT (as.map (·.1)))).map (fun x => x) = (more as bs).map tD := by
  rw [List.map_id', List.filter_map]
  rfl
def dLRule : DSp := fun rs R => ∃ n : Nat, rs = [.box, .d (.int (n : Int))] ∧ n ≤ 8 ∧ ∀ ts, ts.length = n → Good n ts → R (.m (ts.map tD))
def dLJoined : DSp := fun rs R => ∃ r q as bs, rs = [r, q] ∧ r.see = some (.lst (as.map tD)) ∧ q.see = some (.lst (bs.map tD)) ∧ as.length ≤ 100 ∧ bs.length ≤ 100 ∧ R (.m ((joined as bs).map tD))
def lrI (n : Nat) (i : Nat) (ρ : List Sl) : Prop := ∃ (left : List Int) (ts : List Tm) (x4 x5 : Sl), ρ = [.box, .d (.int (n : Int)), .m (left.map D.int), .m (ts.map tD), x4, x5] ∧ ts.length = i ∧ left.length + i = n ∧ Good n ts ∧ left.Nodup ∧ ∀ x ∈ left, 0 ≤ x ∧ x < (n : Int) ∧ x ∉ ts.map (·.1)
def rowD (r : List Tm) : D := .lst (r.map tD)
theorem cut_map {xs : List Tm} {lo hi : Option Int} : ∃ ys : List Tm, cutD (xs.map tD) lo hi = ys.map tD ∧ ys.Sublist xs := by
  unfold cutD
  rw [← List.map_drop, ← List.map_take]
  exact ⟨_, rfl, (List.take_sublist _ _).trans (List.drop_sublist _ _)⟩
theorem slice_map {ts : List Tm} {lo hi : Option Int} {R : Sl → Prop} (h : ∀ us : List Tm, us.Sublist ts → R (.m (us.map tD))) : sliceF2 (.lst (ts.map tD)) lo hi R := by
  obtain ⟨us, eu, su⟩ := cut_map (xs := ts) (lo := lo) (hi := hi)
  show R (.m (cutD (ts.map tD) lo hi))
  rw [eu]
  exact h us su
theorem marks_neg (ts : List Tm) : marksD (neg ts) = marksD ts := by
  have e : (neg ts).map (·.1) = ts.map (·.1) := by
    unfold neg
    rw [List.map_map]
    rfl
  unfold marksD
  rw [e]
theorem dep_marks {ts : List Tm} (h : ts.length ≤ 1000000) : Dep 3 (marksD ts) := .tup (by simpa using h) fun y hy => by
  obtain ⟨t, ht, rfl⟩ := List.mem_map.mp hy
  exact .flat rfl 2
theorem dep_terms {ts : List Tm} (h : ts.length ≤ 1000000) : Dep 2 (tsD ts) := .tup (by simpa using h) fun y hy => by
  obtain ⟨t, ht, rfl⟩ := List.mem_map.mp hy
  refine .tup (by show 2 ≤ 1000000; decide) fun z hz => ?_
  rcases List.mem_cons.mp hz with rfl | hz
  · exact rfl
  · rcases List.mem_cons.mp hz with rfl | hz
    · exact rfl
    · cases hz
/-! books, keys, comparing -/
def keyD (ts : List Tm) (f : Int → Int) : D := .tup ((ts.map fun t => t.2 * f t.1).map D.int)
/-- a book: a tuple of integers; f tells the value at a mark -/
def bookD (vs : List Int) : D := .tup (vs.map D.int)
def vat (vs : List Int) (m : Int) : Int := vs.getD m.toNat 0
theorem vat_at {vs : List Int} {m : Int} (h0 : 0 ≤ m) (h1 : m < vs.length) : atI (vs.map D.int) m = some (.int (vat vs m)) := by
  have hm : m.toNat < vs.length := by omega
  have e : (vs.map D.int)[m.toNat]? = some (.int (vat vs m)) := by
    rw [List.getElem?_map, List.getElem?_eq_getElem hm]
    unfold vat
    rw [List.getD_eq_getElem?_getD, List.getElem?_eq_getElem hm]
    rfl
  have := atI_nat e
  rwa [show ((m.toNat : Nat) : Int) = m by omega] at this
/-- how the rule orders two books: -1, 0, 1 -/
def cmpT (ts : List Tm) (a b : List Int) : Int := match ts with
  | [] => 0
  | t :: ts => if vat a t.1 = vat b t.1 then cmpT ts a b else if vat a t.1 < vat b t.1 then -t.2 else t.2
def bnd (vs : List Int) : Prop := ∀ v ∈ vs, -(2 ^ 60) < v ∧ v < 2 ^ 60
theorem vat_bnd {vs : List Int} (h : bnd vs) (m : Int) : -(2 ^ 60) < vat vs m ∧ vat vs m < 2 ^ 60 := by
  unfold vat
  rw [List.getD_eq_getElem?_getD]
  cases e : vs[m.toNat]? with
  | none => exact ⟨by decide, by decide⟩
  | some v => exact h v (List.mem_of_getElem? e)
def dKey (C : Addr) : DSp := fun rs R => ∃ ts vs, rs = [.d (rD C ts), .d (bookD vs)] ∧ Good vs.length ts ∧ bnd vs ∧ ts.length ≤ 1000 ∧ R (.d (keyD ts (vat vs)))
def dCompare (C : Addr) : DSp := fun rs R => ∃ ts as bs, rs = [.d (rD C ts), .d (bookD as), .d (bookD bs)] ∧ Good as.length ts ∧ Good bs.length ts ∧ R (.d (.int (cmpT ts as bs)))
def dirT (ts : List Tm) (m : Int) : Int := match ts with
  | [] => 0
  | t :: ts => if t.1 = m then t.2 else dirT ts m
def dDir (C : Addr) : DSp := fun rs R => ∃ ts m, rs = [.d (rD C ts), .d (.int m)] ∧ R (.d (.int (dirT ts m)))
def dHas (C : Addr) : DSp := fun rs R => ∃ ts m, rs = [.d (rD C ts), .d (.int m)] ∧ ts.length ≤ 1000 ∧ R (.d (.bl (decide (m ∈ ts.map (·.1)))))
def dLen (C : Addr) : DSp := fun rs R => ∃ ts, rs = [.d (rD C ts)] ∧ R (.d (.int (ts.length : Nat)))
end DL
namespace DL
def keyT (f : Int → Int) : D → D
  | .tup [.int m, .int d] => .int (d * f m)
  | _ => .non
theorem key_map (ts : List Tm) (f : Int → Int) : (ts.map tD).map (keyT f) = (ts.map fun t => t.2 * f t.1).map D.int := by
  rw [List.map_map, List.map_map]
  rfl
end DL
namespace DL
theorem cmpT_cons (t : Tm) (ts : List Tm) (a b : List Int) : cmpT (t :: ts) a b = if vat a t.1 = vat b t.1 then cmpT ts a b else if vat a t.1 < vat b t.1 then -t.2 else t.2 := rfl
theorem dirT_cons (t : Tm) (ts : List Tm) (m : Int) : dirT (t :: ts) m = if t.1 = m then t.2 else dirT ts m := rfl
end DL

/-! the data layer: < and > of tuples of integers, calling an object, lists of drawn integers, keys -/
namespace DL
open PySem PySem.Spec PyProof.Rows L2 VL
open C8 (Cal Met)
/-- at the first place where they differ -/
def lexD (rel : Int → Int → Bool) : List Int → List Int → Bool
  | x :: xs, y :: ys => if x = y then lexD rel xs ys else rel x y
  | _, _ => false
theorem lexAt_off (rel : Int → Int → Bool) : ∀ (k i : Nat) (ns ms : List Int), i + k = ns.length → ns.length = ms.length → Ob.lexAt (fun j => decide (ns.getD j 0 = ms.getD j 0)) (fun j => rel (ns.getD j 0) (ms.getD j 0)) false i k = lexD rel (ns.drop i) (ms.drop i)
  | 0, i, ns, ms, h, e => by
    rw [Ob.lexAt_zero, List.drop_eq_nil_of_le (by omega)]
    rfl
  | k + 1, i, ns, ms, h, e => by
    have h1 : i < ns.length := by omega
    have h2 : i < ms.length := by omega
    rw [Ob.lexAt_succ, List.drop_eq_getElem_cons h1, List.drop_eq_getElem_cons h2]
    have g1 : ns.getD i 0 = ns[i] := by rw [List.getD_eq_getElem?_getD, List.getElem?_eq_getElem h1]; rfl
    have g2 : ms.getD i 0 = ms[i] := by rw [List.getD_eq_getElem?_getD, List.getElem?_eq_getElem h2]; rfl
    rw [lexAt_off rel k (i + 1) ns ms (by omega) e, g1, g2]
    show _ = if ns[i] = ms[i] then lexD rel (ns.drop (i + 1)) (ms.drop (i + 1)) else rel ns[i] ms[i]
    by_cases z : ns[i] = ms[i]
    · rw [if_pos z, if_pos (decide_eq_true z)]
    · rw [if_neg z, if_neg (by rw [decide_eq_false z]; exact Bool.false_ne_true)]
/-- an order of tuples that goes by the order of their items -/
structure TupRel (op : CmpOp) (rel : Int → Int → Bool) : Prop where
  asC : ∀ x y, compareOp op x y = richCompare op x y
  onI : ∀ {A : Around} {s : Shared} (a b : Int) (t u : Tok), Ob.RcOp op A s (.int a t) (.int b u) (rel a b)
  onT : ∀ {A : Around} {s : Shared} {l b : Addr} {items items2 : Array Value} {e r : Nat → Bool}, s.heap.IsTuple l items → s.heap.IsTuple b items2 → items.size = items2.size → A.units < cLine →
    (∀ j (h1 : j < items.size) (h2 : j < items2.size), SeqAt.EqAt A.in1 s items[j] items2[j] (e j)) → (∀ j (h1 : j < items.size) (h2 : j < items2.size), e j = false → Ob.RcOp op A.in1 s items[j] items2[j] (r j)) → Ob.RcOp op A s (.ref l) (.ref b) (Ob.lexAt e r false 0 items.size)
theorem relLt : TupRel .Lt fun a b => decide (a < b) := ⟨fun _ _ => rfl, fun a b t u => .lt_int a b t u, fun {A s l b i j e r} h1 h2 es hu he hr => by
  have z := Ob.RcOp.tuples_lt h1 h2 hu he hr
  rwa [← es, Nat.min_self, decide_eq_false (Nat.lt_irrefl _)] at z⟩
theorem relGt : TupRel .Gt fun a b => decide (b < a) := ⟨fun _ _ => rfl, fun a b t u => .gt_int a b t u, fun {A s l b i j e r} h1 h2 es hu he hr => by
  have z := Ob.RcOp.tuples_gt h1 h2 hu he hr
  rwa [← es, Nat.min_self, decide_eq_false (Nat.lt_irrefl _)] at z⟩
def rTupO (K : PySem.W.Frag) (rel : Int → Int → Bool) : R2 := fun x y H Q => ∃ (a b : Addr) (ns ms : List Int), x = .ref a ∧ y = .ref b ∧ SqT K H a (ns.map V.int) ∧ SqT K H b (ms.map V.int) ∧ ns.length = ms.length ∧ Q (.bl (lexD rel ns ms)) H
theorem op_tupO {X : Cx} {op : CmpOp} {rel : Int → Int → Bool} (T : TupRel op rel) (hu : X.A.units < cLine) : OpR X (compareOp op) (rTupO X.K rel) := by
  rintro pins s σ H x y v u Q I rx ry ⟨a, b, ns, ms, rfl, rfl, ha, hb, el, q⟩
  cases rx
  cases ry
  obtain ⟨us, ru, pu, _⟩ := I.tuple ha
  obtain ⟨ws, rw_, pw, _⟩ := I.tuple hb
  have iu : IntsAre us ns := ru.ints
  have iw : IntsAre ws ms := rw_.ints
  have lu : us.toArray.size = ns.length := (List.size_toArray ..).trans iu.length
  have lw : ws.toArray.size = ms.length := (List.size_toArray ..).trans iw.length
  have au : ∀ j (h : j < us.toArray.size), ∃ t, us.toArray[j] = .int (ns.getD j 0) t := fun j h => iu.int_at _ _ (by simp at h; simp [h])
  have aw : ∀ j (h : j < ws.toArray.size), ∃ t, ws.toArray[j] = .int (ms.getD j 0) t := fun j h => iw.int_at _ _ (by simp at h; simp [h])
  have key := T.onT (A := X.A) (s := s) (e := fun j => decide (ns.getD j 0 = ms.getD j 0)) (r := fun j => rel (ns.getD j 0) (ms.getD j 0)) pu pw (by rw [lu, lw, el]) hu (fun j g1 g2 => by
    obtain ⟨t1, e1⟩ := au j g1
    obtain ⟨t2, e2⟩ := aw j g2
    have z : decide (ns.getD j 0 = ms.getD j 0) = (ns.getD j 0 == ms.getD j 0) := by
      rw [Bool.eq_iff_iff]
      simp
    rw [e1, e2, z]
    exact SeqAt.EqAt.int_int _ _ _ _) fun j g1 g2 _ => by
    obtain ⟨t1, e1⟩ := au j g1
    obtain ⟨t2, e2⟩ := aw j g2
    rw [e1, e2]
    exact T.onI _ _ _ _
  rw [lu, lexAt_off rel _ 0 ns ms (Nat.zero_add _) el] at key
  rw [T.asC]
  exact key X.prog X.w X.xe (EP X pins σ Q) ⟨.bl _, H, I, rfl, q⟩
def tupOF (rel : Int → Int → Bool) : F2 := fun x y R => ∃ ns ms : List Int, x = .tup (ns.map D.int) ∧ y = .tup (ms.map D.int) ∧ ns.length = ms.length ∧ R (.d (.bl (lexD rel ns ms)))
section
variable {ci : CI} {ι : Type} {𝒳 : ι → Cx} {a c e : Expr} {es : List Expr} {ta tb tf : TD} {tr : TDA} {pos : Pos} {k j : Nat} {s : DSp} {C : Addr}
theorem op_tupK {X : Cx} {op : CmpOp} {rel : Int → Int → Bool} (T : TupRel op rel) (hu : X.A.units < cLine) (K : PySem.W.Frag) (h : X.K = K) : OpR X (compareOp op) (rTupO K rel) := h ▸ op_tupO T hu
theorem de_tupO (K : PySem.W.Frag) {op : CmpOp} {rel : Int → Int → Bool} (T : TupRel op rel) {j : Nat} (hr : ∀ i, Room j (𝒳 i).A) (ha : DE ci 𝒳 a ta) (hc : DE ci 𝒳 c tb) (hm : behindInMarks op c = false) (hK : ∀ i, (𝒳 i).K = K := by intro _; rfl) : DE ci 𝒳 (.Compare a [op] [c] pos) (dBin (tupOF rel) ta tb) := de_cmp (fun i => op_tupK T (Nat.lt_of_le_of_lt (Nat.le_add_right _ _) (hr i).units) K (hK i)) (by
  rintro b L F H x y v w R Q fr hx hy ⟨ns, ms, rfl, rfl, el, h⟩ q
  obtain ⟨p, vs, rfl, h1, r1⟩ := hx.tup fr.s1
  obtain ⟨p2, ws, rfl, h2, r2⟩ := hy.tup fr.s1
  rw [reps_ints r1] at h1
  rw [reps_ints r2] at h2
  exact ⟨p, p2, ns, ms, rfl, rfl, .inl h1, .inl h2, el, q.d fr (Rep.bl _) h⟩) ha hc hm
theorem de_ltT (K : PySem.W.Frag) {j : Nat} (hr : ∀ i, Room j (𝒳 i).A) (ha : DE ci 𝒳 a ta) (hc : DE ci 𝒳 c tb) (hK : ∀ i, (𝒳 i).K = K := by intro _; rfl) : DE ci 𝒳 (.Compare a [.Lt] [c] pos) (dBin (tupOF fun a b => decide (a < b)) ta tb) := de_tupO K relLt hr ha hc (nobehind _ (by decide) (by decide)) hK
theorem de_gtT (K : PySem.W.Frag) {j : Nat} (hr : ∀ i, Room j (𝒳 i).A) (ha : DE ci 𝒳 a ta) (hc : DE ci 𝒳 c tb) (hK : ∀ i, (𝒳 i).K = K := by intro _; rfl) : DE ci 𝒳 (.Compare a [.Gt] [c] pos) (dBin (tupOF fun a b => decide (b < a)) ta tb) := de_tupO K relGt hr ha hc (nobehind _ (by decide) (by decide)) hK
/-- f(e, ..), f an object of the class -/
theorem de_callO (K : PySem.W.Frag) {g : Addr} (cO : StX.CallO K C g) (Fn : ∀ i, FnR (𝒳 i).prog (𝒳 i).w K (𝒳 i).mg (𝒳 i).base CX0 k g (lift ci s)) (hr : ∀ i, Room k (𝒳 i).A) (hf : DE ci 𝒳 a tf) (ha : DAa ci 𝒳 (e :: es) tr) (hK : ∀ i, (𝒳 i).K = K := by intro _; rfl)
    (ht : ∀ i, eval (.Call a (e :: es) [] pos) (𝒳 i).env = (do callWith pos (← eval a (𝒳 i).env) [] (backTo pos (starEach (e :: es) (𝒳 i).env)) (backToKw pos (keywordEach [] (𝒳 i).env))) := by intro _; rfl)
    (he : ∀ i, starEach (e :: es) (𝒳 i).env = (false, eval e (𝒳 i).env) :: starEach es (𝒳 i).env := by intro _; rfl) (hpl : ∀ i, (backTo pos (starEach es (𝒳 i).env)).any (·.1) = false := by intro _; rfl) :
    DE ci 𝒳 (.Call a (e :: es) [] pos) (fun ρ R => tf ρ fun r => withV r fun x => ∃ fs xs, x = .ins C fs xs ∧ tr ρ fun rs => s (.d x :: rs) R) := by
  obtain ⟨t1, p1, h1⟩ := hf.ex
  obtain ⟨t2, p2, h2⟩ := ha.ex
  refine ⟨fun σ H Q => t1 σ H fun y H1 => ∃ a, y = V.ref a ∧ t2 σ H1 fun vs H2 => ((∃ dx vs, SlX.Slt H2 a C dx vs) ∨ ∃ dx fs, H2 a = some (.ins C dx fs)) ∧ lift ci s (V.ref a :: vs) H2 Q E0,
    fun i => StX.pe_callO (CX := CX0) (E := E0) (p1 i) ((hK i).symm ▸ cO) ((hK i).symm ▸ Fn i) (hr i) (fun _ _ _ _ _ _ _ h => h.elim) (p2 i) (ht i) (he i) (hpl i), fun b L F0 H0 ρ σ F H R Q S h q => ?_⟩
  refine h1 b L F0 H0 ρ σ F H _ _ S h fun v H1 F1 r1 x1 rep1 _ k1 => ?_
  obtain ⟨x, rx, fs, xs, rfl, k1⟩ := withV_of rep1 k1
  have rx := vr_ins rx
  obtain ⟨aa, dx, gs, rfl, hh⟩ := rep_ins rx
  refine ⟨aa, rfl, h2 b L F0 H0 ρ σ F1 H1 _ _ (S.go x1) k1 fun vs H2 F2 rs x2 rep2 nm k2 => ?_⟩
  have S2 := (S.go x1).go x2
  refine ⟨.inr ⟨dx, gs, S2.fr.s1 _ _ (x2.ff _ _ hh)⟩, lift_go S2 (.cons (r := .d (.ins C fs xs)) (rx.mono x2.ff) rep2) (fun r hr => ?_) k2 (q.mono (x1.trans x2))⟩
  rcases List.mem_cons.mp hr with rfl | hr
  · exact fun _ z => nomatch z
  · exact nm r hr
end
end DL
namespace DL
open PySem PySem.Spec PyProof.Rows L2 VL
def keys (ts : List Tm) (v : List Int) : List Int := ts.map fun t => t.2 * vat v t.1
theorem key_cmp (a b : List Int) : ∀ ts : List Tm, (∀ t ∈ ts, t.2 = 1 ∨ t.2 = -1) →
    lexD (fun x y => decide (x < y)) (keys ts a) (keys ts b) = decide (cmpT ts a b = -1) ∧ lexD (fun x y => decide (y < x)) (keys ts a) (keys ts b) = decide (cmpT ts a b = 1) ∧ (keys ts a = keys ts b ↔ cmpT ts a b = 0) ∧ (cmpT ts a b = -1 ∨ cmpT ts a b = 0 ∨ cmpT ts a b = 1)
  | [], _ => ⟨rfl, rfl, ⟨fun _ => rfl, fun _ => rfl⟩, .inr (.inl rfl)⟩
  | t :: ts, h => by
    have ih := key_cmp a b ts fun u hu => h u (List.mem_cons_of_mem _ hu)
    have ht := h t List.mem_cons_self
    have e1 : keys (t :: ts) a = t.2 * vat a t.1 :: keys ts a := rfl
    have e2 : keys (t :: ts) b = t.2 * vat b t.1 :: keys ts b := rfl
    rw [e1, e2, cmpT_cons]
    generalize vat a t.1 = x
    generalize vat b t.1 = y
    generalize t.2 = d at ht
    have l1 : ∀ rel : Int → Int → Bool, lexD rel (d * x :: keys ts a) (d * y :: keys ts b) = if d * x = d * y then lexD rel (keys ts a) (keys ts b) else rel (d * x) (d * y) := fun _ => rfl
    rw [l1, l1, List.cons.injEq]
    by_cases e : x = y
    · subst e
      simpa using ih
    · have ne : d * x ≠ d * y := by
        rcases ht with rfl | rfl
        · omega
        · omega
      rw [if_neg ne, if_neg ne, if_neg e]
      rcases ht with rfl | rfl
      · by_cases c : x < y
        · rw [if_pos c]
          have : ¬ y < x := by omega
          simp [c, this, e]
        · rw [if_neg c]
          have : y < x := by omega
          simp [c, this, e]
      · by_cases c : x < y
        · rw [if_pos c]
          have : ¬ y < x := by omega
          refine ⟨?_, ?_, ?_, .inr (.inr rfl)⟩
          · rw [Bool.eq_iff_iff]; simp; omega
          · rw [Bool.eq_iff_iff]; simp; omega
          · simp; omega
        · rw [if_neg c]
          have : y < x := by omega
          refine ⟨?_, ?_, ?_, .inl rfl⟩
          · rw [Bool.eq_iff_iff]; simp; omega
          · rw [Bool.eq_iff_iff]; simp; omega
          · simp; omega
theorem key_is (ts : List Tm) (v : List Int) : keyD ts (vat v) = .tup ((keys ts v).map D.int) := rfl
theorem paired_ints {p : Int → Prop} : ∀ {xs ys : List D}, Paired (fun (_ : D) y => ∃ v : Int, y = .int v ∧ p v) xs ys → ∃ ks : List Int, ys = ks.map D.int ∧ ks.length = xs.length ∧ ∀ k ∈ ks, p k
  | [], _, .nil => ⟨[], rfl, rfl, fun _ z => nomatch z⟩
  | x :: xs, _, .cons h t => by
    obtain ⟨v, rfl, hv⟩ := h
    obtain ⟨ks, rfl, e2, e3⟩ := paired_ints t
    refine ⟨v :: ks, rfl, by simp [e2], fun k hk => ?_⟩
    rcases List.mem_cons.mp hk with rfl | hk
    · exact hv
    · exact e3 k hk
/-- .. each item found by its own rule -/
theorem paired_of {α : Type} {f : α → D} {p : D → α → Prop} : ∀ {xs ys : List D}, Paired (fun x y => ∃ v : α, y = f v ∧ p x v) xs ys → ∃ ks : List α, ys = ks.map f ∧ ks.length = xs.length ∧ ∀ k ∈ ks, ∃ x ∈ xs, p x k
  | [], _, .nil => ⟨[], rfl, rfl, fun _ z => nomatch z⟩
  | x :: xs, _, .cons h t => by
    obtain ⟨v, rfl, hv⟩ := h
    obtain ⟨ks, rfl, e2, e3⟩ := paired_of t
    refine ⟨v :: ks, rfl, by simp [e2], fun k hk => ?_⟩
    rcases List.mem_cons.mp hk with rfl | hk
    · exact ⟨x, List.mem_cons_self, hv⟩
    · obtain ⟨y, hy, q⟩ := e3 k hk
      exact ⟨y, List.mem_cons_of_mem _ hy, q⟩
/-- books and kinds of a law's script -/
def kindOk (k : Int) : Prop := 0 ≤ k ∧ k < 5
def dLKinds : DSp := fun rs R => ∃ n : Nat, rs = [.box, .d (.int (n : Int))] ∧ n ≤ 1000 ∧ ∀ ks : List Int, ks.length = n → (∀ k ∈ ks, kindOk k) → R (.m (ks.map D.int))
def dLValue : DSp := fun rs R => ∃ k d : Int, rs = [.d (.int k), .d (.int d)] ∧ kindOk k ∧ 0 ≤ d ∧ d < 3 ∧ ∀ v : Int, -(2 ^ 60) < v → v < 2 ^ 60 → R (.d (.int v))
def dLBook : DSp := fun rs R => ∃ (r : Sl) (ks : List Int), rs = [.box, r] ∧ r.see = some (.lst (ks.map D.int)) ∧ ks.length ≤ 1000 ∧ (∀ k ∈ ks, kindOk k) ∧ ∀ vs : List Int, vs.length = ks.length → bnd vs → R (.d (bookD vs))
def dLCompare : DSp := fun rs R => ∃ ts as bs, rs = [.v (ts.map tD), .d (bookD as), .d (bookD bs)] ∧ Good as.length ts ∧ Good bs.length ts ∧ R (.d (.int (cmpT ts as bs)))
end DL

/-! the data layer: C(), == with things of another class, x in o, len(o) -/
namespace DL
open PySem PySem.Spec PyProof.Rows L2 VL
open C8 (Cal Met)
/-! ### o == y, y None or a tuple -/
/-- what is asked of the classes -/
structure NotSub (K : PySem.W.Frag) (C : Addr) : Prop where
  non : PySem.W.subIn K (.type "NoneType") (.ref C) = some false
  tup : PySem.W.subIn K (.type "tuple") (.ref C) = some false
  knon : PySem.W.kitOne K (.type "NoneType") (.ref C) = some false
  ktup : PySem.W.kitOne K (.type "tuple") (.ref C) = some false
def OthV (K : PySem.W.Frag) (H : Hp) (y : V) : Prop := y = .non ∨ ∃ t xs, y = .ref t ∧ SqT K H t xs
def rEqX (K : PySem.W.Frag) (C : Addr) (sp : Sp) : R2 := fun x y H Q => ∃ (a dx : Addr) (fs : List (Str × V)), x = .ref a ∧ H a = some (.ins C dx fs) ∧ OthV K H y ∧ sp [.ref a, y] H (fun v H' => ∃ b, v = .bl b ∧ Q (.bl b) H') (fun _ _ _ => False)
section
variable {X : Cx} {k j : Nat} {C : Addr} {sp : Sp}
theorem op_eqX (N : NotSub X.K C) (c : Met X.prog X.w X.K X.mg X.base k C "__eq__" sp []) (hr : Room j X.A) (hk : k ≤ j) : OpR X (compareOp .Eq) (rEqX X.K C sp) := by
  rintro pins s σ H x y v u Q I rx ry ⟨a, dx, fs, rfl, ha, oth, hs⟩
  obtain ⟨f, fd, ps, ds, cl, me, F, hb, hd⟩ := c.ex
  obtain rfl : v = Value.ref a := rx
  obtain ⟨mA, J, _⟩ := ins_get I.hok ha
  obtain ⟨od, J, _⟩ := J.look
  obtain ⟨mm, hF⟩ := I.fr
  have cls : ∃ tb, PySem.W.Looks (model X.prog X.w) s.heap (typeOf u) tb ∧ PySem.W.notFirst X.K C tb = true := by
    rcases oth with rfl | ⟨t, xs, rfl, hq⟩
    · obtain rfl : u = Value.none := ry
      exact ⟨.type "NoneType", fun A Q E s' _ q => wpAny_pure q, by simp [PySem.W.notFirst, N.non]⟩
    · obtain rfl : u = Value.ref t := ry
      obtain ⟨its, _, ⟨o, ho, hc, _⟩, _⟩ := I.tuple hq
      exact ⟨.type "tuple", fun A Q E s' kp q => wpAny_typeOf ⟨o, kp _ _ ho, hc⟩ q, by simp [PySem.W.notFirst, N.tup]⟩
  obtain ⟨tb, look, nf⟩ := cls
  have goal : wpAny (model X.prog X.w) X.A (richCompare .Eq (.ref a) u) (EP X pins σ Q) X.xe s := by
    refine PySem.W.cmp_K (op := .Eq) (tb := tb) (hr.mono hk).units0 hF I.ok.mod.kin J look nf me.at_ me.fn (thn (met_run (hr.mono hk) rfl F hb hd I (vs := [.ref a, y]) (us := [.ref a, u]) (.cons rfl (.cons ry .nil)) hs) fun w s' hv => ?_)
    obtain ⟨z, H', I', rz, b, rfl, q⟩ := hv
    obtain rfl : w = Value.bool b := rz
    exact ⟨.bl b, H', I', rfl, q⟩
  exact goal
end
/-- a thing of another class -/
def othD : D → Bool
  | .non => true
  | .tup _ => true
  | _ => false
section
variable {ci : CI} {ι : Type} {𝒳 : ι → Cx} {a c e : Expr} {es : List Expr} {ta tb tf : TD} {tr : TDA} {pos p : Pos} {k j : Nat} {s : DSp} {si : ISp} {C : Addr} {x : Str}
theorem oth_v {K : PySem.W.Frag} {b : Addr} {F H : Hp} {y : D} {v : V} (st : Same F H) (h : VR ci b F H y v) (o : othD y = true) : OthV K H v := by
  cases y with
  | non => exact .inl h.non
  | tup xs =>
    obtain ⟨t, vs, rfl, h1, _⟩ := h.tup st
    exact .inr ⟨t, vs, rfl, .inl h1⟩
  | _ => cases o
theorem vr_rep {b : Addr} {F H : Hp} {y : D} {v : V} (h : VR ci b F H y v) (o : othD y = true) : Rep ci F y v := by
  rcases h with h | ⟨xs, _, _, rfl, _⟩
  · exact h
  · cases o
def eqXF (C : Addr) (s : DSp) : F2 := fun x y R => ∃ fs xs, x = .ins C fs xs ∧ othD y = true ∧ s [.d x, .d y] fun r => ∃ b, r = .d (.bl b) ∧ R (.d (.bl b))
theorem de_eqX (K : PySem.W.Frag) (N : NotSub K C) (c' : ∀ i, Met (𝒳 i).prog (𝒳 i).w (𝒳 i).K (𝒳 i).mg (𝒳 i).base k C "__eq__" (lift ci s) []) (hr : ∀ i, Room j (𝒳 i).A) (hk : k ≤ j) (ha : DE ci 𝒳 a ta) (hc : DE ci 𝒳 c tb) (hm : behindInMarks .Eq c = false := by exact nobehind _ (by decide) (by decide)) (hK : ∀ i, (𝒳 i).K = K := by intro _; rfl) : DE ci 𝒳 (.Compare a [.Eq] [c] pos) (dBin (eqXF C s) ta tb) := by
  obtain ⟨te1, p1, h1⟩ := ha.ex
  obtain ⟨te2, p2, h2⟩ := hc.ex
  refine ⟨tOp (rEqX K C (lift ci s)) te1 te2, fun i => pe_cmpR (by have z := op_eqX (sp := lift ci s) ((hK i).symm ▸ N) (c' i) (hr i) hk; rw [hK i] at z; exact z) (p1 i) (p2 i) hm, fun b L F0 H0 ρ σ F H R Q S h q => ?_⟩
  refine h1 b L F0 H0 ρ σ F H _ _ S h fun v H1 F1 r1 x1 rep1 _ k1 => ?_
  obtain ⟨x, rx, k1⟩ := withV_of rep1 k1
  refine h2 b L F0 H0 ρ σ F1 H1 _ _ (S.go x1) k1 fun w H2 F2 r2 x2 rep2 _ k2 => ?_
  obtain ⟨y, ry, fs, xs, rfl, oy, k2⟩ := withV_of rep2 k2
  have S2 := (S.go x1).go x2
  have rx := (vr_ins rx).mono x2.ff
  obtain ⟨a, dx, us, rfl, hh⟩ := rep_ins rx
  refine ⟨a, dx, us, rfl, x2.s1 _ _ hh, oth_v x2.s1 ry oy, lift_go S2 (.cons (r := .d (.ins C fs xs)) rx (.cons (r := .d y) (vr_rep ry oy) .nil)) (nm2 (fun _ z => nomatch z) fun _ z => nomatch z) k2 fun v3 H3 F3 r3 x3 rep3 fr3 k3 => ?_⟩
  obtain ⟨z, rfl, k3⟩ := k3
  cases (show Rep ci F3 (.bl z) v3 from rep3)
  exact ⟨z, rfl, q.d ((x1.trans x2).trans x3) (Rep.bl z) k3⟩
/-- isinstance(x, C), x an object of it or a thing of another class -/
def isC2F (C : Addr) : F1 := fun x R => (othD x = true ∧ R (.d (.bl false))) ∨ isCF C x R
theorem de_isiC2 (K : PySem.W.Frag) {p q : Pos} {y : Str} (cl : Cls K C) (I : InF K C) (N : NotSub K C) (hm : ∀ i, (𝒳 i).mg "isinstance" = none) (hy : ∀ i, (𝒳 i).mg y = some (.ref C)) (ha : DE ci 𝒳 a ta)
    (hg : ∀ i, Gl (𝒳 i) "isinstance" := by intro _; rfl) (hg2 : ∀ i, Gl (𝒳 i) y := by intro _; rfl) (hK : ∀ i, (𝒳 i).K = K := by intro _; rfl) (hd : (y == ("__debug__" : Str)) = false := by decide)
    (he : ∀ i, starEach [a, .Name y q] (𝒳 i).env = (false, eval a (𝒳 i).env) :: starEach [.Name y q] (𝒳 i).env := by intro _; rfl) (he2 : ∀ i, starEach [.Name y q] (𝒳 i).env = (false, eval (.Name y q) (𝒳 i).env) :: starEach [] (𝒳 i).env := by intro _; rfl)
    (hpl : ∀ i, (backTo pos (starEach [.Name y q] (𝒳 i).env)).any (·.1) = false := by intro _; rfl) : DE ci 𝒳 (.Call (.Name "isinstance" p) [a, .Name y q] [] pos) (dUna (isC2F C) ta) := by
  obtain ⟨t1, p1, h1⟩ := ha.ex
  refine ⟨tCB (rIsi K) (tCons t1 (tCons (tC (.ref C)) tNil)), fun i => pe_callB (call_isiA K (hK i)) (hg i) (hm i) (by decide +kernel) (pa_cons (p1 i) (pa_cons (pe_glob (v := .ref C) (hg2 i) (hy i) rfl hd) pa_nil (he2 i)) (he i)) (by decide) (by decide) (he i) (hpl i), fun b L F0 H0 ρ σ F H R Q S h q => ?_⟩
  refine h1 b L F0 H0 ρ σ F H _ _ S h fun v H1 F1 r x1 rep fr k1 => ?_
  obtain ⟨x, rx, k1⟩ := withV_of rep k1
  rcases k1 with ⟨ox, k1⟩ | ⟨fs, xs, rfl, k1⟩
  · cases x with
    | non =>
      rw [rx.non]
      exact ⟨.non, .ref C, .type "NoneType", .ref C, false, rfl, .own _, .base .non, N.knon, q.d x1 (Rep.bl false) k1⟩
    | tup xs =>
      obtain ⟨t, vs, rfl, h2, _⟩ := rx.tup x1.s1
      refine ⟨.ref t, .ref C, .type "tuple", .ref C, false, rfl, .own _, ?_, N.ktup, q.d x1 (Rep.bl false) k1⟩
      rcases h2 with h2 | ⟨o, h2⟩
      · exact .base (.tup h2)
      · exact .fTuple h2
    | _ => cases ox
  · obtain ⟨aa, dx, gs, rfl, hh⟩ := rep_ins (vr_ins rx)
    exact ⟨.ref aa, .ref C, .ref C, .ref C, true, rfl, .own _, .base (.ins (x1.s1 _ _ hh) cl I.ca I.cn I.ct I.cm), I.self, q.d x1 (Rep.bl true) k1⟩
/-- C() -/
theorem de_mk0 (K : PySem.W.Frag) {fI : Addr} (hci : ∀ a F, ci.I C a F) (M : Mk K C fI) (Fn : ∀ i, FnR (𝒳 i).prog (𝒳 i).w K (𝒳 i).mg (𝒳 i).base CX0 k fI (liftI ci C si)) (hr : ∀ i, Room (k + 1) (𝒳 i).A) (hg : ∀ i, Gl (𝒳 i) x) (hm : ∀ i, (𝒳 i).mg x = some (.ref C)) (hK : ∀ i, (𝒳 i).K = K := by intro _; rfl) (hdb : (x == ("__debug__" : Str)) = false := by decide) :
    DE ci 𝒳 (.Call (.Name x p) [] [] pos) (fun ρ R => si [] fun fs ys => R (.d (.ins C fs ys))) := by
  refine ⟨tMakeT C (liftI ci C si) (fun _ => E0) tNil, fun i => pe_makeT0 (CX := CX0) ((hK i).symm ▸ M) ((hK i).symm ▸ Fn i) (hr i) (hg i) (hm i) (fun _ _ _ _ _ _ _ h => h.elim) hdb, fun b L F0 H0 ρ σ F H R Q S h q => ?_⟩
  exact make_sound (args := []) (rs := []) hci S.rf S.nb S.nL .nil (fun _ z => nomatch z) h q
/-- len(o) -/
theorem de_lenO (K : PySem.W.Frag) (c' : ∀ i, Met (𝒳 i).prog (𝒳 i).w (𝒳 i).K (𝒳 i).mg (𝒳 i).base k C "__len__" (lift ci s) []) (hr : ∀ i, Room j (𝒳 i).A) (hk : k + 1 ≤ j) (hm : ∀ i, (𝒳 i).mg "len" = none) (ha : DE ci 𝒳 a ta) (hg : ∀ i, Gl (𝒳 i) "len" := by intro _; rfl)
    (he : ∀ i, starEach [a] (𝒳 i).env = [(false, eval a (𝒳 i).env)] := by intro _; rfl) (hpl : ∀ i, (backTo pos (starEach [] (𝒳 i).env)).any (·.1) = false := by intro _; rfl) :
    DE ci 𝒳 (.Call (.Name "len" p) [a] [] pos) (fun ρ R => ta ρ fun r => withV r fun x => ∃ fs xs, x = .ins C fs xs ∧ s [.d x] fun r => ∃ n : Int, r = .d (.int n) ∧ 0 ≤ n ∧ n < 2 ^ 63 ∧ R (.d (.int n))) := by
  obtain ⟨t1, p1, h1⟩ := ha.ex
  refine ⟨tCB (rLenO C (lift ci s)) (tCons t1 tNil), fun i => pe_callB (call_lenO (c' i) (hr i) hk) (hg i) (hm i) (by decide +kernel) (pa_cons (p1 i) pa_nil (he i)) (by decide) (by decide) (he i) (hpl i), fun b L F0 H0 ρ σ F H R Q S h q => ?_⟩
  refine h1 b L F0 H0 ρ σ F H _ _ S h fun v H1 F1 r1 x1 rep1 _ k1 => ?_
  obtain ⟨x, rx, fs, xs, rfl, k1⟩ := withV_of rep1 k1
  have rx := vr_ins rx
  obtain ⟨a, dx, us, rfl, hh⟩ := rep_ins rx
  refine ⟨a, dx, us, rfl, x1.s1 _ _ hh, lift_go (S.go x1) (.cons (r := .d (.ins C fs xs)) rx .nil) (nm1 fun _ z => nomatch z) k1 fun v3 H3 F3 r3 x3 rep3 fr3 k3 => ?_⟩
  obtain ⟨n, rfl, n0, n1, k3⟩ := k3
  cases (show Rep ci F3 (.int n) v3 from rep3)
  exact ⟨n, rfl, n0, n1, q.d (x1.trans x3) (Rep.int n) k3⟩
/-- x in o, x flat -/
def inOF (C : Addr) (s : DSp) : F2 := fun x y R => flatX x = true ∧ ∃ fs xs, y = .ins C fs xs ∧ s [.d y, .d x] fun r => ∃ b, r = .d (.bl b) ∧ R (.d (.bl b))
theorem vr_flat {b : Addr} {F H : Hp} {y : D} {v : V} (h : VR ci b F H y v) (o : flatX y = true) : Rep ci F y v := by
  rcases h with h | ⟨xs, _, _, rfl, _⟩
  · exact h
  · cases o
theorem inO_sound {te1 te2 : TE}
    (h1 : ∀ (b L : Addr) (F0 H0 : Hp) (ρ : List Sl) (σ : L2.St) (F H : Hp) (R : Sl → Prop) (Q : VK), StRep ci b L F0 H0 ρ σ F H → ta ρ R → Post ci b L F H R Q → te1 σ H Q)
    (h2 : ∀ (b L : Addr) (F0 H0 : Hp) (ρ : List Sl) (σ : L2.St) (F H : Hp) (R : Sl → Prop) (Q : VK), StRep ci b L F0 H0 ρ σ F H → tb ρ R → Post ci b L F H R Q → te2 σ H Q)
    (b L : Addr) (F0 H0 : Hp) (ρ : List Sl) (σ : L2.St) (F H : Hp) (R : Sl → Prop) (Q : VK) (S : StRep ci b L F0 H0 ρ σ F H) (h : dBin (inOF C s) ta tb ρ R) (q : Post ci b L F H R Q) : tOp (rInO C (lift ci s)) te1 te2 σ H Q := by
  refine h1 b L F0 H0 ρ σ F H _ _ S h fun v H1 F1 r1 x1 rep1 _ k1 => ?_
  obtain ⟨x, rx, k1⟩ := withV_of rep1 k1
  refine h2 b L F0 H0 ρ σ F1 H1 _ _ (S.go x1) k1 fun w H2 F2 r2 x2 rep2 _ k2 => ?_
  obtain ⟨y, ry, fx, fs, xs, rfl, k2⟩ := withV_of rep2 k2
  have S2 := (S.go x1).go x2
  have ry := vr_ins ry
  obtain ⟨a, dx, us, rfl, hh⟩ := rep_ins ry
  refine ⟨a, dx, us, rfl, x2.s1 _ _ hh, lift_go S2 (.cons (r := .d (.ins C fs xs)) ry (.cons (r := .d x) ((vr_flat rx fx).mono x2.ff) .nil)) (nm2 (fun _ z => nomatch z) fun _ z => nomatch z) k2 fun v3 H3 F3 r3 x3 rep3 fr3 k3 => ?_⟩
  obtain ⟨z, rfl, k3⟩ := k3
  cases (show Rep ci F3 (.bl z) v3 from rep3)
  exact ⟨z, rfl, q.d ((x1.trans x2).trans x3) (Rep.bl z) k3⟩
theorem de_inO (c' : ∀ i, Met (𝒳 i).prog (𝒳 i).w (𝒳 i).K (𝒳 i).mg (𝒳 i).base k C "__contains__" (lift ci s) []) (hr : ∀ i, Room j (𝒳 i).A) (hk : k ≤ j) (ha : DE ci 𝒳 a ta) (hc : DE ci 𝒳 c tb) (hm : behindInMarks .In c = false := by with_unfolding_all rfl) : DE ci 𝒳 (.Compare a [.In] [c] pos) (dBin (inOF C s) ta tb) := by
  obtain ⟨te1, p1, h1⟩ := ha.ex
  obtain ⟨te2, p2, h2⟩ := hc.ex
  exact ⟨tOp (rInO C (lift ci s)) te1 te2, fun i => pe_cmpR (op_inO (c' i) (hr i) hk) (p1 i) (p2 i) hm, inO_sound h1 h2⟩
end
end DL

/-! the data layer: what may raise an error of the program -/
namespace DL
open PySem PySem.Spec PyProof.Rows L2 VL
open C8 (Cal Met)
/-- what an error must be: its class, its fields -/
abbrev ExP := Addr → List Str → List D → Prop
abbrev TDX := List Sl → (Sl → Prop) → ExP → Prop
/-- its dict, where it has fields -/
def XD (ci : CI) (F' H' H : Hp) (dd : Option Addr) (fs : List Str) (xs : List D) : Prop := (∃ d ws, dd = some d ∧ fs ≠ [] ∧ H' d = some (.xd (fs.zip ws)) ∧ fs.length = ws.length ∧ Reps ci F' xs ws ∧ F' d = none ∧ H d = none) ∨ (dd = none ∧ fs = [] ∧ xs = [])
theorem XD.mono {ci : CI} {b L : Addr} {F H F1 H1 F' H' : Hp} {dd : Option Addr} {fs : List Str} {xs : List D} (x : Fr b L F H F1 H1) (z : XD ci F' H' H1 dd fs xs) : XD ci F' H' H dd fs xs := z.imp (fun ⟨d, ws, a, ne, e, l, r, n, n0⟩ => ⟨d, ws, a, ne, e, l, r, n, x.free n0⟩) id
/-- an error came out of it -/
def XPost (ci : CI) (b L : Addr) (F H : Hp) (X : ExP) (W : XK) : Prop := ∀ H' F' C dd fs xs, Fr b L F H F' H' → XD ci F' H' H dd fs xs → X C fs xs → W (.ref C) dd H'
section
variable {ci : CI} {b L : Addr} {F H F1 H1 : Hp} {X : ExP} {W : XK}
theorem XPost.mono (x : Fr b L F H F1 H1) (q : XPost ci b L F H X W) : XPost ci b L F1 H1 X W := fun H' F' C dd fs xs f z k => q H' F' C dd fs xs (x.trans f) (z.mono x) k
end
structure DEX (ci : CI) {ι : Type} (𝒳 : ι → Cx) (𝒲 : ι → WX) (e : Expr) (t : TDX) : Prop where
  ex : ∃ te : WX → TE, (∀ i, PE (𝒳 i) e (te (𝒲 i))) ∧ ∀ (W : WX) (b L : Addr) (F0 H0 : Hp) (ρ : List Sl) (σ : L2.St) (F H : Hp) (R : Sl → Prop) (X : ExP) (Q : VK), StRep ci b L F0 H0 ρ σ F H → t ρ R X → Post ci b L F H R Q → XPost ci b L F H X (WE W σ) → te W σ H Q
/-! ### calls that may raise -/
abbrev DSpX := List Sl → (Sl → Prop) → ExP → Prop
def liftX (ci : CI) (s : DSpX) : Sp := fun vs H Q E => ∃ (b L : Addr) (F : Hp) (rs : List Sl) (R : Sl → Prop) (X : ExP), Fr b L F H F H ∧ F b = none ∧ F L = none ∧ SlReps ci b L F H rs vs ∧ (∀ r ∈ rs, ∀ xs, r ≠ .m xs) ∧ s rs R X ∧ Post ci b L F H R Q ∧ XPost ci b L F H X E
abbrev ISpX := List Sl → (List Str → List D → Prop) → ExP → Prop
def liftIX (ci : CI) (C : Addr) (s : ISpX) : Sp := fun vs H Q E => ∃ (b L x dx : Addr) (F : Hp) (args : List V) (rs : List Sl) (R : List Str → List D → Prop) (X : ExP), vs = .ref x :: args ∧ x ≠ b ∧ x ≠ L ∧ H x = some (.ins C dx []) ∧ F x = none ∧ Fr b L F H F H ∧ F b = none ∧ F L = none ∧
  SlReps ci b L F H rs args ∧ (∀ r ∈ rs, ∀ xs, r ≠ .m xs) ∧ s rs R X ∧
  (∀ F' H' fs xs ws, Fr b L F (rm x H) F' (rm x H') → H' x = some (.ins C dx (fs.zip ws)) → fs.length = ws.length → Reps ci F' xs ws → F' x = none → R fs xs → Q .non H') ∧ XPost ci b L F H X E
section
variable {ci : CI} {K : PySem.W.Frag} {ι : Type} {𝒳 : ι → Cx} {𝒲 : ι → WX} {C : Addr} {a c e o : Expr} {es : List Expr} {ta tb tf : TD} {tr : TDA} {pos pos' p sp_ apos : Pos} {x m : Str} {k j : Nat} {s : DSpX} {si : ISpX} {tx : TDX}
theorem dex_of (h : DE ci (fun i => (𝒳 i).nox) e ta) : DEX ci 𝒳 𝒲 e (fun ρ R _ => ta ρ R) := by
  obtain ⟨t1, p1, h1⟩ := h.ex
  exact ⟨fun _ => t1, fun i => (p1 i).nox, fun W b L F0 H0 ρ σ F H R X Q S k q _ => h1 b L F0 H0 ρ σ F H R Q S k q⟩
theorem makeX_sound {b L : Addr} {F H : Hp} {args : List V} {rs : List Sl} {R : Sl → Prop} {X : ExP} {Q : VK} {E : XK} (hci : ∀ a F, ci.I C a F) (fr : Fr b L F H F H) (fb : F b = none) (fL : F L = none) (rep : SlReps ci b L F H rs args) (nm : ∀ r ∈ rs, ∀ xs, r ≠ .m xs) (h : si rs (fun fs xs => R (.d (.ins C fs xs))) X) (q : Post ci b L F H R Q) (qx : XPost ci b L F H X E) :
    ∀ x dx, H x = Option.none → H dx = Option.none → dx ≠ x → liftIX ci C si (V.ref x :: args) (upd (upd H dx (.own x)) x (.ins C dx [])) (fun v H3 => v = .non ∧ Q (.ref x) H3) E := by
  intro x dx hx hdx ne
  obtain ⟨nb, nL⟩ := fr.b1.new hx
  have y1 := Fr.tmp fr.s1 fr.b1 (.own x) hdx
  have hx1 : upd H dx (.own x) x = none := by rw [upd_ne ne.symm]; exact hx
  have y2 := Fr.tmp y1.s1 y1.b1 (.ins C dx []) hx1
  have y := y1.trans y2
  have nx : F x = none := same_free fr.s1 hx
  refine ⟨b, L, x, dx, F, args, rs, _, X, rfl, nb, nL, upd_same, nx, Fr.refl y.s1 y.b1, fb, fL, rep.fr y, nm, h, fun F' H' fs xs ws f1 e1 e2 e3 e4 k => ⟨rfl, ?_⟩, qx.mono y⟩
  have er : rm x (upd (upd H dx (.own x)) x (.ins C dx [])) = upd H dx (.own x) := by rw [rm_upd, rm_free hx1]
  rw [er] at f1
  have f2 := y1.trans f1
  have ff : Fr b L F H (upd F' x (.ins C dx (fs.zip ws))) H' := by
    refine ⟨f2.ff.trans (same_upd e4), fun a u na q => (rm_some (f2.hh a u na q)).2, fun a u q => ?_, fr.s1, fun a u q => ?_, fr.b1, Box.unrm f2.b1⟩
    · by_cases z : a = x
      · exact .inr (z ▸ hx)
      · rw [upd_ne z] at q
        exact f2.nw a u q
    · by_cases z : a = x
      · subst z
        rw [upd_same] at q
        cases q
        exact e1
      · rw [upd_ne z] at q
        exact (rm_some (f2.s1 a u q)).2
  have r2 := e3.mono (same_upd (o := .ins C dx (fs.zip ws)) e4)
  exact q.d ff (.ins upd_same e2 r2.1 r2.2 (hci x _)) k
/-- C(e, ..) -/
theorem dex_mk (K : PySem.W.Frag) {fI : Addr} (hci : ∀ a F, ci.I C a F) (tk : ∀ i, Takes (𝒳 i) (𝒲 i)) (M : Mk K C fI) (Fn : ∀ i, FnR (𝒳 i).prog (𝒳 i).w K (𝒳 i).mg (𝒳 i).base (L2.CX (𝒳 i).prog (𝒳 i).w) k fI (liftIX ci C si)) (hr : ∀ i, Room (k + 1) (𝒳 i).A) (hg : ∀ i, Gl (𝒳 i) x) (hm : ∀ i, (𝒳 i).mg x = some (.ref C)) (ha : DAa ci (fun i => (𝒳 i).nox) (e :: es) tr) (hK : ∀ i, (𝒳 i).K = K := by intro _; rfl)
    (form : ∀ i, (x == ("__debug__" : Str)) = false ∧ starEach (e :: es) (𝒳 i).env = (false, eval e (𝒳 i).env) :: starEach es (𝒳 i).env ∧ (backTo pos (starEach es (𝒳 i).env)).any (·.1) = false := by exact fun _ => ⟨by decide, rfl, rfl⟩) :
    DEX ci 𝒳 𝒲 (.Call (.Name x p) (e :: es) [] pos) (fun ρ R X => tr ρ fun rs => si rs (fun fs ys => R (.d (.ins C fs ys))) X) := by
  obtain ⟨t1, p1, h1⟩ := ha.ex
  refine ⟨fun W => tMakeT C (liftIX ci C si) (WE W) t1, fun i => pe_makeT (CX := L2.CX (𝒳 i).prog (𝒳 i).w) ((hK i).symm ▸ M) ((hK i).symm ▸ Fn i) (hr i) (hg i) (hm i) (fun σ => passAt (tk i) σ) ⟨fun pos pins s σ H Q J h => wpAny_mono ((p1 i).run pos pins s σ H Q (J.wish _) h) (fun _ _ ⟨v, H', I', r, q⟩ => ⟨v, H', I'.unwish, r, q⟩) fun _ _ z => False.elim z⟩ (form i), fun W b L F0 H0 ρ σ F H R X Q S h q qx => ?_⟩
  refine h1 b L F0 H0 ρ σ F H _ _ S h fun vs H1 F1 rs x1 rep nm k1 => ?_
  have S1 := S.go x1
  exact makeX_sound hci S1.rf S1.nb S1.nL rep nm k1 (q.mono x1) (qx.mono x1)
/-- e.f of it -/
theorem dex_fld (K : PySem.W.Frag) {f : Str} (cl : Cls K C) (nf : NoAttr K C f) (ha : DEX ci 𝒳 𝒲 a tx) (hK : ∀ i, (𝒳 i).K = K := by intro _; rfl) (hb : ∀ i, attributeBase a f (𝒳 i).env (eval a (𝒳 i).env) = eval a (𝒳 i).env := by intro _; rfl) :
    DEX ci 𝒳 𝒲 (.Attribute a f pos) (fun ρ R X => tx ρ (fun r => withV r fun x => (∃ fs xs, x = .ins C fs xs) ∧ fldF f x R) X) := by
  obtain ⟨t1, p1, h1⟩ := ha.ex
  refine ⟨fun W => tFld K (t1 W) f, fun i => by rw [← hK i]; exact pe_fld (p1 i) (hb i), fun W b L F0 H0 ρ σ F H R X Q S h q qx => ?_⟩
  refine h1 W b L F0 H0 ρ σ F H _ X _ S h (fun v H1 F1 r1 x1 rep1 _ k1 => ?_) qx
  obtain ⟨x, rx, ⟨fs, xs, rfl⟩, y, hy, k1⟩ := withV_of rep1 k1
  have rx' := vr_ins rx
  cases rx' with
  | ins hh lf l r qq =>
    obtain ⟨w, hw, rw'⟩ := lookD_rep ⟨l, r⟩ lf hy
    exact ⟨_, C, _, _, w, rfl, x1.s1 _ _ hh, cl, nf, hw, q.d x1 rw' k1⟩
end
/-! ### C.m(e, ..), m a classmethod or a staticmethod; x( *e): within a try or in a def that raises -/
section
variable {X : Cx} {pins : List (Addr × Obj)} {σ : L2.St} {H : Hp} {s : Shared} {C p g : Addr} {mc : Value} {m x : Str} {W : WX} {k : Nat} {sp : Sp} {Q : VK} {us : List Value} {vs : List V} {o e : Expr} {es : List Expr} {ta te : TE} {t : TA} {pos apos pp sp_ : Pos} {pl : Sem Bool}
theorem call_T (tk : Takes X W) (F : FnR X.prog X.w X.K X.mg X.base (L2.CX X.prog X.w) k g sp) (hr : Room k X.A) (J : Inv X pins σ H s) (r : Vals vs us) (h : sp vs H Q (WE W σ)) : wpAny (model X.prog X.w) X.A (call (.ref g) us) (EP X pins σ Q) X.xe s :=
  wpAny_call (codeAny_mono (F X.A X.stack s H us vs Q (WE W σ) hr J.env0 r h) fun
    | .error _, _, hq => passAt tk σ _ _ _ _ _ J hq
    | .ok (.ret _), _, hq => J.after hq
    | .ok .next, _, hq => hq.elim
    | .ok .brk, _, hq => hq.elim
    | .ok .cont, _, hq => hq.elim)
/-- a staticmethod of the class: its record, its def -/
structure SMet (K : PySem.W.Frag) (C : Addr) (m : Str) (p g : Addr) : Prop where
  at_ : PySem.W.findCls K (.ref C) (.type "type") m = some (.get (.builtin "staticmethod.__get__") (.ref p) .none (.ref C))
  rc : ∃ rest, PySem.W.recIn K p "staticmethod" = some (.ref g :: rest)
  kp : PySem.W.keepIn K (.ref g) = true
theorem getsm {Q : Value × List Value → Shared → Prop} {A : Around} {E : Value → Shared → Prop} (I : Inv X pins σ H s) (r : ClX.CRead X.K C (.type "type")) (c : SMet X.K C m p g) (h : ∀ s', Inv X pins σ H s' → Q (.ref g, []) s') : wpAny (model X.prog X.w) A (getMethod (.ref C) m pl) Q E s := by
  obtain ⟨rest, hp⟩ := c.rc
  exact PySem.W.method_cls I.kIn r.ga (PySem.W.cls_bind I.kIn r.rd c.at_ (wpAny_call (PySem.W.sm_get (s := { s with toks := s.toks + 1 }) I.kIn hp (PySem.W.handed_on rfl (h _ (I.tok _))))))
def tSMeth (C : Addr) (sp : Sp) (E : L2.St → XK) (ta : TE) (t : TA) : TE := fun σ H Q => ta σ H fun x H1 => x = .ref C ∧ t σ H1 fun vs H2 => sp vs H2 Q (E σ)
theorem pe_smethT (tk : Takes X W) (he : PE X o ta) (r : ClX.CRead X.K C (.type "type")) (c : SMet X.K C m p g) (F : FnR X.prog X.w X.K X.mg X.base (L2.CX X.prog X.w) k g sp) (hr : Room k X.A) (ha : PA X (e :: es) t)
    (hst : starEach (e :: es) X.env = (false, eval e X.env) :: starEach es X.env) (hpl : (backTo pos (starEach es X.env)).any (·.1) = false)
    (ht : eval (.Call (.Attribute o m apos) (e :: es) [] pos) X.env = (do
      let ov ← eval o X.env
      standAt apos.atName
      let (f, first) ← holding [ov] (getMethod ov m pl)
      callWith pos f first (backTo pos (starEach (e :: es) X.env)) (backToKw pos (keywordEach [] X.env)))) : PE X (.Call (.Attribute o m apos) (e :: es) [] pos) (tSMeth C sp (WE W) ta t) := by
  refine ⟨fun pins s σ H Q I h => PySem.W.methodCall_KW (pl := pl) (thn (he.run pins s σ H _ I h) fun u s1 ⟨x, H1, I1, rx, ex, q⟩ => ?_) ht⟩
  subst ex
  obtain rfl : u = Value.ref C := rx
  exact getsm I1 r c fun s2 I2 => PySem.W.callWith_K (h₀ := X.base) I2.ok.mod.kin c.kp (thn (ha.run pos pins s2 σ H1 _ I2 q) fun us s3 ⟨vs, H2, I3, rv, q2⟩ => ⟨I3.kIn, call_T tk F hr I3 rv q2⟩) hst hpl
theorem pe_smethT0 (tk : Takes X W) (he : PE X o ta) (r : ClX.CRead X.K C (.type "type")) (c : SMet X.K C m p g) (F : FnR X.prog X.w X.K X.mg X.base (L2.CX X.prog X.w) k g sp) (hr : Room k X.A)
    (ht : eval (.Call (.Attribute o m apos) [] [] pos) X.env = (do
      let ov ← eval o X.env
      standAt apos.atName
      let (f, first) ← holding [ov] (getMethod ov m pl)
      callWith pos f first (backTo pos (starEach [] X.env)) (backToKw pos (keywordEach [] X.env)))) : PE X (.Call (.Attribute o m apos) [] [] pos) (tSMeth C sp (WE W) ta tNil) := by
  refine ⟨fun pins s σ H Q I h => PySem.W.methodCall_KW (pl := pl) (thn (he.run pins s σ H _ I h) fun u s1 ⟨x, H1, I1, rx, ex, q⟩ => ?_) ht⟩
  subst ex
  obtain rfl : u = Value.ref C := rx
  exact getsm I1 r c fun s2 I2 => PySem.W.callWith_K0 I2.kIn c.kp (call_T tk F hr I2 .nil q)
def tCMethT (C : Addr) (sp : Sp) (E : L2.St → XK) (ta : TE) (t : TA) : TE := fun σ H Q => ta σ H fun x H1 => x = .ref C ∧ t σ H1 fun vs H2 => sp (.ref C :: vs) H2 Q (E σ)
theorem pe_cmethT (tk : Takes X W) (he : PE X o ta) (r : ClX.CRead X.K C (.type "type")) (c : ClX.CMet X.K C (.type "type") m p g) (F : FnR X.prog X.w X.K X.mg X.base (L2.CX X.prog X.w) k g sp) (hr : Room k X.A) (ha : PA X (e :: es) t)
    (hst : starEach (e :: es) X.env = (false, eval e X.env) :: starEach es X.env) (hpl : (backTo pos (starEach es X.env)).any (·.1) = false)
    (ht : eval (.Call (.Attribute o m apos) (e :: es) [] pos) X.env = (do
      let ov ← eval o X.env
      standAt apos.atName
      let (f, first) ← holding [ov] (getMethod ov m pl)
      callWith pos f first (backTo pos (starEach (e :: es) X.env)) (backToKw pos (keywordEach [] X.env)))) : PE X (.Call (.Attribute o m apos) (e :: es) [] pos) (tCMethT C sp (WE W) ta t) := by
  refine ⟨fun pins s σ H Q I h => PySem.W.methodCall_KW (pl := pl) (thn (he.run pins s σ H _ I h) fun u s1 ⟨x, H1, I1, rx, ex, q⟩ => ?_) ht⟩
  subst ex
  obtain rfl : u = Value.ref C := rx
  exact ClX.getmethcm_ok I1 r c fun s2 I2 => ClX.callwith_cm I2 (ClX.base_none I1 (Nat.le_refl _)) c.fi (thn (ha.run pos _ s2 σ H1 _ I2 q) fun us s3 ⟨vs, H2, I3, rv, q2⟩ => ⟨⟨ClX.pin_at I3, I3.kIn⟩,
    thn (wpAny_call (PySem.W.method_call (ClX.pin_at I3) (codeAny_mono (F X.A X.stack s3 H2 (.ref C :: us) (.ref C :: vs) Q (WE W σ) hr I3.env0 (.cons rfl rv) q2) fun
      | .error _, _, hq => passAt tk σ _ _ _ _ _ I3 hq
      | .ok (.ret _), _, hq => I3.after hq
      | .ok .next, _, hq => hq.elim
      | .ok .brk, _, hq => hq.elim
      | .ok .cont, _, hq => hq.elim))) fun _ _ y => ClX.unpinE y⟩) hst hpl
/-- x( *e), x a class: a new object, within a def that raises -/
def tMkST (K : PySem.W.Frag) (tcl : TE) (C : Addr) (sp : Sp) (E : L2.St → XK) (te : TE) : TE := fun σ H Q => tcl σ H fun c H1 => c = .ref C ∧ te σ H1 fun y H2 => ∃ p xs, y = .ref p ∧ (SqT K H2 p xs ∨ SqL K H2 p xs) ∧ VL.Fresh C sp xs H2 Q (E σ)
theorem pe_mkST {f : Addr} {tcl : TE} (tk : Takes X W) (M : Mk X.K C f) (F : FnR X.prog X.w X.K X.mg X.base (L2.CX X.prog X.w) k f sp) (hr : Room (k + 1) X.A)
    (hf : PE X (.Name x pp) tcl) (he : PE X e te) (hst : starEach [.Starred e sp_] X.env = [(true, eval e X.env)]) : PE X (.Call (.Name x pp) [.Starred e sp_] [] pos) (tMkST X.K tcl C sp (WE W) te) := by
  refine ⟨fun pins s σ H Q I h => wpAny_Call_Name_kw (thn (hf.run pins s σ H _ I h) fun u s1 ⟨v, H1, I1, r1, ev, q⟩ => ?_)⟩
  subst ev
  cases r1
  refine PySem.W.callWith_S (h₀ := X.base) I.ok.mod.kin M.kp (thn (he.run pins s1 σ _ _ I1 q) fun v s2 ⟨y, H2, I2, ry, p0, xs, ey, hq, q2⟩ => ?_) hst
  subst ey
  cases ry
  exact StX.star_any I2 hq fun us s3 I3 rv => ⟨I3.kIn, make_at M F hr (passAt tk σ) I3 rv q2⟩
end
section
variable {ci : CI} {K : PySem.W.Frag} {ι : Type} {𝒳 : ι → Cx} {𝒲 : ι → WX} {C : Addr} {a c e o : Expr} {es : List Expr} {ta tb tf : TD} {tr : TDA} {pos pos' p sp_ apos : Pos} {x m : Str} {k j : Nat} {s : DSpX} {si : ISpX} {tx : TDX}
theorem pa_nox {X : Cx} {es : List Expr} {t : TA} (h : PA X.nox es t) : PA X es t := ⟨fun pos pins s σ H Q J w => wpAny_mono (h.run pos pins s σ H Q (J.wish _) w) (fun _ _ ⟨v, H', I', r, q⟩ => ⟨v, H', I'.unwish, r, q⟩) fun _ _ z => False.elim z⟩
theorem liftX_go {b L : Addr} {F0 H0 F H : Hp} {ρ : List Sl} {σ : L2.St} {vs : List V} {rs : List Sl} {R : Sl → Prop} {X : ExP} {Q : VK} {E : XK} (S : StRep ci b L F0 H0 ρ σ F H) (rep : SlReps ci b L F H rs vs) (nm : ∀ r ∈ rs, ∀ xs, r ≠ .m xs) (h : s rs R X) (q : Post ci b L F H R Q) (qx : XPost ci b L F H X E) : liftX ci s vs H Q E :=
  ⟨b, L, F, rs, R, X, S.rf, S.nb, S.nL, rep, nm, h, q, qx⟩
theorem dex_smeth (K : PySem.W.Frag) {pp g : Addr} {pl : ι → Sem Bool} (tk : ∀ i, Takes (𝒳 i) (𝒲 i)) (r : ClX.CRead K C (.type "type")) (cm : SMet K C m pp g) (Fn : ∀ i, FnR (𝒳 i).prog (𝒳 i).w K (𝒳 i).mg (𝒳 i).base (L2.CX (𝒳 i).prog (𝒳 i).w) k g (liftX ci s)) (hr : ∀ i, Room k (𝒳 i).A) (ho : DE ci (fun i => (𝒳 i).nox) o ta) (ha : DAa ci (fun i => (𝒳 i).nox) (e :: es) tr) (hK : ∀ i, (𝒳 i).K = K := by intro _; rfl)
    (hst : ∀ i, starEach (e :: es) (𝒳 i).env = (false, eval e (𝒳 i).env) :: starEach es (𝒳 i).env := by intro _; rfl) (hpl : ∀ i, (backTo pos (starEach es (𝒳 i).env)).any (·.1) = false := by intro _; rfl)
    (ht : ∀ i, eval (.Call (.Attribute o m apos) (e :: es) [] pos) (𝒳 i).env = (do
      let ov ← eval o (𝒳 i).env
      standAt apos.atName
      let (f, first) ← holding [ov] (getMethod ov m (pl i))
      callWith pos f first (backTo pos (starEach (e :: es) (𝒳 i).env)) (backToKw pos (keywordEach [] (𝒳 i).env))) := by intro _; rfl) :
    DEX ci 𝒳 𝒲 (.Call (.Attribute o m apos) (e :: es) [] pos) (fun ρ R X => ta ρ fun r => r = .d (.ref C) ∧ tr ρ fun rs => s rs R X) := by
  obtain ⟨t1, p1, h1⟩ := ho.ex
  obtain ⟨t2, p2, h2⟩ := ha.ex
  refine ⟨fun W => tSMeth C (liftX ci s) (WE W) t1 t2, fun i => pe_smethT (tk i) (p1 i).nox ((hK i).symm ▸ r) ((hK i).symm ▸ cm) ((hK i).symm ▸ Fn i) (hr i) (pa_nox (p2 i)) (hst i) (hpl i) (ht i), fun W b L F0 H0 ρ σ F H R X Q S h q qx => ?_⟩
  refine h1 b L F0 H0 ρ σ F H _ _ S h fun w H1 F1 r1 x1 rep1 _ k1 => ?_
  obtain ⟨rfl, k1⟩ := k1
  cases (show Rep ci F1 (.ref C) w from rep1)
  refine ⟨rfl, h2 b L F0 H0 ρ σ F1 H1 _ _ (S.go x1) k1 fun vs H2 F2 rs x2 rep2 nm k2 => ?_⟩
  exact liftX_go ((S.go x1).go x2) rep2 nm k2 (q.mono (x1.trans x2)) (qx.mono (x1.trans x2))
theorem dex_cmeth (K : PySem.W.Frag) {pp g : Addr} {pl : ι → Sem Bool} (tk : ∀ i, Takes (𝒳 i) (𝒲 i)) (r : ClX.CRead K C (.type "type")) (cm : ClX.CMet K C (.type "type") m pp g) (Fn : ∀ i, FnR (𝒳 i).prog (𝒳 i).w K (𝒳 i).mg (𝒳 i).base (L2.CX (𝒳 i).prog (𝒳 i).w) k g (liftX ci s)) (hr : ∀ i, Room k (𝒳 i).A) (ho : DE ci (fun i => (𝒳 i).nox) o ta) (ha : DAa ci (fun i => (𝒳 i).nox) (e :: es) tr) (hK : ∀ i, (𝒳 i).K = K := by intro _; rfl)
    (hst : ∀ i, starEach (e :: es) (𝒳 i).env = (false, eval e (𝒳 i).env) :: starEach es (𝒳 i).env := by intro _; rfl) (hpl : ∀ i, (backTo pos (starEach es (𝒳 i).env)).any (·.1) = false := by intro _; rfl)
    (ht : ∀ i, eval (.Call (.Attribute o m apos) (e :: es) [] pos) (𝒳 i).env = (do
      let ov ← eval o (𝒳 i).env
      standAt apos.atName
      let (f, first) ← holding [ov] (getMethod ov m (pl i))
      callWith pos f first (backTo pos (starEach (e :: es) (𝒳 i).env)) (backToKw pos (keywordEach [] (𝒳 i).env))) := by intro _; rfl) :
    DEX ci 𝒳 𝒲 (.Call (.Attribute o m apos) (e :: es) [] pos) (fun ρ R X => ta ρ fun r => r = .d (.ref C) ∧ tr ρ fun rs => s (.d (.ref C) :: rs) R X) := by
  obtain ⟨t1, p1, h1⟩ := ho.ex
  obtain ⟨t2, p2, h2⟩ := ha.ex
  refine ⟨fun W => tCMethT C (liftX ci s) (WE W) t1 t2, fun i => pe_cmethT (tk i) (p1 i).nox ((hK i).symm ▸ r) ((hK i).symm ▸ cm) ((hK i).symm ▸ Fn i) (hr i) (pa_nox (p2 i)) (hst i) (hpl i) (ht i), fun W b L F0 H0 ρ σ F H R X Q S h q qx => ?_⟩
  refine h1 b L F0 H0 ρ σ F H _ _ S h fun w H1 F1 r1 x1 rep1 _ k1 => ?_
  obtain ⟨rfl, k1⟩ := k1
  cases (show Rep ci F1 (.ref C) w from rep1)
  refine ⟨rfl, h2 b L F0 H0 ρ σ F1 H1 _ _ (S.go x1) k1 fun vs H2 F2 rs x2 rep2 nm k2 => ?_⟩
  refine liftX_go ((S.go x1).go x2) (.cons (r := .d (.ref C)) (Rep.ref C) rep2) (fun r hr => ?_) k2 (q.mono (x1.trans x2)) (qx.mono (x1.trans x2))
  rcases List.mem_cons.mp hr with rfl | hr
  · exact fun _ z => nomatch z
  · exact nm r hr
theorem dex_mkS (K : PySem.W.Frag) {fI : Addr} (hci : ∀ a F, ci.I C a F) (tk : ∀ i, Takes (𝒳 i) (𝒲 i)) (M : Mk K C fI) (Fn : ∀ i, FnR (𝒳 i).prog (𝒳 i).w K (𝒳 i).mg (𝒳 i).base (L2.CX (𝒳 i).prog (𝒳 i).w) k fI (liftIX ci C si)) (hr : ∀ i, Room (k + 1) (𝒳 i).A) (hf : DE ci (fun i => (𝒳 i).nox) (.Name x p) tf) (ha : DE ci (fun i => (𝒳 i).nox) a ta) (hK : ∀ i, (𝒳 i).K = K := by intro _; rfl)
    (hst : ∀ i, starEach [.Starred a sp_] (𝒳 i).env = [(true, eval a (𝒳 i).env)] := by intro _; rfl) : DEX ci 𝒳 𝒲 (.Call (.Name x p) [.Starred a sp_] [] pos) (fun ρ R X => tf ρ fun r => r = .d (.ref C) ∧ ta ρ fun q => withV q fun y => ∃ xs, (y = .tup xs ∨ y = .lst xs) ∧ si (xs.map Sl.d) (fun fs ys => R (.d (.ins C fs ys))) X) := by
  obtain ⟨t1, p1, h1⟩ := hf.ex
  obtain ⟨t2, p2, h2⟩ := ha.ex
  refine ⟨fun W => tMkST K t1 C (liftIX ci C si) (WE W) t2, fun i => by
    have z := pe_mkST (X := 𝒳 i) (sp_ := sp_) (pos := pos) (tk i) ((hK i).symm ▸ M) ((hK i).symm ▸ Fn i) (hr i) (p1 i).nox (p2 i).nox (hst i)
    rw [hK i] at z
    exact z, fun W b L F0 H0 ρ σ F H R X Q S h q qx => ?_⟩
  refine h1 b L F0 H0 ρ σ F H _ _ S h fun v H1 F1 r1 x1 rep1 _ k1 => ?_
  obtain ⟨rfl, k1⟩ := k1
  cases (show Rep ci F1 (.ref C) v from rep1)
  refine ⟨rfl, h2 b L F0 H0 ρ σ F1 H1 _ _ (S.go x1) k1 fun w H2 F2 r2 x2 rep2 _ k2 => ?_⟩
  obtain ⟨y, ry, xs, ey, k2⟩ := withV_of rep2 k2
  obtain ⟨pp, vs, rfl, hq, rp⟩ := rep_sq (K := K) x2.s1 ry ey
  have S2 := (S.go x1).go x2
  exact ⟨pp, vs, rfl, hq, makeX_sound hci S2.rf S2.nb S2.nL (sl_of_reps rp) nm_map k2 (q.mono (x1.trans x2)) (qx.mono (x1.trans x2))⟩
end
end DL

/-! the data layer: raise, try .. except .. as, defs that raise -/
namespace DL
open PySem PySem.Spec PyProof.Rows L2 VL
open C8 (Cal Met)
abbrev TDSX := DEnds → (List Sl → ExP) → List Sl → Prop
def XOk (ci : CI) (b L : Addr) (F0 H0 F : Hp) (X : List Sl → ExP) (W : WX) : Prop := ∀ ρ σ F' H' C dd fs xs, StRep ci b L F0 H0 ρ σ F' H' → Same F F' → XD ci F' H' H0 dd fs xs → X ρ C fs xs → W (.ref C) dd σ H'
theorem XOk.mono {ci : CI} {b L : Addr} {F0 H0 F F' : Hp} {X : List Sl → ExP} {W : WX} (s : Same F F') (h : XOk ci b L F0 H0 F X W) : XOk ci b L F0 H0 F' X W := fun ρ σ G H C dd fs xs S t => h ρ σ G H C dd fs xs S (s.trans t)
/-- at one state -/
theorem XOk.post {ci : CI} {b L : Addr} {F0 H0 F H : Hp} {ρ : List Sl} {σ : L2.St} {X : List Sl → ExP} {W : WX} (h : XOk ci b L F0 H0 F X W) (S : StRep ci b L F0 H0 ρ σ F H) : XPost ci b L F H (X ρ) (WE W σ) := fun H' F' C dd fs xs f z k => h ρ σ F' H' C dd fs xs (S.go f) f.ff (z.mono S.fr) k
structure DSX (ci : CI) {ι : Type} (𝒳 : ι → Cx) (𝒲 : ι → WX) (st : Stmt) (t : TDSX) : Prop where
  ex : ∃ ts : WX → TS, (∀ i, PS (𝒳 i) st (ts (𝒲 i))) ∧ ∀ (W : WX) (b L : Addr) (F0 H0 : Hp) (ρ : List Sl) (σ : L2.St) (F H : Hp) (DD : DEnds) (X : List Sl → ExP) (E : Ends), StRep ci b L F0 H0 ρ σ F H → t DD X ρ → EOk ci b L F0 H0 F DD E → XOk ci b L F0 H0 F X W → ts W E σ H
structure DSsX (ci : CI) {ι : Type} (𝒳 : ι → Cx) (𝒲 : ι → WX) (st : List Stmt) (t : TDSX) : Prop where
  ex : ∃ ts : WX → TS, (∀ i, PSs (𝒳 i) st (ts (𝒲 i))) ∧ ∀ (W : WX) (b L : Addr) (F0 H0 : Hp) (ρ : List Sl) (σ : L2.St) (F H : Hp) (DD : DEnds) (X : List Sl → ExP) (E : Ends), StRep ci b L F0 H0 ρ σ F H → t DD X ρ → EOk ci b L F0 H0 F DD E → XOk ci b L F0 H0 F X W → ts W E σ H
section
variable {ci : CI} {K : PySem.W.Frag} {ι : Type} {𝒳 : ι → Cx} {𝒲 : ι → WX} {a c e : Expr} {ta tb : TD} {pos : Pos} {st : Stmt} {rest sts sts' : List Stmt} {t u : TDSX} {t0 : TDS} {tA : TDT} {tx : TDX}
theorem ps_nox {X : Cx} {st : Stmt} {t : TS} (h : PS X.nox st t) : PS X st t := ⟨fun pins s σ H D I hw => wpAny_mono (h.run pins s σ H D (I.wish _) hw) (fun _ _ q => q.unwish) fun _ _ z => False.elim z⟩
theorem dsx_of (h : DS ci (fun i => (𝒳 i).nox) st t0) : DSX ci 𝒳 𝒲 st (fun DD _ ρ => t0 DD ρ) := by
  obtain ⟨t1, p1, h1⟩ := h.ex
  exact ⟨fun _ => t1, fun i => ps_nox (p1 i), fun W b L F0 H0 ρ σ F H DD X E S k q _ => h1 b L F0 H0 ρ σ F H DD E S k q⟩
theorem dssx_of (h : DSs ci (fun i => (𝒳 i).nox) sts t0) : DSsX ci 𝒳 𝒲 sts (fun DD _ ρ => t0 DD ρ) := by
  obtain ⟨t1, p1, h1⟩ := h.ex
  exact ⟨fun _ => t1, fun i => (p1 i).nox, fun W b L F0 H0 ρ σ F H DD X E S k q _ => h1 b L F0 H0 ρ σ F H DD E S k q⟩
theorem dssx_one (h1 : DSX ci 𝒳 𝒲 st t) : DSsX ci 𝒳 𝒲 [st] t := let ⟨t1, p1, q1⟩ := h1.ex; ⟨t1, fun i => pss_one (p1 i), q1⟩
theorem dssx_cons (h1 : DSX ci 𝒳 𝒲 st t) (h2 : DSsX ci 𝒳 𝒲 rest u) : DSsX ci 𝒳 𝒲 (st :: rest) (fun DD X ρ => t { DD with nx := u DD X } X ρ) := by
  obtain ⟨t1, p1, q1⟩ := h1.ex
  obtain ⟨t2, p2, q2⟩ := h2.ex
  exact ⟨fun W => tSeq (t1 W) (t2 W), fun i => pss_cons (p1 i) (p2 i), fun W b L F0 H0 ρ σ F H DD X E S h q qx => q1 W b L F0 H0 ρ σ F H _ X _ S h ⟨fun ρ' σ' F' H' S' s k => q2 W b L F0 H0 ρ' σ' F' H' DD X E S' k (q.mono s) (qx.mono s), q.bk, q.ct, q.rt⟩ qx⟩
theorem dssx_frz (k : Nat) (h : DSsX ci 𝒳 𝒲 sts t) : DSsX ci 𝒳 𝒲 sts (fun DD X ρ => t DD X (frz k ρ)) := by
  obtain ⟨t1, p1, q1⟩ := h.ex
  refine ⟨t1, p1, fun W b L F0 H0 ρ σ F H DD X E S h q qx => ?_⟩
  obtain ⟨F', s, S'⟩ := S.frz k
  exact q1 W b L F0 H0 _ σ F' H DD X E S' h (q.mono s) (qx.mono s)
theorem dsx_if (hc : DT ci (fun i => (𝒳 i).nox) c tA) (h1 : DSsX ci 𝒳 𝒲 sts t) (h2 : DSsX ci 𝒳 𝒲 sts' u) : DSX ci 𝒳 𝒲 (.If c sts sts' pos) (fun DD X ρ => tA ρ fun k => if k = true then t DD X ρ else u DD X ρ) := by
  obtain ⟨t0, p0, q0⟩ := hc.ex
  obtain ⟨t1, p1, q1⟩ := h1.ex
  obtain ⟨t2, p2, q2⟩ := h2.ex
  refine ⟨fun W => tIfS t0 (t1 W) (t2 W), fun i => ps_if (p0 i).nox (p1 i) (p2 i), fun W b L F0 H0 ρ σ F H DD X E S h q qx => ?_⟩
  refine q0 b L F0 H0 ρ σ F H _ _ S h fun k H1 F1 x1 k1 => ?_
  cases k with
  | true =>
    rw [if_pos rfl] at k1
    exact iteT (q1 W b L F0 H0 ρ σ F1 H1 DD X E (S.go x1) k1 (q.mono x1.ff) (qx.mono x1.ff))
  | false =>
    rw [if_neg Bool.false_ne_true] at k1
    exact iteF (q2 W b L F0 H0 ρ σ F1 H1 DD X E (S.go x1) k1 (q.mono x1.ff) (qx.mono x1.ff))
theorem dsx_ret (ha : DEX ci 𝒳 𝒲 a tx) : DSX ci 𝒳 𝒲 (.Return (some a) pos) (fun DD X ρ => tx ρ (fun r => keepR r DD.rt) (X ρ)) := by
  obtain ⟨t1, p1, h1⟩ := ha.ex
  refine ⟨fun W => tRet (t1 W), fun i => ps_ret (p1 i), fun W b L F0 H0 ρ σ F H DD X E S h q qx => ?_⟩
  exact h1 W b L F0 H0 ρ σ F H _ _ _ S h (fun v H1 F1 r x1 rep fr k1 => q.rt v H1 F1 r (S.fr.trans x1) rep (fr.fr S.fr) (keepR_of k1).1) (qx.post S)
theorem dsx_expr (ha : DEX ci 𝒳 𝒲 a tx) (hs : ∀ i, swapsWith a none pos.line (𝒳 i).env = pure false := by intro _; rfl) : DSX ci 𝒳 𝒲 (.Expr a pos) (fun DD X ρ => tx ρ (fun _ => DD.nx ρ) (X ρ)) := by
  obtain ⟨t1, p1, h1⟩ := ha.ex
  refine ⟨fun W => tDrop (t1 W), fun i => ps_expr (p1 i) (hs i), fun W b L F0 H0 ρ σ F H DD X E S h q qx => ?_⟩
  exact h1 W b L F0 H0 ρ σ F H _ _ _ S h (fun v H1 F1 r x1 rep fr k1 => q.nx ρ σ F1 H1 (S.go x1) x1.ff k1) (qx.post S)
theorem dsx_set (k : Nat) {x : Str} {pos' : Pos} (hN : ∀ i, (𝒳 i).N.Nodup) (ha : DEX ci 𝒳 𝒲 a tx) (hi : ∀ i, (𝒳 i).N[k]? = some x := by intro _; rfl) (hx : ∀ i, Loc (𝒳 i).env.scope x := by intro _; first | exact Or.inl rfl | exact Or.inr rfl)
    (hs : ∀ i, swapsWith a (some (.Name x pos')) pos.line (𝒳 i).env = pure false := by intro _; rfl) (hf : ∀ i, (𝒳 i).fn x = true ∨ (𝒳 i).env.scope.names.lookup x = some .local := by intro _; first | exact .inl rfl | exact .inr rfl) : DSX ci 𝒳 𝒲 (.Assign [.Name x pos'] a pos) (fun DD X ρ => tx ρ (fun r => keepR r fun r => DD.nx (ρ.set k r)) (X ρ)) := by
  obtain ⟨t1, p1, h1⟩ := ha.ex
  refine ⟨fun W => tAsg (t1 W) (gName k), fun i => ps_set (hN i) (hi i) (hx i) (p1 i) (hs i) (hf i), fun W b L F0 H0 ρ σ F H DD X E S h q qx => ?_⟩
  refine h1 W b L F0 H0 ρ σ F H _ _ _ S h (fun v H1 F1 r x1 rep fr k1 => ?_) (qx.post S)
  obtain ⟨k1, nv⟩ := keepR_of k1
  show E.nx (σ.set k (some v)) H1
  by_cases hk : k < σ.length
  · exact q.nx _ _ F1 H1 (S.put x1 hk rep fr nv) x1.ff k1
  · have e1 : σ.set k (some v) = σ := List.set_eq_of_length_le (by omega)
    have e2 : ρ.set k r = ρ := List.set_eq_of_length_le (by rw [S.len]; omega)
    rw [e1]
    rw [e2] at k1
    exact q.nx _ _ F1 H1 (S.go x1) x1.ff k1
/-- raise x(e), x an own exception of one field -/
theorem dsx_raise {x fld : Str} {C : Addr} {p pos2 : Pos} {j : Nat} (tk : ∀ i, Takes (𝒳 i) (𝒲 i)) (hcalm : ∀ i, (𝒳 i).calm = true) (O : ∀ i, OwnX (𝒳 i).prog (𝒳 i).w (𝒳 i).K (𝒳 i).mg (𝒳 i).base x C fld) (hr : ∀ i, Room j (𝒳 i).A) (hj : 3 ≤ j) (ha : DE ci (fun i => (𝒳 i).nox) a ta) (hg : ∀ i, Gl (𝒳 i) x := by intro _; rfl) (hdb : (x == ("__debug__" : Str)) = false := by decide)
    (he : ∀ i, starEach (a :: []) (𝒳 i).env = (false, eval a (𝒳 i).env) :: starEach [] (𝒳 i).env := by intro _; rfl) (hpl : ∀ i, (backTo pos (starEach [] (𝒳 i).env)).any (·.1) = false := by intro _; rfl) :
    DSX ci 𝒳 𝒲 (.Raise (some (.Call (.Name x p) [a] [] pos)) none pos2) (fun DD X ρ => ta ρ fun r => withD r fun y => X ρ C [fld] [y]) := by
  obtain ⟨t1, p1, h1⟩ := ha.ex
  refine ⟨fun W σ' σ H => tX1 C fld (tCons t1 tNil) σ H fun cls d H' => W cls d σ H', fun i => ps_raise (hcalm i) (tk i) (pmk_own1x (O i) (hr i) hj (hg i) (pa_cons (p1 i).nox pa_nil (he i)) hdb (he i) (hpl i)), fun W b L F0 H0 ρ σ F H DD X E S h q qx => ?_⟩
  refine h1 b L F0 H0 ρ σ F H _ _ S h fun v H1 F1 r x1 rep fr k1 => ?_
  obtain ⟨y, F2, x2, _, ry, k1⟩ := withD_of x1 rep fr k1
  refine ⟨v, rfl, fun d nd => ?_⟩
  have x3 := Fr.tmp x2.s1 x2.b1 (.xd [(fld, v)]) nd
  have S3 := S.go (x2.trans x3)
  refine qx ρ σ F2 _ C (some d) [fld] [y] S3 (x2.trans x3).ff (.inl ⟨d, [v], rfl, by simp, ?_, rfl, .cons ry .nil, same_free x2.s1 nd, S.fr.free (x2.free nd)⟩) k1
  rw [upd_same]
  rfl
end
/-! ### an __init__ that raises -/
section
variable {ci : CI} {P : Program} {w : World} {K : PySem.W.Frag} {mg : Str → Option Value} {base : Heap} {C : Addr}
abbrev entE (P : Program) (w : World) (K : PySem.W.Frag) (mg : Str → Option Value) (base : Heap) (N : List Str) (k : Nat) (qual : Str) (sc : Scope) (f : Addr) : Ent k qual sc f → Cx :=
  fun i => cxOf (L2.CX P w) P w K mg base N qual sc f i.cdv i.A i.outer i.s i.H i.E
abbrev entW {k : Nat} {qual : Str} {sc : Scope} {f : Addr} : Ent k qual sc f → WX := fun i cls d _ H => i.E cls d H
theorem entT {N : List Str} {k : Nat} {qual : Str} {sc : Scope} {f : Addr} (i : Ent k qual sc f) : Takes (entE P w K mg base N k qual sc f i) (entW i) := L2.takes_of rfl rfl rfl rfl
/-- THE RULE for a def that may raise -/
theorem okDX {x qual : Str} {st : Stmt} {f : Addr} {fd : FuncData} {N ps : List Str} {k : Nat} {s : DSpX} (F : Fun K x qual st f fd) (Sc : FnScope N ps (defScope st)) (len : ∀ rs R X, s rs R X → rs.length = ps.length) (hps : ps.length ≤ N.length)
    (h : ∃ t, DSsX ci (entE P w K mg base N k qual (defScope st) f) entW (defBody st) t ∧ ∀ rs R X, s rs R X → t { nx := fun _ => R (.d .non), rt := R } (fun _ => X) (rs ++ List.replicate (N.length - rs.length) .no)) : FnOk P w K mg base (L2.CX P w) (k + 1) f fd ps (liftX ci s) := by
  obtain ⟨t, hb, hs⟩ := h
  obtain ⟨ts, hp, hq⟩ := hb.ex
  refine F.okX Sc (fun vs H Q E h => ?_) fun cdv A outer s0 H vs Q E hr h => ?_
  · obtain ⟨b, L, F1, rs, R, X, _, _, _, rep, _, h1, _⟩ := h
    rw [← rep.1]
    exact len rs R X h1
  · obtain ⟨b, L, F1, rs, R, X, fr, nb, nL, rep, nm, h1, post, xp⟩ := h
    have hl := len rs R X h1
    have S := entry (N := N) fr nb nL rep nm (by rw [← rep.1, hl]; exact hps)
    refine ⟨_, hp ⟨cdv, A, outer, s0, H, E, hr⟩, hq _ b L F1 H _ _ F1 H _ (fun _ => X) _ S (hs rs R X h1) ⟨fun ρ σ F' H' S' _ k => post _ _ F' (.d .non) S'.fr Rep.non Fresh.d k, fun _ _ _ _ _ _ z => z.elim, fun _ _ _ _ _ _ z => z.elim, post⟩ fun ρ σ F' H' C dd fs xs S' _ z k => ?_⟩
    exact xp H' F' C dd fs xs S'.fr z k
/-- what an __init__ does that may raise ahead of its assignments -/
abbrev TDNX := Addr → List Sl → (List Str → List D → Prop) → ExP → Prop
theorem initX_go {N : List Str} {k : Nat} {qual : Str} {sc : Scope} {f : Addr} {g : Stmt} {body : List Stmt} {s : ISpX} {u : TDSX} {t : TDN} (hg : DSX ci (entE P w K mg base N k qual sc f) entW g u) (hb : DN ci K C (fun i => (entE P w K mg base N k qual sc f i).nox) body t) (len : ∀ rs R X, s rs R X → rs.length + 1 ≤ N.length)
    (hs : ∀ x rs R X, s rs R X → u { nx := fun ρ' => noM ρ' ∧ ρ'[0]? = some (.d (.ref x)) ∧ t x ρ' [] [] R, rt := fun _ => False } (fun _ => X) ((.d (.ref x) :: rs) ++ List.replicate (N.length - (rs.length + 1)) .no)) :
    ∃ ts : WX → TS, (∀ i, PSs (entE P w K mg base N k qual sc f i) (g :: body) (ts (entW i))) ∧ ∀ (i : Ent k qual sc f) vs H Q, liftIX ci C s vs H Q i.E → ts (entW i) { nx := fun _ H' => Q .non H', rt := Q } (L2.start N vs) H := by
  obtain ⟨t1, p1, q1⟩ := hg.ex
  obtain ⟨t2, p2, q2⟩ := hb.ex
  refine ⟨fun W => tSeq (t1 W) t2, fun i => pss_cons (p1 i) (p2 i).nox, fun i vs H Q h => ?_⟩
  obtain ⟨b, L, x, dx, F, args, rs, R, X, rfl, nb, nL, hx, nx, fr, fb, fL, rep, nm, h1, post, xp⟩ := h
  have hl := len rs R X h1
  have nm2 : ∀ r ∈ (Sl.d (.ref x) :: rs), ∀ xs, r ≠ .m xs := fun r hr => by
    rcases List.mem_cons.mp hr with rfl | hr
    · exact fun _ z => nomatch z
    · exact nm r hr
  have S := entry (ci := ci) (N := N) fr fb fL (rs := .d (.ref x) :: rs) (vs := .ref x :: args) (.cons (r := .d (.ref x)) (Rep.ref x) rep) nm2 (by have := rep.1; simp only [List.length_cons]; omega)
  refine q1 _ b L F H _ _ F H _ (fun _ => X) _ S (hs x rs R X h1) ⟨fun ρ' σ' F' H' S' _ k => ?_, fun _ _ _ _ _ _ z => z.elim, fun _ _ _ _ _ _ z => z.elim, fun _ _ _ _ _ _ _ z => z.elim⟩ fun ρ' σ' F' H' C dd fs xs S' _ z k => xp H' F' C dd fs xs S'.fr z k
  obtain ⟨nm, e0, k⟩ := k
  refine q2 b L x dx F (rm x H) ρ' σ' F' H' [] [] [] R _ ⟨S'.base nm, S'.fr.rm nx hx nb nL, S'.fr.hh _ _ nb hx, rfl, .nil, S'.fr.no nx hx, nb, nL, e0⟩ k fun ρ2 σ2 F2 H2 fs xs ws S2 k2 => post F2 H2 fs xs ws S2.fr S2.hx S2.lf S2.rp S2.nx k2
def starSX (s : ISpX) : ISpX := fun rs R X => ∃ xs : List D, rs = xs.map Sl.d ∧ xs.length ≤ 1000000 ∧ s [.d (.tup xs)] R X
theorem okISX {f : Addr} {fd : FuncData} {qual pv : Str} {st g : Stmt} {body : List Stmt} {N : List Str} {k : Nat} {s : ISpX} (F : Fun K "__init__" qual st f fd) (Sc : FnScope N ["self", pv] (defScope st)) (eb : defBody st = g :: body) (hN : 2 ≤ N.length) (len : ∀ rs R X, s rs R X → rs.length = 1)
    (hb : ∀ us rest : List Value, us.length = (["self"] : List Str).length → bindArgs fd ⟨us ++ rest, []⟩ = (newTuple rest >>= fun t => pure (((["self"] : List Str).zip us) ++ [(pv, t)])))
    (h : ∃ u t, DSX ci (entE P w K mg base N k qual (defScope st) f) entW g u ∧ DN ci K C (fun i => (entE P w K mg base N k qual (defScope st) f i).nox) body t ∧ ∀ x rs R X, s rs R X → u { nx := fun ρ' => noM ρ' ∧ ρ'[0]? = some (.d (.ref x)) ∧ t x ρ' [] [] R, rt := fun _ => False } (fun _ => X) ((.d (.ref x) :: rs) ++ List.replicate (N.length - (rs.length + 1)) .no)) : FnR P w K mg base (L2.CX P w) (k + 1) f (liftIX ci C (starSX s)) := by
  obtain ⟨u, t, h1, h2, hs⟩ := h
  obtain ⟨ts, hp, hq⟩ := initX_go (ci := ci) (s := s) h1 h2 (fun rs R X z => by rw [len rs R X z]; exact hN) hs
  rw [← eb] at hp
  obtain ⟨oc, od, kV, doc, pm, an, cdv, ct, osl, rfl, lk, hcd⟩ := F.ex
  refine (StX.fn_star (sp := fun vs H Q E => liftIX ci C s vs H Q E) lk hcd Sc StX.cxUp hb fun A outer s0 H vs Q E hr h => ⟨_, hp ⟨cdv, A, outer, s0, H, E, hr⟩, hq ⟨cdv, A, outer, s0, H, E, hr⟩ vs H Q h⟩).imp fun vs H Q E h => ?_
  obtain ⟨b, L, x, dx, F1, args, rs, R, X, rfl, nb, nL, hx, nx, fr, fb, fL, rep, nm, ⟨xs, rfl, hz, h1⟩, post, xp⟩ := h
  have rp := reps_of_d rep
  refine ⟨[.ref x], args, rfl, rfl, by rw [← rp.1]; exact slen hz, fun p hp => ?_⟩
  have px : p ≠ x := fun z => by rw [z, hx] at hp; cases hp
  have y := Fr.new fr.s1 fr.b1 (.tup args) hp
  refine ⟨b, L, x, dx, upd F1 p (.tup args), [.ref p], [.d (.tup xs)], R, X, rfl, nb, nL, by rw [upd_ne px.symm]; exact hx, by rw [upd_ne px.symm]; exact nx, Fr.refl y.s1 y.b1, y.no fb fr.b0.lst.choose_spec, y.no fL fr.b0.lstL.choose_spec, .cons (r := .d (.tup xs)) ((rp.mono y.ff).t upd_same) .nil, fun r hr => ?_, h1, fun F' H' fs ys ws f1 e1 e2 e3 e4 e5 => ?_, xp.mono y⟩
  · rcases List.mem_cons.mp hr with rfl | hr
    · exact fun _ z => nomatch z
    · cases hr
  · exact post F' H' fs ys ws ((y.rm nx hx nb nL).trans f1) e1 e2 e3 e4 e5
/-- def f( *v), which may raise -/
theorem okSX {x f : _} {qual pv : Str} {fd : FuncData} {st : Stmt} {N : List Str} {k : Nat} {s : DSpX} (F : Fun K x qual st f fd) (Sc : FnScope N [pv] (defScope st)) (hN : 1 ≤ N.length)
    (hb : ∀ us rest : List Value, us.length = ([] : List Str).length → bindArgs fd ⟨us ++ rest, []⟩ = (newTuple rest >>= fun t => pure (((([] : List Str)).zip us) ++ [(pv, t)])))
    (h : ∃ t, DSsX ci (entE P w K mg base N k qual (defScope st) f) entW (defBody st) t ∧ ∀ xs R X, s [.d (.tup xs)] R X → t { nx := fun _ => R (.d .non), rt := R } (fun _ => X) ([.d (.tup xs)] ++ List.replicate (N.length - 1) .no)) :
    FnR P w K mg base (L2.CX P w) (k + 1) f (liftX ci fun rs R X => ∃ xs : List D, rs = xs.map Sl.d ∧ xs.length ≤ 1000000 ∧ s [.d (.tup xs)] R X) := by
  obtain ⟨t, hd, hs⟩ := h
  obtain ⟨ts, hp, hq⟩ := hd.ex
  obtain ⟨oc, od, kV, doc, pm, an, cdv, ct, osl, rfl, lk, hcd⟩ := F.ex
  refine (StX.fn_star (ps := []) (sp := fun vs H Q E => ∃ xs, liftX ci (fun rs R X => rs = [.d (.tup xs)] ∧ s [.d (.tup xs)] R X) vs H Q E) lk hcd Sc StX.cxUp hb fun A outer s0 H vs Q E hr h => ?_).imp fun vs H Q E h => ?_
  · obtain ⟨xs, b, L, F1, rs, R, X, fr, nb, nL, rep, nm, ⟨rfl, h1⟩, post, xp⟩ := h
    have S := entry (N := N) fr nb nL rep nm (by rw [← rep.1]; exact hN)
    exact ⟨_, hp ⟨cdv, A, outer, s0, H, E, hr⟩, hq _ b L F1 H _ _ F1 H _ (fun _ => X) _ S (hs xs R X h1) ⟨fun ρ σ F' H' S' _ k => post _ _ F' (.d .non) S'.fr Rep.non Fresh.d k, fun _ _ _ _ _ _ z => z.elim, fun _ _ _ _ _ _ z => z.elim, post⟩ fun ρ σ F' H' C dd fs xs S' _ z k => xp H' F' C dd fs xs S'.fr z k⟩
  · obtain ⟨b, L, F1, rs, R, X, fr, nb, nL, rep, nm, ⟨xs, rfl, hz, h1⟩, post, xp⟩ := h
    have rp := reps_of_d rep
    refine ⟨[], vs, rfl, rfl, by rw [← rp.1]; exact slen hz, fun p hp => ?_⟩
    have y := Fr.new fr.s1 fr.b1 (.tup vs) hp
    refine ⟨xs, b, L, upd F1 p (.tup vs), [.d (.tup xs)], R, X, Fr.refl y.s1 y.b1, y.no nb fr.b0.lst.choose_spec, y.no nL fr.b0.lstL.choose_spec, .cons (r := .d (.tup xs)) ((rp.mono y.ff).t upd_same) .nil, fun r hr => ?_, ⟨rfl, h1⟩, Post.mono y post, xp.mono y⟩
    rcases List.mem_cons.mp hr with rfl | hr
    · exact fun _ z => nomatch z
    · cases hr
end
end DL

/-! the data layer: try .. except x as e: the handler returns -/
namespace DL
open PySem PySem.Spec PyProof.Rows L2 VL
open C8 (Cal Met)
structure TrI {ι : Type} (𝒳 : ι → Cx) where
  i : ι
  W : WX
  pn : List (Addr × Obj)
  xe : Value → Shared → Prop
  tk : Takes ((𝒳 i).tr pn xe) W
abbrev trX {ι : Type} (𝒳 : ι → Cx) : TrI 𝒳 → Cx := fun t => (𝒳 t.i).tr t.pn t.xe
abbrev trW {ι : Type} {𝒳 : ι → Cx} : TrI 𝒳 → WX := fun t => t.W
structure SuI {ι : Type} (𝒳 : ι → Cx) (a : Addr) (cls : Value) (d : Option Addr) where
  i : ι
  oe : Obj
  pn : List (Addr × Obj)
  hz : Zc cls d oe
  hf : ∃ vs, oe.data = .fields vs
abbrev suX {ι : Type} (𝒳 : ι → Cx) (a : Addr) (cls : Value) (d : Option Addr) : SuI 𝒳 a cls d → Cx := fun t => (𝒳 t.i).suite a ((a, t.oe) :: t.pn)
theorem takesF {X : Cx} : Takes X (fun _ _ _ _ => False) := by
  rintro u s ⟨_, _, _, _, _, _, _, _, _, _, _, _, _, _, _, _, w⟩
  exact w.elim
section
variable {ci : CI} {b L : Addr} {F0 H0 F H : Hp} {ρ : List Sl} {σ : L2.St}
/-- an object that was not there at the entry becomes frozen -/
theorem StRep.fix (S : StRep ci b L F0 H0 ρ σ F H) {p : Addr} {o : HO} (h0 : H0 p = none) (n : F p = none) (e : H p = some o) (nl : ∀ vs, o ≠ .lst vs) : StRep ci b L F0 H0 ρ σ (upd F p o) H := by
  refine ⟨S.fr.frz h0 n e, S.fb, S.len, fun i r hr z => ?_, S.ow, S.vw, S.sep⟩
  obtain ⟨v, h1, h2⟩ := S.sl i r hr z
  refine ⟨v, h1, ?_⟩
  cases r with
  | no => trivial
  | d y => exact Rep.mono (same_upd n) h2
  | box => exact h2
  | v xs =>
    obtain ⟨a, vs, e1, h3, h4, h5⟩ := h2
    exact ⟨a, vs, e1, h3, h4.mono (same_upd n), h5⟩
  | m xs =>
    obtain ⟨a, vs, e1, h3, h4, h5, h6, h7⟩ := h2
    have z : a ≠ p := fun z => by
      rw [z, e] at h3
      cases h3
      exact nl _ rfl
    exact ⟨a, vs, e1, h3, h4.mono (same_upd n), h5, h6, by rw [upd_ne z]; exact h7⟩
end
section
variable {ci : CI} {K : PySem.W.Frag} {ι : Type} {𝒳 : ι → Cx} {body suite : List Stmt} {b0 : Stmt} {np pos pos' : Pos} {x n : Str} {c : Addr} {tb : TDSX} {th : Addr → Value → Option Addr → TDS}
theorem ds_try (K : PySem.W.Frag) (k : Nat) (hN : ∀ i, (𝒳 i).N.Nodup) (hm : ∀ i, (𝒳 i).mg x = some (.ref c)) (hb : DSsX ci (trX 𝒳) trW body tb) (hh : ∀ a cls d, DSs ci (suX 𝒳 a cls d) (b0 :: suite) (th a cls d)) (hK : ∀ i, (𝒳 i).K = K := by intro _; rfl)
    (hg : ∀ i, Gl (𝒳 i) x := by intro _; rfl) (hdb : (x == ("__debug__" : Str)) = false := by decide) (hi : ∀ i, (𝒳 i).N[k]? = some n := by intro _; rfl) (hs : ∀ i, (𝒳 i).stack = (𝒳 i).env :: (𝒳 i).outer := by intro _; rfl) (hf : ∀ i, (𝒳 i).env.frame = some (𝒳 i).env.locals := by intro _; rfl) (hln : ∀ i, (𝒳 i).env.kindOf n = some .local := by intro _; rfl) :
    DS ci 𝒳 (.Try body [.ExceptHandler (some (.Name x np)) (some n) (b0 :: suite) pos'] [] [] pos)
      (fun DD ρ => tb DD (fun ρ' C fs xs => PySem.W.exmOne K (.ref C) (.ref c) = some true ∧ match fs with
        | [] => ∀ a, th a (.ref C) none { nx := fun _ => False, rt := DD.rt } (ρ'.set k (.d (.ref a)))
        | f :: fr => ∀ a d, th a (.ref C) (some d) { nx := fun _ => False, rt := DD.rt } (ρ'.set k (.d (.err a C d (f :: fr) xs)))) ρ) := by
  obtain ⟨t1, p1, q1⟩ := hb.ex
  have hx := fun a cls d => (hh a cls d).ex
  refine ⟨fun D σ H => t1 (wAs K (.ref c) k (fun a cls d => (hx a cls d).choose) (fun _ _ _ _ => False) D) D σ H, fun i => ?_, fun b L F0 H0 ρ σ F H DD E S h q => ?_⟩
  · rw [← hK i]
    exact ps_try_as (hs i) (hf i) (hN i) (hi i) (hln i) ⟨hg i, hdb, .inl (hm i)⟩ takesF (fun W pn xe tk _ => p1 ⟨i, W, pn, xe, tk⟩) fun a oe cls d pn hz hf => (hx a cls d).choose_spec.1 ⟨i, oe, pn, hz, hf⟩
  · refine q1 _ b L F0 H0 ρ σ F H DD _ E S h q fun ρ' σ' F' H' C dd fs xs S' _ zz k1 => ?_
    obtain ⟨ex, hth⟩ := k1
    refine ⟨true, ex, fun _ a na => ?_, fun z => Bool.noConfusion z⟩
    have fin : ∀ {y : D} {F2 : Hp}, StRep ci b L F0 H0 ρ' σ' F2 H' → Rep ci F2 y (.ref a) → StRep ci b L F0 H0 (ρ'.set k (.d y)) (σ'.set k (some (.ref a))) F2 H' := fun {y F2} S2 rp => by
      by_cases hk : k < σ'.length
      · exact S2.set hk rp Fresh.d (fun _ z => nomatch z) (fun _ _ z => nomatch z)
      · rw [List.set_eq_of_length_le (by rw [S2.len]; omega), List.set_eq_of_length_le (by omega)]
        exact S2
    rcases zz with ⟨d, ws, rfl, fne, e, l, r, nF, n0⟩ | ⟨rfl, rfl, rfl⟩
    · have S2 := S'.fix n0 nF e (fun _ z => nomatch z)
      have r2 := r.mono (same_upd (o := .xd (fs.zip ws)) nF)
      have rp : Rep ci (upd F' d (.xd (fs.zip ws))) (.err a C d fs xs) (.ref a) := .err upd_same l r2.1 r2.2
      cases fs with
      | nil => exact absurd rfl fne
      | cons f fr => exact (hx a (.ref C) (some d)).choose_spec.2 b L F0 H0 _ _ _ H' _ _ (fin S2 rp) (hth a d) ⟨fun _ _ _ _ _ _ z => z.elim, fun _ _ _ _ _ _ z => z.elim, fun _ _ _ _ _ _ z => z.elim, q.rt⟩
    · exact (hx a (.ref C) none).choose_spec.2 b L F0 H0 _ _ _ H' _ _ (fin S' (Rep.ref a)) (hth a) ⟨fun _ _ _ _ _ _ z => z.elim, fun _ _ _ _ _ _ z => z.elim, fun _ _ _ _ _ _ z => z.elim, q.rt⟩
end
/-! ### in the handler -/
section
variable {ci : CI} {K : PySem.W.Frag} {ι : Type} {𝒳 : ι → Cx} {a : Addr} {cls : Value} {d : Option Addr} {e : Expr} {ta : TD} {pos p q : Pos} {n : Str} {C SE : Addr}
theorem vr_err {b : Addr} {F H : Hp} {a C d : Addr} {fs : List Str} {xs : List D} {v : V} (h : VR ci b F H (.err a C d fs xs) v) : Rep ci F (.err a C d fs xs) v := h.elim id fun ⟨_, _, _, z, _⟩ => nomatch z
/-- e.n -/
theorem de_xf (K : PySem.W.Frag) (T : XfC K C) (hno : PySem.W.findIn K (.ref C) n = some none) (ha : DE ci (suX 𝒳 a cls d) e ta) (hK : ∀ i, (𝒳 i).K = K := by intro _; rfl) (hb : ∀ i, attributeBase e n (suX 𝒳 a cls d i).env (eval e (suX 𝒳 a cls d i).env) = eval e (suX 𝒳 a cls d i).env := by intro _; rfl) :
    DE ci (suX 𝒳 a cls d) (.Attribute e n pos) (fun ρ R => ta ρ fun r => withV r fun x => cls = .ref C ∧ ∃ dd fs xs y, x = .err a C dd fs xs ∧ d = some dd ∧ lookD n fs xs = some y ∧ R (.d y)) := by
  obtain ⟨t1, p1, h1⟩ := ha.ex
  refine ⟨tXf a cls d C n t1, fun i => pe_xf (X := 𝒳 i.i) ((hK i.i).symm ▸ T) ((hK i.i).symm ▸ hno) i.hz i.hf (p1 i) (hb i), fun b L F0 H0 ρ σ F H R Q S h q => ?_⟩
  refine h1 b L F0 H0 ρ σ F H _ _ S h fun v H1 F1 r1 x1 rep1 _ k1 => ?_
  obtain ⟨x, rx, ec, dd, fs, xs, y, rfl, ed, hy, k1⟩ := withV_of rep1 k1
  have rx := vr_err rx
  cases rx with
  | err hh lf l r =>
    obtain ⟨w, hw, rw'⟩ := lookD_rep ⟨l, r⟩ lf hy
    exact ⟨rfl, ec, dd, _, w, ed, x1.s1 _ _ hh, hw, q.d x1 rw' k1⟩
/-- isinstance(e, S) -/
theorem de_isE (K : PySem.W.Frag) {y : Str} (hm : ∀ i, (𝒳 i).mg "isinstance" = none) (hy : ∀ i, (𝒳 i).mg y = some (.ref SE)) (ha : DE ci (suX 𝒳 a cls d) e ta)
    (hg : ∀ i, Gl (suX 𝒳 a cls d i) "isinstance" := by intro _; rfl) (hg2 : ∀ i, Gl (suX 𝒳 a cls d i) y := by intro _; rfl) (hK : ∀ i, (𝒳 i).K = K := by intro _; rfl) (hd : (y == ("__debug__" : Str)) = false := by decide)
    (he : ∀ i, starEach [e, .Name y q] (suX 𝒳 a cls d i).env = (false, eval e (suX 𝒳 a cls d i).env) :: starEach [.Name y q] (suX 𝒳 a cls d i).env := by intro _; rfl) (he2 : ∀ i, starEach [.Name y q] (suX 𝒳 a cls d i).env = (false, eval (.Name y q) (suX 𝒳 a cls d i).env) :: starEach [] (suX 𝒳 a cls d i).env := by intro _; rfl)
    (hpl : ∀ i, (backTo pos (starEach [.Name y q] (suX 𝒳 a cls d i).env)).any (·.1) = false := by intro _; rfl) : DE ci (suX 𝒳 a cls d) (.Call (.Name "isinstance" p) [e, .Name y q] [] pos)
      (fun ρ R => ta ρ fun r => withV r fun x => ∃ C dd fs xs b, x = .err a C dd fs xs ∧ cls = .ref C ∧ d = some dd ∧ ExcC K C ∧ PySem.W.kitOne K (.ref C) (.ref SE) = some b ∧ R (.d (.bl b))) := by
  obtain ⟨t1, p1, h1⟩ := ha.ex
  refine ⟨tCB (fun xs H Q => ∃ D d1, cls = .ref D ∧ d = some d1 ∧ ExcC K D ∧ rIsD K D a d1 xs H Q) (tCons t1 (tCons (tC (.ref SE)) tNil)), fun i => pe_callB (by have z := call_isA (X := 𝒳 i.i) (a := a) (pn := i.pn) i.hz i.hf; rw [hK i.i] at z; exact z) (hg i) (hm i.i) (by decide +kernel) (pa_cons (p1 i) (pa_cons (pe_glob (v := .ref SE) (hg2 i) (hy i.i) rfl hd) pa_nil (he2 i)) (he i)) (by decide) (by decide) (he i) (hpl i), fun b L F0 H0 ρ σ F H R Q S h q => ?_⟩
  refine h1 b L F0 H0 ρ σ F H _ _ S h fun v H1 F1 r1 x1 rep1 _ k1 => ?_
  obtain ⟨x, rx, C, dd, fs, xs, bb, rfl, ec, ed, xc, kk, k1⟩ := withV_of rep1 k1
  have rx := vr_err rx
  cases rx with
  | err hh lf l r => exact ⟨C, dd, ec, ed, xc, .ref SE, .ref SE, bb, _, rfl, x1.s1 _ _ hh, fun _ z => z, kk, q.d x1 (Rep.bl bb) k1⟩
end
/-! ### a def that may raise, where it does not -/
section
variable {ci : CI} {P : Program} {w : World} {K : PySem.W.Frag} {mg : Str → Option Value} {base : Heap} {k : Nat} {f : Addr}
theorem FnR.cool {sp : Sp} (F : FnR P w K mg base (L2.CX P w) k f sp) : FnR P w K mg base CX0 k f (fun vs H Q _ => sp vs H Q (fun _ _ _ => False)) := fun A outer s H us vs Q E hr e0 r h =>
  codeAny_mono (F A outer s H us vs Q (fun _ _ _ => False) hr e0 r h) fun
    | .error _, _, hq => by
      obtain ⟨_, _, _, _, _, _, _, _, _, _, _, _, z⟩ := hq
      exact z.elim
    | .ok (.ret _), _, hq => hq
    | .ok .next, _, hq => hq
    | .ok .brk, _, hq => hq
    | .ok .cont, _, hq => hq
theorem coolX {s : DSpX} (F : FnR P w K mg base (L2.CX P w) k f (liftX ci s)) : FnR P w K mg base CX0 k f (lift ci fun rs R => s rs R fun _ _ _ => False) := (FnR.cool F).imp fun vs H Q E h => by
  obtain ⟨b, L, F1, rs, R, fr, nb, nL, rep, nm, h1, post⟩ := h
  exact ⟨b, L, F1, rs, R, _, fr, nb, nL, rep, nm, h1, post, fun _ _ _ _ _ _ _ _ z => z.elim⟩
theorem coolIX {C : Addr} {s : ISpX} (F : FnR P w K mg base (L2.CX P w) k f (liftIX ci C s)) : FnR P w K mg base CX0 k f (liftI ci C fun rs R => s rs R fun _ _ _ => False) := (FnR.cool F).imp fun vs H Q E h => by
  obtain ⟨b, L, x, dx, F1, args, rs, R, e, nb, nL, hx, nx, fr, fb, fL, rep, nm, h1, post⟩ := h
  exact ⟨b, L, x, dx, F1, args, rs, R, _, e, nb, nL, hx, nx, fr, fb, fL, rep, nm, h1, post, fun _ _ _ _ _ _ _ _ z => z.elim⟩
end
/-! ### C.m(e, ..), C.m(), m a staticmethod -/
section
variable {X : Cx} {pins : List (Addr × Obj)} {σ : L2.St} {H : Hp} {s : Shared} {C p g : Addr} {m : Str} {k : Nat} {sp : Sp} {Q : VK} {us : List Value} {vs : List V} {o e : Expr} {es : List Expr} {ta te : TE} {t : TA} {pos apos : Pos} {pl : Sem Bool}
theorem pe_smeth (he : PE X o ta) (r : ClX.CRead X.K C (.type "type")) (c : SMet X.K C m p g) (F : FnR X.prog X.w X.K X.mg X.base CX0 k g sp) (hr : Room k X.A) (ha : PA X (e :: es) t)
    (hst : starEach (e :: es) X.env = (false, eval e X.env) :: starEach es X.env) (hpl : (backTo pos (starEach es X.env)).any (·.1) = false)
    (ht : eval (.Call (.Attribute o m apos) (e :: es) [] pos) X.env = (do
      let ov ← eval o X.env
      standAt apos.atName
      let (f, first) ← holding [ov] (getMethod ov m pl)
      callWith pos f first (backTo pos (starEach (e :: es) X.env)) (backToKw pos (keywordEach [] X.env)))) : PE X (.Call (.Attribute o m apos) (e :: es) [] pos) (tSMeth C sp (fun _ => E0) ta t) := by
  refine ⟨fun pins s σ H Q I h => PySem.W.methodCall_KW (pl := pl) (thn (he.run pins s σ H _ I h) fun u s1 ⟨x, H1, I1, rx, ex, q⟩ => ?_) ht⟩
  subst ex
  obtain rfl : u = Value.ref C := rx
  exact getsm I1 r c fun s2 I2 => PySem.W.callWith_K (h₀ := X.base) I2.ok.mod.kin c.kp (thn (ha.run pos pins s2 σ H1 _ I2 q) fun us s3 ⟨vs, H2, I3, rv, q2⟩ => ⟨I3.kIn, wpAny_call (run_fnR F hr (fun _ _ _ _ _ _ _ h => h.elim) I3 rv q2)⟩) hst hpl
theorem pe_smeth0 (he : PE X o ta) (r : ClX.CRead X.K C (.type "type")) (c : SMet X.K C m p g) (F : FnR X.prog X.w X.K X.mg X.base CX0 k g sp) (hr : Room k X.A)
    (ht : eval (.Call (.Attribute o m apos) [] [] pos) X.env = (do
      let ov ← eval o X.env
      standAt apos.atName
      let (f, first) ← holding [ov] (getMethod ov m pl)
      callWith pos f first (backTo pos (starEach [] X.env)) (backToKw pos (keywordEach [] X.env)))) : PE X (.Call (.Attribute o m apos) [] [] pos) (tSMeth C sp (fun _ => E0) ta tNil) := by
  refine ⟨fun pins s σ H Q I h => PySem.W.methodCall_KW (pl := pl) (thn (he.run pins s σ H _ I h) fun u s1 ⟨x, H1, I1, rx, ex, q⟩ => ?_) ht⟩
  subst ex
  obtain rfl : u = Value.ref C := rx
  exact getsm I1 r c fun s2 I2 => PySem.W.callWith_K0 I2.kIn c.kp (wpAny_call (run_fnR F hr (fun _ _ _ _ _ _ _ h => h.elim) I2 .nil q))
end
section
variable {ci : CI} {K : PySem.W.Frag} {ι : Type} {𝒳 : ι → Cx} {C : Addr} {e o : Expr} {es : List Expr} {ta : TD} {tr : TDA} {pos apos : Pos} {m : Str} {k : Nat} {s : DSp}
theorem de_smeth (K : PySem.W.Frag) {pp g : Addr} {pl : ι → Sem Bool} (r : ClX.CRead K C (.type "type")) (cm : SMet K C m pp g) (Fn : ∀ i, FnR (𝒳 i).prog (𝒳 i).w K (𝒳 i).mg (𝒳 i).base CX0 k g (lift ci s)) (hr : ∀ i, Room k (𝒳 i).A) (ho : DE ci 𝒳 o ta) (ha : DAa ci 𝒳 (e :: es) tr) (hK : ∀ i, (𝒳 i).K = K := by intro _; rfl)
    (hst : ∀ i, starEach (e :: es) (𝒳 i).env = (false, eval e (𝒳 i).env) :: starEach es (𝒳 i).env := by intro _; rfl) (hpl : ∀ i, (backTo pos (starEach es (𝒳 i).env)).any (·.1) = false := by intro _; rfl)
    (ht : ∀ i, eval (.Call (.Attribute o m apos) (e :: es) [] pos) (𝒳 i).env = (do
      let ov ← eval o (𝒳 i).env
      standAt apos.atName
      let (f, first) ← holding [ov] (getMethod ov m (pl i))
      callWith pos f first (backTo pos (starEach (e :: es) (𝒳 i).env)) (backToKw pos (keywordEach [] (𝒳 i).env))) := by intro _; rfl) :
    DE ci 𝒳 (.Call (.Attribute o m apos) (e :: es) [] pos) (fun ρ R => ta ρ fun r => r = .d (.ref C) ∧ tr ρ fun rs => s rs R) := by
  obtain ⟨t1, p1, h1⟩ := ho.ex
  obtain ⟨t2, p2, h2⟩ := ha.ex
  refine ⟨tSMeth C (lift ci s) (fun _ => E0) t1 t2, fun i => pe_smeth (p1 i) ((hK i).symm ▸ r) ((hK i).symm ▸ cm) ((hK i).symm ▸ Fn i) (hr i) (p2 i) (hst i) (hpl i) (ht i), fun b L F0 H0 ρ σ F H R Q S h q => ?_⟩
  refine h1 b L F0 H0 ρ σ F H _ _ S h fun w H1 F1 r1 x1 rep1 _ k1 => ?_
  obtain ⟨rfl, k1⟩ := k1
  cases (show Rep ci F1 (.ref C) w from rep1)
  refine ⟨rfl, h2 b L F0 H0 ρ σ F1 H1 _ _ (S.go x1) k1 fun vs H2 F2 rs x2 rep2 nm k2 => ?_⟩
  exact lift_go ((S.go x1).go x2) rep2 nm k2 (q.mono (x1.trans x2))
theorem de_smeth0 (K : PySem.W.Frag) {pp g : Addr} {pl : ι → Sem Bool} (r : ClX.CRead K C (.type "type")) (cm : SMet K C m pp g) (Fn : ∀ i, FnR (𝒳 i).prog (𝒳 i).w K (𝒳 i).mg (𝒳 i).base CX0 k g (lift ci s)) (hr : ∀ i, Room k (𝒳 i).A) (ho : DE ci 𝒳 o ta) (hK : ∀ i, (𝒳 i).K = K := by intro _; rfl)
    (ht : ∀ i, eval (.Call (.Attribute o m apos) [] [] pos) (𝒳 i).env = (do
      let ov ← eval o (𝒳 i).env
      standAt apos.atName
      let (f, first) ← holding [ov] (getMethod ov m (pl i))
      callWith pos f first (backTo pos (starEach [] (𝒳 i).env)) (backToKw pos (keywordEach [] (𝒳 i).env))) := by intro _; rfl) :
    DE ci 𝒳 (.Call (.Attribute o m apos) [] [] pos) (fun ρ R => ta ρ fun r => r = .d (.ref C) ∧ s [] R) := by
  obtain ⟨t1, p1, h1⟩ := ho.ex
  refine ⟨tSMeth C (lift ci s) (fun _ => E0) t1 tNil, fun i => pe_smeth0 (p1 i) ((hK i).symm ▸ r) ((hK i).symm ▸ cm) ((hK i).symm ▸ Fn i) (hr i) (ht i), fun b L F0 H0 ρ σ F H R Q S h q => ?_⟩
  refine h1 b L F0 H0 ρ σ F H _ _ S h fun w H1 F1 r1 x1 rep1 _ k1 => ?_
  obtain ⟨rfl, k1⟩ := k1
  cases (show Rep ci F1 (.ref C) w from rep1)
  exact ⟨rfl, lift_go (E := E0) (S.go x1) .nil (fun _ z => nomatch z) k1 (q.mono x1)⟩
end
end DL

/-! the data layer: len(set(xs)), xs a list of integers, equal ones among them or not -/
namespace DL
open PySem PySem.Spec PyProof.Rows L2 VL
/-- how many different ones the set keeps -/
def kept (ns : List Int) : Nat := (firstMet (fun i => ns.getD i 0) ns.length).length
theorem fm_le (f : Nat → Int) : ∀ i, (firstMet f i).length ≤ i
  | 0 => Nat.le_refl _
  | i + 1 => by
    rw [firstMet_succ]
    unfold step_dedup
    have := fm_le f i
    split
    · omega
    · rw [List.length_append]
      show _ + 1 ≤ i + 1
      omega
theorem fm_mem (f : Nat → Int) : ∀ i j, j < i → f j ∈ firstMet f i
  | 0, j, h => absurd h (Nat.not_lt_zero j)
  | i + 1, j, h => by
    rw [firstMet_succ]
    unfold step_dedup
    by_cases e : j = i
    · subst e
      split
      · rename_i q
        obtain ⟨x, hx, e2⟩ := List.any_eq_true.mp q
        rw [← beq_iff_eq.mp e2]
        exact hx
      · exact List.mem_append_right _ (by simp)
    · have := fm_mem f i j (by omega)
      split
      · exact this
      · exact List.mem_append_left _ this
theorem fm_dup (f : Nat → Int) {j i : Nat} (hji : j < i) (e : f j = f i) : ∀ n, i < n → (firstMet f n).length < n
  | 0, h => absurd h (Nat.not_lt_zero i)
  | n + 1, h => by
    rw [firstMet_succ]
    unfold step_dedup
    by_cases z : i = n
    · subst z
      have m := fm_mem f i j hji
      have q : (firstMet f i).any (· == f i) = true := List.any_eq_true.mpr ⟨f j, m, beq_iff_eq.mpr e⟩
      rw [if_pos q]
      have := fm_le f i
      omega
    · have := fm_dup f hji e n (by omega)
      split
      · omega
      · rw [List.length_append]
        show _ + 1 < n + 1
        omega
theorem kept_nodup {ns : List Int} (h : ns.Nodup) : kept ns = ns.length := by
  unfold kept
  rw [RZ.firstMet_nodup h ns.length (Nat.le_refl _), List.take_length]
theorem kept_dup {ns : List Int} (h : ¬ ns.Nodup) : kept ns ≠ ns.length := by
  intro z
  refine h (List.pairwise_iff_getElem.mpr fun i j hi hj hij e => ?_)
  have := fm_dup (fun i => ns.getD i 0) (j := i) (i := j) hij (by
    show ns.getD i 0 = ns.getD j 0
    rw [List.getD_eq_getElem?_getD, List.getD_eq_getElem?_getD, List.getElem?_eq_getElem hi, List.getElem?_eq_getElem hj, e]) ns.length hj
  unfold kept at z
  omega
theorem kept_le (ns : List Int) : kept ns ≤ ns.length := fm_le _ _
section
variable {ci : CI} {ι : Type} {𝒳 : ι → Cx} {a : Expr} {ta : TD} {pos p : Pos}
def tLenSetG (K : PySem.W.Frag) (ta : TE) : TE := fun σ H Q => ta σ H fun x H1 => ∃ (l : Addr) (ns : List Int), x = .ref l ∧ SqL K H1 l (ns.map V.int) ∧ ns.length ≤ 4000 ∧ Q (.int (kept ns : Nat)) H1
theorem pe_lenSetG {X : Cx} {p2 q : Pos} {ta : TE} (hc : X.calm = true) (hg : Gl X "len") (hm : X.mg "len" = none) (hg2 : Gl X "set") (hm2 : X.mg "set" = none) (ha : PE X a ta) (na : starEach [a] X.env = (false, eval a X.env) :: starEach [] X.env) :
    PE X (.Call (.Name "len" p) [.Call (.Name "set" p2) [a] [] q] [] pos) (tLenSetG X.K ta) := by
  constructor
  intro pins s σ G Q J h
  refine Call_ (ld_blt J hg hm boot_len (callWith_builtin1 (args_cons (Call_ (ld_blt J hg2 hm2 boot_set (callWith_type1 (args_cons (thn (ha.run pins s σ G _ J h) fun v s1 ⟨x, G1, J1, r, l, ns, ex, sq, few, done⟩ => args_nil ?_) na) na rfl))) rfl) rfl rfl))
  subst ex
  cases r
  obtain ⟨its, rv, pl, _⟩ := J1.list sq
  have sz : its.toArray.size = ns.length := by rw [List.size_toArray, ← rv.length, List.length_map]
  refine call_set_list (J1.ok.hd hc) pl.isList (ns := ns) (by simpa using rv.ints) (by rw [sz]; unfold scanBound; omega) fun h' tk held keep => args_nil ?_
  rw [sz] at held
  obtain ⟨o, es, ep, t, ho, hex, hd, _, _, _, hf, hn⟩ := held
  have few2 := kept_le ns
  unfold kept at few2
  have J2 : Inv X pins σ G1 { s1 with heap := h', toks := tk } := J1.kept fun b u e => keep b u (Heap.lt_size e) e
  exact call_len_set ho hex hd hf (by rw [hn]; omega) ⟨.int (kept ns : Nat), G1, J2.tok _, ⟨_, by rw [hn]; rfl⟩, done⟩
theorem de_lenSet (K : PySem.W.Frag) {p2 q : Pos} (hc : ∀ i, (𝒳 i).calm = true) (hm : ∀ i, (𝒳 i).mg "len" = none) (hm2 : ∀ i, (𝒳 i).mg "set" = none) (ha : DE ci 𝒳 a ta) (hg : ∀ i, Gl (𝒳 i) "len" := by intro _; rfl) (hg2 : ∀ i, Gl (𝒳 i) "set" := by intro _; rfl) (hK : ∀ i, (𝒳 i).K = K := by intro _; rfl)
    (na : ∀ i, starEach [a] (𝒳 i).env = (false, eval a (𝒳 i).env) :: starEach [] (𝒳 i).env := by intro _; rfl) : DE ci 𝒳 (.Call (.Name "len" p) [.Call (.Name "set" p2) [a] [] q] [] pos) (fun ρ R => ta ρ fun r => withV r fun y => ∃ ns : List Int, y = .lst (ns.map D.int) ∧ ns.length ≤ 4000 ∧ R (.d (.int (kept ns : Nat)))) := by
  obtain ⟨t1, p1, h1⟩ := ha.ex
  refine ⟨tLenSetG K t1, fun i => by rw [← hK i]; exact pe_lenSetG (hc i) (hg i) (hm i) (hg2 i) (hm2 i) (p1 i) (na i), fun b L F0 H0 ρ σ F H R Q S h q => ?_⟩
  refine h1 b L F0 H0 ρ σ F H _ _ S h fun v H1 F1 r1 x1 rep1 _ k1 => ?_
  obtain ⟨y, ry, ns, rfl, hl, k1⟩ := withV_of rep1 k1
  obtain ⟨pp, vs, rfl, hq, rp⟩ := ry.lst x1.s1
  have ev := reps_ints rp
  subst ev
  exact ⟨pp, ns, rfl, SqL.of hq, hl, q.d x1 (Rep.int _) k1⟩
end
/-! ### what makes a rule -/
def markD : D → Int
  | .tup [.int a, _] => a
  | _ => 0
def goodB (xs : List D) : Bool := xs.all (termB 8) && decide ((xs.map markD).Nodup)
def dTermsG : DSp := fun rs R => ∃ xs, rs = [.d (.tup xs)] ∧ xs.length ≤ 1000 ∧ (∀ x ∈ xs, plT x) ∧ R (.d (.bl (goodB xs)))
def iInit (IR : Addr) : ISpX := fun rs R X => ∃ xs, rs = [.d (.tup xs)] ∧ xs.length ≤ 1000 ∧ (∀ x ∈ xs, plT x) ∧ (goodB xs = true → R ["terms"] [.tup xs]) ∧ (goodB xs = false → X IR ["terms"] [.tup xs])
def ruleD (C : Addr) (xs : List D) : D := .ins C ["terms"] [.tup xs]
def sListed (C IR : Addr) : DSpX := fun rs R X => ∃ r x xs, rs = [.d (.ref C), r] ∧ r.see = some x ∧ (x = .lst xs ∨ x = .tup xs) ∧ xs.length ≤ 1000 ∧ (∀ x ∈ xs, plT x) ∧ (goodB xs = true → R (.d (ruleD C xs))) ∧ (goodB xs = false → X IR ["terms"] [.tup xs])
def ascD (ms : List D) : List D := ms.map fun m => .tup [m, .int 1]
def sAsc (C IR : Addr) : DSpX := fun rs R X => ∃ ms, rs = [.d (.tup ms)] ∧ ms.length ≤ 1000 ∧ (∀ m ∈ ms, plK m) ∧ (goodB (ascD ms) = true → R (.d (ruleD C (ascD ms)))) ∧ (goodB (ascD ms) = false → X IR ["terms"] [.tup (ascD ms)])
theorem term_shape {x : D} (h : termB 8 x = true) : ∃ m d : Int, x = .tup [.int m, .int d] := by
  unfold termB at h
  split at h
  · rename_i a b
    cases a with
    | int m =>
      cases b with
      | int d => exact ⟨m, d, rfl⟩
      | _ => simp [intD] at h
    | _ => simp [intD] at h
  · cases h
end DL
namespace DL
open PySem PySem.Spec PyProof.Rows L2 VL
/-- as an argument that is kept: data stay data -/
def Sl.argK : Sl → Sl
  | .m xs => .v xs
  | r => r
theorem Sl.argK_nm (r : Sl) : ∀ xs, r.argK ≠ .m xs := by
  intro xs
  cases r <;> exact fun z => nomatch z
section
variable {ci : CI} {ι : Type} {𝒳 : ι → Cx} {e : Expr} {es : List Expr} {ta : TD} {tr : TDA}
theorem SlRep.argK {b L : Addr} {F H : Hp} {r : Sl} {v : V} (h : SlRep ci b L F H r v) : SlRep ci b L F H r.argK v := by
  cases r with
  | m xs =>
    obtain ⟨a, vs, e, h1, h2, h3, _⟩ := h
    exact ⟨a, vs, e, h1, h2, h3⟩
  | _ => exact h
theorem daa_consK (ha : DE ci 𝒳 e ta) (hr : DAa ci 𝒳 es tr) (hs : ∀ i, starEach (e :: es) (𝒳 i).env = (false, eval e (𝒳 i).env) :: starEach es (𝒳 i).env := by intro _; rfl) : DAa ci 𝒳 (e :: es) (fun ρ R => ta ρ fun r => tr ρ fun rs => R (r.argK :: rs)) := by
  obtain ⟨t1, p1, h1⟩ := ha.ex
  obtain ⟨t2, p2, h2⟩ := hr.ex
  refine ⟨tCons t1 t2, fun i => pa_cons (p1 i) (p2 i) (hs i), fun b L F0 H0 ρ σ F H R Q S h q => ?_⟩
  refine h1 b L F0 H0 ρ σ F H _ _ S h fun v H1 F1 r1 x1 rep1 _ k1 => ?_
  refine h2 b L F0 H0 ρ σ F1 H1 _ _ (S.go x1) k1 fun vs H2 F2 rs x2 rep2 nm k2 => ?_
  refine q _ H2 F2 _ (x1.trans x2) (.cons ((SlRep.argK rep1).fr x2) rep2) (fun r hr => ?_) k2
  rcases List.mem_cons.mp hr with rfl | hr
  · exact Sl.argK_nm r1
  · exact nm r hr
end
def askX (way : Int) (row : List D) : List D := if way = 2 then ascD row else row
def dAsk : DSp := fun rs R => ∃ (way : Int) (r : Sl) (row : List D), rs = [.d (.int way), r] ∧ r.see = some (.lst row) ∧ row.length ≤ 1000 ∧
  ((way = 0 ∧ row.length = 3 ∧ ∀ x ∈ row, plT x) ∨ (way = 1 ∧ ∀ x ∈ row, plT x) ∨ (way = 2 ∧ row.length = 3 ∧ ∀ x ∈ row, flatX x = true)) ∧ (goodB (askX way row) = true → R (.d (.tup (askX way row)))) ∧ (goodB (askX way row) = false → R (.m [.str "refused", .tup (askX way row), .bl true]))
theorem flat_plK {x : D} (h : flatX x = true) : plK x := by
  cases x with
  | non => rfl
  | bl b => rfl
  | int i => rfl
  | str s => rfl
  | _ => cases h
end DL
namespace DL
open PySem PySem.Spec PyProof.Rows L2 VL
/-- what a def with a star parameter alone binds -/
theorem bind_star0 {B : List Value → Sem (List (Str × Value))} {pv : Str} (h0 : B [] = (newTuple [] >>= fun t => pure [(pv, t)])) (h1 : ∀ r rs, B (r :: rs) = (newTuple (r :: rs) >>= fun t => pure [(pv, t)])) :
    ∀ us rest : List Value, us.length = ([] : List Str).length → B (us ++ rest) = (newTuple rest >>= fun t => pure ((([] : List Str).zip us) ++ [(pv, t)])) := fun us rest h => by
  cases us with
  | cons a l => cases h
  | nil =>
    cases rest with
    | nil => exact h0
    | cons r rs => exact h1 r rs
end DL

/-! the data layer: texts -/
namespace DL
open PySem PySem.Spec PyProof.Rows L2 VL
section
variable {ci : CI} {K : PySem.W.Frag} {ι : Type} {𝒳 : ι → Cx} {a c e o : Expr} {es : List Expr} {ta tb to : TD} {pos apos p : Pos} {tg : Expr}
theorem reps_of_strs {F : Hp} : ∀ ns : List Str, Reps ci F (ns.map D.str) (ns.map V.str)
  | [] => .nil
  | n :: ns => .cons (.str n) (reps_of_strs ns)
theorem sl16 {n : Nat} (h : n ≤ 1000000) : n ≤ 16777216 := Nat.le_trans h (by decide)
/-- s.join(xs) -/
theorem de_join (K : PySem.W.Frag) (ho : DE ci 𝒳 o ta) (he : DE ci 𝒳 e tb) (hK : ∀ i, (𝒳 i).K = K := by intro _; rfl) (hs : ∀ i, starEach [e] (𝒳 i).env = [(false, eval e (𝒳 i).env)] := by intro _; rfl) (hbase : ∀ i, attributeBase o "join" (𝒳 i).env (eval o (𝒳 i).env) = eval o (𝒳 i).env := by intro _; rfl) (hline : (apos.endLine == pos.line) = true := by rfl) :
    DE ci 𝒳 (.Call (.Attribute o "join" apos) [e] [] pos) (fun ρ R => ta ρ fun r => withV r fun x => ∃ s : Str, x = .str s ∧ tb ρ fun q => withV q fun y => ∃ ys : List Str, (y = .lst (ys.map D.str) ∨ y = .tup (ys.map D.str)) ∧ (ys.map (·.length)).sum + ys.length * s.length ≤ 1000000 ∧ R (.d (.str (Txt.join s ys)))) := by
  obtain ⟨t1, p1, h1⟩ := ho.ex
  obtain ⟨t2, p2, h2⟩ := he.ex
  refine ⟨tM1 (fun x xs H Q => ∃ a p, ∃ ys : List Str, x = .str a ∧ xs = [.ref p] ∧ (SqL K H p (ys.map V.str) ∨ SqT K H p (ys.map V.str)) ∧ (ys.map (·.length)).sum + ys.length * a.length ≤ 16777216 ∧ Q (.str (Txt.join a ys)) H) t1 t2, fun i => by rw [← hK i]; exact pe_join (p1 i) (p2 i) (hs i) (hbase i) hline, fun b L F0 H0 ρ σ F H R Q S h q => ?_⟩
  refine h1 b L F0 H0 ρ σ F H _ _ S h fun v H1 F1 r1 x1 rep1 _ k1 => ?_
  obtain ⟨x, rx, s, rfl, k1⟩ := withV_of rep1 k1
  refine ⟨⟨s, rx.str⟩, h2 b L F0 H0 ρ σ F1 H1 _ _ (S.go x1) k1 fun w H2 F2 r2 x2 rep2 _ k2 => ?_⟩
  obtain ⟨y, ry, ys, ey, hz, k2⟩ := withV_of rep2 k2
  obtain ⟨pp, vs, rfl, hq, rp⟩ := rep_sq (K := K) x2.s1 ry ey.symm
  rw [reps_strs rp] at hq
  exact ⟨s, pp, ys, rx.str, rfl, hq.symm, sl16 hz, q.d (x1.trans x2) (Rep.str _) k2⟩
/-- s.split(t) -/
theorem de_split (ho : DE ci 𝒳 o ta) (he : DE ci 𝒳 e tb) (hs : ∀ i, starEach [e] (𝒳 i).env = [(false, eval e (𝒳 i).env)] := by intro _; rfl) (hbase : ∀ i, attributeBase o "split" (𝒳 i).env (eval o (𝒳 i).env) = eval o (𝒳 i).env := by intro _; rfl) (hline : (apos.endLine == pos.line) = true := by rfl) :
    DE ci 𝒳 (.Call (.Attribute o "split" apos) [e] [] pos) (fun ρ R => ta ρ fun r => withV r fun x => ∃ s : Str, x = .str s ∧ tb ρ fun q => withV q fun y => ∃ t : Str, y = .str t ∧ (t.length == 0) = false ∧ s.length ≤ 1000000 ∧ R (.m ((Txt.split s t).map D.str))) := by
  obtain ⟨t1, p1, h1⟩ := ho.ex
  obtain ⟨t2, p2, h2⟩ := he.ex
  refine ⟨_, fun i => pe_split (p1 i) (p2 i) (hs i) (hbase i) hline, fun b L F0 H0 ρ σ F H R Q S h q => ?_⟩
  refine h1 b L F0 H0 ρ σ F H _ _ S h fun v H1 F1 r1 x1 rep1 _ k1 => ?_
  obtain ⟨x, rx, s, rfl, k1⟩ := withV_of rep1 k1
  refine ⟨⟨s, rx.str⟩, h2 b L F0 H0 ρ σ F1 H1 _ _ (S.go x1) k1 fun w H2 F2 r2 x2 rep2 _ k2 => ?_⟩
  obtain ⟨y, ry, t, rfl, ht, hz, k2⟩ := withV_of rep2 k2
  refine ⟨s, t, rx.str, by rw [ry.str], ht, Nat.le_trans (Nat.add_le_add_right hz 2) (by decide), fun l hl => ?_⟩
  have x3 := x1.trans x2
  exact q _ _ _ _ (x3.trans (Fr.tmp x3.s1 x3.b1 _ hl)) (sl_m x3 (reps_of_strs _) hl) (fresh_m x3 hl) k2
/-! ### f-texts -/
abbrev TDJ := List Sl → Str → (Str → Prop) → Prop
structure DJs (ci : CI) {ι : Type} (𝒳 : ι → Cx) (es : List Expr) (t : TDJ) : Prop where
  ex : ∃ ts : List TE, (∀ i, PJ (𝒳 i) es ts) ∧ ∀ (b L : Addr) (F0 H0 : Hp) (ρ : List Sl) (σ : L2.St) (F H : Hp) (acc : Str) (R : Str → Prop) (Q : Str → Hp → Prop), StRep ci b L F0 H0 ρ σ F H → t ρ acc R → (∀ z H' F', Fr b L F H F' H' → R z → Q z H') → tJs ts acc σ H Q
theorem dj_nil : DJs ci 𝒳 [] (fun _ acc R => R acc) := ⟨[], fun _ => .nil, fun b L F0 H0 ρ σ F H acc R Q S h q => q acc H F S.rf h⟩
theorem dj_cons {t : TDJ} (ha : DE ci 𝒳 e ta) (hr : DJs ci 𝒳 es t) : DJs ci 𝒳 (e :: es) (fun ρ acc R => ta ρ fun r => withV r fun x => ∃ z : Str, x = .str z ∧ (acc ++ z).length ≤ 1000000 ∧ t ρ (acc ++ z) R) := by
  obtain ⟨t1, p1, h1⟩ := ha.ex
  obtain ⟨t2, p2, h2⟩ := hr.ex
  refine ⟨t1 :: t2, fun i => .cons (p1 i) (p2 i), fun b L F0 H0 ρ σ F H acc R Q S h q => ?_⟩
  refine h1 b L F0 H0 ρ σ F H _ _ S h fun v H1 F1 r1 x1 rep1 _ k1 => ?_
  obtain ⟨x, rx, z, rfl, hz, k1⟩ := withV_of rep1 k1
  exact ⟨z, rx.str, slen hz, h2 b L F0 H0 ρ σ F1 H1 _ _ _ (S.go x1) k1 fun w H2 F2 x2 k2 => q w H2 F2 (x1.trans x2) k2⟩
theorem de_fstr {v1 v2 : Expr} {t : TDJ} (h : DJs ci 𝒳 (v1 :: v2 :: es) t) : DE ci 𝒳 (.JoinedStr (v1 :: v2 :: es) pos) (fun ρ R => t ρ Str.empty fun z => R (.d (.str z))) := by
  obtain ⟨t1, p1, h1⟩ := h.ex
  exact ⟨_, fun i => pe_joined (p1 i), fun b L F0 H0 ρ σ F H R Q S h q => h1 b L F0 H0 ρ σ F H _ _ _ S h fun z H1 F1 x1 k1 => q.d x1 (Rep.str z) k1⟩
/-- {e} of a text, of a number -/
theorem de_fmt (ha : DE ci 𝒳 e ta) : DE ci 𝒳 (.FormattedValue e (-1) none pos) (fun ρ R => ta ρ fun r => withV r fun x => (∃ z : Str, x = .str z ∧ z.length ≤ 1000000 ∧ R (.d (.str z))) ∨ ∃ i : Int, x = .int i ∧ i.natAbs.log2 < 1920 ∧ R (.d (.str (toString i)))) := by
  obtain ⟨t1, p1, h1⟩ := ha.ex
  refine ⟨tFmt t1, fun i => pe_fmt (p1 i), fun b L F0 H0 ρ σ F H R Q S h q => ?_⟩
  refine h1 b L F0 H0 ρ σ F H _ _ S h fun v H1 F1 r1 x1 rep1 _ k1 => ?_
  obtain ⟨x, rx, k1⟩ := withV_of rep1 k1
  rcases k1 with ⟨z, rfl, hz, k1⟩ | ⟨i, rfl, hi, k1⟩
  · exact .inl ⟨z, rx.str, slen hz, q.d x1 (Rep.str z) k1⟩
  · exact .inr ⟨i, rx.int, hi, q.d x1 (Rep.str _) k1⟩
/-! ### the signs of a text, one sign in a text -/
def signD (z : Str) : List D := z.cps.toList.map fun c => D.str ⟨#[c]⟩
theorem walkD_str {b L : Addr} {z : Str} {Fs : Hp} : WalkD ci b L (Its z) (signD z) Fs (fun _ => True) := by
  have len : (signD z).length = z.cps.size := by unfold signD; simp
  refine ⟨fun i H hi _ => by show i < z.cps.size; omega, fun H _ => by show z.cps.size ≤ _; omega, fun i F H v H' hi _ s s' B y => ?_⟩
  obtain ⟨rfl, c, hc, rfl⟩ := y
  refine ⟨F, .str ⟨#[c]⟩, Fr.refl s' B, ?_, Rep.str _⟩
  unfold signD
  rw [List.getElem?_map, Array.getElem?_toList, hc]
  rfl
theorem di_signC {cc : Bool} (ha : DE ci 𝒳 a ta) : DI ci cc 𝒳 tg a (fun ρ R => ta ρ fun r => withV r fun x => ∃ z : Str, x = .str z ∧ R (signD z)) := by
  obtain ⟨t1, p1, h1⟩ := ha.ex
  refine ⟨iStr t1, fun i => pi_str (p1 i), fun b L F0 H0 ρ σ F H R Q S h q => ?_⟩
  refine h1 b L F0 H0 ρ σ F H _ _ S h fun v H1 F1 r1 x1 rep1 _ k1 => ?_
  obtain ⟨x, rx, z, rfl, k1⟩ := withV_of rep1 k1
  exact ⟨z, rx.str, q _ H1 F1 _ (fun _ => True) x1 walkD_str (fun _ _ _ _ _ => trivial) k1⟩
def inSF : F2 := fun x y R => ∃ (c : Nat) (z : Str), x = .str ⟨#[c]⟩ ∧ y = .str z ∧ R (.d (.bl (decide (c ∈ z.cps.toList))))
theorem bin_inS : Bin ci rInS inSF := by
  rintro b L F H x y v w R Q fr hx hy ⟨c, z, rfl, rfl, h⟩ q
  exact ⟨c, z, hx.str, hy.str, q.d fr (Rep.bl _) h⟩
theorem de_inS (ha : DE ci 𝒳 a ta) (hc : DE ci 𝒳 c tb) (hm : behindInMarks .In c = false := by with_unfolding_all rfl) : DE ci 𝒳 (.Compare a [.In] [c] pos) (dBin inSF ta tb) := de_cmp (fun _ => op_inS) bin_inS ha hc hm
/-! ### len(set(t)), t a tuple of texts -/
theorem de_lenSetT (K : PySem.W.Frag) {p2 q : Pos} (hc : ∀ i, (𝒳 i).calm = true) (hm : ∀ i, (𝒳 i).mg "len" = none) (hm2 : ∀ i, (𝒳 i).mg "set" = none) (ha : DE ci 𝒳 a ta) (hg : ∀ i, Gl (𝒳 i) "len" := by intro _; rfl) (hg2 : ∀ i, Gl (𝒳 i) "set" := by intro _; rfl) (hK : ∀ i, (𝒳 i).K = K := by intro _; rfl)
    (na : ∀ i, starEach [a] (𝒳 i).env = (false, eval a (𝒳 i).env) :: starEach [] (𝒳 i).env := by intro _; rfl) : DE ci 𝒳 (.Call (.Name "len" p) [.Call (.Name "set" p2) [a] [] q] [] pos) (fun ρ R => ta ρ fun r => withV r fun y => ∃ ns : List Str, y = .tup (ns.map D.str) ∧ ns.length ≤ 1000 ∧ R (.d (.int (dst ns ns.length : Nat)))) := by
  obtain ⟨t1, p1, h1⟩ := ha.ex
  refine ⟨tLenSetS K t1, fun i => pe_lenSetS K (hc i) (hg i) (hm i) (hg2 i) (hm2 i) (p1 i) (na i) (hK i), fun b L F0 H0 ρ σ F H R Q S h q => ?_⟩
  refine h1 b L F0 H0 ρ σ F H _ _ S h fun v H1 F1 r1 x1 rep1 _ k1 => ?_
  obtain ⟨y, ry, ns, rfl, hl, k1⟩ := withV_of rep1 k1
  obtain ⟨pp, vs, rfl, hq, rp⟩ := ry.tup x1.s1
  rw [reps_strs rp] at hq
  exact ⟨pp, ns, rfl, .inl hq, hl, q.d x1 (Rep.int _) k1⟩
end
end DL

/-! the data layer: a guard of an __init__ that asks self for a constant of the class; x not in o; t.index(x) -/
namespace DL
open PySem PySem.Spec PyProof.Rows L2 VL
open C8 (Cal Met)
section
variable {ci : CI} {b L x : Addr} {F H : Hp} {ρ : List Sl} {σ : L2.St}
/-- the object under construction, seen as data for a while -/
theorem IRep.seen {dx C : Addr} {F0 G0 : Hp} (S : IRep ci b L x dx C F0 G0 ρ σ F H [] [] []) (nm : noM ρ) (hci : ∀ a dx F, F a = some (.ins C dx []) → ci.I C a F) : StRep ci b L (upd F x (.ins C dx [])) H (ρ.set 0 (.d (.ins C [] []))) σ (upd F x (.ins C dx [])) H := by
  have sm : Same F (upd F x (.ins C dx [])) := same_upd S.nx
  have s1 : Same (upd F x (.ins C dx [])) H := fun a o e => by
    by_cases z : a = x
    · subst z
      rw [upd_same] at e
      rw [← e]
      exact S.hx
    · rw [upd_ne z] at e
      exact S.st.fr.s1 a o e
  have h0 : 0 < ρ.length := (List.getElem?_eq_some_iff.mp S.s0).1
  have at_ : ∀ (i : Nat) r, (ρ.set 0 (.d (.ins C [] [])))[i]? = some r → (i = 0 ∧ r = .d (.ins C [] [])) ∨ ρ[i]? = some r := fun i r e => by
    by_cases z : 0 = i
    · subst z
      rw [List.getElem?_set_self h0] at e
      exact .inl ⟨rfl, (Option.some.inj e).symm⟩
    · rw [List.getElem?_set_ne z] at e
      exact .inr e
  have nm2 : ∀ (i : Nat) xs, (ρ.set 0 (.d (.ins C [] [])))[i]? ≠ some (.m xs) := fun i xs e => by
    rcases at_ i _ e with ⟨_, z⟩ | e
    · cases z
    · exact nm _ (List.mem_of_getElem? e) xs rfl
  refine ⟨Fr.refl s1 S.st.fr.b1, ⟨by rw [upd_ne S.nb.symm]; exact S.st.fb.1, by rw [upd_ne S.nL.symm]; exact S.st.fb.2⟩, by rw [List.length_set]; exact S.st.len, fun i r e n => ?_, fun i xs a e => absurd e (nm2 i xs), fun i xs a e e2 => ?_, fun i j xs ys a e => absurd e (nm2 i xs)⟩
  · rcases at_ i r e with ⟨rfl, rfl⟩ | e
    · obtain ⟨v, h1, h2⟩ := S.st.sl 0 _ S.s0 (fun z => nomatch z)
      cases (show Rep ci F (.ref x) v from h2)
      exact ⟨_, h1, .ins (fs := []) (vs := []) upd_same rfl rfl (fun i x v e => by simp at e) (hci x _ _ upd_same)⟩
    · obtain ⟨v, h1, h2⟩ := S.st.sl i r e n
      refine ⟨v, h1, ?_⟩
      cases r with
      | no => trivial
      | d y => exact Rep.mono sm h2
      | box => exact h2
      | v xs =>
        obtain ⟨a, vs, e1, h3, h4, h5⟩ := h2
        exact ⟨a, vs, e1, h3, h4.mono sm, h5⟩
      | m xs => exact absurd e (by
          intro z
          exact nm _ (List.mem_of_getElem? z) xs rfl)
  · rcases at_ i _ e with ⟨_, z⟩ | e
    · cases z
    · exact S.st.vw i xs a e e2
end
section
variable {ci : CI} {K : PySem.W.Frag} {ι : Type} {𝒳 : ι → Cx} {C : Addr} {a c e : Expr} {ta tb : TD} {pos p apos : Pos} {st : Stmt} {rest sts : List Stmt} {t : TDN} {tA : TDT} {k j : Nat} {s : DSp}
/-- if test: raise .., where the test is false: the test may ask self for what its class has -/
theorem dn_guard (hci : ∀ a dx F, F a = some (.ins C dx []) → ci.I C a F) (hc : DT ci 𝒳 c tA) (h2 : DN ci K C 𝒳 rest t) : DN ci K C 𝒳 (.If c sts [] pos :: rest) (fun x ρ fs xs R => fs = [] ∧ xs = [] ∧ noM ρ ∧ tA (ρ.set 0 (.d (.ins C [] []))) fun k => k = false ∧ t x ρ [] [] R) := by
  obtain ⟨t1, p1, q1⟩ := hc.ex
  obtain ⟨t2, p2, q2⟩ := h2.ex
  refine ⟨tSeq (tIfS t1 tNever tNext) t2, fun i => pss_cons (ps_if (p1 i) pss_never pss_nil) (p2 i), fun b L x dx F0 G0 ρ σ F H fs xs ws R E S h q => ?_⟩
  obtain ⟨rfl, rfl, nm, h⟩ := h
  have ew : ws = [] := List.eq_nil_of_length_eq_zero S.lf.symm
  subst ew
  have S2 := S.seen nm hci
  refine q1 b L _ H _ σ _ H _ _ S2 h fun kk H1 F1 x1 k1 => ?_
  obtain ⟨rfl, k1⟩ := k1
  refine iteF ?_
  have fr : Fr b L F H F H1 := by
    refine ⟨Same.refl _, x1.hh, fun a o e => .inl e, S.st.fr.s1, fun a o e => ?_, x1.b0, x1.b1⟩
    have z : a ≠ x := fun z => by
      rw [z, S.nx] at e
      cases e
    exact x1.s1 a o (x1.ff a o (by rw [upd_ne z]; exact e))
  have S3 := S.st.go fr
  exact q2 b L x dx F0 G0 ρ σ F H1 [] [] [] R E ⟨S3.base nm, S.fr.trans (fr.rm S.nx S.hx S.nb S.nL), fr.hh _ _ S.nb S.hx, rfl, S.rp, S.nx, S.nb, S.nL, S.s0⟩ k1 q
/-- o.f, a constant of the class -/
theorem de_con (K : PySem.W.Frag) {f : Str} {v : V} {u : Value} {y : D} (cl : Cls K C) (kk : Con K C f v u) (ry : ∀ F, Rep ci F y v) (ha : DE ci 𝒳 a ta) (hK : ∀ i, (𝒳 i).K = K := by intro _; rfl) (hb : ∀ i, attributeBase a f (𝒳 i).env (eval a (𝒳 i).env) = eval a (𝒳 i).env := by intro _; rfl) :
    DE ci 𝒳 (.Attribute a f pos) (fun ρ R => ta ρ fun r => withV r fun x => ∃ fs xs, x = .ins C fs xs ∧ f ∉ fs ∧ R (.d y)) := by
  obtain ⟨t1, p1, h1⟩ := ha.ex
  refine ⟨tCon K t1 f, fun i => by rw [← hK i]; exact pe_con (p1 i) (hb i), fun b L F0 H0 ρ σ F H R Q S h q => ?_⟩
  refine h1 b L F0 H0 ρ σ F H _ _ S h fun w H1 F1 r1 x1 rep1 _ k1 => ?_
  obtain ⟨x, rx, fs, xs, rfl, nf, k1⟩ := withV_of rep1 k1
  have rx := vr_ins rx
  cases rx with
  | ins hh lf l r qq => exact ⟨_, C, _, _, v, u, rfl, x1.s1 _ _ hh, cl, kk, lookup_zip_none nf, q.d x1 (ry F1) k1⟩
/-- x not in o -/
def rNotInO (C : Addr) (sp : Sp) : R2 := fun x y H Q => ∃ (a dx : Addr) (fs : List (Str × V)), y = .ref a ∧ H a = some (.ins C dx fs) ∧ sp [.ref a, x] H (fun v H' => ∃ b, v = .bl b ∧ Q (.bl (!b)) H') (fun _ _ _ => False)
theorem op_notInO {X : Cx} {sp : Sp} (c : Met X.prog X.w X.K X.mg X.base k C "__contains__" sp []) (hr : Room j X.A) (hk : k ≤ j) : OpR X (compareOp .NotIn) (rNotInO C sp) := by
  rintro pins s σ H x y v u Q I rx ry ⟨a, dx, fs, rfl, ha, hs⟩
  obtain ⟨f, fd, ps, ds, cl, me, F, hb, hd⟩ := c.ex
  obtain rfl : u = Value.ref a := ry
  obtain ⟨mA, J, _⟩ := ins_get I.hok ha
  obtain ⟨od, J, _⟩ := J.look
  obtain ⟨mm, hF⟩ := I.fr
  refine PySem.W.notIn_K hF I.ok.mod.kin J me.at_ me.fn (thn (met_run (hr.mono hk) rfl F hb hd I (vs := [.ref a, x]) (us := [.ref a, v]) (.cons rfl (.cons rx .nil)) hs) fun w s' hv => ?_)
  obtain ⟨z, H', I', rz, b, rfl, q⟩ := hv
  obtain rfl : w = Value.bool b := rz
  exact wpAny_truthy_bool ⟨.bl (!b), H', I', rfl, q⟩
def notInOF (C : Addr) (s : DSp) : F2 := fun x y R => flatX x = true ∧ ∃ fs xs, y = .ins C fs xs ∧ s [.d y, .d x] fun r => ∃ b, r = .d (.bl b) ∧ R (.d (.bl (!b)))
theorem notInO_sound {te1 te2 : TE}
    (h1 : ∀ (b L : Addr) (F0 H0 : Hp) (ρ : List Sl) (σ : L2.St) (F H : Hp) (R : Sl → Prop) (Q : VK), StRep ci b L F0 H0 ρ σ F H → ta ρ R → Post ci b L F H R Q → te1 σ H Q)
    (h2 : ∀ (b L : Addr) (F0 H0 : Hp) (ρ : List Sl) (σ : L2.St) (F H : Hp) (R : Sl → Prop) (Q : VK), StRep ci b L F0 H0 ρ σ F H → tb ρ R → Post ci b L F H R Q → te2 σ H Q)
    (b L : Addr) (F0 H0 : Hp) (ρ : List Sl) (σ : L2.St) (F H : Hp) (R : Sl → Prop) (Q : VK) (S : StRep ci b L F0 H0 ρ σ F H) (h : dBin (notInOF C s) ta tb ρ R) (q : Post ci b L F H R Q) : tOp (rNotInO C (lift ci s)) te1 te2 σ H Q := by
  refine h1 b L F0 H0 ρ σ F H _ _ S h fun v H1 F1 r1 x1 rep1 _ k1 => ?_
  obtain ⟨x, rx, k1⟩ := withV_of rep1 k1
  refine h2 b L F0 H0 ρ σ F1 H1 _ _ (S.go x1) k1 fun w H2 F2 r2 x2 rep2 _ k2 => ?_
  obtain ⟨y, ry, fx, fs, xs, rfl, k2⟩ := withV_of rep2 k2
  have S2 := (S.go x1).go x2
  have ry := vr_ins ry
  obtain ⟨a, dx, us, rfl, hh⟩ := rep_ins ry
  refine ⟨a, dx, us, rfl, x2.s1 _ _ hh, lift_go S2 (.cons (r := .d (.ins C fs xs)) ry (.cons (r := .d x) ((vr_flat rx fx).mono x2.ff) .nil)) (nm2 (fun _ z => nomatch z) fun _ z => nomatch z) k2 fun v3 H3 F3 r3 x3 rep3 fr3 k3 => ?_⟩
  obtain ⟨z, rfl, k3⟩ := k3
  cases (show Rep ci F3 (.bl z) v3 from rep3)
  exact ⟨z, rfl, q.d ((x1.trans x2).trans x3) (Rep.bl (!z)) k3⟩
theorem dt_notInO (c' : ∀ i, Met (𝒳 i).prog (𝒳 i).w (𝒳 i).K (𝒳 i).mg (𝒳 i).base k C "__contains__" (lift ci s) []) (hr : ∀ i, Room j (𝒳 i).A) (hk : k ≤ j) (ha : DE ci 𝒳 a ta) (hc : DE ci 𝒳 c tb) (hm : behindInMarks .NotIn c = false := by with_unfolding_all rfl) : DT ci 𝒳 (.Compare a [.NotIn] [c] pos) (dB (dBin (notInOF C s) ta tb)) := by
  obtain ⟨te1, p1, h1⟩ := ha.ex
  obtain ⟨te2, p2, h2⟩ := hc.ex
  refine ⟨_, fun i => pt_cmpR (op_notInO (c' i) (hr i) hk) (p1 i) (p2 i) hm, fun b L F0 H0 ρ σ F H R Q S h q => ?_⟩
  exact notInO_sound h1 h2 b L F0 H0 ρ σ F H _ _ S h fun v H1 F1 r1 x1 rep1 _ k1 => by
    obtain ⟨x, rx, k, rfl, kq⟩ := withV_of rep1 k1
    exact ⟨k, rx.bl, q k H1 F1 x1 kq⟩
end
end DL

/-! the data layer: a class whose one field is the tuple of the arguments, told with its object (Catalog); t.index(x) -/
namespace DL
open PySem PySem.Spec PyProof.Rows L2 VL
open C8 (Cal Met)
/-- what is known of the objects of the class at C0: the tuple in the field f is a plain one -/
def ciN (C0 : Addr) (f : Str) : CI where
  I := fun C a F => C = C0 → (∃ dx, F a = some (.ins C0 dx [])) ∨ ∃ dx t ys, F a = some (.ins C0 dx [(f, .ref t)]) ∧ PT F t ys
  mono := fun s h e => by
    rcases h e with ⟨dx, h1⟩ | ⟨dx, t, ys, h1, h2⟩
    · exact .inl ⟨dx, s _ _ h1⟩
    · exact .inr ⟨dx, t, ys, s _ _ h1, h2.same s⟩
theorem ciN_new {C0 C : Addr} {f : Str} : ∀ a dx F, F a = some (.ins C dx []) → (ciN C0 f).I C a F := fun a dx F h e => .inl ⟨dx, by rw [← e]; exact h⟩
abbrev NSp := List D → Prop → Prop
/-- the wish of such an __init__: pre tells which arguments it takes -/
def liftN (ci : CI) (C : Addr) (f : Str) (pre : List D → Prop) : Sp := fun vs H Q _ => ∃ (b L x dx : Addr) (F : Hp) (args : List V) (xs : List D), vs = .ref x :: args ∧ x ≠ b ∧ x ≠ L ∧ H x = some (.ins C dx []) ∧ F x = none ∧ Fr b L F H F H ∧ F b = none ∧ F L = none ∧ Reps ci F xs args ∧ xs.length ≤ 1000000 ∧ pre xs ∧
  ∀ F' H' t, Fr b L F (rm x H) F' (rm x H') → H' x = some (.ins C dx [(f, .ref t)]) → PT F' t args → Rep ci F' (.tup xs) (.ref t) → F' x = none → Q .non H'
section
variable {ci : CI} {P : Program} {w : World} {K : PySem.W.Frag} {mg : Str → Option Value} {base : Heap} {C : Addr}
theorem okN {f : Addr} {fd : FuncData} {qual pv fld : Str} {st : Stmt} {c : Expr} {sts : List Stmt} {pos p p2 pos' pos2 : Pos} {N : List Str} {k : Nat} {pre : List D → Prop} {tA : TDT} (F : Fun K "__init__" qual st f fd) (Sc : FnScope N ["self", pv] (defScope st))
    (eb : defBody st = [.If c sts [] pos, .Assign [.Attribute (.Name "self" p) fld pos'] (.Name pv p2) pos2]) (hN : 2 ≤ N.length) (hci : ∀ a dx F, F a = some (.ins C dx []) → ci.I C a F) (cl : Cls K C) (nf : NoAttr K C fld)
    (hb : ∀ us rest : List Value, us.length = (["self"] : List Str).length → bindArgs fd ⟨us ++ rest, []⟩ = (newTuple rest >>= fun t => pure (((["self"] : List Str).zip us) ++ [(pv, t)])))
    (v0 : ∀ i, PE (entX P w K mg base N k qual (defScope st) f i) (.Name "self" p) (tVar 0)) (v1 : ∀ i, PE (entX P w K mg base N k qual (defScope st) f i) (.Name pv p2) (tVar 1))
    (hs : ∀ i, swapsWith (.Name pv p2) (some (.Attribute (.Name "self" p) fld pos')) pos2.line (entX P w K mg base N k qual (defScope st) f i).env = pure false)
    (hc : DT ci (entX P w K mg base N k qual (defScope st) f) c tA) (hs2 : ∀ xs, pre xs → tA ([.d (.ins C [] []), .d (.tup xs)] ++ List.replicate (N.length - 2) .no) fun k => k = false) : FnR P w K mg base CX0 (k + 1) f (liftN ci C fld pre) := by
  obtain ⟨t1, p1, q1⟩ := hc.ex
  obtain ⟨oc, od, kV, doc, pm, an, cdv, ct, osl, rfl, lk, hcd⟩ := F.ex
  refine (fn_starF (ps := ["self"]) (pv := pv) (sp := fun vs H Q E => ∃ (b L x dx t : Addr) (F : Hp) (args : List V) (xs : List D), vs = [.ref x, .ref t] ∧ x ≠ b ∧ x ≠ L ∧ H x = some (.ins C dx []) ∧ F x = none ∧ Fr b L F H F H ∧ F b = none ∧ F L = none ∧ PT F t args ∧ Rep ci F (.tup xs) (.ref t) ∧ pre xs ∧
    ∀ F' H', Fr b L F (rm x H) F' (rm x H') → H' x = some (.ins C dx [(fld, .ref t)]) → F' x = none → Q .non H') lk hcd Sc StX.cxUp_none hb fun A outer s0 H vs Q E hr h => ?_).imp fun vs H Q E h => ?_
  · obtain ⟨b, L, x, dx, t, F1, args, xs, rfl, nb, nL, hx, nx, fr, fb, fL, hp, rep, hpre, post⟩ := h
    let i0 : Ent k qual (defScope st) f := ⟨cdv, A, outer, s0, H, E, hr⟩
    have body : PSs (entX P w K mg base N k qual (defScope st) f i0) (defBody st) (tSeq (tIfS t1 tNever tNext) (sFld K (tVar 0) (tVar 1) fld)) := by
      rw [eb]
      exact pss_cons (ps_if (p1 i0) pss_never pss_nil) (pss_one (ps_fld (v0 i0) (v1 i0) (hs i0)))
    refine ⟨_, PSs.nox body, ?_⟩
    have S : StRep ci b L F1 H ([.d (.ref x), .d (.tup xs)] ++ List.replicate (N.length - 2) .no) (L2.start N [.ref x, .ref t]) F1 H := entry (rs := [.d (.ref x), .d (.tup xs)]) fr fb fL (.cons (r := .d (.ref x)) (Rep.ref x) (.cons (r := .d (.tup xs)) rep .nil)) (nm2 (fun _ z => nomatch z) fun _ z => nomatch z) hN
    have nm : noM ([.d (.ref x), .d (.tup xs)] ++ List.replicate (N.length - 2) Sl.no) := fun r hr ys => by
      rcases List.mem_append.mp hr with hr | hr
      · rcases List.mem_cons.mp hr with rfl | hr
        · exact fun z => nomatch z
        · rw [List.mem_singleton.mp hr]
          exact fun z => nomatch z
      · rw [(List.mem_replicate.mp hr).2]
        exact fun z => nomatch z
    have frm : Fr b L F1 (rm x H) F1 (rm x H) := fr.rm nx hx nb nL
    have I0 : IRep ci b L x dx C F1 (rm x H) ([.d (.ref x), .d (.tup xs)] ++ List.replicate (N.length - 2) .no) (L2.start N [.ref x, .ref t]) F1 H [] [] [] := ⟨S, frm, hx, rfl, .nil, nx, nb, nL, rfl⟩
    have S2 := I0.seen nm hci
    refine q1 b L _ H _ _ _ H _ _ S2 (hs2 xs hpre) fun kk H1 F2 x1 k1 => ?_
    subst k1
    refine iteF ?_
    have hx1 := x1.hh _ _ nb hx
    have e0 : (L2.start N [V.ref x, V.ref t])[0]? = some (some (V.ref x)) := rfl
    have e1 : (L2.start N [V.ref x, V.ref t])[1]? = some (some (V.ref t)) := rfl
    refine ⟨.ref t, e1, .ref x, e0, x, C, dx, _, rfl, hx1, cl, nf, by show 0 < 1000; decide, ?_⟩
    show Q .non (upd H1 x (.ins C dx (putF fld (.ref t) [])))
    refine post F1 _ ?_ upd_same nx
    rw [rm_upd]
    refine ⟨Same.refl _, fun a u na q => ?_, fun a u q => .inl q, frm.s0, fun a u q => ?_, frm.b0, Box.rm x1.b1 nb nL⟩
    · obtain ⟨z1, z2⟩ := rm_some q
      rw [rm_ne z1]
      exact x1.hh a u na z2
    · have z : a ≠ x := fun z => by
        rw [z, nx] at q
        cases q
      rw [rm_ne z]
      exact x1.s1 a u (x1.ff a u (by rw [upd_ne z]; exact q))
  · obtain ⟨b, L, x, dx, F1, args, xs, rfl, nb, nL, hx, nx, fr, fb, fL, rp, hz, hpre, post⟩ := h
    refine ⟨[.ref x], args, rfl, rfl, by rw [← rp.1]; exact slen hz, fun t ob ht pt => ?_⟩
    have px : t ≠ x := fun z => by rw [z, hx] at ht; cases ht
    have y := Fr.new fr.s1 fr.b1 (.frz ob (.tup args)) ht
    have pf : PT (upd F1 t (.frz ob (.tup args))) t args := by
      obtain ⟨ob', h1, h2⟩ := pt
      rw [upd_same] at h1
      cases h1
      exact ⟨ob, upd_same, h2⟩
    refine ⟨b, L, x, dx, t, upd F1 t (.frz ob (.tup args)), args, xs, rfl, nb, nL, by rw [upd_ne px.symm]; exact hx, by rw [upd_ne px.symm]; exact nx, Fr.refl y.s1 y.b1, y.no fb fr.b0.lst.choose_spec, y.no fL fr.b0.lstL.choose_spec, pf, .tup (.inr ⟨ob, upd_same⟩) rp.1 (rp.mono y.ff).2, hpre, fun F' H' f1 e1 e2 => ?_⟩
    exact post F' H' t ((y.rm nx hx nb nL).trans f1) e1 (pf.same f1.ff) (Rep.mono f1.ff (.tup (.inr ⟨ob, upd_same⟩) rp.1 (rp.mono y.ff).2)) e2
end
/-! ### C(e, ..) -/
section
variable {K : PySem.W.Frag} {ι : Type} {𝒳 : ι → Cx} {C : Addr} {a c e o : Expr} {es : List Expr} {ta tb : TD} {tr : TDA} {pos p apos : Pos} {x fld : Str} {k : Nat} {pre : List D → Prop}
theorem de_mkN (K : PySem.W.Frag) {fI : Addr} (M : Mk K C fI) (Fn : ∀ i, FnR (𝒳 i).prog (𝒳 i).w K (𝒳 i).mg (𝒳 i).base CX0 k fI (liftN (ciN C fld) C fld pre)) (hr : ∀ i, Room (k + 1) (𝒳 i).A) (hg : ∀ i, Gl (𝒳 i) x) (hm : ∀ i, (𝒳 i).mg x = some (.ref C)) (ha : DAa (ciN C fld) 𝒳 (e :: es) tr) (hK : ∀ i, (𝒳 i).K = K := by intro _; rfl) (hdb : (x == ("__debug__" : Str)) = false := by decide)
    (he : ∀ i, starEach (e :: es) (𝒳 i).env = (false, eval e (𝒳 i).env) :: starEach es (𝒳 i).env := by intro _; rfl) (hpl : ∀ i, (backTo pos (starEach es (𝒳 i).env)).any (·.1) = false := by intro _; rfl) :
    DE (ciN C fld) 𝒳 (.Call (.Name x p) (e :: es) [] pos) (fun ρ R => tr ρ fun rs => ∃ xs : List D, rs = xs.map Sl.d ∧ xs.length ≤ 1000000 ∧ pre xs ∧ R (.d (.ins C [fld] [.tup xs]))) := by
  obtain ⟨t1, p1, h1⟩ := ha.ex
  refine ⟨StX.tMakeR C (liftN (ciN C fld) C fld pre) E0 t1, fun i => StX.pe_makeR (CX := CX0) ((hK i).symm ▸ M) ((hK i).symm ▸ Fn i) (hr i) (hg i) (hm i) (fun _ _ _ _ _ _ _ h => h.elim) (p1 i) hdb (he i) (hpl i), fun b L F0 H0 ρ σ F H R Q S h q => ?_⟩
  refine h1 b L F0 H0 ρ σ F H _ _ S h fun vs H1 F1 rs x1 rep nm ⟨xs, er, hz, hpre, k1⟩ => ?_
  subst er
  have S1 := S.go x1
  have rp := reps_of_d rep
  intro y dx hy hdx ne
  obtain ⟨nb, nL⟩ := x1.b1.new hy
  have y1 := Fr.tmp x1.s1 x1.b1 (.own y) hdx
  have hy1 : upd H1 dx (.own y) y = none := by rw [upd_ne ne.symm]; exact hy
  have y2 := Fr.tmp y1.s1 y1.b1 (.ins C dx []) hy1
  have yy := y1.trans y2
  have nx : F1 y = none := same_free x1.s1 hy
  refine ⟨b, L, y, dx, F1, vs, xs, rfl, nb, nL, upd_same, nx, Fr.refl yy.s1 yy.b1, S1.nb, S1.nL, rp, hz, hpre, fun F' H' t f1 e1 hp rep' e4 => ⟨rfl, ?_⟩⟩
  have er : rm y (upd (upd H1 dx (.own y)) y (.ins C dx [])) = upd H1 dx (.own y) := by rw [rm_upd, rm_free hy1]
  rw [er] at f1
  have f2 := y1.trans f1
  have ff : Fr b L F1 H1 (upd F' y (.ins C dx [(fld, .ref t)])) H' := by
    refine ⟨f2.ff.trans (same_upd e4), fun a u na q => (rm_some (f2.hh a u na q)).2, fun a u q => ?_, x1.s1, fun a u q => ?_, x1.b1, Box.unrm f2.b1⟩
    · by_cases z : a = y
      · exact .inr (z ▸ hy)
      · rw [upd_ne z] at q
        exact f2.nw a u q
    · by_cases z : a = y
      · subst z
        rw [upd_same] at q
        cases q
        exact e1
      · rw [upd_ne z] at q
        exact (rm_some (f2.s1 a u q)).2
  have sm : Same F' (upd F' y (.ins C dx [(fld, .ref t)])) := same_upd e4
  have r2 : Reps (ciN C fld) (upd F' y (.ins C dx [(fld, .ref t)])) [.tup xs] [.ref t] := .cons (Rep.mono sm rep') .nil
  exact q.d (x1.trans ff) (.ins (fs := [fld]) (vs := [.ref t]) upd_same rfl r2.1 r2.2 fun _ => .inr ⟨dx, t, vs, upd_same, hp.same sm⟩) k1
/-- o.fld.index(e), the first place -/
theorem de_tindex (K : PySem.W.Frag) (cl : Cls K C) (nf : NoAttr K C fld) (ho : DE (ciN C fld) 𝒳 o ta) (he : DE (ciN C fld) 𝒳 e tb) {fpos : Pos} (hK : ∀ i, (𝒳 i).K = K := by intro _; rfl) (hb : ∀ i, attributeBase o fld (𝒳 i).env (eval o (𝒳 i).env) = eval o (𝒳 i).env := by intro _; rfl)
    (form : ∀ i, attributeBase (.Attribute o fld fpos) "index" (𝒳 i).env (eval (.Attribute o fld fpos) (𝒳 i).env) = eval (.Attribute o fld fpos) (𝒳 i).env ∧ (apos.endLine == pos.line) = true ∧ starEach [e] (𝒳 i).env = (false, eval e (𝒳 i).env) :: starEach [] (𝒳 i).env ∧ (backTo pos (starEach [] (𝒳 i).env)).any (·.1) = false ∧
      ((backTo pos (starEach [e] (𝒳 i).env)).all (fun y => !y.1) && (backToKw pos (keywordEach [] (𝒳 i).env)).all (fun y => y.1.isSome) && decide ([e].length + ([] : List Keyword).length + (if ([] : List Keyword).isEmpty then 0 else 1) < 30)) = true := by exact fun _ => ⟨rfl, rfl, rfl, rfl, rfl⟩) :
    DE (ciN C fld) 𝒳 (.Call (.Attribute (.Attribute o fld fpos) "index" apos) [e] [] pos) (fun ρ R => ta ρ fun r => withV r fun x => ∃ ns : List Str, x = .ins C [fld] [.tup (ns.map D.str)] ∧ tb ρ fun q => withV q fun y => ∃ z j, y = .str z ∧ ns[j]? = some z ∧ (∀ m, m < j → ns[m]? ≠ some z) ∧ R (.d (.int (j : Nat)))) := by
  obtain ⟨t1, p1, h1⟩ := ho.ex
  obtain ⟨t2, p2, h2⟩ := he.ex
  refine ⟨tPM (fun x xs H Q => ∃ p, ∃ ys : List Str, ∃ z j, x = .ref p ∧ xs = [.str z] ∧ SqT K H p (ys.map V.str) ∧ ys[j]? = some z ∧ (∀ m, m < j → ys[m]? ≠ some z) ∧ Q (.int (j : Nat)) H) (tFld K t1 fld) (tCons t2 tNil), fun i => by rw [← hK i]; exact pe_pm PySem.F.slot_tuple_index PySem.F.type_tuple_index mt_tup_index (pe_fld (p1 i) (hb i)) (pa_cons (p2 i) pa_nil (form i).2.2.1) (form i), fun b L F0 H0 ρ σ F H R Q S h q => ?_⟩
  refine h1 b L F0 H0 ρ σ F H _ _ S h fun v H1 F1 r1 x1 rep1 fr1 k1 => ?_
  obtain ⟨x, rx, ns, rfl, k1⟩ := withV_of rep1 k1
  have rx := vr_ins rx
  cases rx with
  | ins hh lf l r qq =>
    rename_i a dx vs
    match vs, l with
    | [v0], _ =>
      have r0 : Rep (ciN C fld) F1 (.tup (ns.map D.str)) v0 := r 0 _ _ rfl rfl
      have hh' : F1 a = some (.ins C dx [(fld, v0)]) := hh
      rcases qq rfl with ⟨dx', h9⟩ | ⟨dx', t, ys, h9, hp⟩
      · rw [hh'] at h9
        cases h9
      · rw [hh'] at h9
        cases h9
        have lk : ([(fld, V.ref t)] : List (Str × V)).lookup fld = some (.ref t) := by
          show (match fld == fld with | true => some (V.ref t) | false => none) = some (.ref t)
          rw [beq_self_eq_true]
        refine ⟨a, C, dx, _, .ref t, rfl, x1.s1 _ _ hh', cl, nf, lk, ⟨t, ys, rfl, hp.same x1.s1⟩, h2 b L F0 H0 ρ σ F1 H1 _ _ (S.go x1) k1 fun w H2 F2 r2 x2 rep2 _ k2 => ?_⟩
        obtain ⟨y, ry, z, j, rfl, hj, hn, k2⟩ := withV_of rep2 k2
        obtain ⟨t', us, e3, h3, rp⟩ := r0.reps_t
        cases e3
        rw [reps_strs rp] at h3
        exact ⟨t, ns, z, j, rfl, by rw [ry.str], .inl (rd_same x2.s1 (rd_same x2.ff h3)), hj, hn, q.d (x1.trans x2) (Rep.int _) k2⟩
end
end DL

/-! the data layer: enumerate of a list or a tuple, from any start; a dict that the program writes -/
namespace DL
open PySem PySem.Spec PyProof.Rows L2 VL
/-- a list or a tuple at a -/
inductive SqK (K : PySem.W.Frag) (l : Bool) (G : Hp) (a : Addr) (zs : List V) : Prop where
  | lst (e : l = true) (h : SqL K G a zs) : SqK K l G a zs
  | tup (e : l = false) (h : SqT K G a zs) : SqK K l G a zs
def EnS (K : PySem.W.Frag) (l : Bool) (c : Int) (a : Addr) : It where
  go := fun k G => ∃ (zs : List V) (z : V), SqK K l G a zs ∧ zs[k]? = some z
  yld := fun k G u G' => ∃ (T : Addr) (z : V), u = .ref T ∧ G T = none ∧ G' = upd G T (.tup [.int (c + (k : Int)), z]) ∧ ∀ zs, SqK K l G a zs → zs[k]? = some z
  stop := fun k G => ∃ zs : List V, SqK K l G a zs ∧ zs.length = k
/-- the iterator of a list, of a tuple, at ti -/
def SqIt (l : Bool) (h : Heap) (ti a : Addr) (k : Nat) : Prop := match l with
  | true => h.IsListIter ti a k
  | false => h.IsTupleIter ti a k
def SqAt (l : Bool) (h : Heap) (a : Addr) (us : Array Value) : Prop := match l with
  | true => h.IsList a us
  | false => h.IsTuple a us
def sqO (l : Bool) (a : Addr) : Obj := match l with
  | true => { cls := .type "list_iterator", data := .fields #[.ref a, .int 0 0] }
  | false => { cls := .type "tuple_iterator", data := .fields #[.ref a, .int 0 0] }
theorem SqK.held {X : Cx} {l : Bool} {pins : List (Addr × Obj)} {s : Shared} {σ : L2.St} {G : Hp} {a : Addr} {zs : List V} (I : Inv X pins σ G s) (h : SqK X.K l G a zs) : ∃ vs : List Value, Vals zs vs ∧ SqAt l s.heap a vs.toArray := by
  rcases h with ⟨rfl, h⟩ | ⟨rfl, h⟩
  · obtain ⟨vs, rv, p, _⟩ := I.list h
    exact ⟨vs, rv, p.isList⟩
  · obtain ⟨vs, rv, p, _⟩ := I.tuple h
    exact ⟨vs, rv, p⟩
theorem SqK.one {X : Cx} {l : Bool} {pins : List (Addr × Obj)} {s : Shared} {σ : L2.St} {G : Hp} {a : Addr} {zs ys : List V} (I : Inv X pins σ G s) (h : SqK X.K l G a zs) (g : SqK X.K l G a ys) : zs = ys := by
  rcases h with ⟨rfl, h⟩ | ⟨rfl, h⟩
  · rcases g with ⟨_, g⟩ | ⟨e, _⟩
    · exact I.list_inj h g
    · cases e
  · rcases g with ⟨e, _⟩ | ⟨_, g⟩
    · cases e
    · exact I.tuple_inj h g
theorem sq_draws {X : Cx} (l : Bool) {σ : L2.St} {pins : List (Addr × Obj)} {s : Shared} {G : Hp} (hh : X.A.in1.handled = none) (ti a : Addr) (ne : a ≠ ti) (us : Array Value) : Draws X.prog X.w X.A.in1 ti [ti, a] us.size (fun i v => us[i]? = some v) (fun i h => SqIt l h ti a i ∧ SqAt l h a us) := by
  cases l
  · exact Draws.tuple hh ti a ne us
  · exact Draws.list hh ti a ne us
theorem SqIt.obj {l : Bool} {h : Heap} {ti a : Addr} {k : Nat} (x : SqIt l h ti a k) : ∃ o vs, h.get? ti = some o ∧ o.cls = .type (if l then "list_iterator" else "tuple_iterator") ∧ o.data = .fields vs := by
  cases l
  · obtain ⟨o, h1, h2, h3⟩ := (show h.IsTupleIter ti a k from x)
    exact ⟨o, _, h1, h2, h3⟩
  · obtain ⟨o, h1, h2, h3⟩ := (show h.IsListIter ti a k from x)
    exact ⟨o, _, h1, h2, h3⟩
theorem SqIt.moved {l : Bool} {h h' : Heap} {ti a : Addr} {k : Nat} (x : SqIt l h ti a k) (q : ∀ o, h.get? ti = some o → h'.get? ti = some o) : SqIt l h' ti a k := by
  cases l
  · exact (show h.IsTupleIter ti a k from x).at q
  · exact (show h.IsListIter ti a k from x).at q
theorem SqAt.obj {l : Bool} {h : Heap} {a : Addr} {us : Array Value} (x : SqAt l h a us) : ∃ o, h.get? a = some o ∧ o.cls = .type (if l then "list" else "tuple") := by
  cases l
  · obtain ⟨o, h1, h2, _⟩ := (show h.IsTuple a us from x)
    exact ⟨o, h1, h2⟩
  · obtain ⟨o, h1, h2, _⟩ := (show h.IsList a us from x)
    exact ⟨o, h1, h2⟩
theorem enS_turn {P : Program} {w : World} {K : PySem.W.Frag} {es : List Expr} {q : Nat} {ps : Pos} {l : Bool} {c : Int} (a en ti : Addr) :
    Turn P w K (.Tuple es q ps) (EnS K l c a) [en, ti] en (fun k h => (∃ was, IsEnum h en ti (c + (k : Int)) was) ∧ SqIt l h ti a k ∧ en ≠ ti) := by
  refine ⟨List.mem_cons_self .., ?_, ?_, ?_, ?_, ?_⟩
  · rintro k h ⟨⟨was, h1⟩, h2, _⟩ b hb
    obtain ⟨ob, vs, h2, _, h3⟩ := h2.obj
    rcases List.mem_cons.mp hb with rfl | hb
    · exact ⟨_, h1, fun _ z => nomatch z⟩
    · cases List.mem_singleton.mp hb
      refine ⟨ob, h2, fun _ z => ?_⟩
      rw [h3] at z
      cases z
  · rintro k h h' ⟨⟨was, h1⟩, h2, ne⟩ kp
    exact ⟨⟨was, kp en (List.mem_cons_self ..) _ h1⟩, h2.moved fun ob z => kp ti (List.mem_cons_of_mem _ (List.mem_cons_self ..)) ob z, ne⟩
  · rintro X rfl rfl rfl calm k pins s σ G E I free ⟨⟨was, h1⟩, h2, ne⟩ ⟨zs, z, hq, hz⟩
    obtain ⟨vs, rv, hT⟩ := hq.held I
    obtain ⟨u, hu, ru⟩ := rv.get hz
    have nea : en ≠ a := fun e => by
      subst e
      obtain ⟨ob, e1, e2⟩ := hT.obj
      have e3 := h1.symm.trans e1
      cases e3
      exact absurd (Value.type.inj e2) (by cases l <;> decide)
    have nta : a ≠ ti := fun e => by
      subst e
      obtain ⟨ob, e1, e2⟩ := hT.obj
      obtain ⟨oc, _, c1, c2, _⟩ := h2.obj
      rw [c1] at e1
      cases e1
      rw [c2] at e2
      exact absurd (Value.type.inj e2) (by cases l <;> decide)
    have elt : en < s.heap.objs.size := Heap.lt_size h1
    have tlt : ti < s.heap.objs.size := by
      obtain ⟨ob, _, e1, _⟩ := h2.obj
      exact Heap.lt_size e1
    have klt : k < vs.toArray.size := by
      have := (List.getElem?_eq_some_iff.mp hu).1
      simpa using this
    have D := sq_draws (X := X) (σ := σ) (pins := pins) (s := s) (G := G) l (I.ok.hd calm) ti a nta vs.toArray
    refine wpAny_pyNext_enum_itemC (c := c + (k : Int)) D h1 ⟨h2, hT⟩ klt ne (fun m => ?_) fun x h' tk hx out st' tup _ kp => ?_
    · rcases List.mem_cons.mp m with e | m
      · exact ne e
      · exact nea (List.mem_singleton.mp m)
    · have ex : x = u := by
        have hx' : vs.toArray[k]? = some x := hx
        rw [List.getElem?_toArray, hu] at hx'
        exact (Option.some.inj hx').symm
      subst ex
      refine ⟨_, rfl, wpAny_letOwnedTupleGo_enum (s := { s with heap := h', toks := tk + 1 }) out fun g eg sb => ?_⟩
      have tup2 : g.get? s.heap.objs.size = some { cls := .type "tuple", data := .seq #[.int (c + (k : Int)) tk, x] } := (sb.2 _ (Nat.ne_of_gt elt)).trans tup
      have made : ObjOk X.prog X.w (upd G s.heap.objs.size (.tup [.int (c + (k : Int)), z])) g s.heap.objs.size (.tup [.int (c + (k : Int)), z]) := by
        refine ⟨by show 2 ≤ sizeLine; decide, [.int (c + (k : Int)) tk, x], ?_, _, tup2, rfl, _, rfl⟩
        exact .cons ⟨_, rfl⟩ (.cons ru .nil)
      have I' : Inv X pins σ (upd G s.heap.objs.size (.tup [.int (c + (k : Int)), z])) { s with heap := g, toks := tk + 1 } := by
        refine I.turnedNew (ch := [en, ti]) (fun d ob hd e => ?_) free (Nat.le_refl _) made
        have d1 : d ≠ en := fun e => hd (e ▸ List.mem_cons_self ..)
        have d2 : d ≠ ti := fun e => hd (e ▸ List.mem_cons_of_mem _ (List.mem_cons_self ..))
        exact (sb.2 d d1).trans (kp d ob d1 d2 e)
      refine ⟨.ref s.heap.objs.size, _, I', rfl, ⟨_, z, rfl, I.hok.fresh (Nat.le_refl _), rfl, fun ys hy => ?_⟩, ⟨⟨x, ?_⟩, st'.1.moved fun ob e => (sb.2 ti ne.symm).trans e, ne⟩, fun d hd => ?_⟩
      · rw [hy.one I hq]
        exact hz
      · have e1 : c + ((k + 1 : Nat) : Int) = c + (k : Int) + 1 := by omega
        rw [e1]
        exact eg
      · have dlt : d < s.heap.objs.size := by
          rcases List.mem_cons.mp hd with rfl | hd
          · exact elt
          · cases List.mem_singleton.mp hd
            exact tlt
        rw [upd_ne (Nat.ne_of_lt dlt)]
        exact (free d hd).1
  · rintro X rfl rfl rfl calm k pins s σ G E I free ⟨⟨was, h1⟩, h2, ne⟩ ⟨zs, hq, hz⟩
    obtain ⟨vs, rv, hT⟩ := hq.held I
    have hl := rv.length
    obtain ⟨f0, f1, f2, f3, f4, f5⟩ := free ti (List.mem_cons_of_mem _ (List.mem_cons_self ..))
    have nta : a ≠ ti := fun e => by
      subst e
      obtain ⟨ob, e1, e2⟩ := hT.obj
      obtain ⟨oc, _, c1, c2, _⟩ := h2.obj
      rw [c1] at e1
      cases e1
      rw [c2] at e2
      exact absurd (Value.type.inj e2) (by cases l <;> decide)
    have D := sq_draws (X := X) (σ := σ) (pins := pins) (s := s) (G := G) l (I.ok.hd calm) ti a nta vs.toArray
    have ek : k = vs.toArray.size := by
      rw [← hz, hl]
      simp
    exact wpAny_pyNext_enum_endD D h1 ⟨ek ▸ h2, hT⟩ fun g ext => ⟨rfl, I.turned (t' := s.toks) (fun d ob hd e => ext d ob hd e) f0 f1 f3 f4 f5⟩
  · rintro A k s Q E ⟨⟨was, h1⟩, _⟩ q
    exact wpAny_pyIter_enum h1 q
theorem sq_begins (l : Bool) (a : Addr) (us : Array Value) : Begins (.ref a) (sqO l a) fun h => SqAt l h a us := by
  cases l
  · exact begins_tuple a us
  · exact begins_list a us
/-- behind the call: the enumerate object and the iterator under it -/
theorem enS_ready {X : Cx} {tg : Expr} {es : List Expr} {q : Nat} {ps : Pos} {pins : List (Addr × Obj)} {σ : L2.St} {G : Hp} {s : Shared} {R : It → Hp → Prop} {l : Bool} {c : Int} {a : Addr} (etg : tg = .Tuple es q ps) (I : Inv X pins σ G s) (hR : R (EnS X.K l c a) G) (h' : Heap)
    (he : IsEnum h' (s.heap.objs.size + 1) s.heap.objs.size c .none) (hi : h'.get? s.heap.objs.size = some (sqO l a)) (kp : ∀ b o, s.heap.get? b = some o → h'.get? b = some o) :
    wpAny (model X.prog X.w) X.A (pyIter (.ref (s.heap.objs.size + 1))) (PIE X pins σ tg R) X.xe { s with heap := h' } := by
  subst etg
  refine wpAny_pyIter_enum he ?_
  have I2 : Inv X pins σ G { s with heap := h' } := I.kept (t' := s.toks) kp
  have hit : SqIt l h' s.heap.objs.size a 0 := by
    cases l
    · exact ⟨_, hi, rfl, rfl⟩
    · exact ⟨_, hi, rfl, rfl⟩
  refine ⟨s.heap.objs.size + 1, [s.heap.objs.size + 1, s.heap.objs.size], _, _, G, rfl, I2, enS_turn a (s.heap.objs.size + 1) s.heap.objs.size, ⟨⟨.none, by rw [show c + ((0 : Nat) : Int) = c by omega]; exact he⟩, hit, Nat.succ_ne_self _⟩, fun b hb => ?_, hR⟩
  have le : s.heap.objs.size ≤ b := by
    rcases List.mem_cons.mp hb with rfl | hb
    · exact Nat.le_succ _
    · cases List.mem_singleton.mp hb
      exact Nat.le_refl _
  exact I.fpOk le (I.hok.fresh le)
/-! ### enumerate(e), enumerate(e, start=k) -/
def iEnS (K : PySem.W.Frag) (ta : TA) : TI := fun σ G R => ta σ G fun vs G1 => ∃ a zs l, vs = [.ref a] ∧ SqK K l G1 a zs ∧ R (EnS K l 0 a) G1
def iEnK (K : PySem.W.Frag) (ta tk : TA) : TI := fun σ G R => ta σ G fun vs G1 => tk σ G1 fun ws G2 => ∃ a zs l k, vs = [.ref a] ∧ ws = [.int k] ∧ (-(2 ^ 63) ≤ k ∧ k < 2 ^ 63) ∧ SqK K l G2 a zs ∧ R (EnS K l k a) G2
section
variable {X : Cx} {e : Expr} {ta tk : TA} {p pos tpos kpos : Pos} {es : List Expr} {q : Nat} {ke : Expr}
theorem pi_enS (hg : Gl X "enumerate") (hm : X.mg "enumerate" = none) (ha : PA X [e] ta) (hs : starEach [e] X.env = [(false, eval e X.env)] := by rfl) : PI X (.Tuple es q tpos) (.Call (.Name "enumerate" p) [e] [] pos) (iEnS X.K ta) := by
  constructor
  intro pins s σ G R I h
  refine Call_ (ld_blt I hg hm boot_enumerate (PyProof.Rows.callWith_type1 (thn (ha.run pos pins s σ G _ I h) fun us s1 ⟨vs, G1, I1, r1, a, zs, l, ev, hq, hR⟩ => ?_) hs rfl))
  subst ev
  obtain ⟨u, rfl, ru⟩ := vals1 r1
  cases (show u = Value.ref a from ru)
  obtain ⟨its, rv, hT⟩ := hq.held I1
  have z : (s1.heap.push (sqO l a)).objs.size = s1.heap.objs.size + 1 := Heap.size_push ..
  refine en_call (sq_begins l a its.toArray) hT (enS_ready rfl I1 hR _ ?_ ?_ fun b o x => Heap.get?_push_of_some _ (Heap.get?_push_of_some _ x))
  · have g := Heap.get?_push_size (s1.heap.push (sqO l a)) (o := { cls := .type "enumerate", data := .fields #[.none, .bool false, .ref s1.heap.objs.size, rawInt 0, .none, .none] }) rfl
    rw [z] at g
    exact g
  · exact Heap.get?_push_of_some _ (Heap.get?_push_size _ (by cases l <;> rfl))
theorem keep_type (T : String) (M : Model) (h : Heap) : ∃ k, (k = PySem.Keeper.frame ∨ k = PySem.Keeper.machine ∨ k = PySem.Keeper.boundFrame) ∧ PySem.W.Looks M h (PySem.keeperOf (.type T)) k :=
  ⟨.machine, .inr (.inl rfl), PySem.W.Looks.of_pure rfl⟩
theorem pi_enK (hg : Gl X "enumerate") (hm : X.mg "enumerate" = none) (ha : PA X [e] ta) (hk : PK X [⟨some (Str.ofString "start"), ke, kpos⟩] tk) (hs : starEach (e :: []) X.env = (false, eval e X.env) :: starEach [] X.env := by rfl)
    (hall : (backToKw pos (keywordEach [⟨some (Str.ofString "start"), ke, kpos⟩] X.env)).all (·.1.isSome) = true := by rfl) (hks : (backToKw pos (keywordEach [⟨some (Str.ofString "start"), ke, kpos⟩] X.env)).filterMap (·.1) = [Str.ofString "start"] := by rfl)
    (hpl : ((backTo pos (starEach (e :: []) X.env)).any (·.1) || (backToKw pos (keywordEach [⟨some (Str.ofString "start"), ke, kpos⟩] X.env)).any (·.1.isNone)) = false := by rfl) :
    PI X (.Tuple es q tpos) (.Call (.Name "enumerate" p) [e] [⟨some (Str.ofString "start"), ke, kpos⟩] pos) (iEnK X.K ta tk) := by
  constructor
  intro pins s σ G R I h
  refine wpAny_Call_Name_kw (ld_blt I hg hm boot_enumerate ?_)
  refine PySem.W.callWith_of (P := fun _ => True) hpl (fun hp _ => keep_type _ _ hp) (PyProof.Rows.evalArgs_kw2 hall (thn (ha.run pos pins s σ G _ I h) fun us s1 ⟨vs, G1, I1, r1, q1⟩ => thn (hk.run pos pins s1 σ G1 _ I1 q1) fun ws s2 ⟨zs, G2, I2, r2, q2⟩ => ⟨trivial, ?_⟩) hs)
  rw [hks]
  obtain ⟨a, ys, l, k, ev, ew, ⟨k0, k1⟩, hq, hR⟩ := q2
  subst ev ew
  obtain ⟨u, rfl, ru⟩ := vals1 r1
  cases (show u = Value.ref a from ru)
  obtain ⟨v, rfl, rv⟩ := vals1 r2
  obtain ⟨t, rfl⟩ := (show ∃ t, v = Value.int k t from rv)
  obtain ⟨its, rv, hT⟩ := hq.held I2
  exact enum_begins_start (sq_begins l a its.toArray) hT k0 k1 fun h' he hi _ kp => enS_ready rfl I2 hR h' he hi kp
end
/-! ### as data -/
def enD (c : Int) (xs : List D) : List D := xs.mapIdx fun i x => .tup [.int (c + (i : Int)), x]
theorem enD_at {c : Int} {xs : List D} {i : Nat} {x : D} (h : xs[i]? = some x) : (enD c xs)[i]? = some (.tup [.int (c + (i : Int)), x]) := by
  unfold enD
  rw [List.getElem?_mapIdx, h]
  rfl
theorem enD_len {c : Int} {xs : List D} : (enD c xs).length = xs.length := by
  unfold enD
  rw [List.length_mapIdx]
theorem enD_of {c : Int} {xs : List D} {i : Nat} {y : D} (h : (enD c xs)[i]? = some y) : ∃ x, xs[i]? = some x ∧ y = .tup [.int (c + (i : Int)), x] := by
  unfold enD at h
  rw [List.getElem?_mapIdx] at h
  cases e : xs[i]? with
  | none => rw [e] at h; cases h
  | some x =>
    rw [e] at h
    exact ⟨x, rfl, (Option.some.inj h).symm⟩
section
variable {ci : CI} {K : PySem.W.Frag}
theorem walkD_en {b L : Addr} {xs : List D} {p : Addr} {vs : List V} {Fs : Hp} {l : Bool} {c : Int} (r : Reps ci Fs xs vs) : WalkD ci b L (EnS K l c p) (enD c xs) Fs (fun H => SqK K l H p vs) := by
  refine ⟨fun i H hi g => ⟨vs, _, g, List.getElem?_eq_getElem (by rw [← r.1]; rw [enD_len] at hi; exact hi)⟩, fun H g => ⟨vs, g, by rw [enD_len, r.1]⟩, fun i F H v H' hi g s s' B y => ?_⟩
  obtain ⟨T, z, rfl, hT, rfl, y⟩ := y
  obtain ⟨x, h1, h2⟩ := r.back (y vs g)
  have fr := Fr.new s' B (.tup [.int (c + (i : Int)), z]) hT
  refine ⟨_, _, fr, enD_at h1, ?_⟩
  have r2 : Reps ci (upd F T (.tup [.int (c + (i : Int)), z])) [.int (c + (i : Int)), x] [.int (c + (i : Int)), z] := .cons (.int _) (.cons ((h2.mono s).mono fr.ff) .nil)
  exact .tup (.inl upd_same) r2.1 r2.2
variable {ι : Type} {𝒳 : ι → Cx} {e ke : Expr} {ta tb : TD} {pos p tpos kpos : Pos} {es : List Expr} {q : Nat}
/-- in a for: data -/
def dEnF (c : Int) (ta : TD) : TDD := fun ρ R => ta ρ fun r => withD r fun x => seqX x fun xs => R (enD c xs)
/-- in a comprehension: whatever is seen -/
def dEnC (c : Int) (ta : TD) : TDD := fun ρ R => ta ρ fun r => withV r fun x => seqX x fun xs => R (enD c xs)
theorem di_enumF (K : PySem.W.Frag) (hg : ∀ i, Gl (𝒳 i) "enumerate") (hm : ∀ i, (𝒳 i).mg "enumerate" = none) (ha : DE ci 𝒳 e ta) (hK : ∀ i, (𝒳 i).K = K := by intro _; rfl) (hs : ∀ i, starEach [e] (𝒳 i).env = [(false, eval e (𝒳 i).env)] := by intro _; rfl) :
    DI ci false 𝒳 (.Tuple es q tpos) (.Call (.Name "enumerate" p) [e] [] pos) (dEnF 0 ta) := by
  obtain ⟨t1, p1, h1⟩ := ha.ex
  refine ⟨iEnS K (tCons t1 tNil), fun i => by rw [← hK i]; exact pi_enS (hg i) (hm i) (pa_cons (p1 i) pa_nil (hs i)) (hs i), fun b L F0 H0 ρ σ F H R Q S h q => ?_⟩
  refine h1 b L F0 H0 ρ σ F H _ _ S h fun v H1 F1 r1 x1 rep1 f1 k => ?_
  obtain ⟨x, F2, x1, _, rx, k⟩ := withD_of x1 rep1 f1 k
  cases x with
  | lst xs =>
    obtain ⟨p, vs, rfl, g1, g2⟩ := rx.reps_l
    exact ⟨p, vs, true, rfl, .lst rfl (SqL.of (x1.s1 _ _ g1)), q _ H1 F2 _ _ x1 (walkD_en g2) (fun F2 H2 y s _ => .lst rfl (SqL.of (y.s1 _ _ (s _ _ g1)))) k⟩
  | tup xs =>
    obtain ⟨p, vs, rfl, g1, g2⟩ := rx.reps_t
    exact ⟨p, vs, false, rfl, .tup rfl (.inl (rd_same x1.s1 g1)), q _ H1 F2 _ _ x1 (walkD_en g2) (fun F2 H2 y s _ => .tup rfl (.inl (rd_same y.s1 (rd_same s g1)))) k⟩
  | _ => exact k.elim
theorem di_enumC (K : PySem.W.Frag) (hg : ∀ i, Gl (𝒳 i) "enumerate") (hm : ∀ i, (𝒳 i).mg "enumerate" = none) (ha : DE ci 𝒳 e ta) (hK : ∀ i, (𝒳 i).K = K := by intro _; rfl) (hs : ∀ i, starEach [e] (𝒳 i).env = [(false, eval e (𝒳 i).env)] := by intro _; rfl) :
    DI ci true 𝒳 (.Tuple es q tpos) (.Call (.Name "enumerate" p) [e] [] pos) (dEnC 0 ta) := by
  obtain ⟨t1, p1, h1⟩ := ha.ex
  refine ⟨iEnS K (tCons t1 tNil), fun i => by rw [← hK i]; exact pi_enS (hg i) (hm i) (pa_cons (p1 i) pa_nil (hs i)) (hs i), fun b L F0 H0 ρ σ F H R Q S h q => ?_⟩
  refine h1 b L F0 H0 ρ σ F H _ _ S h fun v H1 F1 r1 x1 rep1 _ k => ?_
  have nb := (S.go x1).nb
  obtain ⟨x, rx, k⟩ := withV_of rep1 k
  cases x with
  | lst xs =>
    rcases rx with rx | ⟨_, p, vs, e0, rfl, g1, g2, g3⟩
    · obtain ⟨p, vs, rfl, g1, g2⟩ := rx.reps_l
      exact ⟨p, vs, true, rfl, .lst rfl (SqL.of (x1.s1 _ _ g1)), q _ H1 F1 _ _ x1 (walkD_en g2) (fun F2 H2 y s _ => .lst rfl (SqL.of (y.s1 _ _ (s _ _ g1)))) k⟩
    · cases e0
      exact ⟨p, vs, true, rfl, .lst rfl (SqL.of g1), q _ H1 F1 _ _ x1 (walkD_en g2) (fun F2 H2 y s z => .lst rfl (SqL.of ((z rfl).hh _ _ g3 g1))) k⟩
  | tup xs =>
    obtain ⟨p, vs, e, g1, g2⟩ := rx.elim (fun h => h.reps_t) (fun ⟨_, _, _, z, _⟩ => nomatch z)
    subst e
    exact ⟨p, vs, false, rfl, .tup rfl (.inl (rd_same x1.s1 g1)), q _ H1 F1 _ _ x1 (walkD_en g2) (fun F2 H2 y s _ => .tup rfl (.inl (rd_same y.s1 (rd_same s g1)))) k⟩
  | _ => exact k.elim
/-- enumerate(e, start=c), c a number written there -/
theorem di_enumK {c : Int} {cj} {cp : Pos} (K : PySem.W.Frag) (hg : ∀ i, Gl (𝒳 i) "enumerate") (hm : ∀ i, (𝒳 i).mg "enumerate" = none) (ha : DE ci 𝒳 e ta) (hc : -(2 ^ 63) ≤ c ∧ c < 2 ^ 63 := by decide) (hK : ∀ i, (𝒳 i).K = K := by intro _; rfl) (hs : ∀ i, starEach (e :: []) (𝒳 i).env = (false, eval e (𝒳 i).env) :: starEach [] (𝒳 i).env := by intro _; rfl)
    (hall : ∀ i, (backToKw pos (keywordEach [⟨some (Str.ofString "start"), .Constant (.int c) cj cp, kpos⟩] (𝒳 i).env)).all (·.1.isSome) = true := by intro _; rfl) (hks : ∀ i, (backToKw pos (keywordEach [⟨some (Str.ofString "start"), .Constant (.int c) cj cp, kpos⟩] (𝒳 i).env)).filterMap (·.1) = [Str.ofString "start"] := by intro _; rfl)
    (hpl : ∀ i, ((backTo pos (starEach (e :: []) (𝒳 i).env)).any (·.1) || (backToKw pos (keywordEach [⟨some (Str.ofString "start"), .Constant (.int c) cj cp, kpos⟩] (𝒳 i).env)).any (·.1.isNone)) = false := by intro _; rfl) :
    DI ci false 𝒳 (.Tuple es q tpos) (.Call (.Name "enumerate" p) [e] [⟨some (Str.ofString "start"), .Constant (.int c) cj cp, kpos⟩] pos) (dEnF c ta) := by
  obtain ⟨t1, p1, h1⟩ := ha.ex
  refine ⟨iEnK K (tCons t1 tNil) (tCons (tC (.int c)) tNil), fun i => by rw [← hK i]; exact pi_enK (hg i) (hm i) (pa_cons (p1 i) pa_nil (hs i)) (pk_cons pe_int pk_nil) (hs i) (hall i) (hks i) (hpl i), fun b L F0 H0 ρ σ F H R Q S h q => ?_⟩
  refine h1 b L F0 H0 ρ σ F H _ _ S h fun v H1 F1 r1 x1 rep1 f1 k => ?_
  obtain ⟨x, F2, x1, _, rx, k⟩ := withD_of x1 rep1 f1 k
  cases x with
  | lst xs =>
    obtain ⟨p, vs, rfl, g1, g2⟩ := rx.reps_l
    exact ⟨p, vs, true, c, rfl, rfl, hc, .lst rfl (SqL.of (x1.s1 _ _ g1)), q _ H1 F2 _ _ x1 (walkD_en g2) (fun F2 H2 y s _ => .lst rfl (SqL.of (y.s1 _ _ (s _ _ g1)))) k⟩
  | tup xs =>
    obtain ⟨p, vs, rfl, g1, g2⟩ := rx.reps_t
    exact ⟨p, vs, false, c, rfl, rfl, hc, .tup rfl (.inl (rd_same x1.s1 g1)), q _ H1 F2 _ _ x1 (walkD_en g2) (fun F2 H2 y s _ => .tup rfl (.inl (rd_same y.s1 (rd_same s g1)))) k⟩
  | _ => exact k.elim
end
end DL

/-! the data layer: a dict that the program writes, with texts as keys -/
namespace DL
open PySem PySem.Spec PyProof.Rows L2 VL
/-- at d such a dict -/
def WDct (K : PySem.W.Frag) (w : World) (d : Addr) : Prop := ∃ es n, KDict K w d es n
/-- what it has at z -/
def WHas (K : PySem.W.Frag) (d : Addr) (z : Str) : Option D → Prop
  | none => PySem.W.nsIn K d z = some none
  | some y => ∃ u v, PySem.W.nsIn K d z = some (some u) ∧ RelV v u ∧ ∀ ci F, Rep ci F y v
theorem WHas.look {K : PySem.W.Frag} {d : Addr} {z : Str} {o : Option D} (h : WHas K d z o) : ∃ r, PySem.W.nsIn K d z = some r ∧ r.isSome = o.isSome := by
  cases o with
  | none => exact ⟨_, h, rfl⟩
  | some y =>
    obtain ⟨u, v, h1, _⟩ := h
    exact ⟨_, h1, rfl⟩
def rInW (K : PySem.W.Frag) (d : Addr) (neg : Bool) : R2 := fun x y H Q => ∃ (z : Str) (r : Option Value), x = .str z ∧ y = .ref d ∧ PySem.W.nsIn K d z = some r ∧ Q (.bl (if neg then !r.isSome else r.isSome)) H
def inWF (K : PySem.W.Frag) (d : Addr) (neg : Bool) : F2 := fun x y R => ∃ (z : Str) (o : Option D), x = .str z ∧ y = .ref d ∧ WHas K d z o ∧ R (.d (.bl (if neg then !o.isSome else o.isSome)))
def ixWF (K : PySem.W.Frag) (d : Addr) : F2 := fun x y R => ∃ (z : Str) (o : D), x = .ref d ∧ y = .str z ∧ WHas K d z (some o) ∧ R (.d o)
section
variable {ci : CI} {K : PySem.W.Frag} {w : World} {d : Addr}
theorem vr_ref {b a : Addr} {F H : Hp} {v : V} (h : VR ci b F H (.ref a) v) : v = .ref a := by
  rcases h with h | ⟨_, _, _, z, _⟩
  · cases h
    rfl
  · cases z
theorem bin_inW (neg : Bool) : Bin ci (rInW K d neg) (inWF K d neg) := by
  rintro b L F H x y v u R Q fr hx hy ⟨z, o, rfl, rfl, hw, k⟩ q
  obtain ⟨r, h1, h2⟩ := hw.look
  refine ⟨z, r, hx.str, vr_ref hy, h1, q.d fr (Rep.bl _) ?_⟩
  rw [h2]
  exact k
theorem op_inW {X : Cx} (D : WDct K w d) (hK : X.K = K) (hw : X.w = w) : OpR X (compareOp .In) (rInW K d false) := by
  subst hK hw
  obtain ⟨es, n, D⟩ := D
  exact op_in_kd D
theorem op_notInW {X : Cx} (D : WDct K w d) (hK : X.K = K) (hw : X.w = w) : OpR X (compareOp .NotIn) (rInW K d true) := by
  subst hK hw
  obtain ⟨es, n, D⟩ := D
  exact op_notIn_kd D
theorem bin_ixW (D : WDct K w d) : Bin ci (rIxD K w) (ixWF K d) := by
  obtain ⟨es, n, D⟩ := D
  rintro b L F H x y v u R Q fr hx hy ⟨z, o, rfl, rfl, ⟨u0, v0, h1, h2, h3⟩, k⟩ q
  exact ⟨d, z, v0, vr_ref hx, hy.str, ⟨es, n, u0, D.at_, D.lit, h1, h2⟩, q.d fr (h3 ci F) k⟩
variable {ι : Type} {𝒳 : ι → Cx} {a c : Expr} {ta tb : TD} {pos : Pos}
theorem ix_W {X : Cx} (hK : X.K = K) (hw : X.w = w) : IxR X (rIxD K w) := by
  subst hK hw
  exact ix_kdict
theorem de_inW (D : WDct K w d) (ha : DE ci 𝒳 a ta) (hc : DE ci 𝒳 c tb) (hm : behindInMarks .In c = false := by with_unfolding_all rfl) (hK : ∀ i, (𝒳 i).K = K := by intro _; rfl) (hw : ∀ i, (𝒳 i).w = w := by intro _; rfl) : DE ci 𝒳 (.Compare a [.In] [c] pos) (dBin (inWF K d false) ta tb) := de_cmp (fun i => op_inW D (hK i) (hw i)) (bin_inW false) ha hc hm
theorem dt_inW (D : WDct K w d) (ha : DE ci 𝒳 a ta) (hc : DE ci 𝒳 c tb) (hm : behindInMarks .In c = false := by with_unfolding_all rfl) (hK : ∀ i, (𝒳 i).K = K := by intro _; rfl) (hw : ∀ i, (𝒳 i).w = w := by intro _; rfl) : DT ci 𝒳 (.Compare a [.In] [c] pos) (dB (dBin (inWF K d false) ta tb)) := dt_cmp (fun i => op_inW D (hK i) (hw i)) (bin_inW false) ha hc hm
theorem de_notInW (D : WDct K w d) (ha : DE ci 𝒳 a ta) (hc : DE ci 𝒳 c tb) (hm : behindInMarks .NotIn c = false := by with_unfolding_all rfl) (hK : ∀ i, (𝒳 i).K = K := by intro _; rfl) (hw : ∀ i, (𝒳 i).w = w := by intro _; rfl) : DE ci 𝒳 (.Compare a [.NotIn] [c] pos) (dBin (inWF K d true) ta tb) := de_cmp (fun i => op_notInW D (hK i) (hw i)) (bin_inW true) ha hc hm
theorem dt_notInW (D : WDct K w d) (ha : DE ci 𝒳 a ta) (hc : DE ci 𝒳 c tb) (hm : behindInMarks .NotIn c = false := by with_unfolding_all rfl) (hK : ∀ i, (𝒳 i).K = K := by intro _; rfl) (hw : ∀ i, (𝒳 i).w = w := by intro _; rfl) : DT ci 𝒳 (.Compare a [.NotIn] [c] pos) (dB (dBin (inWF K d true) ta tb)) := dt_cmp (fun i => op_notInW D (hK i) (hw i)) (bin_inW true) ha hc hm
theorem de_itemW (D : WDct K w d) (ha : DE ci 𝒳 a ta) (hc : DE ci 𝒳 c tb) (hK : ∀ i, (𝒳 i).K = K := by intro _; rfl) (hw : ∀ i, (𝒳 i).w = w := by intro _; rfl) (hs : PlainIx c := by exact fun _ _ => rfl) : DE ci 𝒳 (.Subscript a c pos) (dBin (ixWF K d) ta tb) := de_ix (fun i => ix_W (hK i) (hw i)) (bin_ixW D) ha hc hs
end
/-! ### all that such a dict has: numbers at texts -/
inductive Entr : List DictEntry → List (Str × Int) → Prop where
  | nil : Entr [] []
  | cons {e : DictEntry} {es : List DictEntry} {z : Str} {i : Int} {kvs : List (Str × Int)} (k : ∃ t, e.key = .str z t) (v : RelV (.int i) e.val) (r : Entr es kvs) : Entr (e :: es) ((z, i) :: kvs)
/-- at d the dict of these -/
def WTab (K : PySem.W.Frag) (w : World) (d : Addr) (kvs : List (Str × Int)) : Prop := ∃ es n, KDict K w d es n ∧ Entr es.toList kvs
theorem WTab.dct {K : PySem.W.Frag} {w : World} {d : Addr} {kvs : List (Str × Int)} (h : WTab K w d kvs) : WDct K w d := let ⟨es, n, h, _⟩ := h; ⟨es, n, h⟩
theorem Entr.plain {es : List DictEntry} {kvs : List (Str × Int)} (h : Entr es kvs) : es.any (·.refKey) = false := by
  induction h with
  | nil => rfl
  | cons k v r ih =>
    obtain ⟨t, k⟩ := k
    rw [List.any_cons, ih, Bool.or_false]
    unfold DictEntry.refKey
    rw [k]
theorem Entr.seek {es : List DictEntry} {kvs : List (Str × Int)} (h : Entr es kvs) (x : Str) : (es.find? (·.key.isStr x) = none ∧ kvs.lookup x = none) ∨ ∃ e i, es.find? (·.key.isStr x) = some e ∧ kvs.lookup x = some i ∧ RelV (.int i) e.val := by
  induction h with
  | nil => exact .inl ⟨rfl, rfl⟩
  | @cons e es z i kvs k v r ih =>
    obtain ⟨t, k⟩ := k
    have e1 : e.key.isStr x = (z == x) := by rw [k]; rfl
    by_cases q : z = x
    · subst q
      have b1 : (z == z) = true := beq_self_eq_true z
      refine .inr ⟨e, i, ?_, ?_, v⟩
      · rw [List.find?_cons]
        simp only [e1, b1]
      · rw [List.lookup_cons]
        simp only [b1]
    · have b1 : (z == x) = false := beq_eq_false_iff_ne.mpr q
      have b2 : (x == z) = false := beq_eq_false_iff_ne.mpr fun z => q z.symm
      rw [List.find?_cons, List.lookup_cons]
      simp only [e1, b1, b2]
      exact ih
theorem WTab.has {K : PySem.W.Frag} {w : World} {d : Addr} {kvs : List (Str × Int)} (h : WTab K w d kvs) (x : Str) : WHas K d x ((kvs.lookup x).map D.int) := by
  obtain ⟨es, n, D, E⟩ := h
  have pl := E.plain
  rcases E.seek x with ⟨h1, h2⟩ | ⟨e, i, h1, h2, h3⟩
  · rw [h2]
    show PySem.W.nsIn K d x = some none
    unfold PySem.W.nsIn
    rw [D.at_]
    dsimp only
    rw [h1]
    dsimp only
    rw [pl]
    rfl
  · rw [h2]
    refine ⟨e.val, .int i, ?_, h3, fun ci F => .int i⟩
    unfold PySem.W.nsIn
    rw [D.at_]
    dsimp only
    rw [h1]
end DL

/-! names of marks, rules as texts: facts of texts alone -/
namespace DL
open PySem PySem.Spec PyProof.Rows L2 VL
/-! ### texts by their signs -/
def tx (cs : List Nat) : Str := ⟨cs.toArray⟩
theorem tx_of (z : Str) : tx z.cps.toList = z := by simp [tx]
theorem tx_signs (cs : List Nat) : (tx cs).cps.toList = cs := by simp [tx]
theorem tx_app (a b : List Nat) : tx a ++ tx b = tx (a ++ b) := by
  show (⟨a.toArray ++ b.toArray⟩ : Str) = ⟨(a ++ b).toArray⟩
  simp
theorem tx_len (a : List Nat) : (tx a).length = a.length := by simp [tx, Str.length]
theorem tx_inj {a b : List Nat} (h : tx a = tx b) : a = b := by
  have z := congrArg (fun s : Str => s.cps.toList) h
  simpa [tx] using z
theorem str_assoc (a b c : Str) : a ++ b ++ c = a ++ (b ++ c) := by
  rw [← tx_of a, ← tx_of b, ← tx_of c, tx_app, tx_app, tx_app, tx_app, List.append_assoc]
theorem str_nil (a : Str) : Str.empty ++ a = a := by
  rw [← tx_of a, show Str.empty = tx [] from rfl, tx_app]
  rfl
theorem app_len (a b : Str) : (a ++ b).length = a.length + b.length := by
  rw [← tx_of a, ← tx_of b, tx_app, tx_len, tx_len, tx_len, List.length_append]
theorem app_signs (a b : Str) : (a ++ b).cps.toList = a.cps.toList ++ b.cps.toList := by
  rw [← tx_of a, ← tx_of b, tx_app, tx_signs, tx_signs, tx_signs]
theorem join_signs (cs : List Nat) : Txt.join "" (cs.map fun c => tx [c]) = tx cs := by
  have e := SX.join_S [] (cs.map fun c => [c])
  rw [List.map_map] at e
  have j : TL.joinL [] (cs.map fun c => [c]) = cs := by
    clear e
    induction cs with
    | nil => rfl
    | cons c r ih =>
      match r, ih with
      | [], _ => rfl
      | d :: r, ih => exact congrArg (List.cons c) ih
  rw [j] at e
  exact e
theorem sum_ones (cs : List Nat) : ((cs.map fun c => tx [c]).map (·.length)).sum = cs.length := by
  induction cs with
  | nil => rfl
  | cons c r ih =>
    rw [List.map_cons, List.map_cons, List.sum_cons, ih, tx_len, List.length_cons, List.length_cons]
    show 1 + r.length = _
    omega
/-! ### names -/
/-- n different names of small letters -/
structure Nms (n : Nat) (ns : List Str) : Prop where
  len : ns.length = n
  nd : ns.Nodup
  of : ∀ z ∈ ns, 1 ≤ z.length ∧ z.length ≤ 12 ∧ ∀ c ∈ z.cps.toList, c ∈ letters
theorem Nms.rev {n : Nat} {ns : List Str} (h : Nms n ns) : Nms n ns.reverse :=
  ⟨by rw [List.length_reverse]; exact h.len, List.pairwise_reverse.mpr (h.nd.imp Ne.symm), fun z hz => h.of z (List.mem_reverse.mp hz)⟩
theorem Nms.name {n : Nat} {ns : List Str} (h : Nms n ns) {z : Str} (hz : z ∈ ns) : nameB z = true := by
  obtain ⟨a, b, c⟩ := h.of z hz
  unfold nameB
  simp only [Bool.and_eq_true, decide_eq_true_eq, List.all_eq_true]
  exact ⟨⟨by omega, by omega⟩, c⟩
def own (s : Int) (k : Nat) : Nat := 97 + ((s + 5 * (k : Int)) % 26).toNat
theorem own_at (s : Int) (k : Nat) : letters[((s + 5 * (k : Int)) % 26).toNat]? = some (own s k) := by
  have h : ((s + 5 * (k : Int)) % 26).toNat < 26 := by omega
  have all : ∀ i : Fin 26, letters[i.1]? = some (97 + i.1) := by decide +kernel
  exact all ⟨_, h⟩
theorem own_in (s : Int) (k : Nat) : own s k ∈ letters := List.mem_of_getElem? (own_at s k)
theorem own_inj {s : Int} {i j : Nat} (hi : i < 8) (hj : j < 8) (h : own s i = own s j) : i = j := by
  unfold own at h
  omega
/-- one head, a letter of its own each, any tails -/
def Hdd (s : Int) (hd : List Nat) (css : List (List Nat)) : Prop := ∀ (k : Nat) (cs : List Nat), css[k]? = some cs → ∃ tl : List Nat, cs = hd ++ (own s k :: tl) ∧ tl.length ≤ 6 ∧ ∀ c ∈ tl, c ∈ letters
theorem Hdd.snoc {s : Int} {hd : List Nat} {css : List (List Nat)} (h : Hdd s hd css) {tl : List Nat} (h6 : tl.length ≤ 6) (hc : ∀ c ∈ tl, c ∈ letters) : Hdd s hd (css ++ [hd ++ (own s css.length :: tl)]) := by
  intro k cs hk
  by_cases q : k < css.length
  · rw [List.getElem?_append_left q] at hk
    exact h k cs hk
  · rw [List.getElem?_append_right (by omega)] at hk
    have z : k - css.length = 0 := by
      cases e : k - css.length with
      | zero => rfl
      | succ m =>
        rw [e] at hk
        simp at hk
    rw [z] at hk
    have ek : k = css.length := by omega
    subst ek
    exact ⟨tl, (Option.some.inj hk).symm, h6, hc⟩
theorem Hdd.nms {s : Int} {hd : List Nat} {css : List (List Nat)} (h : Hdd s hd css) (h5 : hd.length ≤ 5) (hh : ∀ c ∈ hd, c ∈ letters) (h8 : css.length ≤ 8) : Nms css.length (css.map tx) := by
  refine ⟨by simp, List.pairwise_map.mpr (List.pairwise_iff_getElem.mpr fun i j hi hj hij e => ?_), fun z hz => ?_⟩
  · obtain ⟨t1, e1, _⟩ := h i _ (List.getElem?_eq_getElem hi)
    obtain ⟨t2, e2, _⟩ := h j _ (List.getElem?_eq_getElem hj)
    rw [tx_inj e] at e1
    have z := List.append_cancel_left (e1.symm.trans e2)
    have := own_inj (by omega) (by omega) (List.cons.inj z).1
    omega
  · obtain ⟨cs, hc, rfl⟩ := List.mem_map.mp hz
    obtain ⟨k, hk⟩ := List.mem_iff_getElem?.mp hc
    obtain ⟨tl, rfl, h6, ht⟩ := h k cs hk
    rw [tx_len, tx_signs]
    refine ⟨by simp; omega, by simp; omega, fun c hc => ?_⟩
    rcases List.mem_append.mp hc with h | h
    · exact hh c h
    · rcases List.mem_cons.mp h with h | h
      · rw [h]
        exact own_in s k
      · exact ht c h
theorem letter_lt {c : Nat} (h : c ∈ letters) : 97 ≤ c ∧ c ≤ 122 := by
  have all : ∀ c ∈ letters, 97 ≤ c ∧ c ≤ 122 := by decide +kernel
  exact all c h
/-! ### a rule as a text -/
def wordS (d : Int) : Str := if d = 1 then "asc" else "desc"
def nameAt (ns : List Str) (m : Int) : Str := (ns[m.toNat]?).getD Str.empty
def partS (ns : List Str) (t : Tm) : Str := nameAt ns t.1 ++ ((" " : Str) ++ wordS t.2)
def writ (ns : List Str) (ts : List Tm) : Str := Txt.join ", " (ts.map (partS ns))
theorem nameAt_at {ns : List Str} {m : Int} (h0 : 0 ≤ m) (h1 : m < (ns.length : Int)) : ns[m.toNat]? = some (nameAt ns m) := by
  unfold nameAt
  have h : m.toNat < ns.length := by omega
  rw [List.getElem?_eq_getElem h]
  rfl
theorem nameAt_in {ns : List Str} {m : Int} (h0 : 0 ≤ m) (h1 : m < (ns.length : Int)) : nameAt ns m ∈ ns := List.mem_of_getElem? (nameAt_at h0 h1)
theorem word_len (d : Int) : (wordS d).length ≤ 4 := by
  unfold wordS
  split <;> decide
theorem word_low (d : Int) : 44 ∉ (wordS d).cps.toList ∧ 32 ∉ (wordS d).cps.toList := by
  unfold wordS
  split <;> decide
theorem Nms.low {n : Nat} {ns : List Str} (h : Nms n ns) {z : Str} (hz : z ∈ ns) : 44 ∉ z.cps.toList ∧ 32 ∉ z.cps.toList := by
  obtain ⟨_, _, c⟩ := h.of z hz
  exact ⟨fun q => by have := (letter_lt (c _ q)).1; omega, fun q => by have := (letter_lt (c _ q)).1; omega⟩
section
variable {n : Nat} {ns : List Str} {ts : List Tm}
theorem part_low (h : Nms n ns) {t : Tm} (h0 : 0 ≤ t.1) (h1 : t.1 < (n : Int)) : 44 ∉ (partS ns t).cps.toList ∧ 1 ≤ (partS ns t).length ∧ (partS ns t).length ≤ 17 := by
  have hm : nameAt ns t.1 ∈ ns := nameAt_in h0 (by rw [h.len]; exact h1)
  obtain ⟨a, b, _⟩ := h.of _ hm
  have l1 := word_len t.2
  unfold partS
  rw [app_signs, app_signs, app_len, app_len]
  have l2 : (" " : Str).length = 1 := by decide
  refine ⟨fun q => ?_, by omega, by omega⟩
  rcases List.mem_append.mp q with q | q
  · exact (h.low hm).1 q
  · rcases List.mem_append.mp q with q | q
    · revert q
      decide
    · exact (word_low t.2).1 q
theorem split_part (h : Nms n ns) {t : Tm} (h0 : 0 ≤ t.1) (h1 : t.1 < (n : Int)) : Txt.split (partS ns t) " " = [nameAt ns t.1, wordS t.2] := by
  have hm : nameAt ns t.1 ∈ ns := nameAt_in h0 (by rw [h.len]; exact h1)
  have e := TL.split_join (y := " ") (s := 32) (S := []) (by decide) (by decide +kernel) (parts := [nameAt ns t.1, wordS t.2]) (by simp) (fun p hp => by
    rcases List.mem_cons.mp hp with rfl | hp
    · exact (h.low hm).2
    · rw [List.mem_singleton.mp hp]
      exact (word_low t.2).2)
  have ej : Txt.join " " [nameAt ns t.1, wordS t.2] = partS ns t := by
    show nameAt ns t.1 ++ " " ++ wordS t.2 = _
    unfold partS
    rw [str_assoc]
  rw [ej] at e
  exact e
/-- the parts of a text -/
def partsS (z : Str) : List Str := if z = "" then [] else Txt.split z ", "
theorem join_len (y : Str) (xs : List Str) {k m : Nat} (hk : ∀ x ∈ xs, x.length ≤ k) (hy : y.length ≤ m) : (Txt.join y xs).length ≤ xs.length * (k + m) := by
  rw [TL.join_eq]
  refine Nat.le_trans (StrLaws.join_length_le y xs) ?_
  have e : (xs.map (·.length)).sum ≤ xs.length * k := by
    clear hy
    induction xs with
    | nil => exact Nat.zero_le _
    | cons x r ih =>
      have a := hk x List.mem_cons_self
      have b := ih fun z hz => hk z (List.mem_cons_of_mem _ hz)
      rw [List.map_cons, List.sum_cons, List.length_cons, Nat.succ_mul]
      omega
  have f : xs.length * y.length ≤ xs.length * m := Nat.mul_le_mul_left _ hy
  rw [Nat.mul_add]
  omega
theorem sum_le {xs : List Str} {k : Nat} (hk : ∀ x ∈ xs, x.length ≤ k) : (xs.map (·.length)).sum ≤ xs.length * k := by
  induction xs with
  | nil => exact Nat.zero_le _
  | cons x r ih =>
    have a := hk x List.mem_cons_self
    have b := ih fun z hz => hk z (List.mem_cons_of_mem _ hz)
    rw [List.map_cons, List.sum_cons, List.length_cons, Nat.succ_mul]
    omega
theorem join_ne (y x : Str) (xs : List Str) (h : 1 ≤ x.length) : Txt.join y (x :: xs) ≠ "" := by
  intro e
  have l := congrArg Str.length e
  rw [TL.join_eq] at l
  match xs with
  | [] =>
    have l : x.length = 0 := l
    omega
  | z :: r =>
    have l : (x ++ y ++ Str.join y (z :: r)).length = 0 := l
    rw [app_len, app_len] at l
    omega
theorem parts_writ (h : Nms n ns) (g : Good n ts) : partsS (writ ns ts) = ts.map (partS ns) := by
  unfold partsS writ
  cases ts with
  | nil => exact if_pos (show Txt.join ", " [] = "" by decide +kernel)
  | cons t r =>
    have lo : ∀ p ∈ (t :: r).map (partS ns), 44 ∉ p.cps.toList ∧ 1 ≤ p.length ∧ p.length ≤ 17 := fun p hp => by
      obtain ⟨s, hs, rfl⟩ := List.mem_map.mp hp
      obtain ⟨a, b, _⟩ := g.r s hs
      exact part_low h a b
    rw [if_neg (show Txt.join ", " ((t :: r).map (partS ns)) ≠ "" from join_ne _ _ _ (lo (partS ns t) (by simp)).2.1)]
    exact TL.split_join (y := ", ") (s := 44) (S := [32]) (by decide) (by decide +kernel) (by simp) fun p hp => (lo p hp).1
theorem writ_len (h : Nms n ns) (g : Good n ts) (h8 : n ≤ 8) : (writ ns ts).length ≤ 1000 := by
  have e : (writ ns ts).length ≤ ((ts.map (partS ns)).length) * (17 + 2) := join_len _ _ (fun p hp => by
    obtain ⟨s, hs, rfl⟩ := List.mem_map.mp hp
    obtain ⟨a, b, _⟩ := g.r s hs
    exact (part_low h a b).2.2) (by decide)
  rw [List.length_map] at e
  have := g.len
  omega
/-! ### the marks the other way round -/
def turnT (n : Nat) (ts : List Tm) : List Tm := ts.map fun t => ((n : Int) - 1 - t.1, t.2)
theorem nameAt_rev (e : ns.length = n) {m : Int} (h0 : 0 ≤ m) (h1 : m < (n : Int)) : nameAt ns.reverse ((n : Int) - 1 - m) = nameAt ns m := by
  unfold nameAt
  rw [List.getElem?_reverse (by omega), show ns.length - 1 - ((n : Int) - 1 - m).toNat = m.toNat by omega]
theorem nameAt_rev2 (e : ns.length = n) {m : Int} (h0 : 0 ≤ m) (h1 : m < (n : Int)) : nameAt ns.reverse m = nameAt ns ((n : Int) - 1 - m) := by
  have z := nameAt_rev (ns := ns) e (m := (n : Int) - 1 - m) (by omega) (by omega)
  rw [← z, show (n : Int) - 1 - ((n : Int) - 1 - m) = m by omega]
theorem Good.turn (g : Good n ts) : Good n (turnT n ts) := by
  refine ⟨fun t ht => ?_, ?_⟩
  · obtain ⟨s, hs, rfl⟩ := List.mem_map.mp ht
    obtain ⟨a, b, c⟩ := g.r s hs
    exact ⟨by show 0 ≤ (n : Int) - 1 - s.1; omega, by show (n : Int) - 1 - s.1 < (n : Int); omega, c⟩
  · unfold turnT
    rw [List.map_map]
    have e : ((fun x : Tm => x.1) ∘ fun t : Tm => (((n : Int) - 1 - t.1, t.2) : Tm)) = (fun m : Int => (n : Int) - 1 - m) ∘ fun x : Tm => x.1 := rfl
    rw [e, ← List.map_map]
    exact List.pairwise_map.mpr (g.nd.imp fun ne z => ne (by omega))
theorem writ_turn (h : Nms n ns) (g : Good n ts) : writ ns.reverse (turnT n ts) = writ ns ts := by
  unfold writ turnT
  rw [List.map_map]
  refine congrArg _ (List.map_congr_left fun t ht => ?_)
  obtain ⟨a, b, _⟩ := g.r t ht
  show nameAt ns.reverse ((n : Int) - 1 - t.1) ++ _ = nameAt ns t.1 ++ _
  rw [nameAt_rev h.len a b]
end
/-- the first place -/
theorem first_at {ns : List Str} (nd : ns.Nodup) {m : Int} (h0 : 0 ≤ m) (h1 : m < (ns.length : Int)) : ∀ k : Nat, k < m.toNat → ns[k]? ≠ some (nameAt ns m) := fun k hk e => by
  have e2 := nameAt_at h0 h1
  have l1 : k < ns.length := (List.getElem?_eq_some_iff.mp e).1
  have l2 : m.toNat < ns.length := by omega
  rw [List.getElem?_eq_getElem l1] at e
  rw [List.getElem?_eq_getElem l2] at e2
  exact List.pairwise_iff_getElem.mp nd k m.toNat l1 l2 hk ((Option.some.inj e).trans (Option.some.inj e2).symm)
end DL

/-! the data layer: what simp reads of a term -/
namespace DL
open PySem PySem.Spec PyProof.Rows L2 VL
/-- a datum as an argument -/
def sl : D → Sl
  | .lst xs => .v xs
  | x => .d x
theorem arg_d {x : D} : (Sl.d x).arg = sl x := by cases x <;> rfl
theorem arg_v {x : List D} : (Sl.v x).arg = .v x := rfl
theorem arg_m {x : List D} : (Sl.m x).arg = .v x := rfl
theorem arg_box : Sl.box.arg = .box := rfl
theorem arg_sl {x : D} : (sl x).arg = sl x := by cases x <;> rfl
theorem sl_int {x : Int} : sl (.int x) = .d (.int x) := rfl
theorem sl_bl {x : Bool} : sl (.bl x) = .d (.bl x) := rfl
theorem sl_str {x : Str} : sl (.str x) = .d (.str x) := rfl
theorem sl_tup {x : List D} : sl (.tup x) = .d (.tup x) := rfl
theorem sl_lst {x : List D} : sl (.lst x) = .v x := rfl
theorem sl_non : sl .non = .d .non := rfl
theorem sl_ins {C : Addr} {fs : List Str} {xs : List D} : sl (.ins C fs xs) = .d (.ins C fs xs) := rfl
theorem sl_ref {a : Addr} : sl (.ref a) = .d (.ref a) := rfl
theorem sl_inj {x y : D} : (sl x = sl y) = (x = y) := propext ⟨fun h => by
  cases x <;> cases y <;> first | (cases h; rfl) | (simp only [sl] at h; cases h), fun h => h ▸ rfl⟩
theorem withV_sl {x : D} {k : D → Prop} : withV (sl x) k = k x := by cases x <;> rfl
theorem see_sl {x : D} : (sl x).see = some x := by cases x <;> rfl
theorem dVar_S {i : Nat} {ρ : List Sl} {r : Sl} {R : Sl → Prop} : dVar (i + 1) (r :: ρ) R = dVar i ρ R := rfl
theorem dVar_0 {ρ : List Sl} {x : D} {R : Sl → Prop} : dVar 0 (sl x :: ρ) R = R (sl x) := by cases x <;> rfl
theorem dVar_d {ρ : List Sl} {x : D} {R : Sl → Prop} : dVar 0 (.d x :: ρ) R = R (.d x) := rfl
theorem dVar_v {ρ : List Sl} {x : List D} {R : Sl → Prop} : dVar 0 (.v x :: ρ) R = R (.v x) := rfl
theorem dVar_m {ρ : List Sl} {x : List D} {R : Sl → Prop} : dVar 0 (.m x :: ρ) R = R (.v x) := rfl
theorem dVar_box {ρ : List Sl} {R : Sl → Prop} : dVar 0 (.box :: ρ) R = R .box := rfl
theorem dVar_see {ρ : List Sl} {r : Sl} {k : D → Prop} : (dVar 0 (r :: ρ) fun q => withV q k) = withV r k := by cases r <;> rfl
theorem withV_d {x : D} {k : D → Prop} : withV (.d x) k = k x := rfl
theorem withV_v {x : List D} {k : D → Prop} : withV (.v x) k = k (.lst x) := rfl
theorem withV_m {x : List D} {k : D → Prop} : withV (.m x) k = k (.lst x) := rfl
theorem withV_eq {r : Sl} {x : D} (h : r.see = some x) {k : D → Prop} : withV r k = k x := by
  cases r <;> first | (cases h; rfl) | cases h
theorem withD_d {x : D} {k : D → Prop} : withD (.d x) k = k x := rfl
theorem withD_m {x : List D} {k : D → Prop} : withD (.m x) k = k (.lst x) := rfl
theorem keepR_d {x : D} {k : Sl → Prop} : keepR (.d x) k = k (.d x) := rfl
theorem keepR_m {x : List D} {k : Sl → Prop} : keepR (.m x) k = k (.m x) := rfl
theorem keepR_box {k : Sl → Prop} : keepR .box k = k .box := rfl
theorem ex_bl {b : Bool} {P : Bool → Prop} : (∃ k, D.bl b = D.bl k ∧ P k) = P b := propext ⟨fun ⟨_, e, h⟩ => by cases e; exact h, fun h => ⟨b, rfl, h⟩⟩
theorem ex_bl2 {b : Bool} {P : Bool → Prop} : (∃ k, Sl.d (D.bl b) = Sl.d (D.bl k) ∧ P k) = P b := propext ⟨fun ⟨_, e, h⟩ => by cases e; exact h, fun h => ⟨b, rfl, h⟩⟩
theorem ex_int {b : Int} {P : Int → Prop} : (∃ k, D.int b = D.int k ∧ P k) = P b := propext ⟨fun ⟨_, e, h⟩ => by cases e; exact h, fun h => ⟨b, rfl, h⟩⟩
theorem ex_str {b : Str} {P : Str → Prop} : (∃ k, D.str b = D.str k ∧ P k) = P b := propext ⟨fun ⟨_, e, h⟩ => by cases e; exact h, fun h => ⟨b, rfl, h⟩⟩
theorem ex_some {α : Type} {b : α} {P : α → Prop} : (∃ k, some b = some k ∧ P k) = P b := propext ⟨fun ⟨_, e, h⟩ => by cases e; exact h, fun h => ⟨b, rfl, h⟩⟩
theorem isi_non {T : String} {R : Sl → Prop} : isiF T .non R = R (.d (.bl false)) := ex_some
theorem isi_int {T : String} {i : Int} {R : Sl → Prop} : isiF T (.int i) R = R (.d (.bl (decide (T = "int")))) := ex_some
theorem isi_str {T : String} {i : Str} {R : Sl → Prop} : isiF T (.str i) R = R (.d (.bl (decide (T = "str")))) := ex_some
theorem isi_bl {T : String} {i : Bool} {R : Sl → Prop} : isiF T (.bl i) R = R (.d (.bl (decide (T = "bool") || decide (T = "int")))) := ex_some
theorem isi_tup {T : String} {i : List D} {R : Sl → Prop} : isiF T (.tup i) R = R (.d (.bl (decide (T = "tuple")))) := ex_some
theorem isi_lst {T : String} {i : List D} {R : Sl → Prop} : isiF T (.lst i) R = R (.d (.bl (decide (T = "list")))) := ex_some
theorem len_tup {xs : List D} {R : Sl → Prop} : lenF (.tup xs) R = R (.d (.int xs.length)) := rfl
theorem len_lst {xs : List D} {R : Sl → Prop} : lenF (.lst xs) R = R (.d (.int xs.length)) := rfl
theorem eq_int {i j : Int} {R : Sl → Prop} : eqF (.int i) (.int j) R = R (.d (.bl (decide (i = j)))) := rfl
theorem eq_str {i j : Str} {R : Sl → Prop} : eqF (.str i) (.str j) R = R (.d (.bl (decide (i = j)))) := rfl
theorem eq_bl {i j : Bool} {R : Sl → Prop} : eqF (.bl i) (.bl j) R = R (.d (.bl (decide (i = j)))) := rfl
theorem ne_int {i j : Int} {R : Sl → Prop} : neF (.int i) (.int j) R = R (.d (.bl (!decide (i = j)))) := rfl
theorem ne_str {i j : Str} {R : Sl → Prop} : neF (.str i) (.str j) R = R (.d (.bl (!decide (i = j)))) := rfl
theorem ne_bl {i j : Bool} {R : Sl → Prop} : neF (.bl i) (.bl j) R = R (.d (.bl (!decide (i = j)))) := rfl
theorem ixT_0 {x : D} {xs : List D} {R : Sl → Prop} : ixF (.tup (x :: xs)) (.int 0) R = R (.d x) := by
  have e : atI (x :: xs) 0 = some x := atI_nat (j := 0) rfl
  exact propext ⟨fun ⟨z, e2, h⟩ => by rw [e] at e2; cases e2; exact h, fun h => ⟨x, e, h⟩⟩
theorem ixT_1 {x y : D} {xs : List D} {R : Sl → Prop} : ixF (.tup (x :: y :: xs)) (.int 1) R = R (.d y) := by
  have e : atI (x :: y :: xs) 1 = some y := atI_nat (j := 1) rfl
  exact propext ⟨fun ⟨z, e2, h⟩ => by rw [e] at e2; cases e2; exact h, fun h => ⟨y, e, h⟩⟩
theorem ixT_2 {x y z : D} {xs : List D} {R : Sl → Prop} : ixF (.tup (x :: y :: z :: xs)) (.int 2) R = R (.d z) := by
  have e : atI (x :: y :: z :: xs) 2 = some z := atI_nat (j := 2) rfl
  exact propext ⟨fun ⟨w, e2, h⟩ => by rw [e] at e2; cases e2; exact h, fun h => ⟨z, e, h⟩⟩
theorem sub_int {i j : Int} {R : Sl → Prop} : subF (.int i) (.int j) R = R (.d (.int (i - j))) := rfl
theorem add_int {i j : Int} {R : Sl → Prop} : addF (.int i) (.int j) R = R (.d (.int (i + j))) := rfl
theorem mul_int {i j : Int} {R : Sl → Prop} : mulF (.int i) (.int j) R = (CMul i j ∧ R (.d (.int (i * j)))) := rfl
theorem le_int {i j : Int} {R : Sl → Prop} : leF (.int i) (.int j) R = R (.d (.bl (decide (i ≤ j)))) := rfl
theorem lt_int {i j : Int} {R : Sl → Prop} : ltF (.int i) (.int j) R = R (.d (.bl (decide (i < j)))) := rfl
theorem gt_int {i j : Int} {R : Sl → Prop} : gtF (.int i) (.int j) R = R (.d (.bl (decide (j < i)))) := rfl
theorem ge_int {i j : Int} {R : Sl → Prop} : geF (.int i) (.int j) R = R (.d (.bl (decide (j ≤ i)))) := rfl
theorem neg_int {i : Int} {R : Sl → Prop} : negF (.int i) R = R (.d (.int (-i))) := rfl
theorem isN_ {x : D} {R : Sl → Prop} : isNF x .non R = R (.d (.bl (isNon x))) := rfl
theorem notN_ {x : D} {R : Sl → Prop} : notNF x .non R = R (.d (.bl (!isNon x))) := rfl
theorem list_lst {xs : List D} {R : Sl → Prop} : listF (.lst xs) R = R (.m xs) := rfl
theorem list_tup {xs : List D} {R : Sl → Prop} : listF (.tup xs) R = R (.m xs) := rfl
theorem tup_lst {xs : List D} {R : Sl → Prop} : tupF (.lst xs) R = R (.d (.tup xs)) := rfl
theorem tup_tup {xs : List D} {R : Sl → Prop} : tupF (.tup xs) R = R (.d (.tup xs)) := rfl
theorem one_int {n : Int} {k : Int → Prop} : oneInt [.d (.int n)] k = k n := rfl
theorem two_int {n m : Int} {k : Int → Int → Prop} : twoInt [.d (.int n), .d (.int m)] k = k n m := rfl
theorem seq_lst {xs : List D} {k : List D → Prop} : seqX (.lst xs) k = k xs := rfl
theorem seq_tup {xs : List D} {k : List D → Prop} : seqX (.tup xs) k = k xs := rfl
theorem seqP_0 {ρ : List Sl} {xs : List D} {k : List D → Prop} : dSeqP 0 (.v xs :: ρ) k = k xs := rfl
theorem seqP_S {i : Nat} {r : Sl} {ρ : List Sl} {k : List D → Prop} : dSeqP (i + 1) (r :: ρ) k = dSeqP i ρ k := rfl
theorem frz_m {ρ : List Sl} {xs : List D} : frz 0 (.m xs :: ρ) = .d (.lst xs) :: ρ := rfl
theorem frz_S {i : Nat} {r : Sl} {ρ : List Sl} : frz (i + 1) (r :: ρ) = r :: frz i ρ := by
  unfold frz
  rw [List.getElem?_cons_succ]
  split <;> rfl
theorem frz_d {ρ : List Sl} {x : D} : frz 0 (.d x :: ρ) = .d x :: ρ := rfl
theorem frz_v {ρ : List Sl} {x : List D} : frz 0 (.v x :: ρ) = .v x :: ρ := rfl
theorem frz_no {ρ : List Sl} : frz 0 (.no :: ρ) = .no :: ρ := rfl
theorem frz_box {ρ : List Sl} : frz 0 (.box :: ρ) = .box :: ρ := rfl
theorem isM_m {ρ : List Sl} {x : List D} : isM 0 (.m x :: ρ) = True := rfl
theorem isM_S {i : Nat} {r : Sl} {ρ : List Sl} : isM (i + 1) (r :: ρ) = isM i ρ := rfl
theorem fld_ins {f : Str} {C : Addr} {fs : List Str} {xs : List D} {R : Sl → Prop} {y : D} (h : lookD f fs xs = some y) : fldF f (.ins C fs xs) R = R (.d y) := propext ⟨fun ⟨z, e, k⟩ => by rw [h] at e; cases e; exact k, fun k => ⟨y, h, k⟩⟩
theorem gtTup2 {t : TDGs} {x y : D} {ρ : List Sl} {R : List Sl → Prop} : gtTup 2 t (.tup [x, y]) ρ R = t [x, y] ρ R := propext ⟨fun h => h.2, fun h => ⟨rfl, h⟩⟩
theorem gtTup3 {t : TDGs} {x y z : D} {ρ : List Sl} {R : List Sl → Prop} : gtTup 3 t (.tup [x, y, z]) ρ R = t [x, y, z] ρ R := propext ⟨fun h => h.2, fun h => ⟨rfl, h⟩⟩
theorem gtCons_ {t : TDG} {v : TDGs} {x : D} {xs : List D} {ρ : List Sl} {R : List Sl → Prop} : gtCons t v (x :: xs) ρ R = t x ρ fun ρ' => v xs ρ' R := rfl
theorem gtNil_ {ρ : List Sl} {R : List Sl → Prop} : gtNil [] ρ R = R ρ := rfl
theorem ins_ex {C : Addr} {fs : List Str} {xs : List D} : (∃ gs ys, D.ins C fs xs = D.ins C gs ys) = True := propext ⟨fun _ => trivial, fun _ => ⟨_, _, rfl⟩⟩
theorem fld1 {f : Str} {C : Addr} {y : D} {R : Sl → Prop} : fldF f (.ins C [f] [y]) R = R (.d y) := fld_ins (by unfold lookD; rw [if_pos rfl])
theorem wipe_nil {ρ : List Sl} : wipeR ρ [] = ρ := rfl
theorem wipe_cons {ρ : List Sl} {v : Nat} {vs : List Nat} : wipeR ρ (v :: vs) = (wipeR ρ vs).set v .no := rfl
theorem tD_inj {a b : Tm} : (tD a = tD b) = (a = b) := propext ⟨fun h => by
  cases a; cases b
  simp only [tD, D.tup.injEq, List.cons.injEq, D.int.injEq, and_true] at h
  exact Prod.ext h.1 h.2, fun h => h ▸ rfl⟩
theorem map_inj {α : Type} {f : α → D} (hf : ∀ a b, f a = f b → a = b) : ∀ {xs ys : List α}, xs.map f = ys.map f → xs = ys
  | [], [], _ => rfl
  | [], _ :: _, h => by simp at h
  | _ :: _, [], h => by simp at h
  | x :: xs, y :: ys, h => by
    rw [List.map_cons, List.map_cons, List.cons.injEq] at h
    rw [hf _ _ h.1, map_inj hf h.2]
theorem tmap_inj {xs ys : List Tm} : (xs.map tD = ys.map tD) = (xs = ys) := propext ⟨map_inj fun a b h => by rwa [tD_inj] at h, fun h => h ▸ rfl⟩
theorem imap_inj {xs ys : List Int} : (xs.map D.int = ys.map D.int) = (xs = ys) := propext ⟨map_inj fun a b h => D.int.inj h, fun h => h ▸ rfl⟩
theorem smap_inj {xs ys : List Str} : (xs.map D.str = ys.map D.str) = (xs = ys) := propext ⟨map_inj fun a b h => D.str.inj h, fun h => h ▸ rfl⟩
theorem rD_inj {C : Addr} {xs ys : List Tm} : (rD C xs = rD C ys) = (xs = ys) := propext ⟨fun h => by
  have h := (D.ins.inj h).2.2
  have h : tsD xs = tsD ys := (List.cons.inj h).1
  have h := D.tup.inj h
  rwa [tmap_inj] at h, fun h => h ▸ rfl⟩
theorem bookD_inj {xs ys : List Int} : (bookD xs = bookD ys) = (xs = ys) := propext ⟨fun h => by
  have h := D.tup.inj h
  rwa [imap_inj] at h, fun h => h ▸ rfl⟩
theorem rD_ins {C : Addr} {ts : List Tm} : (∃ fs xs, rD C ts = D.ins C fs xs) = True := ins_ex
theorem rD_fld {C : Addr} {ts : List Tm} {R : Sl → Prop} : fldF "terms" (rD C ts) R = R (.d (tsD ts)) := fld1
theorem arg_rD {C : Addr} {ts : List Tm} : sl (rD C ts) = .d (rD C ts) := rfl
theorem arg_tsD {ts : List Tm} : sl (tsD ts) = .d (tsD ts) := rfl
theorem arg_bookD {b : List Int} : sl (bookD b) = .d (bookD b) := rfl
theorem arg_tD {t : Tm} : sl (tD t) = .d (tD t) := rfl
theorem ts_seq {ts : List Tm} {k : List D → Prop} : seqX (tsD ts) k = k (ts.map tD) := rfl
/-! names, catalogs -/
def strsD (ns : List Str) : D := .tup (ns.map D.str)
def catD (C : Addr) (ns : List Str) : D := .ins C ["names"] [strsD ns]
theorem catD_inj {C : Addr} {xs ys : List Str} : (catD C xs = catD C ys) = (xs = ys) := propext ⟨fun h => by
  have h := (D.ins.inj h).2.2
  have h : strsD xs = strsD ys := (List.cons.inj h).1
  have h := D.tup.inj h
  rwa [smap_inj] at h, fun h => h ▸ rfl⟩
theorem catD_ins {C : Addr} {ts : List Str} : (∃ fs xs, catD C ts = D.ins C fs xs) = True := ins_ex
theorem catD_fld {C : Addr} {ts : List Str} {R : Sl → Prop} : fldF "names" (catD C ts) R = R (.d (strsD ts)) := fld1
theorem arg_catD {C : Addr} {ts : List Str} : sl (catD C ts) = .d (catD C ts) := rfl
theorem meth_ex {C : Addr} {fs : List Str} {xs : List D} {m : Str} {P : Prop} : (∃ gs ys, D.ins C fs xs = D.ins C gs ys ∧ m ∉ gs ∧ P) = (m ∉ fs ∧ P) := propext ⟨fun ⟨_, _, e, h⟩ => by cases e; exact h, fun h => ⟨_, _, rfl, h⟩⟩
theorem meth_rD {C : Addr} {ts : List Tm} {m : Str} {P : Prop} : (∃ gs ys, rD C ts = D.ins C gs ys ∧ m ∉ gs ∧ P) = (m ∉ (["terms"] : List Str) ∧ P) := meth_ex
theorem meth_catD {C : Addr} {ts : List Str} {m : Str} {P : Prop} : (∃ gs ys, catD C ts = D.ins C gs ys ∧ m ∉ gs ∧ P) = (m ∉ (["names"] : List Str) ∧ P) := meth_ex
theorem ixL_0 {x : D} {xs : List D} {R : Sl → Prop} : ixF (.lst (x :: xs)) (.int 0) R = R (.d x) := ixT_0
theorem ixL_1 {x y : D} {xs : List D} {R : Sl → Prop} : ixF (.lst (x :: y :: xs)) (.int 1) R = R (.d y) := ixT_1
theorem ixL_2 {x y z : D} {xs : List D} {R : Sl → Prop} : ixF (.lst (x :: y :: z :: xs)) (.int 2) R = R (.d z) := ixT_2
theorem catD_and {C : Addr} {ts : List Str} {P : Prop} : (∃ gs ys, catD C ts = D.ins C gs ys ∧ P) = P := propext ⟨fun ⟨_, _, _, h⟩ => h, fun h => ⟨_, _, rfl, h⟩⟩
theorem rD_and {C : Addr} {ts : List Tm} {P : Prop} : (∃ gs ys, rD C ts = D.ins C gs ys ∧ P) = P := propext ⟨fun ⟨_, _, _, h⟩ => h, fun h => ⟨_, _, rfl, h⟩⟩
theorem non_tup {xs : List D} : isNon (.tup xs) = false := rfl
theorem non_lst {xs : List D} : isNon (.lst xs) = false := rfl
theorem non_int {i : Int} : isNon (.int i) = false := rfl
theorem non_str {i : Str} : isNon (.str i) = false := rfl
theorem non_bl {i : Bool} : isNon (.bl i) = false := rfl
theorem non_non : isNon .non = true := rfl
theorem non_tD {t : Tm} : isNon (tD t) = false := rfl
theorem ixtD_0 {t : Tm} {R : Sl → Prop} : ixF (tD t) (.int 0) R = R (.d (.int t.1)) := ixT_0
theorem ixtD_1 {t : Tm} {R : Sl → Prop} : ixF (tD t) (.int 1) R = R (.d (.int t.2)) := ixT_1
theorem gt_tD {v : TDGs} {t : Tm} {ρ : List Sl} {R : List Sl → Prop} : gtTup 2 v (tD t) ρ R = v [.int t.1, .int t.2] ρ R := gtTup2
theorem flat_ints (ms : List Int) : (ms.map D.int).all flatX = true := by
  rw [List.all_map, List.all_eq_true]
  exact fun _ _ => rfl
theorem ixL_at {xs : List D} {i : Int} {z : D} {R : Sl → Prop} (h : atI xs i = some z) : ixF (.lst xs) (.int i) R = R (.d z) := propext ⟨fun ⟨w, e, k⟩ => by rw [h] at e; cases e; exact k, fun k => ⟨z, h, k⟩⟩
theorem ixT_at {xs : List D} {i : Int} {z : D} {R : Sl → Prop} (h : atI xs i = some z) : ixF (.tup xs) (.int i) R = R (.d z) := propext ⟨fun ⟨w, e, k⟩ => by rw [h] at e; cases e; exact k, fun k => ⟨z, h, k⟩⟩
theorem seeD {x : D} : (Sl.d x).see = some x := rfl
theorem seeV {x : List D} : (Sl.v x).see = some (.lst x) := rfl
theorem seeM {x : List D} : (Sl.m x).see = some (.lst x) := rfl
theorem lst_sl {xs : List D} : sl (.lst xs) = .v xs := rfl
theorem same_of {n : Nat} {r q : Sl} {x : D} {R : Sl → Prop} (h : r.see = some x) (h2 : q.see = some x) (hd : Dep n x) : dSame (n + 1) [r, q] R = R (.d (.bl true)) := propext ⟨fun ⟨_, _, _, _, _, _, _, k⟩ => k, fun k => ⟨_, _, _, rfl, h, h2, hd, k⟩⟩
theorem same_str {n : Nat} {x : Str} {R : Sl → Prop} : dSame (n + 1) [.d (.str x), .d (.str x)] R = R (.d (.bl true)) := same_of rfl rfl (.flat rfl _)
theorem same_int {n : Nat} {x : Int} {R : Sl → Prop} : dSame (n + 1) [.d (.int x), .d (.int x)] R = R (.d (.bl true)) := same_of rfl rfl (.flat rfl _)
theorem same_bl {n : Nat} {x : Bool} {R : Sl → Prop} : dSame (n + 1) [.d (.bl x), .d (.bl x)] R = R (.d (.bl true)) := same_of rfl rfl (.flat rfl _)
theorem same_ts {ts : List Tm} {R : Sl → Prop} (h : ts.length ≤ 1000000) : dSame 4 [.d (tsD ts), .d (.tup (ts.map tD))] R = R (.d (.bl true)) := same_of rfl rfl (dep_terms h).up
theorem eqO_rD {C : Addr} {a b : List Tm} {R : Sl → Prop} : eqOF C (dEq C) (rD C a) (rD C b) R = R (.d (.bl (decide (a = b)))) := propext ⟨fun ⟨fs, xs, gs, ys, e1, e2, as, bs, e3, k⟩ => by
  simp only [List.cons.injEq, Sl.d.injEq, rD_inj, and_true] at e3
  obtain ⟨rfl, rfl⟩ := e3
  obtain ⟨b, k1, k2⟩ := k
  cases k1
  exact k2, fun k => ⟨_, _, _, _, rfl, rfl, a, b, rfl, _, rfl, k⟩⟩
theorem bmap_inj {xs ys : List (List Int)} : (xs.map bookD = ys.map bookD) = (xs = ys) := propext ⟨map_inj fun a b h => by rwa [bookD_inj] at h, fun h => h ▸ rfl⟩
theorem add_lst {xs ys : List D} {R : Sl → Prop} : addF (.lst xs) (.lst ys) R = (xs.length + ys.length ≤ 1000000 ∧ R (.m (xs ++ ys))) := rfl
theorem add_tup {xs ys : List D} {R : Sl → Prop} : addF (.tup xs) (.tup ys) R = (xs.length + ys.length ≤ 1000000 ∧ R (.d (.tup (xs ++ ys)))) := rfl
theorem add_str {s t : Str} {R : Sl → Prop} : addF (.str s) (.str t) R = (s.length + t.length ≤ 1000000 ∧ R (.d (.str (s ++ t)))) := rfl
theorem dep_book {z : List Int} {n : Nat} (h : z.length ≤ 1000000) : Dep (n + 1) (bookD z) := .tup (by simpa using h) fun y hy => by
  obtain ⟨t, ht, rfl⟩ := List.mem_map.mp hy
  exact .flat rfl n
theorem Str_nil_app (z : Str) : Str.empty ++ z = z := str_nil z
end DL

/-! the data layer: several classes at once: plain __init__, isinstance, alternatives; max, list.clear, reverse, insert, extend -/
namespace DL
open PySem PySem.Spec PyProof.Rows L2 VL
open C8 (Cal Met)
section
variable {ci : CI} {P : Program} {w : World} {K : PySem.W.Frag} {mg : Str → Option Value} {base : Heap} {C : Addr}
/-- def __init__(self, a, ..) -/
theorem okI {f : Addr} {fd : FuncData} {qual : Str} {st : Stmt} {N ps : List Str} {k : Nat} {s : ISp} (F : Fun K "__init__" qual st f fd) (Sc : FnScope N ("self" :: ps) (defScope st)) (len : ∀ rs R, s rs R → rs.length = ps.length) (hN : ps.length + 1 ≤ N.length)
    (h : ∃ t, DN ci K C (entX P w K mg base N k qual (defScope st) f) (defBody st) t ∧ ∀ x rs R, s rs R → t x ((.d (.ref x) :: rs) ++ List.replicate (N.length - (rs.length + 1)) .no) [] [] R) : FnOk P w K mg base CX0 (k + 1) f fd ("self" :: ps) (liftI ci C s) := by
  obtain ⟨t, hd, hs⟩ := h
  obtain ⟨ts, hp, hq⟩ := init_go (ci := ci) (s := s) hd (fun rs R z => by rw [len rs R z]; exact hN) hs
  refine F.ok Sc (fun vs H Q E h => ?_) fun cdv A outer s0 H vs Q E hr h => ?_
  · obtain ⟨b, L, x, dx, F1, args, rs, R, rfl, _, _, _, _, _, _, _, rep, _, h1, _⟩ := h
    rw [List.length_cons, List.length_cons, ← rep.1, len rs R h1]
  · exact ⟨ts, hp ⟨cdv, A, outer, s0, H, E, hr⟩, hq vs H Q E h⟩
end
/-- a def that nobody may call -/
theorem fnNo {P : Program} {w : World} {K : PySem.W.Frag} {mg : Str → Option Value} {base : Heap} {ci : CI} {s : DSp} {f : Addr} {fd : FuncData} {ps : List Str} {k : Nat} (h : ∀ rs R, ¬ s rs R) : FnOk P w K mg base CX0 k f fd ps (lift ci s) :=
  ⟨fun vs H Q E hh => by
    obtain ⟨_, _, _, _, _, _, _, _, _, _, z, _⟩ := hh
    exact (h _ _ z).elim, fun A outer s0 H args us vs Q E hr he hb hv hh => by
    obtain ⟨_, _, _, _, _, _, _, _, _, _, z, _⟩ := hh
    exact (h _ _ z).elim⟩
section
variable {ci : CI} {ι : Type} {𝒳 : ι → Cx} {a c e : Expr} {ta tb tc : TD} {pos : Pos} {K : PySem.W.Frag}
/-- one of two readings -/
theorem DE.or (h1 : DE ci 𝒳 e ta) (h2 : DE ci 𝒳 e tb) : DE ci 𝒳 e (fun ρ R => ta ρ R ∨ tb ρ R) := by
  obtain ⟨t1, p1, q1⟩ := h1.ex
  obtain ⟨t2, p2, q2⟩ := h2.ex
  refine ⟨fun σ H Q => t1 σ H Q ∨ t2 σ H Q, fun i => ⟨fun pins s σ H Q I h => h.elim ((p1 i).run pins s σ H Q I) ((p2 i).run pins s σ H Q I)⟩, fun b L F0 H0 ρ σ F H R Q S h q => h.elim (fun h => .inl (q1 b L F0 H0 ρ σ F H R Q S h q)) fun h => .inr (q2 b L F0 H0 ρ σ F H R Q S h q)⟩
/-- weaker -/
theorem DE.imp (h : DE ci 𝒳 e ta) (i : ∀ ρ R, tb ρ R → ta ρ R) : DE ci 𝒳 e tb := by
  obtain ⟨t1, p1, q1⟩ := h.ex
  exact ⟨t1, p1, fun b L F0 H0 ρ σ F H R Q S h q => q1 b L F0 H0 ρ σ F H R Q S (i ρ R h) q⟩
/-- what is known of the classes of an object ahead of isinstance(.., C) -/
structure KitOf (K : PySem.W.Frag) (C1 C : Addr) (b : Bool) : Prop where
  cl : Cls K C1
  inF : InF K C1
  kit : PySem.W.kitOne K (.ref C1) (.ref C) = some b
def isMF (K : PySem.W.Frag) (C : Addr) : F1 := fun x R => ∃ C1 fs xs b, x = .ins C1 fs xs ∧ KitOf K C1 C b ∧ R (.d (.bl b))
theorem de_isiM (K : PySem.W.Frag) {C : Addr} {p q : Pos} {y : Str} (hm : ∀ i, (𝒳 i).mg "isinstance" = none) (hy : ∀ i, (𝒳 i).mg y = some (.ref C)) (ha : DE ci 𝒳 a ta)
    (hg : ∀ i, Gl (𝒳 i) "isinstance" := by intro _; rfl) (hg2 : ∀ i, Gl (𝒳 i) y := by intro _; rfl) (hK : ∀ i, (𝒳 i).K = K := by intro _; rfl) (hd : (y == ("__debug__" : Str)) = false := by decide)
    (he : ∀ i, starEach [a, .Name y q] (𝒳 i).env = (false, eval a (𝒳 i).env) :: starEach [.Name y q] (𝒳 i).env := by intro _; rfl) (he2 : ∀ i, starEach [.Name y q] (𝒳 i).env = (false, eval (.Name y q) (𝒳 i).env) :: starEach [] (𝒳 i).env := by intro _; rfl)
    (hpl : ∀ i, (backTo pos (starEach [.Name y q] (𝒳 i).env)).any (·.1) = false := by intro _; rfl) : DE ci 𝒳 (.Call (.Name "isinstance" p) [a, .Name y q] [] pos) (dUna (isMF K C) ta) := by
  obtain ⟨t1, p1, h1⟩ := ha.ex
  refine ⟨tCB (rIsi K) (tCons t1 (tCons (tC (.ref C)) tNil)), fun i => pe_callB (call_isiA K (hK i)) (hg i) (hm i) (by decide +kernel) (pa_cons (p1 i) (pa_cons (pe_glob (v := .ref C) (hg2 i) (hy i) rfl hd) pa_nil (he2 i)) (he i)) (by decide) (by decide) (he i) (hpl i), fun b L F0 H0 ρ σ F H R Q S h q => ?_⟩
  refine h1 b L F0 H0 ρ σ F H _ _ S h fun v H1 F1 r x1 rep fr k1 => ?_
  obtain ⟨x, rx, C1, fs, xs, k, rfl, kk, k1⟩ := withV_of rep k1
  obtain ⟨aa, dx, gs, rfl, hh⟩ := rep_ins (vr_ins rx)
  exact ⟨.ref aa, .ref C, .ref C1, .ref C, k, rfl, .own _, .base (.ins (x1.s1 _ _ hh) kk.cl kk.inF.ca kk.inF.cn kk.inF.ct kk.inF.cm), kk.kit, q.d x1 (Rep.bl k) k1⟩
theorem isM_at {C1 C : Addr} {fs : List Str} {xs : List D} {b : Bool} (h : KitOf K C1 C b) {R : Sl → Prop} : isMF K C (.ins C1 fs xs) R = R (.d (.bl b)) := propext ⟨fun ⟨C2, gs, ys, b', e, k, r⟩ => by
  cases e
  have := k.kit.symm.trans h.kit
  cases this
  exact r, fun r => ⟨C1, fs, xs, b, rfl, h, r⟩⟩
/-! max -/
theorem cr_maxK {X : Cx} (K : PySem.W.Frag) (hc : X.calm = true) (h : X.K = K) : CallR X (.builtin "max") (rMax K) := h ▸ cr_max hc
def maxF : F1 := fun x R => ∃ ns : List Int, x = .lst (ns.map D.int) ∧ 0 < ns.length ∧ ∀ m, m ∈ ns → (∀ y, y ∈ ns → y ≤ m) → R (.d (.int m))
theorem de_maxL (K : PySem.W.Frag) {p : Pos} (hc : ∀ i, (𝒳 i).calm = true) (hm : ∀ i, (𝒳 i).mg "max" = none) (ha : DE ci 𝒳 a ta) (hg : ∀ i, Gl (𝒳 i) "max" := by intro _; rfl) (hK : ∀ i, (𝒳 i).K = K := by intro _; rfl)
    (he : ∀ i, starEach [a] (𝒳 i).env = [(false, eval a (𝒳 i).env)] := by intro _; rfl) (hpl : ∀ i, (backTo pos (starEach [] (𝒳 i).env)).any (·.1) = false := by intro _; rfl) : DE ci 𝒳 (.Call (.Name "max" p) [a] [] pos) (dUna maxF ta) := de_B1 (fun i => cr_maxK K (hc i) (hK i)) (by
  rintro b L F H x v R Q fr hx ⟨ns, rfl, hn, k⟩ q
  obtain ⟨p, vs, rfl, h1, h2⟩ := hx.lst fr.s1
  rw [reps_ints h2] at h1
  exact ⟨p, ns, rfl, SqL.of h1, hn, fun m hm hy => q.d fr (Rep.int m) (k m hm hy)⟩) hg hm (by decide +kernel) ha (he := he) (hpl := hpl)
/-- max(a, c) of two numbers -/
theorem de_max2 {p : Pos} (hc : ∀ i, (𝒳 i).calm = true) (hm : ∀ i, (𝒳 i).mg "max" = none) (ha : DE ci 𝒳 a ta) (hb : DE ci 𝒳 c tb) (hg : ∀ i, Gl (𝒳 i) "max" := by intro _; rfl)
    (he : ∀ i, starEach [a, c] (𝒳 i).env = (false, eval a (𝒳 i).env) :: starEach [c] (𝒳 i).env := by intro _; rfl) (he2 : ∀ i, starEach [c] (𝒳 i).env = (false, eval c (𝒳 i).env) :: starEach [] (𝒳 i).env := by intro _; rfl) (hpl : ∀ i, (backTo pos (starEach [c] (𝒳 i).env)).any (·.1) = false := by intro _; rfl) :
    DE ci 𝒳 (.Call (.Name "max" p) [a, c] [] pos) (fun ρ R => ta ρ fun r => withV r fun x => tb ρ fun q => withV q fun y => ∃ i j, x = .int i ∧ y = .int j ∧ R (.d (.int (if j > i then j else i)))) := by
  obtain ⟨t1, p1, h1⟩ := ha.ex
  obtain ⟨t2, p2, h2⟩ := hb.ex
  refine ⟨tCB _ (tCons t1 (tCons t2 tNil)), fun i => pe_callB (call_max2 (hc i)) (hg i) (hm i) (by decide +kernel) (pa_cons (p1 i) (pa_cons (p2 i) pa_nil (he2 i)) (he i)) (by decide) (by decide) (he i) (hpl i), fun b L F0 H0 ρ σ F H R Q S h q => ?_⟩
  refine h1 b L F0 H0 ρ σ F H _ _ S h fun v H1 F1 r1 x1 rep1 _ k1 => ?_
  obtain ⟨x, rx, k1⟩ := withV_of rep1 k1
  refine h2 b L F0 H0 ρ σ F1 H1 _ _ (S.go x1) k1 fun w H2 F2 r2 x2 rep2 _ k2 => ?_
  obtain ⟨y, ry, i, j, rfl, rfl, k2⟩ := withV_of rep2 k2
  exact ⟨i, j, by rw [rx.int, ry.int], q.d (x1.trans x2) (Rep.int _) k2⟩
end
theorem noM_nil : noM [] = True := propext ⟨fun _ => trivial, fun _ _ z => nomatch z⟩
theorem noM_d {x : D} {ρ : List Sl} : noM (.d x :: ρ) = noM ρ := propext ⟨fun h r hr => h r (List.mem_cons_of_mem _ hr), fun h r hr => by
  rcases List.mem_cons.mp hr with rfl | hr
  · exact fun _ z => nomatch z
  · exact h r hr⟩
theorem noM_v {x : List D} {ρ : List Sl} : noM (.v x :: ρ) = noM ρ := propext ⟨fun h r hr => h r (List.mem_cons_of_mem _ hr), fun h r hr => by
  rcases List.mem_cons.mp hr with rfl | hr
  · exact fun _ z => nomatch z
  · exact h r hr⟩
theorem noM_no {ρ : List Sl} : noM (.no :: ρ) = noM ρ := propext ⟨fun h r hr => h r (List.mem_cons_of_mem _ hr), fun h r hr => by
  rcases List.mem_cons.mp hr with rfl | hr
  · exact fun _ z => nomatch z
  · exact h r hr⟩
/-! ### a list of one's own: clear, reverse, insert, extend -/
section
variable {ci : CI} {ι : Type} {𝒳 : ι → Cx} {a c e : Expr} {ta tb tc : TD} {pos p apos cpos : Pos} {x : Str}
theorem ds_clear (K : PySem.W.Frag) (k : Nat) (hN : ∀ i, (𝒳 i).N[k]? = some x := by intro _; rfl) (hv : ∀ i, Vis (𝒳 i).env.scope x := by intro _; first | exact Or.inl rfl | exact Or.inr (Or.inl rfl) | exact Or.inr (Or.inr rfl)) (hK : ∀ i, (𝒳 i).K = K := by intro _; rfl)
    (hs : ∀ i, swapsWith (.Call (.Attribute (.Name x p) "clear" apos) [] [] cpos) none pos.line (𝒳 i).env = pure false := by intro _; rfl)
    (hbase : ∀ i, attributeBase (.Name x p) "clear" (𝒳 i).env (eval (.Name x p) (𝒳 i).env) = eval (.Name x p) (𝒳 i).env := by intro _; rfl) (hline : (apos.endLine == cpos.line) = true := by rfl)
    (hd : (x == ("__debug__" : Str)) = false := by decide) (hcd : (x == ("__classdict__" : Str)) = false := by decide) :
    DS ci 𝒳 (.Expr (.Call (.Attribute (.Name x p) "clear" apos) [] [] cpos) pos) (fun DD ρ => isM k ρ ∧ DD.nx (ρ.set k (.m []))) := by
  refine ⟨tDrop (tBM0 K "list" rClear (tVar k)), fun i => ps_expr (by rw [← hK i]; exact pe_bm0 PySem.F.plainAttrs_list PySem.F.slot_list_clear PySem.F.type_list_clear mt_clear (pe_var (hN i) (hv i) hd hcd) (hbase i) hline) (hs i), fun b L F0 H0 ρ σ F H DD E S h q => ?_⟩
  obtain ⟨hm, h⟩ := h
  obtain ⟨xs0, e0⟩ := isM_of hm
  obtain ⟨l, vs0, es, eH, _⟩ := S.cell e0
  exact ⟨.ref l, es, .inl ⟨rfl, vs0, SqL.of eH⟩, l, vs0, rfl, rfl, eH, q.nx _ _ F _ (S.mut e0 es .nil) (Same.refl _) h⟩
theorem ds_reverse (K : PySem.W.Frag) (k : Nat) (hN : ∀ i, (𝒳 i).N[k]? = some x := by intro _; rfl) (hv : ∀ i, Vis (𝒳 i).env.scope x := by intro _; first | exact Or.inl rfl | exact Or.inr (Or.inl rfl) | exact Or.inr (Or.inr rfl)) (hK : ∀ i, (𝒳 i).K = K := by intro _; rfl)
    (hs : ∀ i, swapsWith (.Call (.Attribute (.Name x p) "reverse" apos) [] [] cpos) none pos.line (𝒳 i).env = pure false := by intro _; rfl)
    (hbase : ∀ i, attributeBase (.Name x p) "reverse" (𝒳 i).env (eval (.Name x p) (𝒳 i).env) = eval (.Name x p) (𝒳 i).env := by intro _; rfl) (hline : (apos.endLine == cpos.line) = true := by rfl)
    (hd : (x == ("__debug__" : Str)) = false := by decide) (hcd : (x == ("__classdict__" : Str)) = false := by decide) :
    DS ci 𝒳 (.Expr (.Call (.Attribute (.Name x p) "reverse" apos) [] [] cpos) pos) (fun DD ρ => ∃ xs, ρ[k]? = some (.m xs) ∧ DD.nx (ρ.set k (.m xs.reverse))) := by
  refine ⟨tDrop (tBM0 K "list" rReverse (tVar k)), fun i => ps_expr (by rw [← hK i]; exact pe_bm0 PySem.F.plainAttrs_list PySem.F.slot_list_reverse PySem.F.type_list_reverse mt_reverse (pe_var (hN i) (hv i) hd hcd) (hbase i) hline) (hs i), fun b L F0 H0 ρ σ F H DD E S h q => ?_⟩
  obtain ⟨xs, e0, h⟩ := h
  obtain ⟨l, vs0, es, eH, rv⟩ := S.cell e0
  exact ⟨.ref l, es, .inl ⟨rfl, vs0, SqL.of eH⟩, l, vs0, rfl, rfl, eH, q.nx _ _ F _ (S.mut e0 es rv.reverse) (Same.refl _) h⟩
end
end DL

/-! the data layer: loops whose body may raise -/
namespace DL
open PySem PySem.Spec PyProof.Rows L2 VL
open C8 (Cal Met)
theorem pi_nox {X : Cx} {tg iter : Expr} {wi : TI} (h : PI X.nox tg iter wi) : PI X tg iter wi := ⟨fun pins s σ H R I hw =>
  wpAny_mono (h.run pins s σ H R (I.wish _) hw) (fun v s1 q => wpAny_mono q (fun itv s2 ⟨it, fp, tn, J, H', e, I', T, t0, f, r⟩ => ⟨it, fp, tn, J, H', e, I'.unwish, T, t0, f, r⟩) fun _ _ z => False.elim z) fun _ _ z => False.elim z⟩
theorem pg_nox {X : Cx} {tg : Expr} {g : TG} (h : PG X.nox tg g) : PG X tg g := ⟨fun pins s σ H v u Q I r hw =>
  wpAny_mono (h.run pins s σ H v u Q (I.wish _) r hw) (fun _ _ ⟨σ', H', I', q⟩ => ⟨σ', H', I'.unwish, q⟩) fun _ _ z => False.elim z⟩
abbrev PassI {ι : Type} (𝒳 : ι → Cx) : Prop := ∀ i, PassesOwn (model (𝒳 i).prog (𝒳 i).w) (𝒳 i).A (𝒳 i).env (𝒳 i).xe
section
variable {ci : CI} {K : PySem.W.Frag} {ι : Type} {𝒳 : ι → Cx} {𝒲 : ι → WX} {a c e : Expr} {ta tb : TD} {pos : Pos} {st : Stmt} {rest sts sts' : List Stmt} {t u : TDSX}
def sCutX (t u : TDSX) : TDSX := fun DD X ρ => ∃ Mid : List Sl → Prop, t { DD with nx := Mid } X ρ ∧ ∀ ρ', Mid ρ' → u DD X ρ'
theorem dssx_cut (h1 : DSX ci 𝒳 𝒲 st t) (h2 : DSsX ci 𝒳 𝒲 rest u) : DSsX ci 𝒳 𝒲 (st :: rest) (sCutX t u) := by
  obtain ⟨t1, p1, q1⟩ := h1.ex
  obtain ⟨t2, p2, q2⟩ := h2.ex
  refine ⟨fun W => tSeq (t1 W) (t2 W), fun i => pss_cons (p1 i) (p2 i), fun W b L F0 H0 ρ σ F H DD X E S h q qx => ?_⟩
  obtain ⟨Mid, h, hm⟩ := h
  exact q1 W b L F0 H0 ρ σ F H _ X _ S h ⟨fun ρ' σ' F' H' S' s k => q2 W b L F0 H0 ρ' σ' F' H' DD X E S' (hm ρ' k) (q.mono s) (qx.mono s), q.bk, q.ct, q.rt⟩ qx
def sForX (ti : TDD) (g : TDG) (tb : TDSX) : TDSX := fun DD X ρ => ti ρ fun xs => ∃ I : Nat → List Sl → Prop, I 0 ρ ∧ (∀ i x ρ, xs[i]? = some x → I i ρ → g x ρ fun ρ' => tb { nx := I (i + 1), ct := I (i + 1), bk := DD.nx, rt := DD.rt } X ρ') ∧ ∀ ρ, I xs.length ρ → DD.nx ρ
theorem dsx_for {tg iter : Expr} {ti : TDD} {g : TDG} {vs : List Nat} {tb : TDSX} (hp : PassI 𝒳) (hc : ∀ i, (𝒳 i).calm = true) (hi : DI ci false (fun i => (𝒳 i).nox) tg iter ti) (hg : DG ci (fun i => (𝒳 i).nox) tg vs g) (hb : DSsX ci 𝒳 𝒲 sts tb)
    (hs : ∀ i x, foldedSetIterable iter (𝒳 i).env x = pure x := by intro _ _; rfl) : DSX ci 𝒳 𝒲 (.For tg iter sts [] pos) (sForX ti g tb) := by
  obtain ⟨wi, p1, h1⟩ := hi.ex
  obtain ⟨gg, p2, h2⟩ := hg.ex
  obtain ⟨tt, p3, h3⟩ := hb.ex
  refine ⟨fun W => tFor wi gg (tt W), fun i => ps_for (hp i) (hc i) (pi_nox (p1 i)) (pg_nox (p2 i)) (p3 i) (hs i), fun W b L F0 H0 ρ σ F H DD X E S h q qx => ?_⟩
  refine h1 b L F0 H0 ρ σ F H _ _ S h fun J H1 F1 xs G x1 wk stab k => ?_
  obtain ⟨I, k0, kt, kd⟩ := k
  refine ⟨fun i m σ H => m + i = xs.length ∧ ∃ ρ F2, StRep ci b L F0 H0 ρ σ F2 H ∧ Same F1 F2 ∧ I i ρ, ⟨xs.length, rfl, ρ, F1, S.go x1, Same.refl _, k0⟩, ?_⟩
  rintro i m σ2 H2 ⟨em, ρ2, F2, S2, s2, kk⟩
  have gG := stab F2 H2 S2.fr s2 (fun z => nomatch z)
  by_cases hi : i < xs.length
  · refine .inr ⟨wk.goes i H2 hi gG, fun σ H => ∃ ρ F2, StRep ci b L F0 H0 ρ σ F2 H ∧ Same F1 F2 ∧ I (i + 1) ρ, fun σ' H' p => ⟨m - 1, by omega, by omega, p⟩, fun v H3 y => ?_⟩
    obtain ⟨F3, x, x3, ex, rx⟩ := wk.yields i F2 H2 v H3 hi gG s2 S2.fr.s1 S2.fr.b1 y
    refine h2 b L F0 H0 ρ2 σ2 F3 H3 x v _ _ (S2.go x3) rx (kt i x ρ2 ex kk) fun ρ4 σ4 S4 _ k4 => ?_
    have s3 := s2.trans x3.ff
    refine h3 W b L F0 H0 ρ4 σ4 F3 H3 _ X _ S4 k4 ⟨fun ρ5 σ5 F5 H5 S5 s5 k5 => ⟨ρ5, F5, S5, s3.trans s5, k5⟩, fun ρ5 σ5 F5 H5 S5 s5 k5 => q.nx ρ5 σ5 F5 H5 S5 (x1.ff.trans (s3.trans s5)) k5, fun ρ5 σ5 F5 H5 S5 s5 k5 => ⟨ρ5, F5, S5, s3.trans s5, k5⟩, q.rt⟩ (qx.mono (x1.ff.trans s3))
  · have e : i = xs.length := by omega
    subst e
    exact .inl ⟨wk.stops H2 gG, q.nx ρ2 σ2 F2 H2 S2 (x1.ff.trans s2) (kd ρ2 kk)⟩
end
/-- in a def, an exception passes through a loop -/
theorem entP {P : Program} {w : World} {K : PySem.W.Frag} {mg : Str → Option Value} {base : Heap} {N : List Str} {k : Nat} {qual : Str} {sc : Scope} {f : Addr} : PassI (entE P w K mg base N k qual sc f) := fun _ => L2.passes_of rfl
section
variable {ci : CI} {K : PySem.W.Frag} {ι : Type} {𝒳 : ι → Cx} {o : Expr} {ta : TD} {apos pos : Pos}
/-- s.upper() -/
theorem de_upper (ho : DE ci 𝒳 o ta) (hbase : ∀ i, attributeBase o "upper" (𝒳 i).env (eval o (𝒳 i).env) = eval o (𝒳 i).env := by intro _; rfl) (hline : (apos.endLine == pos.line) = true := by rfl) :
    DE ci 𝒳 (.Call (.Attribute o "upper" apos) [] [] pos) (fun ρ R => ta ρ fun r => withV r fun x => ∃ s : Str, x = .str s ∧ s.length ≤ 1000000 ∧ R (.d (.str (Txt.upper s)))) := by
  obtain ⟨t1, p1, h1⟩ := ho.ex
  refine ⟨_, fun i => pe_upper (p1 i) (hbase i) hline, fun b L F0 H0 ρ σ F H R Q S h q => ?_⟩
  refine h1 b L F0 H0 ρ σ F H _ _ S h fun v H1 F1 r1 x1 rep1 _ k1 => ?_
  obtain ⟨x, rx, s, rfl, hz, k1⟩ := withV_of rep1 k1
  exact ⟨⟨s, rx.str⟩, s, rx.str, rfl, Nat.le_trans hz (by decide), q.d x1 (Rep.str _) k1⟩
end
section
variable {ci : CI} {K : PySem.W.Frag} {ι : Type} {𝒳 : ι → Cx} {a : Expr} {ta : TD} {lo hi : Option Expr} {tl th : TDO} {pos p2 : Pos}
/-- text[lo:hi] -/
theorem de_sliceS (ha : DE ci 𝒳 a ta) (hl : DO ci 𝒳 lo tl) (hh : DO ci 𝒳 hi th) : DE ci 𝒳 (.Subscript a (.Slice lo hi none p2) pos) (fun ρ R => ta ρ fun r => withV r fun x => tl ρ fun l => th ρ fun u => ∃ z : Str, x = .str z ∧ z.length ≤ 1000000 ∧ R (.d (.str (cutS z l u)))) := by
  obtain ⟨t1, p1, h1⟩ := ha.ex
  obtain ⟨t2, q2, h2⟩ := hl.ex
  obtain ⟨t3, q3, h3⟩ := hh.ex
  refine ⟨tSl rSlS t1 t2 t3, fun i => pe_slice L2.sl_str (p1 i) (q2 i) (q3 i), fun b L F0 H0 ρ σ F H R Q S h q => ?_⟩
  refine h1 b L F0 H0 ρ σ F H _ _ S h fun v H1 F1 r1 x1 rep1 _ k1 => ?_
  obtain ⟨x, rx, k1⟩ := withV_of rep1 k1
  refine h2 b L F0 H0 ρ σ F1 H1 _ _ (S.go x1) k1 fun o1 H2 F2 x2 k2 => ?_
  refine h3 b L F0 H0 ρ σ F2 H2 _ _ ((S.go x1).go x2) k2 fun o2 H3 F3 x3 k3 => ?_
  obtain ⟨z, rfl, hz, k3⟩ := k3
  exact ⟨z, rx.str, slen hz, q.d ((x1.trans x2).trans x3) (Rep.str _) k3⟩
end
theorem cut_take {xs : List D} {k : Nat} : cutD xs none (some (k : Int)) = xs.take k := by
  unfold cutD
  rw [HT.sIx_nat, HT.sIx_none, List.drop_zero, Nat.sub_zero]
  by_cases h : k ≤ xs.length
  · rw [Nat.min_eq_left h]
  · rw [List.take_of_length_le (by omega), List.take_of_length_le (by omega)]
theorem cut_drop {xs : List D} {k : Nat} : cutD xs (some (k : Int)) none = xs.drop k := by
  unfold cutD
  rw [HT.sIx_nat, HT.sIx_none]
  by_cases h : k ≤ xs.length
  · rw [Nat.min_eq_left h, List.take_of_length_le (by simp)]
  · rw [List.take_of_length_le (by simp), List.drop_of_length_le (by omega), List.drop_of_length_le (by omega)]
end DL

/-! {** a, ..}: displays that begin with a mapping -/
namespace VL
open PySem PySem.Spec PyProof.Rows
section
variable {prog : Program} {w : World} {κ : Type} [DecidableEq κ] {knd : KeyKind prog w κ} {A : Around} {E : Value → Shared → Prop} {s : Shared}
/-- an entry with its hash goes into a dict -/
theorem put_hashed {D : Addr} {ps : List (κ × Value)} {k : κ} {y v : Value} {Q : Unit → Shared → Prop} (hy : knd.is k y = true) (dd : s.heap.DictOf knd D ps) (z : ps.length ≤ sizeLine)
    (q : ∀ g, g.DictOf knd D (stored ps k v) → Heap.SameBut D s.heap g → Q () { s with heap := g }) : wpAny (model prog w) A (dictPut D (knd.hash k) y v) Q E s := by
  obtain ⟨ob, es, ep, at_, ex, da, ks, pr, nd⟩ := dd
  have le : es.size ≤ sizeLine := by
    rw [← Array.length_toList, pr.length]
    exact z
  have ix : (es.findIdx? fun e => knd.is k e.key) = ps.findIdx? fun p => decide (p.1 = k) := by
    rw [← pr.findIdx k]
    obtain ⟨l⟩ := es
    simp
  unfold dictPut
  refine wpAny_bind (wpAny_dictFind_of hy at_ da ks ?_)
  cases hi : es.findIdx? fun e => knd.is k e.key with
  | some i =>
    have yes := any_of_findIdx_some (ix ▸ hi)
    refine wpAny_updateDict at_ da (q _ ⟨_, _, ep, Heap.get?_update_self _ at_ (Obj.isFreed_of_dict (Obj.data_mapDict da _)), ex.mapDict _, Obj.data_mapDict da _, ks.modify _ _, ?_, ?_⟩ (Heap.SameBut.update ..))
    · unfold stored
      rw [if_pos yes]
      have fl : (es.toList.findIdx? fun e => knd.is k e.key) = some i := by
        rw [← hi]
        obtain ⟨l⟩ := es
        simp
      have m := pr.modify nd fl v
      obtain ⟨l⟩ := es
      simpa using m
    · unfold stored
      rw [if_pos yes, keys_map_store]
      exact nd
  | none =>
    have out : k ∉ ps.map (·.1) := not_mem_of_findIdx_none (ix ▸ hi)
    have no : ¬ (ps.any fun p => decide (p.1 = k)) = true := fun t => by
      obtain ⟨p, hp, e⟩ := List.any_eq_true.mp t
      exact out (List.mem_map.mpr ⟨p, hp, of_decide_eq_true e⟩)
    refine wpAny_updateDictKeys (hz := le) at_ da (q _ ⟨_, _, ep + 1, Heap.get?_update_self _ at_ (Obj.isFreed_of_dict (Obj.data_mapDictKeys da _)), ex.mapDictKeys _, Obj.data_mapDictKeys da _, ks.push hy _, ?_, ?_⟩ (Heap.SameBut.update ..))
    · unfold stored
      rw [if_neg no]
      have m := pr.append hy (knd.hash k) v
      obtain ⟨l⟩ := es
      simpa using m
    · unfold stored
      rw [if_neg no, List.map_append]
      refine List.nodup_append.mpr ⟨nd, by simp, fun x hx y hy2 e => out ?_⟩
      have e2 : y = k := by simpa using hy2
      rw [← e2, ← e]
      exact hx
/-- one dict merged into another -/
theorem merge_dict {D B : Addr} {ps rs : List (κ × Value)} {Q : Unit → Shared → Prop} (ne : D ≠ B) (sys : (B == sysModules) = false) (dD : s.heap.DictOf knd D ps) (dB : s.heap.DictOf knd B rs) (z : ps.length + rs.length ≤ sizeLine)
    (q : ∀ g, g.DictOf knd D (merged ps rs) → Heap.SameBut D s.heap g → Q () { s with heap := g }) : wpAny (model prog w) A (mergeMapping D (.ref B) false) Q E s := by
  obtain ⟨oD, esD, epD, atD, exD, daD, ksD, prD, ndD⟩ := id dD
  obtain ⟨oB, esB, epB, atB, exB, daB, ksB, prB, ndB⟩ := id dB
  have lenB : rs.length = esB.size := by rw [← prB.length, Array.length_toList]
  unfold mergeMapping
  refine wpAny_bind (wpAny_isInstance dB.typeIs isSubtype_dict_dict ?_)
  rw [if_pos rfl]
  refine wpAny_bind (wpAny_specialOf dB.typeIs F.slot_dict_iter.lookup ?_)
  refine wpAny_bind (wpAny_pure ?_)
  simp only [beq_self_eq_true]
  have rest : wpAny (model prog w) A (do
      let l0 ← dictEntries B
      let epoch ← dictEpoch B
      forIn (List.range l0.size) PUnit.unit fun i (_ : PUnit) => (do
        let l ← dictEntries B
        match l[i]? with
          | some e => do
            holding [e.key, e.val] (dictPut D e.hash e.key e.val)
            let ep ← dictEpoch B
            if (ep != epoch) = true then do
              (unsupported "dict.changed-during-merge" : Sem PUnit)
              pure (ForInStep.yield PUnit.unit)
            else pure (ForInStep.yield PUnit.unit)
          | _ => do
            (unsupported "dict.changed-during-merge" : Sem PUnit)
            pure (ForInStep.yield PUnit.unit) : Sem (ForInStep PUnit))
      pure ()) Q E s := by
    refine wpAny_bind (wpAny_dictEntries atB daB ?_)
    refine wpAny_bind (wpAny_dictEpoch atB daB ?_)
    refine wpAny_bind ?_
    rw [List.range_eq_range']
    refine wpAny_forIn_list _ (fun l _ t => ∃ g j, t = { s with heap := g } ∧ l = List.range' j (esB.size - j) ∧ j ≤ esB.size ∧ g.DictOf knd D (merged ps (rs.take j)) ∧ g.get? B = some oB ∧ Heap.SameBut D s.heap g) _ ?_ ?_ _ _
      ⟨s.heap, 0, rfl, by simp, Nat.zero_le _, by simpa [merged] using dD, atB, Heap.SameBut.refl _ _⟩
    · rintro x l _ _ ⟨g, j, rfl, el, hj, dg, ag, sg⟩
      have lt : j < esB.size := Nat.lt_of_le_of_ne hj fun e => by
        rw [e, Nat.sub_self] at el
        cases el
      rw [show esB.size - j = (esB.size - (j + 1)) + 1 by omega, List.range'_succ] at el
      obtain ⟨rfl, el⟩ := List.cons.inj el
      refine wpAny_bind (wpAny_dictEntries ag daB ?_)
      rw [Array.getElem?_eq_getElem lt]
      have lr : x < rs.length := by omega
      have er := List.getElem?_eq_getElem lr
      obtain ⟨hy, hv⟩ := prB.get? (e := esB[x]) (by simp [lt]) er
      obtain ⟨k2, hk2, hh⟩ := ksB esB[x] (Array.getElem_mem lt)
      have ek := knd.inj _ _ _ hk2 hy
      show wpAny _ _ (holding [esB[x].key, esB[x].val] (dictPut D esB[x].hash esB[x].key esB[x].val) >>= _) _ _ _
      rw [hh, ek, hv]
      have lm : (merged ps (rs.take x)).length ≤ sizeLine := by
        have a := merged_length_le ps (rs.take x)
        rw [List.length_take] at a
        omega
      refine wpAny_bind (wpAny_holding (put_hashed hy dg lm fun g2 d2 s2 => ?_))
      have a2 : g2.get? B = some oB := (s2.2 B (Ne.symm ne)).trans ag
      refine wpAny_bind (wpAny_dictEpoch a2 daB ?_)
      rw [if_neg (by simp)]
      exact wpAny_pure ⟨g2, x + 1, rfl, el, lt, by rw [merged_take_succ ps rs x rs[x] er]; exact d2, a2, sg.trans s2⟩
    · rintro _ _ ⟨g, j, rfl, el, hj, dg, ag, sg⟩
      have e : j = esB.size := Nat.le_antisymm hj (Nat.le_of_not_lt fun lt => by
        rw [show esB.size - j = (esB.size - (j + 1)) + 1 by omega, List.range'_succ] at el
        cases el)
      rw [e, ← lenB, List.take_length] at dg
      exact wpAny_pure (q g dg sg)
  rw [if_neg (by rw [sys]; exact Bool.false_ne_true)]
  refine wpAny_bind (wpAny_dictEntries atD daD ?_)
  by_cases emp : esD.isEmpty = true
  · rw [if_pos emp]
    refine wpAny_bind (wpAny_dictEntries atB daB ?_)
    refine wpAny_bind ?_
    refine MeetsSeq2.wpAny_forIn_array _ (fun l _ t => t = s ∧ ∀ e ∈ l, e ∈ esB.toList) _ ?_ ?_ _ _ ⟨rfl, fun _ h => h⟩
    · rintro e l _ _ ⟨rfl, he⟩
      obtain ⟨k, hk, _⟩ := ksB e (Array.mem_toList_iff.mp (he e List.mem_cons_self))
      have bv := knd.byValue _ _ hk
      have go : ∀ y : Value, carriedByValue y = true → ∀ a, y ≠ .ref a := fun y hy a e => by
        rw [e] at hy
        cases hy
      split
      · rename_i a ea
        exact absurd ea (go _ bv a)
      · exact wpAny_pure ⟨rfl, fun x hx => he x (List.mem_cons_of_mem _ hx)⟩
    · rintro _ _ ⟨rfl, _⟩
      exact rest
  · rw [if_neg emp]
    exact rest
end
section
variable {X : Cx} {d k v e : Expr} {td tk tv te : TE} {pos : Pos}
open L2
/-- {** a, k: v} -/
def tStar1 (td tk tv : TE) : TE := fun σ H Q => ∀ p, H p = none → td σ (upd H p (.dK [])) fun x H1 => ∃ a kvs, x = .ref a ∧ a ≠ p ∧ Rd H1 a (.dK kvs) ∧ H1 p = some (.dK []) ∧ kvs.length + 2 ≤ sizeLine ∧
  ∀ q, upd H1 p (.dK (mergeK [] kvs)) q = none → tk σ (upd (upd H1 p (.dK (mergeK [] kvs))) q (.dK [])) fun y H2 => tv σ H2 fun z H3 => H3 p = some (.dK (mergeK [] kvs)) ∧ H3 q = some (.dK []) ∧ ∃ k, y = kV k ∧ Q (.ref p) (upd (upd H3 q (.dK [(k, z)])) p (.dK (putK (mergeK [] kvs) k z)))
theorem pe_star1 (hd : PE X d td) (hk : PE X k tk) (hv : PE X v tv) : PE X (.Dict [none, some k] [d, v] pos) (tStar1 td tk tv) := by
  refine ⟨fun pins s σ H Q I h => ?_⟩
  rw [arm_eval_Dict]
  refine wpAny_bind (wpAny_standAt ?_)
  have items : (evalEachOpt [none, some k] X.env).zip ((evalEach [d, v] X.env).map fun v => do let x ← v; standAt pos; pure x) = [(none, do let x ← eval d X.env; standAt pos; pure x), (some (eval k X.env), do let x ← eval v X.env; standAt pos; pure x)] := rfl
  rw [items]
  unfold dictDisplay
  simp only [List.forIn_cons, List.forIn_nil]
  have nP := I.hok.fresh (Nat.le_refl s.heap.objs.size)
  have I1 := I.laid (a := s.heap.objs.size) (o := .dK []) (h' := s.heap.push { cls := .type "dict", data := .dict #[] }) (t' := s.toks) (fun _ _ q => Heap.get?_push_of_some _ q) (Nat.le_refl _) (dk_empty s.heap I.big)
  refine wpAny_bind (wpAny_bind (wpAny_bind ?_))
  rw [if_pos (show ([] : List (Sem Value × Sem Value)).isEmpty = true from rfl)]
  refine wpAny_pure ?_
  refine wpAny_bind (wpAny_alloc ?_)
  refine wpAny_bind (wpAny_holding (wpAny_bind (thn (hd.run pins _ σ _ _ I1 (h _ nP)) ?_)))
  rintro u s1 ⟨x, H1, I2, rx, a, kvs, rfl, ne, rd, eP, z, h⟩
  obtain rfl : u = Value.ref a := rx
  refine wpAny_bind (wpAny_standAt (wpAny_pure ?_))
  generalize s.heap.objs.size = p at *
  obtain ⟨z1, sy, vs, rel, dB⟩ := dk_rd I2.hok rd
  obtain ⟨z0, sp, vs0, r0, dP⟩ := dk_of I2.hok eP
  cases r0
  refine wpAny_bind (wpAny_onRaise (wpAny_tryCatch (wpAny_onRaise (wpAny_holding (merge_dict (Ne.symm ne) sy dP dB (by rw [List.length_nil, ← rel.length]; omega) fun g dg sg => ?_)))))
  have lm : (mergeK [] kvs).length ≤ kvs.length := by
    have h1 := length_mergeK kvs []
    rw [List.length_nil, Nat.zero_add] at h1
    exact h1
  have heP : ∃ o, g.get? p = some o := let ⟨o, _, _, ho, _⟩ := dg; ⟨o, ho⟩
  have relM : KV (mergeK [] kvs) (merged [] vs) := rel.merge .nil
  have I3 : Inv X pins σ (upd H1 p (.dK (mergeK [] kvs))) { s1 with heap := g, toks := s1.toks } := d_write I2 (by rw [eP]; exact True.intro) sg heP (dk_new (by omega) sp relM dg)
  refine wpAny_pure ?_
  refine wpAny_bind ?_
  refine wpAny_ite_split (fun hh => absurd hh (by simp)) (fun _ => ?_)
  refine wpAny_pure (wpAny_pure ?_)
  refine wpAny_bind ?_
  refine wpAny_ite_split (fun hh => absurd hh (by simp)) (fun _ => ?_)
  have nQ := I3.hok.fresh (Nat.le_refl _)
  have I4 := I3.laid (a := g.objs.size) (o := .dK []) (h' := g.push { cls := .type "dict", data := .dict #[] }) (t' := s1.toks) (fun _ _ q => Heap.get?_push_of_some _ q) (Nat.le_refl _) (dk_empty g I3.big)
  have lp : p < g.objs.size := Heap.lt_size heP.choose_spec
  refine wpAny_bind (wpAny_holding (wpAny_subDict (knd := mixKind X.prog X.w) (by simp) ?_))
  let Q' : List (V × V) → Hp → Prop := fun ps H3 => match ps with
    | [(y, z)] => H3 p = some (.dK (mergeK [] kvs)) ∧ H3 g.objs.size = some (.dK []) ∧ ∃ k, y = kV k ∧ Q (.ref p) (upd (upd H3 g.objs.size (.dK [(k, z)])) p (.dK (putK (mergeK [] kvs) k z)))
    | _ => False
  have hp : tPairs [(tk, tv)] σ (upd (upd H1 p (.dK (mergeK [] kvs))) g.objs.size (.dK [])) Q' := h _ nQ
  refine thn ((pps_cons (pos := pos) hk hv pps_nil).run pins _ σ _ Q' I4 hp) ?_
  rintro us s2 ⟨ps, H3, I5, rvv, hq⟩
  match ps, rvv, hq with
  | [(y, z)], rvv, ⟨e3, e4, k, ek, hq⟩ =>
    subst ek
    obtain ⟨rs, car, rk⟩ := carries_of (P := X.prog) (w := X.w) (kvs := [(k, z)]) rvv
    obtain ⟨zq, sq, vq, rq, dq⟩ := dk_of I5.hok e4
    cases rq
    have lr : rs.length = 1 := by
      have := rk.length
      simpa using this.symm
    refine ⟨rs, car, dq, fun g2 d2 s2' => ?_⟩
    have he2 : ∃ o, g2.get? g.objs.size = some o := let ⟨o, _, _, ho, _⟩ := d2; ⟨o, ho⟩
    have rk2 : KV [(k, z)] (merged [] rs) := rk.merge .nil
    have I6 := d_write (t' := s2.toks + us.length) I5 (by rw [e4]; exact True.intro) s2' he2 (dk_new (by rw [sizeLine_eq]; show 1 ≤ 16777216; decide) sq rk2 d2)
    have npq : p ≠ g.objs.size := Nat.ne_of_lt lp
    have e5 : upd H3 g.objs.size (.dK [(k, z)]) p = some (.dK (mergeK [] kvs)) := by rw [upd_ne npq]; exact e3
    obtain ⟨z5, s5, v5, r5, d5⟩ := dk_of I6.hok e5
    obtain ⟨z6, s6, v6, r6, d6⟩ := dk_of I6.hok (upd_same (H := H3) (a := g.objs.size) (o := .dK [(k, z)]))
    refine wpAny_bind (wpAny_onRaise (wpAny_holding (merge_dict npq s6 d5 d6 (by rw [← r5.length, ← r6.length]; show (mergeK [] kvs).length + 1 ≤ sizeLine; omega) fun g3 d3 s3 => ?_)))
    have he3 : ∃ o, g3.get? p = some o := let ⟨o, _, _, ho, _⟩ := d3; ⟨o, ho⟩
    have r7 : KV (putK (mergeK [] kvs) k z) (merged v5 v6) := r6.merge r5
    have I7 := d_write (t' := s2.toks + us.length) I6 (by rw [e5]; exact True.intro) s3 he3 (dk_new (by have := length_putK (mergeK [] kvs) k z; omega) s5 r7 d3)
    exact wpAny_pure (wpAny_pure ⟨.ref p, _, I7, rfl, hq⟩)
/-- {** a, ** b} -/
def tStar2 (td te : TE) : TE := fun σ H Q => ∀ p, H p = none → td σ (upd H p (.dK [])) fun x H1 => ∃ a kvs, x = .ref a ∧ a ≠ p ∧ Rd H1 a (.dK kvs) ∧ H1 p = some (.dK []) ∧
  te σ (upd H1 p (.dK (mergeK [] kvs))) fun y H2 => ∃ b more, y = .ref b ∧ b ≠ p ∧ Rd H2 b (.dK more) ∧ H2 p = some (.dK (mergeK [] kvs)) ∧ kvs.length + more.length ≤ sizeLine ∧ Q (.ref p) (upd H2 p (.dK (mergeK (mergeK [] kvs) more)))
theorem pe_star2 (hd : PE X d td) (he : PE X e te) : PE X (.Dict [none, none] [d, e] pos) (tStar2 td te) := by
  refine ⟨fun pins s σ H Q I h => ?_⟩
  rw [arm_eval_Dict]
  refine wpAny_bind (wpAny_standAt ?_)
  have items : (evalEachOpt [none, none] X.env).zip ((evalEach [d, e] X.env).map fun v => do let x ← v; standAt pos; pure x) = [(none, do let x ← eval d X.env; standAt pos; pure x), (none, do let x ← eval e X.env; standAt pos; pure x)] := rfl
  rw [items]
  unfold dictDisplay
  simp only [List.forIn_cons, List.forIn_nil]
  have nP := I.hok.fresh (Nat.le_refl s.heap.objs.size)
  have I1 := I.laid (a := s.heap.objs.size) (o := .dK []) (h' := s.heap.push { cls := .type "dict", data := .dict #[] }) (t' := s.toks) (fun _ _ q => Heap.get?_push_of_some _ q) (Nat.le_refl _) (dk_empty s.heap I.big)
  refine wpAny_bind (wpAny_bind (wpAny_bind ?_))
  rw [if_pos (show ([] : List (Sem Value × Sem Value)).isEmpty = true from rfl)]
  refine wpAny_pure ?_
  refine wpAny_bind (wpAny_alloc ?_)
  refine wpAny_bind (wpAny_holding (wpAny_bind (thn (hd.run pins _ σ _ _ I1 (h _ nP)) ?_)))
  rintro u s1 ⟨x, H1, I2, rx, a, kvs, rfl, ne, rd, eP, h⟩
  obtain rfl : u = Value.ref a := rx
  refine wpAny_bind (wpAny_standAt (wpAny_pure ?_))
  generalize s.heap.objs.size = p at *
  obtain ⟨z1, sy, vs, rel, dB⟩ := dk_rd I2.hok rd
  obtain ⟨z0, sp, vs0, r0, dP⟩ := dk_of I2.hok eP
  cases r0
  refine wpAny_bind (wpAny_onRaise (wpAny_tryCatch (wpAny_onRaise (wpAny_holding (merge_dict (Ne.symm ne) sy dP dB (by rw [List.length_nil, ← rel.length]; omega) fun g dg sg => ?_)))))
  have lm : (mergeK [] kvs).length ≤ kvs.length := by
    have h1 := length_mergeK kvs []
    rw [List.length_nil, Nat.zero_add] at h1
    exact h1
  have heP : ∃ o, g.get? p = some o := let ⟨o, _, _, ho, _⟩ := dg; ⟨o, ho⟩
  have relM : KV (mergeK [] kvs) (merged [] vs) := rel.merge .nil
  have I3 : Inv X pins σ (upd H1 p (.dK (mergeK [] kvs))) { s1 with heap := g, toks := s1.toks } := d_write I2 (by rw [eP]; exact True.intro) sg heP (dk_new (by omega) sp relM dg)
  refine wpAny_pure ?_
  refine wpAny_bind (wpAny_bind ?_)
  refine wpAny_ite_split (fun _ => ?_) (fun hh => absurd rfl hh)
  refine wpAny_pure ?_
  refine wpAny_bind (wpAny_pure ?_)
  refine wpAny_bind (wpAny_holding (wpAny_bind (thn (he.run pins _ σ _ _ I3 h) ?_)))
  rintro u2 s2 ⟨x2, H2, I4, rx2, b, more, rfl, ne2, rd2, eP2, z, hq⟩
  obtain rfl : u2 = Value.ref b := rx2
  refine wpAny_bind (wpAny_standAt (wpAny_pure ?_))
  obtain ⟨z3, sy2, vs2, rel2, dB2⟩ := dk_rd I4.hok rd2
  obtain ⟨z4, sp2, vs3, r3, dP2⟩ := dk_of I4.hok eP2
  refine wpAny_bind (wpAny_onRaise (wpAny_tryCatch (wpAny_onRaise (wpAny_holding (merge_dict (Ne.symm ne2) sy2 dP2 dB2 (by rw [← r3.length, ← rel2.length]; omega) fun g2 dg2 sg2 => ?_)))))
  have heP2 : ∃ o, g2.get? p = some o := let ⟨o, _, _, ho, _⟩ := dg2; ⟨o, ho⟩
  have relM2 : KV (mergeK (mergeK [] kvs) more) (merged vs3 vs2) := rel2.merge r3
  have I5 := d_write (t' := s2.toks) I4 (by rw [eP2]; exact True.intro) sg2 heP2 (dk_new (by have := length_mergeK more (mergeK [] kvs); omega) sp2 relM2 dg2)
  refine wpAny_pure (wpAny_pure ?_)
  refine wpAny_bind ?_
  refine wpAny_ite_split (fun _ => ?_) (fun hh => absurd rfl hh)
  exact wpAny_pure (wpAny_pure ⟨.ref p, _, I5, rfl, hq⟩)
end
end VL

/-! tuple(d): the keys -/
namespace VL
open PySem PySem.Spec PyProof.Rows L2
section
variable {prog : Program} {w : World} {κ : Type} [DecidableEq κ] {knd : KeyKind prog w κ} {A : Around} {E : Value → Shared → Prop} {s : Shared} {d : Addr} {ps : List (κ × Value)} {ep : Nat}
abbrev KeyAt (knd : KeyKind prog w κ) (ps : List (κ × Value)) : Nat → Value → Prop := fun i v => ∃ k x, ps[i]? = some (k, x) ∧ knd.is k v = true
theorem gather_dict {Q : List Value → Shared → Prop} (hh : A.handled = none) (lo : (d == sysModules) = false) (at_ : s.heap.DictAt knd d ps ep) (z : ps.length ≤ sizeLine)
    (q : ∀ (g : Heap) (tk : Nat) (acc : Array Value), (∀ c o, s.heap.get? c = some o → g.get? c = some o) → ItemsOf (KeyAt knd ps) acc ps.length → Q acc.toList { s with heap := g, toks := tk }) :
    wpAny (model prog w) A (collect (.ref d)) Q E s := by
  have src := PySem.W.kdl_dict (prog := prog) (w := w) (knd := knd) (kvs := ps) (ep := ep) lo
  unfold collect
  refine wpAny_bind (wpAny_runValue (codeAny_builtin F.entry_proto_collect ?_))
  rw [Around.under_plainId F.plain_proto_collect _]
  refine wpAny_bind (wpAny_newObj_type (wpAny_pure ⟨plainId_quiet F.plain_list_iadd _, codeAny_builtin F.entry_list_iadd ?_⟩))
  rw [Around.under_plainId F.plain_list_iadd _]
  have lt := at_.lt_size
  have there := src.keep _ (s.heap.push { cls := .type "list", data := .seq ([] : List Value).toArray }) at_ fun c _ o e => Heap.get?_push_of_some _ e
  have new : (s.heap.push { cls := .type "list", data := .seq ([] : List Value).toArray }).get? s.heap.objs.size = some { cls := .type "list", data := .seq #[] 0 } := Heap.get?_push_size _ rfl
  refine wpAny_mono (PySem.W.kdl_extend (A := A) (R := fun rr t => rr = .ok (.ret (.ref s.heap.objs.size)) ∧ ∃ (g : Heap) (tk : Nat) (acc : Array Value) (c : Nat), t = { s with heap := g, toks := tk } ∧
      (∀ c o, s.heap.get? c = some o → g.get? c = some o) ∧ g.get? s.heap.objs.size = some { cls := .type "list", dict := none, data := .seq acc c, slots := #[] } ∧ ItemsOf (KeyAt knd ps) acc ps.length)
    (s := { s with heap := s.heap.push { cls := .type "list", data := .seq ([] : List Value).toArray } }) src hh there s.heap.objs.size (Nat.ne_of_gt lt) (Nat.ne_of_gt lt) (.ref s.heap.objs.size) 0 new
    (fun g tk acc c hk e hi => ⟨rfl, g, tk, acc, c, rfl, fun x o h => hk x o (Nat.ne_of_lt (Heap.lt_size h)) (Heap.get?_push_of_some _ h), e, hi⟩) z) (fun fin t h => ?_) fun e t h => absurd h.1 (by simp)
  cases fin with
  | again c2 =>
    refine ⟨h.1, codeAny_mono h.2 fun rr u hu => ?_⟩
    obtain ⟨rfl, g, tk, acc, c, rfl, hk, new2, hi⟩ := hu
    show wpAny _ A (load s.heap.objs.size >>= _) _ _ _
    exact wpAny_bind (wpAny_load new2 (wpAny_pure (q g tk acc hk hi)))
  | done f =>
    obtain ⟨e0, g, tk, acc, c, rfl, hk, new2, hi⟩ := h
    cases e0
    show wpAny _ A (load s.heap.objs.size >>= _) _ _ _
    exact wpAny_bind (wpAny_load new2 (wpAny_pure (q g tk acc hk hi)))
theorem tuple_dict {Q : Value → Shared → Prop} (hh : A.handled = none) (lo : (d == sysModules) = false) (at_ : s.heap.DictAt knd d ps ep) (z : ps.length ≤ sizeLine)
    (q : ∀ (g : Heap) (tk : Nat) (acc : Array Value), (∀ c o, s.heap.get? c = some o → g.get? c = some o) → ItemsOf (KeyAt knd ps) acc ps.length → Q (.ref g.objs.size) { s with heap := g.push { cls := .type "tuple", data := .seq acc }, toks := tk }) :
    wpAny (model prog w) A (call (.type "tuple") [.ref d]) Q E s := by
  refine callType_codes (Q₁ := fun x t => t.TypeIs x "tuple" ∧ Q x t) F.called_tuple (F.typeCall_tuple_1 _) F.entry_object_init (codeAny_of_tree ?_) fun x t h => ?_
  · refine wpAny_bind (wpAny_of_eq (F.newCall_tuple_1 _) (wpAny_pure ⟨plainId_quiet F.plain_tuple_new _, codeAny_builtin F.entry_tuple_new ?_⟩))
    rw [Around.under_plainId F.plain_tuple_new _]
    have r1 := sub_tuple_self
    have r2 := init_tuple_lookup
    have r3 := madeHere_tuple
    have ty : s.TypeIs (.ref d) "dict" := at_.dictOf.typeIs
    have cold : A.in1.in1.handled = none := hh
    wp_walk using wpAny_typeOf ty, gather_dict (A := A.in1.in1) cold lo at_ z
    intro g tk acc hk hi
    show wpAny _ _ (Builtin.Tuple.tupleExact acc.toList.toArray >>= fun v => ret v) _ _ _
    have ea : acc.toList.toArray = acc := by simp
    rw [ea]
    unfold Builtin.Tuple.tupleExact
    refine wpAny_bind (wpAny_newObj_type ?_ (by show acc.size ≤ sizeLine; rw [hi.1]; exact z))
    exact wpAny_pure ⟨⟨_, Heap.get?_push_size _ rfl, rfl⟩, q g tk acc hk hi⟩
  · exact ⟨h.1, F.args_object_init_2 x _, object_init_meets F.called_tuple.init.lookup F.called_tuple.made (by decide) prog w A.in1 _ t ⟨h.1, rfl, h.2⟩⟩
end
/-- tuple(d) -/
theorem call_tupD {X : Cx} (calm : X.calm = true) : CallR X (.type "tuple") (fun us H Q => ∃ (a : Addr) (kvs : List (Key × V)), us = [.ref a] ∧ Rd H a (.dK kvs) ∧ ∀ p, H p = none → Q (.ref p) (upd H p (.tup (kvs.map fun kv => kV kv.1)))) := by
  intro pins s σ H xs us Q I r h
  obtain ⟨a, kvs, rfl, hd, q⟩ := h
  obtain ⟨u, rfl, ru⟩ := vals1 r
  cases ru
  obtain ⟨z, lo, vs, rel, dd⟩ := dk_rd I.hok hd
  obtain ⟨ep, at_⟩ := dd.dictAt
  have ek : (kvs.map fun kv => kV kv.1) = vs.map fun p => kV p.1 := by
    have e := congrArg (List.map kV) rel.keys
    rwa [List.map_map, List.map_map] at e
  refine tuple_dict (I.ok.hd calm) lo at_ (by rw [← rel.length]; exact z) fun g tk acc hk hi => ?_
  have hv : Vals (vs.map fun p => kV p.1) acc.toList := keys_at (by rw [Array.length_toList]; exact hi.1) fun j v e => hi.2 j v (by rw [← Array.getElem?_toList]; exact e)
  have I1 : Inv X pins σ H { s with heap := g, toks := tk } := I.kept (t' := tk) hk
  have I2 : Inv X pins σ (upd H g.objs.size (.tup (kvs.map fun kv => kV kv.1))) { s with heap := g.push { cls := .type "tuple", data := .seq acc }, toks := tk } :=
    I1.laid (t' := tk) (fun b o e => Heap.get?_push_of_some _ e) (Nat.le_refl _) (show ObjOk X.prog X.w _ _ _ (.tup (kvs.map fun kv => kV kv.1)) from ⟨by rw [List.length_map]; exact z, acc.toList, by rw [ek]; exact hv, by rw [Array.toArray_toList]; exact IsTup.new _ _⟩)
  exact ⟨.ref g.objs.size, _, I2, rfl, q _ (I1.hok.fresh (Nat.le_refl _))⟩
end VL

/-! the data layer: dicts that do not change once they are made -/
namespace DL
open PySem PySem.Spec PyProof.Rows L2 VL
open C8 (Cal Met)
section
variable {ci : CI} {b L : Addr} {F H F' H' F2 H2 : Hp}
/-- one's own object is written -/
theorem Fr.wr (x : Fr b L F H F' H') {p : Addr} (o : HO) (h : H p = none) (n : F' p = none) (B : p ≠ b ∧ p ≠ L) : Fr b L F H F' (upd H' p o) := by
  refine ⟨x.ff, fun a u ne e => ?_, x.nw, x.s0, fun a u e => ?_, x.b0, ?_⟩
  · rw [upd_ne fun z => by rw [z, h] at e; cases e]
    exact x.hh a u ne e
  · rw [upd_ne fun z => by rw [z, n] at e; cases e]
    exact x.s1 a u e
  · exact x.b1.upd B.1 B.2
end
def kyD : Key → D
  | .inl i => .int i
  | .inr s => .str s
theorem kyD_V {ci : CI} {F : Hp} {k : Key} {v : V} (h : Rep ci F (kyD k) v) : v = kV k := by
  cases k with
  | inl i => cases (show Rep ci F (.int i) v from h); rfl
  | inr s => cases (show Rep ci F (.str s) v from h); rfl
theorem valV_none {α : Type} {kvs : List (Key × α)} {k : Key} (h : k ∉ kvs.map (·.1)) : (kvs.any fun kv => decide (kv.1 = k)) = false := by
  rw [List.any_eq_false]
  intro p hp e
  exact h (List.mem_map.mpr ⟨p, hp, of_decide_eq_true e⟩)
theorem putK_fresh {kvs : List (Key × V)} {k : Key} {v : V} (h : k ∉ kvs.map (·.1)) : putK kvs k v = kvs ++ [(k, v)] := by
  unfold putK
  rw [if_neg (by rw [valV_none h]; exact Bool.false_ne_true)]
theorem mergeK_fresh : ∀ (more kvs : List (Key × V)), ((kvs ++ more).map (·.1)).Nodup → mergeK kvs more = kvs ++ more
  | [], kvs, _ => (List.append_nil _).symm
  | p :: r, kvs, h => by
    have h2 : p.1 ∉ kvs.map (·.1) := fun z => by
      rw [List.map_append, List.map_cons] at h
      exact (List.nodup_append.mp h).2.2 _ z _ List.mem_cons_self rfl
    show mergeK (putK kvs p.1 p.2) r = _
    rw [putK_fresh h2, mergeK_fresh r _ (by rw [List.append_assoc]; exact h), List.append_assoc]
    rfl
/-! what stands at a key -/
def memK (k : Key) (ks : List Key) : Bool := ks.any fun x => decide (x = k)
theorem memK_iff {k : Key} {ks : List Key} : memK k ks = true ↔ k ∈ ks := by
  unfold memK
  rw [List.any_eq_true]
  exact ⟨fun ⟨x, h, e⟩ => of_decide_eq_true e ▸ h, fun h => ⟨k, h, decide_eq_true rfl⟩⟩
theorem memK_cons {k j : Key} {ks : List Key} : memK j (k :: ks) = (decide (k = j) || memK j ks) := rfl
def lookK : List Key → List D → Key → Option D
  | k :: ks, x :: xs, j => if k = j then some x else lookK ks xs j
  | _, _, _ => none
theorem zip_keys {α : Type} : ∀ {ks : List Key} {vs : List α}, ks.length = vs.length → (ks.zip vs).map (·.1) = ks
  | [], [], _ => rfl
  | k :: ks, v :: vs, h => by
    show k :: (ks.zip vs).map (·.1) = k :: ks
    rw [zip_keys (Nat.succ.inj h)]
theorem zip_vals {α : Type} : ∀ {ks : List Key} {vs : List α}, ks.length = vs.length → (ks.zip vs).map (·.2) = vs
  | [], [], _ => rfl
  | k :: ks, v :: vs, h => by
    show v :: (ks.zip vs).map (·.2) = v :: vs
    rw [zip_vals (Nat.succ.inj h)]
theorem valV_some {ci : CI} {F : Hp} : ∀ {ks : List Key} {xs : List D} {vs : List V} {j : Key}, Reps ci F xs vs → ks.length = vs.length → (∀ y, lookK ks xs j = some y → ∃ u, valV (ks.zip vs) j = some u ∧ Rep ci F y u) ∧ ((valV (ks.zip vs) j).isSome = memK j ks)
  | [], [], [], j, _, _ => ⟨(fun y h => by cases h), rfl⟩
  | k :: ks, x :: xs, v :: vs, j, r, l => by
    have r1 : Rep ci F x v := r.2 0 x v rfl rfl
    have r2 : Reps ci F xs vs := ⟨by have := r.1; simpa using this, fun i y w a b => r.2 (i + 1) y w (by simpa using a) (by simpa using b)⟩
    obtain ⟨h1, h2⟩ := valV_some (j := j) r2 (Nat.succ.inj l)
    by_cases e : k = j
    · have e1 : valV ((k :: ks).zip (v :: vs)) j = some v := valV_pos e
      rw [e1]
      refine ⟨fun y h => ?_, by rw [memK_cons, decide_eq_true e]; rfl⟩
      have h : (if k = j then some x else lookK ks xs j) = some y := h
      rw [if_pos e] at h
      cases h
      exact ⟨v, rfl, r1⟩
    · have e1 : valV ((k :: ks).zip (v :: vs)) j = valV (ks.zip vs) j := valV_neg e
      rw [e1, h2]
      refine ⟨fun y h => ?_, by rw [memK_cons, decide_eq_false e]; rfl⟩
      have h : (if k = j then some x else lookK ks xs j) = some y := h
      rw [if_neg e] at h
      exact h1 y h
  | [], _ :: _, [], _, r, _ => by have := r.1; simp at this
  | _ :: _, [], _ :: _, _, r, _ => by have := r.1; simp at this
def rInK (neg : Bool) : R2 := fun y x H Q => ∃ a kvs k, x = .ref a ∧ Rd H a (.dK kvs) ∧ y = kV k ∧ Q (.bl (if neg then !(valV kvs k).isSome else (valV kvs k).isSome)) H
def rIxK : R2 := fun x y H Q => ∃ a kvs k v, x = .ref a ∧ Rd H a (.dK kvs) ∧ y = kV k ∧ valV kvs k = some v ∧ Q v H
theorem op_inK2 {X : Cx} {j : Nat} (hr : Room j X.A) : OpR X (compareOp .In) (rInK false) := by
  intro pins s σ H y x u v Q I ry rx h
  obtain ⟨a, kvs, k, rfl, hd, rfl, q⟩ := h
  obtain rfl : v = Value.ref a := rx
  exact d_in (by have := hr.un; omega) I (.inl ⟨kvs, k, hd, rfl, rfl⟩) ry fun s' I' => ⟨.bl (valV kvs k).isSome, H, I', rfl, q⟩
theorem op_notInK2 {X : Cx} {j : Nat} (hr : Room j X.A) : OpR X (compareOp .NotIn) (rInK true) := by
  intro pins s σ H y x u v Q I ry rx h
  obtain ⟨a, kvs, k, rfl, hd, rfl, q⟩ := h
  obtain rfl : v = Value.ref a := rx
  exact d_notIn (by have := hr.un; omega) I (.inl ⟨kvs, k, hd, rfl, rfl⟩) ry fun s' I' => ⟨.bl (!(valV kvs k).isSome), H, I', rfl, q⟩
theorem ix_K {X : Cx} {j : Nat} (hr : Room j X.A) : IxR X rIxK := by
  intro value slice pins s σ H x y v u Q I rx ry h hs
  obtain ⟨a, kvs, k, z, rfl, hd, rfl, e, q⟩ := h
  obtain rfl : v = Value.ref a := rx
  have g : DGet H a (kV k) (some z) := .inl ⟨kvs, k, hd, rfl, e.symm⟩
  exact tail_any (dict_typeIs I g) PySem.F.slot_dict_getitem.lookup (d_getItem (by have := hr.un; omega) I g ry fun w' s' I' r => ⟨z, H, I', r, q⟩) hs
def inDF (neg : Bool) : F2 := fun y x R => ∃ ks xs k, x = .dct ks xs ∧ y = kyD k ∧ R (.d (.bl (if neg then !memK k ks else memK k ks)))
def ixDF : F2 := fun x y R => ∃ ks xs k z, x = .dct ks xs ∧ y = kyD k ∧ lookK ks xs k = some z ∧ R (.d z)
section
variable {ci : CI}
theorem vr_dct {b : Addr} {F H : Hp} {ks : List Key} {xs : List D} {v : V} (h : VR ci b F H (.dct ks xs) v) : ∃ a vs, v = .ref a ∧ F a = some (.dK (ks.zip vs)) ∧ ks.length = vs.length ∧ Reps ci F xs vs := by
  rcases h with h | ⟨_, _, _, z, _⟩
  · cases h with
    | dct h lf l r => exact ⟨_, _, rfl, h, lf, l, r⟩
  · cases z
theorem vr_ky {b : Addr} {F H : Hp} {k : Key} {v : V} (h : VR ci b F H (kyD k) v) : v = kV k := by
  rcases h with h | ⟨_, _, _, z, _⟩
  · exact kyD_V h
  · cases k <;> cases z
theorem bin_inD (neg : Bool) : Bin ci (rInK neg) (inDF neg) := by
  rintro b L F H y x v u R Q fr hy hx ⟨ks, xs, k, rfl, rfl, kk⟩ q
  obtain ⟨a, vs, rfl, h1, h2, h3⟩ := vr_dct hx
  refine ⟨a, _, k, rfl, .inl (fr.s1 _ _ h1), vr_ky hy, q.d fr (Rep.bl _) ?_⟩
  rw [(valV_some h3 h2).2]
  exact kk
theorem bin_ixD : Bin ci rIxK ixDF := by
  rintro b L F H x y v u R Q fr hx hy ⟨ks, xs, k, z, rfl, rfl, hz, kk⟩ q
  obtain ⟨a, vs, rfl, h1, h2, h3⟩ := vr_dct hx
  obtain ⟨w, e, rw'⟩ := (valV_some h3 h2).1 z hz
  exact ⟨a, _, k, w, rfl, .inl (fr.s1 _ _ h1), vr_ky hy, e, q.d fr rw' kk⟩
variable {ι : Type} {𝒳 : ι → Cx} {a c e k v : Expr} {ta tb tk tv : TD} {pos p : Pos} {j : Nat}
theorem de_inD (hr : ∀ i, Room j (𝒳 i).A) (ha : DE ci 𝒳 a ta) (hc : DE ci 𝒳 c tb) (hm : behindInMarks .In c = false := by with_unfolding_all rfl) : DE ci 𝒳 (.Compare a [.In] [c] pos) (dBin (inDF false) ta tb) := de_cmp (fun i => op_inK2 (hr i)) (bin_inD false) ha hc hm
theorem dt_inD (hr : ∀ i, Room j (𝒳 i).A) (ha : DE ci 𝒳 a ta) (hc : DE ci 𝒳 c tb) (hm : behindInMarks .In c = false := by with_unfolding_all rfl) : DT ci 𝒳 (.Compare a [.In] [c] pos) (dB (dBin (inDF false) ta tb)) := dt_cmp (fun i => op_inK2 (hr i)) (bin_inD false) ha hc hm
theorem dt_notInD (hr : ∀ i, Room j (𝒳 i).A) (ha : DE ci 𝒳 a ta) (hc : DE ci 𝒳 c tb) (hm : behindInMarks .NotIn c = false := by with_unfolding_all rfl) : DT ci 𝒳 (.Compare a [.NotIn] [c] pos) (dB (dBin (inDF true) ta tb)) := dt_cmp (fun i => op_notInK2 (hr i)) (bin_inD true) ha hc hm
theorem de_itemD (hr : ∀ i, Room j (𝒳 i).A) (ha : DE ci 𝒳 a ta) (hc : DE ci 𝒳 c tb) (hs : PlainIx c := by exact fun _ _ => rfl) : DE ci 𝒳 (.Subscript a c pos) (dBin ixDF ta tb) := de_ix (fun i => ix_K (hr i)) bin_ixD ha hc hs
/-- {} -/
theorem de_dnew : DE ci 𝒳 (.Dict [] [] pos) (fun _ R => R (.d (.dct [] []))) := by
  refine ⟨tDNewK, fun i => pe_dnewK, fun b L F0 H0 ρ σ F H R Q S h q => fun p hp => ?_⟩
  have S1 := S.rf
  have x := Fr.new S1.s1 S1.b1 (.dK []) hp
  exact q.d x (.dct (ks := []) (vs := []) upd_same rfl rfl fun i y w e => by simp at e) h
/-- {** a, k: v}, k new -/
def dStar1 (ta tk tv : TD) : TD := fun ρ R => ta ρ fun r => withD r fun x => ∃ ks xs, x = .dct ks xs ∧ ks.length ≤ 1000000 ∧ ks.Nodup ∧ tk ρ fun r2 => withD r2 fun y => ∃ k, y = kyD k ∧ k ∉ ks ∧ tv ρ fun r3 => withD r3 fun z => R (.d (.dct (ks ++ [k]) (xs ++ [z])))
theorem de_star1 (ha : DE ci 𝒳 a ta) (hk : DE ci 𝒳 k tk) (hv : DE ci 𝒳 v tv) : DE ci 𝒳 (.Dict [none, some k] [a, v] pos) (dStar1 ta tk tv) := by
  obtain ⟨t1, p1, h1⟩ := ha.ex
  obtain ⟨t2, p2, h2⟩ := hk.ex
  obtain ⟨t3, p3, h3⟩ := hv.ex
  refine ⟨tStar1 t1 t2 t3, fun i => pe_star1 (p1 i) (p2 i) (p3 i), fun b L F0 H0 ρ σ F H R Q S h q p hp => ?_⟩
  have S1 := S.rf
  have x0 := Fr.tmp S1.s1 S1.b1 (.dK []) hp
  have B := S1.b1.new hp
  have Fp := same_free S1.s1 hp
  refine h1 b L F0 H0 ρ σ F _ _ _ (S.go x0) h fun va H1 F1 r1 x1 rep1 f1 k1 => ?_
  obtain ⟨x, F2, y1, s12, rx, ks, xs, rfl, lk, nd, k1⟩ := withD_of x1 rep1 f1 k1
  obtain ⟨ad, vs, rfl, g1, g2, g3⟩ : ∃ ad vs, va = .ref ad ∧ F2 ad = some (.dK (ks.zip vs)) ∧ ks.length = vs.length ∧ Reps ci F2 xs vs := by
    cases rx with
    | dct h lf l r => exact ⟨_, _, rfl, h, lf, l, r⟩
  have Np : F2 p = none := y1.no Fp upd_same
  have np : ad ≠ p := fun z => by
    rw [z, Np] at g1
    cases g1
  have e1 : H1 p = some (.dK []) := y1.hh p _ B.1 upd_same
  have em : mergeK [] (ks.zip vs) = ks.zip vs := mergeK_fresh _ _ (by rw [List.nil_append, zip_keys g2]; exact nd)
  refine ⟨ad, ks.zip vs, rfl, np, .inl (y1.s1 _ _ g1), e1, by rw [List.length_zip, ← g2, Nat.min_self]; exact Nat.le_trans (Nat.add_le_add_right lk 2) (by decide), fun t ht => ?_⟩
  rw [em] at ht ⊢
  have w1 : Fr b L F H F2 (upd H1 p (.dK (ks.zip vs))) := (x0.trans y1).wr _ hp Np B
  have ntp : t ≠ p := fun z => by
    rw [z, upd_same] at ht
    cases ht
  have Bt := w1.b1.new ht
  have Ht := w1.free ht
  have Nt := same_free w1.s1 ht
  have x2 := Fr.tmp w1.s1 w1.b1 (.dK []) ht
  have w2 := w1.trans x2
  refine h2 b L F0 H0 ρ σ F2 _ _ _ (S.go w2) k1 fun vk H2 F3 r2 x3 rep2 f2 k2 => ?_
  obtain ⟨y, F4, y3, s34, ry, k, rfl, nk, k2⟩ := withD_of x3 rep2 f2 k2
  have w3 := w2.trans y3
  refine h3 b L F0 H0 ρ σ F4 H2 _ _ (S.go w3) k2 fun vz H3 F5 r3 x4 rep3 f3 k3 => ?_
  obtain ⟨z, F6, y4, s56, rz, k3⟩ := withD_of x4 rep3 f3 k3
  have w4 := w3.trans y4
  have yy := y3.trans y4
  have o1 : upd (upd H1 p (.dK (ks.zip vs))) t (.dK []) p = some (.dK (ks.zip vs)) := by rw [upd_ne ntp.symm, upd_same]
  have e3 : H3 p = some (.dK (ks.zip vs)) := yy.hh p _ B.1 o1
  have e4 : H3 t = some (.dK []) := yy.hh t _ Bt.1 upd_same
  have N6p : F6 p = none := yy.no Np o1
  have N6t : F6 t = none := yy.no Nt upd_same
  have nk2 : k ∉ (ks.zip vs).map (·.1) := by rw [zip_keys g2]; exact nk
  refine ⟨e3, e4, k, kyD_V ry, ?_⟩
  rw [putK_fresh nk2]
  have w5 := ((w4.wr (.dK [(k, vz)]) Ht N6t Bt).wr (.dK (ks.zip vs ++ [(k, vz)])) hp N6p B).frz hp N6p upd_same
  have ez : ks.zip vs ++ [(k, vz)] = (ks ++ [k]).zip (vs ++ [vz]) := by rw [List.zip_append g2]; rfl
  rw [ez] at w5 ⊢
  have sf : Same F6 (upd F6 p (.dK ((ks ++ [k]).zip (vs ++ [vz])))) := same_upd N6p
  have g6 : Reps ci F6 xs vs := g3.mono yy.ff
  have g7 : Reps ci F6 (xs ++ [z]) (vs ++ [vz]) := g6.append (.cons rz .nil)
  have g8 := g7.mono sf
  exact q.d w5 (.dct upd_same (by simp [g2]) g8.1 g8.2) k3
/-- {** a, ** b}, no key in both -/
def dStar2 (ta tb : TD) : TD := fun ρ R => ta ρ fun r => withD r fun x => ∃ ks xs, x = .dct ks xs ∧ ks.length ≤ 1000000 ∧ tb ρ fun r2 => withD r2 fun y => ∃ ls ys, y = .dct ls ys ∧ ls.length ≤ 1000000 ∧ (ks ++ ls).Nodup ∧ R (.d (.dct (ks ++ ls) (xs ++ ys)))
theorem de_star2 (ha : DE ci 𝒳 a ta) (hc : DE ci 𝒳 c tb) : DE ci 𝒳 (.Dict [none, none] [a, c] pos) (dStar2 ta tb) := by
  obtain ⟨t1, p1, h1⟩ := ha.ex
  obtain ⟨t2, p2, h2⟩ := hc.ex
  refine ⟨tStar2 t1 t2, fun i => pe_star2 (p1 i) (p2 i), fun b L F0 H0 ρ σ F H R Q S h q p hp => ?_⟩
  have S1 := S.rf
  have x0 := Fr.tmp S1.s1 S1.b1 (.dK []) hp
  have B := S1.b1.new hp
  have Fp := same_free S1.s1 hp
  refine h1 b L F0 H0 ρ σ F _ _ _ (S.go x0) h fun va H1 F1 r1 x1 rep1 f1 k1 => ?_
  obtain ⟨x, F2, y1, s12, rx, ks, xs, rfl, lk, k1⟩ := withD_of x1 rep1 f1 k1
  obtain ⟨ad, vs, rfl, g1, g2, g3⟩ : ∃ ad vs, va = .ref ad ∧ F2 ad = some (.dK (ks.zip vs)) ∧ ks.length = vs.length ∧ Reps ci F2 xs vs := by
    cases rx with
    | dct h lf l r => exact ⟨_, _, rfl, h, lf, l, r⟩
  have Np : F2 p = none := y1.no Fp upd_same
  have np : ad ≠ p := fun z => by
    rw [z, Np] at g1
    cases g1
  have e1 : H1 p = some (.dK []) := y1.hh p _ B.1 upd_same
  refine ⟨ad, ks.zip vs, rfl, np, .inl (y1.s1 _ _ g1), e1, ?_⟩
  have w1 : Fr b L F H F2 (upd H1 p (.dK (mergeK [] (ks.zip vs)))) := (x0.trans y1).wr _ hp Np B
  refine h2 b L F0 H0 ρ σ F2 _ _ _ (S.go w1) k1 fun vb H2 F3 r2 x3 rep2 f2 k2 => ?_
  obtain ⟨y, F4, y3, s34, ry, ls, ys, rfl, ll, nd, k2⟩ := withD_of x3 rep2 f2 k2
  obtain ⟨bd, ws, rfl, m1, m2, m3⟩ : ∃ ad vs, vb = .ref ad ∧ F4 ad = some (.dK (ls.zip vs)) ∧ ls.length = vs.length ∧ Reps ci F4 ys vs := by
    cases ry with
    | dct h lf l r => exact ⟨_, _, rfl, h, lf, l, r⟩
  have w3 := w1.trans y3
  have N4p : F4 p = none := y3.no Np upd_same
  have nbp : bd ≠ p := fun z => by
    rw [z, N4p] at m1
    cases m1
  have e2 : H2 p = some (.dK (mergeK [] (ks.zip vs))) := y3.hh p _ B.1 upd_same
  have em : mergeK [] (ks.zip vs) = ks.zip vs := mergeK_fresh _ _ (by rw [List.nil_append, zip_keys g2]; exact (List.nodup_append.mp nd).1)
  have em2 : mergeK (ks.zip vs) (ls.zip ws) = ks.zip vs ++ ls.zip ws := mergeK_fresh _ _ (by rw [List.map_append, zip_keys g2, zip_keys m2]; exact nd)
  refine ⟨bd, ls.zip ws, rfl, nbp, .inl (y3.s1 _ _ m1), e2, by rw [List.length_zip, List.length_zip, ← g2, ← m2, Nat.min_self, Nat.min_self]; exact Nat.le_trans (Nat.add_le_add lk ll) (by decide), ?_⟩
  rw [em, em2]
  have w5 := (w3.wr (.dK (ks.zip vs ++ ls.zip ws)) hp N4p B).frz hp N4p upd_same
  rw [← List.zip_append g2] at w5 ⊢
  have sf : Same F4 (upd F4 p (.dK ((ks ++ ls).zip (vs ++ ws)))) := same_upd N4p
  have g8 := ((g3.mono y3.ff).append m3).mono sf
  exact q.d w5 (.dct upd_same (by simp [g2, m2]) g8.1 g8.2) k2
/-- tuple(d) -/
def tupDF : F1 := fun x R => ∃ ks xs, x = .dct ks xs ∧ R (.d (.tup (ks.map kyD)))
theorem reps_keys {F : Hp} : ∀ ks : List Key, Reps ci F (ks.map kyD) (ks.map kV)
  | [] => .nil
  | .inl i :: ks => .cons (.int i) (reps_keys ks)
  | .inr s :: ks => .cons (.str s) (reps_keys ks)
theorem cl_tupD : Cl1 ci (fun us H Q => ∃ (a : Addr) (kvs : List (Key × V)), us = [.ref a] ∧ Rd H a (.dK kvs) ∧ ∀ p, H p = none → Q (.ref p) (upd H p (.tup (kvs.map fun kv => kV kv.1)))) tupDF := by
  rintro b L F H x v R Q fr hx ⟨ks, xs, rfl, k⟩ q
  obtain ⟨a, vs, rfl, h1, h2, h3⟩ := vr_dct hx
  refine ⟨a, _, rfl, .inl (fr.s1 _ _ h1), fun p hp => ?_⟩
  have e : ((ks.zip vs).map fun kv => kV kv.1) = ks.map kV := by
    have z := congrArg (List.map kV) (zip_keys h2)
    rwa [List.map_map] at z
  rw [e]
  have y := Fr.new fr.s1 fr.b1 (.tup (ks.map kV)) hp
  exact q.d y ((reps_keys ks).t upd_same) k
theorem de_tupD (calm : ∀ i, (𝒳 i).calm = true) (hm : ∀ i, (𝒳 i).mg "tuple" = none) (ha : DE ci 𝒳 a ta) (hg : ∀ i, Gl (𝒳 i) "tuple" := by intro _; rfl)
    (he : ∀ i, starEach [a] (𝒳 i).env = [(false, eval a (𝒳 i).env)] := by intro _; rfl) (hpl : ∀ i, (backTo pos (starEach [] (𝒳 i).env)).any (·.1) = false := by intro _; rfl) : DE ci 𝒳 (.Call (.Name "tuple" p) [a] [] pos) (dUna tupDF ta) := de_T1 (fun i => call_tupD (calm i)) cl_tupD hg hm (by decide +kernel) ha (he := he) (hpl := hpl)
end
end DL

/-! the data layer: x = C(e, ..); x.f = y; return x -/
namespace DL
open PySem PySem.Spec PyProof.Rows L2 VL
open C8 (Cal Met)
section
variable {ci : CI} {K : PySem.W.Frag} {ι : Type} {𝒳 : ι → Cx} {e v : Expr} {es : List Expr} {tr : TDA} {tv : TD} {si : ISp} {C : Addr} {k : Nat}
def sRemake (C : Addr) (i : Nat) (f1 f2 : Str) (si : ISp) (tr : TDA) (tv : TD) : TDS := fun DD ρ => i < ρ.length ∧ tr ρ fun rs => si rs fun fs ys => ∃ y1 y2, fs = [f1, f2] ∧ ys = [y1, y2] ∧ ∀ x, tv (ρ.set i (.d (.ref x))) fun r => withD r fun y => DD.rt (.d (.ins C [f1, f2] [y1, y]))
theorem dss_remake (K : PySem.W.Frag) (i : Nat) {x f1 f2 cn : Str} {p1 p2 p3 p4 p5 p6 p7 p8 p9 : Pos} {fI : Addr} (hci : ∀ a F, ci.I C a F) (M : Mk K C fI) (cl : Cls K C) (nf : NoAttr K C f2) (ne : f1 ≠ f2) (Fn : ∀ i, FnR (𝒳 i).prog (𝒳 i).w K (𝒳 i).mg (𝒳 i).base CX0 k fI (liftI ci C si)) (hr : ∀ i, Room (k + 1) (𝒳 i).A) (hg : ∀ i, Gl (𝒳 i) cn) (hm : ∀ i, (𝒳 i).mg cn = some (.ref C)) (ha : DAa ci 𝒳 (e :: es) tr) (hv : DE ci 𝒳 v tv)
    (hN : ∀ i, (𝒳 i).N.Nodup) (hi : ∀ j, (𝒳 j).N[i]? = some x := by intro _; rfl) (hvis : ∀ i, Vis (𝒳 i).env.scope x := by intro _; first | exact Or.inl rfl | exact Or.inr (Or.inl rfl) | exact Or.inr (Or.inr rfl)) (hx : ∀ i, Loc (𝒳 i).env.scope x := by intro _; first | exact Or.inl rfl | exact Or.inr rfl)
    (hs : ∀ i, swapsWith (.Call (.Name cn p1) (e :: es) [] p2) (some (.Name x p3)) p4.line (𝒳 i).env = pure false := by intro _; rfl) (hf : ∀ i, (𝒳 i).fn x = true ∨ (𝒳 i).env.scope.names.lookup x = some .local := by intro _; first | exact .inl rfl | exact .inr rfl)
    (hs2 : ∀ i, swapsWith v (some (.Attribute (.Name x p5) f2 p6)) p7.line (𝒳 i).env = pure false := by intro _; rfl) (hd : (x == ("__debug__" : Str)) = false := by decide) (hcd : (x == ("__classdict__" : Str)) = false := by decide) (hK : ∀ i, (𝒳 i).K = K := by intro _; rfl) (hdb : (cn == ("__debug__" : Str)) = false := by decide)
    (he : ∀ i, starEach (e :: es) (𝒳 i).env = (false, eval e (𝒳 i).env) :: starEach es (𝒳 i).env := by intro _; rfl) (hpl : ∀ i, (backTo p2 (starEach es (𝒳 i).env)).any (·.1) = false := by intro _; rfl) :
    DSs ci 𝒳 [.Assign [.Name x p3] (.Call (.Name cn p1) (e :: es) [] p2) p4, .Assign [.Attribute (.Name x p5) f2 p6] v p7, .Return (some (.Name x p8)) p9] (sRemake C i f1 f2 si tr tv) := by
  obtain ⟨t1, q1, h1⟩ := ha.ex
  obtain ⟨t2, q2, h2⟩ := hv.ex
  refine ⟨tSeq (tAsg (StX.tMakeR C (liftI ci C si) E0 t1) (gName i)) (tSeq (sFld K (tVar i) t2 f2) (tSeq (tRet (tVar i)) tNext)), fun j => pss_cons (ps_set (hN j) (hi j) (hx j) (StX.pe_makeR (CX := CX0) ((hK j).symm ▸ M) ((hK j).symm ▸ Fn j) (hr j) (hg j) (hm j) (fun _ _ _ _ _ _ _ h => h.elim) (q1 j) hdb (he j) (hpl j)) (hs j) (hf j))
    (pss_cons (by rw [← hK j]; exact ps_fld (pe_var (hi j) (hvis j) hd hcd) (q2 j) (hs2 j)) (pss_cons (ps_ret (pe_var (hi j) (hvis j) hd hcd)) pss_nil)), fun b L F0 H0 ρ σ F H DD E S h q => ?_⟩
  obtain ⟨li, h⟩ := h
  refine h1 b L F0 H0 ρ σ F H _ _ S h fun vs H1 F1 rs x1 rep nm k1 => ?_
  intro a dx hx hdx ne2
  have S1 := S.go x1
  have fr := S1.rf
  obtain ⟨nb, nL⟩ := fr.b1.new hx
  have y1 := Fr.tmp fr.s1 fr.b1 (.own a) hdx
  have hx1 : upd H1 dx (.own a) a = none := by rw [upd_ne ne2.symm]; exact hx
  have y2 := Fr.tmp y1.s1 y1.b1 (.ins C dx []) hx1
  have y := y1.trans y2
  have nx : F1 a = none := same_free fr.s1 hx
  refine ⟨b, L, a, dx, F1, vs, rs, _, rfl, nb, nL, upd_same, nx, Fr.refl y.s1 y.b1, S1.nb, S1.nL, rep.fr y, nm, k1, fun F' H' fs xs ws f1' e1 e2 e3 e4 kk => ⟨rfl, ?_⟩⟩
  obtain ⟨z1, z2, rfl, rfl, kk⟩ := kk
  have er : rm a (upd (upd H1 dx (.own a)) a (.ins C dx [])) = upd H1 dx (.own a) := by rw [rm_upd, rm_free hx1]
  rw [er] at f1'
  have f2' := y1.trans f1'
  have ff : Fr b L F1 H1 F' H' := ⟨f2'.ff, fun c u nc q => (rm_some (f2'.hh c u nc q)).2, f2'.nw, fr.s1, fun c u q => (rm_some (f2'.s1 c u q)).2, fr.b1, Box.unrm f2'.b1⟩
  obtain ⟨w1, w2, rfl⟩ : ∃ w1 w2, ws = [w1, w2] := by
    match ws, e2 with
    | [w1, w2], _ => exact ⟨w1, w2, rfl⟩
  have S2 := S1.go ff
  have hk : i < σ.length := by rw [← S2.len]; exact li
  have S3 : StRep ci b L F0 H0 (ρ.set i (.d (.ref a))) (σ.set i (some (.ref a))) F' H' := S2.set hk (show SlRep ci b L F' H' (.d (.ref a)) (.ref a) from Rep.ref a) Fresh.d (fun _ z => nomatch z) (fun _ _ z => nomatch z)
  show tSeq (sFld K (tVar i) t2 f2) (tSeq (tRet (tVar i)) tNext) E (σ.set i (some (.ref a))) H'
  refine h2 b L F0 H0 _ _ F' H' _ _ S3 (kk a) fun u H3 F3 r3 x3 rep3 fr3 k3 => ?_
  obtain ⟨z, F4, x4, _, rz, k3⟩ := withD_of x3 rep3 fr3 k3
  have ea : H3 a = some (.ins C dx [(f1, w1), (f2, w2)]) := x4.hh a _ nb e1
  have n4 : F4 a = none := x4.no e4 e1
  have sv : (σ.set i (some (.ref a)))[i]? = some (some (.ref a)) := List.getElem?_set_self hk
  refine ⟨.ref a, sv, a, C, dx, _, rfl, ea, cl, nf, by show 2 < 1000; decide, ?_⟩
  have ep : putF f2 u [(f1, w1), (f2, w2)] = [f1, f2].zip [w1, u] := by
    show (if f1 = f2 then _ else (f1, w1) :: putF f2 u [(f2, w2)]) = _
    rw [if_neg ne]
    show (f1, w1) :: (if f2 = f2 then [(f2, u)] else _) = _
    rw [if_pos rfl]
    rfl
  rw [ep]
  have hxH : H a = none := x1.free hx
  have g1 := x1.trans ff
  have g2 := ((g1.trans x4).wr (.ins C dx ([f1, f2].zip [w1, u])) hxH n4 ⟨nb, nL⟩).frz hxH n4 upd_same
  have sm : Same F4 (upd F4 a (.ins C dx ([f1, f2].zip [w1, u]))) := same_upd n4
  have r1 : Rep ci F4 z1 w1 := (e3.2 0 z1 w1 rfl rfl).mono x4.ff
  have rr : Reps ci (upd F4 a (.ins C dx ([f1, f2].zip [w1, u]))) [z1, z] [w1, u] := .cons (r1.mono sm) (.cons (rz.mono sm) .nil)
  have rp : Rep ci (upd F4 a (.ins C dx ([f1, f2].zip [w1, u]))) (.ins C [f1, f2] [z1, z]) (.ref a) := .ins upd_same rfl rr.1 rr.2 (hci a _)
  exact ⟨.ref a, sv, q.rt (.ref a) _ _ (.d (.ins C [f1, f2] [z1, z])) (S.fr.trans g2) rp Fresh.d k3⟩
end
end DL

/-! the data layer: C( *text); o[i] by the class's own method -/
namespace DL
open PySem PySem.Spec PyProof.Rows L2 VL
open C8 (Cal Met)
theorem signs_reps {ci : CI} {F : Hp} : ∀ cs : List Nat, Reps ci F (cs.map fun c => D.str ⟨#[c]⟩) (cs.map fun c => V.str ⟨#[c]⟩)
  | [] => .nil
  | c :: cs => .cons (.str _) (signs_reps cs)
section
variable {K : PySem.W.Frag} {ι : Type} {𝒳 : ι → Cx} {C : Addr} {a c e o : Expr} {es : List Expr} {ta tb : TD} {tr : TDA} {pos p apos sp_ : Pos} {x fld : Str} {k i : Nat} {pre : List D → Prop}
/-- x( *text), x the class in a slot -/
theorem de_mkTxt (K : PySem.W.Frag) (i : Nat) {fI : Addr} (M : Mk K C fI) (Fn : ∀ j, FnR (𝒳 j).prog (𝒳 j).w K (𝒳 j).mg (𝒳 j).base CX0 k fI (liftN (ciN C fld) C fld pre)) (hr : ∀ j, Room (k + 1) (𝒳 j).A) (calm : ∀ j, (𝒳 j).calm = true) (ha : DE (ciN C fld) 𝒳 e ta) (hN : ∀ j, (𝒳 j).N[i]? = some x := by intro _; rfl) (hv : ∀ j, Vis (𝒳 j).env.scope x := by intro _; first | exact Or.inl rfl | exact Or.inr (Or.inl rfl) | exact Or.inr (Or.inr rfl)) (hK : ∀ j, (𝒳 j).K = K := by intro _; rfl)
    (hdb : (x == ("__debug__" : Str)) = false := by decide) (hcd : (x == ("__classdict__" : Str)) = false := by decide) (hst : ∀ j, starEach [.Starred e sp_] (𝒳 j).env = [(true, eval e (𝒳 j).env)] := by intro _; rfl) :
    DE (ciN C fld) 𝒳 (.Call (.Name x p) [.Starred e sp_] [] pos) (fun ρ R => ρ[i]? = some (.d (.ref C)) ∧ ta ρ fun r => withV r fun y => ∃ z : Str, y = .str z ∧ z.length ≤ 1000000 ∧ pre (signD z) ∧ R (.d (.ins C [fld] [.tup (signD z)]))) := by
  obtain ⟨t1, p1, h1⟩ := ha.ex
  refine ⟨tMkTxt i C (liftN (ciN C fld) C fld pre) E0 t1, fun j => pe_mkTxt (CX := CX0) ((hK j).symm ▸ M) ((hK j).symm ▸ Fn j) (hr j) (calm j) (hN j) (hv j) (fun _ _ _ _ _ _ _ h => h.elim) (p1 j) hdb hcd (hst j), fun b L F0 H0 ρ σ F H R Q S h q => ?_⟩
  obtain ⟨h0, h⟩ := h
  obtain ⟨v0, e0, r0⟩ := S.sl i _ h0 (fun z => nomatch z)
  cases (show Rep (ciN C fld) F (.ref C) v0 from r0)
  refine ⟨e0, h1 b L F0 H0 ρ σ F H _ _ S h fun v H1 F1 r1 x1 rep1 _ k1 => ?_⟩
  obtain ⟨yy0, ry, z, rfl, hz, hpre, k1⟩ := withV_of rep1 k1
  refine ⟨z, ry.str, slen hz, ?_⟩
  have S1 := S.go x1
  have rp : Reps (ciN C fld) F1 (signD z) (VL.signs z) := signs_reps _
  have hz : (signD z).length ≤ 1000000 := by
    unfold signD
    rw [List.length_map]
    exact hz
  generalize VL.signs z = vs at rp ⊢
  generalize signD z = xs at rp hz hpre k1
  intro y dx hy hdx ne
  obtain ⟨nb, nL⟩ := x1.b1.new hy
  have y1 := Fr.tmp x1.s1 x1.b1 (.own y) hdx
  have hy1 : upd H1 dx (.own y) y = none := by rw [upd_ne ne.symm]; exact hy
  have y2 := Fr.tmp y1.s1 y1.b1 (.ins C dx []) hy1
  have yy := y1.trans y2
  have nx : F1 y = none := same_free x1.s1 hy
  refine ⟨b, L, y, dx, F1, vs, xs, rfl, nb, nL, upd_same, nx, Fr.refl yy.s1 yy.b1, S1.nb, S1.nL, rp, hz, hpre, fun F' H' t f1 e1 hp rep' e4 => ⟨rfl, ?_⟩⟩
  have er : rm y (upd (upd H1 dx (.own y)) y (.ins C dx [])) = upd H1 dx (.own y) := by rw [rm_upd, rm_free hy1]
  rw [er] at f1
  have f2 := y1.trans f1
  have ff : Fr b L F1 H1 (upd F' y (.ins C dx [(fld, .ref t)])) H' := by
    refine ⟨f2.ff.trans (same_upd e4), fun a u na q => (rm_some (f2.hh a u na q)).2, fun a u q => ?_, x1.s1, fun a u q => ?_, x1.b1, Box.unrm f2.b1⟩
    · by_cases z : a = y
      · exact .inr (z ▸ hy)
      · rw [upd_ne z] at q
        exact f2.nw a u q
    · by_cases z : a = y
      · subst z
        rw [upd_same] at q
        cases q
        exact e1
      · rw [upd_ne z] at q
        exact (rm_some (f2.s1 a u q)).2
  have sm : Same F' (upd F' y (.ins C dx [(fld, .ref t)])) := same_upd e4
  have r2 : Reps (ciN C fld) (upd F' y (.ins C dx [(fld, .ref t)])) [.tup xs] [.ref t] := .cons (Rep.mono sm rep') .nil
  exact q.d (x1.trans ff) (.ins (fs := [fld]) (vs := [.ref t]) upd_same rfl r2.1 r2.2 fun _ => .inr ⟨dx, t, vs, upd_same, hp.same sm⟩) k1
end
end DL
namespace VL
open PySem PySem.Spec PyProof.Rows L2
open C8 (Met)
/-- o[i], by the class's own method -/
def rGetO (C : Addr) (sp : Sp) : R2 := fun x y H Q => ∃ (a dx : Addr) (fs : List (Str × V)), x = .ref a ∧ H a = some (.ins C dx fs) ∧ sp [.ref a, y] H Q (fun _ _ _ => False)
/-- such a method of the class, whose object is a function -/
structure MetG (P : Program) (w : World) (K : PySem.W.Frag) (mg : Str → Option Value) (base : Heap) (k : Nat) (C : Addr) (sp : Sp) : Prop where
  ex : ∃ (f : Addr) (fd : FuncData) (ps : List Str) (ds : List Value), Meth K C "__getitem__" f ∧ FnOk P w K mg base C8.CX0 k f fd ps sp ∧ Binds K fd ps ds ∧ Vals [] ds ∧ PySem.W.fnIn K f = true
theorem pe_getO {X : Cx} {C : Addr} {k j : Nat} {sp : Sp} {a b : Expr} {ta tb : TE} {pos : Pos} (c : MetG X.prog X.w X.K X.mg X.base k C sp) (hr : Room j X.A) (hk : k + 1 ≤ j) (ha : PE X a ta) (hb : PE X b tb)
    (hs : ∀ (x : Addr) (i : Value), subscripted b true (.ref x) i = runValue (.builtin "lifetime.subscript" ⟨[.ref x, i], []⟩)) : PE X (.Subscript a b pos) (tOp (rGetO C sp) ta tb) := by
  refine ⟨fun pins s σ H Q I h => ?_⟩
  refine Subscript_ (binT ha hb I h fun v u s2 x y H2 I2 rx ry hq => ?_)
  obtain ⟨ad, dx, fs, ex, hins, hq⟩ := hq
  subst ex
  obtain rfl : v = Value.ref ad := rx
  obtain ⟨f, fd, ps, ds, me, F, hb2, hd, fi⟩ := c.ex
  obtain ⟨mA, J, _⟩ := ins_get I2.hok hins
  obtain ⟨od, J, _⟩ := J.look
  obtain ⟨mm, hF⟩ := I2.fr
  exact PySem.W.sub_K hF I2.ok.mod.kin J me.at_ fi me.fn (met_run (A := X.A.in1) ((hr.mono hk).in1) rfl F hb2 hd I2 (vs := [.ref ad, y]) (us := [.ref ad, u]) (.cons rfl (.cons ry .nil)) hq) (hs ad u)
end VL
namespace DL
open PySem PySem.Spec PyProof.Rows L2 VL
open C8 (Cal Met)
section
variable {ci : CI} {K : PySem.W.Frag} {ι : Type} {𝒳 : ι → Cx} {C : Addr} {a c : Expr} {ta tb : TD} {pos : Pos} {s : DSp} {k j : Nat}
def getOF (C : Addr) (s : DSp) : F2 := fun x y R => flatX y = true ∧ ∃ fs xs, x = .ins C fs xs ∧ s [.d x, .d y] R
theorem de_getO (c' : ∀ i, MetG (𝒳 i).prog (𝒳 i).w (𝒳 i).K (𝒳 i).mg (𝒳 i).base k C (lift ci s)) (hr : ∀ i, Room j (𝒳 i).A) (hk : k + 1 ≤ j) (ha : DE ci 𝒳 a ta) (hc : DE ci 𝒳 c tb)
    (hs : ∀ (x : Addr) (i : Value), subscripted c true (.ref x) i = runValue (.builtin "lifetime.subscript" ⟨[.ref x, i], []⟩) := by exact fun _ _ => rfl) : DE ci 𝒳 (.Subscript a c pos) (dBin (getOF C s) ta tb) := by
  obtain ⟨te1, p1, h1⟩ := ha.ex
  obtain ⟨te2, p2, h2⟩ := hc.ex
  refine ⟨tOp (rGetO C (lift ci s)) te1 te2, fun i => pe_getO (c' i) (hr i) hk (p1 i) (p2 i) hs, fun b L F0 H0 ρ σ F H R Q S h q => ?_⟩
  refine h1 b L F0 H0 ρ σ F H _ _ S h fun v H1 F1 r1 x1 rep1 _ k1 => ?_
  obtain ⟨x, rx, k1⟩ := withV_of rep1 k1
  refine h2 b L F0 H0 ρ σ F1 H1 _ _ (S.go x1) k1 fun w H2 F2 r2 x2 rep2 _ k2 => ?_
  obtain ⟨y, ry, fy, fs, xs, rfl, k2⟩ := withV_of rep2 k2
  have S2 := (S.go x1).go x2
  have rx := vr_ins rx
  obtain ⟨ad, dx, us, rfl, hh⟩ := rep_ins rx
  exact ⟨ad, dx, us, rfl, x2.s1 _ _ (x2.ff _ _ hh), lift_go S2 (.cons (r := .d (.ins C fs xs)) (Rep.mono x2.ff rx) (.cons (r := .d y) (vr_flat ry fy) .nil)) (nm2 (fun _ z => nomatch z) fun _ z => nomatch z) k2 fun v3 H3 F3 r3 x3 rep3 fr3 k3 => q v3 H3 F3 r3 ((x1.trans x2).trans x3) rep3 (fr3.fr (x1.trans x2)) k3⟩
/-- cls.f, a constant of the class that a slot holds -/
theorem de_cvalA (K : PySem.W.Frag) {f : Str} {mc u : Value} {v : V} {y : D} (r : ClX.CRead K C mc) (kk : ClX.CVal K C mc f v u) (ry : ∀ F, Rep ci F y v) (ha : DE ci 𝒳 a ta) (hK : ∀ i, (𝒳 i).K = K := by intro _; rfl) (hb : ∀ i, attributeBase a f (𝒳 i).env (eval a (𝒳 i).env) = eval a (𝒳 i).env := by intro _; rfl) : DE ci 𝒳 (.Attribute a f pos) (fun ρ R => ta ρ fun r => r = .d (.ref C) ∧ R (.d y)) := by
  obtain ⟨t1, p1, h1⟩ := ha.ex
  refine ⟨ClX.tCVal K t1 f, fun i => by rw [← hK i]; exact ClX.pe_cval (p1 i) (hb i), fun b L F0 H0 ρ σ F H R Q S h q => ?_⟩
  refine h1 b L F0 H0 ρ σ F H _ _ S h fun w H1 F1 r1 x1 rep1 _ k1 => ?_
  obtain ⟨e, k1⟩ := k1
  subst e
  cases (show Rep ci F1 (.ref C) w from rep1)
  exact ⟨C, mc, v, u, rfl, r, kk, q.d x1 (ry F1) k1⟩
/-- in a for: what a parameter's slot holds, data or a caller's list -/
def dSeqA (k : Nat) : TDD := fun ρ R => match ρ[k]? with
  | some (.v xs) => R xs
  | some (.d x) => seqX x R
  | _ => False
theorem di_seqA {tg : Expr} {x : Str} (K : PySem.W.Frag) (k : Nat) (hN : ∀ i, (𝒳 i).N[k]? = some x := by intro _; rfl) (hv : ∀ i, Vis (𝒳 i).env.scope x := by intro _; first | exact Or.inl rfl | exact Or.inr (Or.inl rfl) | exact Or.inr (Or.inr rfl)) (hK : ∀ i, (𝒳 i).K = K := by intro _; rfl)
    (hd : (x == ("__debug__" : Str)) = false := by decide) (hcd : (x == ("__classdict__" : Str)) = false := by decide) : DI ci false 𝒳 tg (.Name x pos) (dSeqA k) := by
  refine ⟨iSeq K (tVar k), fun i => pi_seqK K (hK i) (pe_var (hN i) (hv i) hd hcd), fun b L F0 H0 ρ σ F H R Q S h q => ?_⟩
  unfold dSeqA at h
  split at h
  · rename_i xs ek
    obtain ⟨v, e1, p, vs, e, g1, g2, g3⟩ := S.sl k _ ek (fun z => nomatch z)
    subst e
    obtain ⟨o, ho⟩ := S.vw k xs p ek e1
    have h0 : H0 p = some (.lst vs) := by
      have z := S.fr.hh p o g3 ho
      rw [g1] at z
      rw [ho, ← z]
    exact ⟨_, e1, p, rfl, .inl ⟨⟨vs, SqL.of g1⟩, q _ H F xs _ S.rf (walkD_lst g2) (fun F2 H2 y s _ => SqL.of (y.hh p _ g3 h0)) h⟩⟩
  · rename_i y ek
    obtain ⟨v, e1, rx⟩ := S.sl k _ ek (fun z => nomatch z)
    have S1 := S.rf
    cases y with
    | lst xs =>
      obtain ⟨p, vs, rfl, g1, g2⟩ := Rep.reps_l rx
      exact ⟨_, e1, p, rfl, .inl ⟨⟨vs, SqL.of (S1.s1 _ _ g1)⟩, q _ H F xs _ S1 (walkD_lst g2) (fun F2 H2 y s _ => SqL.of (y.s1 _ _ (s _ _ g1))) h⟩⟩
    | tup xs =>
      obtain ⟨p, vs, rfl, g1, g2⟩ := Rep.reps_t rx
      exact ⟨_, e1, p, rfl, .inr ⟨⟨vs, .inl (rd_same S1.s1 g1)⟩, q _ H F xs _ S1 (walkD_tup g2) (fun F2 H2 y s _ => .inl (rd_same y.s1 (rd_same s g1))) h⟩⟩
    | _ => exact h.elim
  · exact h.elim
theorem seqA_see {k : Nat} {ρ : List Sl} {r : Sl} {xs : List D} {R : List D → Prop} (hk : ρ[k]? = some r) (hr : r.see = some (.lst xs) ∨ r.see = some (.tup xs)) (nm : ∀ ys, r ≠ .m ys) (h : R xs) : dSeqA k ρ R := by
  unfold dSeqA
  rw [hk]
  cases r with
  | no => rcases hr with z | z <;> cases z
  | box => rcases hr with z | z <;> cases z
  | m ys => exact absurd rfl (nm ys)
  | v ys =>
    rcases hr with z | z <;> cases z
    exact h
  | d y =>
    rcases hr with z | z <;> cases z <;> exact h
/-- x in o, as a test -/
theorem dt_inO {b0 : Expr} (c' : ∀ i, Met (𝒳 i).prog (𝒳 i).w (𝒳 i).K (𝒳 i).mg (𝒳 i).base k C "__contains__" (lift ci s) []) (hr : ∀ i, Room j (𝒳 i).A) (hk : k ≤ j) (ha : DE ci 𝒳 a ta) (hc : DE ci 𝒳 b0 tb) (hm : behindInMarks .In b0 = false := by with_unfolding_all rfl) : DT ci 𝒳 (.Compare a [.In] [b0] pos) (dB (dBin (inOF C s) ta tb)) := by
  obtain ⟨te1, p1, h1⟩ := ha.ex
  obtain ⟨te2, p2, h2⟩ := hc.ex
  refine ⟨_, fun i => pt_cmpR (op_inO (c' i) (hr i) hk) (p1 i) (p2 i) hm, fun b L F0 H0 ρ σ F H R Q S h q => ?_⟩
  exact inO_sound h1 h2 b L F0 H0 ρ σ F H _ _ S h fun v H1 F1 r1 x1 rep1 _ k1 => by
    obtain ⟨x, rx, y, rfl, kq⟩ := withV_of rep1 k1
    exact ⟨y, rx.bl, q y H1 F1 x1 kq⟩
end
end DL

/-! o != x of an instance of an own class that has an __eq__ and no __ne__ -/
namespace VL
open PySem PySem.Spec PyProof.Rows L2
open C8 (Met)
theorem slot_ne : Slot "object" "__ne__" "object.__ne__" :=
  .of (owner := "object") (n := "__ne__") (by rw [typeLookup_type, builtinLookup_eq_fast]; kernel_rfl) (by decide +kernel) (by decide +kernel) (by decide +kernel) (.inl (by decide +kernel)) (by rw [isSubtype_type]; kernel_rfl)
section
variable {prog : Program} {w : World} {A : Around} {E : Value → Shared → Prop} {s : Shared} {K : PySem.W.Frag} {x C L f : Addr} {h0 : Heap} {m : Str → Option Value} {ox : Obj} {od : Option Obj} {y tb : Value}
theorem ne_slot {Q : Value → Shared → Prop} (hu : A.units + 1 < cLine) (X : K.In s.heap) (I : PySem.W.InstAt s.heap x ox C od) (he : PySem.W.findIn K (.ref C) "__eq__" = some (some (.ref f))) (hf : PySem.W.isFn K (.ref f) = true) (ho : PySem.W.subIn K (.ref C) (.type "object") = some true)
    (h : wpAny (model prog w) A.in1 (call (.ref f) [.ref x, y]) (fun v t => ∃ b, v = .bool b ∧ Q (.bool (!b)) t) E s) : wpAny (model prog w) A (call (.builtin "object.__ne__") [.ref x, y]) Q E s := by
  refine wpAny_call (codeAny_call_builtin slot_ne.plain F.cmpEntry_ne (PySem.W.check_slot F.cmpKind_ne F.cmpSplit_ne (I.type.andThen (PySem.W.looks_subIn X ho)) (F.cmpArgs_ne _ _) ?_))
  unfold Builtin.«object.__ne__»
  refine wpAny_bind (m := slotArgs "__ne__" 1 _) (wpAny_pure ?_)
  refine wpAny_bind (wpAny_cRoomFor (show A.in1.units < cLine by have : A.in1.units = A.units + 1 := rfl; omega) ?_)
  refine wpAny_bind (PySem.W.ifBound_K X I he hf (wpAny_mono h (fun v t hv => ?_) fun _ _ z => z))
  obtain ⟨b, rfl, hq⟩ := hv
  exact wpAny_bind (wpAny_truthy_bool (wpAny_pure hq))
theorem ne_bound {Q : Option Value → Shared → Prop} (hu : A.units + 1 < cLine) (X : K.In s.heap) (I : PySem.W.InstAt s.heap x ox C od) (hn : PySem.W.findIn K (.ref C) "__ne__" = some (some (.builtin "object.__ne__"))) (he : PySem.W.findIn K (.ref C) "__eq__" = some (some (.ref f))) (hf : PySem.W.isFn K (.ref f) = true) (ho : PySem.W.subIn K (.ref C) (.type "object") = some true)
    (h : wpAny (model prog w) A.in1 (call (.ref f) [.ref x, y]) (fun v t => ∃ b, v = .bool b ∧ Q (some (.bool (!b))) t) E s) : wpAny (model prog w) A (callSpecialIfBound? (.ref x) "__ne__" [y]) Q E s := by
  simp only [callSpecialIfBound?, bindSpecialIfBound?]
  refine wpAny_holding (wpAny_bind (wpAny_bind (wpAny_bind (I.type.here ((PySem.W.looks_findIn X hn).here ?_)))))
  refine wpAny_bind (wpAny_askSetting (wpAny_ite ?_))
  have fin : wpAny (model prog w) A (call (.builtin "object.__ne__") ([.ref x] ++ [y]) >>= fun v => pure (some v)) Q E s := wpAny_bind (ne_slot hu X I he hf ho (wpAny_mono h (fun v t ⟨b, e, q⟩ => ⟨b, e, wpAny_pure q⟩) fun _ _ z => z))
  have bd : bindSpecial (.builtin "object.__ne__") (.ref x) = pure (.builtin "object.__ne__", [.ref x]) := slot_ne.bind _
  split
  · exact wpAny_bind (wpAny_of_eq bd (wpAny_pure (by exact fin)))
  · exact wpAny_tryCatch (wpAny_bind (wpAny_of_eq bd (wpAny_pure (by exact fin))))
theorem ne_rich {Q : Value → Shared → Prop} (hu : A.units + 1 < cLine) (X : K.In s.heap) (I : PySem.W.InstAt s.heap x ox C od) (hb : PySem.W.Looks (model prog w) s.heap (typeOf y) tb) (nf : PySem.W.notFirst K C tb = true) (hn : PySem.W.findIn K (.ref C) "__ne__" = some (some (.builtin "object.__ne__"))) (he : PySem.W.findIn K (.ref C) "__eq__" = some (some (.ref f))) (hf : PySem.W.isFn K (.ref f) = true) (ho : PySem.W.subIn K (.ref C) (.type "object") = some true)
    (h : wpAny (model prog w) A.in1 (call (.ref f) [.ref x, y]) (fun v t => ∃ b, v = .bool b ∧ Q (.bool (!b)) t) E s) : wpAny (model prog w) A (richCompare .NotEq (.ref x) y) Q E s := by
  have one : wpAny (model prog w) A (tryCompare (.ref x) "__ne__" y) (fun r t => ∃ v, r = some v ∧ Q v t) E s := by
    unfold tryCompare
    refine wpAny_bind (ne_bound hu X I hn he hf ho (wpAny_mono h (fun v t ⟨b, e, q⟩ => ⟨b, e, ?_⟩) fun _ _ z => z))
    exact wpAny_pure ⟨_, rfl, q⟩
  unfold richCompare
  simp only [oneThing_ref, cmpInfo_NotEq]
  refine wpAny_holding (wpAny_bind (wpAny_cRoomFor (by omega) ?_))
  refine wpAny_bind (I.type.here (wpAny_bind (hb.here ?_)))
  split
  · rename_i q
    have e : PySem.W.subIn K tb (.ref C) = some false := by
      have two := Bool.or_eq_true_iff.mp nf
      refine two.elim (fun z => ?_) fun z => beq_iff_eq.mp z
      have same := beq_iff_eq.mp z
      rw [same] at q
      simp at q
    refine wpAny_bind ((PySem.W.looks_subIn X e).here ?_)
    rw [if_neg Bool.false_ne_true]
    refine wpAny_bind (wpAny_mono one (fun r t z => ?_) fun _ _ z => z)
    obtain ⟨v, rfl, hq⟩ := z
    exact wpAny_pure hq
  · refine wpAny_bind (wpAny_pure ?_)
    rw [if_neg Bool.false_ne_true]
    refine wpAny_bind (wpAny_mono one (fun r t z => ?_) fun _ _ z => z)
    obtain ⟨v, rfl, hq⟩ := z
    exact wpAny_pure hq
end
/-- the class leaves != to object -/
structure NeC (K : PySem.W.Frag) (C : Addr) : Prop where
  ne : PySem.W.findIn K (.ref C) "__ne__" = some (some (.builtin "object.__ne__"))
  ob : PySem.W.subIn K (.ref C) (.type "object") = some true
def rNeO (K : PySem.W.Frag) (C : Addr) (sp : Sp) : R2 := fun x y H Q => rEqO K C sp x y H fun v H' => ∃ b, v = .bl b ∧ Q (.bl (!b)) H'
theorem op_neO {X : Cx} {C : Addr} {k j : Nat} {sp : Sp} (c : Met X.prog X.w X.K X.mg X.base k C "__eq__" sp []) (N : NeC X.K C) (hr : Room j X.A) (hk : k + 1 ≤ j) : OpR X (compareOp .NotEq) (rNeO X.K C sp) := by
  intro pins s σ H x y v u Q I rx ry h
  obtain ⟨a, dx, fs, rfl, ha, hy, hs⟩ := h
  obtain ⟨f, fd, ps, ds, cl, me, F, hb, hd⟩ := c.ex
  obtain rfl : v = Value.ref a := rx
  obtain ⟨mA, J, _⟩ := ins_get I.hok ha
  obtain ⟨od, J, _⟩ := J.look
  show wpAny (model X.prog X.w) X.A (richCompare .NotEq (.ref a) u) (EP X pins σ Q) X.xe s
  have ty : ∃ tb, PySem.W.Looks (model X.prog X.w) s.heap (typeOf u) tb ∧ PySem.W.notFirst X.K C tb = true := by
    rcases hy with ⟨b, dy, gs, rfl, hb'⟩ | ⟨t, xs, rfl, ht, hno⟩
    · obtain rfl : u = Value.ref b := ry
      obtain ⟨mB, J', _⟩ := ins_get I.hok hb'
      obtain ⟨od', J', _⟩ := J'.look
      exact ⟨.ref C, J'.type, by simp [PySem.W.notFirst]⟩
    · obtain rfl : u = Value.ref t := ry
      obtain ⟨its, _, p1, _⟩ := I.tuple (SqT.of ht)
      refine ⟨.type "tuple", ?_, by simp [PySem.W.notFirst, hno]⟩
      obtain ⟨o, ho, hc, _⟩ := p1
      exact fun A Q E s' kp q => wpAny_typeOf ⟨o, kp _ _ ho, hc⟩ q
  obtain ⟨tb, hty, hnf⟩ := ty
  refine ne_rich (by have := hr.un; omega) I.kIn J hty hnf N.ne me.at_ me.fn N.ob (thn (met_run (A := X.A.in1) ((hr.mono hk).in1) rfl F hb hd I (vs := [.ref a, y]) (us := [.ref a, u]) (.cons rfl (.cons ry .nil)) hs) fun w s' hv => ?_)
  obtain ⟨z, H', I', rz, b, rfl, b2, e2, q⟩ := hv
  cases e2
  obtain rfl : w = Value.bool b := rz
  exact ⟨b, rfl, .bl (!b), H', I', rfl, q⟩
end VL
namespace DL
open PySem PySem.Spec PyProof.Rows L2 VL
open C8 (Cal Met)
section
variable {ci : CI} {ι : Type} {𝒳 : ι → Cx} {C : Addr} {a c : Expr} {ta tb : TD} {pos : Pos} {s : DSp} {k j : Nat}
def neOF (C : Addr) (s : DSp) : F2 := fun x y R => eqOF C s x y fun r => ∃ b, r = .d (.bl b) ∧ R (.d (.bl (!b)))
theorem neO_sound {te1 te2 : TE} {K : PySem.W.Frag}
    (h1 : ∀ (b L : Addr) (F0 H0 : Hp) (ρ : List Sl) (σ : L2.St) (F H : Hp) (R : Sl → Prop) (Q : VK), StRep ci b L F0 H0 ρ σ F H → ta ρ R → Post ci b L F H R Q → te1 σ H Q)
    (h2 : ∀ (b L : Addr) (F0 H0 : Hp) (ρ : List Sl) (σ : L2.St) (F H : Hp) (R : Sl → Prop) (Q : VK), StRep ci b L F0 H0 ρ σ F H → tb ρ R → Post ci b L F H R Q → te2 σ H Q)
    (b L : Addr) (F0 H0 : Hp) (ρ : List Sl) (σ : L2.St) (F H : Hp) (R : Sl → Prop) (Q : VK) (S : StRep ci b L F0 H0 ρ σ F H) (h : dBin (neOF C s) ta tb ρ R) (q : Post ci b L F H R Q) : tOp (rNeO K C (lift ci s)) te1 te2 σ H Q := by
  have h' : dBin (eqOF C s) ta tb ρ (fun r => ∃ b, r = .d (.bl b) ∧ R (.d (.bl (!b)))) := h
  refine eqO_sound (K := K) h1 h2 b L F0 H0 ρ σ F H _ (fun v H' => ∃ b, v = .bl b ∧ Q (.bl (!b)) H') S h' fun v H' F' r fr rep fs k => ?_
  obtain ⟨y, rfl, k⟩ := k
  cases (show Rep ci F' (.bl y) v from rep)
  exact ⟨y, rfl, q.d fr (Rep.bl _) k⟩
theorem dt_neO (K : PySem.W.Frag) (c' : ∀ i, Met (𝒳 i).prog (𝒳 i).w (𝒳 i).K (𝒳 i).mg (𝒳 i).base k C "__eq__" (lift ci s) []) (N : NeC K C) (hr : ∀ i, Room j (𝒳 i).A) (hk : k + 1 ≤ j) (ha : DE ci 𝒳 a ta) (hc : DE ci 𝒳 c tb) (hm : behindInMarks .NotEq c = false := by exact nobehind _ (by decide) (by decide)) (hK : ∀ i, (𝒳 i).K = K := by intro _; rfl) : DT ci 𝒳 (.Compare a [.NotEq] [c] pos) (dB (dBin (neOF C s) ta tb)) := by
  obtain ⟨te1, p1, h1⟩ := ha.ex
  obtain ⟨te2, p2, h2⟩ := hc.ex
  refine ⟨_, fun i => pt_cmpR (by have z := op_neO (c' i) ((hK i).symm ▸ N) (hr i) hk; rw [hK i] at z; exact z) (p1 i) (p2 i) hm, fun b L F0 H0 ρ σ F H R Q S h q => ?_⟩
  exact neO_sound h1 h2 b L F0 H0 ρ σ F H _ _ S h fun v H1 F1 r1 x1 rep1 _ k1 => by
    obtain ⟨x, rx, y, rfl, kq⟩ := withV_of rep1 k1
    exact ⟨y, rx.bl, q y H1 F1 x1 kq⟩
end
end DL

/-! raise X(), X an own exception without fields -/
namespace VL
open PySem PySem.Spec PyProof.Rows L2
/-- __init__ of an own exception without fields -/
def spSup0 (C : Addr) : Sp := fun vs H Q _ => ∃ a : Addr, vs = [.ref a] ∧ H a = some (exo a C none) ∧ Q .non H
/-- the own exception of the name x, which has no field -/
structure OwnX0 (P : Program) (w : World) (K : PySem.W.Frag) (mg : Str → Option Value) (base : Heap) (x : Str) (C : Addr) : Prop where
  o : OexC K C
  ex : ∃ (fI : Addr) (fd : FuncData) (ps : List Str), FnOk P w K mg base CX0 2 fI fd ps (spSup0 C) ∧ PySem.W.findIn K (.ref C) "__init__" = some (some (.ref fI)) ∧ PySem.W.typeIn K (.ref fI) = some (.type "function") ∧ Binds K fd ps []
  m : mg x = some (.ref C)
  te : PySem.W.exmOne K (.ref C) (.ref C) = some true
section
variable {X : Cx} {pins : List (Addr × Obj)} {σ : L2.St} {H : Hp} {hp mid last : Heap} {gs gs2 : Array GenState} {dr dr2 : Drawn} {tk tk2 : Nat} {o1 o2 : OsState} {a C : Addr}
/-- the exception is let go; it has no dict -/
theorem bare_end {Q : XK} (T : Raises X (.ref C)) (I : Inv X pins σ H ⟨hp, gs, dr, tk, o1⟩) (new : hp.objs.size ≤ a) (more : ∀ c o, hp.get? c = some o → mid.get? c = some o) (un : Un (frs X.stack) [] (upd H a (exo a C none)) (upd H a (exo a C none)) mid last) (ok : HOk X.prog X.w (upd H a (exo a C none)) last) (os : o2 = o1) (bare : AllBare gs2)
    (q : Q (.ref C) none H) : MkP X pins σ Q (.ref a) ⟨last, gs2, dr2, tk2, o2⟩ := by
  have na : H a = none := I.hok.fresh new
  have ea : upd H a (exo a C none) a = some (exo a C none) := upd_same
  obtain ⟨t0, at_⟩ := exo_at ok ea
  obtain ⟨G, in_, out⟩ := restrict last fun c => decide (c ≠ a)
  have same : ∀ c, c ≠ a → G.get? c = last.get? c := fun c z => in_ c (decide_eq_true z)
  have gone : G.get? a = none := out a (by simp)
  have old : ∀ {c : Addr} {o : Obj}, hp.get? c = some o → c ≠ a := fun {c o} z => Nat.ne_of_lt (Nat.lt_of_lt_of_le (Heap.lt_size z) new)
  have lift : ∀ {c : Addr}, c ≠ a → H c = none → upd H a (exo a C none) c = none := fun {c} z n => by
    rw [upd_ne z]
    exact n
  have keepT : ∀ {c : Addr} {u : HO}, H c = some u → upd H a (exo a C none) c = some u := fun {c u} z => by
    rw [upd_ne fun e => by rw [e, na] at z; cases z]
    exact z
  have U : Un (frs X.stack) [] H H hp G := by
    refine ⟨fun c o z n f x => ?_, fun c o z n f x => ?_, fun c o z n x => n, fun c o z x => ?_, fun c xs z => z, fun c o v z => z, fun c ps z => ⟨#[], by rw [Array.append_empty]; exact z⟩⟩
    all_goals rw [same c (old z)]
    · exact un.keep c o (more c o z) (lift (old z) n) f x
    · exact un.slot c o (more c o z) (lift (old z) n) f x
    · exact un.there c o (more c o z) x
  have ok3 : HOk X.prog X.w H G := fun c o z => by
    have ca : c ≠ a := fun e => by
      rw [e, na] at z
      cases z
    have notA : ∀ {e : Addr} {u : HO}, upd H a (exo a C none) e = some u → e ≠ a → H e = some u := fun {e u} y z => by
      rw [upd_ne z] at y
      exact y
    refine (ok c o (keepT z)).stay (fun e v he y => ?_) (fun e he => notA he (at_ne ea he exo_own)) fun e xs he => notA he (at_ne ea he exo_tup)
    rw [same e (he.elim (fun z => by rw [z]; exact ca) fun z => at_ne ea z exo_own)]
    exact y
  have J : Inv X pins σ H ⟨G, gs2, dr2, tk2, o2⟩ := I.call' (ch := []) os U ok3 bare fun c z => absurd z (by simp)
  refine ⟨a, _, _, ⟨G, gs2, dr2, tk2, o2⟩, H, .ref C, none, rfl, J, fun c o z => ?_, gone, at_, ⟨rfl, rfl⟩, rfl, rfl, na, rfl, bare, T, q⟩
  by_cases ca : c = a
  · rw [ca, gone] at z
    cases z
  · rw [← same c ca]
    exact z
theorem pmk_own0x {x : Str} {p pos : Pos} {j : Nat} (O : OwnX0 X.prog X.w X.K X.mg X.base x C) (hr : Room j X.A) (hj : 3 ≤ j) (hg : Gl X x) (hdb : (x == ("__debug__" : Str)) = false := by decide) : PMk X (.Call (.Name x p) [] [] pos) (fun _ H Q => Q (.ref C) none H) := by
  obtain ⟨fI, fd, ps, F1, iC, tI, hb⟩ := O.ex
  have T := O.o
  intro pins s σ H Q I h
  obtain ⟨n0, q0, N0, b0, bm, sn, sub, aB, cO, dD, k0, k1, k2, k3, k5, hC, hbm⟩ := T.cls
  refine wpAny_Call_Name_kw (ld_glob I hg O.m ?_ hdb)
  refine PySem.W.callWith_K0 I.kIn T.kC ?_
  show wpAny _ _ (call (.ref C) []) _ _ _
  obtain ⟨hp, g, dr, tk, os⟩ := s
  have two : hp.objs.size ≤ hp.objs.size + 1 := Nat.le_succ _
  have grown : ∀ c o, hp.get? c = some o → ((hp.push (PySem.W.kdv_tup [])).push (PySem.HandSPX.excO C hp.objs.size)).get? c = some o := fun c o e => Heap.get?_push_of_some _ (Heap.get?_push_of_some _ e)
  have here : ((hp.push (PySem.W.kdv_tup [])).push (PySem.HandSPX.excO C hp.objs.size)).get? (hp.objs.size + 1) = some (PySem.HandSPX.excO C hp.objs.size) := by heap_get
  have I2 : Inv X pins σ (upd H (hp.objs.size + 1) (exo (hp.objs.size + 1) C none)) ⟨(hp.push (PySem.W.kdv_tup [])).push (PySem.HandSPX.excO C hp.objs.size), g, dr, tk, os⟩ := I.laid (t' := tk) grown two (exo_ok here)
  have asked : spSup0 C [.ref (hp.objs.size + 1)] (upd H (hp.objs.size + 1) (exo (hp.objs.size + 1) C none)) (fun v H2 => v = .non ∧ H2 = upd H (hp.objs.size + 1) (exo (hp.objs.size + 1) C none)) (fun _ _ _ => False) := ⟨_, rfl, upd_same, rfl, rfl⟩
  have one : ([Value.ref (hp.objs.size + 1)] : List Value).length = ps.length := F1.len _ _ _ _ asked
  refine wpAny_call (PySem.HandSPX.call_own F.excBase_ValueError (fun Y => PySem.HandSPX.refsVE_contains Y bm hbm) (I.kIn _ _ hC) (PySem.W.looks_findIn I.kIn iC) (fun self => PySem.W.bind_fn I.kIn self tI) (by show 0 ≤ sizeLine; exact Nat.zero_le _)
    (codeAny_mono (F1.run _ X.stack _ _ ⟨[Value.ref (hp.objs.size + 1)], []⟩ [Value.ref (hp.objs.size + 1)] [.ref (hp.objs.size + 1)] _ (fun _ _ _ => False) ((hr.mono hj).make C [] []) (I2.env0.make C [] []) (by have z := hb _ [Value.ref (hp.objs.size + 1)] I2.kIn one; rwa [List.append_nil] at z) (.cons rfl .nil) asked) fun r s' hq => ?_))
  cases r with
  | error er => exact pass0 pins σ _ _ er s' I2 hq
  | ok fl =>
    cases fl with
    | ret u =>
      obtain ⟨v, H2, os2, bare2, un2, hok2, rv, ev, eH⟩ := hq
      subst ev eH
      obtain ⟨h2, g2, d2, t2, os'⟩ := s'
      exact ⟨rv, bare_end (raises_own T.exC T.tyC) I two grown un2 hok2 os2 bare2 h⟩
    | next => exact False.elim hq
    | brk => exact False.elim hq
    | cont => exact False.elim hq
end
end VL

/-! try with more than one clause, each with a name of its own -/
namespace VL
open PySem PySem.Spec PyProof.Rows L2
/-- the exception came down in the frame of the try -/
structure Down (X : Cx) (pins : List (Addr × Obj)) (a : Addr) (cls : Value) (d : Option Addr) (σ : L2.St) (H : Hp) (s : Shared) : Prop where
  ex : ∃ (B : Heap) (sI : Shared), Inv X pins σ H sI ∧ (∀ c o, sI.heap.get? c = some o → c ∉ frs X.stack → B.get? c = some o) ∧ sI.heap.UpToSlots s.heap ∧ HandSPX.FlyingZ B (X.env :: X.outer) a (Zc cls d) s.heap ∧ H a = none ∧ s.os = sI.os ∧ AllBare s.gens
/-- the clauses do what is wished of them -/
def Clauses (X : Cx) (hds : List ExceptHandler) (w : Ends → WX) : Prop := ∀ {pins : List (Addr × Obj)} {a : Addr} {cls : Value} {d : Option Addr} {σ : L2.St} {H : Hp} {s : Shared} {D : Ends}, Down X pins a cls d σ H s → w D cls d σ H →
  wpAny (model X.prog X.w) X.A (handleBy (.ref a) X.env hds) (SP X pins D) X.xe s
section
variable {X : Cx} {pins : List (Addr × Obj)} {a : Addr} {cls : Value} {d : Option Addr} {σ : L2.St} {H : Hp} {s : Shared} {x n : Str} {c : Value} {k : Nat} {body suite : List Stmt} {b0 : Stmt} {np pos pos' : Pos} {tb : WX → TS} {ts : Addr → Value → Option Addr → TS} {Wout : WX} {h0 : ExceptHandler} {hds : List ExceptHandler} {w : Ends → WX}
/-- what is there of it, and that it is no frame -/
theorem Down.seen (T : Down X pins a cls d σ H s) (hs : X.stack = X.env :: X.outer) (hf : X.env.frame = some X.env.locals) : ∃ oe vs, s.heap.get? a = some oe ∧ Zc cls d oe ∧ oe.data = .fields vs ∧ Inv X pins σ H s ∧ Inv (X.suite a ((a, oe) :: (X.pn ++ pins))) [] σ H s := by
  obtain ⟨B, sI, I, nb, up, fl, na, os, ag⟩ := T.ex
  obtain ⟨oe, vs, ge, ze, de⟩ := fl.there
  have out : a ∉ frs (X.env :: X.outer) := fun m => by
    obtain ⟨_, o2, g2, bad⟩ := fl.2.2.1.mem m
    rw [ge] at g2
    cases g2
    exact bad _ de
  have J := I.landed nb fl.1 up os ag
  refine ⟨oe, vs, ge, ze, de, J, J.suite ge de na (fun z => ?_) fun m => ?_⟩
  · exact out (List.mem_filterMap.mpr ⟨X.env, List.mem_cons_self, hf.trans (congrArg some z.symm)⟩)
  · obtain ⟨e, me, fe⟩ := List.mem_filterMap.mp m
    exact out (List.mem_filterMap.mpr ⟨e, List.mem_cons_of_mem _ me, fe⟩)
theorem cl_nil (hs : X.stack = X.env :: X.outer) (hf : X.env.frame = some X.env.locals) (tk : Takes X Wout) : Clauses X [] (fun _ => Wout) := by
  intro pins a cls d σ H s D T wish
  obtain ⟨B, sI, I, nb, up, fl, na, os, ag⟩ := T.ex
  refine wpAny_handleBy_nil ?_
  obtain ⟨_, _, _, oe, vs, tr, _, _, ge, _, de, one, _⟩ := id fl
  unfold PySem.passOn
  refine wpAny_bind (wpAny_field ge de one ?_)
  rw [if_neg (by simp : ¬ ((Value.ref tr == Value.none) = true))]
  have away : wpAny (model X.prog X.w) X.A (setFlight (.ref a) X.env.frame) (fun _ s2 => wpAny (model X.prog X.w) X.A (throw (.ref a) : Sem Flow) (SP X pins D) X.xe s2) X.xe s := by
    rw [hf]
    refine HandSPX.setFlight_upZ fl fun h2 held up2 => wpAny_throw (tk _ _ ⟨a, B, sI, pins, σ, H, cls, d, rfl, I, nb, up.trans up2, .inr (.inr ?_), na, os, ag, wish⟩)
    rw [hs]
    exact held
  first
    | exact wpAny_bind (wpAny_pure (wpAny_bind away))
    | exact wpAny_bind away
theorem cl_as (hs : X.stack = X.env :: X.outer) (hf : X.env.frame = some X.env.locals) (hN : X.N.Nodup) (hi : X.N[k]? = some n) (hln : X.env.kindOf n = some .local) (hc : Names X x c)
    (hsu : ∀ a oe cls d pn, Zc cls d oe → (∃ vs, oe.data = .fields vs) → PSs (X.suite a ((a, oe) :: pn)) (b0 :: suite) (ts a cls d)) (rest : Clauses X hds w) :
    Clauses X (.ExceptHandler (some (.Name x np)) (some n) (b0 :: suite) pos' :: hds) (fun D => wAs X.K c k ts (w D) D) := by
  intro pins a cls d σ H s D T wish
  obtain ⟨b, isOf, yes, no⟩ := wish
  obtain ⟨oe, vs, ge, ze, de, J, Js⟩ := T.seen hs hf
  refine wpAny_handleBy_cons (codeAny_handlers_test ?_) (fun z => nomatch z)
  have class_ : PySem.W.Looks (model X.prog X.w) s.heap (typeOf (.ref a)) cls := fun A Q E s2 kp q => wpAny_typeOf_ref (kp _ _ ge) (by rw [ze.1]; exact q)
  have M := PySem.W.exm_one (M := model X.prog X.w) J.kIn class_ isOf
  have named : ∀ {Q E : Value → Shared → Prop}, Q c s → wpAny (model X.prog X.w) (X.A.mark (some (.ref a))) (eval (.Name x np) X.env) Q E s := fun {Q E} q => by
    obtain ⟨g, db, m | ⟨m, v, nn⟩⟩ := hc
    · exact ld_glob (X := X.suite a ((a, oe) :: (X.pn ++ pins))) Js g m q db
    · exact ld_blt (X := X.suite a ((a, oe) :: (X.pn ++ pins))) Js g m v q nn db
  refine named (M.here ?_)
  obtain ⟨B, sI, I, nb, up, fl, na, os, ag⟩ := T.ex
  cases b with
  | false => exact rest T (no rfl)
  | true =>
    refine codeAny_handlers_suite_as (HandSPX.lands_againZ fl fun h2 fl2 up2 => ?_)
    have T2 : Down X pins a cls d σ H { s with heap := h2 } := ⟨B, sI, I, nb, up.trans up2, fl2, na, os, ag⟩
    obtain ⟨oe2, vs2, ge2, ze2, de2, J2, Js2⟩ := T2.seen hs hf
    refine store_ok (X := X.suite a ((a, oe2) :: (X.pn ++ pins))) (v := .ref a) Js2 hN hi (.inl hln) rfl (fun s3 Js3 => ?_) (.inr hln)
    have over : ∀ {σ4 : L2.St} {H4 : Hp} {s4 : Shared} {Q : Shared → Prop}, Inv (X.suite a ((a, oe2) :: (X.pn ++ pins))) [] σ4 H4 s4 → (∀ s5, Inv X pins (σ4.set k none) H4 s5 → Q s5) →
        wpAny (model X.prog X.w) X.A (do bindName X.env n .none; unbindBehindTheSuite X.env n pos') (fun _ s5 => Q s5) X.xe s4 := fun {_ _ _ _} J4 q => gone_ok (J4.unsuite J.ok) hN hi hln q
    refine wpAny_mono ((hsu a oe2 cls d (X.pn ++ pins) ze2 ⟨vs2, de2⟩).run [] s3 _ H _ Js3 (yes rfl a na)) (fun fw s4 said => ?_) fun _ _ z => z.elim
    cases fw with
    | ret u =>
      obtain ⟨v4, σ4, H4, J4, r4, q4⟩ := said
      exact over J4 fun s5 J5 => ⟨_, _, _, J5, r4, q4⟩
    | next =>
      obtain ⟨σ4, H4, J4, q4⟩ := said
      exact over J4 fun s5 J5 => ⟨_, _, J5, q4⟩
    | brk =>
      obtain ⟨σ4, H4, J4, q4⟩ := said
      exact over J4 fun s5 J5 => ⟨_, _, J5, q4⟩
    | cont =>
      obtain ⟨σ4, H4, J4, q4⟩ := said
      exact over J4 fun s5 J5 => ⟨_, _, J5, q4⟩
theorem ps_tryC (hs : X.stack = X.env :: X.outer) (hf : X.env.frame = some X.env.locals)
    (hb : ∀ W pn xe, Takes (X.tr pn xe) W → PassesOwn (model X.prog X.w) X.A X.env xe → PSs (X.tr pn xe) body (tb W)) (hh : Clauses X (h0 :: hds) w) :
    PS X (.Try body (h0 :: hds) [] [] pos) (fun D σ H => tb (w D) D σ H) := by
  refine ⟨fun pins s σ H D I h => wpAny_Try_except (wpAny_mono ((hb (w D) (X.pn ++ pins) (fun e s1 => wpAny (model X.prog X.w) X.A (noteFrame e X.env) (fun _ s2 => wpAny (model X.prog X.w) X.A (setFlight e none) (fun _ s3 =>
    wpAny (model X.prog X.w) X.A (handleBy e X.env (h0 :: hds)) (SP X pins D) X.xe s3) X.xe s2) X.xe s1) (fun u s2 thrown => ?_) PassesOwn.looking).run [] s σ H D (I.toTry _) h) (fun fw s2 said => ?_) fun _ _ z => z)⟩
  · obtain ⟨a, B, sI, pins2, σ2, H2, cls, d, rfl, J, nb, up, sky, na, os, ag, wish⟩ := thrown
    have at_ : Sky B (X.env :: X.outer) a (Zc cls d) X.env.locals s2.heap := by
      rw [← hs]
      exact sky
    refine Sky.land Zc.steady (I.ok.frames.trans (congrArg some hs)) hf at_ fun h3 fl up3 => hh ?_ wish
    exact ⟨B, sI, J.ofTry I.ok, nb, up.trans up3, fl, na, os, ag⟩
  · cases fw with
    | ret u =>
      obtain ⟨v, σ2, H2, J, r, q⟩ := said
      exact ⟨v, σ2, H2, J.ofTry I.ok, r, q⟩
    | next =>
      obtain ⟨σ2, H2, J, q⟩ := said
      exact wpAny_execs_nil ⟨σ2, H2, J.ofTry I.ok, q⟩
    | brk =>
      obtain ⟨σ2, H2, J, q⟩ := said
      exact ⟨σ2, H2, J.ofTry I.ok, q⟩
    | cont =>
      obtain ⟨σ2, H2, J, q⟩ := said
      exact ⟨σ2, H2, J.ofTry I.ok, q⟩
end
end VL

/-! the data layer: raise X() without fields, several clauses with names -/
namespace DL
open PySem PySem.Spec PyProof.Rows L2 VL
open C8 (Cal Met)
theorem call_isA0 {X : Cx} {a : Addr} {cls : Value} {d : Option Addr} {oe : Obj} {pn : List (Addr × Obj)} (hz : Zc cls d oe) (hf : ∃ vs, oe.data = .fields vs) : CallR (X.suite a ((a, oe) :: pn)) (.builtin "isinstance") (fun xs H Q => ∃ D, cls = .ref D ∧ d = none ∧ ExcC X.K D ∧ rIsE X.K D a xs H Q) := fun pins s σ H xs us Q J r ⟨D, e1, e2, c, h⟩ => by
  subst e1 e2
  exact call_isE c hz hf pins s σ H xs us Q J r h
section
variable {ci : CI} {K : PySem.W.Frag} {ι : Type} {𝒳 : ι → Cx} {𝒲 : ι → WX} {a : Addr} {cls : Value} {d : Option Addr} {e : Expr} {ta : TD} {pos p q : Pos} {SE : Addr}
/-- isinstance(e, S), e an error without fields -/
theorem de_isE0 (K : PySem.W.Frag) {y : Str} (hm : ∀ i, (𝒳 i).mg "isinstance" = none) (hy : ∀ i, (𝒳 i).mg y = some (.ref SE)) (ha : DE ci (suX 𝒳 a cls d) e ta)
    (hg : ∀ i, Gl (suX 𝒳 a cls d i) "isinstance" := by intro _; rfl) (hg2 : ∀ i, Gl (suX 𝒳 a cls d i) y := by intro _; rfl) (hK : ∀ i, (𝒳 i).K = K := by intro _; rfl) (hd : (y == ("__debug__" : Str)) = false := by decide)
    (he : ∀ i, starEach [e, .Name y q] (suX 𝒳 a cls d i).env = (false, eval e (suX 𝒳 a cls d i).env) :: starEach [.Name y q] (suX 𝒳 a cls d i).env := by intro _; rfl) (he2 : ∀ i, starEach [.Name y q] (suX 𝒳 a cls d i).env = (false, eval (.Name y q) (suX 𝒳 a cls d i).env) :: starEach [] (suX 𝒳 a cls d i).env := by intro _; rfl)
    (hpl : ∀ i, (backTo pos (starEach [.Name y q] (suX 𝒳 a cls d i).env)).any (·.1) = false := by intro _; rfl) : DE ci (suX 𝒳 a cls d) (.Call (.Name "isinstance" p) [e, .Name y q] [] pos)
      (fun ρ R => ta ρ fun r => r = .d (.ref a) ∧ ∃ C b, cls = .ref C ∧ d = none ∧ ExcC K C ∧ PySem.W.kitOne K (.ref C) (.ref SE) = some b ∧ R (.d (.bl b))) := by
  obtain ⟨t1, p1, h1⟩ := ha.ex
  refine ⟨tCB (fun xs H Q => ∃ D, cls = .ref D ∧ d = none ∧ ExcC K D ∧ rIsE K D a xs H Q) (tCons t1 (tCons (tC (.ref SE)) tNil)), fun i => pe_callB (by have z := call_isA0 (X := 𝒳 i.i) (a := a) (pn := i.pn) i.hz i.hf; rw [hK i.i] at z; exact z) (hg i) (hm i.i) (by decide +kernel) (pa_cons (p1 i) (pa_cons (pe_glob (v := .ref SE) (hg2 i) (hy i.i) rfl hd) pa_nil (he2 i)) (he i)) (by decide) (by decide) (he i) (hpl i), fun b L F0 H0 ρ σ F H R Q S h q => ?_⟩
  refine h1 b L F0 H0 ρ σ F H _ _ S h fun v H1 F1 r1 x1 rep1 _ k1 => ?_
  obtain ⟨rfl, C, bb, ec, ed, xc, kk, k1⟩ := k1
  cases (show Rep ci F1 (.ref a) v from rep1)
  exact ⟨C, ec, ed, xc, .ref SE, .ref SE, bb, rfl, fun _ z => z, kk, q.d x1 (Rep.bl bb) k1⟩
/-- raise x(), x an own exception without fields -/
theorem dsx_raise0 {x : Str} {C : Addr} {pos2 : Pos} {j : Nat} (tk : ∀ i, Takes (𝒳 i) (𝒲 i)) (hcalm : ∀ i, (𝒳 i).calm = true) (O : ∀ i, OwnX0 (𝒳 i).prog (𝒳 i).w (𝒳 i).K (𝒳 i).mg (𝒳 i).base x C) (hr : ∀ i, Room j (𝒳 i).A) (hj : 3 ≤ j) (hg : ∀ i, Gl (𝒳 i) x := by intro _; rfl) (hdb : (x == ("__debug__" : Str)) = false := by decide) :
    DSX ci 𝒳 𝒲 (.Raise (some (.Call (.Name x p) [] [] pos)) none pos2) (fun DD X ρ => X ρ C [] []) :=
  ⟨fun W _ σ H => W (.ref C) none σ H, fun i => ps_raise (hcalm i) (tk i) (pmk_own0x (O i) (hr i) hj (hg i) hdb), fun W b L F0 H0 ρ σ F H DD X E S h q qx => qx ρ σ F H C none [] [] S (Same.refl _) (.inr ⟨rfl, rfl, rfl⟩) h⟩
end
open NdefX (NScope nscope_by ncx envF startF) in
/-- an own exception without fields, out of its text -/
theorem ok_own0 {P : Program} {w : World} {K : PySem.W.Frag} {mg : Str → Option Value} {base : Heap} {f C cc cda : Addr} {qual ms : Str} {st : Stmt} {dV kV doc pm ct oc : Value} {an od : Option Addr} {osl : Array (Option Value)} {ar : Arg} {p0 p1 p2 p3 p4 p5 : Pos} {j : Nat}
    (body0 : defBody st = [.Expr (.Call (.Attribute (.Call (.Name "super" p0) [] [] p1) "__init__" p2) [.Constant (.str ms) j p3] [] p4) p5])
    (lk : K.lookup f = some ⟨oc, od, .func (PySem.W.ksFn "__init__" qual (defArgs st) (defBody st) (defScope st) dV kV doc pm an (.ref cda) ct cc), osl⟩) (code : PySem.W.codeIn K (.ref cda) qual = true) (S : NScope ["self", "__class__"] ["self"] ["__class__"] (defScope st))
    (first : ((defArgs st).posonlyargs ++ (defArgs st).args).head? = some ar) (self : ar.arg = "self") (sup : (defScope st).names.lookup ("super" : Str) = some .globalImplicit) (T : SupC P K mg C cc cda) (line : p2.endLine = p4.line) :
    FnOk P w K mg base CX0 2 f (PySem.W.ksFn "__init__" qual (defArgs st) (defBody st) (defScope st) dV kV doc pm an (.ref cda) ct cc) ["self"] (spSup0 C) :=
  fn_super (ps := []) (k := 1) body0 lk code S first self sup T line (fun A outer s H vs Q E hr ⟨a, ev, ha, q⟩ => ⟨a, [], ev, rfl, ha, _, pss_nil, q⟩) (fun vs H Q E ⟨a, ev, _⟩ => by rw [ev]; rfl)
/-- the clauses over data: what is wished of an error with these fields -/
structure DCl (ci : CI) {ι : Type} (𝒳 : ι → Cx) (hds : List ExceptHandler) (t : DEnds → List Sl → ExP) : Prop where
  ex : ∃ w : Ends → WX, (∀ i, Clauses (𝒳 i) hds w) ∧ ∀ (b L : Addr) (F0 H0 : Hp) (ρ : List Sl) (σ : L2.St) (F H : Hp) (DD : DEnds) (E : Ends) (C : Addr) (dd : Option Addr) (fs : List Str) (xs : List D), StRep ci b L F0 H0 ρ σ F H → EOk ci b L F0 H0 F DD E → XD ci F H H0 dd fs xs → t DD ρ C fs xs → w E (.ref C) dd σ H
section
variable {ci : CI} {K : PySem.W.Frag} {ι : Type} {𝒳 : ι → Cx} {body suite : List Stmt} {b0 : Stmt} {np pos pos' : Pos} {x n : Str} {c : Addr} {tb : TDSX} {th : Addr → Value → Option Addr → TDS} {h0 : ExceptHandler} {hds : List ExceptHandler} {t : DEnds → List Sl → ExP}
theorem dcl_nil (hs : ∀ i, (𝒳 i).stack = (𝒳 i).env :: (𝒳 i).outer := by intro _; rfl) (hf : ∀ i, (𝒳 i).env.frame = some (𝒳 i).env.locals := by intro _; rfl) : DCl ci 𝒳 [] (fun _ _ _ _ _ => False) :=
  ⟨fun _ _ _ _ _ => False, fun i => cl_nil (hs i) (hf i) takesF, fun _ _ _ _ _ _ _ _ _ _ _ _ _ _ _ _ _ z => z⟩
theorem dcl_as (K : PySem.W.Frag) (k : Nat) (hN : ∀ i, (𝒳 i).N.Nodup) (hm : ∀ i, (𝒳 i).mg x = some (.ref c)) (hh : ∀ a cls d, DSs ci (suX 𝒳 a cls d) (b0 :: suite) (th a cls d)) (rest : DCl ci 𝒳 hds t) (hK : ∀ i, (𝒳 i).K = K := by intro _; rfl)
    (hg : ∀ i, Gl (𝒳 i) x := by intro _; rfl) (hdb : (x == ("__debug__" : Str)) = false := by decide) (hi : ∀ i, (𝒳 i).N[k]? = some n := by intro _; rfl) (hs : ∀ i, (𝒳 i).stack = (𝒳 i).env :: (𝒳 i).outer := by intro _; rfl) (hf : ∀ i, (𝒳 i).env.frame = some (𝒳 i).env.locals := by intro _; rfl) (hln : ∀ i, (𝒳 i).env.kindOf n = some .local := by intro _; rfl) :
    DCl ci 𝒳 (.ExceptHandler (some (.Name x np)) (some n) (b0 :: suite) pos' :: hds) (fun DD ρ C fs xs => ∃ b, PySem.W.exmOne K (.ref C) (.ref c) = some b ∧ (b = false → t DD ρ C fs xs) ∧ (b = true → match fs with
      | [] => ∀ a, th a (.ref C) none { nx := fun _ => False, rt := DD.rt } (ρ.set k (.d (.ref a)))
      | f :: fr => ∀ a d, th a (.ref C) (some d) { nx := fun _ => False, rt := DD.rt } (ρ.set k (.d (.err a C d (f :: fr) xs))))) := by
  have hx := fun a cls d => (hh a cls d).ex
  obtain ⟨w, pw, qw⟩ := rest.ex
  refine ⟨fun D => wAs K (.ref c) k (fun a cls d => (hx a cls d).choose) (w D) D, fun i => ?_, fun b L F0 H0 ρ σ F H DD E C dd fs xs S q zz k1 => ?_⟩
  · rw [← hK i]
    exact cl_as (hs i) (hf i) (hN i) (hi i) (hln i) ⟨hg i, hdb, .inl (hm i)⟩ (fun a oe cls d pn hz hf => (hx a cls d).choose_spec.1 ⟨i, oe, pn, hz, hf⟩) (pw i)
  · obtain ⟨bb, ex, hno, hth⟩ := k1
    refine ⟨bb, ex, fun yes a na => ?_, fun no => qw b L F0 H0 ρ σ F H DD E C dd fs xs S q zz (hno no)⟩
    have hth := hth yes
    have fin : ∀ {y : D} {F2 : Hp}, StRep ci b L F0 H0 ρ σ F2 H → Rep ci F2 y (.ref a) → StRep ci b L F0 H0 (ρ.set k (.d y)) (σ.set k (some (.ref a))) F2 H := fun {y F2} S2 rp => by
      by_cases hk : k < σ.length
      · exact S2.set hk rp Fresh.d (fun _ z => nomatch z) (fun _ _ z => nomatch z)
      · rw [List.set_eq_of_length_le (by rw [S2.len]; omega), List.set_eq_of_length_le (by omega)]
        exact S2
    rcases zz with ⟨d, ws, rfl, fne, e, l, r, nF, n0⟩ | ⟨rfl, rfl, rfl⟩
    · have S2 := S.fix n0 nF e (fun _ z => nomatch z)
      have r2 := r.mono (same_upd (o := .xd (fs.zip ws)) nF)
      have rp : Rep ci (upd F d (.xd (fs.zip ws))) (.err a C d fs xs) (.ref a) := .err upd_same l r2.1 r2.2
      cases fs with
      | nil => exact absurd rfl fne
      | cons f fr => exact (hx a (.ref C) (some d)).choose_spec.2 b L F0 H0 _ _ _ H _ _ (fin S2 rp) (hth a d) ⟨fun _ _ _ _ _ _ z => z.elim, fun _ _ _ _ _ _ z => z.elim, fun _ _ _ _ _ _ z => z.elim, q.rt⟩
    · exact (hx a (.ref C) none).choose_spec.2 b L F0 H0 _ _ _ H _ _ (fin S (Rep.ref a)) (hth a) ⟨fun _ _ _ _ _ _ z => z.elim, fun _ _ _ _ _ _ z => z.elim, fun _ _ _ _ _ _ z => z.elim, q.rt⟩
theorem ds_tryC (hb : DSsX ci (trX 𝒳) trW body tb) (hc : DCl ci 𝒳 (h0 :: hds) t) (hs : ∀ i, (𝒳 i).stack = (𝒳 i).env :: (𝒳 i).outer := by intro _; rfl) (hf : ∀ i, (𝒳 i).env.frame = some (𝒳 i).env.locals := by intro _; rfl) :
    DS ci 𝒳 (.Try body (h0 :: hds) [] [] pos) (fun DD ρ => tb DD (t DD) ρ) := by
  obtain ⟨t1, p1, q1⟩ := hb.ex
  obtain ⟨w, pw, qw⟩ := hc.ex
  refine ⟨fun D σ H => t1 (w D) D σ H, fun i => ps_tryC (hs i) (hf i) (fun W pn xe tk _ => p1 ⟨i, W, pn, xe, tk⟩) (pw i), fun b L F0 H0 ρ σ F H DD E S h q => ?_⟩
  exact q1 _ b L F0 H0 ρ σ F H DD _ E S h q fun ρ' σ' F' H' C dd fs xs S' sm zz k1 => qw b L F0 H0 ρ' σ' F' H' DD E C dd fs xs S' (q.mono sm) zz k1
end
end DL

/-! the data layer: a + b by an own def that may raise -/
namespace DL
open PySem PySem.Spec PyProof.Rows L2 VL
open C8 (Cal Met)
/-- the class has its own def for the operator -/
structure OpO (K : PySem.W.Frag) (C : Addr) (m : Str) (f : Addr) : Prop where
  at_ : PySem.W.findIn K (.ref C) m = some (some (.ref f))
  fn : PySem.W.isFn K (.ref f) = true
  own : PySem.W.selfFirst K C = true
def rBinT (C : Addr) (sp : Sp) (E : XK) : R2 := fun x y H Q => ∃ (a dx b dy : Addr) (fs gs : List (Str × V)), x = .ref a ∧ H a = some (.ins C dx fs) ∧ y = .ref b ∧ H b = some (.ins C dy gs) ∧ sp [.ref a, .ref b] H (fun v H' => (∃ c, v = .ref c) ∧ Q v H') E
theorem pe_opT {X : Cx} {k : Nat} {C f : Addr} {m : Str} {sp : Sp} {W : WX} {op : Operator} {a c : Expr} {ta tb : TE} {pos : Pos} (tk : Takes X W) (O : OpO X.K C m f) (hm : PySem.dunder op.info.2 = m) (F : FnR X.prog X.w X.K X.mg X.base (L2.CX X.prog X.w) k f sp) (hr : Room k X.A) (ha : PE X a ta) (hc : PE X c tb) :
    PE X (.BinOp a op c pos) (fun σ H Q => tOp (rBinT C sp (WE W σ)) ta tb σ H Q) := by
  refine ⟨fun pins s σ H Q I h => wpAny_BinOp (binT ha hc I h fun v u s2 x y H2 J rx ry q => ?_)⟩
  obtain ⟨a1, d1, b1, d2, fs, gs, rfl, h1, rfl, h2, q⟩ := q
  cases rx
  cases ry
  obtain ⟨_, A1, _⟩ := ins_get J.hok h1
  obtain ⟨_, A1, _⟩ := A1.look
  obtain ⟨_, B1, _⟩ := ins_get J.hok h2
  obtain ⟨_, B1, _⟩ := B1.look
  obtain ⟨mm, fr⟩ := J.fr
  refine PySem.W.binop_K fr J.ok.mod.kin A1 B1.type O.own (by rw [hm]; exact O.at_) O.fn (thn (call_T tk F hr J (vs := [.ref a1, .ref b1]) (us := [.ref a1, .ref b1]) (.cons rfl (.cons rfl .nil)) q) fun w s3 ⟨z, H3, J3, rz, ⟨c0, ez⟩, q3⟩ => ?_)
  subst ez
  cases rz
  exact ⟨.ref c0, H3, J3, rfl, q3⟩
section
variable {ci : CI} {K : PySem.W.Frag} {ι : Type} {𝒳 : ι → Cx} {𝒲 : ι → WX} {C f : Addr} {a c : Expr} {ta tb : TD} {pos : Pos} {m : Str} {k : Nat} {s : DSpX}
theorem dex_opO {op : Operator} (K : PySem.W.Frag) (tk : ∀ i, Takes (𝒳 i) (𝒲 i)) (O : OpO K C m f) (hm : PySem.dunder op.info.2 = m) (Fn : ∀ i, FnR (𝒳 i).prog (𝒳 i).w K (𝒳 i).mg (𝒳 i).base (L2.CX (𝒳 i).prog (𝒳 i).w) k f (liftX ci s)) (hr : ∀ i, Room k (𝒳 i).A) (ha : DE ci (fun i => (𝒳 i).nox) a ta) (hc : DE ci (fun i => (𝒳 i).nox) c tb) (hK : ∀ i, (𝒳 i).K = K := by intro _; rfl) :
    DEX ci 𝒳 𝒲 (.BinOp a op c pos) (fun ρ R X => ta ρ fun r => withV r fun x => ∃ fs xs, x = .ins C fs xs ∧ tb ρ fun q => withV q fun y => ∃ gs ys, y = .ins C gs ys ∧ s [.d x, .d y] (fun r => ∃ z, r = .d z ∧ refD z = true ∧ R (.d z)) X) := by
  obtain ⟨t1, p1, h1⟩ := ha.ex
  obtain ⟨t2, p2, h2⟩ := hc.ex
  refine ⟨fun W => fun σ H Q => tOp (rBinT C (liftX ci s) (WE W σ)) t1 t2 σ H Q, fun i => pe_opT (tk i) ((hK i).symm ▸ O) hm ((hK i).symm ▸ Fn i) (hr i) (p1 i).nox (p2 i).nox, fun W b L F0 H0 ρ σ F H R X Q S h q qx => ?_⟩
  refine h1 b L F0 H0 ρ σ F H _ _ S h fun v H1 F1 r1 x1 rep1 _ k1 => ?_
  obtain ⟨x, rx, fs, xs, rfl, k1⟩ := withV_of rep1 k1
  refine h2 b L F0 H0 ρ σ F1 H1 _ _ (S.go x1) k1 fun w H2 F2 r2 x2 rep2 _ k2 => ?_
  obtain ⟨y, ry, gs, ys, rfl, k2⟩ := withV_of rep2 k2
  have rx := (vr_ins rx).mono x2.ff
  have ry := vr_ins ry
  obtain ⟨a, dx, us, rfl, hh⟩ := rep_ins rx
  obtain ⟨b', dy, us', rfl, hh'⟩ := rep_ins ry
  refine ⟨a, dx, b', dy, us, us', rfl, x2.s1 _ _ hh, rfl, x2.s1 _ _ hh', liftX_go ((S.go x1).go x2) (.cons (r := .d (.ins C fs xs)) rx (.cons (r := .d (.ins C gs ys)) ry .nil)) (nm2 (fun _ z => nomatch z) fun _ z => nomatch z) k2 (fun v3 H3 F3 r3 x3 rep3 fr3 k3 => ?_) (qx.mono (x1.trans x2))⟩
  obtain ⟨z, rfl, ez, k3⟩ := k3
  exact ⟨rep_ref rep3 ez, q v3 H3 F3 (.d z) ((x1.trans x2).trans x3) rep3 Fresh.d k3⟩
end
end DL

/-! the data layer: == of two dicts that are equal, whose values are data -/
namespace DL
open PySem PySem.Spec PyProof.Rows L2 VL
open C8 (Cal Met)
/-- the same data, by itself equal -/
def SameV (K : PySem.W.Frag) (H : Hp) (x y : V) : Prop := ∃ d, Dp K H x d ∧ Dp K H y d ∧ SeqAt.shaped d = true ∧ PyData.eqv d d = true
def rEqDct (K : PySem.W.Frag) : R2 := fun x y H Q => ∃ a b ks ls, x = .ref a ∧ y = .ref b ∧ H a = some (.dK ks) ∧ H b = some (.dK ls) ∧ ks.length = ls.length ∧ (∀ p ∈ ks, ∃ u, valV ls p.1 = some u ∧ SameV K H p.2 u) ∧ Q (.bl true) H
section
variable {X : Cx} {pins : List (Addr × Obj)} {σ : L2.St} {H : Hp} {s : Shared}
theorem hits_of (I : Inv X pins σ H s) {A : Around} (hu : A.units + 64 < cLine) {ls : List (Key × V)} {vb : List (Key × Value)} (rb : KV ls vb) : ∀ {ks : List (Key × V)} {va : List (Key × Value)}, KV ks va → (∀ p ∈ ks, ∃ u, valV ls p.1 = some u ∧ SameV X.K H p.2 u) → PySem.W.KeqHits A s vb va true := by
  intro ks va ra
  unfold KV at ra
  induction ra with
  | nil => exact fun _ => .nil
  | @cons p q ps qs one more ih =>
    intro all
    obtain ⟨ke, rv⟩ := one
    obtain ⟨u, eu, d, dp, du, sh, ee⟩ := all p List.mem_cons_self
    have there : RelO (some u) (valueAt vb p.1) := eu ▸ rb.val p.1
    obtain ⟨y, hy, ry⟩ := there.some_of
    obtain ⟨qk, qv⟩ := q
    cases (show p.1 = qk from ke)
    obtain ⟨as, r1⟩ := Dp.reads I d _ _ dp rv
    obtain ⟨bs, r2⟩ := Dp.reads I d _ _ du ry
    have e1 := SeqAt.eqAt_reads d d A s qv y as bs r1 r2 (SeqAt.canLay_of_shaped sh) (SeqAt.canLay_of_shaped sh) (SeqAt.room_of_shaped sh hu)
    rw [ee] at e1
    exact .hit (b := true) (e := true) hy e1 (ih fun p2 m => all p2 (List.mem_cons_of_mem _ m))
theorem op_eqDct (hu : X.A.units + 65 < cLine) : OpR X (compareOp .Eq) (rEqDct X.K) := fun pins s σ H x y v u Q I rx ry h => by
  obtain ⟨a, b, ks, ls, rfl, rfl, ha, hb, hl, all, q⟩ := h
  cases rx
  cases ry
  obtain ⟨_, na, va, ra, da⟩ := (show ObjOk X.prog X.w H s.heap a (.dK ks) from I.hok a _ ha)
  obtain ⟨_, nb, vb, rb, db⟩ := (show ObjOk X.prog X.w H s.heap b (.dK ls) from I.hok b _ hb)
  have same : va.length = vb.length := ra.length.symm.trans (hl.trans rb.length)
  exact PySem.W.keq_eq (knd := mixKind X.prog X.w) (r := true) na nb da db (by omega) (fun _ => hits_of I (by show X.A.units + 1 + 64 < cLine; omega) rb ra all) (fin_bl I q (by simp [same]))
end
def eqDF : F2 := fun x y R => ∃ ks xs, x = .dct ks xs ∧ y = .dct ks xs ∧ ks.Nodup ∧ (∀ z ∈ xs, ∃ d, Py z d ∧ SeqAt.shaped d = true ∧ PyData.eqv d d = true) ∧ R (.d (.bl true))
section
variable {ci : CI} {K : PySem.W.Frag} {ι : Type} {𝒳 : ι → Cx} {a c : Expr} {ta tb : TD} {pos : Pos}
theorem bin_eqDct : Bin ci (rEqDct K) eqDF := by
  intro b L F H x y v w R Q fr hx hy h q
  obtain ⟨ks, xs, rfl, rfl, nd, all, k⟩ := h
  have hx : Rep ci F (.dct ks xs) v := hx.elim id fun ⟨_, _, _, z, _⟩ => nomatch z
  have hy : Rep ci F (.dct ks xs) w := hy.elim id fun ⟨_, _, _, z, _⟩ => nomatch z
  cases hx with
  | @dct a1 _ _ vs h1 f1 l1 r1 =>
    cases hy with
    | @dct a2 _ _ ws h2 f2 l2 r2 =>
      refine ⟨a1, a2, _, _, rfl, rfl, fr.s1 _ _ h1, fr.s1 _ _ h2, by simp [← f1, ← f2], fun p hp => ?_, q.d fr (Rep.bl _) k⟩
      obtain ⟨i, hi, ei⟩ := List.mem_iff_getElem.mp hp
      have iv : i < vs.length := by simp at hi; omega
      have iw : i < ws.length := by omega
      have ik : i < ks.length := by omega
      have ix : i < xs.length := by omega
      have ep : p = (ks[i], vs[i]) := by rw [← ei]; simp
      subst ep
      refine ⟨ws[i], ?_, ?_⟩
      · have nz : ((ks.zip ws).map (·.1)).Nodup := by rw [zip_keys f2]; exact nd
        exact val_nodup nz (ks[i], ws[i]) (List.mem_iff_getElem.mpr ⟨i, by simp; omega, by simp⟩)
      · obtain ⟨d, py, sh, ee⟩ := all xs[i] (List.getElem_mem ix)
        exact ⟨d, py.dp fr.s1 d _ _ (r1 i _ _ (List.getElem?_eq_getElem ix) (List.getElem?_eq_getElem iv)), py.dp fr.s1 d _ _ (r2 i _ _ (List.getElem?_eq_getElem ix) (List.getElem?_eq_getElem iw)), sh, ee⟩
theorem de_eqDct (K : PySem.W.Frag) {j : Nat} (hr : ∀ i, Room j (𝒳 i).A) (ha : DE ci 𝒳 a ta) (hc : DE ci 𝒳 c tb) (hK : ∀ i, (𝒳 i).K = K := by intro _; rfl) : DE ci 𝒳 (.Compare a [.Eq] [c] pos) (dBin eqDF ta tb) := de_cmp (r := rEqDct K) (fun i => by have z := op_eqDct (X := 𝒳 i) (by have := (hr i).un; omega); rw [hK i] at z; exact z) bin_eqDct ha hc (nomark _)
end
end DL

namespace VL
open PySem PySem.Spec PyProof.Rows L2
open C8 (Cal pe_c)
def top (i : Nat) : Stmt := PySem.Challenge.pw_shelfterms_k17_evidence_joined.main.body.getD i (.Pass ⟨0, 0, 0, 0⟩)
structure Cs where
  LETTERS : Value
  LONGEST_NAME : Value
  BOUND : Value
  Evidence : Addr
  Catalog : Addr
  InvalidCatalog : Addr
  InvalidBook : Addr
  InvalidName : Addr
  DuplicateShelf : Addr
  UnknownShelf : Addr
  UnlikeCatalogs : Addr
  ShelfError : Addr
  dummy : Unit
structure Tx (mg : Str → Option Value) (u : Cs) : Prop where
  len : mg "len" = none
  list : mg "list" = none
  int : mg "int" = none
  isinstance : mg "isinstance" = none
  bool : mg "bool" = none
  str : mg "str" = none
  tuple : mg "tuple" = none
  range : mg "range" = none
  all : mg "all" = none
  set : mg "set" = none
  mLETTERS : mg "LETTERS" = some u.LETTERS
  rLETTERS : RelV (.str "abcdefghijklmnopqrstuvwxyz") u.LETTERS
  mLONGEST_NAME : mg "LONGEST_NAME" = some u.LONGEST_NAME
  rLONGEST_NAME : RelV (.int 12) u.LONGEST_NAME
  mBOUND : mg "BOUND" = some u.BOUND
  rBOUND : RelV (.int 1000000000000) u.BOUND
  mEvidence : mg "Evidence" = some (.ref u.Evidence)
  mCatalog : mg "Catalog" = some (.ref u.Catalog)
  mInvalidCatalog : mg "InvalidCatalog" = some (.ref u.InvalidCatalog)
  mInvalidBook : mg "InvalidBook" = some (.ref u.InvalidBook)
  mInvalidName : mg "InvalidName" = some (.ref u.InvalidName)
  mDuplicateShelf : mg "DuplicateShelf" = some (.ref u.DuplicateShelf)
  mUnknownShelf : mg "UnknownShelf" = some (.ref u.UnknownShelf)
  mUnlikeCatalogs : mg "UnlikeCatalogs" = some (.ref u.UnlikeCatalogs)
  mShelfError : mg "ShelfError" = some (.ref u.ShelfError)
section
variable {P : Program} {w : World} {K : PySem.W.Frag} {mg : Str → Option Value} {base : Heap} {u : Cs}
abbrev sLbox : Stmt := top 22
theorem scLbox : FnScope ["_law_script"] ["_law_script"] (defScope sLbox) := ⟨rfl, rfl, rfl, by decide +kernel, rfl, by decide +kernel, by decide +kernel⟩
theorem ok_box {f : Addr} {fd : FuncData} (F : Fun K "_law_box" "_law_box" sLbox f fd) (T : Tx mg u) : FnOk P w K mg base CX0 1 f fd ["_law_script"] (spBox K) := by
  refine F.ok scLbox (fun vs H Q E h => ?_) (fun cdv A outer s H vs Q E hr h => ?_)
  · obtain ⟨a, ns, rfl, _⟩ := h
    rfl
  obtain ⟨a, ns, rfl, hS, hlen, q⟩ := h
  refine ⟨_, (pss_one (ps_ret (pe_lst (pa_cons (pe_callTy call_list_of (by rfl) T.list (by decide +kernel) (pa_cons (pe_slice sl_list (pv 0) po_none (po_some pe_int)) pa_nil)) (pa_cons pe_int (pa_cons pe_int (pa_cons pe_int pa_nil))))))), ?_⟩
  obtain ⟨cs, ec⟩ := cutV_ints ns none (some 63)
  refine ⟨.ref a, rfl, 63, rfl, a, ns.map V.int, rfl, hS, fun c nc => ?_⟩
  rw [ec]
  refine ⟨c, cs.map V.int, rfl, .inl (.inl (.inl upd_same)), fun L nL => ?_⟩
  refine ⟨by show 4 ≤ sizeLine; decide, fun b nb => ?_⟩
  have s1 : Same H (upd H c (.lst (cs.map V.int))) := same_upd nc
  have s2 : Same _ (upd (upd H c (.lst (cs.map V.int))) L (.lst (cs.map V.int))) := same_upd nL
  have s3 := same_upd (o := .lst [.ref L, .int 0, .int 0, .int 1]) nb
  have nLb : L ≠ b := fun e => by rw [← e, upd_same] at nb; cases nb
  refine q b L _ ((s1.trans s2).free nb) (s1.free nL) (s1.trans (s2.trans s3)) ⟨cs, 0, 0, 1, nLb, ?_, upd_same, by decide, by decide, by decide⟩
  rw [upd_ne nLb, upd_same]
abbrev sLtake : Stmt := top 23
theorem scLtake : FnScope ["_law_box_here", "_law_size", "_law_cell", "_law_digit"] ["_law_box_here", "_law_size"] (defScope sLtake) := ⟨rfl, rfl, rfl, by decide +kernel, rfl, by decide +kernel, by decide +kernel⟩
theorem ok_take {f : Addr} {fd : FuncData} (F : Fun K "_law_take" "_law_take" sLtake f fd) (T : Tx mg u) : FnOk P w K mg base CX0 1 f fd ["_law_box_here", "_law_size"] spTake := by
  refine F.ok scLtake (fun vs H Q E h => ?_) (fun cdv A outer s H vs Q E hr h => ?_)
  · obtain ⟨b, L, n, rfl, _⟩ := h
    rfl
  obtain ⟨b, L, n, rfl, n0, n1, ⟨cs, p, r, x, nLb, hL, hb, p0, x0, x1⟩, q⟩ := h
  refine ⟨_, (C8.pss_cut (ps_if (PW.pt (pw_and (pt_cmpR op_eq (pe_ix ix_list (pv 0) pe_int (fun _ _ => rfl)) pe_int (nomark _)) (pw_and1 (pt_cmpR op_lt (pe_ix ix_list (pv 0) pe_int (fun _ _ => rfl)) (pe_callB call_len_seq (by rfl) T.len PySem.boot_len (pa_cons (pe_ix ix_list (pv 0) pe_int (fun _ _ => rfl)) pa_nil)) (nomark _)))))
    (pss_cons (ps_set (i := 2) scLtake.nd rfl (Or.inl rfl) (pe_ix ix_list (pe_ix ix_list (pv 0) pe_int (fun _ _ => rfl)) (pe_ix ix_list (pv 0) pe_int (fun _ _ => rfl)) (fun _ _ => rfl)))
    (pss_cons (ps_asg (pe_op op_add (pe_ix ix_list (pv 0) pe_int (fun _ _ => rfl)) pe_int) (pg_sub (pv 0) pe_int set_list))
    (pss_one (ps_if (pt_cmpR op_ge (pv 2) (pe_op op_pow pe_int pe_int) (nomark _))
      (pss_one (ps_asg (pe_op op_sub (pv 2) (pe_op op_pow pe_int pe_int)) (pg_sub (pv 0) pe_int set_list)))
      (pss_one (ps_asg (pe_op op_mod (pe_callTy call_int1 (by rfl) T.int (by decide +kernel) (pa_cons (pe_op op_add (pe_op op_mul (pe_ix ix_list (pv 0) pe_int (fun _ _ => rfl)) pe_int) (pv 2)) pa_nil)) pe_int) (pg_sub (pv 0) pe_int set_list)))))))
    pss_nil)
  (pss_cons (ps_if (pt_cmpR op_gt (pe_ix ix_list (pv 0) pe_int (fun _ _ => rfl)) pe_int (nomark _))
    (pss_cons (ps_set (i := 3) scLtake.nd rfl (Or.inl rfl) (pe_op op_mod (pe_callTy call_int1 (by rfl) T.int (by decide +kernel) (pa_cons (pe_ix ix_list (pv 0) pe_int (fun _ _ => rfl)) pa_nil)) (pv 1)))
    (pss_cons (ps_asg (pe_op op_fdivW (pe_ix ix_list (pv 0) pe_int (fun _ _ => rfl)) (pv 1)) (pg_sub (pv 0) pe_int set_list))
    (pss_one (ps_ret (pv 3)))))
    pss_nil)
  (pss_cons (ps_asg (pe_op op_mod (pe_callTy call_int1 (by rfl) T.int (by decide +kernel) (pa_cons (pe_op op_add (pe_op op_mul (pe_ix ix_list (pv 0) pe_int (fun _ _ => rfl)) pe_int) pe_int) pa_nil)) pe_int) (pg_sub (pv 0) pe_int set_list))
  (pss_one (ps_ret (pe_op op_mod (pe_callTy call_int1 (by rfl) T.int (by decide +kernel) (pa_cons (pe_op op_fdivW (pe_ix ix_list (pv 0) pe_int (fun _ _ => rfl)) pe_int) pa_nil)) (pv 1))))))), ?_⟩
  have hU : ∀ {o u : HO}, upd (upd H b o) b u = upd H b u := upd_upd
  have cp : CPow 10 18 := ⟨by decide, by decide, by decide⟩
  refine ⟨fun σ' H' => ∃ y2 p r x, σ' = [some (.ref b), some (.int n), y2, none] ∧ H' = upd H b (.lst [.ref L, .int p, .int r, .int x]) ∧ 0 ≤ p ∧ 0 ≤ x ∧ x < 2147483647, ?_, ?_⟩
  · have stay : ∃ (y2 : Option V) (p' r' x' : Int), ([some (.ref b), some (.int n), none, none] : L2.St) = [some (.ref b), some (.int n), y2, none] ∧ H = upd H b (.lst [.ref L, .int p', .int r', .int x']) ∧ 0 ≤ p' ∧ 0 ≤ x' ∧ x' < 2147483647 := ⟨none, p, r, x, rfl, (upd_self hb).symm, p0, x0, x1⟩
    refine ⟨_, rfl, b, _, 2, _, rfl, rfl, SqL.of hb, rfl, rfl, _, rfl, ite2 (fun _ => ?_) (fun _ => iteF stay)⟩
    refine ⟨_, rfl, b, _, 1, _, rfl, rfl, SqL.of hb, rfl, _, rfl, b, _, 0, _, rfl, rfl, SqL.of hb, rfl, L, _, rfl, .inl (SqL.of hL), _, _, rfl, rfl, _, rfl, ite2 (fun e => ?_) (fun _ => stay)⟩
    have hp : p < (cs.length : Int) := by
      have := of_decide_eq_true e
      rw [List.length_map] at this
      exact this
    obtain ⟨c, _, hc⟩ := atI_ints p0 hp
    refine ⟨_, rfl, b, _, 0, _, rfl, rfl, SqL.of hb, rfl, _, rfl, b, _, 1, _, rfl, rfl, SqL.of hb, rfl, L, _, p, .int c, rfl, rfl, SqL.of hL, hc, ?_⟩
    refine ⟨_, rfl, b, _, 1, _, rfl, rfl, SqL.of hb, rfl, _, _, rfl, rfl, _, rfl, b, _, 1, 1, rfl, rfl, hb, rfl, ?_⟩
    have hb1 : (upd H b (.lst [.ref L, .int (p + 1), .int r, .int x])) b = some (.lst [.ref L, .int (p + 1), .int r, .int x]) := upd_same
    refine ⟨_, rfl, _, _, rfl, rfl, cp, _, _, rfl, rfl, _, rfl, ite2 (fun _ => ?_) (fun _ => ?_)⟩
    · refine ⟨_, rfl, _, _, rfl, rfl, cp, _, _, rfl, rfl, _, rfl, b, _, 2, 2, rfl, rfl, hb1, rfl, ?_⟩
      exact ⟨_, p + 1, _, x, rfl, hU, by omega, x0, x1⟩
    · refine ⟨_, rfl, b, _, 3, _, rfl, rfl, SqL.of hb1, rfl, _, _, rfl, rfl, .inl ⟨by omega, by omega⟩, _, rfl, _, _, rfl, rfl, .inl ⟨_, rfl, ?_⟩⟩
      refine ⟨_, _, rfl, rfl, (by show (0 : Int) < 2147483647; decide), _, rfl, b, _, 3, 3, rfl, rfl, hb1, rfl, ?_⟩
      exact ⟨_, p + 1, r, _, rfl, hU, by omega, Int.emod_nonneg _ (by decide), Int.emod_lt_of_pos _ (by decide)⟩
  · rintro σ' H' ⟨y2, p, r, x, rfl, rfl, p0, x0, x1⟩
    have hb1 : (upd H b (.lst [.ref L, .int p, .int r, .int x])) b = some (.lst [.ref L, .int p, .int r, .int x]) := upd_same
    have done : ∀ (v p r x : Int), 0 ≤ v → v < n → 0 ≤ p → 0 ≤ x → x < 2147483647 → Q (.int v) (upd H b (.lst [.ref L, .int p, .int r, .int x])) := fun v p r x h1 h2 h3 h4 h5 =>
      q v _ h1 h2 ⟨cs, p, r, x, nLb, by rw [upd_ne nLb]; exact hL, upd_same, h3, h4, h5⟩ ⟨_, rfl⟩
    have hn : CDivW r n := wide_div (b := 64) n0 (by omega) (by decide) (by decide)
    refine ⟨_, rfl, b, _, 2, _, rfl, rfl, SqL.of hb1, rfl, _, _, rfl, rfl, _, rfl, ite2 (fun _ => ?_) (fun _ => ?_)⟩
    · refine ⟨_, rfl, b, _, 2, _, rfl, rfl, SqL.of hb1, rfl, .inl ⟨_, rfl, ?_⟩⟩
      refine ⟨_, rfl, _, _, rfl, rfl, n0, ?_⟩
      refine ⟨_, rfl, b, _, 2, _, rfl, rfl, SqL.of hb1, rfl, _, rfl, _, _, rfl, rfl, hn, _, rfl, b, _, 2, 2, rfl, rfl, hb1, rfl, ?_⟩
      refine ⟨_, rfl, ?_⟩
      show Q _ (upd (upd H b _) b _)
      rw [hU]
      exact done _ _ _ _ (Int.emod_nonneg _ (by omega)) (Int.emod_lt_of_pos _ n0) p0 x0 x1
    · refine ⟨_, rfl, b, _, 3, _, rfl, rfl, SqL.of hb1, rfl, _, _, rfl, rfl, .inl ⟨by omega, by omega⟩, _, _, rfl, rfl, .inl ⟨_, rfl, ?_⟩⟩
      refine ⟨_, _, rfl, rfl, (by show (0 : Int) < 2147483647; decide), _, rfl, b, _, 3, 3, rfl, rfl, hb1, rfl, ?_⟩
      refine ⟨_, rfl, b, _, 3, _, rfl, rfl, SqL.of upd_same, rfl, _, _, rfl, rfl, wide_div (b := 64) (by decide) (by decide) (by decide) (by decide), .inl ⟨_, rfl, ?_⟩⟩
      refine ⟨_, rfl, _, _, rfl, rfl, n0, ?_⟩
      show Q _ (upd (upd H b _) b _)
      rw [hU]
      exact done _ _ _ _ (Int.emod_nonneg _ (by omega)) (Int.emod_lt_of_pos _ n0) p0 (Int.emod_nonneg _ (by decide)) (Int.emod_lt_of_pos _ (by decide))
end
end VL

namespace DL
open PySem PySem.Spec PyProof.Rows L2 VL
open C8 (Cal pe_c Met pe_mt)
section
variable {P : Program} {w : World} {K : PySem.W.Frag} {mg : Str → Option Value} {base : Heap} {u : Cs} {ci : CI}
abbrev sLsame : Stmt := top 27
theorem scLsame : FnScope ["_law_actual", "_law_due", "_law_k"] ["_law_actual", "_law_due"] (defScope sLsame) := ⟨rfl, rfl, rfl, by decide +kernel, rfl, by decide +kernel, by decide +kernel⟩
theorem ok_same {f : Addr} {fd : FuncData} (F : Fun K "_law_same" "_law_same" sLsame f fd) (T : Tx mg u) {n : Nat} (cLsame : Cal P w K mg base n "_law_same" (lift ci (dSame n)) []) : FnOk P w K mg base CX0 (n + 1) f fd ["_law_actual", "_law_due"] (lift ci (dSame (n + 1))) := by
  refine okD (k := n) F scLsame (fun rs R h => by
    obtain ⟨_, _, _, rfl, _⟩ := h
    rfl) (by decide) ⟨_, (dss_cons (ds_if (dt_isN (de_var 1) de_non)
    (dss_one (ds_ret (de_isN (de_var 0) de_non)))
    dss_nil)
  (dss_cons (ds_if (dt_val (de_isi K (T := "bool") (fun _ => T.isinstance) (fun _ => T.bool) (de_var 1)))
    (dss_one (ds_ret (de_and (de_isi K (T := "bool") (fun _ => T.isinstance) (fun _ => T.bool) (de_var 0)) (de_one (de_eq K (fun i => i.hr) (de_var 0) (de_var 1))))))
    dss_nil)
  (dss_cons (ds_if (dt_val (de_isi K (T := "int") (fun _ => T.isinstance) (fun _ => T.int) (de_var 1)))
    (dss_one (ds_ret (de_and (de_isi K (T := "int") (fun _ => T.isinstance) (fun _ => T.int) (de_var 0)) (de_and (de_not (de_isi K (T := "bool") (fun _ => T.isinstance) (fun _ => T.bool) (de_var 0))) (de_one (de_eq K (fun i => i.hr) (de_var 0) (de_var 1)))))))
    dss_nil)
  (dss_cons (ds_if (dt_val (de_isi K (T := "str") (fun _ => T.isinstance) (fun _ => T.str) (de_var 1)))
    (dss_one (ds_ret (de_and (de_isi K (T := "str") (fun _ => T.isinstance) (fun _ => T.str) (de_var 0)) (de_one (de_eq K (fun i => i.hr) (de_var 0) (de_var 1))))))
    dss_nil)
  (dss_cons (ds_if (dt_ne K (fun i => i.hr) (de_isi K (T := "tuple") (fun _ => T.isinstance) (fun _ => T.tuple) (de_var 1)) (de_isi K (T := "tuple") (fun _ => T.isinstance) (fun _ => T.tuple) (de_var 0)))
    (dss_one (ds_ret de_bl))
    dss_nil)
  (dss_cons (ds_if (DW.dt (dw_or (dt_ne K (fun i => i.hr) (de_isi K (T := "list") (fun _ => T.isinstance) (fun _ => T.list) (de_var 1)) (de_isi K (T := "list") (fun _ => T.isinstance) (fun _ => T.list) (de_var 0))) (dw_or1 (dt_ne K (fun i => i.hr) (de_len K (fun _ => T.len) (de_var 0)) (de_len K (fun _ => T.len) (de_var 1))))))
    (dss_one (ds_ret de_bl))
    dss_nil)
  (dss_cons (ds_for (fun _ => PassesOwn.never) (fun _ => rfl) (di_range1 (fun _ => rfl) (fun _ => T.range) (DAa.da (daa_cons (de_len K (fun _ => T.len) (de_var 1)) daa_nil))) (dg_name 2 (fun _ => scLsame.nd))
    (dss_one (ds_if (dt_not (dt_val (de_call (fun _ => cLsame) (fun i => i.hr) (by first | decide | omega) (fun _ => rfl) (daa_cons (de_item K (de_var 0) (de_var 2)) (daa_cons (de_item K (de_var 1) (de_var 2)) daa_nil)))))
      (dss_one (ds_ret de_bl))
      dss_nil)))
  (dss_one (ds_ret de_bl))))))))), ?_⟩
  rintro _ R ⟨r, q, x, rfl, hr, hq, hd, k⟩
  refine var_v rfl hq ?_
  have seq : ∀ (xs : List D) (m : Nat), n = m + 1 → xs.length ≤ 1000000 → (∀ y ∈ xs, Dep m y) → (x = .lst xs ∨ x = .tup xs) → ∀ (i : Nat) (y : D), (rngD 0 ((xs.length : Nat) : Int).toNat)[i]? = some y → ∃ z, y = .int (0 + (i : Int)) ∧ atI xs (0 + (i : Int)) = some z ∧ Dep m z := fun xs m _ hl hd _ i y hy => by
    have hi : i < ((xs.length : Nat) : Int).toNat := by
      have := (List.getElem?_eq_some_iff.mp hy).1
      rwa [rngD_len] at this
    rw [rngD_at hi] at hy
    have hi2 : i < xs.length := by omega
    have e := List.getElem?_eq_getElem hi2
    refine ⟨xs[i], (Option.some.inj hy).symm, ?_, hd _ (List.getElem_mem hi2)⟩
    rw [Int.zero_add]
    exact atI_nat e
  cases x with
  | non => exact ⟨_, rfl, iteT' rfl (var_v rfl hr k)⟩
  | bl c =>
    refine ⟨_, rfl, iteF' rfl (var_v rfl hq ⟨_, rfl, _, rfl, iteT' rfl (var_v rfl hr ⟨_, rfl, _, rfl, iteT' rfl (var_v rfl hr (var_v rfl hq ?_))⟩)⟩)⟩
    show R (.d (.bl (decide (c = c))))
    rw [decide_eq_true rfl]
    exact k
  | int c =>
    refine ⟨_, rfl, iteF' rfl (var_v rfl hq ⟨_, rfl, _, rfl, iteF' rfl (var_v rfl hq ⟨_, rfl, _, rfl, iteT' rfl (var_v rfl hr ⟨_, rfl, _, rfl, iteT' rfl (var_v rfl hr ⟨_, rfl, _, rfl, _, rfl, iteT' rfl (var_v rfl hr (var_v rfl hq ?_))⟩)⟩)⟩)⟩)⟩
    show R (.d (.bl (decide (c = c))))
    rw [decide_eq_true rfl]
    exact k
  | str c =>
    refine ⟨_, rfl, iteF' rfl (var_v rfl hq ⟨_, rfl, _, rfl, iteF' rfl (var_v rfl hq ⟨_, rfl, _, rfl, iteF' rfl (var_v rfl hq ⟨_, rfl, _, rfl, iteT' rfl (var_v rfl hr ⟨_, rfl, _, rfl, iteT' rfl (var_v rfl hr (var_v rfl hq ?_))⟩)⟩)⟩)⟩)⟩
    show R (.d (.bl (decide (c = c))))
    rw [decide_eq_true rfl]
    exact k
  | tup xs =>
    obtain ⟨m, rfl, hl, hd⟩ : ∃ m, n = m + 1 ∧ xs.length ≤ 1000000 ∧ ∀ y ∈ xs, Dep m y := by
      cases n with
      | zero => cases hd
      | succ m =>
        rcases hd with hd | ⟨ys, e, hl, hd⟩
        · cases hd
        · rcases e with e | e <;> cases e
          exact ⟨m, rfl, hl, hd⟩
    refine ⟨_, rfl, iteF' rfl (var_v rfl hq ⟨_, rfl, _, rfl, iteF' rfl (var_v rfl hq ⟨_, rfl, _, rfl, iteF' rfl (var_v rfl hq ⟨_, rfl, _, rfl, iteF' rfl ?_⟩)⟩)⟩)⟩
    refine var_v rfl hq ⟨_, rfl, var_v rfl hr ⟨_, rfl, _, rfl, iteF' rfl ?_⟩⟩
    refine var_v rfl hq ⟨_, rfl, var_v rfl hr ⟨_, rfl, _, rfl, iteF' rfl (var_v rfl hr (var_v rfl hq ⟨_, rfl, iteF' (by rw [decide_eq_true rfl]; rfl) ?_⟩))⟩⟩
    refine var_v rfl hq ⟨by omega, by omega, fun i ρ => ∃ z, ρ = [r, q, z], ⟨_, rfl⟩, ?_, ?_⟩
    · rintro i y ρ hy ⟨z, rfl⟩
      obtain ⟨w, rfl, hw, hdw⟩ := seq xs m rfl hl hd (.inr rfl) i y hy
      exact var_v rfl hr ⟨w, hw, var_v rfl hq ⟨w, hw, _, _, w, rfl, see_arg rfl, see_arg rfl, hdw, _, rfl, iteF' rfl ⟨_, rfl⟩⟩⟩
    · rintro ρ ⟨z, rfl⟩
      exact k
  | lst xs =>
    obtain ⟨m, rfl, hl, hd⟩ : ∃ m, n = m + 1 ∧ xs.length ≤ 1000000 ∧ ∀ y ∈ xs, Dep m y := by
      cases n with
      | zero => cases hd
      | succ m =>
        rcases hd with hd | ⟨ys, e, hl, hd⟩
        · cases hd
        · rcases e with e | e <;> cases e
          exact ⟨m, rfl, hl, hd⟩
    refine ⟨_, rfl, iteF' rfl (var_v rfl hq ⟨_, rfl, _, rfl, iteF' rfl (var_v rfl hq ⟨_, rfl, _, rfl, iteF' rfl (var_v rfl hq ⟨_, rfl, _, rfl, iteF' rfl ?_⟩)⟩)⟩)⟩
    refine var_v rfl hq ⟨_, rfl, var_v rfl hr ⟨_, rfl, _, rfl, iteF' rfl ?_⟩⟩
    refine var_v rfl hq ⟨_, rfl, var_v rfl hr ⟨_, rfl, _, rfl, iteF' rfl (var_v rfl hr (var_v rfl hq ⟨_, rfl, iteF' (by rw [decide_eq_true rfl]; rfl) ?_⟩))⟩⟩
    refine var_v rfl hq ⟨by omega, by omega, fun i ρ => ∃ z, ρ = [r, q, z], ⟨_, rfl⟩, ?_, ?_⟩
    · rintro i y ρ hy ⟨z, rfl⟩
      obtain ⟨w, rfl, hw, hdw⟩ := seq xs m rfl hl hd (.inl rfl) i y hy
      exact var_v rfl hr ⟨w, hw, var_v rfl hq ⟨w, hw, _, _, w, rfl, see_arg rfl, see_arg rfl, hdw, _, rfl, iteF' rfl ⟨_, rfl⟩⟩⟩
    · rintro ρ ⟨z, rfl⟩
      exact k
  | _ =>
    cases n with
    | zero => cases hd
    | succ m =>
      rcases hd with hd | ⟨ys, e, hl, hd⟩
      · cases hd
      · rcases e with e | e <;> cases e
theorem cal_sameD {f : Addr} {fd : FuncData} (F : Fun K "_law_same" "_law_same" sLsame f fd) (T : Tx mg u) (hm : mg "_law_same" = some (.ref f)) (b : Binds K fd ["_law_actual", "_law_due"] []) : ∀ n : Nat, Cal P w K mg base n "_law_same" (lift ci (dSame n)) []
  | 0 => cal_of F ⟨fun vs H Q E h => by
      obtain ⟨_, _, _, _, _, _, _, _, _, _, h, _⟩ := h
      exact h.elim, fun A outer s H args us vs Q E hr he hb hv h => by
      obtain ⟨_, _, _, _, _, _, _, _, _, _, h, _⟩ := h
      exact h.elim⟩ hm b
  | n + 1 => cal_of F (ok_same F T (cal_sameD F T hm b n)) hm b
theorem ok_takeD {f : Addr} {fd : FuncData} (F : Fun K "_law_take" "_law_take" sLtake f fd) (T : Tx mg u) : FnOk P w K mg base CX0 1 f fd ["_law_box_here", "_law_size"] (lift ci dTake) := (ok_take F T).imp fun _ _ _ _ h => lift_take h
end
end DL

namespace DL
open PySem PySem.Spec PyProof.Rows L2 VL
open C8 (Cal pe_c Met pe_mt)
def dName : DSp := fun rs R => ∃ r z, rs = [r] ∧ r.see = some (.str z) ∧ z.length ≤ 1000000 ∧ R (.d (.bl (nameB z)))
def dDiff : DSp := fun rs R => ∃ ns n, rs = [.d (strsD ns)] ∧ Nms n ns ∧ n ≤ 1000 ∧ R (.d (.bl true))
def dHasC (C : Addr) : DSp := fun rs R => ∃ ns z, rs = [.d (catD C ns), .d (.str z)] ∧ R (.d (.bl (decide (z ∈ ns))))
def dIdx (C : Addr) : DSp := fun rs R => ∃ ns m, rs = [.d (catD C ns), .d (.str (nameAt ns m))] ∧ ns.Nodup ∧ 0 ≤ m ∧ m < (ns.length : Int) ∧ R (.d (.int m))
def preN (xs : List D) : Prop := ∃ ns n, xs = ns.map D.str ∧ Nms n ns ∧ 1 ≤ n ∧ n ≤ 8
def dLWord : DSp := fun rs R => ∃ n : Int, rs = [.box, .d (.int n)] ∧ 0 < n ∧ n ≤ 100 ∧ ∀ cs : List Nat, (cs.length : Int) < n → (∀ c ∈ cs, c ∈ letters) → R (.d (.str (tx cs)))
def dLNames : DSp := fun rs R => ∃ n : Nat, rs = [.box, .d (.int (n : Int))] ∧ n ≤ 8 ∧ ∀ ns : List Str, Nms n ns → R (.m (ns.map D.str))
def dLCatalog (C : Addr) : DSp := fun rs R => ∃ r ns n, rs = [r] ∧ r.see = some (.lst (ns.map D.str)) ∧ Nms n ns ∧ (n = 1 ∨ n = 2 ∨ n = 3 ∨ n = 8) ∧ R (.d (catD C ns))
theorem eqX_str (a b : Str) : eqX (.str a) (.str b) = decide (a = b) := rfl
theorem inX_strs (x : Str) (ns : List Str) : inX (.str x) (ns.map D.str) = decide (x ∈ ns) := by
  unfold inX
  rw [Bool.eq_iff_iff]
  simp only [List.any_map, List.any_eq_true, Function.comp, eqX_str, decide_eq_true_eq]
  exact ⟨fun ⟨y, hy, e⟩ => e ▸ hy, fun h => ⟨x, h, rfl⟩⟩
theorem flat_strs (ns : List Str) : (ns.map D.str).all flatX = true := by
  rw [List.all_map, List.all_eq_true]
  exact fun _ _ => rfl
theorem sign_len (z : Str) : (signD z).length = z.length := by
  unfold signD
  rw [List.length_map]
  rfl
def sgD : D → D
  | .str ⟨⟨[c]⟩⟩ => .bl (decide (c ∈ letters))
  | _ => .non
theorem Nms.sized {n : Nat} {ns : List Str} (h : Nms n ns) {z : Str} (hz : z ∈ ns) : z.length ≤ 1000000 := by
  have := (h.of z hz).2.1
  omega
theorem dst_nd {ns : List Str} (h : ns.Nodup) : dst ns ns.length = ns.length := dst_nodup h _ (Nat.le_refl _)
abbrev ciC (u : Cs) : CI := ciN u.Catalog "names"
def abcN (n : Nat) : List Str := (["a", "b", "c", "d", "e", "f", "g", "h"] : List Str).take n
theorem abcN_nms {n : Nat} (h : n ≤ 8) : Nms n (abcN n) := by
  have : n = 0 ∨ n = 1 ∨ n = 2 ∨ n = 3 ∨ n = 4 ∨ n = 5 ∨ n = 6 ∨ n = 7 ∨ n = 8 := by omega
  rcases this with rfl | rfl | rfl | rfl | rfl | rfl | rfl | rfl | rfl <;> exact ⟨rfl, by decide, by decide⟩
theorem abcN_signs {n : Nat} (h : n ≤ 8) : signD (cutS "abcdefgh" none (some (n : Int))) = (abcN n).map D.str := by
  have : n = 0 ∨ n = 1 ∨ n = 2 ∨ n = 3 ∨ n = 4 ∨ n = 5 ∨ n = 6 ∨ n = 7 ∨ n = 8 := by omega
  rcases this with rfl | rfl | rfl | rfl | rfl | rfl | rfl | rfl | rfl <;> rfl
/-- a book of n marks -/
def Bk (n : Nat) (b : List Int) : Prop := b.length = n ∧ ∀ v ∈ b, -1000000000000 ≤ v ∧ v ≤ 1000000000000
abbrev Sh := Str × List (List Int)
def keyS (z : Str) : Key := .inr z
def shD (p : Sh) : D := .tup (p.2.map bookD)
def evD (CE CC : Addr) (ns : List Str) (sh : List Sh) : D := .ins CE ["catalog", "_shelves"] [catD CC ns, .dct (sh.map fun p => keyS p.1) (sh.map shD)]
def Bks (r : Sl) (bs : List (List Int)) : Prop := r = .v (bs.map bookD) ∨ r = .d (.lst (bs.map bookD)) ∨ r = .d (.tup (bs.map bookD))
def dNumbered (CC : Addr) : DSp := fun rs R => ∃ n : Nat, rs = [.d (.ref CC), .d (.int (n : Int))] ∧ 1 ≤ n ∧ n ≤ 8 ∧ R (.d (catD CC (abcN n)))
def dIsBook (CC : Addr) : DSp := fun rs R => ∃ ns b, rs = [.d (catD CC ns), .d (bookD b)] ∧ ns.length ≤ 8 ∧ Bk ns.length b ∧ R (.d (.bl true))
def dCheck (CC : Addr) : DSp := fun rs R => ∃ (r : Sl) (ns : List Str) (bs : List (List Int)), rs = [r, .d (catD CC ns)] ∧ Bks r bs ∧ bs.length ≤ 1000 ∧ ns.length ≤ 8 ∧ (∀ b ∈ bs, Bk ns.length b) ∧ R (.d .non)
def dEvI (CC : Addr) : ISp := fun rs R => ∃ ns, rs = [.d (catD CC ns)] ∧ R ["catalog", "_shelves"] [catD CC ns, .dct [] []]
def dWithS (CE CC : Addr) : DSp := fun rs R => ∃ ns sh th, rs = [.d (evD CE CC ns sh), .d (.dct (th.map fun p => keyS p.1) (th.map shD))] ∧ R (.d (evD CE CC ns th))
def dHasE (CE CC : Addr) : DSp := fun rs R => ∃ ns sh z, rs = [.d (evD CE CC ns sh), .d (.str z)] ∧ R (.d (.bl (decide (z ∈ sh.map (·.1)))))
def dWithM (CE CC : Addr) : DSp := fun rs R => ∃ (ns : List Str) (sh : List Sh) (z : Str) (r : Sl) (bs : List (List Int)), rs = [.d (evD CE CC ns sh), .d (.str z), r] ∧ Bks r bs ∧ sh.length ≤ 1000 ∧ (sh.map (·.1)).Nodup ∧ z ∉ sh.map (·.1) ∧ bs.length ≤ 1000 ∧ ns.length ≤ 8 ∧ (∀ b ∈ bs, Bk ns.length b) ∧ R (.d (evD CE CC ns (sh ++ [(z, bs)])))
def dWithB (CE CC : Addr) : DSp := fun rs R => ∃ (ns : List Str) (sh : List Sh) (z : Str) (r : Sl) (bs : List (List Int)), rs = [.d (evD CE CC ns sh), .d (.str z), r] ∧ Bks r bs ∧ nameB z = true ∧ z.length ≤ 1000000 ∧ sh.length ≤ 1000 ∧ (sh.map (·.1)).Nodup ∧ z ∉ sh.map (·.1) ∧ bs.length ≤ 1000 ∧ ns.length ≤ 8 ∧ (∀ b ∈ bs, Bk ns.length b) ∧ R (.d (evD CE CC ns (sh ++ [(z, bs)])))
def dNamesE (CE CC : Addr) : DSp := fun rs R => ∃ ns sh, rs = [.d (evD CE CC ns sh)] ∧ R (.d (strsD (sh.map (·.1))))
def dGetE (CE CC : Addr) : DSp := fun rs R => ∃ ns sh z bs, rs = [.d (evD CE CC ns sh), .d (.str z)] ∧ (sh.map (·.1)).Nodup ∧ (z, bs) ∈ sh ∧ R (.d (shD (z, bs)))
theorem int_in {i lo hi : Int} {R : Sl → Prop} (h : lo ≤ i ∧ i ≤ hi) (k : R (.d (.bl true))) : dInteger [.d (.int i), .d (.int lo), .d (.int hi)] R :=
  ⟨.d (.int i), .int i, lo, hi, rfl, rfl, rfl, by
    have e : intD lo hi (.int i) = true := by
      unfold intD
      simp only [Bool.and_eq_true, decide_eq_true_eq]
      exact h
    rw [e]
    exact k⟩
theorem isi_bk {b : List Int} {R : Sl → Prop} : isiF "tuple" (bookD b) R = R (.d (.bl true)) := isi_tup
theorem len_bk {b : List Int} {R : Sl → Prop} : lenF (bookD b) R = R (.d (.int b.length)) := by
  show lenF (.tup (b.map D.int)) R = _
  rw [len_tup, List.length_map]
theorem len_strs {ns : List Str} {R : Sl → Prop} : lenF (strsD ns) R = R (.d (.int ns.length)) := by
  show lenF (.tup (ns.map D.str)) R = _
  rw [len_tup, List.length_map]
theorem keyS_inj {a b : Str} (h : keyS a = keyS b) : a = b := Sum.inr.inj h
theorem keyS_mem {z : Str} {sh : List Sh} : memK (keyS z) (sh.map fun p => keyS p.1) = decide (z ∈ sh.map (·.1)) := by
  rw [Bool.eq_iff_iff, memK_iff, decide_eq_true_eq, List.mem_map, List.mem_map]
  exact ⟨fun ⟨p, h, e⟩ => ⟨p, h, keyS_inj e⟩, fun ⟨p, h, e⟩ => ⟨p, h, by rw [e]⟩⟩
theorem keyS_nodup {sh : List Sh} (h : (sh.map (·.1)).Nodup) : (sh.map fun p => keyS p.1).Nodup := by
  have e : (sh.map fun p => keyS p.1) = (sh.map (·.1)).map keyS := by rw [List.map_map]; rfl
  rw [e]
  exact List.pairwise_map.mpr (h.imp fun n e => n (keyS_inj e))
theorem keyS_look {z : Str} {bs : List (List Int)} : ∀ {sh : List Sh}, (sh.map (·.1)).Nodup → (z, bs) ∈ sh → lookK (sh.map fun p => keyS p.1) (sh.map shD) (keyS z) = some (shD (z, bs))
  | [], _, h => nomatch h
  | p :: sh, nd, h => by
    show (if keyS p.1 = keyS z then some (shD p) else lookK (sh.map fun p => keyS p.1) (sh.map shD) (keyS z)) = _
    rcases List.mem_cons.mp h with rfl | h
    · exact if_pos rfl
    · have n : keyS p.1 ≠ keyS z := fun e => by
        rw [List.map_cons, List.nodup_cons] at nd
        exact nd.1 (keyS_inj e ▸ List.mem_map.mpr ⟨_, h, rfl⟩)
      rw [if_neg n]
      rw [List.map_cons, List.nodup_cons] at nd
      exact keyS_look nd.2 h
theorem ev_fld1 {CE CC : Addr} {ns : List Str} {sh : List Sh} {R : Sl → Prop} : fldF "catalog" (evD CE CC ns sh) R = R (.d (catD CC ns)) := fld_ins rfl
theorem ev_fld2 {CE CC : Addr} {ns : List Str} {sh : List Sh} {R : Sl → Prop} : fldF "_shelves" (evD CE CC ns sh) R = R (.d (.dct (sh.map fun p => keyS p.1) (sh.map shD))) := fld_ins rfl
theorem ev_ins {CE CC : Addr} {ns : List Str} {sh : List Sh} : (∃ gs ys, evD CE CC ns sh = D.ins CE gs ys) = True := propext ⟨fun _ => trivial, fun _ => ⟨_, _, rfl⟩⟩
theorem ev_meth {CE CC : Addr} {ns : List Str} {sh : List Sh} {m : Str} {P : Prop} : (∃ gs ys, evD CE CC ns sh = D.ins CE gs ys ∧ m ∉ gs ∧ P) = (m ∉ (["catalog", "_shelves"] : List Str) ∧ P) := meth_ex
theorem ev_and {CE CC : Addr} {ns : List Str} {sh : List Sh} {P : Prop} : (∃ gs ys, evD CE CC ns sh = D.ins CE gs ys ∧ P) = P := propext ⟨fun ⟨_, _, _, h⟩ => h, fun h => ⟨_, _, rfl, h⟩⟩
theorem evD_inj {CE CC : Addr} {ns ms : List Str} {sh th : List Sh} : (evD CE CC ns sh = evD CE CC ms th) = (catD CC ns = catD CC ms ∧ sh.map (fun p => keyS p.1) = th.map (fun p => keyS p.1) ∧ sh.map shD = th.map shD) := propext ⟨fun h => by
  unfold evD at h
  simpa using h, fun ⟨a, b, c⟩ => by unfold evD; rw [a, b, c]⟩
theorem arg_evD {CE CC : Addr} {ns : List Str} {sh : List Sh} : sl (evD CE CC ns sh) = .d (evD CE CC ns sh) := rfl
section
variable {P : Program} {w : World} {K : PySem.W.Frag} {mg : Str → Option Value} {base : Heap} {u : Cs}
abbrev sisname : Stmt := top 12
theorem scisname : FnScope ["value", "letter"] ["value"] (defScope sisname) := ⟨rfl, rfl, rfl, by decide +kernel, rfl, by decide +kernel, by decide +kernel⟩
theorem ok_name {f : Addr} {fd : FuncData} (F : Fun K "is_name" "is_name" sisname f fd) (T : Tx mg u)  : FnOk P w K mg base CX0 1 f fd ["value"] (lift (ciC u) (dName)) := by
  refine okD (k := 0) F scisname (fun rs R h => by
    obtain ⟨_, _, rfl, _⟩ := h
    rfl) (by decide) ⟨_, (dss_one (ds_ret (de_and (de_isi K (T := "str") (fun _ => T.isinstance) (fun _ => T.str) (de_var 0)) (de_and (de_lele de_int (de_len K (fun _ => T.len) (de_var 0)) (de_glob (fun _ => rfl) (fun _ => T.mLONGEST_NAME) T.rLONGEST_NAME (fun _ => .int _))) (de_one (de_all K (fun _ => rfl) (fun _ => T.all) (de_lc (own := [("letter", 1)]) (fun _ => rfl) (fun _ => scisname.nd) (di_signC (de_var 0)) (fun _ => blkOk_by (N := ["value", "letter"]) (sc := defScope sisname) (by decide +kernel)) (dg_name 1 (fun _ => scisname.nd)) dts_nil (de_inS (de_var 1) (de_glob (fun _ => rfl) (fun _ => T.mLETTERS) T.rLETTERS (fun _ => .str _)))))))))), ?_⟩
  rintro _ R ⟨r, z, rfl, hr, hz, k⟩
  refine var_v rfl hr ⟨_, rfl, _, rfl, iteT' rfl ?_⟩
  have k : R (.d (.bl ((decide (1 ≤ (z.length : Int)) && decide ((z.length : Int) ≤ 12)) && z.cps.toList.all fun c => decide (c ∈ letters)))) := k
  refine var_v rfl hr ⟨hz, _, rfl, ?_⟩
  cases e1 : decide (1 ≤ (z.length : Int)) with
  | false =>
    rw [e1] at k
    exact iteF' rfl ⟨_, rfl, iteF' rfl k⟩
  | true =>
    rw [e1] at k
    refine iteT' rfl ?_
    cases e2 : decide ((z.length : Int) ≤ 12) with
    | false =>
      rw [e2] at k
      exact ⟨_, rfl, iteF' e2 k⟩
    | true =>
      rw [e2] at k
      refine ⟨_, rfl, iteT' e2 (var_v rfl hr ⟨z, rfl, by rw [sign_len]; exact hz, compW_fn sgD (fun x hx kk hk => ?_) ⟨z.cps.toList.map fun c => decide (c ∈ letters), ?_, ?_⟩⟩)⟩
      · obtain ⟨c, hc, rfl⟩ := List.mem_map.mp hx
        exact ⟨c, _, rfl, rfl, hk⟩
      · unfold signD
        rw [List.map_map, List.map_map]
        rfl
      · have e3 : (z.cps.toList.map fun c => decide (c ∈ letters)).all id = z.cps.toList.all fun c => decide (c ∈ letters) := by rw [List.all_map]; rfl
        show R (.d (.bl ((z.cps.toList.map fun c => decide (c ∈ letters)).all id)))
        rw [e3]
        exact k
abbrev saredifferentnames : Stmt := top 20
theorem scaredifferentnames : FnScope ["values", "value"] ["values"] (defScope saredifferentnames) := ⟨rfl, rfl, rfl, by decide +kernel, rfl, by decide +kernel, by decide +kernel⟩
theorem ok_diff {f : Addr} {fd : FuncData} (F : Fun K "_are_different_names" "_are_different_names" saredifferentnames f fd) (T : Tx mg u) (cisname : Cal P w K mg base 1 "is_name" (lift (ciC u) dName) []) : FnOk P w K mg base CX0 2 f fd ["values"] (lift (ciC u) (dDiff)) := by
  refine okD (k := 1) F scaredifferentnames (fun rs R h => by
    obtain ⟨_, _, rfl, _⟩ := h
    rfl) (by decide) ⟨_, (dss_one (ds_ret (de_and (de_all K (fun _ => rfl) (fun _ => T.all) (de_lc (own := [("value", 1)]) (fun _ => rfl) (fun _ => scaredifferentnames.nd) (di_seqC K (de_var 0)) (fun _ => blkOk_by (N := ["values", "value"]) (sc := defScope saredifferentnames) (by decide +kernel)) (dg_name 1 (fun _ => scaredifferentnames.nd)) dts_nil (de_call (fun _ => cisname) (fun i => i.i.hr) (by first | decide | omega) (fun _ => rfl) (daa_cons (de_var 1) daa_nil)))) (de_one (de_eq K (fun i => i.hr) (de_lenSetT K (fun _ => rfl) (fun _ => T.len) (fun _ => T.set) (de_var 0)) (de_len K (fun _ => T.len) (de_var 0))))))), ?_⟩
  rintro _ R ⟨ns, n, rfl, hn, hz, k⟩
  have ln : ns.length ≤ 1000 := by rw [hn.len]; exact hz
  refine ⟨by rw [List.length_map]; omega, compW_fn (fun _ => .bl true) (fun x hx kk hk => ?_) ⟨ns.map fun _ => true, by simp, ?_⟩⟩
  · obtain ⟨z, hm, rfl⟩ := List.mem_map.mp hx
    refine ⟨_, z, rfl, rfl, hn.sized hm, ?_⟩
    rw [hn.name hm]
    exact hk
  have ea : (ns.map fun _ => true).all (fun x => x) = true := by simp
  refine ⟨_, rfl, iteT' (by simp) ⟨ns, rfl, ln, ?_⟩⟩
  show R (.d (.bl (decide (((dst ns ns.length : Nat) : Int) = (((ns.map D.str).length : Nat) : Int)))))
  rw [dst_nd hn.nd, List.length_map, decide_eq_true rfl]
  exact k
abbrev sCatalogcontains : Stmt := inClass (top 19) 4
theorem scCatalogcontains : FnScope ["self", "name"] ["self", "name"] (defScope sCatalogcontains) := ⟨rfl, rfl, rfl, by decide +kernel, rfl, by decide +kernel, by decide +kernel⟩
theorem ok_hasC {f : Addr} {fd : FuncData} (F : Fun K "__contains__" "Catalog.__contains__" sCatalogcontains f fd) (T : Tx mg u) {fC : Addr} (FCatalog : ClF K u.Catalog fC) (nnames : NoAttr K u.Catalog "names") : FnOk P w K mg base CX0 1 f fd ["self", "name"] (lift (ciC u) (dHasC u.Catalog)) := by
  refine okD (k := 0) F scCatalogcontains (fun rs R h => by
    obtain ⟨_, _, rfl, _⟩ := h
    rfl) (by decide) ⟨_, (dss_one (ds_ret (de_in K (de_var 1) (de_fld K FCatalog.cl nnames (de_var 0))))), ?_⟩
  rintro _ R ⟨ns, z, rfl, k⟩
  refine ⟨⟨_, _, rfl⟩, _, rfl, rfl, flat_strs ns, ?_⟩
  show R (.d (.bl (inX (.str z) (ns.map D.str))))
  rw [inX_strs]
  exact k
abbrev sCataloginit : Stmt := inClass (top 19) 1
theorem scCataloginit : FnScope ["self", "names"] ["self", "names"] (defScope sCataloginit) := ⟨rfl, rfl, rfl, by decide +kernel, rfl, by decide +kernel, by decide +kernel⟩
theorem ok_initC {f : Addr} {fd : FuncData} (F : Fun K "__init__" "Catalog.__init__" sCataloginit f fd) (T : Tx mg u) {fC : Addr} (FCatalog : ClF K u.Catalog fC) (nnames : NoAttr K u.Catalog "names") {uM : Value} (cMOST : Con K u.Catalog "MOST" (.int 8) uM) (caredifferentnames : Cal P w K mg base 2 "_are_different_names" (lift (ciC u) dDiff) [])
    (hb : ∀ us rest : List Value, us.length = (["self"] : List Str).length → bindArgs fd ⟨us ++ rest, []⟩ = (newTuple rest >>= fun t => pure (((["self"] : List Str).zip us) ++ [(("names" : Str), t)]))) : FnR P w K mg base CX0 3 f (liftN (ciC u) u.Catalog "names" preN) := by
  refine okN (k := 2) F scCataloginit rfl (by decide) ciN_new FCatalog.cl nnames hb (fun i => pv 0) (fun i => pv 1) (fun i => rfl)
    (DW.dt (dw_or (dt_not (dt_lele de_int (de_len K (fun _ => T.len) (de_var 1)) (de_con K FCatalog.cl cMOST (fun _ => .int 8) (de_var 0)))) (dw_or1 (dt_not (dt_val (de_call (fun _ => caredifferentnames) (fun i => i.hr) (by first | decide | omega) (fun _ => rfl) (daa_cons (de_var 1) daa_nil))))))) ?_
  rintro xs ⟨ns, n, rfl, hn, h1, h8⟩
  have ln : ns.length = n := hn.len
  refine ⟨_, rfl, iteT' (decide_eq_true (by show (1 : Int) ≤ (((ns.map D.str).length : Nat) : Int); rw [List.length_map]; omega)) ⟨_, _, rfl, by simp, _, rfl, iteF' ?_ ?_⟩⟩
  · show (!decide ((((ns.map D.str).length : Nat) : Int) ≤ 8)) = false
    rw [List.length_map, decide_eq_true (by omega)]
    rfl
  · exact ⟨ns, n, rfl, hn, by omega, _, rfl, rfl⟩
abbrev sisinteger : Stmt := top 13
theorem scisinteger : FnScope ["value", "least", "most"] ["value", "least", "most"] (defScope sisinteger) := ⟨rfl, rfl, rfl, by decide +kernel, rfl, by decide +kernel, by decide +kernel⟩
theorem ok_integer {f : Addr} {fd : FuncData} (F : Fun K "is_integer" "is_integer" sisinteger f fd) (T : Tx mg u)  : FnOk P w K mg base CX0 1 f fd ["value", "least", "most"] (lift (ciC u) (dInteger)) := by
  refine okD (k := 0) F scisinteger (fun rs R h => by
    obtain ⟨_, _, _, _, rfl, _⟩ := h
    rfl) (by decide) ⟨_, (dss_one (ds_ret (de_and (de_isi K (T := "int") (fun _ => T.isinstance) (fun _ => T.int) (de_var 0)) (de_and (de_not (de_isi K (T := "bool") (fun _ => T.isinstance) (fun _ => T.bool) (de_var 0))) (de_one (de_lele (de_var 1) (de_var 0) (de_var 2))))))), ?_⟩
  rintro _ R ⟨r, x, lo, hi, rfl, hr, hx, k⟩
  refine var_v rfl hr ?_
  cases x with
  | non => exact ⟨_, rfl, _, rfl, iteF' rfl k⟩
  | str c => exact ⟨_, rfl, _, rfl, iteF' rfl k⟩
  | tup c => exact ⟨_, rfl, _, rfl, iteF' rfl k⟩
  | lst c => exact ⟨_, rfl, _, rfl, iteF' rfl k⟩
  | bl c => exact ⟨_, rfl, _, rfl, iteT' rfl (var_v rfl hr ⟨_, rfl, _, rfl, _, rfl, iteF' rfl k⟩)⟩
  | int i =>
    refine ⟨_, rfl, _, rfl, iteT' rfl (var_v rfl hr ⟨_, rfl, _, rfl, _, rfl, iteT' rfl (var_v rfl rfl (var_v rfl hr ⟨_, rfl, ?_⟩))⟩)⟩
    have k : R (.d (.bl (decide (lo ≤ i) && decide (i ≤ hi)))) := k
    cases e : decide (lo ≤ i) with
    | false =>
      rw [e] at k
      exact iteF' rfl k
    | true =>
      rw [e] at k
      exact iteT' rfl (var_v rfl rfl k)
  | _ => cases hx
end
end DL

namespace DL
open PySem PySem.Spec PyProof.Rows L2 VL
open C8 (Cal pe_c Met pe_mt)
section
variable {P : Program} {w : World} {K : PySem.W.Frag} {mg : Str → Option Value} {base : Heap} {u : Cs}
abbrev sCatalognumbered : Stmt := inClass (top 19) 2
theorem scCatalognumbered : FnScope ["cls", "count", "names"] ["cls", "count"] (defScope sCatalognumbered) := ⟨rfl, rfl, rfl, by decide +kernel, rfl, by decide +kernel, by decide +kernel⟩
theorem ok_numbered {f : Addr} {fd : FuncData} (F : Fun K "numbered" "Catalog.numbered" sCatalognumbered f fd) (T : Tx mg u) {fC : Addr} (FCatalog : ClF K u.Catalog fC) (nnames : NoAttr K u.Catalog "names") {uM : Value} (rdCatalog : ClX.CRead K u.Catalog (.type "type")) (cvMOST : ClX.CVal K u.Catalog (.type "type") "MOST" (.int 8) uM) (GC : FnR P w K mg base CX0 3 fC (liftN (ciC u) u.Catalog "names" preN)) (cisinteger : Cal P w K mg base 1 "is_integer" (lift (ciC u) dInteger) []) : FnOk P w K mg base CX0 5 f fd ["cls", "count"] (lift (ciC u) (dNumbered u.Catalog)) := by
  refine okD (k := 4) F scCatalognumbered (fun rs R h => by
    obtain ⟨_, rfl, _⟩ := h
    rfl) (by decide) ⟨_, (dss_cons (ds_if (dt_not (dt_val (de_call (fun _ => cisinteger) (fun i => i.hr) (by first | decide | omega) (fun _ => rfl) (daa_cons (de_var 1) (daa_cons de_int (daa_cons (de_cvalA K rdCatalog cvMOST (fun _ => .int 8) (de_var 0)) daa_nil))))))
    (dss_one ds_never)
    dss_nil)
  (dss_cons (ds_set 2 (fun _ => scCatalognumbered.nd) (de_sliceS de_str do_none (do_some (de_var 1))))
  (dss_one (ds_ret (de_mkTxt K 0 FCatalog.mak (fun _ => GC) (fun i => i.hr.mono (by decide)) (fun _ => rfl) (de_var 2)))))), ?_⟩
  rintro _ R ⟨n, rfl, h1, h8, k⟩
  simp only [List.length_cons, List.length_nil, List.replicate, List.cons_append, List.nil_append, Nat.sub_self, Nat.reduceSub, Nat.reduceAdd, Nat.zero_add, sRet, sSeq, sIf, sSet, sNext, sDrop, sUnp, sApp, sRetN, sBreak, sCont, dAndV, dOrV, dUna, dBin, dC, dArgs, dNotV, dNot, dAnd, dOr, dB, dIf, dChain, dKeep, dTup, dLst, dSl, dRng1, dRng2, dSeqC, dSeqF, dYes, dVar_S, dVar_0, dVar_d, dVar_v, dVar_m, dVar_box, dVar_see, withV_sl, withV_d, withV_v, withV_m, withD_d, withD_m, keepR_d, keepR_m, keepR_box, arg_d, arg_v, arg_m, arg_box, arg_sl, sl_int, sl_bl, sl_str, sl_tup, sl_lst, sl_non, sl_ins, sl_ref, sl_inj, ex_bl, ex_bl2, ex_int, ex_str, ex_some, isi_non, isi_int, isi_str, isi_bl, isi_tup, isi_lst, len_tup, len_lst, eq_int, eq_str, eq_bl, ne_int, ne_str, ne_bl, ixT_0, ixT_1, ixT_2, sub_int, add_int, mul_int, le_int, lt_int, gt_int, ge_int, neg_int, isN_, notN_, list_lst, list_tup, tup_lst, tup_tup, one_int, two_int, seq_lst, seq_tup, seqP_0, seqP_S, frz_m, frz_S, frz_d, frz_v, frz_no, frz_box, isM_m, isM_S, gtName, gtTup2, gtTup3, gtCons_, gtNil_, List.set_cons_zero, List.set_cons_succ, String.reduceEq, decide_false, decide_true, Bool.false_eq_true, if_false, if_true, reduceIte, Bool.or_false, Bool.or_true, Bool.false_or, Bool.true_or, Bool.not_true, Bool.not_false, ite_self, true_and, and_true, false_and, and_false, see_sl, Option.some.injEq, exists_eq_left', reduceCtorEq, exists_false, or_false, false_or, or_true, true_or, ins_ex, fld1, exists_const, Str_nil_app, wipe_nil, wipe_cons, List.map_cons, List.map_nil, tD_inj, tmap_inj, imap_inj, smap_inj, rD_inj, rD_ins, rD_fld, arg_rD, arg_tsD, arg_bookD, arg_tD, ts_seq, catD_inj, catD_ins, catD_fld, arg_catD, bookD_inj, dMeth, meth_rD, meth_catD, ixL_0, ixL_1, ixL_2, catD_and, rD_and, Int.cast_ofNat_Int, Int.reduceEq, Int.reduceLT, Int.reduceLE, eq_self, List.mem_cons, List.not_mem_nil, not_true_eq_false, not_false_eq_true, or_self, non_tup, non_lst, non_int, non_str, non_bl, non_non, non_tD, ixtD_0, ixtD_1, gt_tD, List.getElem?_cons_zero, List.getElem?_cons_succ, Sl.m.injEq, exists_eq, exists_eq', true_implies, implies_true, seeD, seeV, seeM, same_str, same_int, same_bl, eqO_rD, bmap_inj, add_lst, add_tup, add_str, List.cons.injEq, Sl.d.injEq, Sl.v.injEq, D.int.injEq, D.tup.injEq, D.lst.injEq, D.str.injEq, D.bl.injEq, and_assoc, exists_and_left, exists_eq_left, exists_eq_left', and_true, true_and]
  refine int_in (by omega) ?_
  simp only [List.length_cons, List.length_nil, List.replicate, List.cons_append, List.nil_append, Nat.sub_self, Nat.reduceSub, Nat.reduceAdd, Nat.zero_add, sRet, sSeq, sIf, sSet, sNext, sDrop, sUnp, sApp, sRetN, sBreak, sCont, dAndV, dOrV, dUna, dBin, dC, dArgs, dNotV, dNot, dAnd, dOr, dB, dIf, dChain, dKeep, dTup, dLst, dSl, dRng1, dRng2, dSeqC, dSeqF, dYes, dVar_S, dVar_0, dVar_d, dVar_v, dVar_m, dVar_box, dVar_see, withV_sl, withV_d, withV_v, withV_m, withD_d, withD_m, keepR_d, keepR_m, keepR_box, arg_d, arg_v, arg_m, arg_box, arg_sl, sl_int, sl_bl, sl_str, sl_tup, sl_lst, sl_non, sl_ins, sl_ref, sl_inj, ex_bl, ex_bl2, ex_int, ex_str, ex_some, isi_non, isi_int, isi_str, isi_bl, isi_tup, isi_lst, len_tup, len_lst, eq_int, eq_str, eq_bl, ne_int, ne_str, ne_bl, ixT_0, ixT_1, ixT_2, sub_int, add_int, mul_int, le_int, lt_int, gt_int, ge_int, neg_int, isN_, notN_, list_lst, list_tup, tup_lst, tup_tup, one_int, two_int, seq_lst, seq_tup, seqP_0, seqP_S, frz_m, frz_S, frz_d, frz_v, frz_no, frz_box, isM_m, isM_S, gtName, gtTup2, gtTup3, gtCons_, gtNil_, List.set_cons_zero, List.set_cons_succ, String.reduceEq, decide_false, decide_true, Bool.false_eq_true, if_false, if_true, reduceIte, Bool.or_false, Bool.or_true, Bool.false_or, Bool.true_or, Bool.not_true, Bool.not_false, ite_self, true_and, and_true, false_and, and_false, see_sl, Option.some.injEq, exists_eq_left', reduceCtorEq, exists_false, or_false, false_or, or_true, true_or, ins_ex, fld1, exists_const, Str_nil_app, wipe_nil, wipe_cons, List.map_cons, List.map_nil, tD_inj, tmap_inj, imap_inj, smap_inj, rD_inj, rD_ins, rD_fld, arg_rD, arg_tsD, arg_bookD, arg_tD, ts_seq, catD_inj, catD_ins, catD_fld, arg_catD, bookD_inj, dMeth, meth_rD, meth_catD, ixL_0, ixL_1, ixL_2, catD_and, rD_and, Int.cast_ofNat_Int, Int.reduceEq, Int.reduceLT, Int.reduceLE, eq_self, List.mem_cons, List.not_mem_nil, not_true_eq_false, not_false_eq_true, or_self, non_tup, non_lst, non_int, non_str, non_bl, non_non, non_tD, ixtD_0, ixtD_1, gt_tD, List.getElem?_cons_zero, List.getElem?_cons_succ, Sl.m.injEq, exists_eq, exists_eq', true_implies, implies_true, seeD, seeV, seeM, same_str, same_int, same_bl, eqO_rD, bmap_inj, add_lst, add_tup, add_str]
  have e : preN (signD (cutS "abcdefgh" none (some (n : Int)))) := ⟨abcN n, n, abcN_signs h8, abcN_nms h8, h1, h8⟩
  refine ⟨by decide, Nat.le_trans (cutS_length _ _ _) (by decide), e, ?_⟩
  rw [abcN_signs h8]
  exact k
abbrev sCatalogisbook : Stmt := inClass (top 19) 7
theorem scCatalogisbook : FnScope ["self", "value", "number"] ["self", "value"] (defScope sCatalogisbook) := ⟨rfl, rfl, rfl, by decide +kernel, rfl, by decide +kernel, by decide +kernel⟩
theorem ok_isbook {f : Addr} {fd : FuncData} (F : Fun K "is_book" "Catalog.is_book" sCatalogisbook f fd) (T : Tx mg u) {fC : Addr} (FCatalog : ClF K u.Catalog fC) (nnames : NoAttr K u.Catalog "names") (cisinteger : Cal P w K mg base 1 "is_integer" (lift (ciC u) dInteger) []) : FnOk P w K mg base CX0 2 f fd ["self", "value"] (lift (ciC u) (dIsBook u.Catalog)) := by
  refine okD (k := 1) F scCatalogisbook (fun rs R h => by
    obtain ⟨_, _, rfl, _⟩ := h
    rfl) (by decide) ⟨_, (dss_one (ds_ret (de_and (de_isi K (T := "tuple") (fun _ => T.isinstance) (fun _ => T.tuple) (de_var 1)) (de_and (de_eq K (fun i => i.hr) (de_len K (fun _ => T.len) (de_var 1)) (de_len K (fun _ => T.len) (de_fld K FCatalog.cl nnames (de_var 0)))) (de_one (de_all K (fun _ => rfl) (fun _ => T.all) (de_lc (own := [("number", 2)]) (fun _ => rfl) (fun _ => scCatalogisbook.nd) (di_seqC K (de_var 1)) (fun _ => blkOk_by (N := ["self", "value", "number"]) (sc := defScope sCatalogisbook) (by decide +kernel)) (dg_name 2 (fun _ => scCatalogisbook.nd)) dts_nil (de_call (fun _ => cisinteger) (fun i => i.i.hr) (by first | decide | omega) (fun _ => rfl) (daa_cons (de_var 2) (daa_cons (de_neg (de_glob (fun _ => rfl) (fun _ => T.mBOUND) T.rBOUND (fun _ => .int _))) (daa_cons (de_glob (fun _ => rfl) (fun _ => T.mBOUND) T.rBOUND (fun _ => .int _)) daa_nil))))))))))), ?_⟩
  rintro _ R ⟨ns, b, rfl, h8, ⟨hl, hv⟩, k⟩
  simp only [List.length_cons, List.length_nil, List.replicate, List.cons_append, List.nil_append, Nat.sub_self, Nat.reduceSub, Nat.reduceAdd, Nat.zero_add, sRet, sSeq, sIf, sSet, sNext, sDrop, sUnp, sApp, sRetN, sBreak, sCont, dAndV, dOrV, dUna, dBin, dC, dArgs, dNotV, dNot, dAnd, dOr, dB, dIf, dChain, dKeep, dTup, dLst, dSl, dRng1, dRng2, dSeqC, dSeqF, dYes, dVar_S, dVar_0, dVar_d, dVar_v, dVar_m, dVar_box, dVar_see, withV_sl, withV_d, withV_v, withV_m, withD_d, withD_m, keepR_d, keepR_m, keepR_box, arg_d, arg_v, arg_m, arg_box, arg_sl, sl_int, sl_bl, sl_str, sl_tup, sl_lst, sl_non, sl_ins, sl_ref, sl_inj, ex_bl, ex_bl2, ex_int, ex_str, ex_some, isi_non, isi_int, isi_str, isi_bl, isi_tup, isi_lst, len_tup, len_lst, eq_int, eq_str, eq_bl, ne_int, ne_str, ne_bl, ixT_0, ixT_1, ixT_2, sub_int, add_int, mul_int, le_int, lt_int, gt_int, ge_int, neg_int, isN_, notN_, list_lst, list_tup, tup_lst, tup_tup, one_int, two_int, seq_lst, seq_tup, seqP_0, seqP_S, frz_m, frz_S, frz_d, frz_v, frz_no, frz_box, isM_m, isM_S, gtName, gtTup2, gtTup3, gtCons_, gtNil_, List.set_cons_zero, List.set_cons_succ, String.reduceEq, decide_false, decide_true, Bool.false_eq_true, if_false, if_true, reduceIte, Bool.or_false, Bool.or_true, Bool.false_or, Bool.true_or, Bool.not_true, Bool.not_false, ite_self, true_and, and_true, false_and, and_false, see_sl, Option.some.injEq, exists_eq_left', reduceCtorEq, exists_false, or_false, false_or, or_true, true_or, ins_ex, fld1, exists_const, Str_nil_app, wipe_nil, wipe_cons, List.map_cons, List.map_nil, tD_inj, tmap_inj, imap_inj, smap_inj, rD_inj, rD_ins, rD_fld, arg_rD, arg_tsD, arg_bookD, arg_tD, ts_seq, catD_inj, catD_ins, catD_fld, arg_catD, bookD_inj, dMeth, meth_rD, meth_catD, ixL_0, ixL_1, ixL_2, catD_and, rD_and, Int.cast_ofNat_Int, Int.reduceEq, Int.reduceLT, Int.reduceLE, eq_self, List.mem_cons, List.not_mem_nil, not_true_eq_false, not_false_eq_true, or_self, non_tup, non_lst, non_int, non_str, non_bl, non_non, non_tD, ixtD_0, ixtD_1, gt_tD, List.getElem?_cons_zero, List.getElem?_cons_succ, Sl.m.injEq, exists_eq, exists_eq', true_implies, implies_true, seeD, seeV, seeM, same_str, same_int, same_bl, eqO_rD, bmap_inj, add_lst, add_tup, add_str, ev_fld1, ev_fld2, ev_ins, arg_evD, ev_meth, ev_and, isi_bk, len_bk, len_strs, dLc, List.cons.injEq, Sl.d.injEq, Sl.v.injEq, D.int.injEq, D.tup.injEq, D.lst.injEq, D.str.injEq, D.bl.injEq, and_assoc, exists_and_left, exists_eq_left, exists_eq_left', and_true, true_and]
  rw [hl]
  simp only [List.length_cons, List.length_nil, List.replicate, List.cons_append, List.nil_append, Nat.sub_self, Nat.reduceSub, Nat.reduceAdd, Nat.zero_add, sRet, sSeq, sIf, sSet, sNext, sDrop, sUnp, sApp, sRetN, sBreak, sCont, dAndV, dOrV, dUna, dBin, dC, dArgs, dNotV, dNot, dAnd, dOr, dB, dIf, dChain, dKeep, dTup, dLst, dSl, dRng1, dRng2, dSeqC, dSeqF, dYes, dVar_S, dVar_0, dVar_d, dVar_v, dVar_m, dVar_box, dVar_see, withV_sl, withV_d, withV_v, withV_m, withD_d, withD_m, keepR_d, keepR_m, keepR_box, arg_d, arg_v, arg_m, arg_box, arg_sl, sl_int, sl_bl, sl_str, sl_tup, sl_lst, sl_non, sl_ins, sl_ref, sl_inj, ex_bl, ex_bl2, ex_int, ex_str, ex_some, isi_non, isi_int, isi_str, isi_bl, isi_tup, isi_lst, len_tup, len_lst, eq_int, eq_str, eq_bl, ne_int, ne_str, ne_bl, ixT_0, ixT_1, ixT_2, sub_int, add_int, mul_int, le_int, lt_int, gt_int, ge_int, neg_int, isN_, notN_, list_lst, list_tup, tup_lst, tup_tup, one_int, two_int, seq_lst, seq_tup, seqP_0, seqP_S, frz_m, frz_S, frz_d, frz_v, frz_no, frz_box, isM_m, isM_S, gtName, gtTup2, gtTup3, gtCons_, gtNil_, List.set_cons_zero, List.set_cons_succ, String.reduceEq, decide_false, decide_true, Bool.false_eq_true, if_false, if_true, reduceIte, Bool.or_false, Bool.or_true, Bool.false_or, Bool.true_or, Bool.not_true, Bool.not_false, ite_self, true_and, and_true, false_and, and_false, see_sl, Option.some.injEq, exists_eq_left', reduceCtorEq, exists_false, or_false, false_or, or_true, true_or, ins_ex, fld1, exists_const, Str_nil_app, wipe_nil, wipe_cons, List.map_cons, List.map_nil, tD_inj, tmap_inj, imap_inj, smap_inj, rD_inj, rD_ins, rD_fld, arg_rD, arg_tsD, arg_bookD, arg_tD, ts_seq, catD_inj, catD_ins, catD_fld, arg_catD, bookD_inj, dMeth, meth_rD, meth_catD, ixL_0, ixL_1, ixL_2, catD_and, rD_and, Int.cast_ofNat_Int, Int.reduceEq, Int.reduceLT, Int.reduceLE, eq_self, List.mem_cons, List.not_mem_nil, not_true_eq_false, not_false_eq_true, or_self, non_tup, non_lst, non_int, non_str, non_bl, non_non, non_tD, ixtD_0, ixtD_1, gt_tD, List.getElem?_cons_zero, List.getElem?_cons_succ, Sl.m.injEq, exists_eq, exists_eq', true_implies, implies_true, seeD, seeV, seeM, same_str, same_int, same_bl, eqO_rD, bmap_inj, add_lst, add_tup, add_str]
  refine ⟨by simp; omega, compW_fn (fun _ => .bl true) (fun x hx kk hk => ?_) ?_⟩
  · obtain ⟨v, hv2, rfl⟩ := List.mem_map.mp hx
    simp only [List.length_cons, List.length_nil, List.replicate, List.cons_append, List.nil_append, Nat.sub_self, Nat.reduceSub, Nat.reduceAdd, Nat.zero_add, sRet, sSeq, sIf, sSet, sNext, sDrop, sUnp, sApp, sRetN, sBreak, sCont, dAndV, dOrV, dUna, dBin, dC, dArgs, dNotV, dNot, dAnd, dOr, dB, dIf, dChain, dKeep, dTup, dLst, dSl, dRng1, dRng2, dSeqC, dSeqF, dYes, dVar_S, dVar_0, dVar_d, dVar_v, dVar_m, dVar_box, dVar_see, withV_sl, withV_d, withV_v, withV_m, withD_d, withD_m, keepR_d, keepR_m, keepR_box, arg_d, arg_v, arg_m, arg_box, arg_sl, sl_int, sl_bl, sl_str, sl_tup, sl_lst, sl_non, sl_ins, sl_ref, sl_inj, ex_bl, ex_bl2, ex_int, ex_str, ex_some, isi_non, isi_int, isi_str, isi_bl, isi_tup, isi_lst, len_tup, len_lst, eq_int, eq_str, eq_bl, ne_int, ne_str, ne_bl, ixT_0, ixT_1, ixT_2, sub_int, add_int, mul_int, le_int, lt_int, gt_int, ge_int, neg_int, isN_, notN_, list_lst, list_tup, tup_lst, tup_tup, one_int, two_int, seq_lst, seq_tup, seqP_0, seqP_S, frz_m, frz_S, frz_d, frz_v, frz_no, frz_box, isM_m, isM_S, gtName, gtTup2, gtTup3, gtCons_, gtNil_, List.set_cons_zero, List.set_cons_succ, String.reduceEq, decide_false, decide_true, Bool.false_eq_true, if_false, if_true, reduceIte, Bool.or_false, Bool.or_true, Bool.false_or, Bool.true_or, Bool.not_true, Bool.not_false, ite_self, true_and, and_true, false_and, and_false, see_sl, Option.some.injEq, exists_eq_left', reduceCtorEq, exists_false, or_false, false_or, or_true, true_or, ins_ex, fld1, exists_const, Str_nil_app, wipe_nil, wipe_cons, List.map_cons, List.map_nil, tD_inj, tmap_inj, imap_inj, smap_inj, rD_inj, rD_ins, rD_fld, arg_rD, arg_tsD, arg_bookD, arg_tD, ts_seq, catD_inj, catD_ins, catD_fld, arg_catD, bookD_inj, dMeth, meth_rD, meth_catD, ixL_0, ixL_1, ixL_2, catD_and, rD_and, Int.cast_ofNat_Int, Int.reduceEq, Int.reduceLT, Int.reduceLE, eq_self, List.mem_cons, List.not_mem_nil, not_true_eq_false, not_false_eq_true, or_self, non_tup, non_lst, non_int, non_str, non_bl, non_non, non_tD, ixtD_0, ixtD_1, gt_tD, List.getElem?_cons_zero, List.getElem?_cons_succ, Sl.m.injEq, exists_eq, exists_eq', true_implies, implies_true, seeD, seeV, seeM, same_str, same_int, same_bl, eqO_rD, bmap_inj, add_lst, add_tup, add_str]
    exact int_in (hv v hv2) hk
  · refine ⟨b.map fun _ => true, by simp, ?_⟩
    have e : (b.map fun _ => true).all id = true := by simp
    show R (.d (.bl ((b.map fun _ => true).all id)))
    rw [e]
    exact k
abbrev scheckbooks : Stmt := top 14
theorem sccheckbooks : FnScope ["books", "catalog", "book"] ["books", "catalog"] (defScope scheckbooks) := ⟨rfl, rfl, rfl, by decide +kernel, rfl, by decide +kernel, by decide +kernel⟩
theorem ok_check {f : Addr} {fd : FuncData} (F : Fun K "check_books" "check_books" scheckbooks f fd) (T : Tx mg u) (misbook : Met P w K mg base 2 u.Catalog "is_book" (lift (ciC u) (dIsBook u.Catalog)) []) : FnOk P w K mg base CX0 3 f fd ["books", "catalog"] (lift (ciC u) (dCheck u.Catalog)) := by
  refine okD (k := 2) F sccheckbooks (fun rs R h => by
    obtain ⟨_, _, _, rfl, _⟩ := h
    rfl) (by decide) ⟨_, (dss_one (ds_for (fun _ => PassesOwn.never) (fun _ => rfl) (di_seqA K 0) (dg_name 2 (fun _ => sccheckbooks.nd))
    (dss_one (ds_if (dt_not (dt_val (de_meth (fun _ => misbook) (fun i => i.hr) (by decide) ((de_var 1)) (daa_cons (de_var 2) daa_nil))))
      (dss_one ds_never)
      dss_nil)))), ?_⟩
  rintro _ R ⟨r, ns, bs, rfl, hr, hz, h8, hb, k⟩
  simp only [List.length_cons, List.length_nil, List.replicate, List.cons_append, List.nil_append, Nat.sub_self, Nat.reduceSub, Nat.reduceAdd, Nat.zero_add, sRet, sSeq, sIf, sSet, sNext, sDrop, sUnp, sApp, sRetN, sBreak, sCont, dAndV, dOrV, dUna, dBin, dC, dArgs, dNotV, dNot, dAnd, dOr, dB, dIf, dChain, dKeep, dTup, dLst, dSl, dRng1, dRng2, dSeqC, dSeqF, dYes, dVar_S, dVar_0, dVar_d, dVar_v, dVar_m, dVar_box, dVar_see, withV_sl, withV_d, withV_v, withV_m, withD_d, withD_m, keepR_d, keepR_m, keepR_box, arg_d, arg_v, arg_m, arg_box, arg_sl, sl_int, sl_bl, sl_str, sl_tup, sl_lst, sl_non, sl_ins, sl_ref, sl_inj, ex_bl, ex_bl2, ex_int, ex_str, ex_some, isi_non, isi_int, isi_str, isi_bl, isi_tup, isi_lst, len_tup, len_lst, eq_int, eq_str, eq_bl, ne_int, ne_str, ne_bl, ixT_0, ixT_1, ixT_2, sub_int, add_int, mul_int, le_int, lt_int, gt_int, ge_int, neg_int, isN_, notN_, list_lst, list_tup, tup_lst, tup_tup, one_int, two_int, seq_lst, seq_tup, seqP_0, seqP_S, frz_m, frz_S, frz_d, frz_v, frz_no, frz_box, isM_m, isM_S, gtName, gtTup2, gtTup3, gtCons_, gtNil_, List.set_cons_zero, List.set_cons_succ, String.reduceEq, decide_false, decide_true, Bool.false_eq_true, if_false, if_true, reduceIte, Bool.or_false, Bool.or_true, Bool.false_or, Bool.true_or, Bool.not_true, Bool.not_false, ite_self, true_and, and_true, false_and, and_false, see_sl, Option.some.injEq, exists_eq_left', reduceCtorEq, exists_false, or_false, false_or, or_true, true_or, ins_ex, fld1, exists_const, Str_nil_app, wipe_nil, wipe_cons, List.map_cons, List.map_nil, tD_inj, tmap_inj, imap_inj, smap_inj, rD_inj, rD_ins, rD_fld, arg_rD, arg_tsD, arg_bookD, arg_tD, ts_seq, catD_inj, catD_ins, catD_fld, arg_catD, bookD_inj, dMeth, meth_rD, meth_catD, ixL_0, ixL_1, ixL_2, catD_and, rD_and, Int.cast_ofNat_Int, Int.reduceEq, Int.reduceLT, Int.reduceLE, eq_self, List.mem_cons, List.not_mem_nil, not_true_eq_false, not_false_eq_true, or_self, non_tup, non_lst, non_int, non_str, non_bl, non_non, non_tD, ixtD_0, ixtD_1, gt_tD, List.getElem?_cons_zero, List.getElem?_cons_succ, Sl.m.injEq, exists_eq, exists_eq', true_implies, implies_true, seeD, seeV, seeM, same_str, same_int, same_bl, eqO_rD, bmap_inj, add_lst, add_tup, add_str, ev_fld1, ev_fld2, ev_ins, arg_evD, ev_meth, ev_and, isi_bk, len_bk, len_strs, sFor, List.cons.injEq, Sl.d.injEq, Sl.v.injEq, D.int.injEq, D.tup.injEq, D.lst.injEq, D.str.injEq, D.bl.injEq, and_assoc, exists_and_left, exists_eq_left, exists_eq_left', and_true, true_and]
  have hs : ∀ {R : List D → Prop}, R (bs.map bookD) → dSeqA 0 [r, .d (catD u.Catalog ns), .no] R := fun h => by
    rcases hr with rfl | rfl | rfl <;> exact h
  refine hs ⟨fun i ρ => ∃ x2, ρ = [r, .d (catD u.Catalog ns), x2], ⟨_, rfl⟩, ?_, fun ρ _ => k⟩
  rintro i x ρ hx ⟨x2, rfl⟩
  rw [List.getElem?_map] at hx
  obtain ⟨b, eb, rfl⟩ := Option.map_eq_some_iff.mp hx
  simp only [List.length_cons, List.length_nil, List.replicate, List.cons_append, List.nil_append, Nat.sub_self, Nat.reduceSub, Nat.reduceAdd, Nat.zero_add, sRet, sSeq, sIf, sSet, sNext, sDrop, sUnp, sApp, sRetN, sBreak, sCont, dAndV, dOrV, dUna, dBin, dC, dArgs, dNotV, dNot, dAnd, dOr, dB, dIf, dChain, dKeep, dTup, dLst, dSl, dRng1, dRng2, dSeqC, dSeqF, dYes, dVar_S, dVar_0, dVar_d, dVar_v, dVar_m, dVar_box, dVar_see, withV_sl, withV_d, withV_v, withV_m, withD_d, withD_m, keepR_d, keepR_m, keepR_box, arg_d, arg_v, arg_m, arg_box, arg_sl, sl_int, sl_bl, sl_str, sl_tup, sl_lst, sl_non, sl_ins, sl_ref, sl_inj, ex_bl, ex_bl2, ex_int, ex_str, ex_some, isi_non, isi_int, isi_str, isi_bl, isi_tup, isi_lst, len_tup, len_lst, eq_int, eq_str, eq_bl, ne_int, ne_str, ne_bl, ixT_0, ixT_1, ixT_2, sub_int, add_int, mul_int, le_int, lt_int, gt_int, ge_int, neg_int, isN_, notN_, list_lst, list_tup, tup_lst, tup_tup, one_int, two_int, seq_lst, seq_tup, seqP_0, seqP_S, frz_m, frz_S, frz_d, frz_v, frz_no, frz_box, isM_m, isM_S, gtName, gtTup2, gtTup3, gtCons_, gtNil_, List.set_cons_zero, List.set_cons_succ, String.reduceEq, decide_false, decide_true, Bool.false_eq_true, if_false, if_true, reduceIte, Bool.or_false, Bool.or_true, Bool.false_or, Bool.true_or, Bool.not_true, Bool.not_false, ite_self, true_and, and_true, false_and, and_false, see_sl, Option.some.injEq, exists_eq_left', reduceCtorEq, exists_false, or_false, false_or, or_true, true_or, ins_ex, fld1, exists_const, Str_nil_app, wipe_nil, wipe_cons, List.map_cons, List.map_nil, tD_inj, tmap_inj, imap_inj, smap_inj, rD_inj, rD_ins, rD_fld, arg_rD, arg_tsD, arg_bookD, arg_tD, ts_seq, catD_inj, catD_ins, catD_fld, arg_catD, bookD_inj, dMeth, meth_rD, meth_catD, ixL_0, ixL_1, ixL_2, catD_and, rD_and, Int.cast_ofNat_Int, Int.reduceEq, Int.reduceLT, Int.reduceLE, eq_self, List.mem_cons, List.not_mem_nil, not_true_eq_false, not_false_eq_true, or_self, non_tup, non_lst, non_int, non_str, non_bl, non_non, non_tD, ixtD_0, ixtD_1, gt_tD, List.getElem?_cons_zero, List.getElem?_cons_succ, Sl.m.injEq, exists_eq, exists_eq', true_implies, implies_true, seeD, seeV, seeM, same_str, same_int, same_bl, eqO_rD, bmap_inj, add_lst, add_tup, add_str, ev_fld1, ev_fld2, ev_ins, arg_evD, ev_meth, ev_and, isi_bk, len_bk, len_strs]
  obtain ⟨b1, b2⟩ := hb b (List.mem_of_getElem? eb)
  refine ⟨by decide, ns, b, rfl, h8, ⟨b1, b2⟩, ?_⟩
  simp only [List.length_cons, List.length_nil, List.replicate, List.cons_append, List.nil_append, Nat.sub_self, Nat.reduceSub, Nat.reduceAdd, Nat.zero_add, sRet, sSeq, sIf, sSet, sNext, sDrop, sUnp, sApp, sRetN, sBreak, sCont, dAndV, dOrV, dUna, dBin, dC, dArgs, dNotV, dNot, dAnd, dOr, dB, dIf, dChain, dKeep, dTup, dLst, dSl, dRng1, dRng2, dSeqC, dSeqF, dYes, dVar_S, dVar_0, dVar_d, dVar_v, dVar_m, dVar_box, dVar_see, withV_sl, withV_d, withV_v, withV_m, withD_d, withD_m, keepR_d, keepR_m, keepR_box, arg_d, arg_v, arg_m, arg_box, arg_sl, sl_int, sl_bl, sl_str, sl_tup, sl_lst, sl_non, sl_ins, sl_ref, sl_inj, ex_bl, ex_bl2, ex_int, ex_str, ex_some, isi_non, isi_int, isi_str, isi_bl, isi_tup, isi_lst, len_tup, len_lst, eq_int, eq_str, eq_bl, ne_int, ne_str, ne_bl, ixT_0, ixT_1, ixT_2, sub_int, add_int, mul_int, le_int, lt_int, gt_int, ge_int, neg_int, isN_, notN_, list_lst, list_tup, tup_lst, tup_tup, one_int, two_int, seq_lst, seq_tup, seqP_0, seqP_S, frz_m, frz_S, frz_d, frz_v, frz_no, frz_box, isM_m, isM_S, gtName, gtTup2, gtTup3, gtCons_, gtNil_, List.set_cons_zero, List.set_cons_succ, String.reduceEq, decide_false, decide_true, Bool.false_eq_true, if_false, if_true, reduceIte, Bool.or_false, Bool.or_true, Bool.false_or, Bool.true_or, Bool.not_true, Bool.not_false, ite_self, true_and, and_true, false_and, and_false, see_sl, Option.some.injEq, exists_eq_left', reduceCtorEq, exists_false, or_false, false_or, or_true, true_or, ins_ex, fld1, exists_const, Str_nil_app, wipe_nil, wipe_cons, List.map_cons, List.map_nil, tD_inj, tmap_inj, imap_inj, smap_inj, rD_inj, rD_ins, rD_fld, arg_rD, arg_tsD, arg_bookD, arg_tD, ts_seq, catD_inj, catD_ins, catD_fld, arg_catD, bookD_inj, dMeth, meth_rD, meth_catD, ixL_0, ixL_1, ixL_2, catD_and, rD_and, Int.cast_ofNat_Int, Int.reduceEq, Int.reduceLT, Int.reduceLE, eq_self, List.mem_cons, List.not_mem_nil, not_true_eq_false, not_false_eq_true, or_self, non_tup, non_lst, non_int, non_str, non_bl, non_non, non_tD, ixtD_0, ixtD_1, gt_tD, List.getElem?_cons_zero, List.getElem?_cons_succ, Sl.m.injEq, exists_eq, exists_eq', true_implies, implies_true, seeD, seeV, seeM, same_str, same_int, same_bl, eqO_rD, bmap_inj, add_lst, add_tup, add_str]
  exact ⟨_, rfl⟩
abbrev sEvidenceinit : Stmt := inClass (top 16) 1
theorem scEvidenceinit : FnScope ["self", "catalog"] ["self", "catalog"] (defScope sEvidenceinit) := ⟨rfl, rfl, rfl, by decide +kernel, rfl, by decide +kernel, by decide +kernel⟩
theorem ok_evI {f : Addr} {fd : FuncData} (F : Fun K "__init__" "Evidence.__init__" sEvidenceinit f fd) (T : Tx mg u) (FC : ClF K u.Evidence f) (ncatalog : NoAttr K u.Evidence "catalog") (n_shelves : NoAttr K u.Evidence "_shelves") : FnOk P w K mg base CX0 1 f fd ["self", "catalog"] (liftI (ciC u) u.Evidence (dEvI u.Catalog)) := by
  refine okI (k := 0) (ps := ["catalog"]) F scEvidenceinit (fun rs R h => by
    obtain ⟨_, rfl, _⟩ := h
    rfl) (by decide) ⟨_, (dn_set FC.cl ncatalog (de_var 1) (h2 := (dn_set FC.cl n_shelves de_dnew (h2 := dn_nil)))), ?_⟩
  rintro x _ R ⟨ns, rfl, k⟩
  simp (decide := true) only [List.length_cons, List.length_nil, List.replicate, List.cons_append, List.nil_append, Nat.sub_self, Nat.reduceSub, Nat.reduceAdd, Nat.zero_add, sRet, sSeq, sIf, sSet, sNext, sDrop, sUnp, sApp, sRetN, sBreak, sCont, dAndV, dOrV, dUna, dBin, dC, dArgs, dNotV, dNot, dAnd, dOr, dB, dIf, dChain, dKeep, dTup, dLst, dSl, dRng1, dRng2, dSeqC, dSeqF, dYes, dVar_S, dVar_0, dVar_d, dVar_v, dVar_m, dVar_box, dVar_see, withV_sl, withV_d, withV_v, withV_m, withD_d, withD_m, keepR_d, keepR_m, keepR_box, arg_d, arg_v, arg_m, arg_box, arg_sl, sl_int, sl_bl, sl_str, sl_tup, sl_lst, sl_non, sl_ins, sl_ref, sl_inj, ex_bl, ex_bl2, ex_int, ex_str, ex_some, isi_non, isi_int, isi_str, isi_bl, isi_tup, isi_lst, len_tup, len_lst, eq_int, eq_str, eq_bl, ne_int, ne_str, ne_bl, ixT_0, ixT_1, ixT_2, sub_int, add_int, mul_int, le_int, lt_int, gt_int, ge_int, neg_int, isN_, notN_, list_lst, list_tup, tup_lst, tup_tup, one_int, two_int, seq_lst, seq_tup, seqP_0, seqP_S, frz_m, frz_S, frz_d, frz_v, frz_no, frz_box, isM_m, isM_S, gtName, gtTup2, gtTup3, gtCons_, gtNil_, List.set_cons_zero, List.set_cons_succ, String.reduceEq, decide_false, decide_true, Bool.false_eq_true, if_false, if_true, reduceIte, Bool.or_false, Bool.or_true, Bool.false_or, Bool.true_or, Bool.not_true, Bool.not_false, ite_self, true_and, and_true, false_and, and_false, see_sl, Option.some.injEq, exists_eq_left', reduceCtorEq, exists_false, or_false, false_or, or_true, true_or, ins_ex, fld1, exists_const, Str_nil_app, wipe_nil, wipe_cons, List.map_cons, List.map_nil, tD_inj, tmap_inj, imap_inj, smap_inj, rD_inj, rD_ins, rD_fld, arg_rD, arg_tsD, arg_bookD, arg_tD, ts_seq, catD_inj, catD_ins, catD_fld, arg_catD, bookD_inj, dMeth, meth_rD, meth_catD, ixL_0, ixL_1, ixL_2, catD_and, rD_and, Int.cast_ofNat_Int, Int.reduceEq, Int.reduceLT, Int.reduceLE, eq_self, List.mem_cons, List.not_mem_nil, not_true_eq_false, not_false_eq_true, or_self, non_tup, non_lst, non_int, non_str, non_bl, non_non, non_tD, ixtD_0, ixtD_1, gt_tD, List.getElem?_cons_zero, List.getElem?_cons_succ, Sl.m.injEq, exists_eq, exists_eq', true_implies, implies_true, seeD, seeV, seeM, same_str, same_int, same_bl, eqO_rD, bmap_inj, add_lst, add_tup, add_str, noM_nil, noM_d, noM_v, noM_no, arg_catD]
  exact k
abbrev sEvidencecontains : Stmt := inClass (top 16) 27
theorem scEvidencecontains : FnScope ["self", "name"] ["self", "name"] (defScope sEvidencecontains) := ⟨rfl, rfl, rfl, by decide +kernel, rfl, by decide +kernel, by decide +kernel⟩
theorem ok_hasE {f : Addr} {fd : FuncData} (F : Fun K "__contains__" "Evidence.__contains__" sEvidencecontains f fd) (T : Tx mg u) {fE : Addr} (FEvidence : ClF K u.Evidence fE) (ncatalog : NoAttr K u.Evidence "catalog") (n_shelves : NoAttr K u.Evidence "_shelves") : FnOk P w K mg base CX0 1 f fd ["self", "name"] (lift (ciC u) (dHasE u.Evidence u.Catalog)) := by
  refine okD (k := 0) F scEvidencecontains (fun rs R h => by
    obtain ⟨_, _, _, rfl, _⟩ := h
    rfl) (by decide) ⟨_, (dss_one (ds_ret (de_inD (fun i => i.hr) (de_var 1) (de_fld K FEvidence.cl n_shelves (de_var 0))))), ?_⟩
  rintro _ R ⟨ns, sh, z, rfl, k⟩
  simp only [List.length_cons, List.length_nil, List.replicate, List.cons_append, List.nil_append, Nat.sub_self, Nat.reduceSub, Nat.reduceAdd, Nat.zero_add, sRet, sSeq, sIf, sSet, sNext, sDrop, sUnp, sApp, sRetN, sBreak, sCont, dAndV, dOrV, dUna, dBin, dC, dArgs, dNotV, dNot, dAnd, dOr, dB, dIf, dChain, dKeep, dTup, dLst, dSl, dRng1, dRng2, dSeqC, dSeqF, dYes, dVar_S, dVar_0, dVar_d, dVar_v, dVar_m, dVar_box, dVar_see, withV_sl, withV_d, withV_v, withV_m, withD_d, withD_m, keepR_d, keepR_m, keepR_box, arg_d, arg_v, arg_m, arg_box, arg_sl, sl_int, sl_bl, sl_str, sl_tup, sl_lst, sl_non, sl_ins, sl_ref, sl_inj, ex_bl, ex_bl2, ex_int, ex_str, ex_some, isi_non, isi_int, isi_str, isi_bl, isi_tup, isi_lst, len_tup, len_lst, eq_int, eq_str, eq_bl, ne_int, ne_str, ne_bl, ixT_0, ixT_1, ixT_2, sub_int, add_int, mul_int, le_int, lt_int, gt_int, ge_int, neg_int, isN_, notN_, list_lst, list_tup, tup_lst, tup_tup, one_int, two_int, seq_lst, seq_tup, seqP_0, seqP_S, frz_m, frz_S, frz_d, frz_v, frz_no, frz_box, isM_m, isM_S, gtName, gtTup2, gtTup3, gtCons_, gtNil_, List.set_cons_zero, List.set_cons_succ, String.reduceEq, decide_false, decide_true, Bool.false_eq_true, if_false, if_true, reduceIte, Bool.or_false, Bool.or_true, Bool.false_or, Bool.true_or, Bool.not_true, Bool.not_false, ite_self, true_and, and_true, false_and, and_false, see_sl, Option.some.injEq, exists_eq_left', reduceCtorEq, exists_false, or_false, false_or, or_true, true_or, ins_ex, fld1, exists_const, Str_nil_app, wipe_nil, wipe_cons, List.map_cons, List.map_nil, tD_inj, tmap_inj, imap_inj, smap_inj, rD_inj, rD_ins, rD_fld, arg_rD, arg_tsD, arg_bookD, arg_tD, ts_seq, catD_inj, catD_ins, catD_fld, arg_catD, bookD_inj, dMeth, meth_rD, meth_catD, ixL_0, ixL_1, ixL_2, catD_and, rD_and, Int.cast_ofNat_Int, Int.reduceEq, Int.reduceLT, Int.reduceLE, eq_self, List.mem_cons, List.not_mem_nil, not_true_eq_false, not_false_eq_true, or_self, non_tup, non_lst, non_int, non_str, non_bl, non_non, non_tD, ixtD_0, ixtD_1, gt_tD, List.getElem?_cons_zero, List.getElem?_cons_succ, Sl.m.injEq, exists_eq, exists_eq', true_implies, implies_true, seeD, seeV, seeM, same_str, same_int, same_bl, eqO_rD, bmap_inj, add_lst, add_tup, add_str, ev_fld1, ev_fld2, ev_ins, arg_evD, ev_meth, ev_and, isi_bk, len_bk, len_strs, List.cons.injEq, Sl.d.injEq, Sl.v.injEq, D.int.injEq, D.tup.injEq, D.lst.injEq, D.str.injEq, D.bl.injEq, and_assoc, exists_and_left, exists_eq_left, exists_eq_left', and_true, true_and]
  refine ⟨_, _, keyS z, rfl, rfl, ?_⟩
  rw [keyS_mem]
  exact k
abbrev sEvidencewithshelves : Stmt := inClass (top 16) 10
theorem scEvidencewithshelves : FnScope ["self", "shelves", "evidence"] ["self", "shelves"] (defScope sEvidencewithshelves) := ⟨rfl, rfl, rfl, by decide +kernel, rfl, by decide +kernel, by decide +kernel⟩
theorem ok_withS {f : Addr} {fd : FuncData} (F : Fun K "_with_shelves" "Evidence._with_shelves" sEvidencewithshelves f fd) (T : Tx mg u) (hciE : ∀ a F, (ciC u).I u.Evidence a F) {fE : Addr} (GE : FnR P w K mg base CX0 1 fE (liftI (ciC u) u.Evidence (dEvI u.Catalog))) (FEvidence : ClF K u.Evidence fE) (ncatalog : NoAttr K u.Evidence "catalog") (n_shelves : NoAttr K u.Evidence "_shelves") : FnOk P w K mg base CX0 3 f fd ["self", "shelves"] (lift (ciC u) (dWithS u.Evidence u.Catalog)) := by
  refine okD (k := 2) F scEvidencewithshelves (fun rs R h => by
    obtain ⟨_, _, _, rfl, _⟩ := h
    rfl) (by decide) ⟨_, (dss_remake K 2 hciE FEvidence.mak FEvidence.cl n_shelves (f1 := "catalog") (by decide) (fun _ => GE) (fun i => i.hr.mono (by decide)) (fun _ => rfl) (fun _ => T.mEvidence) (daa_cons (de_fld K FEvidence.cl ncatalog (de_var 0)) daa_nil) (de_var 1) (fun _ => scEvidencewithshelves.nd)), ?_⟩
  rintro _ R ⟨ns, sh, th, rfl, k⟩
  simp only [List.length_cons, List.length_nil, List.replicate, List.cons_append, List.nil_append, Nat.sub_self, Nat.reduceSub, Nat.reduceAdd, Nat.zero_add, sRet, sSeq, sIf, sSet, sNext, sDrop, sUnp, sApp, sRetN, sBreak, sCont, dAndV, dOrV, dUna, dBin, dC, dArgs, dNotV, dNot, dAnd, dOr, dB, dIf, dChain, dKeep, dTup, dLst, dSl, dRng1, dRng2, dSeqC, dSeqF, dYes, dVar_S, dVar_0, dVar_d, dVar_v, dVar_m, dVar_box, dVar_see, withV_sl, withV_d, withV_v, withV_m, withD_d, withD_m, keepR_d, keepR_m, keepR_box, arg_d, arg_v, arg_m, arg_box, arg_sl, sl_int, sl_bl, sl_str, sl_tup, sl_lst, sl_non, sl_ins, sl_ref, sl_inj, ex_bl, ex_bl2, ex_int, ex_str, ex_some, isi_non, isi_int, isi_str, isi_bl, isi_tup, isi_lst, len_tup, len_lst, eq_int, eq_str, eq_bl, ne_int, ne_str, ne_bl, ixT_0, ixT_1, ixT_2, sub_int, add_int, mul_int, le_int, lt_int, gt_int, ge_int, neg_int, isN_, notN_, list_lst, list_tup, tup_lst, tup_tup, one_int, two_int, seq_lst, seq_tup, seqP_0, seqP_S, frz_m, frz_S, frz_d, frz_v, frz_no, frz_box, isM_m, isM_S, gtName, gtTup2, gtTup3, gtCons_, gtNil_, List.set_cons_zero, List.set_cons_succ, String.reduceEq, decide_false, decide_true, Bool.false_eq_true, if_false, if_true, reduceIte, Bool.or_false, Bool.or_true, Bool.false_or, Bool.true_or, Bool.not_true, Bool.not_false, ite_self, true_and, and_true, false_and, and_false, see_sl, Option.some.injEq, exists_eq_left', reduceCtorEq, exists_false, or_false, false_or, or_true, true_or, ins_ex, fld1, exists_const, Str_nil_app, wipe_nil, wipe_cons, List.map_cons, List.map_nil, tD_inj, tmap_inj, imap_inj, smap_inj, rD_inj, rD_ins, rD_fld, arg_rD, arg_tsD, arg_bookD, arg_tD, ts_seq, catD_inj, catD_ins, catD_fld, arg_catD, bookD_inj, dMeth, meth_rD, meth_catD, ixL_0, ixL_1, ixL_2, catD_and, rD_and, Int.cast_ofNat_Int, Int.reduceEq, Int.reduceLT, Int.reduceLE, eq_self, List.mem_cons, List.not_mem_nil, not_true_eq_false, not_false_eq_true, or_self, non_tup, non_lst, non_int, non_str, non_bl, non_non, non_tD, ixtD_0, ixtD_1, gt_tD, List.getElem?_cons_zero, List.getElem?_cons_succ, Sl.m.injEq, exists_eq, exists_eq', true_implies, implies_true, seeD, seeV, seeM, same_str, same_int, same_bl, eqO_rD, bmap_inj, add_lst, add_tup, add_str, ev_fld1, ev_fld2, ev_ins, arg_evD, ev_meth, ev_and, isi_bk, len_bk, len_strs, sRemake, dEvI, List.cons.injEq, Sl.d.injEq, Sl.v.injEq, D.int.injEq, D.tup.injEq, D.lst.injEq, D.str.injEq, D.bl.injEq, and_assoc, exists_and_left, exists_eq_left, exists_eq_left', and_true, true_and]
  exact ⟨by decide, fun _ => k⟩
end
end DL

namespace DL
open PySem PySem.Spec PyProof.Rows L2 VL
open C8 (Cal pe_c Met pe_mt)
section
variable {P : Program} {w : World} {K : PySem.W.Frag} {mg : Str → Option Value} {base : Heap} {u : Cs}
abbrev sEvidencewithmore : Stmt := inClass (top 16) 9
theorem scEvidencewithmore : FnScope ["self", "name", "books"] ["self", "name", "books"] (defScope sEvidencewithmore) := ⟨rfl, rfl, rfl, by decide +kernel, rfl, by decide +kernel, by decide +kernel⟩
theorem ok_withM {f : Addr} {fd : FuncData} (F : Fun K "_with_more" "Evidence._with_more" sEvidencewithmore f fd) (T : Tx mg u) {fE : Addr} (FEvidence : ClF K u.Evidence fE) (ncatalog : NoAttr K u.Evidence "catalog") (n_shelves : NoAttr K u.Evidence "_shelves") (MEhas : Met P w K mg base 1 u.Evidence "__contains__" (lift (ciC u) (dHasE u.Evidence u.Catalog)) []) (ccheckbooks : Cal P w K mg base 3 "check_books" (lift (ciC u) (dCheck u.Catalog)) []) (MEws : Met P w K mg base 3 u.Evidence "_with_shelves" (lift (ciC u) (dWithS u.Evidence u.Catalog)) []) : FnOk P w K mg base CX0 5 f fd ["self", "name", "books"] (lift (ciC u) (dWithM u.Evidence u.Catalog)) := by
  refine okD (k := 4) F scEvidencewithmore (fun rs R h => by
    obtain ⟨_, _, _, _, _, rfl, _⟩ := h
    rfl) (by decide) ⟨_, (dss_cons (ds_if (dt_inO (fun _ => MEhas) (fun i => i.hr) (by decide) (de_var 1) (de_var 0))
    (dss_one ds_never)
    dss_nil)
  (dss_cons (ds_expr (de_call (fun _ => ccheckbooks) (fun i => i.hr) (by first | decide | omega) (fun _ => rfl) (daa_cons (de_var 2) (daa_cons (de_fld K FEvidence.cl ncatalog (de_var 0)) daa_nil))))
  (dss_one (ds_ret (de_meth (fun _ => MEws) (fun i => i.hr) (by decide) ((de_var 0)) (daa_cons (de_star1 (de_fld K FEvidence.cl n_shelves (de_var 0)) (de_var 1) (de_tuple K (fun _ => T.tuple) (de_var 2))) daa_nil)))))), ?_⟩
  rintro _ R ⟨ns, sh, z, r, bs, rfl, hr, hs, nd, nz, hz, h8, hb, k⟩
  have go : ∀ {R : Sl → Prop}, R (.d (.tup (bs.map bookD))) → ∀ ρ, ρ[2]? = some r → dUna tupF (dVar 2) ρ R := fun h ρ e => by
    unfold dUna dVar
    rw [e]
    rcases hr with rfl | rfl | rfl <;> exact h
  simp only [List.length_cons, List.length_nil, List.replicate, List.cons_append, List.nil_append, Nat.sub_self, Nat.reduceSub, Nat.reduceAdd, Nat.zero_add, sRet, sSeq, sIf, sSet, sNext, sDrop, sUnp, sApp, sRetN, sBreak, sCont, dAndV, dOrV, dUna, dBin, dC, dArgs, dNotV, dNot, dAnd, dOr, dB, dIf, dChain, dKeep, dTup, dLst, dSl, dRng1, dRng2, dSeqC, dSeqF, dYes, dVar_S, dVar_0, dVar_d, dVar_v, dVar_m, dVar_box, dVar_see, withV_sl, withV_d, withV_v, withV_m, withD_d, withD_m, keepR_d, keepR_m, keepR_box, arg_d, arg_v, arg_m, arg_box, arg_sl, sl_int, sl_bl, sl_str, sl_tup, sl_lst, sl_non, sl_ins, sl_ref, sl_inj, ex_bl, ex_bl2, ex_int, ex_str, ex_some, isi_non, isi_int, isi_str, isi_bl, isi_tup, isi_lst, len_tup, len_lst, eq_int, eq_str, eq_bl, ne_int, ne_str, ne_bl, ixT_0, ixT_1, ixT_2, sub_int, add_int, mul_int, le_int, lt_int, gt_int, ge_int, neg_int, isN_, notN_, list_lst, list_tup, tup_lst, tup_tup, one_int, two_int, seq_lst, seq_tup, seqP_0, seqP_S, frz_m, frz_S, frz_d, frz_v, frz_no, frz_box, isM_m, isM_S, gtName, gtTup2, gtTup3, gtCons_, gtNil_, List.set_cons_zero, List.set_cons_succ, String.reduceEq, decide_false, decide_true, Bool.false_eq_true, if_false, if_true, reduceIte, Bool.or_false, Bool.or_true, Bool.false_or, Bool.true_or, Bool.not_true, Bool.not_false, ite_self, true_and, and_true, false_and, and_false, see_sl, Option.some.injEq, exists_eq_left', reduceCtorEq, exists_false, or_false, false_or, or_true, true_or, ins_ex, fld1, exists_const, Str_nil_app, wipe_nil, wipe_cons, List.map_cons, List.map_nil, tD_inj, tmap_inj, imap_inj, smap_inj, rD_inj, rD_ins, rD_fld, arg_rD, arg_tsD, arg_bookD, arg_tD, ts_seq, catD_inj, catD_ins, catD_fld, arg_catD, bookD_inj, dMeth, meth_rD, meth_catD, ixL_0, ixL_1, ixL_2, catD_and, rD_and, Int.cast_ofNat_Int, Int.reduceEq, Int.reduceLT, Int.reduceLE, eq_self, List.mem_cons, List.not_mem_nil, not_true_eq_false, not_false_eq_true, or_self, non_tup, non_lst, non_int, non_str, non_bl, non_non, non_tD, ixtD_0, ixtD_1, gt_tD, List.getElem?_cons_zero, List.getElem?_cons_succ, Sl.m.injEq, exists_eq, exists_eq', true_implies, implies_true, seeD, seeV, seeM, same_str, same_int, same_bl, eqO_rD, bmap_inj, add_lst, add_tup, add_str, ev_fld1, ev_fld2, ev_ins, arg_evD, ev_meth, ev_and, isi_bk, len_bk, len_strs, inOF, List.cons.injEq, Sl.d.injEq, Sl.v.injEq, D.int.injEq, D.tup.injEq, D.lst.injEq, D.str.injEq, D.bl.injEq, and_assoc, exists_and_left, exists_eq_left, exists_eq_left', and_true, true_and]
  refine ⟨rfl, ns, sh, z, rfl, false, by rw [decide_eq_false nz], iteF' rfl ?_⟩
  have nk : keyS z ∉ sh.map fun p => keyS p.1 := fun h => by
    obtain ⟨p, hp, e⟩ := List.mem_map.mp h
    exact nz (List.mem_map.mpr ⟨p, hp, keyS_inj e⟩)
  rcases hr with rfl | rfl | rfl
  all_goals
    simp only [List.length_cons, List.length_nil, List.replicate, List.cons_append, List.nil_append, Nat.sub_self, Nat.reduceSub, Nat.reduceAdd, Nat.zero_add, sRet, sSeq, sIf, sSet, sNext, sDrop, sUnp, sApp, sRetN, sBreak, sCont, dAndV, dOrV, dUna, dBin, dC, dArgs, dNotV, dNot, dAnd, dOr, dB, dIf, dChain, dKeep, dTup, dLst, dSl, dRng1, dRng2, dSeqC, dSeqF, dYes, dVar_S, dVar_0, dVar_d, dVar_v, dVar_m, dVar_box, dVar_see, withV_sl, withV_d, withV_v, withV_m, withD_d, withD_m, keepR_d, keepR_m, keepR_box, arg_d, arg_v, arg_m, arg_box, arg_sl, sl_int, sl_bl, sl_str, sl_tup, sl_lst, sl_non, sl_ins, sl_ref, sl_inj, ex_bl, ex_bl2, ex_int, ex_str, ex_some, isi_non, isi_int, isi_str, isi_bl, isi_tup, isi_lst, len_tup, len_lst, eq_int, eq_str, eq_bl, ne_int, ne_str, ne_bl, ixT_0, ixT_1, ixT_2, sub_int, add_int, mul_int, le_int, lt_int, gt_int, ge_int, neg_int, isN_, notN_, list_lst, list_tup, tup_lst, tup_tup, one_int, two_int, seq_lst, seq_tup, seqP_0, seqP_S, frz_m, frz_S, frz_d, frz_v, frz_no, frz_box, isM_m, isM_S, gtName, gtTup2, gtTup3, gtCons_, gtNil_, List.set_cons_zero, List.set_cons_succ, String.reduceEq, decide_false, decide_true, Bool.false_eq_true, if_false, if_true, reduceIte, Bool.or_false, Bool.or_true, Bool.false_or, Bool.true_or, Bool.not_true, Bool.not_false, ite_self, true_and, and_true, false_and, and_false, see_sl, Option.some.injEq, exists_eq_left', reduceCtorEq, exists_false, or_false, false_or, or_true, true_or, ins_ex, fld1, exists_const, Str_nil_app, wipe_nil, wipe_cons, List.map_cons, List.map_nil, tD_inj, tmap_inj, imap_inj, smap_inj, rD_inj, rD_ins, rD_fld, arg_rD, arg_tsD, arg_bookD, arg_tD, ts_seq, catD_inj, catD_ins, catD_fld, arg_catD, bookD_inj, dMeth, meth_rD, meth_catD, ixL_0, ixL_1, ixL_2, catD_and, rD_and, Int.cast_ofNat_Int, Int.reduceEq, Int.reduceLT, Int.reduceLE, eq_self, List.mem_cons, List.not_mem_nil, not_true_eq_false, not_false_eq_true, or_self, non_tup, non_lst, non_int, non_str, non_bl, non_non, non_tD, ixtD_0, ixtD_1, gt_tD, List.getElem?_cons_zero, List.getElem?_cons_succ, Sl.m.injEq, exists_eq, exists_eq', true_implies, implies_true, seeD, seeV, seeM, same_str, same_int, same_bl, eqO_rD, bmap_inj, add_lst, add_tup, add_str, ev_fld1, ev_fld2, ev_ins, arg_evD, ev_meth, ev_and, isi_bk, len_bk, len_strs, dStar1]
    exact ⟨_, ns, bs, rfl, by simp [Bks], hz, h8, hb, by decide, _, _, rfl, by simp; omega, keyS_nodup nd, keyS z, rfl, nk, ns, sh, sh ++ [(z, bs)], by rw [List.map_append, List.map_append]; rfl, k⟩
abbrev sEvidencewithbooks : Stmt := inClass (top 16) 5
theorem scEvidencewithbooks : FnScope ["self", "name", "books"] ["self", "name", "books"] (defScope sEvidencewithbooks) := ⟨rfl, rfl, rfl, by decide +kernel, rfl, by decide +kernel, by decide +kernel⟩
theorem ok_withB {f : Addr} {fd : FuncData} (F : Fun K "with_books" "Evidence.with_books" sEvidencewithbooks f fd) (T : Tx mg u) (cisname : Cal P w K mg base 1 "is_name" (lift (ciC u) dName) []) (MEwm : Met P w K mg base 5 u.Evidence "_with_more" (lift (ciC u) (dWithM u.Evidence u.Catalog)) []) : FnOk P w K mg base CX0 6 f fd ["self", "name", "books"] (lift (ciC u) (dWithB u.Evidence u.Catalog)) := by
  refine okD (k := 5) F scEvidencewithbooks (fun rs R h => by
    obtain ⟨_, _, _, _, _, rfl, _⟩ := h
    rfl) (by decide) ⟨_, (dss_cons (ds_if (dt_not (dt_val (de_call (fun _ => cisname) (fun i => i.hr) (by first | decide | omega) (fun _ => rfl) (daa_cons (de_var 1) daa_nil))))
    (dss_one ds_never)
    dss_nil)
  (dss_one (ds_ret (de_meth (fun _ => MEwm) (fun i => i.hr) (by decide) ((de_var 0)) (daa_cons (de_var 1) (daa_cons (de_var 2) daa_nil)))))), ?_⟩
  rintro _ R ⟨ns, sh, z, r, bs, rfl, hr, hn, zl, hs, nd, nz, hz, h8, hb, k⟩
  simp only [List.length_cons, List.length_nil, List.replicate, List.cons_append, List.nil_append, Nat.sub_self, Nat.reduceSub, Nat.reduceAdd, Nat.zero_add, sRet, sSeq, sIf, sSet, sNext, sDrop, sUnp, sApp, sRetN, sBreak, sCont, dAndV, dOrV, dUna, dBin, dC, dArgs, dNotV, dNot, dAnd, dOr, dB, dIf, dChain, dKeep, dTup, dLst, dSl, dRng1, dRng2, dSeqC, dSeqF, dYes, dVar_S, dVar_0, dVar_d, dVar_v, dVar_m, dVar_box, dVar_see, withV_sl, withV_d, withV_v, withV_m, withD_d, withD_m, keepR_d, keepR_m, keepR_box, arg_d, arg_v, arg_m, arg_box, arg_sl, sl_int, sl_bl, sl_str, sl_tup, sl_lst, sl_non, sl_ins, sl_ref, sl_inj, ex_bl, ex_bl2, ex_int, ex_str, ex_some, isi_non, isi_int, isi_str, isi_bl, isi_tup, isi_lst, len_tup, len_lst, eq_int, eq_str, eq_bl, ne_int, ne_str, ne_bl, ixT_0, ixT_1, ixT_2, sub_int, add_int, mul_int, le_int, lt_int, gt_int, ge_int, neg_int, isN_, notN_, list_lst, list_tup, tup_lst, tup_tup, one_int, two_int, seq_lst, seq_tup, seqP_0, seqP_S, frz_m, frz_S, frz_d, frz_v, frz_no, frz_box, isM_m, isM_S, gtName, gtTup2, gtTup3, gtCons_, gtNil_, List.set_cons_zero, List.set_cons_succ, String.reduceEq, decide_false, decide_true, Bool.false_eq_true, if_false, if_true, reduceIte, Bool.or_false, Bool.or_true, Bool.false_or, Bool.true_or, Bool.not_true, Bool.not_false, ite_self, true_and, and_true, false_and, and_false, see_sl, Option.some.injEq, exists_eq_left', reduceCtorEq, exists_false, or_false, false_or, or_true, true_or, ins_ex, fld1, exists_const, Str_nil_app, wipe_nil, wipe_cons, List.map_cons, List.map_nil, tD_inj, tmap_inj, imap_inj, smap_inj, rD_inj, rD_ins, rD_fld, arg_rD, arg_tsD, arg_bookD, arg_tD, ts_seq, catD_inj, catD_ins, catD_fld, arg_catD, bookD_inj, dMeth, meth_rD, meth_catD, ixL_0, ixL_1, ixL_2, catD_and, rD_and, Int.cast_ofNat_Int, Int.reduceEq, Int.reduceLT, Int.reduceLE, eq_self, List.mem_cons, List.not_mem_nil, not_true_eq_false, not_false_eq_true, or_self, non_tup, non_lst, non_int, non_str, non_bl, non_non, non_tD, ixtD_0, ixtD_1, gt_tD, List.getElem?_cons_zero, List.getElem?_cons_succ, Sl.m.injEq, exists_eq, exists_eq', true_implies, implies_true, seeD, seeV, seeM, same_str, same_int, same_bl, eqO_rD, bmap_inj, add_lst, add_tup, add_str, ev_fld1, ev_fld2, ev_ins, arg_evD, ev_meth, ev_and, isi_bk, len_bk, len_strs, List.cons.injEq, Sl.d.injEq, Sl.v.injEq, D.int.injEq, D.tup.injEq, D.lst.injEq, D.str.injEq, D.bl.injEq, and_assoc, exists_and_left, exists_eq_left, exists_eq_left', and_true, true_and]
  refine ⟨_, z, rfl, rfl, zl, ?_⟩
  rw [hn]
  simp only [List.length_cons, List.length_nil, List.replicate, List.cons_append, List.nil_append, Nat.sub_self, Nat.reduceSub, Nat.reduceAdd, Nat.zero_add, sRet, sSeq, sIf, sSet, sNext, sDrop, sUnp, sApp, sRetN, sBreak, sCont, dAndV, dOrV, dUna, dBin, dC, dArgs, dNotV, dNot, dAnd, dOr, dB, dIf, dChain, dKeep, dTup, dLst, dSl, dRng1, dRng2, dSeqC, dSeqF, dYes, dVar_S, dVar_0, dVar_d, dVar_v, dVar_m, dVar_box, dVar_see, withV_sl, withV_d, withV_v, withV_m, withD_d, withD_m, keepR_d, keepR_m, keepR_box, arg_d, arg_v, arg_m, arg_box, arg_sl, sl_int, sl_bl, sl_str, sl_tup, sl_lst, sl_non, sl_ins, sl_ref, sl_inj, ex_bl, ex_bl2, ex_int, ex_str, ex_some, isi_non, isi_int, isi_str, isi_bl, isi_tup, isi_lst, len_tup, len_lst, eq_int, eq_str, eq_bl, ne_int, ne_str, ne_bl, ixT_0, ixT_1, ixT_2, sub_int, add_int, mul_int, le_int, lt_int, gt_int, ge_int, neg_int, isN_, notN_, list_lst, list_tup, tup_lst, tup_tup, one_int, two_int, seq_lst, seq_tup, seqP_0, seqP_S, frz_m, frz_S, frz_d, frz_v, frz_no, frz_box, isM_m, isM_S, gtName, gtTup2, gtTup3, gtCons_, gtNil_, List.set_cons_zero, List.set_cons_succ, String.reduceEq, decide_false, decide_true, Bool.false_eq_true, if_false, if_true, reduceIte, Bool.or_false, Bool.or_true, Bool.false_or, Bool.true_or, Bool.not_true, Bool.not_false, ite_self, true_and, and_true, false_and, and_false, see_sl, Option.some.injEq, exists_eq_left', reduceCtorEq, exists_false, or_false, false_or, or_true, true_or, ins_ex, fld1, exists_const, Str_nil_app, wipe_nil, wipe_cons, List.map_cons, List.map_nil, tD_inj, tmap_inj, imap_inj, smap_inj, rD_inj, rD_ins, rD_fld, arg_rD, arg_tsD, arg_bookD, arg_tD, ts_seq, catD_inj, catD_ins, catD_fld, arg_catD, bookD_inj, dMeth, meth_rD, meth_catD, ixL_0, ixL_1, ixL_2, catD_and, rD_and, Int.cast_ofNat_Int, Int.reduceEq, Int.reduceLT, Int.reduceLE, eq_self, List.mem_cons, List.not_mem_nil, not_true_eq_false, not_false_eq_true, or_self, non_tup, non_lst, non_int, non_str, non_bl, non_non, non_tD, ixtD_0, ixtD_1, gt_tD, List.getElem?_cons_zero, List.getElem?_cons_succ, Sl.m.injEq, exists_eq, exists_eq', true_implies, implies_true, seeD, seeV, seeM, same_str, same_int, same_bl, eqO_rD, bmap_inj, add_lst, add_tup, add_str]
  rcases hr with rfl | rfl | rfl
  all_goals
    simp only [List.length_cons, List.length_nil, List.replicate, List.cons_append, List.nil_append, Nat.sub_self, Nat.reduceSub, Nat.reduceAdd, Nat.zero_add, sRet, sSeq, sIf, sSet, sNext, sDrop, sUnp, sApp, sRetN, sBreak, sCont, dAndV, dOrV, dUna, dBin, dC, dArgs, dNotV, dNot, dAnd, dOr, dB, dIf, dChain, dKeep, dTup, dLst, dSl, dRng1, dRng2, dSeqC, dSeqF, dYes, dVar_S, dVar_0, dVar_d, dVar_v, dVar_m, dVar_box, dVar_see, withV_sl, withV_d, withV_v, withV_m, withD_d, withD_m, keepR_d, keepR_m, keepR_box, arg_d, arg_v, arg_m, arg_box, arg_sl, sl_int, sl_bl, sl_str, sl_tup, sl_lst, sl_non, sl_ins, sl_ref, sl_inj, ex_bl, ex_bl2, ex_int, ex_str, ex_some, isi_non, isi_int, isi_str, isi_bl, isi_tup, isi_lst, len_tup, len_lst, eq_int, eq_str, eq_bl, ne_int, ne_str, ne_bl, ixT_0, ixT_1, ixT_2, sub_int, add_int, mul_int, le_int, lt_int, gt_int, ge_int, neg_int, isN_, notN_, list_lst, list_tup, tup_lst, tup_tup, one_int, two_int, seq_lst, seq_tup, seqP_0, seqP_S, frz_m, frz_S, frz_d, frz_v, frz_no, frz_box, isM_m, isM_S, gtName, gtTup2, gtTup3, gtCons_, gtNil_, List.set_cons_zero, List.set_cons_succ, String.reduceEq, decide_false, decide_true, Bool.false_eq_true, if_false, if_true, reduceIte, Bool.or_false, Bool.or_true, Bool.false_or, Bool.true_or, Bool.not_true, Bool.not_false, ite_self, true_and, and_true, false_and, and_false, see_sl, Option.some.injEq, exists_eq_left', reduceCtorEq, exists_false, or_false, false_or, or_true, true_or, ins_ex, fld1, exists_const, Str_nil_app, wipe_nil, wipe_cons, List.map_cons, List.map_nil, tD_inj, tmap_inj, imap_inj, smap_inj, rD_inj, rD_ins, rD_fld, arg_rD, arg_tsD, arg_bookD, arg_tD, ts_seq, catD_inj, catD_ins, catD_fld, arg_catD, bookD_inj, dMeth, meth_rD, meth_catD, ixL_0, ixL_1, ixL_2, catD_and, rD_and, Int.cast_ofNat_Int, Int.reduceEq, Int.reduceLT, Int.reduceLE, eq_self, List.mem_cons, List.not_mem_nil, not_true_eq_false, not_false_eq_true, or_self, non_tup, non_lst, non_int, non_str, non_bl, non_non, non_tD, ixtD_0, ixtD_1, gt_tD, List.getElem?_cons_zero, List.getElem?_cons_succ, Sl.m.injEq, exists_eq, exists_eq', true_implies, implies_true, seeD, seeV, seeM, same_str, same_int, same_bl, eqO_rD, bmap_inj, add_lst, add_tup, add_str, ev_fld1, ev_fld2, ev_ins, arg_evD, ev_meth, ev_and, isi_bk, len_bk, len_strs]
    exact ⟨by decide, ns, sh, z, _, bs, rfl, by simp [Bks], hs, nd, nz, hz, h8, hb, k⟩
abbrev sEvidenceshelfnames : Stmt := inClass (top 16) 3
theorem scEvidenceshelfnames : FnScope ["self"] ["self"] (defScope sEvidenceshelfnames) := ⟨rfl, rfl, rfl, by decide +kernel, rfl, by decide +kernel, by decide +kernel⟩
theorem ok_namesE {f : Addr} {fd : FuncData} (F : Fun K "shelf_names" "Evidence.shelf_names" sEvidenceshelfnames f fd) (T : Tx mg u) {fE : Addr} (FEvidence : ClF K u.Evidence fE) (ncatalog : NoAttr K u.Evidence "catalog") (n_shelves : NoAttr K u.Evidence "_shelves") : FnOk P w K mg base CX0 1 f fd ["self"] (lift (ciC u) (dNamesE u.Evidence u.Catalog)) := by
  refine okD (k := 0) F scEvidenceshelfnames (fun rs R h => by
    obtain ⟨_, _, rfl, _⟩ := h
    rfl) (by decide) ⟨_, (dss_one (ds_ret (de_tupD (fun _ => rfl) (fun _ => T.tuple) (de_fld K FEvidence.cl n_shelves (de_var 0))))), ?_⟩
  rintro _ R ⟨ns, sh, rfl, k⟩
  simp only [List.length_cons, List.length_nil, List.replicate, List.cons_append, List.nil_append, Nat.sub_self, Nat.reduceSub, Nat.reduceAdd, Nat.zero_add, sRet, sSeq, sIf, sSet, sNext, sDrop, sUnp, sApp, sRetN, sBreak, sCont, dAndV, dOrV, dUna, dBin, dC, dArgs, dNotV, dNot, dAnd, dOr, dB, dIf, dChain, dKeep, dTup, dLst, dSl, dRng1, dRng2, dSeqC, dSeqF, dYes, dVar_S, dVar_0, dVar_d, dVar_v, dVar_m, dVar_box, dVar_see, withV_sl, withV_d, withV_v, withV_m, withD_d, withD_m, keepR_d, keepR_m, keepR_box, arg_d, arg_v, arg_m, arg_box, arg_sl, sl_int, sl_bl, sl_str, sl_tup, sl_lst, sl_non, sl_ins, sl_ref, sl_inj, ex_bl, ex_bl2, ex_int, ex_str, ex_some, isi_non, isi_int, isi_str, isi_bl, isi_tup, isi_lst, len_tup, len_lst, eq_int, eq_str, eq_bl, ne_int, ne_str, ne_bl, ixT_0, ixT_1, ixT_2, sub_int, add_int, mul_int, le_int, lt_int, gt_int, ge_int, neg_int, isN_, notN_, list_lst, list_tup, tup_lst, tup_tup, one_int, two_int, seq_lst, seq_tup, seqP_0, seqP_S, frz_m, frz_S, frz_d, frz_v, frz_no, frz_box, isM_m, isM_S, gtName, gtTup2, gtTup3, gtCons_, gtNil_, List.set_cons_zero, List.set_cons_succ, String.reduceEq, decide_false, decide_true, Bool.false_eq_true, if_false, if_true, reduceIte, Bool.or_false, Bool.or_true, Bool.false_or, Bool.true_or, Bool.not_true, Bool.not_false, ite_self, true_and, and_true, false_and, and_false, see_sl, Option.some.injEq, exists_eq_left', reduceCtorEq, exists_false, or_false, false_or, or_true, true_or, ins_ex, fld1, exists_const, Str_nil_app, wipe_nil, wipe_cons, List.map_cons, List.map_nil, tD_inj, tmap_inj, imap_inj, smap_inj, rD_inj, rD_ins, rD_fld, arg_rD, arg_tsD, arg_bookD, arg_tD, ts_seq, catD_inj, catD_ins, catD_fld, arg_catD, bookD_inj, dMeth, meth_rD, meth_catD, ixL_0, ixL_1, ixL_2, catD_and, rD_and, Int.cast_ofNat_Int, Int.reduceEq, Int.reduceLT, Int.reduceLE, eq_self, List.mem_cons, List.not_mem_nil, not_true_eq_false, not_false_eq_true, or_self, non_tup, non_lst, non_int, non_str, non_bl, non_non, non_tD, ixtD_0, ixtD_1, gt_tD, List.getElem?_cons_zero, List.getElem?_cons_succ, Sl.m.injEq, exists_eq, exists_eq', true_implies, implies_true, seeD, seeV, seeM, same_str, same_int, same_bl, eqO_rD, bmap_inj, add_lst, add_tup, add_str, ev_fld1, ev_fld2, ev_ins, arg_evD, ev_meth, ev_and, isi_bk, len_bk, len_strs, tupDF, List.cons.injEq, Sl.d.injEq, Sl.v.injEq, D.int.injEq, D.tup.injEq, D.lst.injEq, D.str.injEq, D.bl.injEq, and_assoc, exists_and_left, exists_eq_left, exists_eq_left', and_true, true_and]
  refine ⟨_, _, rfl, ?_⟩
  have e : ((sh.map fun p => keyS p.1).map kyD) = (sh.map (·.1)).map D.str := by
    rw [List.map_map, List.map_map]
    rfl
  rw [e]
  exact k
abbrev sEvidencegetitem : Stmt := inClass (top 16) 24
theorem scEvidencegetitem : FnScope ["self", "name"] ["self", "name"] (defScope sEvidencegetitem) := ⟨rfl, rfl, rfl, by decide +kernel, rfl, by decide +kernel, by decide +kernel⟩
theorem ok_getE {f : Addr} {fd : FuncData} (F : Fun K "__getitem__" "Evidence.__getitem__" sEvidencegetitem f fd) (T : Tx mg u) {fE : Addr} (FEvidence : ClF K u.Evidence fE) (ncatalog : NoAttr K u.Evidence "catalog") (n_shelves : NoAttr K u.Evidence "_shelves") (MEhas : Met P w K mg base 1 u.Evidence "__contains__" (lift (ciC u) (dHasE u.Evidence u.Catalog)) [])  : FnOk P w K mg base CX0 2 f fd ["self", "name"] (lift (ciC u) (dGetE u.Evidence u.Catalog)) := by
  refine okD (k := 1) F scEvidencegetitem (fun rs R h => by
    obtain ⟨_, _, _, _, rfl, _⟩ := h
    rfl) (by decide) ⟨_, (dss_cons (ds_if (dt_notInO (fun _ => MEhas) (fun i => i.hr) (by decide) (de_var 1) (de_var 0))
    (dss_one ds_never)
    dss_nil)
  (dss_one (ds_ret (de_itemD (fun i => i.hr) (de_fld K FEvidence.cl n_shelves (de_var 0)) (de_var 1))))), ?_⟩
  rintro _ R ⟨ns, sh, z, bs, rfl, nd, hm, k⟩
  simp only [List.length_cons, List.length_nil, List.replicate, List.cons_append, List.nil_append, Nat.sub_self, Nat.reduceSub, Nat.reduceAdd, Nat.zero_add, sRet, sSeq, sIf, sSet, sNext, sDrop, sUnp, sApp, sRetN, sBreak, sCont, dAndV, dOrV, dUna, dBin, dC, dArgs, dNotV, dNot, dAnd, dOr, dB, dIf, dChain, dKeep, dTup, dLst, dSl, dRng1, dRng2, dSeqC, dSeqF, dYes, dVar_S, dVar_0, dVar_d, dVar_v, dVar_m, dVar_box, dVar_see, withV_sl, withV_d, withV_v, withV_m, withD_d, withD_m, keepR_d, keepR_m, keepR_box, arg_d, arg_v, arg_m, arg_box, arg_sl, sl_int, sl_bl, sl_str, sl_tup, sl_lst, sl_non, sl_ins, sl_ref, sl_inj, ex_bl, ex_bl2, ex_int, ex_str, ex_some, isi_non, isi_int, isi_str, isi_bl, isi_tup, isi_lst, len_tup, len_lst, eq_int, eq_str, eq_bl, ne_int, ne_str, ne_bl, ixT_0, ixT_1, ixT_2, sub_int, add_int, mul_int, le_int, lt_int, gt_int, ge_int, neg_int, isN_, notN_, list_lst, list_tup, tup_lst, tup_tup, one_int, two_int, seq_lst, seq_tup, seqP_0, seqP_S, frz_m, frz_S, frz_d, frz_v, frz_no, frz_box, isM_m, isM_S, gtName, gtTup2, gtTup3, gtCons_, gtNil_, List.set_cons_zero, List.set_cons_succ, String.reduceEq, decide_false, decide_true, Bool.false_eq_true, if_false, if_true, reduceIte, Bool.or_false, Bool.or_true, Bool.false_or, Bool.true_or, Bool.not_true, Bool.not_false, ite_self, true_and, and_true, false_and, and_false, see_sl, Option.some.injEq, exists_eq_left', reduceCtorEq, exists_false, or_false, false_or, or_true, true_or, ins_ex, fld1, exists_const, Str_nil_app, wipe_nil, wipe_cons, List.map_cons, List.map_nil, tD_inj, tmap_inj, imap_inj, smap_inj, rD_inj, rD_ins, rD_fld, arg_rD, arg_tsD, arg_bookD, arg_tD, ts_seq, catD_inj, catD_ins, catD_fld, arg_catD, bookD_inj, dMeth, meth_rD, meth_catD, ixL_0, ixL_1, ixL_2, catD_and, rD_and, Int.cast_ofNat_Int, Int.reduceEq, Int.reduceLT, Int.reduceLE, eq_self, List.mem_cons, List.not_mem_nil, not_true_eq_false, not_false_eq_true, or_self, non_tup, non_lst, non_int, non_str, non_bl, non_non, non_tD, ixtD_0, ixtD_1, gt_tD, List.getElem?_cons_zero, List.getElem?_cons_succ, Sl.m.injEq, exists_eq, exists_eq', true_implies, implies_true, seeD, seeV, seeM, same_str, same_int, same_bl, eqO_rD, bmap_inj, add_lst, add_tup, add_str, ev_fld1, ev_fld2, ev_ins, arg_evD, ev_meth, ev_and, isi_bk, len_bk, len_strs, notInOF, List.cons.injEq, Sl.d.injEq, Sl.v.injEq, D.int.injEq, D.tup.injEq, D.lst.injEq, D.str.injEq, D.bl.injEq, and_assoc, exists_and_left, exists_eq_left, exists_eq_left', and_true, true_and]
  have hz : z ∈ sh.map (·.1) := List.mem_map.mpr ⟨_, hm, rfl⟩
  refine ⟨rfl, ns, sh, z, rfl, true, by rw [decide_eq_true hz], iteF' rfl ?_⟩
  exact ⟨_, _, keyS z, _, rfl, rfl, keyS_look nd hm, k⟩
end
end DL

namespace DL
open PySem PySem.Spec PyProof.Rows L2 VL
open C8 (Cal pe_c Met pe_mt)
def dEqCat (CC : Addr) : DSp := fun rs R => ∃ ns ms, rs = [.d (catD CC ns), .d (catD CC ms)] ∧ (∀ x ∈ ns, PyData.strOk x = true) ∧ (∀ x ∈ ms, PyData.strOk x = true) ∧ R (.d (.bl (decide (ns = ms))))
def ShOk (sh : List Sh) : Prop := sh.length ≤ 100 ∧ (sh.map (·.1)).Nodup ∧ ∀ p ∈ sh, PyData.strOk p.1 = true
def dEqE (CE CC : Addr) : DSp := fun rs R => ∃ ns sh, rs = [.d (evD CE CC ns sh), .d (evD CE CC ns sh)] ∧ (∀ x ∈ ns, PyData.strOk x = true) ∧ ShOk sh ∧ R (.d (.bl true))
def bothS (sh th : List Sh) : Option Str := (th.map (·.1)).find? fun z => decide (z ∈ sh.map (·.1))
def dAddE (CE CC UC DC : Addr) : DSpX := fun rs R X => ∃ ns ms sh th, rs = [.d (evD CE CC ns sh), .d (evD CE CC ms th)] ∧ (∀ x ∈ ns, PyData.strOk x = true) ∧ (∀ x ∈ ms, PyData.strOk x = true) ∧ ShOk sh ∧ ShOk th ∧ (ns ≠ ms → X UC [] []) ∧ (ns = ms → (∀ z, bothS sh th = some z → X DC ["name"] [.str z]) ∧ (bothS sh th = none → R (.d (evD CE CC ns (sh ++ th)))))
theorem both_hit {sh th : List Sh} {i : Nat} {z : Str} (e : (th.map (·.1))[i]? = some z) (h : z ∈ sh.map (·.1)) (b : ∀ y ∈ (th.map (·.1)).take i, y ∉ sh.map (·.1)) : bothS sh th = some z := by
  unfold bothS
  generalize th.map (·.1) = l at e b
  have hi := (List.getElem?_eq_some_iff.mp e).1
  have el : l = l.take i ++ z :: l.drop (i + 1) := by
    have d := List.drop_eq_getElem_cons hi
    rw [List.getElem?_eq_getElem hi] at e
    rw [Option.some.inj e] at d
    rw [← d, List.take_append_drop]
  rw [el, List.find?_append]
  have n : (l.take i).find? (fun z => decide (z ∈ sh.map (·.1))) = none := List.find?_eq_none.mpr fun y hy => by
    rw [decide_eq_true_eq]
    exact b y hy
  rw [n, List.find?_cons_of_pos (by rw [decide_eq_true_eq]; exact h)]
  rfl
theorem both_none {sh th : List Sh} (b : ∀ y ∈ th.map (·.1), y ∉ sh.map (·.1)) : bothS sh th = none := List.find?_eq_none.mpr fun y hy => by
  rw [decide_eq_true_eq]
  exact b y hy
section
variable {P : Program} {w : World} {K : PySem.W.Frag} {mg : Str → Option Value} {base : Heap} {u : Cs}
abbrev sCatalogeq : Stmt := inClass (top 19) 5
theorem scCatalogeq : FnScope ["self", "other"] ["self", "other"] (defScope sCatalogeq) := ⟨rfl, rfl, rfl, by decide +kernel, rfl, by decide +kernel, by decide +kernel⟩
theorem ok_eqCat {f : Addr} {fd : FuncData} (F : Fun K "__eq__" "Catalog.__eq__" sCatalogeq f fd) (T : Tx mg u) {fC : Addr} (FCatalog : ClF K u.Catalog fC) (nnames : NoAttr K u.Catalog "names") : FnOk P w K mg base CX0 1 f fd ["self", "other"] (lift (ciC u) (dEqCat u.Catalog)) := by
  refine okD (k := 0) F scCatalogeq (fun rs R h => by
    obtain ⟨_, _, rfl, _⟩ := h
    rfl) (by decide) ⟨_, (dss_one (ds_ret (de_and (de_isiC K FCatalog.cl FCatalog.inF (fun _ => T.isinstance) (fun _ => T.mCatalog) (de_var 1)) (de_one (de_eq K (fun i => i.hr) (de_fld K FCatalog.cl nnames (de_var 0)) (de_fld K FCatalog.cl nnames (de_var 1))))))), ?_⟩
  rintro _ R ⟨ns, ms, rfl, h1, h2, k⟩
  exact ⟨_, _, rfl, _, rfl, iteT' rfl ⟨⟨_, _, rfl⟩, _, rfl, ⟨_, _, rfl⟩, _, rfl, eqF_T (E := encS) h1 h2 k⟩⟩
abbrev sEvidenceeq : Stmt := inClass (top 16) 28
theorem scEvidenceeq : FnScope ["self", "other"] ["self", "other"] (defScope sEvidenceeq) := ⟨rfl, rfl, rfl, by decide +kernel, rfl, by decide +kernel, by decide +kernel⟩
theorem ok_eqE {f : Addr} {fd : FuncData} (F : Fun K "__eq__" "Evidence.__eq__" sEvidenceeq f fd) (T : Tx mg u) {fE : Addr} (FEvidence : ClF K u.Evidence fE) (ncatalog : NoAttr K u.Evidence "catalog") (n_shelves : NoAttr K u.Evidence "_shelves") (MCeq : Met P w K mg base 1 u.Catalog "__eq__" (lift (ciC u) (dEqCat u.Catalog)) []) {pN fN : Addr} {fdN : FuncData} (pnames : PropOf K u.Evidence "shelf_names" pN fN) (Fnames : FnOk P w K mg base CX0 1 fN fdN ["self"] (lift (ciC u) (dNamesE u.Evidence u.Catalog))) (bnames : Binds K fdN ["self"] [])  : FnOk P w K mg base CX0 5 f fd ["self", "other"] (lift (ciC u) (dEqE u.Evidence u.Catalog)) := by
  refine okD (k := 4) F scEvidenceeq (fun rs R h => by
    obtain ⟨_, _, rfl, _⟩ := h
    rfl) (by decide) ⟨_, (dss_one (ds_ret (de_and (de_isiC K FEvidence.cl FEvidence.inF (fun _ => T.isinstance) (fun _ => T.mEvidence) (de_var 1)) (de_and (de_eqO K (fun _ => MCeq) (fun i => i.hr) (by decide) (de_fld K FEvidence.cl ncatalog (de_var 0)) (de_fld K FEvidence.cl ncatalog (de_var 1))) (de_and (de_eq K (fun i => i.hr) (de_prop K FEvidence.cl pnames (fun _ => Fnames) bnames (fun i => i.hr.mono (by decide)) (de_var 0)) (de_prop K FEvidence.cl pnames (fun _ => Fnames) bnames (fun i => i.hr.mono (by decide)) (de_var 1))) (de_one (de_eqDct K (fun i => i.hr) (de_fld K FEvidence.cl n_shelves (de_var 0)) (de_fld K FEvidence.cl n_shelves (de_var 1))))))))), ?_⟩
  rintro _ R ⟨ns, sh, rfl, h1, ⟨h2, h3, h4⟩, k⟩
  simp only [List.length_cons, List.length_nil, List.replicate, List.cons_append, List.nil_append, Nat.sub_self, Nat.reduceSub, Nat.reduceAdd, Nat.zero_add, sRet, sSeq, sIf, sSet, sNext, sDrop, sUnp, sApp, sRetN, sBreak, sCont, dAndV, dOrV, dUna, dBin, dC, dArgs, dNotV, dNot, dAnd, dOr, dB, dIf, dChain, dKeep, dTup, dLst, dSl, dRng1, dRng2, dSeqC, dSeqF, dYes, dVar_S, dVar_0, dVar_d, dVar_v, dVar_m, dVar_box, dVar_see, withV_sl, withV_d, withV_v, withV_m, withD_d, withD_m, keepR_d, keepR_m, keepR_box, arg_d, arg_v, arg_m, arg_box, arg_sl, sl_int, sl_bl, sl_str, sl_tup, sl_lst, sl_non, sl_ins, sl_ref, sl_inj, ex_bl, ex_bl2, ex_int, ex_str, ex_some, isi_non, isi_int, isi_str, isi_bl, isi_tup, isi_lst, len_tup, len_lst, eq_int, eq_str, eq_bl, ne_int, ne_str, ne_bl, ixT_0, ixT_1, ixT_2, sub_int, add_int, mul_int, le_int, lt_int, gt_int, ge_int, neg_int, isN_, notN_, list_lst, list_tup, tup_lst, tup_tup, one_int, two_int, seq_lst, seq_tup, seqP_0, seqP_S, frz_m, frz_S, frz_d, frz_v, frz_no, frz_box, isM_m, isM_S, gtName, gtTup2, gtTup3, gtCons_, gtNil_, List.set_cons_zero, List.set_cons_succ, String.reduceEq, decide_false, decide_true, Bool.false_eq_true, if_false, if_true, reduceIte, Bool.or_false, Bool.or_true, Bool.false_or, Bool.true_or, Bool.not_true, Bool.not_false, ite_self, true_and, and_true, false_and, and_false, see_sl, Option.some.injEq, exists_eq_left', reduceCtorEq, exists_false, or_false, false_or, or_true, true_or, ins_ex, fld1, exists_const, Str_nil_app, wipe_nil, wipe_cons, List.map_cons, List.map_nil, tD_inj, tmap_inj, imap_inj, smap_inj, rD_inj, rD_ins, rD_fld, arg_rD, arg_tsD, arg_bookD, arg_tD, ts_seq, catD_inj, catD_ins, catD_fld, arg_catD, bookD_inj, dMeth, meth_rD, meth_catD, ixL_0, ixL_1, ixL_2, catD_and, rD_and, Int.cast_ofNat_Int, Int.reduceEq, Int.reduceLT, Int.reduceLE, eq_self, List.mem_cons, List.not_mem_nil, not_true_eq_false, not_false_eq_true, or_self, non_tup, non_lst, non_int, non_str, non_bl, non_non, non_tD, ixtD_0, ixtD_1, gt_tD, List.getElem?_cons_zero, List.getElem?_cons_succ, Sl.m.injEq, exists_eq, exists_eq', true_implies, implies_true, seeD, seeV, seeM, same_str, same_int, same_bl, eqO_rD, bmap_inj, add_lst, add_tup, add_str, ev_fld1, ev_fld2, ev_ins, arg_evD, ev_meth, ev_and, isi_bk, len_bk, len_strs, eqOF, eqDF, List.cons.injEq, Sl.d.injEq, Sl.v.injEq, D.int.injEq, D.tup.injEq, D.lst.injEq, D.str.injEq, D.bl.injEq, and_assoc, exists_and_left, exists_eq_left, exists_eq_left', and_true, true_and]
  have hk : ∀ x ∈ sh.map (·.1), PyData.strOk x = true := fun x hx => by
    obtain ⟨p, hp, rfl⟩ := List.mem_map.mp hx
    exact h4 p hp
  refine ⟨_, _, rfl, _, rfl, iteT' rfl ⟨ns, ns, rfl, h1, h1, _, rfl, iteT' (decide_eq_true rfl) ⟨ns, sh, rfl, ⟨ns, sh, rfl, ?_⟩⟩⟩⟩
  simp only [List.length_cons, List.length_nil, List.replicate, List.cons_append, List.nil_append, Nat.sub_self, Nat.reduceSub, Nat.reduceAdd, Nat.zero_add, sRet, sSeq, sIf, sSet, sNext, sDrop, sUnp, sApp, sRetN, sBreak, sCont, dAndV, dOrV, dUna, dBin, dC, dArgs, dNotV, dNot, dAnd, dOr, dB, dIf, dChain, dKeep, dTup, dLst, dSl, dRng1, dRng2, dSeqC, dSeqF, dYes, dVar_S, dVar_0, dVar_d, dVar_v, dVar_m, dVar_box, dVar_see, withV_sl, withV_d, withV_v, withV_m, withD_d, withD_m, keepR_d, keepR_m, keepR_box, arg_d, arg_v, arg_m, arg_box, arg_sl, sl_int, sl_bl, sl_str, sl_tup, sl_lst, sl_non, sl_ins, sl_ref, sl_inj, ex_bl, ex_bl2, ex_int, ex_str, ex_some, isi_non, isi_int, isi_str, isi_bl, isi_tup, isi_lst, len_tup, len_lst, eq_int, eq_str, eq_bl, ne_int, ne_str, ne_bl, ixT_0, ixT_1, ixT_2, sub_int, add_int, mul_int, le_int, lt_int, gt_int, ge_int, neg_int, isN_, notN_, list_lst, list_tup, tup_lst, tup_tup, one_int, two_int, seq_lst, seq_tup, seqP_0, seqP_S, frz_m, frz_S, frz_d, frz_v, frz_no, frz_box, isM_m, isM_S, gtName, gtTup2, gtTup3, gtCons_, gtNil_, List.set_cons_zero, List.set_cons_succ, String.reduceEq, decide_false, decide_true, Bool.false_eq_true, if_false, if_true, reduceIte, Bool.or_false, Bool.or_true, Bool.false_or, Bool.true_or, Bool.not_true, Bool.not_false, ite_self, true_and, and_true, false_and, and_false, see_sl, Option.some.injEq, exists_eq_left', reduceCtorEq, exists_false, or_false, false_or, or_true, true_or, ins_ex, fld1, exists_const, Str_nil_app, wipe_nil, wipe_cons, List.map_cons, List.map_nil, tD_inj, tmap_inj, imap_inj, smap_inj, rD_inj, rD_ins, rD_fld, arg_rD, arg_tsD, arg_bookD, arg_tD, ts_seq, catD_inj, catD_ins, catD_fld, arg_catD, bookD_inj, dMeth, meth_rD, meth_catD, ixL_0, ixL_1, ixL_2, catD_and, rD_and, Int.cast_ofNat_Int, Int.reduceEq, Int.reduceLT, Int.reduceLE, eq_self, List.mem_cons, List.not_mem_nil, not_true_eq_false, not_false_eq_true, or_self, non_tup, non_lst, non_int, non_str, non_bl, non_non, non_tD, ixtD_0, ixtD_1, gt_tD, List.getElem?_cons_zero, List.getElem?_cons_succ, Sl.m.injEq, exists_eq, exists_eq', true_implies, implies_true, seeD, seeV, seeM, same_str, same_int, same_bl, eqO_rD, bmap_inj, add_lst, add_tup, add_str]
  refine eqF_T (E := encS) hk hk ⟨_, rfl, iteT' (decide_eq_true rfl) ⟨_, _, rfl, rfl, keyS_nodup h3, fun z hz => ?_, k⟩⟩
  obtain ⟨p, hp, rfl⟩ := List.mem_map.mp hz
  exact ⟨(encT (encT encI)).p p.2, (encT (encT encI)).py p.2, Enc.shaped (E := encT (encT encI)) (fun _ _ _ _ => trivial), by rw [Enc.eqv]; exact decide_eq_true rfl⟩
end
end DL

namespace DL
open PySem PySem.Spec PyProof.Rows L2 VL
open C8 (Cal pe_c Met pe_mt)
section
variable {P : Program} {w : World} {K : PySem.W.Frag} {mg : Str → Option Value} {base : Heap} {u : Cs}
abbrev sEvidenceadd : Stmt := inClass (top 16) 29
theorem scEvidenceadd : FnScope ["self", "other", "name"] ["self", "other"] (defScope sEvidenceadd) := ⟨rfl, rfl, rfl, by decide +kernel, rfl, by decide +kernel, by decide +kernel⟩
theorem ok_addE {f : Addr} {fd : FuncData} (F : Fun K "__add__" "Evidence.__add__" sEvidenceadd f fd) (T : Tx mg u) {fE : Addr} (FEvidence : ClF K u.Evidence fE) (ncatalog : NoAttr K u.Evidence "catalog") (n_shelves : NoAttr K u.Evidence "_shelves") (MEhas : Met P w K mg base 1 u.Evidence "__contains__" (lift (ciC u) (dHasE u.Evidence u.Catalog)) []) (MCeq : Met P w K mg base 1 u.Catalog "__eq__" (lift (ciC u) (dEqCat u.Catalog)) []) {pN fN : Addr} {fdN : FuncData} (pnames : PropOf K u.Evidence "shelf_names" pN fN) (Fnames : FnOk P w K mg base CX0 1 fN fdN ["self"] (lift (ciC u) (dNamesE u.Evidence u.Catalog))) (bnames : Binds K fdN ["self"] []) (NC : NeC K u.Catalog) (MEws : Met P w K mg base 3 u.Evidence "_with_shelves" (lift (ciC u) (dWithS u.Evidence u.Catalog)) []) {UC DC : Addr} (OUnlikeCatalogs : OwnX0 P w K mg base "UnlikeCatalogs" UC) (ODuplicateShelf : OwnX P w K mg base "DuplicateShelf" DC "name")  : FnOk P w K mg base (L2.CX P w) 7 f fd ["self", "other"] (liftX (ciC u) (dAddE u.Evidence u.Catalog UC DC)) := by
  refine okDX (k := 6) F scEvidenceadd (fun rs R X h => by
    obtain ⟨_, _, _, _, rfl, _⟩ := h
    rfl) (by decide) ⟨_, (dssx_cons (dsx_if (dt_neO K (fun _ => MCeq) NC (fun i => i.hr) (by decide) (de_fld K FEvidence.cl ncatalog (de_var 0)) (de_fld K FEvidence.cl ncatalog (de_var 1)))
    (dssx_one (dsx_raise0 (fun i => entT i) (fun _ => rfl) (fun _ => OUnlikeCatalogs) (fun i => i.hr) (by decide)))
    (dssx_of dss_nil))
  (dssx_cons (dsx_for entP (fun _ => rfl) (di_seqF K (de_prop K FEvidence.cl pnames (fun _ => Fnames) bnames (fun i => i.hr.mono (by decide)) (de_var 1))) (dg_name 2 (fun _ => scEvidenceadd.nd))
    (dssx_one (dsx_if (dt_inO (fun _ => MEhas) (fun i => i.hr) (by decide) (de_var 2) (de_var 0))
      (dssx_one (dsx_raise (fun i => entT i) (fun _ => rfl) (fun _ => ODuplicateShelf) (fun i => i.hr) (by decide) (de_var 2)))
      (dssx_of dss_nil))))
  (dssx_of (dss_one (ds_ret (de_meth (fun _ => MEws) (fun i => i.hr) (by decide) ((de_var 0)) (daa_cons (de_star2 (de_fld K FEvidence.cl n_shelves (de_var 0)) (de_fld K FEvidence.cl n_shelves (de_var 1))) daa_nil))))))), ?_⟩
  rintro _ R X ⟨ns, ms, sh, th, rfl, h1, h2, ⟨s1, s2, s3⟩, ⟨t1, t2, t3⟩, kx, k⟩
  simp only [List.length_cons, List.length_nil, List.replicate, List.cons_append, List.nil_append, Nat.sub_self, Nat.reduceSub, Nat.reduceAdd, Nat.zero_add, sRet, sSeq, sIf, sSet, sNext, sDrop, sUnp, sApp, sRetN, sBreak, sCont, dAndV, dOrV, dUna, dBin, dC, dArgs, dNotV, dNot, dAnd, dOr, dB, dIf, dChain, dKeep, dTup, dLst, dSl, dRng1, dRng2, dSeqC, dSeqF, dYes, dVar_S, dVar_0, dVar_d, dVar_v, dVar_m, dVar_box, dVar_see, withV_sl, withV_d, withV_v, withV_m, withD_d, withD_m, keepR_d, keepR_m, keepR_box, arg_d, arg_v, arg_m, arg_box, arg_sl, sl_int, sl_bl, sl_str, sl_tup, sl_lst, sl_non, sl_ins, sl_ref, sl_inj, ex_bl, ex_bl2, ex_int, ex_str, ex_some, isi_non, isi_int, isi_str, isi_bl, isi_tup, isi_lst, len_tup, len_lst, eq_int, eq_str, eq_bl, ne_int, ne_str, ne_bl, ixT_0, ixT_1, ixT_2, sub_int, add_int, mul_int, le_int, lt_int, gt_int, ge_int, neg_int, isN_, notN_, list_lst, list_tup, tup_lst, tup_tup, one_int, two_int, seq_lst, seq_tup, seqP_0, seqP_S, frz_m, frz_S, frz_d, frz_v, frz_no, frz_box, isM_m, isM_S, gtName, gtTup2, gtTup3, gtCons_, gtNil_, List.set_cons_zero, List.set_cons_succ, String.reduceEq, decide_false, decide_true, Bool.false_eq_true, if_false, if_true, reduceIte, Bool.or_false, Bool.or_true, Bool.false_or, Bool.true_or, Bool.not_true, Bool.not_false, ite_self, true_and, and_true, false_and, and_false, see_sl, Option.some.injEq, exists_eq_left', reduceCtorEq, exists_false, or_false, false_or, or_true, true_or, ins_ex, fld1, exists_const, Str_nil_app, wipe_nil, wipe_cons, List.map_cons, List.map_nil, tD_inj, tmap_inj, imap_inj, smap_inj, rD_inj, rD_ins, rD_fld, arg_rD, arg_tsD, arg_bookD, arg_tD, ts_seq, catD_inj, catD_ins, catD_fld, arg_catD, bookD_inj, dMeth, meth_rD, meth_catD, ixL_0, ixL_1, ixL_2, catD_and, rD_and, Int.cast_ofNat_Int, Int.reduceEq, Int.reduceLT, Int.reduceLE, eq_self, List.mem_cons, List.not_mem_nil, not_true_eq_false, not_false_eq_true, or_self, non_tup, non_lst, non_int, non_str, non_bl, non_non, non_tD, ixtD_0, ixtD_1, gt_tD, List.getElem?_cons_zero, List.getElem?_cons_succ, Sl.m.injEq, exists_eq, exists_eq', true_implies, implies_true, seeD, seeV, seeM, same_str, same_int, same_bl, eqO_rD, bmap_inj, add_lst, add_tup, add_str, ev_fld1, ev_fld2, ev_ins, arg_evD, ev_meth, ev_and, isi_bk, len_bk, len_strs, neOF, dEqCat, sForX, dStar2, List.cons.injEq, Sl.d.injEq, Sl.v.injEq, D.int.injEq, D.tup.injEq, D.lst.injEq, D.str.injEq, D.bl.injEq, and_assoc, exists_and_left, exists_eq_left, exists_eq_left', and_true, true_and]
  refine ⟨_, _, _, _, rfl, rfl, ns, ms, rfl, h1, h2, _, rfl, _, rfl, ?_⟩
  by_cases e : ns = ms
  · subst e
    obtain ⟨kz, kn⟩ := k rfl
    refine iteF' (by rw [decide_eq_true rfl]; rfl) ⟨ns, th, rfl, ?_⟩
    simp only [List.length_cons, List.length_nil, List.replicate, List.cons_append, List.nil_append, Nat.sub_self, Nat.reduceSub, Nat.reduceAdd, Nat.zero_add, sRet, sSeq, sIf, sSet, sNext, sDrop, sUnp, sApp, sRetN, sBreak, sCont, dAndV, dOrV, dUna, dBin, dC, dArgs, dNotV, dNot, dAnd, dOr, dB, dIf, dChain, dKeep, dTup, dLst, dSl, dRng1, dRng2, dSeqC, dSeqF, dYes, dVar_S, dVar_0, dVar_d, dVar_v, dVar_m, dVar_box, dVar_see, withV_sl, withV_d, withV_v, withV_m, withD_d, withD_m, keepR_d, keepR_m, keepR_box, arg_d, arg_v, arg_m, arg_box, arg_sl, sl_int, sl_bl, sl_str, sl_tup, sl_lst, sl_non, sl_ins, sl_ref, sl_inj, ex_bl, ex_bl2, ex_int, ex_str, ex_some, isi_non, isi_int, isi_str, isi_bl, isi_tup, isi_lst, len_tup, len_lst, eq_int, eq_str, eq_bl, ne_int, ne_str, ne_bl, ixT_0, ixT_1, ixT_2, sub_int, add_int, mul_int, le_int, lt_int, gt_int, ge_int, neg_int, isN_, notN_, list_lst, list_tup, tup_lst, tup_tup, one_int, two_int, seq_lst, seq_tup, seqP_0, seqP_S, frz_m, frz_S, frz_d, frz_v, frz_no, frz_box, isM_m, isM_S, gtName, gtTup2, gtTup3, gtCons_, gtNil_, List.set_cons_zero, List.set_cons_succ, String.reduceEq, decide_false, decide_true, Bool.false_eq_true, if_false, if_true, reduceIte, Bool.or_false, Bool.or_true, Bool.false_or, Bool.true_or, Bool.not_true, Bool.not_false, ite_self, true_and, and_true, false_and, and_false, see_sl, Option.some.injEq, exists_eq_left', reduceCtorEq, exists_false, or_false, false_or, or_true, true_or, ins_ex, fld1, exists_const, Str_nil_app, wipe_nil, wipe_cons, List.map_cons, List.map_nil, tD_inj, tmap_inj, imap_inj, smap_inj, rD_inj, rD_ins, rD_fld, arg_rD, arg_tsD, arg_bookD, arg_tD, ts_seq, catD_inj, catD_ins, catD_fld, arg_catD, bookD_inj, dMeth, meth_rD, meth_catD, ixL_0, ixL_1, ixL_2, catD_and, rD_and, Int.cast_ofNat_Int, Int.reduceEq, Int.reduceLT, Int.reduceLE, eq_self, List.mem_cons, List.not_mem_nil, not_true_eq_false, not_false_eq_true, or_self, non_tup, non_lst, non_int, non_str, non_bl, non_non, non_tD, ixtD_0, ixtD_1, gt_tD, List.getElem?_cons_zero, List.getElem?_cons_succ, Sl.m.injEq, exists_eq, exists_eq', true_implies, implies_true, seeD, seeV, seeM, same_str, same_int, same_bl, eqO_rD, bmap_inj, add_lst, add_tup, add_str]
    refine ⟨fun i ρ => ∃ x2, ρ = [.d (evD u.Evidence u.Catalog ns sh), .d (evD u.Evidence u.Catalog ns th), x2] ∧ ∀ y ∈ (th.map (·.1)).take i, y ∉ sh.map (·.1), ⟨_, rfl, fun _ h => nomatch h⟩, ?_, ?_⟩
    · rintro i x ρ hx ⟨x2, rfl, hb⟩
      rw [List.getElem?_map] at hx
      obtain ⟨z, ez, rfl⟩ := Option.map_eq_some_iff.mp hx
      simp only [List.length_cons, List.length_nil, List.replicate, List.cons_append, List.nil_append, Nat.sub_self, Nat.reduceSub, Nat.reduceAdd, Nat.zero_add, sRet, sSeq, sIf, sSet, sNext, sDrop, sUnp, sApp, sRetN, sBreak, sCont, dAndV, dOrV, dUna, dBin, dC, dArgs, dNotV, dNot, dAnd, dOr, dB, dIf, dChain, dKeep, dTup, dLst, dSl, dRng1, dRng2, dSeqC, dSeqF, dYes, dVar_S, dVar_0, dVar_d, dVar_v, dVar_m, dVar_box, dVar_see, withV_sl, withV_d, withV_v, withV_m, withD_d, withD_m, keepR_d, keepR_m, keepR_box, arg_d, arg_v, arg_m, arg_box, arg_sl, sl_int, sl_bl, sl_str, sl_tup, sl_lst, sl_non, sl_ins, sl_ref, sl_inj, ex_bl, ex_bl2, ex_int, ex_str, ex_some, isi_non, isi_int, isi_str, isi_bl, isi_tup, isi_lst, len_tup, len_lst, eq_int, eq_str, eq_bl, ne_int, ne_str, ne_bl, ixT_0, ixT_1, ixT_2, sub_int, add_int, mul_int, le_int, lt_int, gt_int, ge_int, neg_int, isN_, notN_, list_lst, list_tup, tup_lst, tup_tup, one_int, two_int, seq_lst, seq_tup, seqP_0, seqP_S, frz_m, frz_S, frz_d, frz_v, frz_no, frz_box, isM_m, isM_S, gtName, gtTup2, gtTup3, gtCons_, gtNil_, List.set_cons_zero, List.set_cons_succ, String.reduceEq, decide_false, decide_true, Bool.false_eq_true, if_false, if_true, reduceIte, Bool.or_false, Bool.or_true, Bool.false_or, Bool.true_or, Bool.not_true, Bool.not_false, ite_self, true_and, and_true, false_and, and_false, see_sl, Option.some.injEq, exists_eq_left', reduceCtorEq, exists_false, or_false, false_or, or_true, true_or, ins_ex, fld1, exists_const, Str_nil_app, wipe_nil, wipe_cons, List.map_cons, List.map_nil, tD_inj, tmap_inj, imap_inj, smap_inj, rD_inj, rD_ins, rD_fld, arg_rD, arg_tsD, arg_bookD, arg_tD, ts_seq, catD_inj, catD_ins, catD_fld, arg_catD, bookD_inj, dMeth, meth_rD, meth_catD, ixL_0, ixL_1, ixL_2, catD_and, rD_and, Int.cast_ofNat_Int, Int.reduceEq, Int.reduceLT, Int.reduceLE, eq_self, List.mem_cons, List.not_mem_nil, not_true_eq_false, not_false_eq_true, or_self, non_tup, non_lst, non_int, non_str, non_bl, non_non, non_tD, ixtD_0, ixtD_1, gt_tD, List.getElem?_cons_zero, List.getElem?_cons_succ, Sl.m.injEq, exists_eq, exists_eq', true_implies, implies_true, seeD, seeV, seeM, same_str, same_int, same_bl, eqO_rD, bmap_inj, add_lst, add_tup, add_str, ev_fld1, ev_fld2, ev_ins, arg_evD, ev_meth, ev_and, isi_bk, len_bk, len_strs, inOF]
      by_cases hz : z ∈ sh.map (·.1)
      · exact ⟨rfl, ns, sh, z, rfl, true, by rw [decide_eq_true hz], iteT' rfl (kz z (both_hit ez hz hb))⟩
      · refine ⟨rfl, ns, sh, z, rfl, false, by rw [decide_eq_false hz], iteF' rfl ⟨_, rfl, fun y hy => ?_⟩⟩
        rw [List.take_add_one, ez] at hy
        rcases List.mem_append.mp hy with hy | hy
        · exact hb y hy
        · cases List.mem_singleton.mp hy
          exact hz
    · rintro ρ ⟨x2, rfl, hb⟩
      rw [List.length_map, List.take_length] at hb
      simp only [List.length_cons, List.length_nil, List.replicate, List.cons_append, List.nil_append, Nat.sub_self, Nat.reduceSub, Nat.reduceAdd, Nat.zero_add, sRet, sSeq, sIf, sSet, sNext, sDrop, sUnp, sApp, sRetN, sBreak, sCont, dAndV, dOrV, dUna, dBin, dC, dArgs, dNotV, dNot, dAnd, dOr, dB, dIf, dChain, dKeep, dTup, dLst, dSl, dRng1, dRng2, dSeqC, dSeqF, dYes, dVar_S, dVar_0, dVar_d, dVar_v, dVar_m, dVar_box, dVar_see, withV_sl, withV_d, withV_v, withV_m, withD_d, withD_m, keepR_d, keepR_m, keepR_box, arg_d, arg_v, arg_m, arg_box, arg_sl, sl_int, sl_bl, sl_str, sl_tup, sl_lst, sl_non, sl_ins, sl_ref, sl_inj, ex_bl, ex_bl2, ex_int, ex_str, ex_some, isi_non, isi_int, isi_str, isi_bl, isi_tup, isi_lst, len_tup, len_lst, eq_int, eq_str, eq_bl, ne_int, ne_str, ne_bl, ixT_0, ixT_1, ixT_2, sub_int, add_int, mul_int, le_int, lt_int, gt_int, ge_int, neg_int, isN_, notN_, list_lst, list_tup, tup_lst, tup_tup, one_int, two_int, seq_lst, seq_tup, seqP_0, seqP_S, frz_m, frz_S, frz_d, frz_v, frz_no, frz_box, isM_m, isM_S, gtName, gtTup2, gtTup3, gtCons_, gtNil_, List.set_cons_zero, List.set_cons_succ, String.reduceEq, decide_false, decide_true, Bool.false_eq_true, if_false, if_true, reduceIte, Bool.or_false, Bool.or_true, Bool.false_or, Bool.true_or, Bool.not_true, Bool.not_false, ite_self, true_and, and_true, false_and, and_false, see_sl, Option.some.injEq, exists_eq_left', reduceCtorEq, exists_false, or_false, false_or, or_true, true_or, ins_ex, fld1, exists_const, Str_nil_app, wipe_nil, wipe_cons, List.map_cons, List.map_nil, tD_inj, tmap_inj, imap_inj, smap_inj, rD_inj, rD_ins, rD_fld, arg_rD, arg_tsD, arg_bookD, arg_tD, ts_seq, catD_inj, catD_ins, catD_fld, arg_catD, bookD_inj, dMeth, meth_rD, meth_catD, ixL_0, ixL_1, ixL_2, catD_and, rD_and, Int.cast_ofNat_Int, Int.reduceEq, Int.reduceLT, Int.reduceLE, eq_self, List.mem_cons, List.not_mem_nil, not_true_eq_false, not_false_eq_true, or_self, non_tup, non_lst, non_int, non_str, non_bl, non_non, non_tD, ixtD_0, ixtD_1, gt_tD, List.getElem?_cons_zero, List.getElem?_cons_succ, Sl.m.injEq, exists_eq, exists_eq', true_implies, implies_true, seeD, seeV, seeM, same_str, same_int, same_bl, eqO_rD, bmap_inj, add_lst, add_tup, add_str, ev_fld1, ev_fld2, ev_ins, arg_evD, ev_meth, ev_and, isi_bk, len_bk, len_strs, List.cons.injEq, Sl.d.injEq, Sl.v.injEq, D.int.injEq, D.tup.injEq, D.lst.injEq, D.str.injEq, D.bl.injEq, and_assoc, exists_and_left, exists_eq_left, exists_eq_left', and_true, true_and]
      have nd : ((sh ++ th).map fun p => keyS p.1).Nodup := keyS_nodup (by rw [List.map_append]; exact List.nodup_append.mpr ⟨s2, t2, fun a ha b hb2 e => hb b hb2 (e ▸ ha)⟩)
      rw [List.map_append] at nd
      exact ⟨by decide, _, _, rfl, by simp; omega, _, _, rfl, by simp; omega, nd, ns, sh, sh ++ th, by rw [List.map_append, List.map_append]; rfl, kn (both_none hb)⟩
  · exact iteT' (by rw [decide_eq_false e]; rfl) (kx e)
end
end DL

namespace DL
open PySem PySem.Spec PyProof.Rows L2 VL
open C8 (Cal pe_c Met pe_mt)
def dValueE : DSp := fun rs R => ∃ k d : Int, rs = [.d (.int k), .d (.int d)] ∧ kindOk k ∧ 0 ≤ d ∧ d < 3 ∧ ∀ v : Int, -1000000000000 ≤ v → v ≤ 1000000000000 → R (.d (.int v))
def dBookE : DSp := fun rs R => ∃ (r : Sl) (ks : List Int), rs = [.box, r] ∧ r.see = some (.lst (ks.map D.int)) ∧ ks.length ≤ 1000 ∧ (∀ k ∈ ks, kindOk k) ∧ ∀ vs : List Int, Bk ks.length vs → R (.d (bookD vs))
def six : List Str := ["low", "top", "b", "middle", "aa", "q"]
def shL (p : Sh) : D := .tup [.str p.1, .lst (p.2.map bookD)]
def RowsOk (n : Nat) (sh : List Sh) : Prop := sh.length ≤ 3 ∧ (sh.map (·.1)).Nodup ∧ (∀ p ∈ sh, p.1 ∈ six ∨ p.1 = "zz") ∧ ∀ p ∈ sh, p.2.length ≤ 3 ∧ ∀ b ∈ p.2, Bk n b
def dRows : DSp := fun rs R => ∃ (r : Sl) (ks : List Int), rs = [.box, r] ∧ r.see = some (.lst (ks.map D.int)) ∧ ks.length ≤ 3 ∧ (∀ k ∈ ks, kindOk k) ∧ ∀ sh, RowsOk ks.length sh → (∀ p ∈ sh, p.1 ∈ six) → R (.m (sh.map shL))
def dMade (CE CC : Addr) : DSp := fun rs R => ∃ (r : Sl) (ns : List Str) (sh : List Sh), rs = [.d (catD CC ns), r] ∧ (r = .v (sh.map shL) ∨ r = .d (.lst (sh.map shL))) ∧ ns.length ≤ 3 ∧ RowsOk ns.length sh ∧ R (.d (evD CE CC ns sh))
def dTold (CE CC : Addr) : DSp := fun rs R => ∃ ns sh, rs = [.d (evD CE CC ns sh)] ∧ sh.length ≤ 100 ∧ (sh.map (·.1)).Nodup ∧ (∀ p ∈ sh, p.2.length ≤ 100) ∧ R (.m (sh.map shL))
def askL (ns ms : List Str) (sh th : List Sh) : List D := if ns = ms then match bothS sh th with
  | some z => [.str "double", .str z, .bl true]
  | none => (sh ++ th).map shL else [.str "unlike", .bl true]
def dAskE (CE CC : Addr) : DSp := fun rs R => ∃ ns ms sh th, rs = [.d (evD CE CC ns sh), .d (evD CE CC ms th)] ∧ (∀ x ∈ ns, PyData.strOk x = true) ∧ (∀ x ∈ ms, PyData.strOk x = true) ∧ ShOk sh ∧ ShOk th ∧ (∀ p ∈ sh ++ th, p.2.length ≤ 100) ∧ sh.length + th.length ≤ 100 ∧ R (.m (askL ns ms sh th))
theorem six_len {z : Str} (h : z ∈ six ∨ z = "zz") : nameB z = true ∧ z.length ≤ 1000000 ∧ PyData.strOk z = true := by
  rcases h with h | rfl
  · unfold six at h
    simp only [List.mem_cons, List.not_mem_nil, or_false] at h
    rcases h with rfl | rfl | rfl | rfl | rfl | rfl <;> exact ⟨by decide +kernel, by decide +kernel, by decide +kernel⟩
  · exact ⟨by decide +kernel, by decide +kernel, by decide +kernel⟩
def rowAt (sh : List Sh) (z : Str) : List (List Int) := match sh.find? fun q => decide (q.1 = z) with
  | some q => q.2
  | none => []
theorem rowAt_of {p : Sh} : ∀ {sh : List Sh}, (sh.map (·.1)).Nodup → p ∈ sh → rowAt sh p.1 = p.2
  | [], _, h => nomatch h
  | q :: sh, nd, h => by
    rw [List.map_cons, List.nodup_cons] at nd
    unfold rowAt
    rcases List.mem_cons.mp h with rfl | h
    · have e1 : (p :: sh).find? (fun q => decide (q.1 = p.1)) = some p := List.find?_cons_of_pos (decide_eq_true rfl)
      rw [e1]
    · have e1 : (q :: sh).find? (fun q => decide (q.1 = p.1)) = sh.find? (fun q => decide (q.1 = p.1)) := List.find?_cons_of_neg (by
        rw [decide_eq_true_eq]
        exact fun e => nd.1 (e ▸ List.mem_map.mpr ⟨p, h, rfl⟩))
      rw [e1]
      exact rowAt_of nd.2 h
section
variable {P : Program} {w : World} {K : PySem.W.Frag} {mg : Str → Option Value} {base : Heap} {u : Cs}
abbrev sLkinds : Stmt := top 24
theorem scLkinds : FnScope ["_law_box_here", "_law_count", "_law_k"] ["_law_box_here", "_law_count"] (defScope sLkinds) := ⟨rfl, rfl, rfl, by decide +kernel, rfl, by decide +kernel, by decide +kernel⟩
theorem ok_kinds {f : Addr} {fd : FuncData} (F : Fun K "_law_kinds" "_law_kinds" sLkinds f fd) (T : Tx mg u) (cLtake : Cal P w K mg base 1 "_law_take" (lift (ciC u) dTake) []) : FnOk P w K mg base CX0 2 f fd ["_law_box_here", "_law_count"] (lift (ciC u) (dLKinds)) := by
  refine okD (k := 1) F scLkinds (fun rs R h => by
    obtain ⟨_, rfl, _⟩ := h
    rfl) (by decide) ⟨_, (dss_one (ds_ret (de_lc (own := [("_law_k", 2)]) (fun _ => rfl) (fun _ => scLkinds.nd) (di_range1 (fun _ => rfl) (fun _ => T.range) (DAa.da (daa_cons (de_var 1) daa_nil))) (fun _ => blkOk_by (N := ["_law_box_here", "_law_count", "_law_k"]) (sc := defScope sLkinds) (by decide +kernel)) (dg_name 2 (fun _ => scLkinds.nd)) dts_nil (de_call (fun _ => cLtake) (fun i => i.i.hr) (by first | decide | omega) (fun _ => rfl) (daa_cons (de_var 0) (daa_cons de_int daa_nil)))))), ?_⟩
  rintro _ R ⟨n, rfl, hn, k⟩
  refine ⟨by omega, by omega, by rw [rngD_len]; omega, compW_map (fun _ y => ∃ v : Int, y = .int v ∧ kindOk v) (fun x hx kk hk => ⟨5, rfl, by decide, by decide, fun v v0 v1 => hk _ ⟨v, rfl, v0, v1⟩⟩) fun ys hp => ?_⟩
  obtain ⟨ks, rfl, e2, e3⟩ := paired_ints hp
  rw [rngD_len] at e2
  exact k ks (by omega) e3
abbrev sLvalue : Stmt := top 25
theorem scLvalue : FnScope ["_law_kind", "_law_digit", "_law_rows_here"] ["_law_kind", "_law_digit"] (defScope sLvalue) := ⟨rfl, rfl, rfl, by decide +kernel, rfl, by decide +kernel, by decide +kernel⟩
theorem ok_valueE {f : Addr} {fd : FuncData} (F : Fun K "_law_value" "_law_value" sLvalue f fd) (T : Tx mg u)  : FnOk P w K mg base CX0 1 f fd ["_law_kind", "_law_digit"] (lift (ciC u) (dValueE)) := by
  refine okD (k := 0) F scLvalue (fun rs R h => by
    obtain ⟨_, _, rfl, _⟩ := h
    rfl) (by decide) ⟨_, (dss_cons (ds_set 2 (fun _ => scLvalue.nd) (de_lst (dk_cons (de_lst (dk_cons (de_neg de_int) (dk_cons de_int (dk_cons de_int dk_nil)))) (dk_cons (de_lst (dk_cons (de_neg de_int) (dk_cons de_int (dk_cons de_int dk_nil)))) (dk_cons (de_lst (dk_cons (de_neg (de_pow de_int de_int)) (dk_cons de_int (dk_cons (de_pow de_int de_int) dk_nil)))) (dk_cons (de_lst (dk_cons (de_neg de_int) (dk_cons de_int (dk_cons (de_pow de_int de_int) dk_nil)))) (dk_cons (de_lst (dk_cons de_int (dk_cons de_int (dk_cons de_int dk_nil)))) dk_nil)))))))
  (dss_one (ds_ret (de_item K (de_item K (de_var 2) (de_var 0)) (de_var 1))))), ?_⟩
  rintro _ R ⟨k, d, rfl, ⟨h0, h1⟩, h2, h3, q⟩
  have pc : CPow 10 12 := ⟨by decide, by decide, by decide⟩
  have hk : k = 0 ∨ k = 1 ∨ k = 2 ∨ k = 3 ∨ k = 4 := by omega
  have hd : d = 0 ∨ d = 1 ∨ d = 2 := by omega
  refine ⟨by decide, by decide, pc, pc, by decide, pc, by decide, by decide, by decide, ?_⟩
  rcases hk with rfl | rfl | rfl | rfl | rfl <;> rcases hd with rfl | rfl | rfl <;> exact ⟨_, rfl, _, rfl, q _ (by decide +kernel) (by decide +kernel)⟩
abbrev sLbook : Stmt := top 26
theorem scLbook : FnScope ["_law_box_here", "_law_kinds_here", "_law_kind"] ["_law_box_here", "_law_kinds_here"] (defScope sLbook) := ⟨rfl, rfl, rfl, by decide +kernel, rfl, by decide +kernel, by decide +kernel⟩
theorem ok_bookE {f : Addr} {fd : FuncData} (F : Fun K "_law_book" "_law_book" sLbook f fd) (T : Tx mg u) (cLtake : Cal P w K mg base 1 "_law_take" (lift (ciC u) dTake) []) (cLvalue : Cal P w K mg base 1 "_law_value" (lift (ciC u) dValueE) []) : FnOk P w K mg base CX0 2 f fd ["_law_box_here", "_law_kinds_here"] (lift (ciC u) (dBookE)) := by
  refine okD (k := 1) F scLbook (fun rs R h => by
    obtain ⟨_, _, rfl, _⟩ := h
    rfl) (by decide) ⟨_, (dss_one (ds_ret (de_tuple K (fun _ => T.tuple) (de_lc (own := [("_law_kind", 2)]) (fun _ => rfl) (fun _ => scLbook.nd) (di_seqC K (de_var 1)) (fun _ => blkOk_by (N := ["_law_box_here", "_law_kinds_here", "_law_kind"]) (sc := defScope sLbook) (by decide +kernel)) (dg_name 2 (fun _ => scLbook.nd)) dts_nil (de_call (fun _ => cLvalue) (fun i => i.i.hr) (by first | decide | omega) (fun _ => rfl) (daa_cons (de_var 2) (daa_cons (de_call (fun _ => cLtake) (fun i => i.i.hr) (by first | decide | omega) (fun _ => rfl) (daa_cons (de_var 0) (daa_cons de_int daa_nil))) daa_nil))))))), ?_⟩
  rintro _ R ⟨r, ks, rfl, hr, hz, hk, q⟩
  refine var_v rfl hr ⟨by simp; omega, compW_map (fun _ y => ∃ v : Int, y = .int v ∧ (-1000000000000 ≤ v ∧ v ≤ 1000000000000)) (fun x hx kk hkk => ?_) fun ys hp => ?_⟩
  · obtain ⟨t, ht, rfl⟩ := List.mem_map.mp hx
    exact ⟨3, rfl, by decide, by decide, fun v v0 v1 => ⟨t, v, rfl, hk t ht, v0, v1, fun z z0 z1 => hkk _ ⟨z, rfl, z0, z1⟩⟩⟩
  · obtain ⟨vs, rfl, e2, e3⟩ := paired_ints hp
    exact q vs ⟨by simpa using e2, e3⟩
end
end DL

namespace DL
open PySem PySem.Spec PyProof.Rows L2 VL
open C8 (Cal pe_c Met pe_mt)
theorem erase_perm {α : Type} : ∀ {l : List α} {i : Nat} (h : i < l.length), (l[i] :: l.eraseIdx i).Perm l
  | a :: l, 0, _ => List.Perm.refl _
  | a :: l, i + 1, h => (List.Perm.swap a (l[i]'(Nat.lt_of_succ_lt_succ h)) (l.eraseIdx i)).trans ((erase_perm (Nat.lt_of_succ_lt_succ h)).cons a)
theorem paired_get {α : Type} {f : α → D} {p : α → Prop} : ∀ {xs ys : List D}, Paired (fun (_ : D) y => ∃ a : α, y = f a ∧ p a) xs ys → ∃ as : List α, ys = as.map f ∧ as.length = xs.length ∧ ∀ a ∈ as, p a
  | _, _, .nil => ⟨[], rfl, rfl, fun _ h => nomatch h⟩
  | _, _, .cons ⟨a, e, h⟩ t => by
    obtain ⟨as, e2, l, h2⟩ := paired_get t
    refine ⟨a :: as, by rw [e, e2]; rfl, by rw [List.length_cons, List.length_cons, l], fun b hb => ?_⟩
    rcases List.mem_cons.mp hb with rfl | hb
    · exact h
    · exact h2 b hb
section
variable {P : Program} {w : World} {K : PySem.W.Frag} {mg : Str → Option Value} {base : Heap} {u : Cs}
abbrev sLrows : Stmt := top 30
theorem scLrows : FnScope ["_law_box_here", "_law_kinds_here", "_law_words", "_law_rows_here", "_law_k", "_law_name", "_law_j"] ["_law_box_here", "_law_kinds_here"] (defScope sLrows) := ⟨rfl, rfl, rfl, by decide +kernel, rfl, by decide +kernel, by decide +kernel⟩
theorem ok_rows {f : Addr} {fd : FuncData} (F : Fun K "_law_rows" "_law_rows" sLrows f fd) (T : Tx mg u) (cLtake : Cal P w K mg base 1 "_law_take" (lift (ciC u) dTake) []) (cLbook : Cal P w K mg base 2 "_law_book" (lift (ciC u) dBookE) []) : FnOk P w K mg base CX0 3 f fd ["_law_box_here", "_law_kinds_here"] (lift (ciC u) (dRows)) := by
  refine okD (k := 2) F scLrows (fun rs R h => by
    obtain ⟨_, _, rfl, _⟩ := h
    rfl) (by decide) ⟨_, (dss_cons (ds_set 2 (fun _ => scLrows.nd) (de_lst (dk_cons de_str (dk_cons de_str (dk_cons de_str (dk_cons de_str (dk_cons de_str (dk_cons de_str dk_nil))))))))
  (dss_cons (ds_set 3 (fun _ => scLrows.nd) (de_lst dk_nil))
  (dss_cons (ds_for (fun _ => PassesOwn.never) (fun _ => rfl) (di_range1 (fun _ => rfl) (fun _ => T.range) (DAa.da (daa_cons (de_call (fun _ => cLtake) (fun i => i.hr) (by first | decide | omega) (fun _ => rfl) (daa_cons (de_var 0) (daa_cons de_int daa_nil))) daa_nil))) (dg_name 4 (fun _ => scLrows.nd))
    (dss_cons (ds_setpop K 5 2 (fun _ => scLrows.nd) (de_call (fun _ => cLtake) (fun i => i.hr) (by first | decide | omega) (fun _ => rfl) (daa_cons (de_var 0) (daa_cons (de_len K (fun _ => T.len) (de_var 2)) daa_nil))))
    (dss_frz 5 (dss_one (ds_append K 3 (de_tup (dk_cons (de_var 5) (dk_cons (de_lc (own := [("_law_j", 6)]) (fun _ => rfl) (fun _ => scLrows.nd) (di_range1 (fun _ => rfl) (fun _ => T.range) (DAa.da (daa_cons (de_call (fun _ => cLtake) (fun i => i.hr) (by first | decide | omega) (fun _ => rfl) (daa_cons (de_var 0) (daa_cons de_int daa_nil))) daa_nil))) (fun _ => blkOk_by (N := ["_law_box_here", "_law_kinds_here", "_law_words", "_law_rows_here", "_law_k", "_law_name", "_law_j"]) (sc := defScope sLrows) (by decide +kernel)) (dg_name 6 (fun _ => scLrows.nd)) dts_nil (de_call (fun _ => cLbook) (fun i => i.i.hr) (by first | decide | omega) (fun _ => rfl) (daa_cons (de_var 0) (daa_cons (de_var 1) daa_nil)))) dk_nil))))))))
  (dss_one (ds_retM 3))))), ?_⟩
  rintro _ R ⟨r, ks, rfl, hr, hz, hk, q⟩
  simp only [List.length_cons, List.length_nil, List.replicate, List.cons_append, List.nil_append, Nat.sub_self, Nat.reduceSub, Nat.reduceAdd, Nat.zero_add, sRet, sSeq, sIf, sSet, sNext, sDrop, sUnp, sApp, sRetN, sBreak, sCont, dAndV, dOrV, dUna, dBin, dC, dArgs, dNotV, dNot, dAnd, dOr, dB, dIf, dChain, dKeep, dTup, dLst, dSl, dRng1, dRng2, dSeqC, dSeqF, dYes, dVar_S, dVar_0, dVar_d, dVar_v, dVar_m, dVar_box, dVar_see, withV_sl, withV_d, withV_v, withV_m, withD_d, withD_m, keepR_d, keepR_m, keepR_box, arg_d, arg_v, arg_m, arg_box, arg_sl, sl_int, sl_bl, sl_str, sl_tup, sl_lst, sl_non, sl_ins, sl_ref, sl_inj, ex_bl, ex_bl2, ex_int, ex_str, ex_some, isi_non, isi_int, isi_str, isi_bl, isi_tup, isi_lst, len_tup, len_lst, eq_int, eq_str, eq_bl, ne_int, ne_str, ne_bl, ixT_0, ixT_1, ixT_2, sub_int, add_int, mul_int, le_int, lt_int, gt_int, ge_int, neg_int, isN_, notN_, list_lst, list_tup, tup_lst, tup_tup, one_int, two_int, seq_lst, seq_tup, seqP_0, seqP_S, frz_m, frz_S, frz_d, frz_v, frz_no, frz_box, isM_m, isM_S, gtName, gtTup2, gtTup3, gtCons_, gtNil_, List.set_cons_zero, List.set_cons_succ, String.reduceEq, decide_false, decide_true, Bool.false_eq_true, if_false, if_true, reduceIte, Bool.or_false, Bool.or_true, Bool.false_or, Bool.true_or, Bool.not_true, Bool.not_false, ite_self, true_and, and_true, false_and, and_false, see_sl, Option.some.injEq, exists_eq_left', reduceCtorEq, exists_false, or_false, false_or, or_true, true_or, ins_ex, fld1, exists_const, Str_nil_app, wipe_nil, wipe_cons, List.map_cons, List.map_nil, tD_inj, tmap_inj, imap_inj, smap_inj, rD_inj, rD_ins, rD_fld, arg_rD, arg_tsD, arg_bookD, arg_tD, ts_seq, catD_inj, catD_ins, catD_fld, arg_catD, bookD_inj, dMeth, meth_rD, meth_catD, ixL_0, ixL_1, ixL_2, catD_and, rD_and, Int.cast_ofNat_Int, Int.reduceEq, Int.reduceLT, Int.reduceLE, eq_self, List.mem_cons, List.not_mem_nil, not_true_eq_false, not_false_eq_true, or_self, non_tup, non_lst, non_int, non_str, non_bl, non_non, non_tD, ixtD_0, ixtD_1, gt_tD, List.getElem?_cons_zero, List.getElem?_cons_succ, Sl.m.injEq, exists_eq, exists_eq', true_implies, implies_true, seeD, seeV, seeM, same_str, same_int, same_bl, eqO_rD, bmap_inj, add_lst, add_tup, add_str, sFor, dTake, dLc, dBookE, List.cons.injEq, Sl.d.injEq, Sl.v.injEq, D.int.injEq, D.tup.injEq, D.lst.injEq, D.str.injEq, D.bl.injEq, and_assoc, exists_and_left, exists_eq_left, exists_eq_left', and_true, true_and]
  refine ⟨by decide, by decide, by decide, fun v v0 v1 => ⟨by omega, by omega, fun i ρ => ∃ (ws : List Str) (sh : List Sh) (x4 x5 x6 : Sl), ρ = [.box, r, .m (ws.map D.str), .m (sh.map shL), x4, x5, x6] ∧ sh.length = i ∧ ws.length + i = 6 ∧ (sh.map (·.1) ++ ws).Nodup ∧ (∀ z ∈ sh.map (·.1) ++ ws, z ∈ six) ∧ ∀ p ∈ sh, p.2.length ≤ 3 ∧ ∀ b ∈ p.2, Bk ks.length b, ?_, ?_, ?_⟩⟩
  · exact ⟨six, [], .no, .no, .no, rfl, rfl, rfl, by decide +kernel, fun z hz => hz, fun _ h => nomatch h⟩
  · rintro i x ρ hx ⟨ws, sh, x4, x5, x6, rfl, h1, h2, h3, h4, h5⟩
    have hi : i < 3 := by
      have := (List.getElem?_eq_some_iff.mp hx).1
      rw [rngD_len] at this
      omega
    refine ⟨trivial, ?_⟩
    simp only [List.length_cons, List.length_nil, List.replicate, List.cons_append, List.nil_append, Nat.sub_self, Nat.reduceSub, Nat.reduceAdd, Nat.zero_add, sRet, sSeq, sIf, sSet, sNext, sDrop, sUnp, sApp, sRetN, sBreak, sCont, dAndV, dOrV, dUna, dBin, dC, dArgs, dNotV, dNot, dAnd, dOr, dB, dIf, dChain, dKeep, dTup, dLst, dSl, dRng1, dRng2, dSeqC, dSeqF, dYes, dVar_S, dVar_0, dVar_d, dVar_v, dVar_m, dVar_box, dVar_see, withV_sl, withV_d, withV_v, withV_m, withD_d, withD_m, keepR_d, keepR_m, keepR_box, arg_d, arg_v, arg_m, arg_box, arg_sl, sl_int, sl_bl, sl_str, sl_tup, sl_lst, sl_non, sl_ins, sl_ref, sl_inj, ex_bl, ex_bl2, ex_int, ex_str, ex_some, isi_non, isi_int, isi_str, isi_bl, isi_tup, isi_lst, len_tup, len_lst, eq_int, eq_str, eq_bl, ne_int, ne_str, ne_bl, ixT_0, ixT_1, ixT_2, sub_int, add_int, mul_int, le_int, lt_int, gt_int, ge_int, neg_int, isN_, notN_, list_lst, list_tup, tup_lst, tup_tup, one_int, two_int, seq_lst, seq_tup, seqP_0, seqP_S, frz_m, frz_S, frz_d, frz_v, frz_no, frz_box, isM_m, isM_S, gtName, gtTup2, gtTup3, gtCons_, gtNil_, List.set_cons_zero, List.set_cons_succ, String.reduceEq, decide_false, decide_true, Bool.false_eq_true, if_false, if_true, reduceIte, Bool.or_false, Bool.or_true, Bool.false_or, Bool.true_or, Bool.not_true, Bool.not_false, ite_self, true_and, and_true, false_and, and_false, see_sl, Option.some.injEq, exists_eq_left', reduceCtorEq, exists_false, or_false, false_or, or_true, true_or, ins_ex, fld1, exists_const, Str_nil_app, wipe_nil, wipe_cons, List.map_cons, List.map_nil, tD_inj, tmap_inj, imap_inj, smap_inj, rD_inj, rD_ins, rD_fld, arg_rD, arg_tsD, arg_bookD, arg_tD, ts_seq, catD_inj, catD_ins, catD_fld, arg_catD, bookD_inj, dMeth, meth_rD, meth_catD, ixL_0, ixL_1, ixL_2, catD_and, rD_and, Int.cast_ofNat_Int, Int.reduceEq, Int.reduceLT, Int.reduceLE, eq_self, List.mem_cons, List.not_mem_nil, not_true_eq_false, not_false_eq_true, or_self, non_tup, non_lst, non_int, non_str, non_bl, non_non, non_tD, ixtD_0, ixtD_1, gt_tD, List.getElem?_cons_zero, List.getElem?_cons_succ, Sl.m.injEq, exists_eq, exists_eq', true_implies, implies_true, seeD, seeV, seeM, same_str, same_int, same_bl, eqO_rD, bmap_inj, add_lst, add_tup, add_str, sPop, List.cons.injEq, Sl.d.injEq, Sl.v.injEq, D.int.injEq, D.tup.injEq, D.lst.injEq, D.str.injEq, D.bl.injEq, and_assoc, exists_and_left, exists_eq_left, exists_eq_left', and_true, true_and]
    simp only [List.length_map]
    refine ⟨by omega, by omega, fun a a0 a1 => ⟨by omega, by omega, a.toNat, (ixN_seq (show ixN ws.length a = some a.toNat by unfold ixN; rw [if_pos a0, if_pos a1])).1, ?_⟩⟩
    have hm : a.toNat < ws.length := by omega
    refine ⟨.str ws[a.toNat], by rw [List.getElem?_map, List.getElem?_eq_getElem hm]; rfl, by decide, fun c c0 c1 => ⟨by omega, by omega, by rw [rngD_len]; omega, compW_map (fun _ y => ∃ b, y = bookD b ∧ Bk ks.length b) (fun x hx kk hkk => ?_) fun ys hp => ?_⟩⟩
    · cases r <;> first | exact ⟨rfl, ks, see_arg hr, by omega, hk, fun vs hv => hkk _ ⟨vs, rfl, hv⟩⟩ | cases hr
    · obtain ⟨bs, rfl, lb, hb⟩ := paired_get hp
      rw [rngD_len] at lb
      have pm : ((sh ++ [(ws[a.toNat], bs)]).map (·.1) ++ ws.eraseIdx a.toNat).Perm (sh.map (·.1) ++ ws) := by
        rw [List.map_append, List.append_assoc]
        exact List.Perm.append_left _ (erase_perm hm)
      refine ⟨by decide, by omega, ws.eraseIdx a.toNat, by simp [List.eraseIdx_eq_take_drop_succ], sh ++ [(ws[a.toNat], bs)], by rw [List.map_append]; rfl, by simp [h1], by rw [List.length_eraseIdx_of_lt hm]; omega, pm.nodup_iff.mpr h3, fun z hz => h4 z (pm.mem_iff.mp hz), fun p hp => ?_⟩
      rcases List.mem_append.mp hp with hp | hp
      · exact h5 p hp
      · rw [List.mem_singleton.mp hp]
        exact ⟨by show bs.length ≤ 3; omega, hb⟩
  · rintro ρ ⟨ws, sh, x4, x5, x6, rfl, h1, h2, h3, h4, h5⟩
    rw [rngD_len] at h1
    exact q sh ⟨by omega, (List.nodup_append.mp h3).1, fun p hp => .inl (h4 _ (List.mem_append_left _ (List.mem_map.mpr ⟨p, hp, rfl⟩))), h5⟩ fun p hp => h4 _ (List.mem_append_left _ (List.mem_map.mpr ⟨p, hp, rfl⟩))
end
end DL

namespace DL
open PySem PySem.Spec PyProof.Rows L2 VL
open C8 (Cal pe_c Met pe_mt)
section
variable {P : Program} {w : World} {K : PySem.W.Frag} {mg : Str → Option Value} {base : Heap} {u : Cs}
abbrev sLmade : Stmt := top 31
theorem scLmade : FnScope ["_law_catalog", "_law_rows_here", "_law_evidence", "_law_row"] ["_law_catalog", "_law_rows_here"] (defScope sLmade) := ⟨rfl, rfl, rfl, by decide +kernel, rfl, by decide +kernel, by decide +kernel⟩
theorem ok_made {f : Addr} {fd : FuncData} (F : Fun K "_law_made" "_law_made" sLmade f fd) (T : Tx mg u) (hciE : ∀ a F, (ciC u).I u.Evidence a F) {fE : Addr} (GE : FnR P w K mg base CX0 1 fE (liftI (ciC u) u.Evidence (dEvI u.Catalog))) (FEvidence : ClF K u.Evidence fE) (ncatalog : NoAttr K u.Evidence "catalog") (n_shelves : NoAttr K u.Evidence "_shelves") (MEwb : Met P w K mg base 6 u.Evidence "with_books" (lift (ciC u) (dWithB u.Evidence u.Catalog)) []) : FnOk P w K mg base CX0 8 f fd ["_law_catalog", "_law_rows_here"] (lift (ciC u) (dMade u.Evidence u.Catalog)) := by
  refine okD (k := 7) F scLmade (fun rs R h => by
    obtain ⟨_, _, _, rfl, _⟩ := h
    rfl) (by decide) ⟨_, (dss_cons (ds_set 2 (fun _ => scLmade.nd) (de_mk K hciE FEvidence.mak (fun _ => GE) (fun i => i.hr.mono (by decide)) (fun _ => rfl) (fun _ => T.mEvidence) (daa_cons (de_var 0) daa_nil)))
  (dss_cons (ds_for (fun _ => PassesOwn.never) (fun _ => rfl) (di_seqA K 1) (dg_name 3 (fun _ => scLmade.nd))
    (dss_one (ds_set 2 (fun _ => scLmade.nd) (de_meth (fun _ => MEwb) (fun i => i.hr) (by decide) ((de_var 2)) (daa_cons (de_item K (de_var 3) de_int) (daa_cons (de_list K (fun _ => T.list) (de_item K (de_var 3) de_int)) daa_nil))))))
  (dss_one (ds_retM 2)))), ?_⟩
  rintro _ R ⟨r, ns, sh, rfl, hr, h3, ⟨r1, r2, r3, r4⟩, k⟩
  simp only [List.length_cons, List.length_nil, List.replicate, List.cons_append, List.nil_append, Nat.sub_self, Nat.reduceSub, Nat.reduceAdd, Nat.zero_add, sRet, sSeq, sIf, sSet, sNext, sDrop, sUnp, sApp, sRetN, sBreak, sCont, dAndV, dOrV, dUna, dBin, dC, dArgs, dNotV, dNot, dAnd, dOr, dB, dIf, dChain, dKeep, dTup, dLst, dSl, dRng1, dRng2, dSeqC, dSeqF, dYes, dVar_S, dVar_0, dVar_d, dVar_v, dVar_m, dVar_box, dVar_see, withV_sl, withV_d, withV_v, withV_m, withD_d, withD_m, keepR_d, keepR_m, keepR_box, arg_d, arg_v, arg_m, arg_box, arg_sl, sl_int, sl_bl, sl_str, sl_tup, sl_lst, sl_non, sl_ins, sl_ref, sl_inj, ex_bl, ex_bl2, ex_int, ex_str, ex_some, isi_non, isi_int, isi_str, isi_bl, isi_tup, isi_lst, len_tup, len_lst, eq_int, eq_str, eq_bl, ne_int, ne_str, ne_bl, ixT_0, ixT_1, ixT_2, sub_int, add_int, mul_int, le_int, lt_int, gt_int, ge_int, neg_int, isN_, notN_, list_lst, list_tup, tup_lst, tup_tup, one_int, two_int, seq_lst, seq_tup, seqP_0, seqP_S, frz_m, frz_S, frz_d, frz_v, frz_no, frz_box, isM_m, isM_S, gtName, gtTup2, gtTup3, gtCons_, gtNil_, List.set_cons_zero, List.set_cons_succ, String.reduceEq, decide_false, decide_true, Bool.false_eq_true, if_false, if_true, reduceIte, Bool.or_false, Bool.or_true, Bool.false_or, Bool.true_or, Bool.not_true, Bool.not_false, ite_self, true_and, and_true, false_and, and_false, see_sl, Option.some.injEq, exists_eq_left', reduceCtorEq, exists_false, or_false, false_or, or_true, true_or, ins_ex, fld1, exists_const, Str_nil_app, wipe_nil, wipe_cons, List.map_cons, List.map_nil, tD_inj, tmap_inj, imap_inj, smap_inj, rD_inj, rD_ins, rD_fld, arg_rD, arg_tsD, arg_bookD, arg_tD, ts_seq, catD_inj, catD_ins, catD_fld, arg_catD, bookD_inj, dMeth, meth_rD, meth_catD, ixL_0, ixL_1, ixL_2, catD_and, rD_and, Int.cast_ofNat_Int, Int.reduceEq, Int.reduceLT, Int.reduceLE, eq_self, List.mem_cons, List.not_mem_nil, not_true_eq_false, not_false_eq_true, or_self, non_tup, non_lst, non_int, non_str, non_bl, non_non, non_tD, ixtD_0, ixtD_1, gt_tD, List.getElem?_cons_zero, List.getElem?_cons_succ, Sl.m.injEq, exists_eq, exists_eq', true_implies, implies_true, seeD, seeV, seeM, same_str, same_int, same_bl, eqO_rD, bmap_inj, add_lst, add_tup, add_str, ev_fld1, ev_fld2, ev_ins, arg_evD, ev_meth, ev_and, isi_bk, len_bk, len_strs, sFor, dEvI, dWithB, List.cons.injEq, Sl.d.injEq, Sl.v.injEq, D.int.injEq, D.tup.injEq, D.lst.injEq, D.str.injEq, D.bl.injEq, and_assoc, exists_and_left, exists_eq_left, exists_eq_left', and_true, true_and]
  have hs : ∀ {x0 : Sl} {ρ : List Sl} {R : List D → Prop}, R (sh.map shL) → dSeqA 1 (x0 :: r :: ρ) R := fun h => by
    rcases hr with rfl | rfl <;> exact h
  refine hs ⟨fun i ρ => ∃ x3, ρ = [.d (catD u.Catalog ns), r, .d (evD u.Evidence u.Catalog ns (sh.take i)), x3], ⟨_, rfl⟩, ?_, ?_⟩
  · rintro i x ρ hx ⟨x3, rfl⟩
    rw [List.getElem?_map] at hx
    obtain ⟨p, ep, rfl⟩ := Option.map_eq_some_iff.mp hx
    have et : sh.take (i + 1) = sh.take i ++ [(p.1, p.2)] := by rw [List.take_add_one, ep]; rfl
    have hp := List.mem_of_getElem? ep
    obtain ⟨n1, n2, n3⟩ := six_len (r3 p hp)
    obtain ⟨b1, b2⟩ := r4 p hp
    have nd : ((sh.take (i + 1)).map (·.1)).Nodup := r2.sublist ((List.take_sublist _ _).map _)
    rw [et, List.map_append, List.nodup_append] at nd
    simp only [shL, List.length_cons, List.length_nil, List.replicate, List.cons_append, List.nil_append, Nat.sub_self, Nat.reduceSub, Nat.reduceAdd, Nat.zero_add, sRet, sSeq, sIf, sSet, sNext, sDrop, sUnp, sApp, sRetN, sBreak, sCont, dAndV, dOrV, dUna, dBin, dC, dArgs, dNotV, dNot, dAnd, dOr, dB, dIf, dChain, dKeep, dTup, dLst, dSl, dRng1, dRng2, dSeqC, dSeqF, dYes, dVar_S, dVar_0, dVar_d, dVar_v, dVar_m, dVar_box, dVar_see, withV_sl, withV_d, withV_v, withV_m, withD_d, withD_m, keepR_d, keepR_m, keepR_box, arg_d, arg_v, arg_m, arg_box, arg_sl, sl_int, sl_bl, sl_str, sl_tup, sl_lst, sl_non, sl_ins, sl_ref, sl_inj, ex_bl, ex_bl2, ex_int, ex_str, ex_some, isi_non, isi_int, isi_str, isi_bl, isi_tup, isi_lst, len_tup, len_lst, eq_int, eq_str, eq_bl, ne_int, ne_str, ne_bl, ixT_0, ixT_1, ixT_2, sub_int, add_int, mul_int, le_int, lt_int, gt_int, ge_int, neg_int, isN_, notN_, list_lst, list_tup, tup_lst, tup_tup, one_int, two_int, seq_lst, seq_tup, seqP_0, seqP_S, frz_m, frz_S, frz_d, frz_v, frz_no, frz_box, isM_m, isM_S, gtName, gtTup2, gtTup3, gtCons_, gtNil_, List.set_cons_zero, List.set_cons_succ, String.reduceEq, decide_false, decide_true, Bool.false_eq_true, if_false, if_true, reduceIte, Bool.or_false, Bool.or_true, Bool.false_or, Bool.true_or, Bool.not_true, Bool.not_false, ite_self, true_and, and_true, false_and, and_false, see_sl, Option.some.injEq, exists_eq_left', reduceCtorEq, exists_false, or_false, false_or, or_true, true_or, ins_ex, fld1, exists_const, Str_nil_app, wipe_nil, wipe_cons, List.map_cons, List.map_nil, tD_inj, tmap_inj, imap_inj, smap_inj, rD_inj, rD_ins, rD_fld, arg_rD, arg_tsD, arg_bookD, arg_tD, ts_seq, catD_inj, catD_ins, catD_fld, arg_catD, bookD_inj, dMeth, meth_rD, meth_catD, ixL_0, ixL_1, ixL_2, catD_and, rD_and, Int.cast_ofNat_Int, Int.reduceEq, Int.reduceLT, Int.reduceLE, eq_self, List.mem_cons, List.not_mem_nil, not_true_eq_false, not_false_eq_true, or_self, non_tup, non_lst, non_int, non_str, non_bl, non_non, non_tD, ixtD_0, ixtD_1, gt_tD, List.getElem?_cons_zero, List.getElem?_cons_succ, Sl.m.injEq, exists_eq, exists_eq', true_implies, implies_true, seeD, seeV, seeM, same_str, same_int, same_bl, eqO_rD, bmap_inj, add_lst, add_tup, add_str, ev_fld1, ev_fld2, ev_ins, arg_evD, ev_meth, ev_and, isi_bk, len_bk, len_strs, listF, dWithB, List.cons.injEq, Sl.d.injEq, Sl.v.injEq, D.int.injEq, D.tup.injEq, D.lst.injEq, D.str.injEq, D.bl.injEq, and_assoc, exists_and_left, exists_eq_left, exists_eq_left', and_true, true_and]
    refine ⟨by decide, ns, sh.take i, rfl, p.2, .inl rfl, n1, n2, by rw [List.length_take]; omega, nd.1, fun h => nd.2.2 _ h _ (List.mem_singleton.mpr rfl) rfl, by omega, by omega, b2, ?_⟩
    rw [et]
  · rintro ρ ⟨x3, rfl⟩
    rw [List.length_map, List.take_length]
    exact k
end
end DL

namespace DL
open PySem PySem.Spec PyProof.Rows L2 VL
open C8 (Cal pe_c Met pe_mt)
section
variable {P : Program} {w : World} {K : PySem.W.Frag} {mg : Str → Option Value} {base : Heap} {u : Cs}
abbrev sLtold : Stmt := top 29
theorem scLtold : FnScope ["_law_evidence", "_law_name"] ["_law_evidence"] (defScope sLtold) := ⟨rfl, rfl, rfl, by decide +kernel, rfl, by decide +kernel, by decide +kernel⟩
theorem ok_told {f : Addr} {fd : FuncData} (F : Fun K "_law_told" "_law_told" sLtold f fd) (T : Tx mg u) {fE : Addr} (FEvidence : ClF K u.Evidence fE) (ncatalog : NoAttr K u.Evidence "catalog") (n_shelves : NoAttr K u.Evidence "_shelves") {pN fN : Addr} {fdN : FuncData} (pnames : PropOf K u.Evidence "shelf_names" pN fN) (Fnames : FnOk P w K mg base CX0 1 fN fdN ["self"] (lift (ciC u) (dNamesE u.Evidence u.Catalog))) (bnames : Binds K fdN ["self"] [])  (MGE : MetG P w K mg base 2 u.Evidence (lift (ciC u) (dGetE u.Evidence u.Catalog))) : FnOk P w K mg base CX0 5 f fd ["_law_evidence"] (lift (ciC u) (dTold u.Evidence u.Catalog)) := by
  refine okD (k := 4) F scLtold (fun rs R h => by
    obtain ⟨_, _, rfl, _⟩ := h
    rfl) (by decide) ⟨_, (dss_one (ds_ret (de_lc (own := [("_law_name", 1)]) (fun _ => rfl) (fun _ => scLtold.nd) (di_seqC K (de_prop K FEvidence.cl pnames (fun _ => Fnames) bnames (fun i => i.hr.mono (by decide)) (de_var 0))) (fun _ => blkOk_by (N := ["_law_evidence", "_law_name"]) (sc := defScope sLtold) (by decide +kernel)) (dg_name 1 (fun _ => scLtold.nd)) dts_nil (de_tup (dk_cons (de_var 1) (dk_cons (de_list K (fun _ => T.list) (de_getO (C := u.Evidence) (fun _ => MGE) (fun i => i.i.hr) (by decide) (de_var 0) (de_var 1))) dk_nil)))))), ?_⟩
  rintro _ R ⟨ns, sh, rfl, h1, h2, h3, k⟩
  simp only [List.length_cons, List.length_nil, List.replicate, List.cons_append, List.nil_append, Nat.sub_self, Nat.reduceSub, Nat.reduceAdd, Nat.zero_add, sRet, sSeq, sIf, sSet, sNext, sDrop, sUnp, sApp, sRetN, sBreak, sCont, dAndV, dOrV, dUna, dBin, dC, dArgs, dNotV, dNot, dAnd, dOr, dB, dIf, dChain, dKeep, dTup, dLst, dSl, dRng1, dRng2, dSeqC, dSeqF, dYes, dVar_S, dVar_0, dVar_d, dVar_v, dVar_m, dVar_box, dVar_see, withV_sl, withV_d, withV_v, withV_m, withD_d, withD_m, keepR_d, keepR_m, keepR_box, arg_d, arg_v, arg_m, arg_box, arg_sl, sl_int, sl_bl, sl_str, sl_tup, sl_lst, sl_non, sl_ins, sl_ref, sl_inj, ex_bl, ex_bl2, ex_int, ex_str, ex_some, isi_non, isi_int, isi_str, isi_bl, isi_tup, isi_lst, len_tup, len_lst, eq_int, eq_str, eq_bl, ne_int, ne_str, ne_bl, ixT_0, ixT_1, ixT_2, sub_int, add_int, mul_int, le_int, lt_int, gt_int, ge_int, neg_int, isN_, notN_, list_lst, list_tup, tup_lst, tup_tup, one_int, two_int, seq_lst, seq_tup, seqP_0, seqP_S, frz_m, frz_S, frz_d, frz_v, frz_no, frz_box, isM_m, isM_S, gtName, gtTup2, gtTup3, gtCons_, gtNil_, List.set_cons_zero, List.set_cons_succ, String.reduceEq, decide_false, decide_true, Bool.false_eq_true, if_false, if_true, reduceIte, Bool.or_false, Bool.or_true, Bool.false_or, Bool.true_or, Bool.not_true, Bool.not_false, ite_self, true_and, and_true, false_and, and_false, see_sl, Option.some.injEq, exists_eq_left', reduceCtorEq, exists_false, or_false, false_or, or_true, true_or, ins_ex, fld1, exists_const, Str_nil_app, wipe_nil, wipe_cons, List.map_cons, List.map_nil, tD_inj, tmap_inj, imap_inj, smap_inj, rD_inj, rD_ins, rD_fld, arg_rD, arg_tsD, arg_bookD, arg_tD, ts_seq, catD_inj, catD_ins, catD_fld, arg_catD, bookD_inj, dMeth, meth_rD, meth_catD, ixL_0, ixL_1, ixL_2, catD_and, rD_and, Int.cast_ofNat_Int, Int.reduceEq, Int.reduceLT, Int.reduceLE, eq_self, List.mem_cons, List.not_mem_nil, not_true_eq_false, not_false_eq_true, or_self, non_tup, non_lst, non_int, non_str, non_bl, non_non, non_tD, ixtD_0, ixtD_1, gt_tD, List.getElem?_cons_zero, List.getElem?_cons_succ, Sl.m.injEq, exists_eq, exists_eq', true_implies, implies_true, seeD, seeV, seeM, same_str, same_int, same_bl, eqO_rD, bmap_inj, add_lst, add_tup, add_str, ev_fld1, ev_fld2, ev_ins, arg_evD, ev_meth, ev_and, isi_bk, len_bk, len_strs, dLc, getOF, List.cons.injEq, Sl.d.injEq, Sl.v.injEq, D.int.injEq, D.tup.injEq, D.lst.injEq, D.str.injEq, D.bl.injEq, and_assoc, exists_and_left, exists_eq_left, exists_eq_left', and_true, true_and]
  refine ⟨ns, sh, rfl, ?_⟩
  simp only [List.length_cons, List.length_nil, List.replicate, List.cons_append, List.nil_append, Nat.sub_self, Nat.reduceSub, Nat.reduceAdd, Nat.zero_add, sRet, sSeq, sIf, sSet, sNext, sDrop, sUnp, sApp, sRetN, sBreak, sCont, dAndV, dOrV, dUna, dBin, dC, dArgs, dNotV, dNot, dAnd, dOr, dB, dIf, dChain, dKeep, dTup, dLst, dSl, dRng1, dRng2, dSeqC, dSeqF, dYes, dVar_S, dVar_0, dVar_d, dVar_v, dVar_m, dVar_box, dVar_see, withV_sl, withV_d, withV_v, withV_m, withD_d, withD_m, keepR_d, keepR_m, keepR_box, arg_d, arg_v, arg_m, arg_box, arg_sl, sl_int, sl_bl, sl_str, sl_tup, sl_lst, sl_non, sl_ins, sl_ref, sl_inj, ex_bl, ex_bl2, ex_int, ex_str, ex_some, isi_non, isi_int, isi_str, isi_bl, isi_tup, isi_lst, len_tup, len_lst, eq_int, eq_str, eq_bl, ne_int, ne_str, ne_bl, ixT_0, ixT_1, ixT_2, sub_int, add_int, mul_int, le_int, lt_int, gt_int, ge_int, neg_int, isN_, notN_, list_lst, list_tup, tup_lst, tup_tup, one_int, two_int, seq_lst, seq_tup, seqP_0, seqP_S, frz_m, frz_S, frz_d, frz_v, frz_no, frz_box, isM_m, isM_S, gtName, gtTup2, gtTup3, gtCons_, gtNil_, List.set_cons_zero, List.set_cons_succ, String.reduceEq, decide_false, decide_true, Bool.false_eq_true, if_false, if_true, reduceIte, Bool.or_false, Bool.or_true, Bool.false_or, Bool.true_or, Bool.not_true, Bool.not_false, ite_self, true_and, and_true, false_and, and_false, see_sl, Option.some.injEq, exists_eq_left', reduceCtorEq, exists_false, or_false, false_or, or_true, true_or, ins_ex, fld1, exists_const, Str_nil_app, wipe_nil, wipe_cons, List.map_cons, List.map_nil, tD_inj, tmap_inj, imap_inj, smap_inj, rD_inj, rD_ins, rD_fld, arg_rD, arg_tsD, arg_bookD, arg_tD, ts_seq, catD_inj, catD_ins, catD_fld, arg_catD, bookD_inj, dMeth, meth_rD, meth_catD, ixL_0, ixL_1, ixL_2, catD_and, rD_and, Int.cast_ofNat_Int, Int.reduceEq, Int.reduceLT, Int.reduceLE, eq_self, List.mem_cons, List.not_mem_nil, not_true_eq_false, not_false_eq_true, or_self, non_tup, non_lst, non_int, non_str, non_bl, non_non, non_tD, ixtD_0, ixtD_1, gt_tD, List.getElem?_cons_zero, List.getElem?_cons_succ, Sl.m.injEq, exists_eq, exists_eq', true_implies, implies_true, seeD, seeV, seeM, same_str, same_int, same_bl, eqO_rD, bmap_inj, add_lst, add_tup, add_str, ev_fld1, ev_fld2, ev_ins, arg_evD, ev_meth, ev_and, isi_bk, len_bk, len_strs, List.cons.injEq, Sl.d.injEq, Sl.v.injEq, D.int.injEq, D.tup.injEq, D.lst.injEq, D.str.injEq, D.bl.injEq, and_assoc, exists_and_left, exists_eq_left, exists_eq_left', and_true, true_and]
  refine ⟨by simp; omega, compW_fn (fun x => match x with | .str z => shL (z, rowAt sh z) | _ => .non) (fun x hx kk hk => ?_) ?_⟩
  · obtain ⟨z, hz, rfl⟩ := List.mem_map.mp hx
    obtain ⟨p, hp, rfl⟩ := List.mem_map.mp hz
    have e := rowAt_of h2 hp
    simp only [List.length_cons, List.length_nil, List.replicate, List.cons_append, List.nil_append, Nat.sub_self, Nat.reduceSub, Nat.reduceAdd, Nat.zero_add, sRet, sSeq, sIf, sSet, sNext, sDrop, sUnp, sApp, sRetN, sBreak, sCont, dAndV, dOrV, dUna, dBin, dC, dArgs, dNotV, dNot, dAnd, dOr, dB, dIf, dChain, dKeep, dTup, dLst, dSl, dRng1, dRng2, dSeqC, dSeqF, dYes, dVar_S, dVar_0, dVar_d, dVar_v, dVar_m, dVar_box, dVar_see, withV_sl, withV_d, withV_v, withV_m, withD_d, withD_m, keepR_d, keepR_m, keepR_box, arg_d, arg_v, arg_m, arg_box, arg_sl, sl_int, sl_bl, sl_str, sl_tup, sl_lst, sl_non, sl_ins, sl_ref, sl_inj, ex_bl, ex_bl2, ex_int, ex_str, ex_some, isi_non, isi_int, isi_str, isi_bl, isi_tup, isi_lst, len_tup, len_lst, eq_int, eq_str, eq_bl, ne_int, ne_str, ne_bl, ixT_0, ixT_1, ixT_2, sub_int, add_int, mul_int, le_int, lt_int, gt_int, ge_int, neg_int, isN_, notN_, list_lst, list_tup, tup_lst, tup_tup, one_int, two_int, seq_lst, seq_tup, seqP_0, seqP_S, frz_m, frz_S, frz_d, frz_v, frz_no, frz_box, isM_m, isM_S, gtName, gtTup2, gtTup3, gtCons_, gtNil_, List.set_cons_zero, List.set_cons_succ, String.reduceEq, decide_false, decide_true, Bool.false_eq_true, if_false, if_true, reduceIte, Bool.or_false, Bool.or_true, Bool.false_or, Bool.true_or, Bool.not_true, Bool.not_false, ite_self, true_and, and_true, false_and, and_false, see_sl, Option.some.injEq, exists_eq_left', reduceCtorEq, exists_false, or_false, false_or, or_true, true_or, ins_ex, fld1, exists_const, Str_nil_app, wipe_nil, wipe_cons, List.map_cons, List.map_nil, tD_inj, tmap_inj, imap_inj, smap_inj, rD_inj, rD_ins, rD_fld, arg_rD, arg_tsD, arg_bookD, arg_tD, ts_seq, catD_inj, catD_ins, catD_fld, arg_catD, bookD_inj, dMeth, meth_rD, meth_catD, ixL_0, ixL_1, ixL_2, catD_and, rD_and, Int.cast_ofNat_Int, Int.reduceEq, Int.reduceLT, Int.reduceLE, eq_self, List.mem_cons, List.not_mem_nil, not_true_eq_false, not_false_eq_true, or_self, non_tup, non_lst, non_int, non_str, non_bl, non_non, non_tD, ixtD_0, ixtD_1, gt_tD, List.getElem?_cons_zero, List.getElem?_cons_succ, Sl.m.injEq, exists_eq, exists_eq', true_implies, implies_true, seeD, seeV, seeM, same_str, same_int, same_bl, eqO_rD, bmap_inj, add_lst, add_tup, add_str, ev_fld1, ev_fld2, ev_ins, arg_evD, ev_meth, ev_and, isi_bk, len_bk, len_strs, listF, dGetE, List.cons.injEq, Sl.d.injEq, Sl.v.injEq, D.int.injEq, D.tup.injEq, D.lst.injEq, D.str.injEq, D.bl.injEq, and_assoc, exists_and_left, exists_eq_left, exists_eq_left', and_true, true_and]
    refine ⟨rfl, _, _, rfl, ns, sh, p.1, p.2, rfl, h2, hp, ?_⟩
    simp only [List.length_cons, List.length_nil, List.replicate, List.cons_append, List.nil_append, Nat.sub_self, Nat.reduceSub, Nat.reduceAdd, Nat.zero_add, sRet, sSeq, sIf, sSet, sNext, sDrop, sUnp, sApp, sRetN, sBreak, sCont, dAndV, dOrV, dUna, dBin, dC, dArgs, dNotV, dNot, dAnd, dOr, dB, dIf, dChain, dKeep, dTup, dLst, dSl, dRng1, dRng2, dSeqC, dSeqF, dYes, dVar_S, dVar_0, dVar_d, dVar_v, dVar_m, dVar_box, dVar_see, withV_sl, withV_d, withV_v, withV_m, withD_d, withD_m, keepR_d, keepR_m, keepR_box, arg_d, arg_v, arg_m, arg_box, arg_sl, sl_int, sl_bl, sl_str, sl_tup, sl_lst, sl_non, sl_ins, sl_ref, sl_inj, ex_bl, ex_bl2, ex_int, ex_str, ex_some, isi_non, isi_int, isi_str, isi_bl, isi_tup, isi_lst, len_tup, len_lst, eq_int, eq_str, eq_bl, ne_int, ne_str, ne_bl, ixT_0, ixT_1, ixT_2, sub_int, add_int, mul_int, le_int, lt_int, gt_int, ge_int, neg_int, isN_, notN_, list_lst, list_tup, tup_lst, tup_tup, one_int, two_int, seq_lst, seq_tup, seqP_0, seqP_S, frz_m, frz_S, frz_d, frz_v, frz_no, frz_box, isM_m, isM_S, gtName, gtTup2, gtTup3, gtCons_, gtNil_, List.set_cons_zero, List.set_cons_succ, String.reduceEq, decide_false, decide_true, Bool.false_eq_true, if_false, if_true, reduceIte, Bool.or_false, Bool.or_true, Bool.false_or, Bool.true_or, Bool.not_true, Bool.not_false, ite_self, true_and, and_true, false_and, and_false, see_sl, Option.some.injEq, exists_eq_left', reduceCtorEq, exists_false, or_false, false_or, or_true, true_or, ins_ex, fld1, exists_const, Str_nil_app, wipe_nil, wipe_cons, List.map_cons, List.map_nil, tD_inj, tmap_inj, imap_inj, smap_inj, rD_inj, rD_ins, rD_fld, arg_rD, arg_tsD, arg_bookD, arg_tD, ts_seq, catD_inj, catD_ins, catD_fld, arg_catD, bookD_inj, dMeth, meth_rD, meth_catD, ixL_0, ixL_1, ixL_2, catD_and, rD_and, Int.cast_ofNat_Int, Int.reduceEq, Int.reduceLT, Int.reduceLE, eq_self, List.mem_cons, List.not_mem_nil, not_true_eq_false, not_false_eq_true, or_self, non_tup, non_lst, non_int, non_str, non_bl, non_non, non_tD, ixtD_0, ixtD_1, gt_tD, List.getElem?_cons_zero, List.getElem?_cons_succ, Sl.m.injEq, exists_eq, exists_eq', true_implies, implies_true, seeD, seeV, seeM, same_str, same_int, same_bl, eqO_rD, bmap_inj, add_lst, add_tup, add_str, shL, listF]
    simp only [shL, e] at hk
    show 2 ≤ 1000000 ∧ kk (D.tup [D.str p.1, D.lst (p.2.map bookD)])
    exact ⟨by decide, hk⟩
  · have e : ((sh.map (·.1)).map D.str).map (fun x => match x with | .str z => shL (z, rowAt sh z) | _ => .non) = sh.map shL := by
      rw [List.map_map, List.map_map]
      refine List.map_congr_left fun p hp => ?_
      show shL (p.1, rowAt sh p.1) = shL p
      rw [rowAt_of h2 hp]
    rw [e]
    exact k
end
end DL

namespace DL
open PySem PySem.Spec PyProof.Rows L2 VL
open C8 (Cal pe_c Met pe_mt)
section
variable {P : Program} {w : World} {K : PySem.W.Frag} {mg : Str → Option Value} {base : Heap} {u : Cs}
abbrev sLask : Stmt := top 28
theorem scLask : FnScope ["_law_one", "_law_other", "_law_both", "e"] ["_law_one", "_law_other"] (defScope sLask) := ⟨rfl, rfl, rfl, by decide +kernel, rfl, by decide +kernel, by decide +kernel⟩
theorem ok_ask {f : Addr} {fd : FuncData} (F : Fun K "_law_ask" "_law_ask" sLask f fd) (T : Tx mg u) (OUnlikeCatalogs : OwnX0 P w K mg base "UnlikeCatalogs" u.UnlikeCatalogs) (xcUnlikeCatalogs : ExcC K u.UnlikeCatalogs) (kXSUnlikeCatalogs : PySem.W.kitOne K (.ref u.UnlikeCatalogs) (.ref u.ShelfError) = some true) (ODuplicateShelf : OwnX P w K mg base "DuplicateShelf" u.DuplicateShelf "name") (xcDuplicateShelf : ExcC K u.DuplicateShelf) (kXSDuplicateShelf : PySem.W.kitOne K (.ref u.DuplicateShelf) (.ref u.ShelfError) = some true) (nUD : PySem.W.exmOne K (.ref u.DuplicateShelf) (.ref u.UnlikeCatalogs) = some false) {fA : Addr} (OA : OpO K u.Evidence "__add__" fA) (GA : FnR P w K mg base (L2.CX P w) 7 fA (liftX (ciC u) (dAddE u.Evidence u.Catalog u.UnlikeCatalogs u.DuplicateShelf))) (cLtold : Cal P w K mg base 5 "_law_told" (lift (ciC u) (dTold u.Evidence u.Catalog)) []) : FnOk P w K mg base CX0 9 f fd ["_law_one", "_law_other"] (lift (ciC u) (dAskE u.Evidence u.Catalog)) := by
  refine okD (k := 8) F scLask (fun rs R h => by
    obtain ⟨_, _, _, _, rfl, _⟩ := h
    rfl) (by decide) ⟨_, (dss_cons (ds_tryC (dssx_one (dsx_set 2 (fun _ => scLask.nd) (dex_opO K (fun i => i.tk) OA (by decide) (fun _ => GA) (fun i => i.i.hr.mono (by decide)) (de_var 0) (de_var 1)))) (dcl_as K 3 (fun _ => scLask.nd) (fun _ => T.mUnlikeCatalogs) (fun a cls d => (dss_one (ds_ret (de_lst (dk_cons de_str (dk_cons (de_isE0 K (fun _ => T.isinstance) (fun _ => T.mShelfError) (de_var 3)) dk_nil)))))) (dcl_as K 3 (fun _ => scLask.nd) (fun _ => T.mDuplicateShelf) (fun a cls d => (dss_one (ds_ret (de_lst (dk_cons de_str (dk_cons (de_xf K ODuplicateShelf.xf ODuplicateShelf.no (de_var 3)) (dk_cons (de_isE K (fun _ => T.isinstance) (fun _ => T.mShelfError) (de_var 3)) dk_nil))))))) dcl_nil)))
  (dss_one (ds_ret (de_call (fun _ => cLtold) (fun i => i.hr) (by first | decide | omega) (fun _ => rfl) (daa_cons (de_var 2) daa_nil))))), ?_⟩
  rintro _ R ⟨ns, ms, sh, th, rfl, h1, h2, hs, ht, hb, hz, k⟩
  simp only [List.length_cons, List.length_nil, List.replicate, List.cons_append, List.nil_append, Nat.sub_self, Nat.reduceSub, Nat.reduceAdd, Nat.zero_add, sRet, sSeq, sIf, sSet, sNext, sDrop, sUnp, sApp, sRetN, sBreak, sCont, dAndV, dOrV, dUna, dBin, dC, dArgs, dNotV, dNot, dAnd, dOr, dB, dIf, dChain, dKeep, dTup, dLst, dSl, dRng1, dRng2, dSeqC, dSeqF, dYes, dVar_S, dVar_0, dVar_d, dVar_v, dVar_m, dVar_box, dVar_see, withV_sl, withV_d, withV_v, withV_m, withD_d, withD_m, keepR_d, keepR_m, keepR_box, arg_d, arg_v, arg_m, arg_box, arg_sl, sl_int, sl_bl, sl_str, sl_tup, sl_lst, sl_non, sl_ins, sl_ref, sl_inj, ex_bl, ex_bl2, ex_int, ex_str, ex_some, isi_non, isi_int, isi_str, isi_bl, isi_tup, isi_lst, len_tup, len_lst, eq_int, eq_str, eq_bl, ne_int, ne_str, ne_bl, ixT_0, ixT_1, ixT_2, sub_int, add_int, mul_int, le_int, lt_int, gt_int, ge_int, neg_int, isN_, notN_, list_lst, list_tup, tup_lst, tup_tup, one_int, two_int, seq_lst, seq_tup, seqP_0, seqP_S, frz_m, frz_S, frz_d, frz_v, frz_no, frz_box, isM_m, isM_S, gtName, gtTup2, gtTup3, gtCons_, gtNil_, List.set_cons_zero, List.set_cons_succ, String.reduceEq, decide_false, decide_true, Bool.false_eq_true, if_false, if_true, reduceIte, Bool.or_false, Bool.or_true, Bool.false_or, Bool.true_or, Bool.not_true, Bool.not_false, ite_self, true_and, and_true, false_and, and_false, see_sl, Option.some.injEq, exists_eq_left', reduceCtorEq, exists_false, or_false, false_or, or_true, true_or, ins_ex, fld1, exists_const, Str_nil_app, wipe_nil, wipe_cons, List.map_cons, List.map_nil, tD_inj, tmap_inj, imap_inj, smap_inj, rD_inj, rD_ins, rD_fld, arg_rD, arg_tsD, arg_bookD, arg_tD, ts_seq, catD_inj, catD_ins, catD_fld, arg_catD, bookD_inj, dMeth, meth_rD, meth_catD, ixL_0, ixL_1, ixL_2, catD_and, rD_and, Int.cast_ofNat_Int, Int.reduceEq, Int.reduceLT, Int.reduceLE, eq_self, List.mem_cons, List.not_mem_nil, not_true_eq_false, not_false_eq_true, or_self, non_tup, non_lst, non_int, non_str, non_bl, non_non, non_tD, ixtD_0, ixtD_1, gt_tD, List.getElem?_cons_zero, List.getElem?_cons_succ, Sl.m.injEq, exists_eq, exists_eq', true_implies, implies_true, seeD, seeV, seeM, same_str, same_int, same_bl, eqO_rD, bmap_inj, add_lst, add_tup, add_str, ev_fld1, ev_fld2, ev_ins, arg_evD, ev_meth, ev_and, isi_bk, len_bk, len_strs, dAddE, List.cons.injEq, Sl.d.injEq, Sl.v.injEq, D.int.injEq, D.tup.injEq, D.lst.injEq, D.str.injEq, D.bl.injEq, and_assoc, exists_and_left, exists_eq_left, exists_eq_left', and_true, true_and]
  refine ⟨ns, ms, sh, rfl, th, rfl, h1, h2, hs, ht, fun ne => ?_, fun e => ⟨fun z ez => ?_, fun en => ?_⟩⟩
  · unfold askL at k
    rw [if_neg ne] at k
    exact ⟨true, OUnlikeCatalogs.te, (fun z => nomatch z), fun _ a => ⟨_, rfl, xcUnlikeCatalogs, true, kXSUnlikeCatalogs, by decide, k⟩⟩
  · unfold askL at k
    rw [if_pos e, ez] at k
    exact ⟨false, nUD, fun _ => ⟨true, ODuplicateShelf.te, (fun z => nomatch z), fun _ a d => ⟨d, _, _, rfl, rfl, .str z, rfl, _, d, _, _, rfl, rfl, rfl, xcDuplicateShelf, true, kXSDuplicateShelf, by decide, k⟩⟩, fun z => nomatch z⟩
  · unfold askL at k
    rw [if_pos e, en] at k
    have nd : ((sh ++ th).map (·.1)).Nodup := by
      rw [List.map_append]
      refine List.nodup_append.mpr ⟨hs.2.1, ht.2.1, fun a ha b hb2 e => ?_⟩
      have no := List.find?_eq_none.mp en b hb2
      rw [decide_eq_true_eq] at no
      exact no (e ▸ ha)
    refine ⟨rfl, ns, sh ++ th, rfl, by simp; omega, nd, hb, ?_⟩
    exact k
end
end DL

namespace DL
open PySem PySem.Spec PyProof.Rows L2 VL
open C8 (Cal pe_c Met pe_mt)
theorem FnOk_cool {P : Program} {w : World} {K : PySem.W.Frag} {mg : Str → Option Value} {base : Heap} {k : Nat} {f : Addr} {fd : FuncData} {ps : List Str} {sp : Sp} (F : FnOk P w K mg base (L2.CX P w) k f fd ps sp) : FnOk P w K mg base CX0 k f fd ps (fun vs H Q _ => sp vs H Q (fun _ _ _ => False)) :=
  ⟨fun vs H Q _ h => F.len vs H Q _ h, fun A outer s H args us vs Q E hr e0 hb hv h => codeAny_mono (F.run A outer s H args us vs Q _ hr e0 hb hv h) fun
    | .error _, _, hq => by
      obtain ⟨_, _, _, _, _, _, _, _, _, _, _, _, z⟩ := hq
      exact z.elim
    | .ok (.ret _), _, hq => hq
    | .ok .next, _, hq => hq
    | .ok .brk, _, hq => hq
    | .ok .cont, _, hq => hq⟩
theorem FnOk_coolX {ci : CI} {P : Program} {w : World} {K : PySem.W.Frag} {mg : Str → Option Value} {base : Heap} {k : Nat} {f : Addr} {fd : FuncData} {ps : List Str} {s : DSpX} (F : FnOk P w K mg base (L2.CX P w) k f fd ps (liftX ci s)) : FnOk P w K mg base CX0 k f fd ps (lift ci fun rs R => s rs R fun _ _ _ => False) := (FnOk_cool F).imp fun vs H Q E h => by
  obtain ⟨b, L, F1, rs, R, fr, nb, nL, rep, nm, h1, post⟩ := h
  exact ⟨b, L, F1, rs, R, _, fr, nb, nL, rep, nm, h1, post, fun _ _ _ _ _ _ _ _ z => z.elim⟩
def othC : Nat → List Str
  | 1 => ["b"]
  | 2 => ["a", "c"]
  | _ => ["c", "b", "a"]
theorem ne_strs {xs : List Str} {R : Sl → Prop} (h : ∀ x ∈ xs, PyData.strOk x = true) (k : R (.d (.bl (!decide (xs = []))))) : neF (.lst (xs.map D.str)) (.lst []) R := by
  refine ⟨_, _, (encL encS).py xs, (encL encS).py [], Enc.shaped (E := encL encS) h, Enc.shaped (E := encL encS) (fun _ z => nomatch z), ?_⟩
  rw [(encL encS).eqv]
  exact k
theorem eq_strs {xs : List Str} {R : Sl → Prop} (h : ∀ x ∈ xs, PyData.strOk x = true) (k : R (.d (.bl (decide (xs = []))))) : eqF (.lst (xs.map D.str)) (.lst []) R := by
  refine ⟨_, _, (encL encS).py xs, (encL encS).py [], Enc.shaped (E := encL encS) h, Enc.shaped (E := encL encS) (fun _ z => nomatch z), ?_⟩
  rw [(encL encS).eqv]
  exact k
def rowN : D → D := fun x => match x with
  | .tup (y :: _) => y
  | _ => .non
def comN (sh : List Sh) : D → Bool := fun x => match x with
  | .tup (.str z :: _) => decide (z ∈ sh.map (·.1))
  | _ => false
def dueL (sh th : List Sh) : List Str → List D
  | [] => sh.map shL ++ th.map shL
  | z :: _ => [.str "double", .str z, .bl true]
theorem add_ok {CE CC UC DC : Addr} {ns : List Str} {sh th : List Sh} {R : Sl → Prop} {X : ExP} (oa : ∀ x ∈ ns, PyData.strOk x = true) (s : ShOk sh) (t : ShOk th) (b : bothS sh th = none) (k : R (.d (evD CE CC ns (sh ++ th)))) : dAddE CE CC UC DC [.d (evD CE CC ns sh), .d (evD CE CC ns th)] R X :=
  ⟨ns, ns, sh, th, rfl, oa, oa, s, t, fun h => absurd rfl h, fun _ => ⟨fun z ez => (by rw [b] at ez; cases ez), fun _ => k⟩⟩
theorem shok_app {sh th : List Sh} (s : ShOk sh) (t : ShOk th) (d : ∀ y ∈ th.map (·.1), y ∉ sh.map (·.1)) (l : sh.length + th.length ≤ 100) : ShOk (sh ++ th) := ⟨by rw [List.length_append]; exact l, by
  rw [List.map_append]
  exact List.nodup_append.mpr ⟨s.2.1, t.2.1, fun a ha b hb e => d b hb (e ▸ ha)⟩, fun p hp => (List.mem_append.mp hp).elim (s.2.2 p) (t.2.2 p)⟩
theorem dep_rows {s2 : List Sh} (l : s2.length ≤ 1000) (h : ∀ p ∈ s2, p.2.length ≤ 100 ∧ ∀ b ∈ p.2, b.length ≤ 100) : Dep 4 (.lst (s2.map shL)) := .lst (by simp; omega) fun y hy => by
  obtain ⟨p, hp, rfl⟩ := List.mem_map.mp hy
  obtain ⟨h1, h2⟩ := h p hp
  refine .tup (by show 2 ≤ 1000000; decide) fun z hz => ?_
  simp only [List.mem_cons, List.not_mem_nil, or_false] at hz
  rcases hz with rfl | rfl
  · exact .flat rfl _
  · refine .lst (by simp; omega) fun c hc => ?_
    obtain ⟨d, hd, rfl⟩ := List.mem_map.mp hc
    exact dep_book (by have := h2 d hd; omega)
theorem dep_flat3 {xs : List D} {n : Nat} (l : xs.length ≤ 10) (h : ∀ x ∈ xs, flatX x = true) : Dep (n + 1) (.lst xs) := .lst (by omega) fun y hy => .flat (h y hy) _
theorem dep_ask {ns ms : List Str} {sh th : List Sh} (l : sh.length + th.length ≤ 1000) (h : ∀ p ∈ sh ++ th, p.2.length ≤ 100 ∧ ∀ b ∈ p.2, b.length ≤ 100) : Dep 5 (.lst (askL ns ms sh th)) := by
  unfold askL
  split
  · split
    · exact dep_flat3 (by show 3 ≤ 10; decide) fun x hx => by
        simp only [List.mem_cons, List.not_mem_nil, or_false] at hx
        rcases hx with rfl | rfl | rfl <;> rfl
    · exact (dep_rows (by rw [List.length_append]; exact l) h).up
  · exact dep_flat3 (by show 2 ≤ 10; decide) fun x hx => by
      simp only [List.mem_cons, List.not_mem_nil, or_false] at hx
      rcases hx with rfl | rfl <;> rfl
theorem abc_ok {n : Nat} (h1 : 1 ≤ n) (h3 : n ≤ 3) : (abcN n).length = n ∧ ∀ x ∈ abcN n, PyData.strOk x = true := by
  have : n = 1 ∨ n = 2 ∨ n = 3 := by omega
  rcases this with rfl | rfl | rfl <;> exact ⟨by decide +kernel, by decide +kernel⟩
theorem oth_ok {n : Nat} (h1 : 1 ≤ n) (h3 : n ≤ 3) : (othC n).length = n ∧ (∀ x ∈ othC n, PyData.strOk x = true) ∧ abcN n ≠ othC n := by
  have : n = 1 ∨ n = 2 ∨ n = 3 := by omega
  rcases this with rfl | rfl | rfl <;> exact ⟨by decide +kernel, by decide +kernel, by decide +kernel⟩
section
variable {P : Program} {w : World} {K : PySem.W.Frag} {mg : Str → Option Value} {base : Heap} {u : Cs}
abbrev slaw : Stmt := top 32
theorem sclaw : FnScope ["_law_script", "_law_box_here", "_law_count", "_law_kinds_here", "_law_first", "_law_second", "_law_catalog", "_law_other", "_law_one", "_law_two", "_law_names", "_law_common", "_law_due", "_law_third", "_law_row"] ["_law_script"] (defScope slaw) := ⟨rfl, rfl, rfl, by decide +kernel, rfl, by decide +kernel, by decide +kernel⟩
theorem ok_law {f : Addr} {fd : FuncData} (F : Fun K "law" "law" slaw f fd) (T : Tx mg u) (cLbox : Cal P w K mg base 1 "_law_box" (spBox K) []) (hciE : ∀ a F, (ciC u).I u.Evidence a F) {fE : Addr} (GE : FnR P w K mg base CX0 1 fE (liftI (ciC u) u.Evidence (dEvI u.Catalog))) (FEvidence : ClF K u.Evidence fE) (ncatalog : NoAttr K u.Evidence "catalog") (n_shelves : NoAttr K u.Evidence "_shelves") {fC : Addr} (FCatalog : ClF K u.Catalog fC) (nnames : NoAttr K u.Catalog "names") (GC : FnR P w K mg base CX0 3 fC (liftN (ciC u) u.Catalog "names" preN)) {pM fM : Addr} (cmN : ClX.CMet K u.Catalog (.type "type") "numbered" pM fM) (GN : FnR P w K mg base CX0 5 fM (lift (ciC u) (dNumbered u.Catalog))) (MCeq : Met P w K mg base 1 u.Catalog "__eq__" (lift (ciC u) (dEqCat u.Catalog)) []) (MEeq : Met P w K mg base 5 u.Evidence "__eq__" (lift (ciC u) (dEqE u.Evidence u.Catalog)) []) {UC DC : Addr} (MEadd : Met P w K mg base 7 u.Evidence "__add__" (lift (ciC u) fun rs R => dAddE u.Evidence u.Catalog UC DC rs R fun _ _ _ => False) []) (cLtake : Cal P w K mg base 1 "_law_take" (lift (ciC u) dTake) []) (cLkinds : Cal P w K mg base 2 "_law_kinds" (lift (ciC u) dLKinds) []) (cLbook : Cal P w K mg base 2 "_law_book" (lift (ciC u) dBookE) []) (cLrows : Cal P w K mg base 3 "_law_rows" (lift (ciC u) dRows) []) (cLmade : Cal P w K mg base 8 "_law_made" (lift (ciC u) (dMade u.Evidence u.Catalog)) []) (cLtold : Cal P w K mg base 5 "_law_told" (lift (ciC u) (dTold u.Evidence u.Catalog)) []) (cLask : Cal P w K mg base 9 "_law_ask" (lift (ciC u) (dAskE u.Evidence u.Catalog)) []) (cLsame : Cal P w K mg base 6 "_law_same" (lift (ciC u) (dSame 6)) [])  : FnOk P w K mg base CX0 10 f fd ["_law_script"] (spLawD K) := by
  refine okLaw (ci := (ciC u)) (k := 9) F sclaw rfl (by decide) (fun i => ps_set (i := 1) sclaw.nd rfl (by first | exact Or.inl rfl | exact Or.inr rfl) (pe_c cLbox i.hr (by decide) rfl (pa_cons (pv 0) pa_nil))) ⟨_, (dss_cons (ds_set 2 (fun _ => sclaw.nd) (de_add K de_int (de_call (fun _ => cLtake) (fun i => i.hr) (by first | decide | omega) (fun _ => rfl) (daa_cons (de_var 1) (daa_cons de_int daa_nil)))))
  (dss_cons (ds_set 3 (fun _ => sclaw.nd) (de_call (fun _ => cLkinds) (fun i => i.hr) (by first | decide | omega) (fun _ => rfl) (daa_cons (de_var 1) (daa_cons (de_var 2) daa_nil))))
  (dss_cons (ds_set 4 (fun _ => sclaw.nd) (de_call (fun _ => cLrows) (fun i => i.hr) (by first | decide | omega) (fun _ => rfl) (daa_cons (de_var 1) (daa_cons (de_var 3) daa_nil))))
  (dss_cons (ds_set 5 (fun _ => sclaw.nd) (de_call (fun _ => cLrows) (fun i => i.hr) (by first | decide | omega) (fun _ => rfl) (daa_cons (de_var 1) (daa_cons (de_var 3) daa_nil))))
  (dss_cons (ds_set 6 (fun _ => sclaw.nd) (de_cmeth K FCatalog.rd cmN (fun _ => GN) (fun i => i.hr.mono (by decide)) ((de_cls (fun _ => rfl) (fun _ => T.mCatalog))) (daa_cons (de_var 2) daa_nil)))
  (dss_frz 6 (dss_cons (ds_set 7 (fun _ => sclaw.nd) (de_var 6))
  (dss_cut (ds_if (dt_eq K (fun i => i.hr) (de_call (fun _ => cLtake) (fun i => i.hr) (by first | decide | omega) (fun _ => rfl) (daa_cons (de_var 1) (daa_cons de_int daa_nil))) de_int)
    (dss_one (ds_set 7 (fun _ => sclaw.nd) (de_item K (de_lst (dk_cons (de_mkN K FCatalog.mak (fun _ => GC) (fun i => i.hr.mono (by decide)) (fun _ => rfl) (fun _ => T.mCatalog) (daa_cons de_str daa_nil)) (dk_cons (de_mkN K FCatalog.mak (fun _ => GC) (fun i => i.hr.mono (by decide)) (fun _ => rfl) (fun _ => T.mCatalog) (daa_cons de_str (daa_cons de_str daa_nil))) (dk_cons (de_mkN K FCatalog.mak (fun _ => GC) (fun i => i.hr.mono (by decide)) (fun _ => rfl) (fun _ => T.mCatalog) (daa_cons de_str (daa_cons de_str (daa_cons de_str daa_nil)))) dk_nil)))) (de_sub (de_var 2) de_int))))
    dss_nil)
  (dss_cons (ds_set 8 (fun _ => sclaw.nd) (de_call (fun _ => cLmade) (fun i => i.hr) (by first | decide | omega) (fun _ => rfl) (daa_cons (de_var 6) (daa_cons (de_var 4) daa_nil))))
  (dss_cons (ds_set 9 (fun _ => sclaw.nd) (de_call (fun _ => cLmade) (fun i => i.hr) (by first | decide | omega) (fun _ => rfl) (daa_cons (de_var 7) (daa_cons (de_var 5) daa_nil))))
  (dss_cons (ds_set 10 (fun _ => sclaw.nd) (de_lc (own := [("_law_row", 14)]) (fun _ => rfl) (fun _ => sclaw.nd) (di_seqC K (de_var 4)) (fun _ => blkOk_by (N := ["_law_script", "_law_box_here", "_law_count", "_law_kinds_here", "_law_first", "_law_second", "_law_catalog", "_law_other", "_law_one", "_law_two", "_law_names", "_law_common", "_law_due", "_law_third", "_law_row"]) (sc := defScope slaw) (by decide +kernel)) (dg_name 14 (fun _ => sclaw.nd)) dts_nil (de_item K (de_var 14) de_int)))
  (dss_cons (ds_setLc 11 (own := [("_law_row", 14)]) (fun _ => rfl) (fun _ => sclaw.nd) (di_seqC K (de_var 5)) (fun _ => blkOk_by (N := ["_law_script", "_law_box_here", "_law_count", "_law_kinds_here", "_law_first", "_law_second", "_law_catalog", "_law_other", "_law_one", "_law_two", "_law_names", "_law_common", "_law_due", "_law_third", "_law_row"]) (sc := defScope slaw) (by decide +kernel)) (dg_name 14 (fun _ => sclaw.nd)) (dts_one (dt_in K (de_item K (de_var 14) de_int) (de_var 10))) (de_item K (de_var 14) de_int))
  (dss_cons (ds_set 12 (fun _ => sclaw.nd) (de_add K (de_var 4) (de_var 5)))
  (dss_cut (ds_if (dt_ne K (fun i => i.hr) (de_var 11) (de_lst dk_nil))
    (dss_one (ds_set 12 (fun _ => sclaw.nd) (de_lst (dk_cons de_str (dk_cons (de_item K (de_var 11) de_int) (dk_cons de_bl dk_nil))))))
    dss_nil)
  (dss_cut (ds_if (dt_not (dt_eqO K (fun _ => MCeq) (fun i => i.hr) (by decide) (de_var 7) (de_var 6)))
    (dss_one (ds_set 12 (fun _ => sclaw.nd) (de_lst (dk_cons de_str (dk_cons de_bl dk_nil)))))
    dss_nil)
  (dss_cons (ds_if (dt_not (dt_val (de_call (fun _ => cLsame) (fun i => i.hr) (by first | decide | omega) (fun _ => rfl) (daa_cons (de_call (fun _ => cLask) (fun i => i.hr) (by first | decide | omega) (fun _ => rfl) (daa_cons (de_var 8) (daa_cons (de_var 9) daa_nil))) (daa_cons (de_var 12) daa_nil)))))
    (dss_one (ds_ret de_bl))
    dss_nil)
  (dss_cons (ds_set 13 (fun _ => sclaw.nd) (de_call (fun _ => cLmade) (fun i => i.hr) (by first | decide | omega) (fun _ => rfl) (daa_cons (de_var 7) (daa_cons (de_lst (dk_cons (de_tup (dk_cons de_str (dk_cons (de_lst (dk_cons (de_call (fun _ => cLbook) (fun i => i.hr) (by first | decide | omega) (fun _ => rfl) (daa_cons (de_var 1) (daa_cons (de_var 3) daa_nil))) dk_nil)) dk_nil))) dk_nil)) daa_nil))))
  (dss_cut (ds_if (DW.dt (dw_and (dt_eq K (fun i => i.hr) (de_var 11) (de_lst dk_nil)) (dw_and1 (dt_eqO K (fun _ => MCeq) (fun i => i.hr) (by decide) (de_var 7) (de_var 6)))))
    (dss_one (ds_if (dt_not (dt_eqO K (fun _ => MEeq) (fun i => i.hr) (by decide) (de_binO K FEvidence.sf (fun _ => MEadd) rfl (fun i => i.hr) (by decide) (de_binO K FEvidence.sf (fun _ => MEadd) rfl (fun i => i.hr) (by decide) (de_var 8) (de_var 9)) (de_var 13)) (de_binO K FEvidence.sf (fun _ => MEadd) rfl (fun i => i.hr) (by decide) (de_var 8) (de_binO K FEvidence.sf (fun _ => MEadd) rfl (fun i => i.hr) (by decide) (de_var 9) (de_var 13)))))
      (dss_one (ds_ret de_bl))
      dss_nil))
    dss_nil)
  (dss_cons (ds_if (dt_not (dt_val (de_call (fun _ => cLsame) (fun i => i.hr) (by first | decide | omega) (fun _ => rfl) (daa_cons (de_call (fun _ => cLask) (fun i => i.hr) (by first | decide | omega) (fun _ => rfl) (daa_cons (de_var 8) (daa_cons (de_mk K hciE FEvidence.mak (fun _ => GE) (fun i => i.hr.mono (by decide)) (fun _ => rfl) (fun _ => T.mEvidence) (daa_cons (de_var 6) daa_nil)) daa_nil))) (daa_cons (de_var 4) daa_nil)))))
    (dss_one (ds_ret de_bl))
    dss_nil)
  (dss_frz 5 (dss_frz 4 (dss_one (ds_ret (de_call (fun _ => cLsame) (fun i => i.hr) (by first | decide | omega) (fun _ => rfl) (daa_cons (de_lst (dk_cons (de_call (fun _ => cLtold) (fun i => i.hr) (by first | decide | omega) (fun _ => rfl) (daa_cons (de_var 8) daa_nil)) (dk_cons (de_call (fun _ => cLtold) (fun i => i.hr) (by first | decide | omega) (fun _ => rfl) (daa_cons (de_var 9) daa_nil)) dk_nil))) (daa_cons (de_lst (dk_cons (de_var 4) (dk_cons (de_var 5) dk_nil))) daa_nil)))))))))))))))))))))))))), ?_⟩
  simp only [List.length_cons, List.length_nil, List.replicate, List.cons_append, List.nil_append, Nat.sub_self, Nat.reduceSub, Nat.reduceAdd, Nat.zero_add, sRet, sSeq, sIf, sSet, sNext, sDrop, sUnp, sApp, sRetN, sBreak, sCont, dAndV, dOrV, dUna, dBin, dC, dArgs, dNotV, dNot, dAnd, dOr, dB, dIf, dChain, dKeep, dTup, dLst, dSl, dRng1, dRng2, dSeqC, dSeqF, dYes, dVar_S, dVar_0, dVar_d, dVar_v, dVar_m, dVar_box, dVar_see, withV_sl, withV_d, withV_v, withV_m, withD_d, withD_m, keepR_d, keepR_m, keepR_box, arg_d, arg_v, arg_m, arg_box, arg_sl, sl_int, sl_bl, sl_str, sl_tup, sl_lst, sl_non, sl_ins, sl_ref, sl_inj, ex_bl, ex_bl2, ex_int, ex_str, ex_some, isi_non, isi_int, isi_str, isi_bl, isi_tup, isi_lst, len_tup, len_lst, eq_int, eq_str, eq_bl, ne_int, ne_str, ne_bl, ixT_0, ixT_1, ixT_2, sub_int, add_int, mul_int, le_int, lt_int, gt_int, ge_int, neg_int, isN_, notN_, list_lst, list_tup, tup_lst, tup_tup, one_int, two_int, seq_lst, seq_tup, seqP_0, seqP_S, frz_m, frz_S, frz_d, frz_v, frz_no, frz_box, isM_m, isM_S, gtName, gtTup2, gtTup3, gtCons_, gtNil_, List.set_cons_zero, List.set_cons_succ, String.reduceEq, decide_false, decide_true, Bool.false_eq_true, if_false, if_true, reduceIte, Bool.or_false, Bool.or_true, Bool.false_or, Bool.true_or, Bool.not_true, Bool.not_false, ite_self, true_and, and_true, false_and, and_false, see_sl, Option.some.injEq, exists_eq_left', reduceCtorEq, exists_false, or_false, false_or, or_true, true_or, ins_ex, fld1, exists_const, Str_nil_app, wipe_nil, wipe_cons, List.map_cons, List.map_nil, tD_inj, tmap_inj, imap_inj, smap_inj, rD_inj, rD_ins, rD_fld, arg_rD, arg_tsD, arg_bookD, arg_tD, ts_seq, catD_inj, catD_ins, catD_fld, arg_catD, bookD_inj, dMeth, meth_rD, meth_catD, ixL_0, ixL_1, ixL_2, catD_and, rD_and, Int.cast_ofNat_Int, Int.reduceEq, Int.reduceLT, Int.reduceLE, eq_self, List.mem_cons, List.not_mem_nil, not_true_eq_false, not_false_eq_true, or_self, non_tup, non_lst, non_int, non_str, non_bl, non_non, non_tD, ixtD_0, ixtD_1, gt_tD, List.getElem?_cons_zero, List.getElem?_cons_succ, Sl.m.injEq, exists_eq, exists_eq', true_implies, implies_true, seeD, seeV, seeM, same_str, same_int, same_bl, eqO_rD, bmap_inj, add_lst, add_tup, add_str, ev_fld1, ev_fld2, ev_ins, arg_evD, ev_meth, ev_and, isi_bk, len_bk, len_strs, dTake, dLKinds, dRows, dNumbered, List.cons.injEq, Sl.d.injEq, Sl.v.injEq, D.int.injEq, D.tup.injEq, D.lst.injEq, D.str.injEq, D.bl.injEq, and_assoc, exists_and_left, exists_eq_left, exists_eq_left', and_true, true_and]
  refine ⟨by decide, fun v v0 v1 => ?_⟩
  obtain ⟨n, hn, n1, n3⟩ : ∃ n : Nat, 1 + v = (n : Int) ∧ 1 ≤ n ∧ n ≤ 3 := ⟨(1 + v).toNat, by omega, by omega, by omega⟩
  refine ⟨n, hn, by omega, fun ks kl hk => ?_⟩
  subst kl
  refine ⟨n3, hk, fun sh hsh sx => ⟨n3, hk, fun th hth tx => ⟨ks.length, hn, n1, by omega, ?_⟩⟩⟩
  obtain ⟨la, oa⟩ := abc_ok n1 n3
  obtain ⟨lo, oo, ne⟩ := oth_ok n1 n3
  generalize hns : abcN ks.length = ns at la oa ne
  simp only [sCut]
  refine ⟨fun ρ => ∃ ms, (ms = ns ∨ ms = othC ks.length) ∧ ρ = [.no, .box, .d (.int (1 + v)), .m (ks.map D.int), .m (sh.map shL), .m (th.map shL), .d (catD u.Catalog ns), .d (catD u.Catalog ms), .no, .no, .no, .no, .no, .no, .no], ?_, ?_⟩
  · simp only [List.length_cons, List.length_nil, List.replicate, List.cons_append, List.nil_append, Nat.sub_self, Nat.reduceSub, Nat.reduceAdd, Nat.zero_add, sRet, sSeq, sIf, sSet, sNext, sDrop, sUnp, sApp, sRetN, sBreak, sCont, dAndV, dOrV, dUna, dBin, dC, dArgs, dNotV, dNot, dAnd, dOr, dB, dIf, dChain, dKeep, dTup, dLst, dSl, dRng1, dRng2, dSeqC, dSeqF, dYes, dVar_S, dVar_0, dVar_d, dVar_v, dVar_m, dVar_box, dVar_see, withV_sl, withV_d, withV_v, withV_m, withD_d, withD_m, keepR_d, keepR_m, keepR_box, arg_d, arg_v, arg_m, arg_box, arg_sl, sl_int, sl_bl, sl_str, sl_tup, sl_lst, sl_non, sl_ins, sl_ref, sl_inj, ex_bl, ex_bl2, ex_int, ex_str, ex_some, isi_non, isi_int, isi_str, isi_bl, isi_tup, isi_lst, len_tup, len_lst, eq_int, eq_str, eq_bl, ne_int, ne_str, ne_bl, ixT_0, ixT_1, ixT_2, sub_int, add_int, mul_int, le_int, lt_int, gt_int, ge_int, neg_int, isN_, notN_, list_lst, list_tup, tup_lst, tup_tup, one_int, two_int, seq_lst, seq_tup, seqP_0, seqP_S, frz_m, frz_S, frz_d, frz_v, frz_no, frz_box, isM_m, isM_S, gtName, gtTup2, gtTup3, gtCons_, gtNil_, List.set_cons_zero, List.set_cons_succ, String.reduceEq, decide_false, decide_true, Bool.false_eq_true, if_false, if_true, reduceIte, Bool.or_false, Bool.or_true, Bool.false_or, Bool.true_or, Bool.not_true, Bool.not_false, ite_self, true_and, and_true, false_and, and_false, see_sl, Option.some.injEq, exists_eq_left', reduceCtorEq, exists_false, or_false, false_or, or_true, true_or, ins_ex, fld1, exists_const, Str_nil_app, wipe_nil, wipe_cons, List.map_cons, List.map_nil, tD_inj, tmap_inj, imap_inj, smap_inj, rD_inj, rD_ins, rD_fld, arg_rD, arg_tsD, arg_bookD, arg_tD, ts_seq, catD_inj, catD_ins, catD_fld, arg_catD, bookD_inj, dMeth, meth_rD, meth_catD, ixL_0, ixL_1, ixL_2, catD_and, rD_and, Int.cast_ofNat_Int, Int.reduceEq, Int.reduceLT, Int.reduceLE, eq_self, List.mem_cons, List.not_mem_nil, not_true_eq_false, not_false_eq_true, or_self, non_tup, non_lst, non_int, non_str, non_bl, non_non, non_tD, ixtD_0, ixtD_1, gt_tD, List.getElem?_cons_zero, List.getElem?_cons_succ, Sl.m.injEq, exists_eq, exists_eq', true_implies, implies_true, seeD, seeV, seeM, same_str, same_int, same_bl, eqO_rD, bmap_inj, add_lst, add_tup, add_str, ev_fld1, ev_fld2, ev_ins, arg_evD, ev_meth, ev_and, isi_bk, len_bk, len_strs, List.cons.injEq, Sl.d.injEq, Sl.v.injEq, D.int.injEq, D.tup.injEq, D.lst.injEq, D.str.injEq, D.bl.injEq, and_assoc, exists_and_left, exists_eq_left, exists_eq_left', and_true, true_and]
    refine ⟨by decide, fun y y0 y1 => ?_⟩
    by_cases hy : y = 1
    · refine iteT' (decide_eq_true hy) ?_
      have hv : v = 0 ∨ v = 1 ∨ v = 2 := by omega
      refine ⟨[.str "b"], rfl, by decide, ⟨["b"], 1, rfl, ⟨rfl, by decide, by decide⟩, by decide, by decide⟩, [.str "a", .str "c"], rfl, by decide, ⟨["a", "c"], 2, rfl, ⟨rfl, by decide, by decide⟩, by decide, by decide⟩, [.str "c", .str "b", .str "a"], rfl, by decide, ⟨["c", "b", "a"], 3, rfl, ⟨rfl, by decide, by decide⟩, by decide, by decide⟩, by decide, ?_⟩
      rcases hv with rfl | rfl | rfl
      · exact ⟨_, rfl, othC ks.length, .inr rfl, by rw [show ks.length = 1 from by omega]; rfl⟩
      · exact ⟨_, rfl, othC ks.length, .inr rfl, by rw [show ks.length = 2 from by omega]; rfl⟩
      · exact ⟨_, rfl, othC ks.length, .inr rfl, by rw [show ks.length = 3 from by omega]; rfl⟩
    · exact iteF' (decide_eq_false hy) ⟨_, .inl rfl, rfl⟩
  rintro ρ ⟨ms, hms, rfl⟩
  obtain ⟨lm, om⟩ : ms.length = ks.length ∧ ∀ x ∈ ms, PyData.strOk x = true := by
    rcases hms with rfl | rfl
    · exact ⟨la, oa⟩
    · exact ⟨lo, oo⟩
  simp only [List.length_cons, List.length_nil, List.replicate, List.cons_append, List.nil_append, Nat.sub_self, Nat.reduceSub, Nat.reduceAdd, Nat.zero_add, sRet, sSeq, sIf, sSet, sNext, sDrop, sUnp, sApp, sRetN, sBreak, sCont, dAndV, dOrV, dUna, dBin, dC, dArgs, dNotV, dNot, dAnd, dOr, dB, dIf, dChain, dKeep, dTup, dLst, dSl, dRng1, dRng2, dSeqC, dSeqF, dYes, dVar_S, dVar_0, dVar_d, dVar_v, dVar_m, dVar_box, dVar_see, withV_sl, withV_d, withV_v, withV_m, withD_d, withD_m, keepR_d, keepR_m, keepR_box, arg_d, arg_v, arg_m, arg_box, arg_sl, sl_int, sl_bl, sl_str, sl_tup, sl_lst, sl_non, sl_ins, sl_ref, sl_inj, ex_bl, ex_bl2, ex_int, ex_str, ex_some, isi_non, isi_int, isi_str, isi_bl, isi_tup, isi_lst, len_tup, len_lst, eq_int, eq_str, eq_bl, ne_int, ne_str, ne_bl, ixT_0, ixT_1, ixT_2, sub_int, add_int, mul_int, le_int, lt_int, gt_int, ge_int, neg_int, isN_, notN_, list_lst, list_tup, tup_lst, tup_tup, one_int, two_int, seq_lst, seq_tup, seqP_0, seqP_S, frz_m, frz_S, frz_d, frz_v, frz_no, frz_box, isM_m, isM_S, gtName, gtTup2, gtTup3, gtCons_, gtNil_, List.set_cons_zero, List.set_cons_succ, String.reduceEq, decide_false, decide_true, Bool.false_eq_true, if_false, if_true, reduceIte, Bool.or_false, Bool.or_true, Bool.false_or, Bool.true_or, Bool.not_true, Bool.not_false, ite_self, true_and, and_true, false_and, and_false, see_sl, Option.some.injEq, exists_eq_left', reduceCtorEq, exists_false, or_false, false_or, or_true, true_or, ins_ex, fld1, exists_const, Str_nil_app, wipe_nil, wipe_cons, List.map_cons, List.map_nil, tD_inj, tmap_inj, imap_inj, smap_inj, rD_inj, rD_ins, rD_fld, arg_rD, arg_tsD, arg_bookD, arg_tD, ts_seq, catD_inj, catD_ins, catD_fld, arg_catD, bookD_inj, dMeth, meth_rD, meth_catD, ixL_0, ixL_1, ixL_2, catD_and, rD_and, Int.cast_ofNat_Int, Int.reduceEq, Int.reduceLT, Int.reduceLE, eq_self, List.mem_cons, List.not_mem_nil, not_true_eq_false, not_false_eq_true, or_self, non_tup, non_lst, non_int, non_str, non_bl, non_non, non_tD, ixtD_0, ixtD_1, gt_tD, List.getElem?_cons_zero, List.getElem?_cons_succ, Sl.m.injEq, exists_eq, exists_eq', true_implies, implies_true, seeD, seeV, seeM, same_str, same_int, same_bl, eqO_rD, bmap_inj, add_lst, add_tup, add_str, ev_fld1, ev_fld2, ev_ins, arg_evD, ev_meth, ev_and, isi_bk, len_bk, len_strs, dMade, dLc, List.cons.injEq, Sl.d.injEq, Sl.v.injEq, D.int.injEq, D.tup.injEq, D.lst.injEq, D.str.injEq, D.bl.injEq, and_assoc, exists_and_left, exists_eq_left, exists_eq_left', and_true, true_and]
  refine ⟨sh, rfl, by omega, by rw [la]; exact hsh, th, rfl, by omega, by rw [lm]; exact hth, by have := hsh.1; simp; omega, compW_fn rowN (fun x hx kk hk2 => ?_) ?_⟩
  · obtain ⟨p, hp, rfl⟩ := List.mem_map.mp hx
    simp only [List.length_cons, List.length_nil, List.replicate, List.cons_append, List.nil_append, Nat.sub_self, Nat.reduceSub, Nat.reduceAdd, Nat.zero_add, sRet, sSeq, sIf, sSet, sNext, sDrop, sUnp, sApp, sRetN, sBreak, sCont, dAndV, dOrV, dUna, dBin, dC, dArgs, dNotV, dNot, dAnd, dOr, dB, dIf, dChain, dKeep, dTup, dLst, dSl, dRng1, dRng2, dSeqC, dSeqF, dYes, dVar_S, dVar_0, dVar_d, dVar_v, dVar_m, dVar_box, dVar_see, withV_sl, withV_d, withV_v, withV_m, withD_d, withD_m, keepR_d, keepR_m, keepR_box, arg_d, arg_v, arg_m, arg_box, arg_sl, sl_int, sl_bl, sl_str, sl_tup, sl_lst, sl_non, sl_ins, sl_ref, sl_inj, ex_bl, ex_bl2, ex_int, ex_str, ex_some, isi_non, isi_int, isi_str, isi_bl, isi_tup, isi_lst, len_tup, len_lst, eq_int, eq_str, eq_bl, ne_int, ne_str, ne_bl, ixT_0, ixT_1, ixT_2, sub_int, add_int, mul_int, le_int, lt_int, gt_int, ge_int, neg_int, isN_, notN_, list_lst, list_tup, tup_lst, tup_tup, one_int, two_int, seq_lst, seq_tup, seqP_0, seqP_S, frz_m, frz_S, frz_d, frz_v, frz_no, frz_box, isM_m, isM_S, gtName, gtTup2, gtTup3, gtCons_, gtNil_, List.set_cons_zero, List.set_cons_succ, String.reduceEq, decide_false, decide_true, Bool.false_eq_true, if_false, if_true, reduceIte, Bool.or_false, Bool.or_true, Bool.false_or, Bool.true_or, Bool.not_true, Bool.not_false, ite_self, true_and, and_true, false_and, and_false, see_sl, Option.some.injEq, exists_eq_left', reduceCtorEq, exists_false, or_false, false_or, or_true, true_or, ins_ex, fld1, exists_const, Str_nil_app, wipe_nil, wipe_cons, List.map_cons, List.map_nil, tD_inj, tmap_inj, imap_inj, smap_inj, rD_inj, rD_ins, rD_fld, arg_rD, arg_tsD, arg_bookD, arg_tD, ts_seq, catD_inj, catD_ins, catD_fld, arg_catD, bookD_inj, dMeth, meth_rD, meth_catD, ixL_0, ixL_1, ixL_2, catD_and, rD_and, Int.cast_ofNat_Int, Int.reduceEq, Int.reduceLT, Int.reduceLE, eq_self, List.mem_cons, List.not_mem_nil, not_true_eq_false, not_false_eq_true, or_self, non_tup, non_lst, non_int, non_str, non_bl, non_non, non_tD, ixtD_0, ixtD_1, gt_tD, List.getElem?_cons_zero, List.getElem?_cons_succ, Sl.m.injEq, exists_eq, exists_eq', true_implies, implies_true, seeD, seeV, seeM, same_str, same_int, same_bl, eqO_rD, bmap_inj, add_lst, add_tup, add_str, shL]
    exact hk2
  have en : (sh.map shL).map rowN = (sh.map (·.1)).map D.str := by rw [List.map_map, List.map_map]; rfl
  rw [en]
  refine ⟨by have := hth.1; simp; omega, compW_filter (comN sh) rowN (fun x hx kk k0 h1 h2 => ?_) ?_⟩
  · obtain ⟨p, hp, rfl⟩ := List.mem_map.mp hx
    simp only [List.length_cons, List.length_nil, List.replicate, List.cons_append, List.nil_append, Nat.sub_self, Nat.reduceSub, Nat.reduceAdd, Nat.zero_add, sRet, sSeq, sIf, sSet, sNext, sDrop, sUnp, sApp, sRetN, sBreak, sCont, dAndV, dOrV, dUna, dBin, dC, dArgs, dNotV, dNot, dAnd, dOr, dB, dIf, dChain, dKeep, dTup, dLst, dSl, dRng1, dRng2, dSeqC, dSeqF, dYes, dVar_S, dVar_0, dVar_d, dVar_v, dVar_m, dVar_box, dVar_see, withV_sl, withV_d, withV_v, withV_m, withD_d, withD_m, keepR_d, keepR_m, keepR_box, arg_d, arg_v, arg_m, arg_box, arg_sl, sl_int, sl_bl, sl_str, sl_tup, sl_lst, sl_non, sl_ins, sl_ref, sl_inj, ex_bl, ex_bl2, ex_int, ex_str, ex_some, isi_non, isi_int, isi_str, isi_bl, isi_tup, isi_lst, len_tup, len_lst, eq_int, eq_str, eq_bl, ne_int, ne_str, ne_bl, ixT_0, ixT_1, ixT_2, sub_int, add_int, mul_int, le_int, lt_int, gt_int, ge_int, neg_int, isN_, notN_, list_lst, list_tup, tup_lst, tup_tup, one_int, two_int, seq_lst, seq_tup, seqP_0, seqP_S, frz_m, frz_S, frz_d, frz_v, frz_no, frz_box, isM_m, isM_S, gtName, gtTup2, gtTup3, gtCons_, gtNil_, List.set_cons_zero, List.set_cons_succ, String.reduceEq, decide_false, decide_true, Bool.false_eq_true, if_false, if_true, reduceIte, Bool.or_false, Bool.or_true, Bool.false_or, Bool.true_or, Bool.not_true, Bool.not_false, ite_self, true_and, and_true, false_and, and_false, see_sl, Option.some.injEq, exists_eq_left', reduceCtorEq, exists_false, or_false, false_or, or_true, true_or, ins_ex, fld1, exists_const, Str_nil_app, wipe_nil, wipe_cons, List.map_cons, List.map_nil, tD_inj, tmap_inj, imap_inj, smap_inj, rD_inj, rD_ins, rD_fld, arg_rD, arg_tsD, arg_bookD, arg_tD, ts_seq, catD_inj, catD_ins, catD_fld, arg_catD, bookD_inj, dMeth, meth_rD, meth_catD, ixL_0, ixL_1, ixL_2, catD_and, rD_and, Int.cast_ofNat_Int, Int.reduceEq, Int.reduceLT, Int.reduceLE, eq_self, List.mem_cons, List.not_mem_nil, not_true_eq_false, not_false_eq_true, or_self, non_tup, non_lst, non_int, non_str, non_bl, non_non, non_tD, ixtD_0, ixtD_1, gt_tD, List.getElem?_cons_zero, List.getElem?_cons_succ, Sl.m.injEq, exists_eq, exists_eq', true_implies, implies_true, seeD, seeV, seeM, same_str, same_int, same_bl, eqO_rD, bmap_inj, add_lst, add_tup, add_str, shL]
    refine ⟨rfl, flat_strs _, ?_⟩
    simp only [inX_strs]
    by_cases e : p.1 ∈ sh.map (·.1)
    · exact ⟨true, by rw [decide_eq_true e]; rfl, iteT' rfl (h1 (decide_eq_true e))⟩
    · exact ⟨false, by rw [decide_eq_false e]; rfl, iteF' rfl (h2 (decide_eq_false e))⟩
  have ec : ((th.map shL).filter (comN sh)).map rowN = ((th.map (·.1)).filter fun z => decide (z ∈ sh.map (·.1))).map D.str := by
    rw [List.filter_map, List.filter_map, List.map_map, List.map_map]
    rfl
  rw [ec]
  have hb : bothS sh th = ((th.map (·.1)).filter fun z => decide (z ∈ sh.map (·.1))).head? := List.head?_filter.symm
  have hco : ∀ z ∈ (th.map (·.1)).filter fun z => decide (z ∈ sh.map (·.1)), PyData.strOk z = true := fun z hz => by
    obtain ⟨p, hp, rfl⟩ := List.mem_map.mp (List.mem_filter.mp hz).1
    exact (six_len (hth.2.2.1 p hp)).2.2
  generalize (th.map (·.1)).filter (fun z => decide (z ∈ sh.map (·.1))) = co at hb hco
  refine ⟨by have := hsh.1; have := hth.1; simp; omega, ?_⟩
  simp only [sCut]
  refine ⟨fun ρ => ρ = [.no, .box, .d (.int (1 + v)), .m (ks.map D.int), .m (sh.map shL), .m (th.map shL), .d (catD u.Catalog ns), .d (catD u.Catalog ms), .d (evD u.Evidence u.Catalog ns sh), .d (evD u.Evidence u.Catalog ms th), .m ((sh.map (·.1)).map D.str), .m (co.map D.str), .m (dueL sh th co), .no, .no], ?_, ?_⟩
  · simp only [List.length_cons, List.length_nil, List.replicate, List.cons_append, List.nil_append, Nat.sub_self, Nat.reduceSub, Nat.reduceAdd, Nat.zero_add, sRet, sSeq, sIf, sSet, sNext, sDrop, sUnp, sApp, sRetN, sBreak, sCont, dAndV, dOrV, dUna, dBin, dC, dArgs, dNotV, dNot, dAnd, dOr, dB, dIf, dChain, dKeep, dTup, dLst, dSl, dRng1, dRng2, dSeqC, dSeqF, dYes, dVar_S, dVar_0, dVar_d, dVar_v, dVar_m, dVar_box, dVar_see, withV_sl, withV_d, withV_v, withV_m, withD_d, withD_m, keepR_d, keepR_m, keepR_box, arg_d, arg_v, arg_m, arg_box, arg_sl, sl_int, sl_bl, sl_str, sl_tup, sl_lst, sl_non, sl_ins, sl_ref, sl_inj, ex_bl, ex_bl2, ex_int, ex_str, ex_some, isi_non, isi_int, isi_str, isi_bl, isi_tup, isi_lst, len_tup, len_lst, eq_int, eq_str, eq_bl, ne_int, ne_str, ne_bl, ixT_0, ixT_1, ixT_2, sub_int, add_int, mul_int, le_int, lt_int, gt_int, ge_int, neg_int, isN_, notN_, list_lst, list_tup, tup_lst, tup_tup, one_int, two_int, seq_lst, seq_tup, seqP_0, seqP_S, frz_m, frz_S, frz_d, frz_v, frz_no, frz_box, isM_m, isM_S, gtName, gtTup2, gtTup3, gtCons_, gtNil_, List.set_cons_zero, List.set_cons_succ, String.reduceEq, decide_false, decide_true, Bool.false_eq_true, if_false, if_true, reduceIte, Bool.or_false, Bool.or_true, Bool.false_or, Bool.true_or, Bool.not_true, Bool.not_false, ite_self, true_and, and_true, false_and, and_false, see_sl, Option.some.injEq, exists_eq_left', reduceCtorEq, exists_false, or_false, false_or, or_true, true_or, ins_ex, fld1, exists_const, Str_nil_app, wipe_nil, wipe_cons, List.map_cons, List.map_nil, tD_inj, tmap_inj, imap_inj, smap_inj, rD_inj, rD_ins, rD_fld, arg_rD, arg_tsD, arg_bookD, arg_tD, ts_seq, catD_inj, catD_ins, catD_fld, arg_catD, bookD_inj, dMeth, meth_rD, meth_catD, ixL_0, ixL_1, ixL_2, catD_and, rD_and, Int.cast_ofNat_Int, Int.reduceEq, Int.reduceLT, Int.reduceLE, eq_self, List.mem_cons, List.not_mem_nil, not_true_eq_false, not_false_eq_true, or_self, non_tup, non_lst, non_int, non_str, non_bl, non_non, non_tD, ixtD_0, ixtD_1, gt_tD, List.getElem?_cons_zero, List.getElem?_cons_succ, Sl.m.injEq, exists_eq, exists_eq', true_implies, implies_true, seeD, seeV, seeM, same_str, same_int, same_bl, eqO_rD, bmap_inj, add_lst, add_tup, add_str, ev_fld1, ev_fld2, ev_ins, arg_evD, ev_meth, ev_and, isi_bk, len_bk, len_strs, List.cons.injEq, Sl.d.injEq, Sl.v.injEq, D.int.injEq, D.tup.injEq, D.lst.injEq, D.str.injEq, D.bl.injEq, and_assoc, exists_and_left, exists_eq_left, exists_eq_left', and_true, true_and]
    refine ⟨by decide, ne_strs hco ?_⟩
    refine ⟨_, rfl, ?_⟩
    cases co with
    | nil => exact iteF' rfl rfl
    | cons z cs =>
      refine iteT' rfl ?_
      simp only [List.length_cons, List.length_nil, List.replicate, List.cons_append, List.nil_append, Nat.sub_self, Nat.reduceSub, Nat.reduceAdd, Nat.zero_add, sRet, sSeq, sIf, sSet, sNext, sDrop, sUnp, sApp, sRetN, sBreak, sCont, dAndV, dOrV, dUna, dBin, dC, dArgs, dNotV, dNot, dAnd, dOr, dB, dIf, dChain, dKeep, dTup, dLst, dSl, dRng1, dRng2, dSeqC, dSeqF, dYes, dVar_S, dVar_0, dVar_d, dVar_v, dVar_m, dVar_box, dVar_see, withV_sl, withV_d, withV_v, withV_m, withD_d, withD_m, keepR_d, keepR_m, keepR_box, arg_d, arg_v, arg_m, arg_box, arg_sl, sl_int, sl_bl, sl_str, sl_tup, sl_lst, sl_non, sl_ins, sl_ref, sl_inj, ex_bl, ex_bl2, ex_int, ex_str, ex_some, isi_non, isi_int, isi_str, isi_bl, isi_tup, isi_lst, len_tup, len_lst, eq_int, eq_str, eq_bl, ne_int, ne_str, ne_bl, ixT_0, ixT_1, ixT_2, sub_int, add_int, mul_int, le_int, lt_int, gt_int, ge_int, neg_int, isN_, notN_, list_lst, list_tup, tup_lst, tup_tup, one_int, two_int, seq_lst, seq_tup, seqP_0, seqP_S, frz_m, frz_S, frz_d, frz_v, frz_no, frz_box, isM_m, isM_S, gtName, gtTup2, gtTup3, gtCons_, gtNil_, List.set_cons_zero, List.set_cons_succ, String.reduceEq, decide_false, decide_true, Bool.false_eq_true, if_false, if_true, reduceIte, Bool.or_false, Bool.or_true, Bool.false_or, Bool.true_or, Bool.not_true, Bool.not_false, ite_self, true_and, and_true, false_and, and_false, see_sl, Option.some.injEq, exists_eq_left', reduceCtorEq, exists_false, or_false, false_or, or_true, true_or, ins_ex, fld1, exists_const, Str_nil_app, wipe_nil, wipe_cons, List.map_cons, List.map_nil, tD_inj, tmap_inj, imap_inj, smap_inj, rD_inj, rD_ins, rD_fld, arg_rD, arg_tsD, arg_bookD, arg_tD, ts_seq, catD_inj, catD_ins, catD_fld, arg_catD, bookD_inj, dMeth, meth_rD, meth_catD, ixL_0, ixL_1, ixL_2, catD_and, rD_and, Int.cast_ofNat_Int, Int.reduceEq, Int.reduceLT, Int.reduceLE, eq_self, List.mem_cons, List.not_mem_nil, not_true_eq_false, not_false_eq_true, or_self, non_tup, non_lst, non_int, non_str, non_bl, non_non, non_tD, ixtD_0, ixtD_1, gt_tD, List.getElem?_cons_zero, List.getElem?_cons_succ, Sl.m.injEq, exists_eq, exists_eq', true_implies, implies_true, seeD, seeV, seeM, same_str, same_int, same_bl, eqO_rD, bmap_inj, add_lst, add_tup, add_str, ev_fld1, ev_fld2, ev_ins, arg_evD, ev_meth, ev_and, isi_bk, len_bk, len_strs, List.cons.injEq, Sl.d.injEq, Sl.v.injEq, D.int.injEq, D.tup.injEq, D.lst.injEq, D.str.injEq, D.bl.injEq, and_assoc, exists_and_left, exists_eq_left, exists_eq_left', and_true, true_and]
      exact ⟨by decide, rfl⟩
  rintro ρ rfl
  refine ⟨fun ρ => ρ = [.no, .box, .d (.int (1 + v)), .m (ks.map D.int), .m (sh.map shL), .m (th.map shL), .d (catD u.Catalog ns), .d (catD u.Catalog ms), .d (evD u.Evidence u.Catalog ns sh), .d (evD u.Evidence u.Catalog ms th), .m ((sh.map (·.1)).map D.str), .m (co.map D.str), .m (askL ns ms sh th), .no, .no], ?_, ?_⟩
  · simp only [List.length_cons, List.length_nil, List.replicate, List.cons_append, List.nil_append, Nat.sub_self, Nat.reduceSub, Nat.reduceAdd, Nat.zero_add, sRet, sSeq, sIf, sSet, sNext, sDrop, sUnp, sApp, sRetN, sBreak, sCont, dAndV, dOrV, dUna, dBin, dC, dArgs, dNotV, dNot, dAnd, dOr, dB, dIf, dChain, dKeep, dTup, dLst, dSl, dRng1, dRng2, dSeqC, dSeqF, dYes, dVar_S, dVar_0, dVar_d, dVar_v, dVar_m, dVar_box, dVar_see, withV_sl, withV_d, withV_v, withV_m, withD_d, withD_m, keepR_d, keepR_m, keepR_box, arg_d, arg_v, arg_m, arg_box, arg_sl, sl_int, sl_bl, sl_str, sl_tup, sl_lst, sl_non, sl_ins, sl_ref, sl_inj, ex_bl, ex_bl2, ex_int, ex_str, ex_some, isi_non, isi_int, isi_str, isi_bl, isi_tup, isi_lst, len_tup, len_lst, eq_int, eq_str, eq_bl, ne_int, ne_str, ne_bl, ixT_0, ixT_1, ixT_2, sub_int, add_int, mul_int, le_int, lt_int, gt_int, ge_int, neg_int, isN_, notN_, list_lst, list_tup, tup_lst, tup_tup, one_int, two_int, seq_lst, seq_tup, seqP_0, seqP_S, frz_m, frz_S, frz_d, frz_v, frz_no, frz_box, isM_m, isM_S, gtName, gtTup2, gtTup3, gtCons_, gtNil_, List.set_cons_zero, List.set_cons_succ, String.reduceEq, decide_false, decide_true, Bool.false_eq_true, if_false, if_true, reduceIte, Bool.or_false, Bool.or_true, Bool.false_or, Bool.true_or, Bool.not_true, Bool.not_false, ite_self, true_and, and_true, false_and, and_false, see_sl, Option.some.injEq, exists_eq_left', reduceCtorEq, exists_false, or_false, false_or, or_true, true_or, ins_ex, fld1, exists_const, Str_nil_app, wipe_nil, wipe_cons, List.map_cons, List.map_nil, tD_inj, tmap_inj, imap_inj, smap_inj, rD_inj, rD_ins, rD_fld, arg_rD, arg_tsD, arg_bookD, arg_tD, ts_seq, catD_inj, catD_ins, catD_fld, arg_catD, bookD_inj, dMeth, meth_rD, meth_catD, ixL_0, ixL_1, ixL_2, catD_and, rD_and, Int.cast_ofNat_Int, Int.reduceEq, Int.reduceLT, Int.reduceLE, eq_self, List.mem_cons, List.not_mem_nil, not_true_eq_false, not_false_eq_true, or_self, non_tup, non_lst, non_int, non_str, non_bl, non_non, non_tD, ixtD_0, ixtD_1, gt_tD, List.getElem?_cons_zero, List.getElem?_cons_succ, Sl.m.injEq, exists_eq, exists_eq', true_implies, implies_true, seeD, seeV, seeM, same_str, same_int, same_bl, eqO_rD, bmap_inj, add_lst, add_tup, add_str, ev_fld1, ev_fld2, ev_ins, arg_evD, ev_meth, ev_and, isi_bk, len_bk, len_strs, List.cons.injEq, Sl.d.injEq, Sl.v.injEq, D.int.injEq, D.tup.injEq, D.lst.injEq, D.str.injEq, D.bl.injEq, and_assoc, exists_and_left, exists_eq_left, exists_eq_left', and_true, true_and]
    refine ⟨_, _, _, _, rfl, rfl, ms, ns, rfl, om, oa, _, rfl, ?_⟩
    by_cases e : ms = ns
    · refine ⟨_, rfl, iteF' (by rw [decide_eq_true e]; rfl) ?_⟩
      unfold askL
      rw [if_pos e.symm, hb]
      cases co with
      | nil => exact List.map_append.symm
      | cons z cs => rfl
    · refine ⟨_, rfl, iteT' (by rw [decide_eq_false e]; rfl) ⟨by decide, ?_⟩⟩
      unfold askL
      rw [if_neg fun z => e z.symm]
  rintro ρ rfl
  simp only [List.length_cons, List.length_nil, List.replicate, List.cons_append, List.nil_append, Nat.sub_self, Nat.reduceSub, Nat.reduceAdd, Nat.zero_add, sRet, sSeq, sIf, sSet, sNext, sDrop, sUnp, sApp, sRetN, sBreak, sCont, dAndV, dOrV, dUna, dBin, dC, dArgs, dNotV, dNot, dAnd, dOr, dB, dIf, dChain, dKeep, dTup, dLst, dSl, dRng1, dRng2, dSeqC, dSeqF, dYes, dVar_S, dVar_0, dVar_d, dVar_v, dVar_m, dVar_box, dVar_see, withV_sl, withV_d, withV_v, withV_m, withD_d, withD_m, keepR_d, keepR_m, keepR_box, arg_d, arg_v, arg_m, arg_box, arg_sl, sl_int, sl_bl, sl_str, sl_tup, sl_lst, sl_non, sl_ins, sl_ref, sl_inj, ex_bl, ex_bl2, ex_int, ex_str, ex_some, isi_non, isi_int, isi_str, isi_bl, isi_tup, isi_lst, len_tup, len_lst, eq_int, eq_str, eq_bl, ne_int, ne_str, ne_bl, ixT_0, ixT_1, ixT_2, sub_int, add_int, mul_int, le_int, lt_int, gt_int, ge_int, neg_int, isN_, notN_, list_lst, list_tup, tup_lst, tup_tup, one_int, two_int, seq_lst, seq_tup, seqP_0, seqP_S, frz_m, frz_S, frz_d, frz_v, frz_no, frz_box, isM_m, isM_S, gtName, gtTup2, gtTup3, gtCons_, gtNil_, List.set_cons_zero, List.set_cons_succ, String.reduceEq, decide_false, decide_true, Bool.false_eq_true, if_false, if_true, reduceIte, Bool.or_false, Bool.or_true, Bool.false_or, Bool.true_or, Bool.not_true, Bool.not_false, ite_self, true_and, and_true, false_and, and_false, see_sl, Option.some.injEq, exists_eq_left', reduceCtorEq, exists_false, or_false, false_or, or_true, true_or, ins_ex, fld1, exists_const, Str_nil_app, wipe_nil, wipe_cons, List.map_cons, List.map_nil, tD_inj, tmap_inj, imap_inj, smap_inj, rD_inj, rD_ins, rD_fld, arg_rD, arg_tsD, arg_bookD, arg_tD, ts_seq, catD_inj, catD_ins, catD_fld, arg_catD, bookD_inj, dMeth, meth_rD, meth_catD, ixL_0, ixL_1, ixL_2, catD_and, rD_and, Int.cast_ofNat_Int, Int.reduceEq, Int.reduceLT, Int.reduceLE, eq_self, List.mem_cons, List.not_mem_nil, not_true_eq_false, not_false_eq_true, or_self, non_tup, non_lst, non_int, non_str, non_bl, non_non, non_tD, ixtD_0, ixtD_1, gt_tD, List.getElem?_cons_zero, List.getElem?_cons_succ, Sl.m.injEq, exists_eq, exists_eq', true_implies, implies_true, seeD, seeV, seeM, same_str, same_int, same_bl, eqO_rD, bmap_inj, add_lst, add_tup, add_str, ev_fld1, ev_fld2, ev_ins, arg_evD, ev_meth, ev_and, isi_bk, len_bk, len_strs, dAskE, dBookE, List.cons.injEq, Sl.d.injEq, Sl.v.injEq, D.int.injEq, D.tup.injEq, D.lst.injEq, D.str.injEq, D.bl.injEq, and_assoc, exists_and_left, exists_eq_left, exists_eq_left', and_true, true_and]
  have so : ∀ {s2 : List Sh}, RowsOk ks.length s2 → ShOk s2 := fun h => ⟨by have := h.1; omega, h.2.1, fun p hp => (six_len (h.2.2.1 p hp)).2.2⟩
  have ro : ∀ {s2 : List Sh}, RowsOk ks.length s2 → ∀ p ∈ s2, p.2.length ≤ 100 ∧ ∀ b ∈ p.2, b.length ≤ 100 := fun h p hp => ⟨by have := (h.2.2.2 p hp).1; omega, fun b hb => by have := ((h.2.2.2 p hp).2 b hb).1; omega⟩
  have da : Dep 5 (.lst (askL ns ms sh th)) := dep_ask (by have := hsh.1; have := hth.1; omega) fun p hp => by
    rcases List.mem_append.mp hp with hp | hp
    · exact ro hsh p hp
    · exact ro hth p hp
  refine ⟨ns, ms, sh, rfl, th, rfl, oa, om, so hsh, so hth, fun p hp => ?_, by have := hsh.1; have := hth.1; omega, ?_⟩
  · rcases List.mem_append.mp hp with hp | hp
    · exact (ro hsh p hp).1
    · exact (ro hth p hp).1
  refine ⟨_, _, _, rfl, rfl, rfl, da, ?_⟩
  refine ⟨true, rfl, iteF' rfl ?_⟩
  refine ⟨by omega, hk, fun b hbk => ?_⟩
  refine ⟨by decide, by decide, by decide, [("zz", [b])], rfl, by omega, ?_, ?_⟩
  · rw [lm]
    exact ⟨by show 1 ≤ 3; decide, by simp, fun p hp => .inr (by rw [List.mem_singleton.mp hp]), fun p hp => by
      rw [List.mem_singleton.mp hp]
      exact ⟨by show 1 ≤ 3; decide, fun c hc => by rw [List.mem_singleton.mp hc]; exact hbk⟩⟩
  simp only [sCut]
  refine ⟨fun ρ => ρ = [.no, .box, .d (.int (1 + v)), .m (ks.map D.int), .m (sh.map shL), .m (th.map shL), .d (catD u.Catalog ns), .d (catD u.Catalog ms), .d (evD u.Evidence u.Catalog ns sh), .d (evD u.Evidence u.Catalog ms th), .m ((sh.map (·.1)).map D.str), .m (co.map D.str), .m (askL ns ms sh th), .d (evD u.Evidence u.Catalog ms [("zz", [b])]), .no], ?_, ?_⟩
  · simp only [List.length_cons, List.length_nil, List.replicate, List.cons_append, List.nil_append, Nat.sub_self, Nat.reduceSub, Nat.reduceAdd, Nat.zero_add, sRet, sSeq, sIf, sSet, sNext, sDrop, sUnp, sApp, sRetN, sBreak, sCont, dAndV, dOrV, dUna, dBin, dC, dArgs, dNotV, dNot, dAnd, dOr, dB, dIf, dChain, dKeep, dTup, dLst, dSl, dRng1, dRng2, dSeqC, dSeqF, dYes, dVar_S, dVar_0, dVar_d, dVar_v, dVar_m, dVar_box, dVar_see, withV_sl, withV_d, withV_v, withV_m, withD_d, withD_m, keepR_d, keepR_m, keepR_box, arg_d, arg_v, arg_m, arg_box, arg_sl, sl_int, sl_bl, sl_str, sl_tup, sl_lst, sl_non, sl_ins, sl_ref, sl_inj, ex_bl, ex_bl2, ex_int, ex_str, ex_some, isi_non, isi_int, isi_str, isi_bl, isi_tup, isi_lst, len_tup, len_lst, eq_int, eq_str, eq_bl, ne_int, ne_str, ne_bl, ixT_0, ixT_1, ixT_2, sub_int, add_int, mul_int, le_int, lt_int, gt_int, ge_int, neg_int, isN_, notN_, list_lst, list_tup, tup_lst, tup_tup, one_int, two_int, seq_lst, seq_tup, seqP_0, seqP_S, frz_m, frz_S, frz_d, frz_v, frz_no, frz_box, isM_m, isM_S, gtName, gtTup2, gtTup3, gtCons_, gtNil_, List.set_cons_zero, List.set_cons_succ, String.reduceEq, decide_false, decide_true, Bool.false_eq_true, if_false, if_true, reduceIte, Bool.or_false, Bool.or_true, Bool.false_or, Bool.true_or, Bool.not_true, Bool.not_false, ite_self, true_and, and_true, false_and, and_false, see_sl, Option.some.injEq, exists_eq_left', reduceCtorEq, exists_false, or_false, false_or, or_true, true_or, ins_ex, fld1, exists_const, Str_nil_app, wipe_nil, wipe_cons, List.map_cons, List.map_nil, tD_inj, tmap_inj, imap_inj, smap_inj, rD_inj, rD_ins, rD_fld, arg_rD, arg_tsD, arg_bookD, arg_tD, ts_seq, catD_inj, catD_ins, catD_fld, arg_catD, bookD_inj, dMeth, meth_rD, meth_catD, ixL_0, ixL_1, ixL_2, catD_and, rD_and, Int.cast_ofNat_Int, Int.reduceEq, Int.reduceLT, Int.reduceLE, eq_self, List.mem_cons, List.not_mem_nil, not_true_eq_false, not_false_eq_true, or_self, non_tup, non_lst, non_int, non_str, non_bl, non_non, non_tD, ixtD_0, ixtD_1, gt_tD, List.getElem?_cons_zero, List.getElem?_cons_succ, Sl.m.injEq, exists_eq, exists_eq', true_implies, implies_true, seeD, seeV, seeM, same_str, same_int, same_bl, eqO_rD, bmap_inj, add_lst, add_tup, add_str, ev_fld1, ev_fld2, ev_ins, arg_evD, ev_meth, ev_and, isi_bk, len_bk, len_strs, List.cons.injEq, Sl.d.injEq, Sl.v.injEq, D.int.injEq, D.tup.injEq, D.lst.injEq, D.str.injEq, D.bl.injEq, and_assoc, exists_and_left, exists_eq_left, exists_eq_left', and_true, true_and]
    refine ⟨by decide, eq_strs hco ?_⟩
    refine ⟨_, rfl, ?_⟩
    by_cases hc : co = []
    · refine iteT' (decide_eq_true hc) ?_
      refine ⟨_, _, _, _, rfl, rfl, ms, ns, rfl, om, oa, _, rfl, ?_⟩
      by_cases e : ms = ns
      · subst e
        refine ⟨_, rfl, iteT' (decide_eq_true rfl) ?_⟩
        rw [hc] at hb
        have hd : ∀ y ∈ th.map (·.1), y ∉ sh.map (·.1) := fun y hy => by
          have no := List.find?_eq_none.mp hb y hy
          rw [decide_eq_true_eq] at no
          exact no
        have z6 : ("zz" : Str) ∉ six := by decide +kernel
        have zs : ("zz" : Str) ∉ sh.map (·.1) := fun h => by
          obtain ⟨p, hp, e⟩ := List.mem_map.mp h
          exact z6 (e ▸ sx p hp)
        have zt : ("zz" : Str) ∉ th.map (·.1) := fun h => by
          obtain ⟨p, hp, e⟩ := List.mem_map.mp h
          exact z6 (e ▸ tx p hp)
        have oz : ShOk [("zz", [b])] := ⟨by show 1 ≤ 100; decide, by simp, fun p hp => by
          rw [List.mem_singleton.mp hp]
          show PyData.strOk "zz" = true
          decide +kernel⟩
        have l1 := hsh.1
        have l2 := hth.1
        refine add_ok oa (so hsh) (so hth) hb ⟨_, rfl, rfl, _, _, rfl, ?_⟩
        refine add_ok oa (shok_app (so hsh) (so hth) hd (by omega)) oz (both_none fun y hy => ?_) ⟨_, rfl, rfl, ?_⟩
        · cases List.mem_singleton.mp hy
          rw [List.map_append]
          exact fun h => (List.mem_append.mp h).elim zs zt
        refine add_ok oa (so hth) oz (both_none fun y hy => by cases List.mem_singleton.mp hy; exact zt) ⟨_, rfl, rfl, _, _, rfl, ?_⟩
        have hd3 : ∀ y ∈ ([("zz", [b])] : List Sh).map (·.1), y ∉ th.map (·.1) := fun y hy => by
          cases List.mem_singleton.mp hy
          exact zt
        have hd4 : ∀ y ∈ (th ++ ([("zz", [b])] : List Sh)).map (·.1), y ∉ sh.map (·.1) := fun y hy => by
          rw [List.map_append] at hy
          rcases List.mem_append.mp hy with hy | hy
          · exact hd y hy
          · cases List.mem_singleton.mp hy
            exact zs
        have o2 := shok_app (so hth) oz hd3 (by show th.length + 1 ≤ 100; omega)
        refine add_ok oa (so hsh) o2 (both_none hd4) ⟨_, rfl, rfl, ?_⟩
        rw [List.append_assoc]
        exact ⟨_, _, _, _, rfl, rfl, ms, _, rfl, om, shok_app (so hsh) o2 hd4 (by rw [List.length_append]; show sh.length + (th.length + 1) ≤ 100; omega), _, rfl, _, rfl, iteF' rfl trivial⟩
      · exact ⟨_, rfl, iteF' (decide_eq_false e) trivial⟩
    · exact iteF' (decide_eq_false hc) trivial
  rintro ρ rfl
  simp only [List.length_cons, List.length_nil, List.replicate, List.cons_append, List.nil_append, Nat.sub_self, Nat.reduceSub, Nat.reduceAdd, Nat.zero_add, sRet, sSeq, sIf, sSet, sNext, sDrop, sUnp, sApp, sRetN, sBreak, sCont, dAndV, dOrV, dUna, dBin, dC, dArgs, dNotV, dNot, dAnd, dOr, dB, dIf, dChain, dKeep, dTup, dLst, dSl, dRng1, dRng2, dSeqC, dSeqF, dYes, dVar_S, dVar_0, dVar_d, dVar_v, dVar_m, dVar_box, dVar_see, withV_sl, withV_d, withV_v, withV_m, withD_d, withD_m, keepR_d, keepR_m, keepR_box, arg_d, arg_v, arg_m, arg_box, arg_sl, sl_int, sl_bl, sl_str, sl_tup, sl_lst, sl_non, sl_ins, sl_ref, sl_inj, ex_bl, ex_bl2, ex_int, ex_str, ex_some, isi_non, isi_int, isi_str, isi_bl, isi_tup, isi_lst, len_tup, len_lst, eq_int, eq_str, eq_bl, ne_int, ne_str, ne_bl, ixT_0, ixT_1, ixT_2, sub_int, add_int, mul_int, le_int, lt_int, gt_int, ge_int, neg_int, isN_, notN_, list_lst, list_tup, tup_lst, tup_tup, one_int, two_int, seq_lst, seq_tup, seqP_0, seqP_S, frz_m, frz_S, frz_d, frz_v, frz_no, frz_box, isM_m, isM_S, gtName, gtTup2, gtTup3, gtCons_, gtNil_, List.set_cons_zero, List.set_cons_succ, String.reduceEq, decide_false, decide_true, Bool.false_eq_true, if_false, if_true, reduceIte, Bool.or_false, Bool.or_true, Bool.false_or, Bool.true_or, Bool.not_true, Bool.not_false, ite_self, true_and, and_true, false_and, and_false, see_sl, Option.some.injEq, exists_eq_left', reduceCtorEq, exists_false, or_false, false_or, or_true, true_or, ins_ex, fld1, exists_const, Str_nil_app, wipe_nil, wipe_cons, List.map_cons, List.map_nil, tD_inj, tmap_inj, imap_inj, smap_inj, rD_inj, rD_ins, rD_fld, arg_rD, arg_tsD, arg_bookD, arg_tD, ts_seq, catD_inj, catD_ins, catD_fld, arg_catD, bookD_inj, dMeth, meth_rD, meth_catD, ixL_0, ixL_1, ixL_2, catD_and, rD_and, Int.cast_ofNat_Int, Int.reduceEq, Int.reduceLT, Int.reduceLE, eq_self, List.mem_cons, List.not_mem_nil, not_true_eq_false, not_false_eq_true, or_self, non_tup, non_lst, non_int, non_str, non_bl, non_non, non_tD, ixtD_0, ixtD_1, gt_tD, List.getElem?_cons_zero, List.getElem?_cons_succ, Sl.m.injEq, exists_eq, exists_eq', true_implies, implies_true, seeD, seeV, seeM, same_str, same_int, same_bl, eqO_rD, bmap_inj, add_lst, add_tup, add_str, ev_fld1, ev_fld2, ev_ins, arg_evD, ev_meth, ev_and, isi_bk, len_bk, len_strs, dEvI, dAskE, dTold, List.cons.injEq, Sl.d.injEq, Sl.v.injEq, D.int.injEq, D.tup.injEq, D.lst.injEq, D.str.injEq, D.bl.injEq, and_assoc, exists_and_left, exists_eq_left, exists_eq_left', and_true, true_and]
  have e0 : askL ns ns sh [] = sh.map shL := by
    unfold askL
    rw [if_pos rfl]
    show (sh ++ []).map shL = _
    rw [List.append_nil]
  have l1 := hsh.1
  have l2 := hth.1
  have d1 : Dep 4 (.lst (sh.map shL)) := dep_rows (by omega) (ro hsh)
  have d2 : Dep 4 (.lst (th.map shL)) := dep_rows (by omega) (ro hth)
  refine ⟨ns, ns, sh, rfl, [], rfl, oa, oa, so hsh, ⟨Nat.zero_le _, List.Pairwise.nil, fun _ h => nomatch h⟩, fun p hp => (ro hsh p (by simpa using hp)).1, by simp; omega, ?_⟩
  rw [e0]
  refine ⟨_, _, _, rfl, rfl, rfl, d1.up, ?_⟩
  refine ⟨true, rfl, iteF' rfl ?_⟩
  refine ⟨ns, sh, rfl, by omega, hsh.2.1, fun p hp => (ro hsh p hp).1, ms, th, rfl, by omega, hth.2.1, fun p hp => (ro hth p hp).1, by decide, by decide, ?_⟩
  refine ⟨_, _, _, rfl, rfl, rfl, .lst (by show 2 ≤ 1000000; decide) fun y hy => ?_, rfl⟩
  simp only [List.mem_cons, List.not_mem_nil, or_false] at hy
  rcases hy with rfl | rfl
  · exact d1
  · exact d2
end
end DL

namespace DL
open PySem PySem.Spec PyProof.Rows L2 VL
open C8 (Cal pe_c Met pe_mt)
def ci0 : CI := ⟨fun _ _ _ => True, fun _ h => h⟩
open NdefX (nscope_by)
theorem excC_of {K : PySem.W.Frag} {C N SE : Addr} {nm q : Str} {bs : List Value} {sn : List Str} {sub : List Value} {ab : Bool} {col : Option Bool} {dd : Option Addr} {k0 k1 k2 k3 k5 : Option Value}
    (x : K.lookup C = some (excClassObj nm q C N bs [.ref SE, .type "ValueError", .type "Exception", .type "BaseException", .type "object"] true sn sub ab col dd k0 k1 k2 k3 k5 "ValueError.__new__")) (sa : PySem.W.findIn K (.ref C) "__setattr__" = some (some (.builtin "object.__setattr__"))) (eC : PySem.W.subIn K (.ref C) (.type "BaseException") = some true) (tC : PySem.W.typeIn K (.ref C) = some (.type "type")) (kC : PySem.W.keepIn K (.ref C) = true) : OexC K C :=
  ⟨⟨nm, q, N, bs, _, sn, sub, ab, col, dd, k0, k1, k2, k3, k5, x, rfl⟩, sa, eC, tC, kC⟩
abbrev sDuplicateShelfinit : Stmt := inClass (top 6) 0
abbrev sUnlikeCatalogsinit : Stmt := inClass (top 8) 0
theorem all_mk {l : PySem.W.OpenLaw} {w : World} {K : PySem.W.Frag} {h : Heap} {mg : Str → Option Value} {fa CCatalog CEvidence CInvalidCatalog CInvalidBook CInvalidName CDuplicateShelf CUnknownShelf CUnlikeCatalogs CShelfError fXDuplicateShelf ceDuplicateShelf cdaDuplicateShelf NXDuplicateShelf fXUnlikeCatalogs ceUnlikeCatalogs cdaUnlikeCatalogs NXUnlikeCatalogs pCatalognumbered pEvidenceshelfnames fisinteger fLbox fLtake fLsame fisname faredifferentnames fCataloginit fCatalognumbered fCatalogisbook fCatalogeq fcheckbooks fEvidenceinit fEvidencecontains fEvidencewithshelves fEvidencewithmore fEvidencewithbooks fEvidenceshelfnames fEvidencegetitem fEvidenceeq fEvidenceadd fLkinds fLvalue fLbook fLrows fLmade fLtold fLask flaw : Addr} {uCatalogMOST xCatalogMOST uLETTERS uLONGEST_NAME uBOUND : Value} {rCatalognumbered rEvidenceshelfnames : List Value} (X : K.In h) (G : h.Ns mainGlobals mg) (hfa : mg "law" = some (.ref fa))
    {odisinteger anisinteger odLbox anLbox odLtake anLtake odLsame anLsame odisname anisname odaredifferentnames anaredifferentnames odCataloginit anCataloginit odCatalognumbered anCatalognumbered odCatalogisbook anCatalogisbook odCatalogeq anCatalogeq odcheckbooks ancheckbooks odEvidenceinit anEvidenceinit odEvidencecontains anEvidencecontains odEvidencewithshelves anEvidencewithshelves odEvidencewithmore anEvidencewithmore odEvidencewithbooks anEvidencewithbooks odEvidenceshelfnames anEvidenceshelfnames odEvidencegetitem anEvidencegetitem odEvidenceeq anEvidenceeq odEvidenceadd anEvidenceadd odLkinds anLkinds odLvalue anLvalue odLbook anLbook odLrows anLrows odLmade anLmade odLtold anLtold odLask anLask odlaw anlaw : Option Addr} {slisinteger slLbox slLtake slLsame slisname slaredifferentnames slCataloginit slCatalognumbered slCatalogisbook slCatalogeq slcheckbooks slEvidenceinit slEvidencecontains slEvidencewithshelves slEvidencewithmore slEvidencewithbooks slEvidenceshelfnames slEvidencegetitem slEvidenceeq slEvidenceadd slLkinds slLvalue slLbook slLrows slLmade slLtold slLask sllaw : Array (Option Value)} {ocisinteger kVisinteger dcisinteger pmisinteger cdisinteger ctisinteger ocLbox kVLbox dcLbox pmLbox cdLbox ctLbox ocLtake kVLtake dcLtake pmLtake cdLtake ctLtake ocLsame kVLsame dcLsame pmLsame cdLsame ctLsame ocisname kVisname dcisname pmisname cdisname ctisname ocaredifferentnames kVaredifferentnames dcaredifferentnames pmaredifferentnames cdaredifferentnames ctaredifferentnames ocCataloginit kVCataloginit dcCataloginit pmCataloginit cdCataloginit ctCataloginit ocCatalognumbered kVCatalognumbered dcCatalognumbered pmCatalognumbered cdCatalognumbered ctCatalognumbered ocCatalogisbook kVCatalogisbook dcCatalogisbook pmCatalogisbook cdCatalogisbook ctCatalogisbook ocCatalogeq kVCatalogeq dcCatalogeq pmCatalogeq cdCatalogeq ctCatalogeq occheckbooks kVcheckbooks dccheckbooks pmcheckbooks cdcheckbooks ctcheckbooks ocEvidenceinit kVEvidenceinit dcEvidenceinit pmEvidenceinit cdEvidenceinit ctEvidenceinit ocEvidencecontains kVEvidencecontains dcEvidencecontains pmEvidencecontains cdEvidencecontains ctEvidencecontains ocEvidencewithshelves kVEvidencewithshelves dcEvidencewithshelves pmEvidencewithshelves cdEvidencewithshelves ctEvidencewithshelves ocEvidencewithmore kVEvidencewithmore dcEvidencewithmore pmEvidencewithmore cdEvidencewithmore ctEvidencewithmore ocEvidencewithbooks kVEvidencewithbooks dcEvidencewithbooks pmEvidencewithbooks cdEvidencewithbooks ctEvidencewithbooks ocEvidenceshelfnames kVEvidenceshelfnames dcEvidenceshelfnames pmEvidenceshelfnames cdEvidenceshelfnames ctEvidenceshelfnames ocEvidencegetitem kVEvidencegetitem dcEvidencegetitem pmEvidencegetitem cdEvidencegetitem ctEvidencegetitem ocEvidenceeq kVEvidenceeq dcEvidenceeq pmEvidenceeq cdEvidenceeq ctEvidenceeq ocEvidenceadd kVEvidenceadd dcEvidenceadd pmEvidenceadd cdEvidenceadd ctEvidenceadd ocLkinds kVLkinds dcLkinds pmLkinds cdLkinds ctLkinds ocLvalue kVLvalue dcLvalue pmLvalue cdLvalue ctLvalue ocLbook kVLbook dcLbook pmLbook cdLbook ctLbook ocLrows kVLrows dcLrows pmLrows cdLrows ctLrows ocLmade kVLmade dcLmade pmLmade cdLmade ctLmade ocLtold kVLtold dcLtold pmLtold cdLtold ctLtold ocLask kVLask dcLask pmLask cdLask ctLask oclaw kVlaw dclaw pmlaw cdlaw ctlaw : Value}
    {nmXDuplicateShelf qXDuplicateShelf fileDuplicateShelf : Str} {bsXDuplicateShelf subXDuplicateShelf : List Value} {snXDuplicateShelf : List Str} {abXDuplicateShelf : Bool} {colXDuplicateShelf : Option Bool} {ddXDuplicateShelf odXDuplicateShelf anXDuplicateShelf cddDuplicateShelf cldDuplicateShelf : Option Addr} {x0DuplicateShelf x1DuplicateShelf x2DuplicateShelf x3DuplicateShelf x5DuplicateShelf : Option Value} {slXDuplicateShelf ccsDuplicateShelf cslDuplicateShelf : Array (Option Value)} {ocXDuplicateShelf kVXDuplicateShelf dcXDuplicateShelf pmXDuplicateShelf ctXDuplicateShelf cclDuplicateShelf clDuplicateShelf : Value} {cvsDuplicateShelf : Array Value} {tfDuplicateShelf : Tok}
    {nmXUnlikeCatalogs qXUnlikeCatalogs fileUnlikeCatalogs : Str} {bsXUnlikeCatalogs subXUnlikeCatalogs : List Value} {snXUnlikeCatalogs : List Str} {abXUnlikeCatalogs : Bool} {colXUnlikeCatalogs : Option Bool} {ddXUnlikeCatalogs odXUnlikeCatalogs anXUnlikeCatalogs cddUnlikeCatalogs cldUnlikeCatalogs : Option Addr} {x0UnlikeCatalogs x1UnlikeCatalogs x2UnlikeCatalogs x3UnlikeCatalogs x5UnlikeCatalogs : Option Value} {slXUnlikeCatalogs ccsUnlikeCatalogs cslUnlikeCatalogs : Array (Option Value)} {ocXUnlikeCatalogs kVXUnlikeCatalogs dcXUnlikeCatalogs pmXUnlikeCatalogs ctXUnlikeCatalogs cclUnlikeCatalogs clUnlikeCatalogs : Value} {cvsUnlikeCatalogs : Array Value} {tfUnlikeCatalogs : Tok}
    (aisinteger : PySem.W.nsIn K mainGlobals "is_integer" = some (some (.ref fisinteger)))
    (lisinteger : K.lookup fisinteger = some ⟨ocisinteger, odisinteger, .func (PySem.W.fnOf "is_integer" "is_integer" (defArgs sisinteger) (defBody sisinteger) (defScope sisinteger) .none kVisinteger dcisinteger pmisinteger anisinteger cdisinteger ctisinteger), slisinteger⟩)
    (cisinteger : PySem.W.codeIn K cdisinteger "is_integer" = true)
    (kisinteger : PySem.W.keepIn K (.ref fisinteger) = true)
    (aCatalog : PySem.W.nsIn K mainGlobals "Catalog" = some (some (.ref CCatalog)))
    (aEvidence : PySem.W.nsIn K mainGlobals "Evidence" = some (some (.ref CEvidence)))
    (aInvalidCatalog : PySem.W.nsIn K mainGlobals "InvalidCatalog" = some (some (.ref CInvalidCatalog)))
    (aInvalidBook : PySem.W.nsIn K mainGlobals "InvalidBook" = some (some (.ref CInvalidBook)))
    (aInvalidName : PySem.W.nsIn K mainGlobals "InvalidName" = some (some (.ref CInvalidName)))
    (aDuplicateShelf : PySem.W.nsIn K mainGlobals "DuplicateShelf" = some (some (.ref CDuplicateShelf)))
    (aUnknownShelf : PySem.W.nsIn K mainGlobals "UnknownShelf" = some (some (.ref CUnknownShelf)))
    (aUnlikeCatalogs : PySem.W.nsIn K mainGlobals "UnlikeCatalogs" = some (some (.ref CUnlikeCatalogs)))
    (aShelfError : PySem.W.nsIn K mainGlobals "ShelfError" = some (some (.ref CShelfError)))
    (xXDuplicateShelf : K.lookup CDuplicateShelf = some (excClassObj nmXDuplicateShelf qXDuplicateShelf CDuplicateShelf NXDuplicateShelf bsXDuplicateShelf [.ref CShelfError, .type "ValueError", .type "Exception", .type "BaseException", .type "object"] true snXDuplicateShelf subXDuplicateShelf abXDuplicateShelf colXDuplicateShelf ddXDuplicateShelf x0DuplicateShelf x1DuplicateShelf x2DuplicateShelf x3DuplicateShelf x5DuplicateShelf "ValueError.__new__"))
    (saXDuplicateShelf : PySem.W.findIn K (.ref CDuplicateShelf) "__setattr__" = some (some (.builtin "object.__setattr__")))
    (eXDuplicateShelf : PySem.W.subIn K (.ref CDuplicateShelf) (.type "BaseException") = some true)
    (tyXDuplicateShelf : PySem.W.typeIn K (.ref CDuplicateShelf) = some (.type "type"))
    (kXDuplicateShelf : PySem.W.keepIn K (.ref CDuplicateShelf) = true)
    (iXDuplicateShelf : PySem.W.findIn K (.ref CDuplicateShelf) "__init__" = some (some (.ref fXDuplicateShelf)))
    (tXDuplicateShelf : PySem.W.typeIn K (.ref fXDuplicateShelf) = some (.type "function"))
    (lXDuplicateShelf : K.lookup fXDuplicateShelf = some ⟨ocXDuplicateShelf, odXDuplicateShelf, .func (PySem.W.ksFn "__init__" "DuplicateShelf.__init__" (defArgs sDuplicateShelfinit) (defBody sDuplicateShelfinit) (defScope sDuplicateShelfinit) .none kVXDuplicateShelf dcXDuplicateShelf pmXDuplicateShelf anXDuplicateShelf (.ref cdaDuplicateShelf) ctXDuplicateShelf ceDuplicateShelf), slXDuplicateShelf⟩)
    (cXDuplicateShelf : PySem.W.codeIn K (.ref cdaDuplicateShelf) "DuplicateShelf.__init__" = true)
    (supXDuplicateShelf : PySem.W.ks_superIn K CDuplicateShelf CDuplicateShelf "__init__" = some (some (.builtin "ValueError.__init__")))
    (svXDuplicateShelf : PySem.W.subIn K (.ref CDuplicateShelf) (.type "ValueError") = some true)
    (slfXDuplicateShelf : PySem.W.mroIn K CDuplicateShelf (.ref CDuplicateShelf) = some true)
    (thX : PySem.W.nsIn K cStatics "thirdparty.any" = some none)
    (cdXDuplicateShelf : K.lookup cdaDuplicateShelf = some ⟨cclDuplicateShelf, cddDuplicateShelf, .fields cvsDuplicateShelf, ccsDuplicateShelf⟩)
    (cvXDuplicateShelf : cvsDuplicateShelf[2]? = some (.str fileDuplicateShelf tfDuplicateShelf))
    (fiXDuplicateShelf : ((l.prog.main.file : Str) == fileDuplicateShelf) = true)
    (ceXDuplicateShelf : K.lookup ceDuplicateShelf = some ⟨clDuplicateShelf, cldDuplicateShelf, .cell (some (.ref CDuplicateShelf)), cslDuplicateShelf⟩)
    (zsuper : PySem.W.nsIn K mainGlobals "super" = some none)
    (tpX : (l.prog.main.scope.names.lookup ("super" : Str)).isSome = false)
    (nbXDuplicateShelf : PySem.W.findIn K (.ref CDuplicateShelf) "name" = some none)
    (gaXDuplicateShelf : PySem.W.findIn K (.ref CDuplicateShelf) "__getattribute__" = some (some (.builtin "BaseException.__getattribute__")))
    (ggXDuplicateShelf : PySem.W.findIn K (.ref CDuplicateShelf) "__getattr__" = some none)
    (hdXDuplicateShelf : PySem.W.hasDictIn K CDuplicateShelf = true)
    (ssXDuplicateShelf : PySem.W.subIn K (.ref CDuplicateShelf) (.ref CDuplicateShelf) = some true)
    (haXDuplicateShelf : PySem.W.findIn K (.ref CDuplicateShelf) "__class__" = some (some (.builtin "object.__class__")))
    (hmXDuplicateShelf : PySem.W.mroIn K CDuplicateShelf (.type "object") = some true)
    (kXSDuplicateShelf : PySem.W.kitOne K (.ref CDuplicateShelf) (.ref CShelfError) = some true)
    (cn : PySem.W.specialIn K (.builtin "object.__class__") "__get__" = some (some (.builtin "getset_descriptor.__get__")))
    (ct : PySem.W.takesIn K (.builtin "object.__class__") = some true)
    (xXUnlikeCatalogs : K.lookup CUnlikeCatalogs = some (excClassObj nmXUnlikeCatalogs qXUnlikeCatalogs CUnlikeCatalogs NXUnlikeCatalogs bsXUnlikeCatalogs [.ref CShelfError, .type "ValueError", .type "Exception", .type "BaseException", .type "object"] true snXUnlikeCatalogs subXUnlikeCatalogs abXUnlikeCatalogs colXUnlikeCatalogs ddXUnlikeCatalogs x0UnlikeCatalogs x1UnlikeCatalogs x2UnlikeCatalogs x3UnlikeCatalogs x5UnlikeCatalogs "ValueError.__new__"))
    (saXUnlikeCatalogs : PySem.W.findIn K (.ref CUnlikeCatalogs) "__setattr__" = some (some (.builtin "object.__setattr__")))
    (eXUnlikeCatalogs : PySem.W.subIn K (.ref CUnlikeCatalogs) (.type "BaseException") = some true)
    (tyXUnlikeCatalogs : PySem.W.typeIn K (.ref CUnlikeCatalogs) = some (.type "type"))
    (kXUnlikeCatalogs : PySem.W.keepIn K (.ref CUnlikeCatalogs) = true)
    (iXUnlikeCatalogs : PySem.W.findIn K (.ref CUnlikeCatalogs) "__init__" = some (some (.ref fXUnlikeCatalogs)))
    (tXUnlikeCatalogs : PySem.W.typeIn K (.ref fXUnlikeCatalogs) = some (.type "function"))
    (lXUnlikeCatalogs : K.lookup fXUnlikeCatalogs = some ⟨ocXUnlikeCatalogs, odXUnlikeCatalogs, .func (PySem.W.ksFn "__init__" "UnlikeCatalogs.__init__" (defArgs sUnlikeCatalogsinit) (defBody sUnlikeCatalogsinit) (defScope sUnlikeCatalogsinit) .none kVXUnlikeCatalogs dcXUnlikeCatalogs pmXUnlikeCatalogs anXUnlikeCatalogs (.ref cdaUnlikeCatalogs) ctXUnlikeCatalogs ceUnlikeCatalogs), slXUnlikeCatalogs⟩)
    (cXUnlikeCatalogs : PySem.W.codeIn K (.ref cdaUnlikeCatalogs) "UnlikeCatalogs.__init__" = true)
    (supXUnlikeCatalogs : PySem.W.ks_superIn K CUnlikeCatalogs CUnlikeCatalogs "__init__" = some (some (.builtin "ValueError.__init__")))
    (svXUnlikeCatalogs : PySem.W.subIn K (.ref CUnlikeCatalogs) (.type "ValueError") = some true)
    (slfXUnlikeCatalogs : PySem.W.mroIn K CUnlikeCatalogs (.ref CUnlikeCatalogs) = some true)
    (cdXUnlikeCatalogs : K.lookup cdaUnlikeCatalogs = some ⟨cclUnlikeCatalogs, cddUnlikeCatalogs, .fields cvsUnlikeCatalogs, ccsUnlikeCatalogs⟩)
    (cvXUnlikeCatalogs : cvsUnlikeCatalogs[2]? = some (.str fileUnlikeCatalogs tfUnlikeCatalogs))
    (fiXUnlikeCatalogs : ((l.prog.main.file : Str) == fileUnlikeCatalogs) = true)
    (ceXUnlikeCatalogs : K.lookup ceUnlikeCatalogs = some ⟨clUnlikeCatalogs, cldUnlikeCatalogs, .cell (some (.ref CUnlikeCatalogs)), cslUnlikeCatalogs⟩)
    (gaXUnlikeCatalogs : PySem.W.findIn K (.ref CUnlikeCatalogs) "__getattribute__" = some (some (.builtin "BaseException.__getattribute__")))
    (ggXUnlikeCatalogs : PySem.W.findIn K (.ref CUnlikeCatalogs) "__getattr__" = some none)
    (hdXUnlikeCatalogs : PySem.W.hasDictIn K CUnlikeCatalogs = true)
    (ssXUnlikeCatalogs : PySem.W.subIn K (.ref CUnlikeCatalogs) (.ref CUnlikeCatalogs) = some true)
    (haXUnlikeCatalogs : PySem.W.findIn K (.ref CUnlikeCatalogs) "__class__" = some (some (.builtin "object.__class__")))
    (hmXUnlikeCatalogs : PySem.W.mroIn K CUnlikeCatalogs (.type "object") = some true)
    (kXSUnlikeCatalogs : PySem.W.kitOne K (.ref CUnlikeCatalogs) (.ref CShelfError) = some true)
    (sUD : PySem.W.subIn K (.ref CDuplicateShelf) (.ref CUnlikeCatalogs) = some false)
    (rdCatalog : PySem.W.readsIn K CCatalog (.type "type") = true)
    (gaCatalog : PySem.W.specialIn K (.ref CCatalog) "__getattribute__" = some (some (.builtin "type.__getattribute__")))
    (vCatalogMOST : PySem.W.findCls K (.ref CCatalog) (.type "type") "MOST" = some (.val uCatalogMOST))
    (wCatalogMOST : RelV (.int 8) uCatalogMOST)
    (czCatalogMOST : PySem.W.findIn K (.ref CCatalog) "MOST" = some (some xCatalogMOST))
    (cwCatalogMOST : RelV (.int 8) xCatalogMOST)
    (cgCatalogMOST : PySem.W.specialIn K xCatalogMOST "__get__" = some none)
    (nCatalognames : PySem.W.findIn K (.ref CCatalog) "names" = some none)
    (nEvidencecatalog : PySem.W.findIn K (.ref CEvidence) "catalog" = some none)
    (nEvidence_shelves : PySem.W.findIn K (.ref CEvidence) "_shelves" = some none)
    (neEC : CEvidence ≠ CCatalog)
    (aLbox : PySem.W.nsIn K mainGlobals "_law_box" = some (some (.ref fLbox)))
    (lLbox : K.lookup fLbox = some ⟨ocLbox, odLbox, .func (PySem.W.fnOf "_law_box" "_law_box" (defArgs sLbox) (defBody sLbox) (defScope sLbox) .none kVLbox dcLbox pmLbox anLbox cdLbox ctLbox), slLbox⟩)
    (cLbox : PySem.W.codeIn K cdLbox "_law_box" = true)
    (kLbox : PySem.W.keepIn K (.ref fLbox) = true)
    (aLtake : PySem.W.nsIn K mainGlobals "_law_take" = some (some (.ref fLtake)))
    (lLtake : K.lookup fLtake = some ⟨ocLtake, odLtake, .func (PySem.W.fnOf "_law_take" "_law_take" (defArgs sLtake) (defBody sLtake) (defScope sLtake) .none kVLtake dcLtake pmLtake anLtake cdLtake ctLtake), slLtake⟩)
    (cLtake : PySem.W.codeIn K cdLtake "_law_take" = true)
    (kLtake : PySem.W.keepIn K (.ref fLtake) = true)
    (aLsame : PySem.W.nsIn K mainGlobals "_law_same" = some (some (.ref fLsame)))
    (lLsame : K.lookup fLsame = some ⟨ocLsame, odLsame, .func (PySem.W.fnOf "_law_same" "_law_same" (defArgs sLsame) (defBody sLsame) (defScope sLsame) .none kVLsame dcLsame pmLsame anLsame cdLsame ctLsame), slLsame⟩)
    (cLsame : PySem.W.codeIn K cdLsame "_law_same" = true)
    (kLsame : PySem.W.keepIn K (.ref fLsame) = true)
    (aisname : PySem.W.nsIn K mainGlobals "is_name" = some (some (.ref fisname)))
    (lisname : K.lookup fisname = some ⟨ocisname, odisname, .func (PySem.W.fnOf "is_name" "is_name" (defArgs sisname) (defBody sisname) (defScope sisname) .none kVisname dcisname pmisname anisname cdisname ctisname), slisname⟩)
    (cisname : PySem.W.codeIn K cdisname "is_name" = true)
    (kisname : PySem.W.keepIn K (.ref fisname) = true)
    (aaredifferentnames : PySem.W.nsIn K mainGlobals "_are_different_names" = some (some (.ref faredifferentnames)))
    (laredifferentnames : K.lookup faredifferentnames = some ⟨ocaredifferentnames, odaredifferentnames, .func (PySem.W.fnOf "_are_different_names" "_are_different_names" (defArgs saredifferentnames) (defBody saredifferentnames) (defScope saredifferentnames) .none kVaredifferentnames dcaredifferentnames pmaredifferentnames anaredifferentnames cdaredifferentnames ctaredifferentnames), slaredifferentnames⟩)
    (caredifferentnames : PySem.W.codeIn K cdaredifferentnames "_are_different_names" = true)
    (karedifferentnames : PySem.W.keepIn K (.ref faredifferentnames) = true)
    (aCataloginit : PySem.W.findIn K (.ref CCatalog) "__init__" = some (some (.ref fCataloginit)))
    (iCataloginit : PySem.W.isFn K (.ref fCataloginit) = true)
    (lCataloginit : K.lookup fCataloginit = some ⟨ocCataloginit, odCataloginit, .func (PySem.W.fnOf "__init__" "Catalog.__init__" (defArgs sCataloginit) (defBody sCataloginit) (defScope sCataloginit) .none kVCataloginit dcCataloginit pmCataloginit anCataloginit cdCataloginit ctCataloginit), slCataloginit⟩)
    (cCataloginit : PySem.W.codeIn K cdCataloginit "Catalog.__init__" = true)
    (kCataloginit : PySem.W.keepIn K (.ref fCataloginit) = true)
    (pgCatalog : PySem.W.plainGet K CCatalog Str.empty = true)
    (hdCatalog : PySem.W.hasDictIn K CCatalog = true)
    (poCatalog : PySem.W.plainOver K CCatalog = true)
    (saCatalog : PySem.W.findIn K (.ref CCatalog) "__setattr__" = some (some (.builtin "object.__setattr__")))
    (mkCatalog : PySem.W.makesIn K CCatalog = true)
    (kCCatalog : PySem.W.keepIn K (.ref CCatalog) = true)
    (caCatalog : PySem.W.findIn K (.ref CCatalog) "__class__" = some (some (.builtin "object.__class__")))
    (cmCatalog : PySem.W.mroIn K CCatalog (.type "object") = some true)
    (seCatalog : PySem.W.kitOne K (.ref CCatalog) (.ref CCatalog) = some true)
    (sfCatalog : PySem.W.selfFirst K CCatalog = true)
    (cACatalognumbered : PySem.W.findCls K (.ref CCatalog) (.type "type") "numbered" = some (.get (.builtin "classmethod.__get__") (.ref pCatalognumbered) .none (.ref CCatalog)))
    (cRCatalognumbered : PySem.W.recIn K pCatalognumbered "classmethod" = some (.ref fCatalognumbered :: rCatalognumbered))
    (cFCatalognumbered : PySem.W.fnIn K fCatalognumbered = true)
    (lCatalognumbered : K.lookup fCatalognumbered = some ⟨ocCatalognumbered, odCatalognumbered, .func (PySem.W.fnOf "numbered" "Catalog.numbered" (defArgs sCatalognumbered) (defBody sCatalognumbered) (defScope sCatalognumbered) .none kVCatalognumbered dcCatalognumbered pmCatalognumbered anCatalognumbered cdCatalognumbered ctCatalognumbered), slCatalognumbered⟩)
    (cCatalognumbered : PySem.W.codeIn K cdCatalognumbered "Catalog.numbered" = true)
    (kCatalognumbered : PySem.W.keepIn K (.ref fCatalognumbered) = true)
    (aCatalogisbook : PySem.W.findIn K (.ref CCatalog) "is_book" = some (some (.ref fCatalogisbook)))
    (iCatalogisbook : PySem.W.isFn K (.ref fCatalogisbook) = true)
    (lCatalogisbook : K.lookup fCatalogisbook = some ⟨ocCatalogisbook, odCatalogisbook, .func (PySem.W.fnOf "is_book" "Catalog.is_book" (defArgs sCatalogisbook) (defBody sCatalogisbook) (defScope sCatalogisbook) .none kVCatalogisbook dcCatalogisbook pmCatalogisbook anCatalogisbook cdCatalogisbook ctCatalogisbook), slCatalogisbook⟩)
    (cCatalogisbook : PySem.W.codeIn K cdCatalogisbook "Catalog.is_book" = true)
    (kCatalogisbook : PySem.W.keepIn K (.ref fCatalogisbook) = true)
    (aCatalogeq : PySem.W.findIn K (.ref CCatalog) "__eq__" = some (some (.ref fCatalogeq)))
    (iCatalogeq : PySem.W.isFn K (.ref fCatalogeq) = true)
    (lCatalogeq : K.lookup fCatalogeq = some ⟨ocCatalogeq, odCatalogeq, .func (PySem.W.fnOf "__eq__" "Catalog.__eq__" (defArgs sCatalogeq) (defBody sCatalogeq) (defScope sCatalogeq) .none kVCatalogeq dcCatalogeq pmCatalogeq anCatalogeq cdCatalogeq ctCatalogeq), slCatalogeq⟩)
    (cCatalogeq : PySem.W.codeIn K cdCatalogeq "Catalog.__eq__" = true)
    (kCatalogeq : PySem.W.keepIn K (.ref fCatalogeq) = true)
    (neC1 : PySem.W.findIn K (.ref CCatalog) "__ne__" = some (some (.builtin "object.__ne__")))
    (neC2 : PySem.W.subIn K (.ref CCatalog) (.type "object") = some true)
    (acheckbooks : PySem.W.nsIn K mainGlobals "check_books" = some (some (.ref fcheckbooks)))
    (lcheckbooks : K.lookup fcheckbooks = some ⟨occheckbooks, odcheckbooks, .func (PySem.W.fnOf "check_books" "check_books" (defArgs scheckbooks) (defBody scheckbooks) (defScope scheckbooks) .none kVcheckbooks dccheckbooks pmcheckbooks ancheckbooks cdcheckbooks ctcheckbooks), slcheckbooks⟩)
    (ccheckbooks : PySem.W.codeIn K cdcheckbooks "check_books" = true)
    (kcheckbooks : PySem.W.keepIn K (.ref fcheckbooks) = true)
    (aEvidenceinit : PySem.W.findIn K (.ref CEvidence) "__init__" = some (some (.ref fEvidenceinit)))
    (iEvidenceinit : PySem.W.isFn K (.ref fEvidenceinit) = true)
    (lEvidenceinit : K.lookup fEvidenceinit = some ⟨ocEvidenceinit, odEvidenceinit, .func (PySem.W.fnOf "__init__" "Evidence.__init__" (defArgs sEvidenceinit) (defBody sEvidenceinit) (defScope sEvidenceinit) .none kVEvidenceinit dcEvidenceinit pmEvidenceinit anEvidenceinit cdEvidenceinit ctEvidenceinit), slEvidenceinit⟩)
    (cEvidenceinit : PySem.W.codeIn K cdEvidenceinit "Evidence.__init__" = true)
    (kEvidenceinit : PySem.W.keepIn K (.ref fEvidenceinit) = true)
    (pgEvidence : PySem.W.plainGet K CEvidence Str.empty = true)
    (hdEvidence : PySem.W.hasDictIn K CEvidence = true)
    (poEvidence : PySem.W.plainOver K CEvidence = true)
    (saEvidence : PySem.W.findIn K (.ref CEvidence) "__setattr__" = some (some (.builtin "object.__setattr__")))
    (mkEvidence : PySem.W.makesIn K CEvidence = true)
    (kCEvidence : PySem.W.keepIn K (.ref CEvidence) = true)
    (caEvidence : PySem.W.findIn K (.ref CEvidence) "__class__" = some (some (.builtin "object.__class__")))
    (cmEvidence : PySem.W.mroIn K CEvidence (.type "object") = some true)
    (seEvidence : PySem.W.kitOne K (.ref CEvidence) (.ref CEvidence) = some true)
    (sfEvidence : PySem.W.selfFirst K CEvidence = true)
    (rdEvidence : PySem.W.readsIn K CEvidence (.type "type") = true)
    (gaEvidence : PySem.W.specialIn K (.ref CEvidence) "__getattribute__" = some (some (.builtin "type.__getattribute__")))
    (aEvidencecontains : PySem.W.findIn K (.ref CEvidence) "__contains__" = some (some (.ref fEvidencecontains)))
    (iEvidencecontains : PySem.W.isFn K (.ref fEvidencecontains) = true)
    (lEvidencecontains : K.lookup fEvidencecontains = some ⟨ocEvidencecontains, odEvidencecontains, .func (PySem.W.fnOf "__contains__" "Evidence.__contains__" (defArgs sEvidencecontains) (defBody sEvidencecontains) (defScope sEvidencecontains) .none kVEvidencecontains dcEvidencecontains pmEvidencecontains anEvidencecontains cdEvidencecontains ctEvidencecontains), slEvidencecontains⟩)
    (cEvidencecontains : PySem.W.codeIn K cdEvidencecontains "Evidence.__contains__" = true)
    (kEvidencecontains : PySem.W.keepIn K (.ref fEvidencecontains) = true)
    (aEvidencewithshelves : PySem.W.findIn K (.ref CEvidence) "_with_shelves" = some (some (.ref fEvidencewithshelves)))
    (iEvidencewithshelves : PySem.W.isFn K (.ref fEvidencewithshelves) = true)
    (lEvidencewithshelves : K.lookup fEvidencewithshelves = some ⟨ocEvidencewithshelves, odEvidencewithshelves, .func (PySem.W.fnOf "_with_shelves" "Evidence._with_shelves" (defArgs sEvidencewithshelves) (defBody sEvidencewithshelves) (defScope sEvidencewithshelves) .none kVEvidencewithshelves dcEvidencewithshelves pmEvidencewithshelves anEvidencewithshelves cdEvidencewithshelves ctEvidencewithshelves), slEvidencewithshelves⟩)
    (cEvidencewithshelves : PySem.W.codeIn K cdEvidencewithshelves "Evidence._with_shelves" = true)
    (kEvidencewithshelves : PySem.W.keepIn K (.ref fEvidencewithshelves) = true)
    (aEvidencewithmore : PySem.W.findIn K (.ref CEvidence) "_with_more" = some (some (.ref fEvidencewithmore)))
    (iEvidencewithmore : PySem.W.isFn K (.ref fEvidencewithmore) = true)
    (lEvidencewithmore : K.lookup fEvidencewithmore = some ⟨ocEvidencewithmore, odEvidencewithmore, .func (PySem.W.fnOf "_with_more" "Evidence._with_more" (defArgs sEvidencewithmore) (defBody sEvidencewithmore) (defScope sEvidencewithmore) .none kVEvidencewithmore dcEvidencewithmore pmEvidencewithmore anEvidencewithmore cdEvidencewithmore ctEvidencewithmore), slEvidencewithmore⟩)
    (cEvidencewithmore : PySem.W.codeIn K cdEvidencewithmore "Evidence._with_more" = true)
    (kEvidencewithmore : PySem.W.keepIn K (.ref fEvidencewithmore) = true)
    (aEvidencewithbooks : PySem.W.findIn K (.ref CEvidence) "with_books" = some (some (.ref fEvidencewithbooks)))
    (iEvidencewithbooks : PySem.W.isFn K (.ref fEvidencewithbooks) = true)
    (lEvidencewithbooks : K.lookup fEvidencewithbooks = some ⟨ocEvidencewithbooks, odEvidencewithbooks, .func (PySem.W.fnOf "with_books" "Evidence.with_books" (defArgs sEvidencewithbooks) (defBody sEvidencewithbooks) (defScope sEvidencewithbooks) .none kVEvidencewithbooks dcEvidencewithbooks pmEvidencewithbooks anEvidencewithbooks cdEvidencewithbooks ctEvidencewithbooks), slEvidencewithbooks⟩)
    (cEvidencewithbooks : PySem.W.codeIn K cdEvidencewithbooks "Evidence.with_books" = true)
    (kEvidencewithbooks : PySem.W.keepIn K (.ref fEvidencewithbooks) = true)
    (pAEvidenceshelfnames : PySem.W.findIn K (.ref CEvidence) "shelf_names" = some (some (.ref pEvidenceshelfnames)))
    (pGEvidenceshelfnames : PySem.W.specialIn K (.ref pEvidenceshelfnames) "__get__" = some (some (.builtin "property.__get__")))
    (pTEvidenceshelfnames : PySem.W.takesIn K (.ref pEvidenceshelfnames) = some true)
    (pREvidenceshelfnames : PySem.W.recIn K pEvidenceshelfnames "property" = some (.ref fEvidenceshelfnames :: rEvidenceshelfnames))
    (lEvidenceshelfnames : K.lookup fEvidenceshelfnames = some ⟨ocEvidenceshelfnames, odEvidenceshelfnames, .func (PySem.W.fnOf "shelf_names" "Evidence.shelf_names" (defArgs sEvidenceshelfnames) (defBody sEvidenceshelfnames) (defScope sEvidenceshelfnames) .none kVEvidenceshelfnames dcEvidenceshelfnames pmEvidenceshelfnames anEvidenceshelfnames cdEvidenceshelfnames ctEvidenceshelfnames), slEvidenceshelfnames⟩)
    (cEvidenceshelfnames : PySem.W.codeIn K cdEvidenceshelfnames "Evidence.shelf_names" = true)
    (kEvidenceshelfnames : PySem.W.keepIn K (.ref fEvidenceshelfnames) = true)
    (aEvidencegetitem : PySem.W.findIn K (.ref CEvidence) "__getitem__" = some (some (.ref fEvidencegetitem)))
    (iEvidencegetitem : PySem.W.isFn K (.ref fEvidencegetitem) = true)
    (lEvidencegetitem : K.lookup fEvidencegetitem = some ⟨ocEvidencegetitem, odEvidencegetitem, .func (PySem.W.fnOf "__getitem__" "Evidence.__getitem__" (defArgs sEvidencegetitem) (defBody sEvidencegetitem) (defScope sEvidencegetitem) .none kVEvidencegetitem dcEvidencegetitem pmEvidencegetitem anEvidencegetitem cdEvidencegetitem ctEvidencegetitem), slEvidencegetitem⟩)
    (cEvidencegetitem : PySem.W.codeIn K cdEvidencegetitem "Evidence.__getitem__" = true)
    (kEvidencegetitem : PySem.W.keepIn K (.ref fEvidencegetitem) = true)
    (fiEvidencegetitem : PySem.W.fnIn K fEvidencegetitem = true)
    (aEvidenceeq : PySem.W.findIn K (.ref CEvidence) "__eq__" = some (some (.ref fEvidenceeq)))
    (iEvidenceeq : PySem.W.isFn K (.ref fEvidenceeq) = true)
    (lEvidenceeq : K.lookup fEvidenceeq = some ⟨ocEvidenceeq, odEvidenceeq, .func (PySem.W.fnOf "__eq__" "Evidence.__eq__" (defArgs sEvidenceeq) (defBody sEvidenceeq) (defScope sEvidenceeq) .none kVEvidenceeq dcEvidenceeq pmEvidenceeq anEvidenceeq cdEvidenceeq ctEvidenceeq), slEvidenceeq⟩)
    (cEvidenceeq : PySem.W.codeIn K cdEvidenceeq "Evidence.__eq__" = true)
    (kEvidenceeq : PySem.W.keepIn K (.ref fEvidenceeq) = true)
    (aEvidenceadd : PySem.W.findIn K (.ref CEvidence) "__add__" = some (some (.ref fEvidenceadd)))
    (iEvidenceadd : PySem.W.isFn K (.ref fEvidenceadd) = true)
    (lEvidenceadd : K.lookup fEvidenceadd = some ⟨ocEvidenceadd, odEvidenceadd, .func (PySem.W.fnOf "__add__" "Evidence.__add__" (defArgs sEvidenceadd) (defBody sEvidenceadd) (defScope sEvidenceadd) .none kVEvidenceadd dcEvidenceadd pmEvidenceadd anEvidenceadd cdEvidenceadd ctEvidenceadd), slEvidenceadd⟩)
    (cEvidenceadd : PySem.W.codeIn K cdEvidenceadd "Evidence.__add__" = true)
    (kEvidenceadd : PySem.W.keepIn K (.ref fEvidenceadd) = true)
    (aLkinds : PySem.W.nsIn K mainGlobals "_law_kinds" = some (some (.ref fLkinds)))
    (lLkinds : K.lookup fLkinds = some ⟨ocLkinds, odLkinds, .func (PySem.W.fnOf "_law_kinds" "_law_kinds" (defArgs sLkinds) (defBody sLkinds) (defScope sLkinds) .none kVLkinds dcLkinds pmLkinds anLkinds cdLkinds ctLkinds), slLkinds⟩)
    (cLkinds : PySem.W.codeIn K cdLkinds "_law_kinds" = true)
    (kLkinds : PySem.W.keepIn K (.ref fLkinds) = true)
    (aLvalue : PySem.W.nsIn K mainGlobals "_law_value" = some (some (.ref fLvalue)))
    (lLvalue : K.lookup fLvalue = some ⟨ocLvalue, odLvalue, .func (PySem.W.fnOf "_law_value" "_law_value" (defArgs sLvalue) (defBody sLvalue) (defScope sLvalue) .none kVLvalue dcLvalue pmLvalue anLvalue cdLvalue ctLvalue), slLvalue⟩)
    (cLvalue : PySem.W.codeIn K cdLvalue "_law_value" = true)
    (kLvalue : PySem.W.keepIn K (.ref fLvalue) = true)
    (aLbook : PySem.W.nsIn K mainGlobals "_law_book" = some (some (.ref fLbook)))
    (lLbook : K.lookup fLbook = some ⟨ocLbook, odLbook, .func (PySem.W.fnOf "_law_book" "_law_book" (defArgs sLbook) (defBody sLbook) (defScope sLbook) .none kVLbook dcLbook pmLbook anLbook cdLbook ctLbook), slLbook⟩)
    (cLbook : PySem.W.codeIn K cdLbook "_law_book" = true)
    (kLbook : PySem.W.keepIn K (.ref fLbook) = true)
    (aLrows : PySem.W.nsIn K mainGlobals "_law_rows" = some (some (.ref fLrows)))
    (lLrows : K.lookup fLrows = some ⟨ocLrows, odLrows, .func (PySem.W.fnOf "_law_rows" "_law_rows" (defArgs sLrows) (defBody sLrows) (defScope sLrows) .none kVLrows dcLrows pmLrows anLrows cdLrows ctLrows), slLrows⟩)
    (cLrows : PySem.W.codeIn K cdLrows "_law_rows" = true)
    (kLrows : PySem.W.keepIn K (.ref fLrows) = true)
    (aLmade : PySem.W.nsIn K mainGlobals "_law_made" = some (some (.ref fLmade)))
    (lLmade : K.lookup fLmade = some ⟨ocLmade, odLmade, .func (PySem.W.fnOf "_law_made" "_law_made" (defArgs sLmade) (defBody sLmade) (defScope sLmade) .none kVLmade dcLmade pmLmade anLmade cdLmade ctLmade), slLmade⟩)
    (cLmade : PySem.W.codeIn K cdLmade "_law_made" = true)
    (kLmade : PySem.W.keepIn K (.ref fLmade) = true)
    (aLtold : PySem.W.nsIn K mainGlobals "_law_told" = some (some (.ref fLtold)))
    (lLtold : K.lookup fLtold = some ⟨ocLtold, odLtold, .func (PySem.W.fnOf "_law_told" "_law_told" (defArgs sLtold) (defBody sLtold) (defScope sLtold) .none kVLtold dcLtold pmLtold anLtold cdLtold ctLtold), slLtold⟩)
    (cLtold : PySem.W.codeIn K cdLtold "_law_told" = true)
    (kLtold : PySem.W.keepIn K (.ref fLtold) = true)
    (aLask : PySem.W.nsIn K mainGlobals "_law_ask" = some (some (.ref fLask)))
    (lLask : K.lookup fLask = some ⟨ocLask, odLask, .func (PySem.W.fnOf "_law_ask" "_law_ask" (defArgs sLask) (defBody sLask) (defScope sLask) .none kVLask dcLask pmLask anLask cdLask ctLask), slLask⟩)
    (cLask : PySem.W.codeIn K cdLask "_law_ask" = true)
    (kLask : PySem.W.keepIn K (.ref fLask) = true)
    (alaw : PySem.W.nsIn K mainGlobals "law" = some (some (.ref flaw)))
    (llaw : K.lookup flaw = some ⟨oclaw, odlaw, .func (PySem.W.fnOf "law" "law" (defArgs slaw) (defBody slaw) (defScope slaw) .none kVlaw dclaw pmlaw anlaw cdlaw ctlaw), sllaw⟩)
    (claw : PySem.W.codeIn K cdlaw "law" = true)
    (klaw : PySem.W.keepIn K (.ref flaw) = true)
    (mLETTERS : PySem.W.nsIn K mainGlobals "LETTERS" = some (some uLETTERS))
    (rLETTERS : RelV ((.str "abcdefghijklmnopqrstuvwxyz")) uLETTERS)
    (mLONGEST_NAME : PySem.W.nsIn K mainGlobals "LONGEST_NAME" = some (some uLONGEST_NAME))
    (rLONGEST_NAME : RelV ((.int 12)) uLONGEST_NAME)
    (mBOUND : PySem.W.nsIn K mainGlobals "BOUND" = some (some uBOUND))
    (rBOUND : RelV ((.int 1000000000000)) uBOUND)
    (zlen : PySem.W.nsIn K mainGlobals "len" = some none)
    (zlist : PySem.W.nsIn K mainGlobals "list" = some none)
    (zint : PySem.W.nsIn K mainGlobals "int" = some none)
    (zisinstance : PySem.W.nsIn K mainGlobals "isinstance" = some none)
    (zbool : PySem.W.nsIn K mainGlobals "bool" = some none)
    (zstr : PySem.W.nsIn K mainGlobals "str" = some none)
    (ztuple : PySem.W.nsIn K mainGlobals "tuple" = some none)
    (zrange : PySem.W.nsIn K mainGlobals "range" = some none)
    (zall : PySem.W.nsIn K mainGlobals "all" = some none)
    (zset : PySem.W.nsIn K mainGlobals "set" = some none) :
    ∃ fd : FuncData, (∀ (s : Shared) (v : Value), BindsTo s fd ⟨[v], []⟩ [("_law_script", v)]) ∧ ∀ base : Heap, K.In base → base.Ns mainGlobals mg → FnOk l.prog w K mg base CX0 10 fa fd ["_law_script"] (spLawD K) := by
  have e := hfa.symm.trans (PySem.W.mg_of X G alaw)
  cases e
  let u : Cs := ⟨uLETTERS, uLONGEST_NAME, uBOUND, CEvidence, CCatalog, CInvalidCatalog, CInvalidBook, CInvalidName, CDuplicateShelf, CUnknownShelf, CUnlikeCatalogs, CShelfError, ()⟩
  have T : Tx mg u := ⟨PySem.W.mg_none_of X G zlen, PySem.W.mg_none_of X G zlist, PySem.W.mg_none_of X G zint, PySem.W.mg_none_of X G zisinstance, PySem.W.mg_none_of X G zbool, PySem.W.mg_none_of X G zstr, PySem.W.mg_none_of X G ztuple, PySem.W.mg_none_of X G zrange, PySem.W.mg_none_of X G zall, PySem.W.mg_none_of X G zset, PySem.W.mg_of X G mLETTERS, rLETTERS, PySem.W.mg_of X G mLONGEST_NAME, rLONGEST_NAME, PySem.W.mg_of X G mBOUND, rBOUND, PySem.W.mg_of X G aEvidence, PySem.W.mg_of X G aCatalog, PySem.W.mg_of X G aInvalidCatalog, PySem.W.mg_of X G aInvalidBook, PySem.W.mg_of X G aInvalidName, PySem.W.mg_of X G aDuplicateShelf, PySem.W.mg_of X G aUnknownShelf, PySem.W.mg_of X G aUnlikeCatalogs, PySem.W.mg_of X G aShelfError⟩
  have Fisinteger := fun_mk (st := sisinteger) lisinteger cisinteger kisinteger
  have bisinteger := Fisinteger.binds (ps := ["value", "least", "most"]) fun _ _ _ _ _ _ us hl => match us, hl with | [_, _, _], _ => rfl
  have misinteger := PySem.W.mg_of X G aisinteger
  have OXDuplicateShelf : OexC K CDuplicateShelf := excC_of xXDuplicateShelf saXDuplicateShelf eXDuplicateShelf tyXDuplicateShelf kXDuplicateShelf
  have SXDuplicateShelf : SupC l.prog K mg CDuplicateShelf ceDuplicateShelf cdaDuplicateShelf := ⟨OXDuplicateShelf, supXDuplicateShelf, svXDuplicateShelf, slfXDuplicateShelf, thX, ⟨cclDuplicateShelf, cddDuplicateShelf, cvsDuplicateShelf, ccsDuplicateShelf, fileDuplicateShelf, tfDuplicateShelf, cdXDuplicateShelf, cvXDuplicateShelf, fiXDuplicateShelf⟩, ⟨clDuplicateShelf, cldDuplicateShelf, cslDuplicateShelf, ceXDuplicateShelf⟩, PySem.W.mg_none_of X G zsuper, tpX⟩
  have xcDuplicateShelf : ExcC K CDuplicateShelf := ⟨gaXDuplicateShelf, ggXDuplicateShelf, eXDuplicateShelf, hdXDuplicateShelf, haXDuplicateShelf, cn, ct, hmXDuplicateShelf⟩
  have OXUnlikeCatalogs : OexC K CUnlikeCatalogs := excC_of xXUnlikeCatalogs saXUnlikeCatalogs eXUnlikeCatalogs tyXUnlikeCatalogs kXUnlikeCatalogs
  have SXUnlikeCatalogs : SupC l.prog K mg CUnlikeCatalogs ceUnlikeCatalogs cdaUnlikeCatalogs := ⟨OXUnlikeCatalogs, supXUnlikeCatalogs, svXUnlikeCatalogs, slfXUnlikeCatalogs, thX, ⟨cclUnlikeCatalogs, cddUnlikeCatalogs, cvsUnlikeCatalogs, ccsUnlikeCatalogs, fileUnlikeCatalogs, tfUnlikeCatalogs, cdXUnlikeCatalogs, cvXUnlikeCatalogs, fiXUnlikeCatalogs⟩, ⟨clUnlikeCatalogs, cldUnlikeCatalogs, cslUnlikeCatalogs, ceXUnlikeCatalogs⟩, PySem.W.mg_none_of X G zsuper, tpX⟩
  have xcUnlikeCatalogs : ExcC K CUnlikeCatalogs := ⟨gaXUnlikeCatalogs, ggXUnlikeCatalogs, eXUnlikeCatalogs, hdXUnlikeCatalogs, haXUnlikeCatalogs, cn, ct, hmXUnlikeCatalogs⟩
  have nUD := PySem.W.exm_ref eXUnlikeCatalogs hdXUnlikeCatalogs tyXUnlikeCatalogs sUD
  have rdCCatalog : ClX.CRead K CCatalog (.type "type") := ⟨rdCatalog, gaCatalog⟩
  have cvCatalogMOST : ClX.CVal K CCatalog (.type "type") "MOST" (.int 8) uCatalogMOST := ⟨vCatalogMOST, wCatalogMOST⟩
  have conCatalogMOST : Con K CCatalog "MOST" (.int 8) xCatalogMOST := ⟨czCatalogMOST, cwCatalogMOST, cgCatalogMOST, by decide⟩
  have FLbox := fun_mk (st := sLbox) lLbox cLbox kLbox
  have bLbox := FLbox.binds (ps := ["_law_script"]) fun _ _ _ _ _ _ us hl => match us, hl with | [_], _ => rfl
  have mLbox := PySem.W.mg_of X G aLbox
  have FLtake := fun_mk (st := sLtake) lLtake cLtake kLtake
  have bLtake := FLtake.binds (ps := ["_law_box_here", "_law_size"]) fun _ _ _ _ _ _ us hl => match us, hl with | [_, _], _ => rfl
  have mLtake := PySem.W.mg_of X G aLtake
  have FLsame := fun_mk (st := sLsame) lLsame cLsame kLsame
  have bLsame := FLsame.binds (ps := ["_law_actual", "_law_due"]) fun _ _ _ _ _ _ us hl => match us, hl with | [_, _], _ => rfl
  have mLsame := PySem.W.mg_of X G aLsame
  have Fisname := fun_mk (st := sisname) lisname cisname kisname
  have bisname := Fisname.binds (ps := ["value"]) fun _ _ _ _ _ _ us hl => match us, hl with | [_], _ => rfl
  have misname := PySem.W.mg_of X G aisname
  have Faredifferentnames := fun_mk (st := saredifferentnames) laredifferentnames caredifferentnames karedifferentnames
  have baredifferentnames := Faredifferentnames.binds (ps := ["values"]) fun _ _ _ _ _ _ us hl => match us, hl with | [_], _ => rfl
  have maredifferentnames := PySem.W.mg_of X G aaredifferentnames
  have FCataloginit := fun_mk (st := sCataloginit) lCataloginit cCataloginit kCataloginit
  have FCatalog : ClF K CCatalog fCataloginit := ⟨⟨pgCatalog, hdCatalog, poCatalog, saCatalog⟩, ⟨caCatalog, cn, ct, cmCatalog, seCatalog⟩, ⟨mkCatalog, aCataloginit, iCataloginit, kCCatalog⟩, rdCCatalog, sfCatalog⟩
  have FCatalognumbered := fun_mk (st := sCatalognumbered) lCatalognumbered cCatalognumbered kCatalognumbered
  have bCatalognumbered := FCatalognumbered.binds (ps := ["cls", "count"]) fun _ _ _ _ _ _ us hl => match us, hl with | [_, _], _ => rfl
  have cmCatalognumbered : ClX.CMet K CCatalog (.type "type") "numbered" pCatalognumbered fCatalognumbered := ⟨cACatalognumbered, ⟨rCatalognumbered, cRCatalognumbered⟩, cFCatalognumbered⟩
  have FCatalogisbook := fun_mk (st := sCatalogisbook) lCatalogisbook cCatalogisbook kCatalogisbook
  have bCatalogisbook := FCatalogisbook.binds (ps := ["self", "value"]) fun _ _ _ _ _ _ us hl => match us, hl with | [_, _], _ => rfl
  have FCatalogeq := fun_mk (st := sCatalogeq) lCatalogeq cCatalogeq kCatalogeq
  have bCatalogeq := FCatalogeq.binds (ps := ["self", "other"]) fun _ _ _ _ _ _ us hl => match us, hl with | [_, _], _ => rfl
  have NC : NeC K CCatalog := ⟨neC1, neC2⟩
  have Fcheckbooks := fun_mk (st := scheckbooks) lcheckbooks ccheckbooks kcheckbooks
  have bcheckbooks := Fcheckbooks.binds (ps := ["books", "catalog"]) fun _ _ _ _ _ _ us hl => match us, hl with | [_, _], _ => rfl
  have mcheckbooks := PySem.W.mg_of X G acheckbooks
  have FEvidenceinit := fun_mk (st := sEvidenceinit) lEvidenceinit cEvidenceinit kEvidenceinit
  have bEvidenceinit := FEvidenceinit.binds (ps := ["self", "catalog"]) fun _ _ _ _ _ _ us hl => match us, hl with | [_, _], _ => rfl
  have rdCEvidence : ClX.CRead K CEvidence (.type "type") := ⟨rdEvidence, gaEvidence⟩
  have FEvidence : ClF K CEvidence fEvidenceinit := ⟨⟨pgEvidence, hdEvidence, poEvidence, saEvidence⟩, ⟨caEvidence, cn, ct, cmEvidence, seEvidence⟩, ⟨mkEvidence, aEvidenceinit, iEvidenceinit, kCEvidence⟩, rdCEvidence, sfEvidence⟩
  have FEvidencecontains := fun_mk (st := sEvidencecontains) lEvidencecontains cEvidencecontains kEvidencecontains
  have bEvidencecontains := FEvidencecontains.binds (ps := ["self", "name"]) fun _ _ _ _ _ _ us hl => match us, hl with | [_, _], _ => rfl
  have FEvidencewithshelves := fun_mk (st := sEvidencewithshelves) lEvidencewithshelves cEvidencewithshelves kEvidencewithshelves
  have bEvidencewithshelves := FEvidencewithshelves.binds (ps := ["self", "shelves"]) fun _ _ _ _ _ _ us hl => match us, hl with | [_, _], _ => rfl
  have FEvidencewithmore := fun_mk (st := sEvidencewithmore) lEvidencewithmore cEvidencewithmore kEvidencewithmore
  have bEvidencewithmore := FEvidencewithmore.binds (ps := ["self", "name", "books"]) fun _ _ _ _ _ _ us hl => match us, hl with | [_, _, _], _ => rfl
  have FEvidencewithbooks := fun_mk (st := sEvidencewithbooks) lEvidencewithbooks cEvidencewithbooks kEvidencewithbooks
  have bEvidencewithbooks := FEvidencewithbooks.binds (ps := ["self", "name", "books"]) fun _ _ _ _ _ _ us hl => match us, hl with | [_, _, _], _ => rfl
  have FEvidenceshelfnames := fun_mk (st := sEvidenceshelfnames) lEvidenceshelfnames cEvidenceshelfnames kEvidenceshelfnames
  have bEvidenceshelfnames := FEvidenceshelfnames.binds (ps := ["self"]) fun _ _ _ _ _ _ us hl => match us, hl with | [_], _ => rfl
  have PEvidenceshelfnames : PropOf K CEvidence "shelf_names" pEvidenceshelfnames fEvidenceshelfnames := ⟨pAEvidenceshelfnames, pGEvidenceshelfnames, pTEvidenceshelfnames, ⟨rEvidenceshelfnames, pREvidenceshelfnames⟩⟩
  have FEvidencegetitem := fun_mk (st := sEvidencegetitem) lEvidencegetitem cEvidencegetitem kEvidencegetitem
  have bEvidencegetitem := FEvidencegetitem.binds (ps := ["self", "name"]) fun _ _ _ _ _ _ us hl => match us, hl with | [_, _], _ => rfl
  have FEvidenceeq := fun_mk (st := sEvidenceeq) lEvidenceeq cEvidenceeq kEvidenceeq
  have bEvidenceeq := FEvidenceeq.binds (ps := ["self", "other"]) fun _ _ _ _ _ _ us hl => match us, hl with | [_, _], _ => rfl
  have FEvidenceadd := fun_mk (st := sEvidenceadd) lEvidenceadd cEvidenceadd kEvidenceadd
  have bEvidenceadd := FEvidenceadd.binds (ps := ["self", "other"]) fun _ _ _ _ _ _ us hl => match us, hl with | [_, _], _ => rfl
  have FLkinds := fun_mk (st := sLkinds) lLkinds cLkinds kLkinds
  have bLkinds := FLkinds.binds (ps := ["_law_box_here", "_law_count"]) fun _ _ _ _ _ _ us hl => match us, hl with | [_, _], _ => rfl
  have mLkinds := PySem.W.mg_of X G aLkinds
  have FLvalue := fun_mk (st := sLvalue) lLvalue cLvalue kLvalue
  have bLvalue := FLvalue.binds (ps := ["_law_kind", "_law_digit"]) fun _ _ _ _ _ _ us hl => match us, hl with | [_, _], _ => rfl
  have mLvalue := PySem.W.mg_of X G aLvalue
  have FLbook := fun_mk (st := sLbook) lLbook cLbook kLbook
  have bLbook := FLbook.binds (ps := ["_law_box_here", "_law_kinds_here"]) fun _ _ _ _ _ _ us hl => match us, hl with | [_, _], _ => rfl
  have mLbook := PySem.W.mg_of X G aLbook
  have FLrows := fun_mk (st := sLrows) lLrows cLrows kLrows
  have bLrows := FLrows.binds (ps := ["_law_box_here", "_law_kinds_here"]) fun _ _ _ _ _ _ us hl => match us, hl with | [_, _], _ => rfl
  have mLrows := PySem.W.mg_of X G aLrows
  have FLmade := fun_mk (st := sLmade) lLmade cLmade kLmade
  have bLmade := FLmade.binds (ps := ["_law_catalog", "_law_rows_here"]) fun _ _ _ _ _ _ us hl => match us, hl with | [_, _], _ => rfl
  have mLmade := PySem.W.mg_of X G aLmade
  have FLtold := fun_mk (st := sLtold) lLtold cLtold kLtold
  have bLtold := FLtold.binds (ps := ["_law_evidence"]) fun _ _ _ _ _ _ us hl => match us, hl with | [_], _ => rfl
  have mLtold := PySem.W.mg_of X G aLtold
  have FLask := fun_mk (st := sLask) lLask cLask kLask
  have bLask := FLask.binds (ps := ["_law_one", "_law_other"]) fun _ _ _ _ _ _ us hl => match us, hl with | [_, _], _ => rfl
  have mLask := PySem.W.mg_of X G aLask
  have Flaw := fun_mk (st := slaw) llaw claw klaw
  refine ⟨PySem.W.fnOf "law" "law" (defArgs slaw) (defBody slaw) (defScope slaw) .none kVlaw dclaw pmlaw anlaw cdlaw ctlaw, fun s v => .of_eq rfl, fun base _ _ => ?_⟩
  have cisinteger := cal_of (P := l.prog) (w := w) (base := base) Fisinteger (ok_integer (u := u) Fisinteger T) misinteger bisinteger
  have FXDuplicateShelf := ok_own1 (P := l.prog) (w := w) (base := base) (prm := "name") (fld := "name") (st := sDuplicateShelfinit) rfl lXDuplicateShelf cXDuplicateShelf (nscope_by (by decide +kernel)) rfl rfl rfl SXDuplicateShelf rfl nbXDuplicateShelf (by decide) (by decide)
  have ODuplicateShelf : OwnX l.prog w K mg base "DuplicateShelf" CDuplicateShelf "name" := ⟨OXDuplicateShelf, ⟨fXDuplicateShelf, _, ["self", "name"], FXDuplicateShelf, iXDuplicateShelf, tXDuplicateShelf, .all fun us hl => match us, hl with | [_, _], _ => rfl⟩, PySem.W.mg_of X G aDuplicateShelf, nbXDuplicateShelf, ⟨gaXDuplicateShelf, ggXDuplicateShelf, eXDuplicateShelf, hdXDuplicateShelf⟩, PySem.W.exm_ref eXDuplicateShelf hdXDuplicateShelf tyXDuplicateShelf ssXDuplicateShelf⟩
  have FXUnlikeCatalogs := ok_own0 (P := l.prog) (w := w) (base := base) (st := sUnlikeCatalogsinit) rfl lXUnlikeCatalogs cXUnlikeCatalogs (nscope_by (by decide +kernel)) rfl rfl rfl SXUnlikeCatalogs rfl
  have OUnlikeCatalogs : OwnX0 l.prog w K mg base "UnlikeCatalogs" CUnlikeCatalogs := ⟨OXUnlikeCatalogs, ⟨fXUnlikeCatalogs, _, ["self"], FXUnlikeCatalogs, iXUnlikeCatalogs, tXUnlikeCatalogs, .all fun us hl => match us, hl with | [_], _ => rfl⟩, PySem.W.mg_of X G aUnlikeCatalogs, PySem.W.exm_ref eXUnlikeCatalogs hdXUnlikeCatalogs tyXUnlikeCatalogs ssXUnlikeCatalogs⟩
  have hciE : ∀ a F, (ciC u).I u.Evidence a F := fun _ _ e => absurd e neEC
  have cLbox := cal_of (P := l.prog) (w := w) (base := base) FLbox (ok_box FLbox T) mLbox bLbox
  have cLtake := cal_of (P := l.prog) (w := w) (base := base) FLtake (ok_takeD (ci := ciC u) FLtake T) mLtake bLtake
  have cLsame := cal_sameD (P := l.prog) (w := w) (base := base) (ci := ciC u) FLsame T mLsame bLsame 6
  have cisname := cal_of (P := l.prog) (w := w) (base := base) Fisname (ok_name (u := u) Fisname T) misname bisname
  have caredifferentnames := cal_of (P := l.prog) (w := w) (base := base) Faredifferentnames (ok_diff (u := u) Faredifferentnames T cisname) maredifferentnames baredifferentnames
  have GCatalog := ok_initC (u := u) FCataloginit T FCatalog nCatalognames conCatalogMOST caredifferentnames (StX.bind_star1 (B := fun z => bindArgs (PySem.W.fnOf "__init__" "Catalog.__init__" (defArgs sCataloginit) (defBody sCataloginit) (defScope sCataloginit) .none kVCataloginit dcCataloginit pmCataloginit anCataloginit cdCataloginit ctCataloginit) ⟨z, []⟩) (p1 := "self") (pv := "names") (fun _ => rfl) (fun _ _ _ => rfl))
  have GCatalognumbered := ((ok_numbered (P := l.prog) (w := w) (base := base) (u := u) FCatalognumbered T FCatalog nCatalognames rdCCatalog cvCatalogMOST GCatalog cisinteger).raw bCatalognumbered .nil).imp (fun vs H Q E h => by rw [List.append_nil]; exact h)
  have MCatalogisbook : Met l.prog w K mg base _ CCatalog "is_book" _ [] := ⟨fCatalogisbook, _, _, [], FCatalog.cl, ⟨aCatalogisbook, iCatalogisbook, kCatalogisbook⟩, ok_isbook (P := l.prog) (w := w) (base := base) (u := u) FCatalogisbook T FCatalog nCatalognames cisinteger, bCatalogisbook, .nil⟩
  have MCatalogeq : Met l.prog w K mg base _ CCatalog "__eq__" _ [] := ⟨fCatalogeq, _, _, [], FCatalog.cl, ⟨aCatalogeq, iCatalogeq, kCatalogeq⟩, ok_eqCat (P := l.prog) (w := w) (base := base) (u := u) FCatalogeq T FCatalog nCatalognames, bCatalogeq, .nil⟩
  have ccheckbooks := cal_of (P := l.prog) (w := w) (base := base) Fcheckbooks (ok_check (u := u) Fcheckbooks T MCatalogisbook) mcheckbooks bcheckbooks
  have GEvidence := ((ok_evI (P := l.prog) (w := w) (base := base) (u := u) FEvidenceinit T FEvidence nEvidencecatalog nEvidence_shelves).raw bEvidenceinit .nil).imp (fun vs H Q E h => by rw [List.append_nil]; exact h)
  have MEvidencecontains : Met l.prog w K mg base _ CEvidence "__contains__" _ [] := ⟨fEvidencecontains, _, _, [], FEvidence.cl, ⟨aEvidencecontains, iEvidencecontains, kEvidencecontains⟩, ok_hasE (P := l.prog) (w := w) (base := base) (u := u) FEvidencecontains T FEvidence nEvidencecatalog nEvidence_shelves, bEvidencecontains, .nil⟩
  have MEvidencewithshelves : Met l.prog w K mg base _ CEvidence "_with_shelves" _ [] := ⟨fEvidencewithshelves, _, _, [], FEvidence.cl, ⟨aEvidencewithshelves, iEvidencewithshelves, kEvidencewithshelves⟩, ok_withS (P := l.prog) (w := w) (base := base) (u := u) FEvidencewithshelves T hciE GEvidence FEvidence nEvidencecatalog nEvidence_shelves, bEvidencewithshelves, .nil⟩
  have MEvidencewithmore : Met l.prog w K mg base _ CEvidence "_with_more" _ [] := ⟨fEvidencewithmore, _, _, [], FEvidence.cl, ⟨aEvidencewithmore, iEvidencewithmore, kEvidencewithmore⟩, ok_withM (P := l.prog) (w := w) (base := base) (u := u) FEvidencewithmore T FEvidence nEvidencecatalog nEvidence_shelves MEvidencecontains ccheckbooks MEvidencewithshelves, bEvidencewithmore, .nil⟩
  have MEvidencewithbooks : Met l.prog w K mg base _ CEvidence "with_books" _ [] := ⟨fEvidencewithbooks, _, _, [], FEvidence.cl, ⟨aEvidencewithbooks, iEvidencewithbooks, kEvidencewithbooks⟩, ok_withB (P := l.prog) (w := w) (base := base) (u := u) FEvidencewithbooks T cisname MEvidencewithmore, bEvidencewithbooks, .nil⟩
  have OEvidenceshelfnames := ok_namesE (P := l.prog) (w := w) (base := base) (u := u) FEvidenceshelfnames T FEvidence nEvidencecatalog nEvidence_shelves
  have MGE : MetG l.prog w K mg base 2 CEvidence (lift (ciC u) (dGetE CEvidence CCatalog)) := ⟨fEvidencegetitem, _, _, [], ⟨aEvidencegetitem, iEvidencegetitem, kEvidencegetitem⟩, ok_getE (P := l.prog) (w := w) (base := base) (u := u) FEvidencegetitem T FEvidence nEvidencecatalog nEvidence_shelves MEvidencecontains, bEvidencegetitem, .nil, fiEvidencegetitem⟩
  have MEvidenceeq : Met l.prog w K mg base _ CEvidence "__eq__" _ [] := ⟨fEvidenceeq, _, _, [], FEvidence.cl, ⟨aEvidenceeq, iEvidenceeq, kEvidenceeq⟩, ok_eqE (P := l.prog) (w := w) (base := base) (u := u) FEvidenceeq T FEvidence nEvidencecatalog nEvidence_shelves MCatalogeq PEvidenceshelfnames OEvidenceshelfnames bEvidenceshelfnames, bEvidenceeq, .nil⟩
  have FA := ok_addE (P := l.prog) (w := w) (base := base) (u := u) FEvidenceadd T FEvidence nEvidencecatalog nEvidence_shelves MEvidencecontains MCatalogeq PEvidenceshelfnames OEvidenceshelfnames bEvidenceshelfnames NC MEvidencewithshelves OUnlikeCatalogs ODuplicateShelf
  have GA := (FA.raw bEvidenceadd .nil).imp (fun vs H Q E h => by rw [List.append_nil]; exact h)
  have OA : OpO K CEvidence "__add__" fEvidenceadd := ⟨aEvidenceadd, iEvidenceadd, sfEvidence⟩
  have MEadd : Met l.prog w K mg base _ CEvidence "__add__" _ [] := ⟨fEvidenceadd, _, _, [], FEvidence.cl, ⟨aEvidenceadd, iEvidenceadd, kEvidenceadd⟩, FnOk_coolX FA, bEvidenceadd, .nil⟩
  have cLkinds := cal_of (P := l.prog) (w := w) (base := base) FLkinds (ok_kinds (u := u) FLkinds T cLtake) mLkinds bLkinds
  have cLvalue := cal_of (P := l.prog) (w := w) (base := base) FLvalue (ok_valueE (u := u) FLvalue T) mLvalue bLvalue
  have cLbook := cal_of (P := l.prog) (w := w) (base := base) FLbook (ok_bookE (u := u) FLbook T cLtake cLvalue) mLbook bLbook
  have cLrows := cal_of (P := l.prog) (w := w) (base := base) FLrows (ok_rows (u := u) FLrows T cLtake cLbook) mLrows bLrows
  have cLmade := cal_of (P := l.prog) (w := w) (base := base) FLmade (ok_made (u := u) FLmade T hciE GEvidence FEvidence nEvidencecatalog nEvidence_shelves MEvidencewithbooks) mLmade bLmade
  have cLtold := cal_of (P := l.prog) (w := w) (base := base) FLtold (ok_told (u := u) FLtold T FEvidence nEvidencecatalog nEvidence_shelves PEvidenceshelfnames OEvidenceshelfnames bEvidenceshelfnames MGE) mLtold bLtold
  have cLask := cal_of (P := l.prog) (w := w) (base := base) FLask (ok_ask (u := u) FLask T OUnlikeCatalogs xcUnlikeCatalogs kXSUnlikeCatalogs ODuplicateShelf xcDuplicateShelf kXSDuplicateShelf nUD OA GA cLtold) mLask bLask
  exact ok_law (u := u) Flaw T cLbox hciE GEvidence FEvidence nEvidencecatalog nEvidence_shelves FCatalog nCatalognames GCatalog cmCatalognumbered GCatalognumbered MCatalogeq MEvidenceeq MEadd cLtake cLkinds cLbook cLrows cLmade cLtold cLask cLsame
end DL

open PySem PySem.W PyProof.Rows
set_option maxHeartbeats 0 in
theorem PySem.Challenge.cw_shelfterms_k17_evidence_joined_holds : PySem.Challenge.rw_shelfterms_k17_evidence_joined.Holds := by
  w_on; o_law; k_head; (case hw => w_witness2)
  k_fill
  refine L2.walk_of (l := PySem.Challenge.rw_shelfterms_k17_evidence_joined) (n := 63) (k := 10) (x := "_law_script") (CX := fun _ => L2.CX0) (sp := fun w => DL.spLawD _) rfl (by decide) rfl ⟨rfl, by decide, by decide⟩ (fun w h Y => PySem.W.kIn_of Y) ?F (fun _ _ a ns hl _ hS => ⟨a, ns, rfl, hS, hl, fun _ => rfl⟩) (fun _ _ _ _ _ h => h)
  case F =>
    intro w mg fa h KX G hmg
    refine' DL.all_mk KX G hmg ?aisinteger ?lisinteger ?cisinteger ?kisinteger ?aCatalog ?aEvidence ?aInvalidCatalog ?aInvalidBook ?aInvalidName ?aDuplicateShelf ?aUnknownShelf ?aUnlikeCatalogs ?aShelfError ?xXDuplicateShelf ?saXDuplicateShelf ?eXDuplicateShelf ?tyXDuplicateShelf ?kXDuplicateShelf ?iXDuplicateShelf ?tXDuplicateShelf ?lXDuplicateShelf ?cXDuplicateShelf ?supXDuplicateShelf ?svXDuplicateShelf ?slfXDuplicateShelf ?thX ?cdXDuplicateShelf ?cvXDuplicateShelf ?fiXDuplicateShelf ?ceXDuplicateShelf ?zsuper ?tpX ?nbXDuplicateShelf ?gaXDuplicateShelf ?ggXDuplicateShelf ?hdXDuplicateShelf ?ssXDuplicateShelf ?haXDuplicateShelf ?hmXDuplicateShelf ?kXSDuplicateShelf ?cn ?ct ?xXUnlikeCatalogs ?saXUnlikeCatalogs ?eXUnlikeCatalogs ?tyXUnlikeCatalogs ?kXUnlikeCatalogs ?iXUnlikeCatalogs ?tXUnlikeCatalogs ?lXUnlikeCatalogs ?cXUnlikeCatalogs ?supXUnlikeCatalogs ?svXUnlikeCatalogs ?slfXUnlikeCatalogs ?cdXUnlikeCatalogs ?cvXUnlikeCatalogs ?fiXUnlikeCatalogs ?ceXUnlikeCatalogs ?gaXUnlikeCatalogs ?ggXUnlikeCatalogs ?hdXUnlikeCatalogs ?ssXUnlikeCatalogs ?haXUnlikeCatalogs ?hmXUnlikeCatalogs ?kXSUnlikeCatalogs ?sUD ?rdCatalog ?gaCatalog ?vCatalogMOST ?wCatalogMOST ?czCatalogMOST ?cwCatalogMOST ?cgCatalogMOST ?nCatalognames ?nEvidencecatalog ?nEvidence_shelves ?neEC ?aLbox ?lLbox ?cLbox ?kLbox ?aLtake ?lLtake ?cLtake ?kLtake ?aLsame ?lLsame ?cLsame ?kLsame ?aisname ?lisname ?cisname ?kisname ?aaredifferentnames ?laredifferentnames ?caredifferentnames ?karedifferentnames ?aCataloginit ?iCataloginit ?lCataloginit ?cCataloginit ?kCataloginit ?pgCatalog ?hdCatalog ?poCatalog ?saCatalog ?mkCatalog ?kCCatalog ?caCatalog ?cmCatalog ?seCatalog ?sfCatalog ?cACatalognumbered ?cRCatalognumbered ?cFCatalognumbered ?lCatalognumbered ?cCatalognumbered ?kCatalognumbered ?aCatalogisbook ?iCatalogisbook ?lCatalogisbook ?cCatalogisbook ?kCatalogisbook ?aCatalogeq ?iCatalogeq ?lCatalogeq ?cCatalogeq ?kCatalogeq ?neC1 ?neC2 ?acheckbooks ?lcheckbooks ?ccheckbooks ?kcheckbooks ?aEvidenceinit ?iEvidenceinit ?lEvidenceinit ?cEvidenceinit ?kEvidenceinit ?pgEvidence ?hdEvidence ?poEvidence ?saEvidence ?mkEvidence ?kCEvidence ?caEvidence ?cmEvidence ?seEvidence ?sfEvidence ?rdEvidence ?gaEvidence ?aEvidencecontains ?iEvidencecontains ?lEvidencecontains ?cEvidencecontains ?kEvidencecontains ?aEvidencewithshelves ?iEvidencewithshelves ?lEvidencewithshelves ?cEvidencewithshelves ?kEvidencewithshelves ?aEvidencewithmore ?iEvidencewithmore ?lEvidencewithmore ?cEvidencewithmore ?kEvidencewithmore ?aEvidencewithbooks ?iEvidencewithbooks ?lEvidencewithbooks ?cEvidencewithbooks ?kEvidencewithbooks ?pAEvidenceshelfnames ?pGEvidenceshelfnames ?pTEvidenceshelfnames ?pREvidenceshelfnames ?lEvidenceshelfnames ?cEvidenceshelfnames ?kEvidenceshelfnames ?aEvidencegetitem ?iEvidencegetitem ?lEvidencegetitem ?cEvidencegetitem ?kEvidencegetitem ?fiEvidencegetitem ?aEvidenceeq ?iEvidenceeq ?lEvidenceeq ?cEvidenceeq ?kEvidenceeq ?aEvidenceadd ?iEvidenceadd ?lEvidenceadd ?cEvidenceadd ?kEvidenceadd ?aLkinds ?lLkinds ?cLkinds ?kLkinds ?aLvalue ?lLvalue ?cLvalue ?kLvalue ?aLbook ?lLbook ?cLbook ?kLbook ?aLrows ?lLrows ?cLrows ?kLrows ?aLmade ?lLmade ?cLmade ?kLmade ?aLtold ?lLtold ?cLtold ?kLtold ?aLask ?lLask ?cLask ?kLask ?alaw ?llaw ?claw ?klaw ?mLETTERS ?rLETTERS ?mLONGEST_NAME ?rLONGEST_NAME ?mBOUND ?rBOUND ?zlen ?zlist ?zint ?zisinstance ?zbool ?zstr ?ztuple ?zrange ?zall ?zset
    (case aisinteger => k_is); (case lisinteger => k_is); (case cisinteger => k_is); (case kisinteger => k_is); (case aCatalog => k_is); (case aEvidence => k_is); (case aInvalidCatalog => k_is); (case aInvalidBook => k_is); (case aInvalidName => k_is); (case aDuplicateShelf => k_is); (case aUnknownShelf => k_is); (case aUnlikeCatalogs => k_is); (case aShelfError => k_is); (case xXDuplicateShelf => k_is); (case saXDuplicateShelf => k_is); (case eXDuplicateShelf => k_is); (case tyXDuplicateShelf => k_is); (case kXDuplicateShelf => k_is); (case iXDuplicateShelf => k_is); (case tXDuplicateShelf => k_is); (case lXDuplicateShelf => k_is); (case cXDuplicateShelf => k_is); (case supXDuplicateShelf => ks_is); (case svXDuplicateShelf => k_is); (case slfXDuplicateShelf => k_is); (case thX => k_is); (case cdXDuplicateShelf => k_is); (case cvXDuplicateShelf => first | rfl | decide +kernel | kernel_rfl); (case fiXDuplicateShelf => first | rfl | decide +kernel | kernel_rfl); (case ceXDuplicateShelf => k_is); (case zsuper => k_is); (case tpX => first | rfl | decide +kernel); (case nbXDuplicateShelf => k_is); (case gaXDuplicateShelf => k_is); (case ggXDuplicateShelf => k_is); (case hdXDuplicateShelf => k_is); (case ssXDuplicateShelf => first | rfl | k_is); (case haXDuplicateShelf => k_is); (case hmXDuplicateShelf => k_is); (case kXSDuplicateShelf => kit_is); (case cn => k_is); (case ct => k_is); (case xXUnlikeCatalogs => k_is); (case saXUnlikeCatalogs => k_is); (case eXUnlikeCatalogs => k_is); (case tyXUnlikeCatalogs => k_is); (case kXUnlikeCatalogs => k_is); (case iXUnlikeCatalogs => k_is); (case tXUnlikeCatalogs => k_is); (case lXUnlikeCatalogs => k_is); (case cXUnlikeCatalogs => k_is); (case supXUnlikeCatalogs => ks_is); (case svXUnlikeCatalogs => k_is); (case slfXUnlikeCatalogs => k_is); (case cdXUnlikeCatalogs => k_is); (case cvXUnlikeCatalogs => first | rfl | decide +kernel | kernel_rfl); (case fiXUnlikeCatalogs => first | rfl | decide +kernel | kernel_rfl); (case ceXUnlikeCatalogs => k_is); (case gaXUnlikeCatalogs => k_is); (case ggXUnlikeCatalogs => k_is); (case hdXUnlikeCatalogs => k_is); (case ssXUnlikeCatalogs => first | rfl | k_is); (case haXUnlikeCatalogs => k_is); (case hmXUnlikeCatalogs => k_is); (case kXSUnlikeCatalogs => kit_is); (case sUD => first | rfl | k_is); (case rdCatalog => k_is); (case gaCatalog => k_is); (case vCatalogMOST => k_is); (case wCatalogMOST => exact ⟨_, rfl⟩); (case czCatalogMOST => k_is); (case cwCatalogMOST => exact ⟨_, rfl⟩); (case cgCatalogMOST => k_is); (case nCatalognames => k_is); (case nEvidencecatalog => k_is); (case nEvidence_shelves => k_is); (case neEC => decide); (case aLbox => k_is); (case lLbox => k_is); (case cLbox => k_is); (case kLbox => k_is); (case aLtake => k_is); (case lLtake => k_is); (case cLtake => k_is); (case kLtake => k_is); (case aLsame => k_is); (case lLsame => k_is); (case cLsame => k_is); (case kLsame => k_is); (case aisname => k_is); (case lisname => k_is); (case cisname => k_is); (case kisname => k_is); (case aaredifferentnames => k_is); (case laredifferentnames => k_is); (case caredifferentnames => k_is); (case karedifferentnames => k_is); (case aCataloginit => k_is); (case iCataloginit => k_is); (case lCataloginit => k_is); (case cCataloginit => k_is); (case kCataloginit => k_is); (case pgCatalog => k_is); (case hdCatalog => k_is); (case poCatalog => k_is); (case saCatalog => k_is); (case mkCatalog => k_is); (case kCCatalog => k_is); (case caCatalog => k_is); (case cmCatalog => k_is); (case seCatalog => kit_is); (case sfCatalog => k_is); (case cACatalognumbered => k_is); (case cRCatalognumbered => k_is); (case cFCatalognumbered => k_is); (case lCatalognumbered => k_is); (case cCatalognumbered => k_is); (case kCatalognumbered => k_is); (case aCatalogisbook => k_is); (case iCatalogisbook => k_is); (case lCatalogisbook => k_is); (case cCatalogisbook => k_is); (case kCatalogisbook => k_is); (case aCatalogeq => k_is); (case iCatalogeq => k_is); (case lCatalogeq => k_is); (case cCatalogeq => k_is); (case kCatalogeq => k_is); (case neC1 => k_is); (case neC2 => first | rfl | k_is); (case acheckbooks => k_is); (case lcheckbooks => k_is); (case ccheckbooks => k_is); (case kcheckbooks => k_is); (case aEvidenceinit => k_is); (case iEvidenceinit => k_is); (case lEvidenceinit => k_is); (case cEvidenceinit => k_is); (case kEvidenceinit => k_is); (case pgEvidence => k_is); (case hdEvidence => k_is); (case poEvidence => k_is); (case saEvidence => k_is); (case mkEvidence => k_is); (case kCEvidence => k_is); (case caEvidence => k_is); (case cmEvidence => k_is); (case seEvidence => kit_is); (case sfEvidence => k_is); (case rdEvidence => k_is); (case gaEvidence => k_is); (case aEvidencecontains => k_is); (case iEvidencecontains => k_is); (case lEvidencecontains => k_is); (case cEvidencecontains => k_is); (case kEvidencecontains => k_is); (case aEvidencewithshelves => k_is); (case iEvidencewithshelves => k_is); (case lEvidencewithshelves => k_is); (case cEvidencewithshelves => k_is); (case kEvidencewithshelves => k_is); (case aEvidencewithmore => k_is); (case iEvidencewithmore => k_is); (case lEvidencewithmore => k_is); (case cEvidencewithmore => k_is); (case kEvidencewithmore => k_is); (case aEvidencewithbooks => k_is); (case iEvidencewithbooks => k_is); (case lEvidencewithbooks => k_is); (case cEvidencewithbooks => k_is); (case kEvidencewithbooks => k_is); (case pAEvidenceshelfnames => k_is); (case pGEvidenceshelfnames => k_is); (case pTEvidenceshelfnames => k_is); (case pREvidenceshelfnames => k_is); (case lEvidenceshelfnames => k_is); (case cEvidenceshelfnames => k_is); (case kEvidenceshelfnames => k_is); (case aEvidencegetitem => k_is); (case iEvidencegetitem => k_is); (case lEvidencegetitem => k_is); (case cEvidencegetitem => k_is); (case kEvidencegetitem => k_is); (case fiEvidencegetitem => k_is); (case aEvidenceeq => k_is); (case iEvidenceeq => k_is); (case lEvidenceeq => k_is); (case cEvidenceeq => k_is); (case kEvidenceeq => k_is); (case aEvidenceadd => k_is); (case iEvidenceadd => k_is); (case lEvidenceadd => k_is); (case cEvidenceadd => k_is); (case kEvidenceadd => k_is); (case aLkinds => k_is); (case lLkinds => k_is); (case cLkinds => k_is); (case kLkinds => k_is); (case aLvalue => k_is); (case lLvalue => k_is); (case cLvalue => k_is); (case kLvalue => k_is); (case aLbook => k_is); (case lLbook => k_is); (case cLbook => k_is); (case kLbook => k_is); (case aLrows => k_is); (case lLrows => k_is); (case cLrows => k_is); (case kLrows => k_is); (case aLmade => k_is); (case lLmade => k_is); (case cLmade => k_is); (case kLmade => k_is); (case aLtold => k_is); (case lLtold => k_is); (case cLtold => k_is); (case kLtold => k_is); (case aLask => k_is); (case lLask => k_is); (case cLask => k_is); (case kLask => k_is); (case alaw => k_is); (case llaw => k_is); (case claw => k_is); (case klaw => k_is); (case mLETTERS => k_is); (case rLETTERS => exact ⟨_, rfl⟩); (case mLONGEST_NAME => k_is); (case rLONGEST_NAME => exact ⟨_, rfl⟩); (case mBOUND => k_is); (case rBOUND => exact ⟨_, rfl⟩); (case zlen => k_is); (case zlist => k_is); (case zint => k_is); (case zisinstance => k_is); (case zbool => k_is); (case zstr => k_is); (case ztuple => k_is); (case zrange => k_is); (case zall => k_is); (case zset => k_is)

