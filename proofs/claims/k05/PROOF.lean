import PyProof.Rows.All
import Wide.All
import OpenK.AllK
import Wide.FinOn
import HandS.ForMost
import HandS.IsInst
import HandS.Codes
import HandS.Wide
import HandS.Walk
import HandS.Zip
import KE.GoesEnum
import PySem.Challenge.RW_shelfterms_k05_steps_and_terms
set_option Elab.async false
set_option linter.all false
set_option maxRecDepth 100000
set_option maxHeartbeats 4000000
namespace VL
open PySem PySem.Spec PyProof.Rows L2
open C8 (Cal pe_c)
/-! ### heaps -/
/-- all but b is kept -/
def Kp (b : Addr) (H H' : Hp) : Prop := ∀ c o, c ≠ b → H c = some o → H' c = some o
theorem Kp.refl (b : Addr) (H : Hp) : Kp b H H := fun _ _ _ h => h
theorem Kp.trans {b : Addr} {H H1 H2 : Hp} (x : Kp b H H1) (y : Kp b H1 H2) : Kp b H H2 := fun c o n h => y c o n (x c o n h)
theorem Kp.of {b : Addr} {H H' : Hp} (x : Same H H') : Kp b H H' := fun c o _ h => x c o h
theorem Kp.upd {b : Addr} {H : Hp} (o : HO) : Kp b H (upd H b o) := fun c u n h => by
  rw [upd_ne n]
  exact h
theorem same_upd {H : Hp} {p : Addr} {o : HO} (h : H p = none) : Same H (upd H p o) := fun b x e => by
  rw [upd_ne (ne_of_none e h)]
  exact e
theorem _root_.L2.Same.sqt {K : PySem.W.Frag} {H H' : Hp} {a : Addr} {xs : List V} (e : Same H H') (h : SqT K H a xs) : SqT K H' a xs := by
  rcases h with (h | ⟨o, h⟩) | h
  · exact .inl (.inl (e _ _ h))
  · exact .inl (.inr ⟨o, e _ _ h⟩)
  · exact .inr h
/-- tuples are kept -/
def KT (H H' : Hp) : Prop := ∀ c xs, H c = some (.tup xs) → H' c = some (.tup xs)
theorem KT.refl (H : Hp) : KT H H := fun _ _ h => h
theorem KT.trans {H H1 H2 : Hp} (x : KT H H1) (y : KT H1 H2) : KT H H2 := fun c xs h => y c xs (x c xs h)
theorem KT.of {H H' : Hp} (x : Same H H') : KT H H' := fun c xs h => x c _ h
theorem KT.lst {H H' : Hp} {b : Addr} {xs : List V} (x : Kp b H H') (h : H b = some (.lst xs)) : KT H H' := fun c ys e => x c _ (ne_of e h (by intro z; cases z)) e
theorem KT.upd {H : Hp} {b : Addr} {xs : List V} {o : HO} (h : H b = some (.lst xs)) : KT H (upd H b o) := KT.lst (Kp.upd o) h

theorem upd_self {H : Hp} {b : Addr} {o : HO} (h : H b = some o) : L2.upd H b o = H := by
  funext c
  by_cases e : c = b
  · subst e; rw [upd_same, h]
  · rw [upd_ne e]

/-! ### the script's box -/
/-- the law's box stands at b: the cells in the list at L, the place, the rest, the seed -/
def Box (H : Hp) (b L : Addr) : Prop := ∃ (cs : List Int) (p r x : Int), L ≠ b ∧ H L = some (.lst (cs.map V.int)) ∧ H b = some (.lst [.ref L, .int p, .int r, .int x]) ∧ 0 ≤ p ∧ 0 ≤ x ∧ x < 2147483647
theorem Box.lst {H : Hp} {b L : Addr} (h : Box H b L) : ∃ xs, H b = some (.lst xs) := by
  obtain ⟨cs, p, r, x, _, _, h, _⟩ := h
  exact ⟨_, h⟩
theorem Box.lstL {H : Hp} {b L : Addr} (h : Box H b L) : ∃ xs, H L = some (.lst xs) := by
  obtain ⟨cs, p, r, x, _, h, _⟩ := h
  exact ⟨_, h⟩
theorem Box.same {H H' : Hp} {b L : Addr} (h : Box H b L) (s : Same H H') : Box H' b L := by
  obtain ⟨cs, p, r, x, n, hL, hb, q⟩ := h
  exact ⟨cs, p, r, x, n, s _ _ hL, s _ _ hb, q⟩
/-- another object may change -/
theorem Box.upd {H : Hp} {b L l : Addr} {o : HO} (h : Box H b L) (h1 : l ≠ b) (h2 : l ≠ L) : Box (L2.upd H l o) b L := by
  obtain ⟨cs, p, r, x, n, hL, hb, q⟩ := h
  exact ⟨cs, p, r, x, n, by rw [upd_ne h2.symm]; exact hL, by rw [upd_ne h1.symm]; exact hb, q⟩
/-- a new object is neither -/
theorem Box.new {H : Hp} {b L l : Addr} (h : Box H b L) (n : H l = none) : l ≠ b ∧ l ≠ L := by
  obtain ⟨xs, h1⟩ := h.lst
  obtain ⟨ys, h2⟩ := h.lstL
  exact ⟨(ne_of_none h1 n).symm, (ne_of_none h2 n).symm⟩

/-! ### the same data -/
def flt : V → Bool
  | .non => true
  | .bl _ => true
  | .int _ => true
  | .str _ => true
  | _ => false
/-- x and y hold the same data, of depth n at most -/
def Sm (H : Hp) : Nat → V → V → Prop
  | 0, x, y => x = y ∧ flt y = true
  | n + 1, x, y => (x = y ∧ flt y = true) ∨ ∃ (a b : Addr) (xs ys : List V), x = .ref a ∧ y = .ref b ∧
      ((H a = some (.lst xs) ∧ H b = some (.lst ys)) ∨ (H a = some (.tup xs) ∧ H b = some (.tup ys))) ∧ xs.length = ys.length ∧ xs.length ≤ 100000 ∧ ∀ (i : Nat) u v, xs[i]? = some u → ys[i]? = some v → Sm H n u v
theorem Sm.flat {H : Hp} {n : Nat} {x : V} (h : flt x = true) : Sm H n x x := by
  cases n with
  | zero => exact ⟨rfl, h⟩
  | succ n => exact .inl ⟨rfl, h⟩
theorem Sm.tup {H : Hp} {n : Nat} {a b : Addr} {xs ys : List V} (ha : H a = some (.tup xs)) (hb : H b = some (.tup ys)) (hl : xs.length = ys.length) (hz : xs.length ≤ 100000) (h : ∀ (i : Nat) u v, xs[i]? = some u → ys[i]? = some v → Sm H n u v) : Sm H (n + 1) (.ref a) (.ref b) :=
  .inr ⟨a, b, xs, ys, rfl, rfl, .inr ⟨ha, hb⟩, hl, hz, h⟩
theorem Sm.lst {H : Hp} {n : Nat} {a b : Addr} {xs ys : List V} (ha : H a = some (.lst xs)) (hb : H b = some (.lst ys)) (hl : xs.length = ys.length) (hz : xs.length ≤ 100000) (h : ∀ (i : Nat) u v, xs[i]? = some u → ys[i]? = some v → Sm H n u v) : Sm H (n + 1) (.ref a) (.ref b) :=
  .inr ⟨a, b, xs, ys, rfl, rfl, .inl ⟨ha, hb⟩, hl, hz, h⟩
/-- two sequences of the same flat things -/
theorem Sm.tupF {H : Hp} {n : Nat} {a b : Addr} {xs : List V} (ha : H a = some (.tup xs)) (hb : H b = some (.tup xs)) (hz : xs.length ≤ 100000) (h : ∀ x ∈ xs, flt x = true) : Sm H (n + 1) (.ref a) (.ref b) :=
  Sm.tup ha hb rfl hz fun i u v hu hv => by
    rw [hu] at hv
    cases hv
    exact Sm.flat (h _ (List.mem_of_getElem? hu))
theorem Sm.lstF {H : Hp} {n : Nat} {a b : Addr} {xs : List V} (ha : H a = some (.lst xs)) (hb : H b = some (.lst xs)) (hz : xs.length ≤ 100000) (h : ∀ x ∈ xs, flt x = true) : Sm H (n + 1) (.ref a) (.ref b) :=
  Sm.lst ha hb rfl hz fun i u v hu hv => by
    rw [hu] at hv
    cases hv
    exact Sm.flat (h _ (List.mem_of_getElem? hu))
theorem flt_ints (ns : List Int) : ∀ x ∈ ns.map V.int, flt x = true := fun x h => by
  obtain ⟨n, _, rfl⟩ := List.mem_map.mp h
  rfl

theorem Sm.cases {H : Hp} {n : Nat} {x y : V} (h : Sm H n x y) : (x = y ∧ flt y = true) ∨ ∃ (m : Nat) (a b : Addr) (xs ys : List V), n = m + 1 ∧ x = .ref a ∧ y = .ref b ∧
      ((H a = some (.lst xs) ∧ H b = some (.lst ys)) ∨ (H a = some (.tup xs) ∧ H b = some (.tup ys))) ∧ xs.length = ys.length ∧ xs.length ≤ 100000 ∧ ∀ (i : Nat) u v, xs[i]? = some u → ys[i]? = some v → Sm H m u v := by
  cases n with
  | zero => exact .inl h
  | succ n =>
    rcases h with h | ⟨a, b, xs, ys, h⟩
    · exact .inl h
    · exact .inr ⟨n, a, b, xs, ys, rfl, h⟩
theorem isi {K : PySem.W.Frag} {H : Hp} {x : V} {T : String} {Q : VK} (t : String) (b : Bool) (ty : TyX K H x (.type t)) (h : kitB t T = some b) (q : Q (.bl b) H) : rIsi K [x, .ty T] H Q := ⟨x, .ty T, .type t, .type T, b, rfl, .ty T, ty, kit_ty h, q⟩

/-! ### rules with the written part told (within a comprehension) -/
section
variable {X : Cx}
theorem ix_listK (K : PySem.W.Frag) (h : X.K = K := by rfl) : IxR X (rIxL K) := h ▸ ix_list
theorem ix_tupK (K : PySem.W.Frag) (h : X.K = K := by rfl) : IxR X (rIxT K) := h ▸ ix_tup
def rLenK (K : PySem.W.Frag) : List V → Hp → VK → Prop := fun xs H Q => ∃ p ys, xs = [.ref p] ∧ (SqL K H p ys ∨ SqT K H p ys) ∧ Q (.int ys.length) H
theorem call_lenK (K : PySem.W.Frag) (h : X.K = K := by rfl) : CallR X (.builtin "len") (rLenK K) := h ▸ call_len_seq
theorem pi_tupK (K : PySem.W.Frag) {tg l : Expr} {tl : TE} (hl : PE X l tl) (h : X.K = K := by rfl) : PI X tg l (iTup K tl) := h ▸ pi_tup hl
theorem pi_listK (K : PySem.W.Frag) {tg l : Expr} {tl : TE} (hl : PE X l tl) (h : X.K = K := by rfl) : PI X tg l (iList K tl) := h ▸ pi_list hl
theorem call_isiK' (K : PySem.W.Frag) (h : X.K = K := by rfl) : CallR X (.builtin "isinstance") (rIsi K) := h ▸ call_isi
end

/-! ### promises of the law's own defs -/
def spBox (K : PySem.W.Frag) : Sp := fun vs H Q _ => ∃ (a : Addr) (ns : List Int), vs = [.ref a] ∧ SqL K H a (ns.map V.int) ∧ ns.length ≤ 63 ∧ ∀ b L H', H b = none → H L = none → Same H H' → Box H' b L → Q (.ref b) H'
def spTake : Sp := fun vs H Q _ => ∃ (b L : Addr) (n : Int), vs = [.ref b, .int n] ∧ 0 < n ∧ n < 2 ^ 64 ∧ Box H b L ∧ ∀ v o, 0 ≤ v → v < n → Box (upd H b o) b L → (∃ xs, o = .lst xs) → Q (.int v) (upd H b o)
def spNo : Sp := fun _ _ _ _ => False
def spSame : Nat → Sp
  | 0 => spNo
  | n + 1 => fun vs H Q _ => ∃ x y, vs = [x, y] ∧ Sm H n x y ∧ Q (.bl true) H
theorem fn_no {P : Program} {w : World} {K : PySem.W.Frag} {mg : Str → Option Value} {base : Heap} {k : Nat} {f : Addr} {fd : FuncData} {ps : List Str} : FnOk P w K mg base CX0 k f fd ps spNo :=
  ⟨fun _ _ _ _ h => h.elim, fun _ _ _ _ _ _ _ _ _ _ _ _ _ h => h.elim⟩
theorem iteF' {c : Bool} {A B : Prop} (e : c = false) (h : B) : if c = true then A else B := by
  subst e
  exact iteF h
theorem iteT' {c : Bool} {A B : Prop} (e : c = true) (h : A) : if c = true then A else B := by
  subst e
  exact iteT h
/-- a def of the module, as its callers want it -/
theorem cal_of {P : Program} {w : World} {K : PySem.W.Frag} {mg : Str → Option Value} {base : Heap} {k : Nat} {x : Str} {st : Stmt} {f : Addr} {fd : FuncData} {ps : List Str} {sp : Sp} (F : Fun K x x st f fd) (G : FnOk P w K mg base CX0 k f fd ps sp) (hm : mg x = some (.ref f)) (b : Binds K fd ps []) :
    Cal P w K mg base k x sp [] := ⟨f, fd, ps, [], G, hm, F.kp, b, .nil⟩
theorem cutV_ints (ns : List Int) (lo hi : Option Int) : ∃ cs : List Int, cutV (ns.map V.int) lo hi = cs.map V.int := by
  unfold cutV
  rw [← List.map_drop, ← List.map_take]
  exact ⟨_, rfl⟩
theorem map_at {α β : Type} {f : α → β} {xs : List α} {i : Nat} {y : β} (h : (xs.map f)[i]? = some y) : ∃ x, xs[i]? = some x ∧ y = f x := by
  rw [List.getElem?_map] at h
  obtain ⟨x, h1, h2⟩ := Option.map_eq_some_iff.mp h
  exact ⟨x, h1, h2.symm⟩
theorem atI0 {α : Type} {x : α} {xs : List α} : atI (x :: xs) 0 = some x := atI_nat (j := 0) rfl
theorem atI_pos {α : Type} {xs : List α} {p : Int} {x : α} (h0 : 0 ≤ p) (h : xs[p.toNat]? = some x) : atI xs p = some x := by
  obtain ⟨n, rfl⟩ := Int.eq_ofNat_of_zero_le h0
  exact atI_nat h
theorem atI_ints {cs : List Int} {p : Int} (h0 : 0 ≤ p) (h : p < (cs.length : Int)) : ∃ c, cs[p.toNat]? = some c ∧ atI (cs.map V.int) p = some (.int c) := by
  have h1 : p.toNat < cs.length := by omega
  have h2 : cs[p.toNat]? = some (cs[p.toNat]'h1) := List.getElem?_eq_getElem h1
  refine ⟨_, h2, atI_pos h0 ?_⟩
  rw [List.getElem?_map, h2]
  rfl
theorem ixN_nat {n j : Nat} (h : j < n) : ixN n (j : Int) = some j := by
  unfold ixN
  rw [if_pos (by omega), if_pos (by omega)]
  rfl
end VL

namespace VL
open PySem PySem.Spec PyProof.Rows L2
/-! ### enumerate over a tuple (mine: the layer's pi_enum walks lists alone) -/
def EnT (K : PySem.W.Frag) (a : Addr) : It where
  go := fun k G => ∃ (zs : List V) (z : V), SqT K G a zs ∧ zs[k]? = some z
  yld := fun k G u G' => ∃ (T : Addr) (z : V), u = .ref T ∧ G T = none ∧ G' = upd G T (.tup [.int (k : Nat), z]) ∧ ∀ zs, SqT K G a zs → zs[k]? = some z
  stop := fun k G => ∃ zs : List V, SqT K G a zs ∧ zs.length = k
theorem enT_turn {P : Program} {w : World} {K : PySem.W.Frag} {es : List Expr} {q : Nat} {ps : Pos} (a en ti : Addr) :
    Turn P w K (.Tuple es q ps) (EnT K a) [en, ti] en (fun k h => (∃ was, IsEnum h en ti ((k : Nat) : Int) was) ∧ h.IsTupleIter ti a k ∧ en ≠ ti) := by
  refine ⟨List.mem_cons_self .., ?_, ?_, ?_, ?_, ?_⟩
  · rintro k h ⟨⟨was, h1⟩, ⟨ob, h2, _, h3⟩, _⟩ c hc
    rcases List.mem_cons.mp hc with rfl | hc
    · exact ⟨_, h1, fun _ z => nomatch z⟩
    · cases List.mem_singleton.mp hc
      refine ⟨ob, h2, fun _ z => ?_⟩
      rw [h3] at z
      cases z
  · rintro k h h' ⟨⟨was, h1⟩, h2, ne⟩ kp
    exact ⟨⟨was, kp en (List.mem_cons_self ..) _ h1⟩, h2.at fun ob z => kp ti (List.mem_cons_of_mem _ (List.mem_cons_self ..)) ob z, ne⟩
  · rintro X rfl rfl rfl calm k pins s σ G E I free ⟨⟨was, h1⟩, h2, ne⟩ ⟨zs, z, hq, hz⟩
    obtain ⟨vs, rv, hT, _⟩ := I.tuple hq
    obtain ⟨u, hu, ru⟩ := rv.get hz
    have nea : en ≠ a := fun e => by
      subst e
      obtain ⟨ob, e1, e2, _⟩ := hT
      have e3 := h1.symm.trans e1
      cases e3
      exact absurd (Value.type.inj e2) (by decide)
    have nta : a ≠ ti := fun e => by
      subst e
      obtain ⟨ob, e1, e2, _⟩ := hT
      obtain ⟨oc, c1, c2, _⟩ := h2
      rw [c1] at e1
      cases e1
      rw [c2] at e2
      exact absurd (Value.type.inj e2) (by decide)
    have elt : en < s.heap.objs.size := Heap.lt_size h1
    have tlt : ti < s.heap.objs.size := by
      obtain ⟨ob, e1, _⟩ := h2
      exact Heap.lt_size e1
    have klt : k < vs.toArray.size := by
      have := (List.getElem?_eq_some_iff.mp hu).1
      simpa using this
    have D := Draws.tuple (prog := X.prog) (w := X.w) (A := X.A.in1) (I.ok.hd calm) ti a nta vs.toArray
    refine wpAny_pyNext_enum_itemC (c := (k : Int)) D h1 ⟨h2, hT⟩ klt ne (fun c => ?_) fun x h' tk hx out st' tup _ kp => ?_
    · rcases List.mem_cons.mp c with e | c
      · exact ne e
      · exact nea (List.mem_singleton.mp c)
    · have ex : x = u := by
        have hx' : vs.toArray[k]? = some x := hx
        rw [List.getElem?_toArray, hu] at hx'
        exact (Option.some.inj hx').symm
      subst ex
      refine ⟨_, rfl, wpAny_letOwnedTupleGo_enum (s := { s with heap := h', toks := tk + 1 }) out fun g eg sb => ?_⟩
      have tup2 : g.get? s.heap.objs.size = some { cls := .type "tuple", data := .seq #[.int k tk, x] } := (sb.2 _ (Nat.ne_of_gt elt)).trans tup
      have made : ObjOk X.prog X.w (upd G s.heap.objs.size (.tup [.int (k : Nat), z])) g s.heap.objs.size (.tup [.int (k : Nat), z]) := by
        refine ⟨by show 2 ≤ sizeLine; decide, [.int k tk, x], ?_, _, tup2, rfl, _, rfl⟩
        exact .cons ⟨_, rfl⟩ (.cons ru .nil)
      have I' : Inv X pins σ (upd G s.heap.objs.size (.tup [.int (k : Nat), z])) { s with heap := g, toks := tk + 1 } := by
        refine I.turnedNew (ch := [en, ti]) (fun c ob hc e => ?_) free (Nat.le_refl _) made
        have c1 : c ≠ en := fun e => hc (e ▸ List.mem_cons_self ..)
        have c2 : c ≠ ti := fun e => hc (e ▸ List.mem_cons_of_mem _ (List.mem_cons_self ..))
        exact (sb.2 c c1).trans (kp c ob c1 c2 e)
      refine ⟨.ref s.heap.objs.size, _, I', rfl, ⟨_, z, rfl, I.hok.fresh (Nat.le_refl _), rfl, fun ys hy => ?_⟩, ⟨⟨x, ?_⟩, st'.1.at fun ob e => (sb.2 ti ne.symm).trans e, ne⟩, fun c hc => ?_⟩
      · rw [I.tuple_inj hy hq]
        exact hz
      · have e1 : ((k + 1 : Nat) : Int) = (k : Int) + 1 := by omega
        rw [e1]
        exact eg
      · have clt : c < s.heap.objs.size := by
          rcases List.mem_cons.mp hc with rfl | hc
          · exact elt
          · cases List.mem_singleton.mp hc
            exact tlt
        rw [upd_ne (Nat.ne_of_lt clt)]
        exact (free c hc).1
  · rintro X rfl rfl rfl calm k pins s σ G E I free ⟨⟨was, h1⟩, h2, ne⟩ ⟨zs, hq, hz⟩
    obtain ⟨vs, rv, hT, _⟩ := I.tuple hq
    have hl := rv.length
    obtain ⟨f0, f1, f2, f3, f4, f5⟩ := free ti (List.mem_cons_of_mem _ (List.mem_cons_self ..))
    have nta : a ≠ ti := fun e => by
      subst e
      obtain ⟨ob, e1, e2, _⟩ := hT
      obtain ⟨oc, c1, c2, _⟩ := h2
      rw [c1] at e1
      cases e1
      rw [c2] at e2
      exact absurd (Value.type.inj e2) (by decide)
    have D := Draws.tuple (prog := X.prog) (w := X.w) (A := X.A.in1) (I.ok.hd calm) ti a nta vs.toArray
    have ek : k = vs.toArray.size := by
      rw [← hz, hl]
      simp
    refine wpAny_pyNext_enum_endD D h1 ⟨ek ▸ h2, hT⟩ fun g ext => ⟨rfl, I.turned (t' := s.toks) (fun c ob hc e => ext c ob hc e) f0 f1 f3 f4 f5⟩
  · rintro A k s Q E ⟨⟨was, h1⟩, _⟩ q
    exact wpAny_pyIter_enum h1 q
/-- what enumerate(v) leaves: the iterator of v, behind it the enumerate object -/
abbrev enHeap (hp : Heap) (o : Obj) : Heap := (hp.push o).push { cls := .type "enumerate", data := .fields #[.none, .bool false, .ref hp.objs.size, rawInt 0, .none, .none] }
theorem en_meets {v : Value} {o : Obj} {B0 : Heap → Prop} (B : Begins v o B0) :
    Meets (Builtin.«enumerate.__new__» ⟨[.type "enumerate", v], []⟩) (fun _ R s => B0 s.heap ∧ R (.ok (.ret (.ref (s.heap.push o).objs.size))) { s with heap := enHeap s.heap o }) := by
  refine .of_wp fun prog w A R s hh => ?_
  obtain ⟨hp, gg, dd, tt, oo⟩ := s
  obtain ⟨b0, hR⟩ := hh
  have hsub := sub_enumerate
  have st : ∀ {A1 : Around} {E1 : Value → Shared → Prop} {Q1 : Value → Shared → Prop}, Q1 (.ref hp.objs.size) ⟨hp.push o, gg, dd, tt, oo⟩ → wpAny (model prog w) A1 (pyIter v) Q1 E1 ⟨hp, gg, dd, tt, oo⟩ :=
    fun z => B.iter prog w _ _ ⟨hp, gg, dd, tt, oo⟩ _ b0 z
  wp_walk using st
  refine wpAny_stack_any fun sk => wpAny_pure ?_
  split
  · rename_i c _ _ _ _ _
    cases (c == Value.type "enumerate") <;> (wp_walk using st; exact ⟨_, rfl, hR⟩)
  · wp_walk using st
    exact ⟨_, rfl, hR⟩
theorem en_call {prog : Program} {w : World} {A : Around} {E : Value → Shared → Prop} {s : Shared} {v : Value} {o : Obj} {B0 : Heap → Prop} {Q : Value → Shared → Prop} (B : Begins v o B0) (b0 : B0 s.heap)
    (q : Q (.ref (s.heap.objs.size + 1)) { s with heap := enHeap s.heap o }) : wpAny (model prog w) A (call (.type "enumerate") [v]) Q E s := by
  have z : (s.heap.push o).objs.size = s.heap.objs.size + 1 := Heap.size_push ..
  refine callType_new F.called_enumerate (by decide) (F.typeCall_enumerate_1 _) (F.newCall_enumerate_1 _) (fun b => F.args_object_init_2 b _) F.entry_enumerate_new (en_meets B) ⟨b0, ?_⟩
  show _ ∧ _
  rw [z]
  have g := Heap.get?_push_size (s.heap.push o) (o := { cls := .type "enumerate", data := .fields #[.none, .bool false, .ref s.heap.objs.size, rawInt 0, .none, .none] }) rfl
  rw [z] at g
  exact ⟨⟨_, g, rfl⟩, q⟩
/-- a comprehension's loop (either loop of one with two for) over a walk: B is what the turn must bring about, told what comes next -/
theorem lp_it {J : It} {n : Nat} {G : Hp → Prop} {Y : Nat → Hp → V → Hp → Prop} (w : Walk J n G Y) {B : (Hp → Prop) → V → Hp → Prop} {H0 : Hp} {Qd : Hp → Prop} (Pv : Nat → Hp → Prop) (h0 : Pv 0 H0) (hG : ∀ i H, i ≤ n → Pv i H → G H)
    (hs : ∀ i x H H', i < n → Pv i H → Y i H x H' → B (Pv (i + 1)) x H') (hd : ∀ H, Pv n H → Qd H) :
    ∃ W : Nat → Nat → Hp → Prop, (∃ m, W 0 m H0) ∧ ∀ i m H, W i m H → (J.stop i H ∧ Qd H) ∨ (J.go i H ∧ ∃ Nx : Hp → Prop, (∀ H', Nx H' → ∃ m', m' < m ∧ W (i + 1) m' H') ∧ ∀ x H', J.yld i H x H' → B Nx x H') := by
  refine ⟨fun i m H => m + i = n ∧ Pv i H, ⟨n, rfl, h0⟩, ?_⟩
  rintro i m H ⟨em, p⟩
  have g := hG i H (by omega) p
  by_cases z : m = 0
  · have e : i = n := by omega
    subst e
    exact .inl ⟨w.stops H g, hd H p⟩
  · exact .inr ⟨w.goes i H (by omega) g, Pv (i + 1), fun H' p' => ⟨m - 1, by omega, by omega, p'⟩, fun x H' y => hs i x H H' (by omega) p (w.yields i H x H' (by omega) g y)⟩
theorem walk_rg {n : Nat} : Walk (Itr 0 n) n (fun _ => True) (fun i H x H' => H' = H ∧ x = .int (i : Int)) :=
  walk_range.mono (fun _ _ => trivial) fun i H x H' _ _ y => ⟨y.1, y.2.trans (congrArg V.int (Int.zero_add _))⟩
def iEnT (K : PySem.W.Frag) (ta : TA) : TI := fun σ G R => ta σ G fun vs G1 => ∃ a zs, vs = [.ref a] ∧ SqT K G1 a zs ∧ R (EnT K a) G1
theorem pi_enT {X : Cx} {e : Expr} {ta : TA} {p pos tpos : Pos} {es : List Expr} {q : Nat} (hg : Gl X "enumerate") (hm : X.mg "enumerate" = none) (ha : PA X [e] ta)
    (hs : starEach [e] X.env = [(false, eval e X.env)] := by rfl) : PI X (.Tuple es q tpos) (.Call (.Name "enumerate" p) [e] [] pos) (iEnT X.K ta) := by
  constructor
  intro pins s σ G R I h
  refine Call_ (ld_blt I hg hm boot_enumerate (PyProof.Rows.callWith_type1 (thn (ha.run pos pins s σ G _ I h) fun us s1 ⟨vs, G1, I1, r1, a, zs, ev, hq, hR⟩ => ?_) hs rfl))
  subst ev
  obtain ⟨u, rfl, ru⟩ := vals1 r1
  cases (show u = Value.ref a from ru)
  obtain ⟨its, rv, hT, _⟩ := I1.tuple hq
  have B := begins_tuple a its.toArray
  have z : (s1.heap.push { cls := .type "tuple_iterator", data := .fields #[.ref a, .int 0 0] }).objs.size = s1.heap.objs.size + 1 := Heap.size_push ..
  have kp : ∀ c ob, s1.heap.get? c = some ob → (enHeap s1.heap { cls := .type "tuple_iterator", data := .fields #[.ref a, .int 0 0] }).get? c = some ob := fun c ob e => Heap.get?_push_of_some _ (Heap.get?_push_of_some _ e)
  have he : IsEnum (enHeap s1.heap { cls := .type "tuple_iterator", data := .fields #[.ref a, .int 0 0] }) (s1.heap.objs.size + 1) s1.heap.objs.size 0 .none := by
    have g := Heap.get?_push_size (s1.heap.push { cls := .type "tuple_iterator", data := .fields #[.ref a, .int 0 0] }) (o := { cls := .type "enumerate", data := .fields #[.none, .bool false, .ref s1.heap.objs.size, rawInt 0, .none, .none] }) rfl
    rw [z] at g
    exact g
  have hit : (enHeap s1.heap { cls := .type "tuple_iterator", data := .fields #[.ref a, .int 0 0] }).IsTupleIter s1.heap.objs.size a 0 := ⟨_, Heap.get?_push_of_some _ (Heap.get?_push_size _ rfl), rfl, rfl⟩
  refine en_call B (show s1.heap.IsTuple a its.toArray from hT) (wpAny_pyIter_enum he ?_)
  have I2 : Inv X pins σ G1 { s1 with heap := enHeap s1.heap { cls := .type "tuple_iterator", data := .fields #[.ref a, .int 0 0] } } := I1.kept (t' := s1.toks) kp
  refine ⟨s1.heap.objs.size + 1, [s1.heap.objs.size + 1, s1.heap.objs.size], _, _, G1, rfl, I2, enT_turn a (s1.heap.objs.size + 1) s1.heap.objs.size, ⟨⟨.none, he⟩, hit, Nat.succ_ne_self _⟩, fun c hc => ?_, hR⟩
  have le : s1.heap.objs.size ≤ c := by
    rcases List.mem_cons.mp hc with rfl | hc
    · exact Nat.le_succ _
    · cases List.mem_singleton.mp hc
      exact Nat.le_refl _
  exact I1.fpOk le (I1.hok.fresh le)
theorem walk_enT {K : PySem.W.Frag} {a : Addr} {xs : List V} : Walk (EnT K a) xs.length (fun H => SqT K H a xs) (YPair (fun i => some (.int (i : Nat))) (fun i => xs[i]?)) := by
  refine ⟨fun i G hi q => ⟨xs, xs[i], q, List.getElem?_eq_getElem hi⟩, fun G q => ⟨xs, q, rfl⟩, ?_⟩
  rintro i G u G' _ q ⟨T, z, h1, h2, h3, h4⟩
  exact ⟨T, .int (i : Nat), z, h1, h2, h3, rfl, h4 xs q⟩
theorem walk_zipT {K : PySem.W.Frag} {a b : Addr} {xs ys : List V} (hl : xs.length = ys.length) : Walk (RZ.ItzT K a b) xs.length (fun H => SqT K H a xs ∧ SqT K H b ys) (YPair (fun i => xs[i]?) (fun i => ys[i]?)) := by
  refine ⟨fun i G hi q => ⟨xs, ys, xs[i], ys[i], q.1, q.2, List.getElem?_eq_getElem hi, List.getElem?_eq_getElem (hl ▸ hi)⟩, fun G q => ⟨xs, ys, q.1, q.2, .inl (Nat.le_refl _)⟩, ?_⟩
  rintro i G u G' _ q ⟨T, x, y, h1, h2, h3, h4, h5⟩
  exact ⟨T, x, y, h1, h2, h3, h4 xs q.1, h5 ys q.2⟩
end VL

namespace VL
open PySem PySem.Spec PyProof.Rows L2
/-! ### terms: lists of pairs of ints -/
/-- the values xs are the pairs ts -/
def TermsAt (H : Hp) (xs : List V) (ts : List (Int × Int)) : Prop := xs.length = ts.length ∧ ∀ (i : Nat) x, xs[i]? = some x → ∃ p m d, ts[i]? = some (m, d) ∧ x = .ref p ∧ H p = some (.tup [.int m, .int d])
theorem TermsAt.nil {H : Hp} : TermsAt H [] [] := ⟨rfl, fun i x e => by cases e⟩
theorem TermsAt.keep {H H' : Hp} {xs : List V} {ts : List (Int × Int)} (h : TermsAt H xs ts) (k : KT H H') : TermsAt H' xs ts := ⟨h.1, fun i x e => by
  obtain ⟨p, m, d, h1, h2, h3⟩ := h.2 i x e
  exact ⟨p, m, d, h1, h2, k _ _ h3⟩⟩
theorem TermsAt.snoc {H : Hp} {xs : List V} {ts : List (Int × Int)} {p : Addr} {m d : Int} (h : TermsAt H xs ts) (e : H p = some (.tup [.int m, .int d])) : TermsAt H (xs ++ [.ref p]) (ts ++ [(m, d)]) := by
  refine ⟨by rw [List.length_append, List.length_append, h.1]; rfl, fun i x ex => ?_⟩
  by_cases hi : i < xs.length
  · rw [List.getElem?_append_left hi] at ex
    rw [List.getElem?_append_left (by rw [← h.1]; exact hi)]
    exact h.2 i x ex
  · rw [List.getElem?_append_right (by omega)] at ex
    have : i - xs.length = 0 := by
      have := (List.getElem?_eq_some_iff.mp ex).1
      rw [List.length_singleton] at this
      omega
    rw [this] at ex
    rw [List.getElem?_append_right (by rw [← h.1]; omega), ← h.1, this]
    exact ⟨p, m, d, rfl, (Option.some.inj ex).symm, e⟩
theorem TermsAt.at {H : Hp} {xs : List V} {ts : List (Int × Int)} {i : Nat} {m d : Int} (h : TermsAt H xs ts) (e : ts[i]? = some (m, d)) : ∃ p, xs[i]? = some (.ref p) ∧ H p = some (.tup [.int m, .int d]) := by
  have hi : i < xs.length := by
    rw [h.1]
    exact (List.getElem?_eq_some_iff.mp e).1
  obtain ⟨p, m', d', h1, h2, h3⟩ := h.2 i _ (List.getElem?_eq_getElem hi)
  rw [e] at h1
  cases h1
  exact ⟨p, by rw [List.getElem?_eq_getElem hi, h2], h3⟩
/-- two lists of the same terms hold the same data -/
theorem TermsAt.sm {H : Hp} {n : Nat} {p q : Addr} {xs ys : List V} {ts : List (Int × Int)} (hp : H p = some (.lst xs)) (hq : H q = some (.lst ys)) (h1 : TermsAt H xs ts) (h2 : TermsAt H ys ts) (hz : ts.length ≤ 100000) : Sm H (n + 2) (.ref p) (.ref q) := by
  refine Sm.lst hp hq (by rw [h1.1, h2.1]) (by rw [h1.1]; exact hz) fun i u v hu hv => ?_
  obtain ⟨a, m, d, e1, rfl, e3⟩ := h1.2 i u hu
  obtain ⟨b, m', d', e4, rfl, e6⟩ := h2.2 i v hv
  rw [e1] at e4
  cases e4
  refine Sm.tupF e3 e6 (by show 2 ≤ 100000; decide) fun x hx => ?_
  rcases List.mem_cons.mp hx with rfl | hx
  · rfl
  · rcases List.mem_cons.mp hx with rfl | hx
    · rfl
    · cases hx
end VL

namespace VL
open PySem PySem.Spec PyProof.Rows L2
open C8 (Cal pe_c)
def top (i : Nat) : Stmt := PySem.Challenge.pw_shelfterms_k05_steps_and_terms.main.body.getD i (.Pass ⟨0, 0, 0, 0⟩)
structure Tx (mg : Str → Option Value) : Prop where
  len : mg "len" = none
  list : mg "list" = none
  int : mg "int" = none
  isinstance : mg "isinstance" = none
  bool : mg "bool" = none
  str : mg "str" = none
  tuple : mg "tuple" = none
  range : mg "range" = none
  zip : mg "zip" = none
  enumerate : mg "enumerate" = none
section
variable {P : Program} {w : World} {K : PySem.W.Frag} {mg : Str → Option Value} {base : Heap}
abbrev sLbox : Stmt := top 8
theorem scLbox : FnScope ["_law_script"] ["_law_script"] (defScope sLbox) := ⟨rfl, rfl, rfl, by decide +kernel, rfl, by decide +kernel, by decide +kernel⟩
theorem ok_box {f : Addr} {fd : FuncData} (F : Fun K "_law_box" "_law_box" sLbox f fd) (T : Tx mg) : FnOk P w K mg base CX0 1 f fd ["_law_script"] (spBox K) := by
  refine F.ok scLbox (fun vs H Q E h => ?_) (fun cdv A outer s H vs Q E hr h => ?_)
  · obtain ⟨a, ns, rfl, _⟩ := h
    rfl
  obtain ⟨a, ns, rfl, hS, hlen, q⟩ := h
  refine ⟨_, (pss_one (ps_ret (pe_lst (pa_cons (pe_callTy call_list_of (by rfl) T.list (by decide +kernel) (pa_cons (pe_slice sl_list (pv 0) po_none (po_some pe_int)) pa_nil)) (pa_cons pe_int (pa_cons pe_int (pa_cons pe_int pa_nil))))))), ?_⟩
  obtain ⟨cs, ec⟩ := cutV_ints ns none (some 63)
  refine ⟨.ref a, rfl, 63, rfl, a, ns.map V.int, rfl, hS, fun c nc => ?_⟩
  rw [ec]
  refine ⟨c, cs.map V.int, rfl, .inl (.inl (.inl upd_same)), fun L nL => ?_⟩
  refine ⟨by show 4 ≤ sizeLine; decide, fun b nb => ?_⟩
  have s1 : Same H (upd H c (.lst (cs.map V.int))) := same_upd nc
  have s2 : Same _ (upd (upd H c (.lst (cs.map V.int))) L (.lst (cs.map V.int))) := same_upd nL
  have s3 := same_upd (o := .lst [.ref L, .int 0, .int 0, .int 1]) nb
  have nLb : L ≠ b := fun e => by rw [← e, upd_same] at nb; cases nb
  refine q b L _ ((s1.trans s2).free nb) (s1.free nL) (s1.trans (s2.trans s3)) ⟨cs, 0, 0, 1, nLb, ?_, upd_same, by decide, by decide, by decide⟩
  rw [upd_ne nLb, upd_same]
abbrev sLtake : Stmt := top 9
theorem scLtake : FnScope ["_law_box_here", "_law_size", "_law_cell", "_law_digit"] ["_law_box_here", "_law_size"] (defScope sLtake) := ⟨rfl, rfl, rfl, by decide +kernel, rfl, by decide +kernel, by decide +kernel⟩
theorem ok_take {f : Addr} {fd : FuncData} (F : Fun K "_law_take" "_law_take" sLtake f fd) (T : Tx mg) : FnOk P w K mg base CX0 1 f fd ["_law_box_here", "_law_size"] spTake := by
  refine F.ok scLtake (fun vs H Q E h => ?_) (fun cdv A outer s H vs Q E hr h => ?_)
  · obtain ⟨b, L, n, rfl, _⟩ := h
    rfl
  obtain ⟨b, L, n, rfl, n0, n1, ⟨cs, p, r, x, nLb, hL, hb, p0, x0, x1⟩, q⟩ := h
  refine ⟨_, (C8.pss_cut (ps_if (PW.pt (pw_and (pt_cmpR op_eq (pe_ix ix_list (pv 0) pe_int (fun _ _ => rfl)) pe_int (nomark _)) (pw_and1 (pt_cmpR op_lt (pe_ix ix_list (pv 0) pe_int (fun _ _ => rfl)) (pe_callB call_len_seq (by rfl) T.len PySem.boot_len (pa_cons (pe_ix ix_list (pv 0) pe_int (fun _ _ => rfl)) pa_nil)) (nomark _)))))
    (pss_cons (ps_set (i := 2) scLtake.nd rfl (Or.inl rfl) (pe_ix ix_list (pe_ix ix_list (pv 0) pe_int (fun _ _ => rfl)) (pe_ix ix_list (pv 0) pe_int (fun _ _ => rfl)) (fun _ _ => rfl)))
    (pss_cons (ps_asg (pe_op op_add (pe_ix ix_list (pv 0) pe_int (fun _ _ => rfl)) pe_int) (pg_sub (pv 0) pe_int set_list))
    (pss_one (ps_if (pt_cmpR op_ge (pv 2) (pe_op op_pow pe_int pe_int) (nomark _))
      (pss_one (ps_asg (pe_op op_sub (pv 2) (pe_op op_pow pe_int pe_int)) (pg_sub (pv 0) pe_int set_list)))
      (pss_one (ps_asg (pe_op op_mod (pe_callTy call_int1 (by rfl) T.int (by decide +kernel) (pa_cons (pe_op op_add (pe_op op_mul (pe_ix ix_list (pv 0) pe_int (fun _ _ => rfl)) pe_int) (pv 2)) pa_nil)) pe_int) (pg_sub (pv 0) pe_int set_list)))))))
    pss_nil)
  (pss_cons (ps_if (pt_cmpR op_gt (pe_ix ix_list (pv 0) pe_int (fun _ _ => rfl)) pe_int (nomark _))
    (pss_cons (ps_set (i := 3) scLtake.nd rfl (Or.inl rfl) (pe_op op_mod (pe_callTy call_int1 (by rfl) T.int (by decide +kernel) (pa_cons (pe_ix ix_list (pv 0) pe_int (fun _ _ => rfl)) pa_nil)) (pv 1)))
    (pss_cons (ps_asg (pe_op op_fdivW (pe_ix ix_list (pv 0) pe_int (fun _ _ => rfl)) (pv 1)) (pg_sub (pv 0) pe_int set_list))
    (pss_one (ps_ret (pv 3)))))
    pss_nil)
  (pss_cons (ps_asg (pe_op op_mod (pe_callTy call_int1 (by rfl) T.int (by decide +kernel) (pa_cons (pe_op op_add (pe_op op_mul (pe_ix ix_list (pv 0) pe_int (fun _ _ => rfl)) pe_int) pe_int) pa_nil)) pe_int) (pg_sub (pv 0) pe_int set_list))
  (pss_one (ps_ret (pe_op op_mod (pe_callTy call_int1 (by rfl) T.int (by decide +kernel) (pa_cons (pe_op op_fdivW (pe_ix ix_list (pv 0) pe_int (fun _ _ => rfl)) pe_int) pa_nil)) (pv 1))))))), ?_⟩
  have hU : ∀ {o u : HO}, upd (upd H b o) b u = upd H b u := upd_upd
  have cp : CPow 10 18 := ⟨by decide, by decide, by decide⟩
  refine ⟨fun σ' H' => ∃ y2 p r x, σ' = [some (.ref b), some (.int n), y2, none] ∧ H' = upd H b (.lst [.ref L, .int p, .int r, .int x]) ∧ 0 ≤ p ∧ 0 ≤ x ∧ x < 2147483647, ?_, ?_⟩
  · have stay : ∃ (y2 : Option V) (p' r' x' : Int), ([some (.ref b), some (.int n), none, none] : L2.St) = [some (.ref b), some (.int n), y2, none] ∧ H = upd H b (.lst [.ref L, .int p', .int r', .int x']) ∧ 0 ≤ p' ∧ 0 ≤ x' ∧ x' < 2147483647 := ⟨none, p, r, x, rfl, (upd_self hb).symm, p0, x0, x1⟩
    refine ⟨_, rfl, b, _, 2, _, rfl, rfl, SqL.of hb, rfl, rfl, _, rfl, ite2 (fun _ => ?_) (fun _ => iteF stay)⟩
    refine ⟨_, rfl, b, _, 1, _, rfl, rfl, SqL.of hb, rfl, _, rfl, b, _, 0, _, rfl, rfl, SqL.of hb, rfl, L, _, rfl, .inl (SqL.of hL), _, _, rfl, rfl, _, rfl, ite2 (fun e => ?_) (fun _ => stay)⟩
    have hp : p < (cs.length : Int) := by
      have := of_decide_eq_true e
      rw [List.length_map] at this
      exact this
    obtain ⟨c, _, hc⟩ := atI_ints p0 hp
    refine ⟨_, rfl, b, _, 0, _, rfl, rfl, SqL.of hb, rfl, _, rfl, b, _, 1, _, rfl, rfl, SqL.of hb, rfl, L, _, p, .int c, rfl, rfl, SqL.of hL, hc, ?_⟩
    refine ⟨_, rfl, b, _, 1, _, rfl, rfl, SqL.of hb, rfl, _, _, rfl, rfl, _, rfl, b, _, 1, 1, rfl, rfl, hb, rfl, ?_⟩
    have hb1 : (upd H b (.lst [.ref L, .int (p + 1), .int r, .int x])) b = some (.lst [.ref L, .int (p + 1), .int r, .int x]) := upd_same
    refine ⟨_, rfl, _, _, rfl, rfl, cp, _, _, rfl, rfl, _, rfl, ite2 (fun _ => ?_) (fun _ => ?_)⟩
    · refine ⟨_, rfl, _, _, rfl, rfl, cp, _, _, rfl, rfl, _, rfl, b, _, 2, 2, rfl, rfl, hb1, rfl, ?_⟩
      exact ⟨_, p + 1, _, x, rfl, hU, by omega, x0, x1⟩
    · refine ⟨_, rfl, b, _, 3, _, rfl, rfl, SqL.of hb1, rfl, _, _, rfl, rfl, .inl ⟨by omega, by omega⟩, _, rfl, _, _, rfl, rfl, .inl ⟨_, rfl, ?_⟩⟩
      refine ⟨_, _, rfl, rfl, (by show (0 : Int) < 2147483647; decide), _, rfl, b, _, 3, 3, rfl, rfl, hb1, rfl, ?_⟩
      exact ⟨_, p + 1, r, _, rfl, hU, by omega, Int.emod_nonneg _ (by decide), Int.emod_lt_of_pos _ (by decide)⟩
  · rintro σ' H' ⟨y2, p, r, x, rfl, rfl, p0, x0, x1⟩
    have hb1 : (upd H b (.lst [.ref L, .int p, .int r, .int x])) b = some (.lst [.ref L, .int p, .int r, .int x]) := upd_same
    have done : ∀ (v p r x : Int), 0 ≤ v → v < n → 0 ≤ p → 0 ≤ x → x < 2147483647 → Q (.int v) (upd H b (.lst [.ref L, .int p, .int r, .int x])) := fun v p r x h1 h2 h3 h4 h5 =>
      q v _ h1 h2 ⟨cs, p, r, x, nLb, by rw [upd_ne nLb]; exact hL, upd_same, h3, h4, h5⟩ ⟨_, rfl⟩
    have hn : CDivW r n := wide_div (b := 64) n0 (by omega) (by decide) (by decide)
    refine ⟨_, rfl, b, _, 2, _, rfl, rfl, SqL.of hb1, rfl, _, _, rfl, rfl, _, rfl, ite2 (fun _ => ?_) (fun _ => ?_)⟩
    · refine ⟨_, rfl, b, _, 2, _, rfl, rfl, SqL.of hb1, rfl, .inl ⟨_, rfl, ?_⟩⟩
      refine ⟨_, rfl, _, _, rfl, rfl, n0, ?_⟩
      refine ⟨_, rfl, b, _, 2, _, rfl, rfl, SqL.of hb1, rfl, _, rfl, _, _, rfl, rfl, hn, _, rfl, b, _, 2, 2, rfl, rfl, hb1, rfl, ?_⟩
      refine ⟨_, rfl, ?_⟩
      show Q _ (upd (upd H b _) b _)
      rw [hU]
      exact done _ _ _ _ (Int.emod_nonneg _ (by omega)) (Int.emod_lt_of_pos _ n0) p0 x0 x1
    · refine ⟨_, rfl, b, _, 3, _, rfl, rfl, SqL.of hb1, rfl, _, _, rfl, rfl, .inl ⟨by omega, by omega⟩, _, _, rfl, rfl, .inl ⟨_, rfl, ?_⟩⟩
      refine ⟨_, _, rfl, rfl, (by show (0 : Int) < 2147483647; decide), _, rfl, b, _, 3, 3, rfl, rfl, hb1, rfl, ?_⟩
      refine ⟨_, rfl, b, _, 3, _, rfl, rfl, SqL.of upd_same, rfl, _, _, rfl, rfl, wide_div (b := 64) (by decide) (by decide) (by decide) (by decide), .inl ⟨_, rfl, ?_⟩⟩
      refine ⟨_, rfl, _, _, rfl, rfl, n0, ?_⟩
      show Q _ (upd (upd H b _) b _)
      rw [hU]
      exact done _ _ _ _ (Int.emod_nonneg _ (by omega)) (Int.emod_lt_of_pos _ n0) p0 (Int.emod_nonneg _ (by decide)) (Int.emod_lt_of_pos _ (by decide))
end
end VL

namespace VL
open PySem PySem.Spec PyProof.Rows L2
open C8 (Cal pe_c)
section
variable {P : Program} {w : World} {K : PySem.W.Frag} {mg : Str → Option Value} {base : Heap}
abbrev sLsame : Stmt := top 10
theorem scLsame : FnScope ["_law_actual", "_law_due", "_law_k"] ["_law_actual", "_law_due"] (defScope sLsame) := ⟨rfl, rfl, rfl, by decide +kernel, rfl, by decide +kernel, by decide +kernel⟩
theorem ok_same_n {n : Nat} {f : Addr} {fd : FuncData} (F : Fun K "_law_same" "_law_same" sLsame f fd) (T : Tx mg) (cLsame : Cal P w K mg base n "_law_same" (spSame n) []) : FnOk P w K mg base CX0 (n + 1) f fd ["_law_actual", "_law_due"] (spSame (n + 1)) := by
  refine F.ok scLsame (fun vs H Q E h => ?_) (fun cdv A outer s H vs Q E hr h => ?_)
  · obtain ⟨x, y, rfl, _⟩ := h
    rfl
  obtain ⟨x, y, rfl, hs, q⟩ := h
  refine ⟨_, (pss_cons (ps_if (pt_cmpR op_isN (pv 1) pe_non (nomark _))
    (pss_one (ps_ret (pe_cmpR op_isN (pv 0) pe_non (nomark _))))
    pss_nil)
  (pss_cons (ps_if (pt_val (pe_callB call_isi (by rfl) T.isinstance (by decide +kernel) (pa_cons (pv 1) (pa_cons (pe_bltn (v := .ty "bool") rfl T.bool (by decide +kernel) rfl) pa_nil))))
    (pss_one (ps_ret (pe_and (pe_callB call_isi (by rfl) T.isinstance (by decide +kernel) (pa_cons (pv 0) (pa_cons (pe_bltn (v := .ty "bool") rfl T.bool (by decide +kernel) rfl) pa_nil))) (pe_one (pe_cmpR op_eq (pv 0) (pv 1) (nomark _))))))
    pss_nil)
  (pss_cons (ps_if (pt_val (pe_callB call_isi (by rfl) T.isinstance (by decide +kernel) (pa_cons (pv 1) (pa_cons (pe_bltn (v := .ty "int") rfl T.int (by decide +kernel) rfl) pa_nil))))
    (pss_one (ps_ret (pe_and (pe_callB call_isi (by rfl) T.isinstance (by decide +kernel) (pa_cons (pv 0) (pa_cons (pe_bltn (v := .ty "int") rfl T.int (by decide +kernel) rfl) pa_nil))) (pe_and (pe_not (pe_callB call_isi (by rfl) T.isinstance (by decide +kernel) (pa_cons (pv 0) (pa_cons (pe_bltn (v := .ty "bool") rfl T.bool (by decide +kernel) rfl) pa_nil)))) (pe_one (pe_cmpR op_eq (pv 0) (pv 1) (nomark _)))))))
    pss_nil)
  (pss_cons (ps_if (pt_val (pe_callB call_isi (by rfl) T.isinstance (by decide +kernel) (pa_cons (pv 1) (pa_cons (pe_bltn (v := .ty "str") rfl T.str (by decide +kernel) rfl) pa_nil))))
    (pss_one (ps_ret (pe_and (pe_callB call_isi (by rfl) T.isinstance (by decide +kernel) (pa_cons (pv 0) (pa_cons (pe_bltn (v := .ty "str") rfl T.str (by decide +kernel) rfl) pa_nil))) (pe_one (pe_cmpR op_eq (pv 0) (pv 1) (nomark _))))))
    pss_nil)
  (pss_cons (ps_if (pt_cmpR op_ne (pe_callB call_isi (by rfl) T.isinstance (by decide +kernel) (pa_cons (pv 1) (pa_cons (pe_bltn (v := .ty "tuple") rfl T.tuple (by decide +kernel) rfl) pa_nil))) (pe_callB call_isi (by rfl) T.isinstance (by decide +kernel) (pa_cons (pv 0) (pa_cons (pe_bltn (v := .ty "tuple") rfl T.tuple (by decide +kernel) rfl) pa_nil))) (nomark _))
    (pss_one (ps_ret pe_bl))
    pss_nil)
  (pss_cons (ps_if (PW.pt (pw_or (pt_cmpR op_ne (pe_callB call_isi (by rfl) T.isinstance (by decide +kernel) (pa_cons (pv 1) (pa_cons (pe_bltn (v := .ty "list") rfl T.list (by decide +kernel) rfl) pa_nil))) (pe_callB call_isi (by rfl) T.isinstance (by decide +kernel) (pa_cons (pv 0) (pa_cons (pe_bltn (v := .ty "list") rfl T.list (by decide +kernel) rfl) pa_nil))) (nomark _)) (pw_or1 (pt_cmpR op_ne (pe_callB call_len_seq (by rfl) T.len PySem.boot_len (pa_cons (pv 0) pa_nil)) (pe_callB call_len_seq (by rfl) T.len PySem.boot_len (pa_cons (pv 1) pa_nil)) (nomark _)))))
    (pss_one (ps_ret pe_bl))
    pss_nil)
  (pss_cons (ps_for PassesOwn.never rfl (pi_range1 rfl T.range (pa_cons (pe_callB call_len_seq (by rfl) T.len PySem.boot_len (pa_cons (pv 1) pa_nil)) pa_nil)) (pg_name (i := 2) scLsame.nd rfl (Or.inl rfl))
    (pss_one (ps_if (pt_not (pt_val (pe_c cLsame hr (Nat.le_refl _) rfl (pa_cons (pe_ix ix_seq (pv 0) (pv 2) (fun _ _ => rfl)) (pa_cons (pe_ix ix_seq (pv 1) (pv 2) (fun _ _ => rfl)) pa_nil)))))
      (pss_one (ps_ret pe_bl))
      pss_nil)))
  (pss_one (ps_ret pe_bl))))))))), ?_⟩
  rcases hs.cases with ⟨rfl, hf⟩ | ⟨m, a, b, xs, ys, rfl, rfl, rfl, hab, hl, hz, hs⟩
  · cases x with
    | non => exact ⟨_, rfl, rfl, _, rfl, iteT' rfl ⟨_, rfl, rfl, q⟩⟩
    | bl c =>
      refine ⟨_, rfl, rfl, _, rfl, iteF' rfl ?_⟩
      refine ⟨_, rfl, ⟨_, _, .type "bool", _, true, rfl, .ty _, .base (.bl _), kit_ty (by decide +kernel), ⟨_, rfl, iteT' rfl ?_⟩⟩⟩
      refine ⟨_, rfl, ⟨_, _, .type "bool", _, true, rfl, .ty _, .base (.bl _), kit_ty (by decide +kernel), ⟨_, rfl, iteT' rfl ?_⟩⟩⟩
      refine ⟨_, rfl, _, rfl, rfl, ?_⟩
      rw [decide_eq_true rfl]
      exact q
    | int c =>
      refine ⟨_, rfl, rfl, _, rfl, iteF' rfl ?_⟩
      refine ⟨_, rfl, ⟨_, _, .type "int", _, false, rfl, .ty _, .base (.int _), kit_ty (by decide +kernel), ⟨_, rfl, iteF' rfl ?_⟩⟩⟩
      refine ⟨_, rfl, ⟨_, _, .type "int", _, true, rfl, .ty _, .base (.int _), kit_ty (by decide +kernel), ⟨_, rfl, iteT' rfl ?_⟩⟩⟩
      refine ⟨_, rfl, ⟨_, _, .type "int", _, true, rfl, .ty _, .base (.int _), kit_ty (by decide +kernel), ⟨_, rfl, iteT' rfl ?_⟩⟩⟩
      refine ⟨_, rfl, ⟨_, _, .type "int", _, false, rfl, .ty _, .base (.int _), kit_ty (by decide +kernel), ⟨_, rfl, _, rfl, iteT' rfl ?_⟩⟩⟩
      refine ⟨_, rfl, _, rfl, rfl, ?_⟩
      rw [decide_eq_true rfl]
      exact q
    | str c =>
      refine ⟨_, rfl, rfl, _, rfl, iteF' rfl ?_⟩
      refine ⟨_, rfl, ⟨_, _, .type "str", _, false, rfl, .ty _, .base (.str _), kit_ty (by decide +kernel), ⟨_, rfl, iteF' rfl ?_⟩⟩⟩
      refine ⟨_, rfl, ⟨_, _, .type "str", _, false, rfl, .ty _, .base (.str _), kit_ty (by decide +kernel), ⟨_, rfl, iteF' rfl ?_⟩⟩⟩
      refine ⟨_, rfl, ⟨_, _, .type "str", _, true, rfl, .ty _, .base (.str _), kit_ty (by decide +kernel), ⟨_, rfl, iteT' rfl ?_⟩⟩⟩
      refine ⟨_, rfl, ⟨_, _, .type "str", _, true, rfl, .ty _, .base (.str _), kit_ty (by decide +kernel), ⟨_, rfl, iteT' rfl ?_⟩⟩⟩
      refine ⟨_, rfl, _, rfl, rfl, ?_⟩
      rw [decide_eq_true rfl]
      exact q
    | _ => cases hf
  · have hA : SqL K H a xs ∨ SqT K H a xs := hab.elim (fun h => .inl (SqL.of h.1)) fun h => .inr (SqT.of h.1)
    have hB : SqL K H b ys ∨ SqT K H b ys := hab.elim (fun h => .inl (SqL.of h.2)) fun h => .inr (SqT.of h.2)
    obtain ⟨t, tl, tt, tyA, tyB, k1, k2, k3, k4, k5⟩ : ∃ (t : String) (tl tt : Bool), TyX K H (.ref a) (.type t) ∧ TyX K H (.ref b) (.type t) ∧ kitB t "bool" = some false ∧ kitB t "int" = some false ∧ kitB t "str" = some false ∧ kitB t "tuple" = some tt ∧ kitB t "list" = some tl := by
      rcases hab with h | h
      · exact ⟨"list", true, false, .base (.lst h.1), .base (.lst h.2), by decide +kernel, by decide +kernel, by decide +kernel, by decide +kernel, by decide +kernel⟩
      · exact ⟨"tuple", false, true, .base (.tup h.1), .base (.tup h.2), by decide +kernel, by decide +kernel, by decide +kernel, by decide +kernel, by decide +kernel⟩
    have no : ∀ c : V, (!decide (c = c)) = false := fun c => by rw [decide_eq_true rfl]; rfl
    refine ⟨_, rfl, rfl, _, rfl, iteF' rfl ?_⟩
    refine ⟨_, rfl, ⟨_, _, .type t, _, false, rfl, .ty _, tyB, kit_ty k1, ⟨_, rfl, iteF' rfl ?_⟩⟩⟩
    refine ⟨_, rfl, ⟨_, _, .type t, _, false, rfl, .ty _, tyB, kit_ty k2, ⟨_, rfl, iteF' rfl ?_⟩⟩⟩
    refine ⟨_, rfl, ⟨_, _, .type t, _, false, rfl, .ty _, tyB, kit_ty k3, ⟨_, rfl, iteF' rfl ?_⟩⟩⟩
    refine ⟨_, rfl, ⟨_, _, .type t, _, tt, rfl, .ty _, tyB, kit_ty k4, ⟨_, rfl, ⟨_, _, .type t, _, tt, rfl, .ty _, tyA, kit_ty k4, ⟨rfl, _, rfl, iteF' (no _) ?_⟩⟩⟩⟩⟩
    refine ⟨_, rfl, ⟨_, _, .type t, _, tl, rfl, .ty _, tyB, kit_ty k5, ⟨_, rfl, ⟨_, _, .type t, _, tl, rfl, .ty _, tyA, kit_ty k5, ⟨rfl, _, rfl, iteF' (no _) ?_⟩⟩⟩⟩⟩
    refine ⟨_, rfl, a, xs, rfl, hA, _, rfl, b, ys, rfl, hB, rfl, _, rfl, iteF' (by rw [hl]; exact no _) ?_⟩
    refine ⟨_, rfl, b, ys, rfl, hB, _, rfl, by omega, by omega, for_range (lo := 0) (n := ((ys.length : Nat) : Int).toNat) (fun i σ H' => ∃ z, σ = [some (.ref a), some (.ref b), z] ∧ H' = H) ⟨none, rfl, rfl⟩ ?_ ?_⟩
    · rintro i σ H' hi ⟨z, rfl, rfl⟩
      have h1 : i < ys.length := by omega
      have h2 : i < xs.length := by omega
      have e0 : (0 : Int) + (i : Int) = (i : Int) := Int.zero_add _
      have g1 : xs[i]? = some xs[i] := List.getElem?_eq_getElem h2
      have g2 : ys[i]? = some ys[i] := List.getElem?_eq_getElem h1
      refine ⟨_, rfl, _, rfl, ?_⟩
      have step : ∀ {c : Addr} {zs : List V} {z : V} {R : VK}, (SqL K H' c zs ∨ SqT K H' c zs) → zs[i]? = some z → R z H' → rIx K (.ref c) (.int ((0 : Int) + (i : Int))) H' R := fun {c zs z R} hc hz r => by
        rw [e0]
        rcases hc with hc | hc
        · exact .inl ⟨c, zs, i, z, rfl, rfl, hc, atI_nat hz, r⟩
        · exact .inr (.inl ⟨c, zs, i, z, rfl, rfl, hc, atI_nat hz, r⟩)
      refine step hA g1 ⟨_, rfl, _, rfl, step hB g2 ?_⟩
      refine ⟨_, _, rfl, hs i _ _ g1 g2, _, rfl, iteF' rfl ?_⟩
      exact ⟨_, rfl, rfl⟩
    · rintro σ H' ⟨z, rfl, rfl⟩
      exact q
theorem cal_same {f : Addr} {fd : FuncData} (F : Fun K "_law_same" "_law_same" sLsame f fd) (T : Tx mg) (hm : mg "_law_same" = some (.ref f)) (b : Binds K fd ["_law_actual", "_law_due"] []) : ∀ n : Nat, Cal P w K mg base n "_law_same" (spSame n) []
  | 0 => cal_of F fn_no hm b
  | n + 1 => cal_of F (ok_same_n F T (cal_same F T hm b n)) hm b
end
end VL

namespace VL
open PySem PySem.Spec PyProof.Rows L2
open C8 (Cal pe_c)
/-! ### steps, as functions -/
def sgn (n : Int) : Int := if n = 0 then 0 else if 0 < n then 1 else -1
def spSign : Sp := fun vs H Q _ => ∃ n, vs = [.int n] ∧ Q (.int (sgn n)) H
def steps (xs ys : List Int) : List Int := List.zipWith (fun x y => sgn (y - x)) xs ys
theorem steps_at {xs ys : List Int} {i : Nat} {x y : Int} (hx : xs[i]? = some x) (hy : ys[i]? = some y) : (steps xs ys)[i]? = some (sgn (y - x)) := by
  unfold steps
  rw [List.getElem?_zipWith, hx, hy]
theorem steps_len {xs ys : List Int} (h : xs.length = ys.length) : (steps xs ys).length = xs.length := by
  unfold steps
  rw [List.length_zipWith, ← h, Nat.min_self]
theorem steps_snoc {xs ys : List Int} {x y : Int} (h : xs.length = ys.length) : steps (xs ++ [x]) (ys ++ [y]) = steps xs ys ++ [sgn (y - x)] := by
  unfold steps
  rw [List.zipWith_append h]
  rfl
def spStep (K : PySem.W.Frag) : Sp := fun vs H Q _ => ∃ (a b : Addr) (xs ys : List Int), vs = [.ref a, .ref b] ∧ SqT K H a (xs.map V.int) ∧ SqT K H b (ys.map V.int) ∧ xs.length = ys.length ∧ xs.length ≤ 1000 ∧
  ∀ p H', H p = none → Same H H' → H' p = some (.tup ((steps xs ys).map V.int)) → Q (.ref p) H'
/-- the terms (k, f s) of the marks k whose sign s is not 0, of the first n marks -/
def nz (f : Int → Int) (sg : List Int) : Nat → List (Int × Int)
  | 0 => []
  | n + 1 => if sg.getD n 0 ≠ 0 then nz f sg n ++ [((n : Int), f (sg.getD n 0))] else nz f sg n
theorem nz_yes {f : Int → Int} {sg : List Int} {n : Nat} {v : Int} (h : sg[n]? = some v) (hv : v ≠ 0) : nz f sg (n + 1) = nz f sg n ++ [((n : Int), f v)] := by
  have e : sg.getD n 0 = v := by rw [List.getD_eq_getElem?_getD, h]; rfl
  show (if sg.getD n 0 ≠ 0 then nz f sg n ++ [((n : Int), f (sg.getD n 0))] else _) = _
  rw [e, if_pos hv]
theorem nz_no {f : Int → Int} {sg : List Int} {n : Nat} (h : sg[n]? = some 0) : nz f sg (n + 1) = nz f sg n := by
  have e : sg.getD n 0 = 0 := by rw [List.getD_eq_getElem?_getD, h]; rfl
  show (if sg.getD n 0 ≠ 0 then _ else nz f sg n) = _
  rw [e, if_neg (fun z => z rfl)]
theorem nz_len (f : Int → Int) (sg : List Int) : ∀ n, (nz f sg n).length ≤ n
  | 0 => Nat.le_refl _
  | n + 1 => by
    have := nz_len f sg n
    show (if sg.getD n 0 ≠ 0 then nz f sg n ++ [((n : Int), f (sg.getD n 0))] else nz f sg n).length ≤ n + 1
    split
    · rw [List.length_append, List.length_singleton]; omega
    · omega
/-- a new list of terms -/
def NewTerms (H : Hp) (Q : VK) (ts : List (Int × Int)) : Prop := ∀ p xs H', H p = none → Same H H' → H' p = some (.lst xs) → TermsAt H' xs ts → Q (.ref p) H'
def spNz (K : PySem.W.Frag) (f : Int → Int) : Sp := fun vs H Q _ => ∃ (a : Addr) (sg : List Int), vs = [.ref a] ∧ SqT K H a (sg.map V.int) ∧ sg.length ≤ 1000 ∧ NewTerms H Q (nz f sg sg.length)
/-- the k-th term of all -/
def tm (k : Nat) : Int × Int := (((k / 2 : Nat) : Int), if k % 2 = 0 then 1 else -1)
def tms (n : Nat) : List (Int × Int) := (List.range n).map tm
theorem tms_succ (n : Nat) : tms (n + 1) = tms n ++ [tm n] := by
  unfold tms
  rw [List.range_succ, List.map_append]
  rfl
theorem tms_len (n : Nat) : (tms n).length = n := by unfold tms; rw [List.length_map, List.length_range]
theorem tms_at {n k : Nat} (h : k < n) : (tms n)[k]? = some (tm k) := by
  unfold tms
  rw [List.getElem?_map, List.getElem?_range h]
  rfl
def spAll : Sp := fun vs H Q _ => ∃ n : Nat, vs = [.int n] ∧ n ≤ 1000 ∧ NewTerms H Q (tms (2 * n))
def spRank (K : PySem.W.Frag) : Sp := fun vs H Q _ => ∃ (p : Addr) (m d : Int), vs = [.ref p] ∧ SqT K H p [.int m, .int d] ∧ Q (.int (if d = 1 then 2 * m else 2 * m + 1)) H
section
variable {P : Program} {w : World} {K : PySem.W.Frag} {mg : Str → Option Value} {base : Heap}
abbrev ssign : Stmt := top 2
theorem scsign : FnScope ["number"] ["number"] (defScope ssign) := ⟨rfl, rfl, rfl, by decide +kernel, rfl, by decide +kernel, by decide +kernel⟩
theorem ok_sign {f : Addr} {fd : FuncData} (F : Fun K "_sign" "_sign" ssign f fd) : FnOk P w K mg base CX0 1 f fd ["number"] spSign := by
  refine F.ok scsign (fun vs H Q E h => ?_) (fun cdv A outer s H vs Q E hr h => ?_)
  · obtain ⟨n, rfl, _⟩ := h
    rfl
  obtain ⟨n, rfl, q⟩ := h
  refine ⟨_, (pss_cons (ps_if (pt_cmpR op_eq (pv 0) pe_int (nomark _))
    (pss_one (ps_ret pe_int))
    pss_nil)
  (pss_one (ps_ret (pe_ifExp (pt_cmpR op_gt (pv 0) pe_int (nomark _)) pe_int (pe_un un_neg pe_int))))), ?_⟩
  refine ⟨_, rfl, rfl, _, rfl, ite2 (fun e => ?_) (fun e => ?_)⟩
  · have z := V.int.inj (of_decide_eq_true e)
    subst z
    exact q
  · have nz : n ≠ 0 := fun z => by
      subst z
      rw [decide_eq_true rfl] at e
      exact e rfl
    refine ⟨_, rfl, _, _, rfl, rfl, _, rfl, ite2 (fun e => ?_) (fun e => ?_)⟩
    · have := of_decide_eq_true e
      rw [show sgn n = 1 by unfold sgn; rw [if_neg nz, if_pos this]] at q
      exact q
    · have := of_decide_eq_false (Bool.eq_false_iff.mpr e)
      rw [show sgn n = -1 by unfold sgn; rw [if_neg nz, if_neg this]] at q
      exact ⟨_, rfl, q⟩
abbrev sstepbetween : Stmt := top 1
theorem scstepbetween : FnScope ["earlier", "later", "before", "after"] ["earlier", "later"] (defScope sstepbetween) := ⟨rfl, rfl, rfl, by decide +kernel, rfl, by decide +kernel, by decide +kernel⟩
theorem ok_step {f : Addr} {fd : FuncData} (F : Fun K "step_between" "step_between" sstepbetween f fd) (T : Tx mg) (csign : Cal P w K mg base 1 "_sign" spSign []) : FnOk P w K mg base CX0 2 f fd ["earlier", "later"] (spStep K) := by
  refine F.ok scstepbetween (fun vs H Q E h => ?_) (fun cdv A outer s H vs Q E hr h => ?_)
  · obtain ⟨a, b, xs, ys, rfl, _⟩ := h
    rfl
  obtain ⟨a, b, xs, ys, rfl, hA, hB, hl, hz, q⟩ := h
  refine ⟨_, (pss_one (ps_ret (pe_callTy call_tuple_of (by rfl) T.tuple (by decide +kernel) (pa_cons (pe_lc (own := [("before", 2), ("after", 3)]) (g := gTup K 2 (gCons (gName 2) (gCons (gName 3) gNil))) (tt := tYes) rfl scstepbetween.nd (RZ.pi_zipA (by rfl) T.zip (pa_cons (pv 0) (pa_cons (pv 1) pa_nil))) (blkOk_by (N := ["earlier", "later", "before", "after"]) (sc := defScope sstepbetween) (by decide +kernel)) (fun _ _ _ _ _ => (pg_tup (by rfl) (pgs_cons (pg_name (i := 2) scstepbetween.nd rfl (Or.inl rfl)) (pgs_cons (pg_name (i := 3) scstepbetween.nd rfl (Or.inl rfl)) pgs_nil)))) (fun _ _ _ _ _ => pts_nil) (fun _ _ _ _ _ => (pe_c csign hr (by decide) rfl (pa_cons (pe_op op_sub (pv 3) (pv 2)) pa_nil)))) pa_nil)))), ?_⟩
  have hl' : (xs.map V.int).length = (ys.map V.int).length := by rw [List.length_map, List.length_map, hl]
  refine ⟨_, rfl, _, rfl, a, b, _, _, rfl, .inr ⟨hA, hB, fun D nD => ?_⟩⟩
  refine lp_it (walk_zipT hl') (fun i G => SqT K G a (xs.map V.int) ∧ SqT K G b (ys.map V.int) ∧ Same H G ∧ G D = some (.lst (((steps xs ys).take i).map V.int))) ⟨(same_upd nD).sqt hA, (same_upd nD).sqt hB, same_upd nD, upd_same⟩ (fun i G _ p => ⟨p.1, p.2.1⟩) ?_ ?_
  · rintro i v G G' hi ⟨gA, gB, sm, eD⟩ ⟨Z, x, y, rfl, nZ, rfl, ex, ey⟩
    obtain ⟨x, hx, rfl⟩ := map_at ex
    obtain ⟨y, hy, rfl⟩ := map_at ey
    have s2 : Same G (upd G Z (.tup [.int x, .int y])) := same_upd nZ
    refine ⟨Z, [.int x, .int y], rfl, SqT.of upd_same, rfl, _, _, rfl, _, _, rfl, rfl, rfl, ?_⟩
    refine ⟨_, rfl, _, rfl, _, _, rfl, rfl, _, rfl, _, s2 _ _ eD, ?_, ?_⟩
    · rw [List.length_map]
      exact small1000 (Nat.le_trans (List.length_take_le' _ _) (by rw [steps_len hl]; exact hz))
    · have sD : Same H (upd (upd G Z (.tup [.int x, .int y])) D (.lst (((steps xs ys).take i).map V.int ++ [.int (sgn (y - x))]))) := fun c o e => by
        rw [upd_ne (ne_of_none e nD)]
        exact s2 _ _ (sm _ _ e)
      refine ⟨sD.sqt hA, sD.sqt hB, sD, ?_⟩
      rw [upd_same, List.take_add_one, steps_at hx hy, List.map_append]
      rfl
  · rintro G ⟨gA, gB, sm, eD⟩
    refine ⟨D, _, rfl, .inl ⟨SqL.of eD, fun p np => ?_⟩⟩
    refine q p _ (sm.free np) (sm.trans (same_upd np)) ?_
    rw [upd_same, List.length_map, ← steps_len hl, List.take_length]
abbrev sgoodterms : Stmt := top 3
theorem scgoodterms : FnScope ["step", "mark", "sign"] ["step"] (defScope sgoodterms) := ⟨rfl, rfl, rfl, by decide +kernel, rfl, by decide +kernel, by decide +kernel⟩
theorem ok_good {f : Addr} {fd : FuncData} (F : Fun K "good_terms" "good_terms" sgoodterms f fd) (T : Tx mg) : FnOk P w K mg base CX0 1 f fd ["step"] (spNz K id) := by
  refine F.ok scgoodterms (fun vs H Q E h => ?_) (fun cdv A outer s H vs Q E hr h => ?_)
  · obtain ⟨a, sg, rfl, _⟩ := h
    rfl
  obtain ⟨a, sg, rfl, hA, hz, q⟩ := h
  refine ⟨_, (pss_one (ps_ret (pe_lc (own := [("mark", 1), ("sign", 2)]) (g := gTup K 2 (gCons (gName 1) (gCons (gName 2) gNil))) rfl scgoodterms.nd (pi_enT (by rfl) T.enumerate (pa_cons (pv 0) pa_nil)) (blkOk_by (N := ["step", "mark", "sign"]) (sc := defScope sgoodterms) (by decide +kernel)) (fun _ _ _ _ _ => (pg_tup (by rfl) (pgs_cons (pg_name (i := 1) scgoodterms.nd rfl (Or.inl rfl)) (pgs_cons (pg_name (i := 2) scgoodterms.nd rfl (Or.inl rfl)) pgs_nil)))) (fun _ _ _ _ _ => pts_one (pt_cmpR op_ne (pv 2) pe_int (nomark _))) (fun _ _ _ _ _ => (pe_tup (pa_cons (pv 1) (pa_cons (pv 2) pa_nil))))))), ?_⟩
  refine ⟨_, rfl, a, _, rfl, hA, fun D nD => ?_⟩
  refine lp_it walk_enT (fun i G => SqT K G a (sg.map V.int) ∧ Same H G ∧ ∃ xs, G D = some (.lst xs) ∧ TermsAt G xs (nz id sg i)) ⟨(same_upd nD).sqt hA, same_upd nD, [], upd_same, TermsAt.nil⟩ (fun i G _ p => p.1) ?_ ?_
  · rintro i v G G' hi ⟨gA, sm, xs, eD, hT⟩ ⟨Z, x, y, rfl, nZ, rfl, ex, ey⟩
    cases ex
    obtain ⟨s, hs, rfl⟩ := map_at ey
    have s2 : Same G (upd G Z (.tup [.int (i : Nat), .int s])) := same_upd nZ
    refine ⟨Z, [.int (i : Nat), .int s], rfl, SqT.of upd_same, rfl, _, _, rfl, _, _, rfl, rfl, rfl, ?_⟩
    refine ⟨_, rfl, rfl, _, rfl, ite2 (fun e => ?_) (fun e => ?_)⟩
    · have ne : s ≠ 0 := fun z => by
        subst z
        rw [decide_eq_true rfl] at e
        cases e
      refine ⟨_, rfl, _, rfl, (by show 2 ≤ sizeLine; decide), fun p np => ?_⟩
      have s3 := s2.trans (same_upd (o := .tup [.int (i : Nat), .int (s)]) np)
      have e3 := s3 _ _ eD
      refine ⟨xs, e3, ?_, ?_⟩
      · rw [hT.1]
        have := nz_len id sg i
        rw [List.length_map] at hi
        exact small1000 (by omega)
      · have sD : Same H (upd (upd (upd G Z (.tup [.int (i : Nat), .int s])) p (.tup [.int (i : Nat), .int (s)])) D (.lst (xs ++ [.ref p]))) := fun c o e => by
          rw [upd_ne (ne_of_none e nD)]
          exact s3 _ _ (sm _ _ e)
        refine ⟨sD.sqt hA, sD, _, upd_same, ?_⟩
        rw [nz_yes hs ne]
        refine (hT.keep ((KT.of s3).trans (KT.upd e3))).snoc ?_
        have ep : (upd (upd G Z (.tup [.int (i : Nat), .int s])) p (.tup [.int (i : Nat), .int (s)])) p = some (.tup [.int (i : Nat), .int (s)]) := upd_same
        rw [upd_ne (ne_of ep e3 (by intro z; cases z))]
        exact ep
    · have z : s = 0 := by
        by_cases z : s = 0
        · exact z
        · rw [decide_eq_false (fun k => z (V.int.inj k))] at e
          exact absurd rfl e
      subst z
      rw [nz_no hs]
      exact ⟨s2.sqt gA, sm.trans s2, xs, s2 _ _ eD, hT.keep (KT.of s2)⟩
  · rintro G ⟨gA, sm, xs, eD, hT⟩
    rw [List.length_map] at hT
    exact q D xs G nD sm eD hT
abbrev sbadterms : Stmt := top 4
theorem scbadterms : FnScope ["step", "mark", "sign"] ["step"] (defScope sbadterms) := ⟨rfl, rfl, rfl, by decide +kernel, rfl, by decide +kernel, by decide +kernel⟩
theorem ok_bad {f : Addr} {fd : FuncData} (F : Fun K "bad_terms" "bad_terms" sbadterms f fd) (T : Tx mg) : FnOk P w K mg base CX0 1 f fd ["step"] (spNz K (fun s => -s)) := by
  refine F.ok scbadterms (fun vs H Q E h => ?_) (fun cdv A outer s H vs Q E hr h => ?_)
  · obtain ⟨a, sg, rfl, _⟩ := h
    rfl
  obtain ⟨a, sg, rfl, hA, hz, q⟩ := h
  refine ⟨_, (pss_one (ps_ret (pe_lc (own := [("mark", 1), ("sign", 2)]) (g := gTup K 2 (gCons (gName 1) (gCons (gName 2) gNil))) rfl scbadterms.nd (pi_enT (by rfl) T.enumerate (pa_cons (pv 0) pa_nil)) (blkOk_by (N := ["step", "mark", "sign"]) (sc := defScope sbadterms) (by decide +kernel)) (fun _ _ _ _ _ => (pg_tup (by rfl) (pgs_cons (pg_name (i := 1) scbadterms.nd rfl (Or.inl rfl)) (pgs_cons (pg_name (i := 2) scbadterms.nd rfl (Or.inl rfl)) pgs_nil)))) (fun _ _ _ _ _ => pts_one (pt_cmpR op_ne (pv 2) pe_int (nomark _))) (fun _ _ _ _ _ => (pe_tup (pa_cons (pv 1) (pa_cons (pe_un un_neg (pv 2)) pa_nil))))))), ?_⟩
  refine ⟨_, rfl, a, _, rfl, hA, fun D nD => ?_⟩
  refine lp_it walk_enT (fun i G => SqT K G a (sg.map V.int) ∧ Same H G ∧ ∃ xs, G D = some (.lst xs) ∧ TermsAt G xs (nz (fun s => -s) sg i)) ⟨(same_upd nD).sqt hA, same_upd nD, [], upd_same, TermsAt.nil⟩ (fun i G _ p => p.1) ?_ ?_
  · rintro i v G G' hi ⟨gA, sm, xs, eD, hT⟩ ⟨Z, x, y, rfl, nZ, rfl, ex, ey⟩
    cases ex
    obtain ⟨s, hs, rfl⟩ := map_at ey
    have s2 : Same G (upd G Z (.tup [.int (i : Nat), .int s])) := same_upd nZ
    refine ⟨Z, [.int (i : Nat), .int s], rfl, SqT.of upd_same, rfl, _, _, rfl, _, _, rfl, rfl, rfl, ?_⟩
    refine ⟨_, rfl, rfl, _, rfl, ite2 (fun e => ?_) (fun e => ?_)⟩
    · have ne : s ≠ 0 := fun z => by
        subst z
        rw [decide_eq_true rfl] at e
        cases e
      refine ⟨_, rfl, _, rfl, _, rfl, (by show 2 ≤ sizeLine; decide), fun p np => ?_⟩
      have s3 := s2.trans (same_upd (o := .tup [.int (i : Nat), .int (-s)]) np)
      have e3 := s3 _ _ eD
      refine ⟨xs, e3, ?_, ?_⟩
      · rw [hT.1]
        have := nz_len (fun s => -s) sg i
        rw [List.length_map] at hi
        exact small1000 (by omega)
      · have sD : Same H (upd (upd (upd G Z (.tup [.int (i : Nat), .int s])) p (.tup [.int (i : Nat), .int (-s)])) D (.lst (xs ++ [.ref p]))) := fun c o e => by
          rw [upd_ne (ne_of_none e nD)]
          exact s3 _ _ (sm _ _ e)
        refine ⟨sD.sqt hA, sD, _, upd_same, ?_⟩
        rw [nz_yes hs ne]
        refine (hT.keep ((KT.of s3).trans (KT.upd e3))).snoc ?_
        have ep : (upd (upd G Z (.tup [.int (i : Nat), .int s])) p (.tup [.int (i : Nat), .int (-s)])) p = some (.tup [.int (i : Nat), .int (-s)]) := upd_same
        rw [upd_ne (ne_of ep e3 (by intro z; cases z))]
        exact ep
    · have z : s = 0 := by
        by_cases z : s = 0
        · exact z
        · rw [decide_eq_false (fun k => z (V.int.inj k))] at e
          exact absurd rfl e
      subst z
      rw [nz_no hs]
      exact ⟨s2.sqt gA, sm.trans s2, xs, s2 _ _ eD, hT.keep (KT.of s2)⟩
  · rintro G ⟨gA, sm, xs, eD, hT⟩
    rw [List.length_map] at hT
    exact q D xs G nD sm eD hT
abbrev sallterms : Stmt := top 5
theorem scallterms : FnScope ["count", "mark", "direction"] ["count"] (defScope sallterms) := ⟨rfl, rfl, rfl, by decide +kernel, rfl, by decide +kernel, by decide +kernel⟩
theorem ok_all {f : Addr} {fd : FuncData} (F : Fun K "all_terms" "all_terms" sallterms f fd) (T : Tx mg) : FnOk P w K mg base CX0 1 f fd ["count"] spAll := by
  refine F.ok scallterms (fun vs H Q E h => ?_) (fun cdv A outer s H vs Q E hr h => ?_)
  · obtain ⟨n, rfl, _⟩ := h
    rfl
  obtain ⟨n, rfl, hz, q⟩ := h
  refine ⟨_, (pss_one (ps_ret (pe_lc2 (own := [("mark", 1), ("direction", 2)]) (vs1 := [2]) (g := gName 1) (g1 := gName 2) (tt := tYes) (tt1 := tYes) rfl scallterms.nd (pi_range1 rfl T.range (pa_cons (pv 0) pa_nil)) (blkOk_by (N := ["count", "mark", "direction"]) (sc := defScope sallterms) (by decide +kernel)) (by decide) (fun _ _ _ _ _ => (pg_name (i := 1) scallterms.nd rfl (Or.inl rfl))) (fun _ _ _ _ _ => pts_nil) (fun _ _ _ _ _ => (pi_tupK K (pe_tup (pa_cons pe_int (pa_cons (pe_un un_neg pe_int) pa_nil))))) (fun _ _ _ _ _ => (pg_name (i := 2) scallterms.nd rfl (Or.inl rfl))) (fun _ _ _ _ _ => pts_nil) (fun _ _ _ _ _ => (pe_tup (pa_cons (pv 1) (pa_cons (pv 2) pa_nil))))))), ?_⟩
  refine ⟨_, rfl, _, rfl, by omega, by omega, fun D nD => ?_⟩
  refine lp_it walk_rg (fun i G => Same H G ∧ ∃ xs, G D = some (.lst xs) ∧ TermsAt G xs (tms (2 * i))) ⟨same_upd nD, [], upd_same, TermsAt.nil⟩ (fun _ _ _ _ => trivial) ?_ ?_
  · rintro i v G0 G hi ⟨sm, xs, eD, hT⟩ ⟨rfl, rfl⟩
    have hi' : i < n := by omega
    refine ⟨rfl, ?_⟩
    refine ⟨_, rfl, (by show 2 ≤ sizeLine; decide), fun t nt => ?_⟩
    have s1 : Same G (upd G t (.tup [.int 1, .int (-1)])) := same_upd nt
    have et : (upd G t (.tup [.int 1, .int (-1)])) t = some (.tup [.int 1, .int (-1)]) := upd_same
    refine ⟨t, rfl, ⟨_, SqT.of et⟩, ?_⟩
    refine lp_it (walk_tup (xs := [.int 1, .int (-1)])) (fun j G => G t = some (.tup [.int 1, .int (-1)]) ∧ Same H G ∧ ∃ xs, G D = some (.lst xs) ∧ TermsAt G xs (tms (2 * i + j))) ⟨et, sm.trans s1, xs, s1 _ _ eD, hT.keep (KT.of s1)⟩ (fun j G _ p => SqT.of p.1) ?_ ?_
    · rintro j v G1 G' hj ⟨gt, sm1, xs, eD, hT⟩ ⟨rfl, ev⟩
      have hd : ∃ d, v = .int d ∧ tm (2 * i + j) = ((i : Int), d) := by
        have hj2 : j < 2 := hj
        rcases Nat.lt_or_ge j 1 with h | h
        · have : j = 0 := by omega
          subst this
          cases ev
          refine ⟨1, rfl, ?_⟩
          unfold tm
          rw [show (2 * i + 0) / 2 = i by omega, if_pos (by omega)]
        · have : j = 1 := by omega
          subst this
          cases ev
          refine ⟨-1, rfl, ?_⟩
          unfold tm
          rw [show (2 * i + 1) / 2 = i by omega, if_neg (by omega)]
      obtain ⟨d, rfl, ed⟩ := hd
      refine ⟨rfl, ?_⟩
      refine ⟨_, rfl, _, rfl, (by show 2 ≤ sizeLine; decide), fun p np => ?_⟩
      have s3 : Same G' (upd G' p (.tup [.int (i : Int), .int d])) := same_upd np
      have e3 := s3 _ _ eD
      refine ⟨xs, e3, ?_, ?_⟩
      · rw [hT.1, tms_len]
        have hj2 : j < 2 := hj
        exact Nat.lt_of_le_of_lt (show 2 * i + j ≤ 3000 by omega) (by decide)
      · have sD : Same H (upd (upd G' p (.tup [.int (i : Int), .int d])) D (.lst (xs ++ [.ref p]))) := fun c o e => by
          rw [upd_ne (ne_of_none e nD)]
          exact s3 _ _ (sm1 _ _ e)
        have kT : KT G' (upd (upd G' p (.tup [.int (i : Int), .int d])) D (.lst (xs ++ [.ref p]))) := (KT.of s3).trans (KT.upd e3)
        refine ⟨kT _ _ gt, sD, _, upd_same, ?_⟩
        rw [← Nat.add_assoc, tms_succ, ed]
        refine (hT.keep kT).snoc ?_
        have ep : (upd G' p (.tup [.int (i : Int), .int d])) p = some (.tup [.int (i : Int), .int d]) := upd_same
        rw [upd_ne (ne_of ep e3 (by intro z; cases z))]
        exact ep
    · rintro G1 ⟨gt, sm1, xs, eD, hT⟩
      exact ⟨sm1, xs, eD, hT⟩
  · rintro G ⟨sm, xs, eD, hT⟩
    have en : ((n : Int)).toNat = n := Int.toNat_natCast n
    rw [en] at hT
    exact q D xs G nD sm eD hT
abbrev stermrank : Stmt := top 6
theorem sctermrank : FnScope ["term", "mark", "direction"] ["term"] (defScope stermrank) := ⟨rfl, rfl, rfl, by decide +kernel, rfl, by decide +kernel, by decide +kernel⟩
theorem ok_rank {f : Addr} {fd : FuncData} (F : Fun K "term_rank" "term_rank" stermrank f fd) : FnOk P w K mg base CX0 1 f fd ["term"] (spRank K) := by
  refine F.ok sctermrank (fun vs H Q E h => ?_) (fun cdv A outer s H vs Q E hr h => ?_)
  · obtain ⟨p, m, d, rfl, _⟩ := h
    rfl
  obtain ⟨p, m, d, rfl, hT, q⟩ := h
  refine ⟨_, (pss_cons (ps_asg (pv 0) (pg_tup (by rfl) (pgs_cons (pg_name (i := 1) sctermrank.nd rfl (Or.inl rfl)) (pgs_cons (pg_name (i := 2) sctermrank.nd rfl (Or.inl rfl)) pgs_nil))))
  (pss_one (ps_ret (pe_ifExp (pt_cmpR op_eq (pv 2) pe_int (nomark _)) (pe_op op_mul pe_int (pv 1)) (pe_op op_add (pe_op op_mul pe_int (pv 1)) pe_int))))), ?_⟩
  refine ⟨_, rfl, p, _, rfl, hT, rfl, _, _, rfl, _, _, rfl, rfl, ?_⟩
  refine ⟨_, rfl, rfl, _, rfl, ite2 (fun e => ?_) (fun e => ?_)⟩
  · have := V.int.inj (of_decide_eq_true e)
    rw [if_pos this] at q
    exact ⟨_, rfl, _, _, rfl, rfl, .inl ⟨by decide, by decide⟩, q⟩
  · have : ¬ d = 1 := fun z => by
      subst z
      rw [decide_eq_true rfl] at e
      exact e rfl
    rw [if_neg this] at q
    exact ⟨_, rfl, _, _, rfl, rfl, .inl ⟨by decide, by decide⟩, _, _, rfl, rfl, q⟩
end
end VL

namespace VL
open PySem PySem.Spec PyProof.Rows L2
open C8 (Cal pe_c)
local macro_rules | `(tactic| walk_at "lk") => `(tactic| (repeat' (first | assumption | exact upd_same | (refine Eq.trans (upd_ne ?_) ?_) | (apply Ne.symm; assumption))))
theorem sgn_mul {b s m : Int} (hs : s = 0 ∨ s = 1 ∨ s = -1) (hm : 0 < m) : sgn (b + s * m - b) = s := by
  unfold sgn
  rcases hs with rfl | rfl | rfl
  · rw [if_pos (by omega)]
  · rw [if_neg (by omega), if_pos (by omega)]
  · rw [if_neg (by omega), if_neg (by omega)]
theorem tm_eq (k : Nat) : tm k = ((k : Int) / 2, 1 - 2 * ((k : Int) - (k : Int) / 2 * 2)) := by
  unfold tm
  have e : ((k / 2 : Nat) : Int) = (k : Int) / 2 := by omega
  rw [e]
  split
  · rw [show (1 - 2 * ((k : Int) - (k : Int) / 2 * 2)) = 1 by omega]
  · rw [show (1 - 2 * ((k : Int) - (k : Int) / 2 * 2)) = -1 by omega]
theorem tm_rank (k : Nat) : (if (if k % 2 = 0 then (1 : Int) else -1) = 1 then 2 * ((k / 2 : Nat) : Int) else 2 * ((k / 2 : Nat) : Int) + 1) = (k : Int) := by
  by_cases h : k % 2 = 0
  · rw [if_pos h, if_pos rfl]
    omega
  · rw [if_neg h, if_neg (show ¬ ((-1 : Int) = 1) by decide)]
    omega
def spLaw (K : PySem.W.Frag) : Sp := fun vs H Q _ => ∃ (a : Addr) (ns : List Int), vs = [.ref a] ∧ SqL K H a (ns.map V.int) ∧ ns.length ≤ 63 ∧ ∀ H', Q (.bl true) H'
section
variable {P : Program} {w : World} {K : PySem.W.Frag} {mg : Str → Option Value} {base : Heap}
abbrev slaw : Stmt := top 11
theorem sclaw : FnScope ["_law_script", "_law_box_here", "_law_first", "_law_second", "_law_signs", "_law_k", "_law_sign", "_law_base", "_law_step", "_law_good", "_law_bad", "_law_count", "_law_terms"] ["_law_script"] (defScope slaw) := ⟨rfl, rfl, rfl, by decide +kernel, rfl, by decide +kernel, by decide +kernel⟩
theorem ok_law {f : Addr} {fd : FuncData} (F : Fun K "law" "law" slaw f fd) (T : Tx mg) (cLbox : Cal P w K mg base 1 "_law_box" (spBox K) []) (cLtake : Cal P w K mg base 1 "_law_take" spTake []) (cLsame : Cal P w K mg base 3 "_law_same" (spSame 3) [])
    (cstepbetween : Cal P w K mg base 2 "step_between" (spStep K) []) (cgoodterms : Cal P w K mg base 1 "good_terms" (spNz K id) []) (cbadterms : Cal P w K mg base 1 "bad_terms" (spNz K (fun s => -s)) []) (callterms : Cal P w K mg base 1 "all_terms" spAll []) (ctermrank : Cal P w K mg base 1 "term_rank" (spRank K) []) :
    FnOk P w K mg base CX0 4 f fd ["_law_script"] (spLaw K) := by
  refine F.ok sclaw (fun vs H Q E h => ?_) (fun cdv A outer s H vs Q E hr h => ?_)
  · obtain ⟨a, ns, rfl, _⟩ := h
    rfl
  obtain ⟨a, ns, rfl, hS, h63, q⟩ := h
  refine ⟨_, (pss_cons (ps_set (i := 1) sclaw.nd rfl (Or.inl rfl) (pe_c cLbox hr (by decide) rfl (pa_cons (pv 0) pa_nil)))
  (pss_cons (ps_set (i := 2) sclaw.nd rfl (Or.inl rfl) (pe_lst pa_nil))
  (pss_cons (ps_set (i := 3) sclaw.nd rfl (Or.inl rfl) (pe_lst pa_nil))
  (pss_cons (ps_set (i := 4) sclaw.nd rfl (Or.inr rfl) (pe_lst pa_nil))
  (pss_cons (ps_for PassesOwn.never rfl (pi_range1 rfl T.range (pa_cons (pe_op op_add pe_int (pe_c cLtake hr (by decide) rfl (pa_cons (pv 1) (pa_cons pe_int pa_nil)))) pa_nil)) (pg_name (i := 5) sclaw.nd rfl (Or.inl rfl))
    (pss_cons (ps_set (i := 6) sclaw.nd rfl (Or.inl rfl) (pe_op op_sub (pe_c cLtake hr (by decide) rfl (pa_cons (pv 1) (pa_cons pe_int pa_nil))) pe_int))
    (pss_cons (ps_set (i := 7) sclaw.nd rfl (Or.inl rfl) (pe_ix ix_list (pe_lst (pa_cons pe_int (pa_cons (pe_op op_sub (pe_op op_pow pe_int pe_int) pe_int) (pa_cons (pe_op op_add (pe_un un_neg (pe_op op_pow pe_int pe_int)) pe_int) (pa_cons (pe_c cLtake hr (by decide) rfl (pa_cons (pv 1) (pa_cons (pe_op op_pow pe_int pe_int) pa_nil))) pa_nil))))) (pe_c cLtake hr (by decide) rfl (pa_cons (pv 1) (pa_cons pe_int pa_nil))) (fun _ _ => rfl)))
    (pss_cons (ps_expr (pe_bm PySem.F.plainAttrs_list PySem.F.slot_list_append PySem.F.type_list_append mt_append (pv 2) (pa_cons (pv 7) pa_nil)))
    (pss_cons (ps_expr (pe_bm PySem.F.plainAttrs_list PySem.F.slot_list_append PySem.F.type_list_append mt_append (pv 3) (pa_cons (pe_op op_add (pv 7) (pe_op op_mul (pv 6) (pe_op op_add pe_int (pe_c cLtake hr (by decide) rfl (pa_cons (pv 1) (pa_cons pe_int pa_nil)))))) pa_nil)))
    (pss_one (ps_expr (pe_bm PySem.F.plainAttrs_list PySem.F.slot_list_append PySem.F.type_list_append mt_append (pv 4) (pa_cons (pv 6) pa_nil)))))))))
  (pss_cons (ps_set (i := 8) sclaw.nd rfl (Or.inl rfl) (pe_callTy call_tuple_of (by rfl) T.tuple (by decide +kernel) (pa_cons (pv 4) pa_nil)))
  (pss_cons (ps_if (pt_not (pt_val (pe_c cLsame hr (by decide) rfl (pa_cons (pe_c cstepbetween hr (by decide) rfl (pa_cons (pe_callTy call_tuple_of (by rfl) T.tuple (by decide +kernel) (pa_cons (pv 2) pa_nil)) (pa_cons (pe_callTy call_tuple_of (by rfl) T.tuple (by decide +kernel) (pa_cons (pv 3) pa_nil)) pa_nil))) (pa_cons (pv 8) pa_nil)))))
    (pss_one (ps_ret pe_bl))
    pss_nil)
  (pss_cons (ps_setLc (i := 9) (own := [("_law_k", 5)]) (g := gName 5) rfl sclaw.nd rfl rfl (sw_true rfl rfl rfl (by decide +kernel)) (pi_range1 rfl T.range (pa_cons (pe_callB call_len_seq (by rfl) T.len PySem.boot_len (pa_cons (pv 4) pa_nil)) pa_nil)) (blkOk_by (N := ["_law_script", "_law_box_here", "_law_first", "_law_second", "_law_signs", "_law_k", "_law_sign", "_law_base", "_law_step", "_law_good", "_law_bad", "_law_count", "_law_terms"]) (sc := defScope slaw) (by decide +kernel)) (fun _ _ _ _ _ => pg_name (i := 5) sclaw.nd rfl (Or.inl rfl)) (fun _ _ _ _ _ => pts_one (pt_cmpR op_ne (pe_ix (ix_listK K) (pv 4) (pv 5) (fun _ _ => rfl)) pe_int (nomark _))) (fun _ _ _ _ _ => (pe_tup (pa_cons (pv 5) (pa_cons (pe_ix (ix_listK K) (pv 4) (pv 5) (fun _ _ => rfl)) pa_nil)))))
  (pss_cons (ps_setLc (i := 10) (own := [("_law_k", 5)]) (g := gName 5) rfl sclaw.nd rfl rfl (sw_true rfl rfl rfl (by decide +kernel)) (pi_range1 rfl T.range (pa_cons (pe_callB call_len_seq (by rfl) T.len PySem.boot_len (pa_cons (pv 4) pa_nil)) pa_nil)) (blkOk_by (N := ["_law_script", "_law_box_here", "_law_first", "_law_second", "_law_signs", "_law_k", "_law_sign", "_law_base", "_law_step", "_law_good", "_law_bad", "_law_count", "_law_terms"]) (sc := defScope slaw) (by decide +kernel)) (fun _ _ _ _ _ => pg_name (i := 5) sclaw.nd rfl (Or.inl rfl)) (fun _ _ _ _ _ => pts_one (pt_cmpR op_ne (pe_ix (ix_listK K) (pv 4) (pv 5) (fun _ _ => rfl)) pe_int (nomark _))) (fun _ _ _ _ _ => (pe_tup (pa_cons (pv 5) (pa_cons (pe_un un_neg (pe_ix (ix_listK K) (pv 4) (pv 5) (fun _ _ => rfl))) pa_nil)))))
  (pss_cons (ps_if (PW.pt (pw_or (pt_not (pt_val (pe_c cLsame hr (by decide) rfl (pa_cons (pe_c cgoodterms hr (by decide) rfl (pa_cons (pv 8) pa_nil)) (pa_cons (pv 9) pa_nil))))) (pw_or1 (pt_not (pt_val (pe_c cLsame hr (by decide) rfl (pa_cons (pe_c cbadterms hr (by decide) rfl (pa_cons (pv 8) pa_nil)) (pa_cons (pv 10) pa_nil))))))))
    (pss_one (ps_ret pe_bl))
    pss_nil)
  (pss_cons (ps_set (i := 11) sclaw.nd rfl (Or.inl rfl) (pe_c cLtake hr (by decide) rfl (pa_cons (pv 1) (pa_cons pe_int pa_nil))))
  (pss_cons (ps_setLc (i := 12) (own := [("_law_k", 5)]) (g := gName 5) (tt := tYes) rfl sclaw.nd rfl rfl (sw_true rfl rfl rfl (by decide +kernel)) (pi_range1 rfl T.range (pa_cons (pe_op op_mul pe_int (pv 11)) pa_nil)) (blkOk_by (N := ["_law_script", "_law_box_here", "_law_first", "_law_second", "_law_signs", "_law_k", "_law_sign", "_law_base", "_law_step", "_law_good", "_law_bad", "_law_count", "_law_terms"]) (sc := defScope slaw) (by decide +kernel)) (fun _ _ _ _ _ => pg_name (i := 5) sclaw.nd rfl (Or.inl rfl)) (fun _ _ _ _ _ => pts_nil) (fun _ _ _ _ _ => (pe_tup (pa_cons (pe_op op_fdivW (pv 5) pe_int) (pa_cons (pe_op op_sub pe_int (pe_op op_mul pe_int (pe_op op_sub (pv 5) (pe_op op_mul (pe_op op_fdivW (pv 5) pe_int) pe_int)))) pa_nil)))))
  (pss_cons (ps_if (pt_not (pt_val (pe_c cLsame hr (by decide) rfl (pa_cons (pe_c callterms hr (by decide) rfl (pa_cons (pv 11) pa_nil)) (pa_cons (pv 12) pa_nil)))))
    (pss_one (ps_ret pe_bl))
    pss_nil)
  (pss_cons (ps_for PassesOwn.never rfl (pi_range1 rfl T.range (pa_cons (pe_op op_mul pe_int (pv 11)) pa_nil)) (pg_name (i := 5) sclaw.nd rfl (Or.inl rfl))
    (pss_one (ps_if (pt_not (pt_val (pe_c cLsame hr (by decide) rfl (pa_cons (pe_c ctermrank hr (by decide) rfl (pa_cons (pe_ix ix_list (pv 12) (pv 5) (fun _ _ => rfl)) pa_nil)) (pa_cons (pv 5) pa_nil)))))
      (pss_one (ps_ret pe_bl))
      pss_nil)))
  (pss_one (ps_ret pe_bl)))))))))))))))), ?_⟩
  -- the box, three empty lists
  refine ⟨_, rfl, a, ns, rfl, hS, h63, fun b L H1 _ _ _ B1 => ?_⟩
  refine ⟨Nat.zero_le _, fun fs nf => ⟨Nat.zero_le _, fun ss ns' => ⟨Nat.zero_le _, fun gs ng => ?_⟩⟩⟩
  obtain ⟨fb, fL⟩ := B1.new nf
  have B2 := B1.upd (o := .lst []) fb fL
  obtain ⟨sb, sL⟩ := B2.new ns'
  have B3 := B2.upd (o := .lst []) sb sL
  obtain ⟨gb, gL⟩ := B3.new ng
  have B4 := B3.upd (o := .lst []) gb gL
  have fs_ss : fs ≠ ss := ne_of_none upd_same ns'
  have fs_gs : fs ≠ gs := ne_of_none ((same_upd ns') _ _ upd_same) ng
  have ss_gs : ss ≠ gs := ne_of_none upd_same ng
  have e1 : (upd (upd (upd H1 fs (.lst [])) ss (.lst [])) gs (.lst [])) fs = some (.lst []) := by walk_at "lk"
  have e2 : (upd (upd (upd H1 fs (.lst [])) ss (.lst [])) gs (.lst [])) ss = some (.lst []) := by walk_at "lk"
  have e3 : (upd (upd (upd H1 fs (.lst [])) ss (.lst [])) gs (.lst [])) gs = some (.lst []) := by walk_at "lk"
  generalize upd (upd (upd H1 fs (.lst [])) ss (.lst [])) gs (.lst []) = H4 at B4 e1 e2 e3 ⊢
  -- the first loop
  refine ⟨_, rfl, b, L, 8, rfl, by decide, by decide, B4, fun v1 o1 v10 v11 B5 ho1 => ⟨_, _, rfl, rfl, ?_⟩⟩
  refine ⟨_, rfl, by omega, by omega, for_range (lo := 0) (n := (1 + v1).toNat) (fun i σ H' => ∃ (fl sl gl : List Int) (y5 y6 y7 : Option V), σ = [some (.ref a), some (.ref b), some (.ref fs), some (.ref ss), some (.ref gs), y5, y6, y7, none, none, none, none, none] ∧
      Box H' b L ∧ H' fs = some (.lst (fl.map V.int)) ∧ H' ss = some (.lst (sl.map V.int)) ∧ H' gs = some (.lst (gl.map V.int)) ∧ fl.length = i ∧ sl.length = i ∧ gl = steps fl sl)
      ⟨[], [], [], none, none, none, rfl, B5, by walk_at "lk", by walk_at "lk", by walk_at "lk", rfl, rfl, rfl⟩ ?_ ?_⟩
  · rintro i σ H' hi ⟨fl, sl, gl, y5, y6, y7, rfl, B, e1, e2, e3, l1, l2, eg⟩
    have l3 : gl.length = i := by rw [eg, steps_len (by omega), l1]
    refine ⟨_, rfl, b, L, 3, rfl, by decide, by decide, B, fun v2 o2 v20 v21 B2 _ => ⟨_, _, rfl, rfl, ?_⟩⟩
    refine ⟨_, _, rfl, rfl, ⟨by decide, by decide, by decide⟩, _, _, rfl, rfl, _, _, rfl, rfl, ⟨by decide, by decide, by decide⟩, _, rfl, _, _, rfl, rfl, ?_⟩
    refine ⟨_, rfl, _, _, rfl, rfl, ⟨by decide, by decide, by decide⟩, b, L, _, rfl, by decide +kernel, by decide +kernel, B2, fun v3 o3 v30 v31 B3 _ => ?_⟩
    refine ⟨by show 4 ≤ sizeLine; decide, fun D nD => ?_⟩
    obtain ⟨Db, DL⟩ := B3.new nD
    have f1 : (upd (upd H' b o2) b o3) fs = some (.lst (fl.map V.int)) := by walk_at "lk"
    have f2 : (upd (upd H' b o2) b o3) ss = some (.lst (sl.map V.int)) := by walk_at "lk"
    have f3 : (upd (upd H' b o2) b o3) gs = some (.lst (gl.map V.int)) := by walk_at "lk"
    generalize upd (upd H' b o2) b o3 = H5 at B3 nD f1 f2 f3 ⊢
    have sD := same_upd (o := .lst [.int 0, .int ((10 : Int) ^ (12 : Int).toNat - 5), .int (-(10 : Int) ^ (12 : Int).toNat + 5), .int v3]) nD
    have eD : (upd H5 D (.lst [.int 0, .int ((10 : Int) ^ (12 : Int).toNat - 5), .int (-(10 : Int) ^ (12 : Int).toNat + 5), .int v3])) D = some (.lst [.int 0, .int ((10 : Int) ^ (12 : Int).toNat - 5), .int (-(10 : Int) ^ (12 : Int).toNat + 5), .int v3]) := upd_same
    refine ⟨_, rfl, b, L, 4, rfl, by decide, by decide, B3.same sD, fun v4 o4 v40 v41 B4 _ => ?_⟩
    obtain ⟨z, _, hz⟩ := atI_ints (cs := [0, (10 : Int) ^ (12 : Int).toNat - 5, -(10 : Int) ^ (12 : Int).toNat + 5, v3]) v40 v41
    refine ⟨D, _, v4, .int z, rfl, rfl, SqL.of (Eq.trans (upd_ne Db) eD), hz, ?_⟩
    have f1 := sD _ _ f1
    have f2 := sD _ _ f2
    have f3 := sD _ _ f3
    generalize upd H5 D (.lst [.int 0, .int ((10 : Int) ^ (12 : Int).toNat - 5), .int (-(10 : Int) ^ (12 : Int).toNat + 5), .int v3]) = H6 at B4 f1 f2 f3 ⊢
    have g1 : (upd H6 b o4) fs = some (.lst (fl.map V.int)) := by walk_at "lk"
    have g2 : (upd H6 b o4) ss = some (.lst (sl.map V.int)) := by walk_at "lk"
    have g3 : (upd H6 b o4) gs = some (.lst (gl.map V.int)) := by walk_at "lk"
    generalize upd H6 b o4 = H7 at B4 g1 g2 g3 ⊢
    -- first.append(base)
    refine ⟨_, rfl, .inl ⟨rfl, _, SqL.of g1⟩, _, rfl, fs, _, _, rfl, rfl, g1, by rw [List.length_map]; exact small1000 (by omega), ?_⟩
    have B8 := B4.upd (o := .lst (fl.map V.int ++ [.int z])) fb fL
    have h2 : (upd H7 fs (.lst (fl.map V.int ++ [.int z]))) ss = some (.lst (sl.map V.int)) := by walk_at "lk"
    have h3 : (upd H7 fs (.lst (fl.map V.int ++ [.int z]))) gs = some (.lst (gl.map V.int)) := by walk_at "lk"
    have h1 : (upd H7 fs (.lst (fl.map V.int ++ [.int z]))) fs = some (.lst ((fl ++ [z]).map V.int)) := by rw [upd_same, List.map_append]; rfl
    generalize upd H7 fs (.lst (fl.map V.int ++ [.int z])) = H8 at B8 h1 h2 h3 ⊢
    -- second.append(base + sign * (1 + take))
    refine ⟨_, rfl, .inl ⟨rfl, _, SqL.of h2⟩, _, rfl, _, rfl, _, rfl, b, L, 5, rfl, by decide, by decide, B8, fun v5 o5 v50 v51 B9 _ => ?_⟩
    refine ⟨_, _, rfl, rfl, _, _, rfl, rfl, .inl ⟨by omega, by omega⟩, _, _, rfl, rfl, ?_⟩
    have i1 : (upd H8 b o5) fs = some (.lst ((fl ++ [z]).map V.int)) := by walk_at "lk"
    have i2 : (upd H8 b o5) ss = some (.lst (sl.map V.int)) := by walk_at "lk"
    have i3 : (upd H8 b o5) gs = some (.lst (gl.map V.int)) := by walk_at "lk"
    generalize upd H8 b o5 = H9 at B9 i1 i2 i3 ⊢
    refine ⟨ss, _, _, rfl, rfl, i2, by rw [List.length_map]; exact small1000 (by omega), ?_⟩
    have B10 := B9.upd (o := .lst (sl.map V.int ++ [.int (z + (v2 - 1) * (1 + v5))])) sb sL
    have j2 : (upd H9 ss (.lst (sl.map V.int ++ [.int (z + (v2 - 1) * (1 + v5))]))) ss = some (.lst ((sl ++ [z + (v2 - 1) * (1 + v5)]).map V.int)) := by rw [upd_same, List.map_append]; rfl
    have j1 : (upd H9 ss (.lst (sl.map V.int ++ [.int (z + (v2 - 1) * (1 + v5))]))) fs = some (.lst ((fl ++ [z]).map V.int)) := by walk_at "lk"
    have j3 : (upd H9 ss (.lst (sl.map V.int ++ [.int (z + (v2 - 1) * (1 + v5))]))) gs = some (.lst (gl.map V.int)) := by walk_at "lk"
    generalize upd H9 ss (.lst (sl.map V.int ++ [.int (z + (v2 - 1) * (1 + v5))])) = H10 at B10 j1 j2 j3 ⊢
    -- signs.append(sign)
    refine ⟨_, rfl, .inl ⟨rfl, _, SqL.of j3⟩, _, rfl, gs, _, _, rfl, rfl, j3, by rw [List.length_map]; exact small1000 (by omega), ?_⟩
    refine ⟨fl ++ [z], sl ++ [z + (v2 - 1) * (1 + v5)], gl ++ [v2 - 1], _, _, _, rfl, B10.upd gb gL, by walk_at "lk", by walk_at "lk", by rw [upd_same, List.map_append]; rfl, by rw [List.length_append, l1]; rfl, by rw [List.length_append, l2]; rfl, ?_⟩
    rw [steps_snoc (by omega), ← eg, sgn_mul (by omega) (by omega)]
  rintro σ H5 ⟨fl, sl, gl, y5, y6, y7, rfl, B5, e1, e2, e3, l1, l2, eg⟩
  have l3 : gl.length = (1 + v1).toNat := by rw [eg, steps_len (by omega), l1]
  -- step = tuple(signs)
  refine ⟨_, rfl, gs, _, rfl, .inl ⟨SqL.of e3, fun st nst => ?_⟩⟩
  have s1 := same_upd (o := .tup (gl.map V.int)) nst
  have est : (upd H5 st (.tup (gl.map V.int))) st = some (.tup (gl.map V.int)) := upd_same
  have B6 := B5.same s1
  have e1 := s1 _ _ e1
  have e2 := s1 _ _ e2
  have e3 := s1 _ _ e3
  generalize upd H5 st (.tup (gl.map V.int)) = H6 at B6 e1 e2 e3 est ⊢
  -- step_between
  refine ⟨_, rfl, fs, _, rfl, .inl ⟨SqL.of e1, fun t1 nt1 => ?_⟩⟩
  have s2 := same_upd (o := .tup (fl.map V.int)) nt1
  refine ⟨_, rfl, ss, _, rfl, .inl ⟨SqL.of (s2 _ _ e2), fun t2 nt2 => ?_⟩⟩
  have s3 := same_upd (o := .tup (sl.map V.int)) nt2
  refine ⟨t1, t2, fl, sl, rfl, SqT.of (s3 _ _ upd_same), SqT.of upd_same, by omega, by omega, fun t3 H7 nt3 s4 et3 => ?_⟩
  have s5 := s2.trans (s3.trans s4)
  have est := s5 _ _ est
  have B7 := B6.same s5
  have e3 := s5 _ _ e3
  rw [← eg] at et3
  refine ⟨_, rfl, _, _, rfl, Sm.tupF et3 est (by rw [List.length_map]; omega) (flt_ints gl), _, rfl, iteF' rfl ?_⟩
  -- good, bad
  have made : ∀ (fn : Int → Int) (st0 : L2.St) (Hx : Hp) (R : Addr → Hp → Prop), Hx gs = some (.lst (gl.map V.int)) → True := fun _ _ _ _ _ => trivial
  refine ⟨_, rfl, gs, _, rfl, .inl (SqL.of e3), _, rfl, by rw [List.length_map]; omega, by rw [List.length_map]; omega, fun g ng => ?_⟩
  refine lp_it walk_rg (fun i G => Same H7 G ∧ ∃ xs, G g = some (.lst xs) ∧ TermsAt G xs (nz id gl i)) ⟨same_upd ng, [], upd_same, TermsAt.nil⟩ (fun _ _ _ _ => trivial) ?_ ?_
  · rintro i v G0 G hi ⟨sm, xs, eD, hT⟩ ⟨rfl, rfl⟩
    rw [List.length_map, Int.toNat_natCast] at hi
    have hs : gl[i]? = some gl[i] := List.getElem?_eq_getElem hi
    have hat : atI (gl.map V.int) (i : Int) = some (.int gl[i]) := atI_nat (by rw [List.getElem?_map, hs]; rfl)
    have gL' : SqL K G gs (gl.map V.int) := SqL.of (sm _ _ e3)
    refine ⟨rfl, ?_⟩
    refine ⟨_, rfl, _, rfl, gs, _, _, _, rfl, rfl, gL', hat, rfl, _, rfl, ite2 (fun e => ?_) (fun e => ?_)⟩
    · have ne : gl[i] ≠ 0 := fun z => by
        rw [z, decide_eq_true rfl] at e
        cases e
      refine ⟨_, rfl, _, rfl, _, rfl, gs, _, _, _, rfl, rfl, gL', hat, (by show 2 ≤ sizeLine; decide), fun p np => ?_⟩
      have s3 := same_upd (o := .tup [.int (i : Int), .int gl[i]]) np
      have x3 := s3 _ _ eD
      have ep : (upd G p (.tup [.int (i : Int), .int gl[i]])) p = some (.tup [.int (i : Int), .int gl[i]]) := upd_same
      refine ⟨xs, x3, ?_, fun c o ec => ?_, _, upd_same, ?_⟩
      · rw [hT.1]
        have := nz_len id gl i
        exact small1000 (by omega)
      · rw [upd_ne (ne_of_none ec ng)]
        exact s3 _ _ (sm _ _ ec)
      · rw [nz_yes hs ne]
        refine (hT.keep ((KT.of s3).trans (KT.upd x3))).snoc ?_
        rw [upd_ne (ne_of ep x3 (by intro z; cases z))]
        exact ep
    · have z : gl[i] = 0 := by
        by_cases z : gl[i] = 0
        · exact z
        · rw [decide_eq_false (fun k => z (V.int.inj k))] at e
          exact absurd rfl e
      rw [z] at hs
      rw [nz_no hs]
      exact ⟨sm, xs, eD, hT⟩
  rintro H8 ⟨s8, gx, eg8, gT⟩
  rw [List.length_map, Int.toNat_natCast] at gT
  have e3 := s8 _ _ e3
  have est := s8 _ _ est
  have B8 := B7.same s8
  refine ⟨_, rfl, gs, _, rfl, .inl (SqL.of e3), _, rfl, by rw [List.length_map]; omega, by rw [List.length_map]; omega, fun bd nb => ?_⟩
  refine lp_it walk_rg (fun i G => Same H8 G ∧ ∃ xs, G bd = some (.lst xs) ∧ TermsAt G xs (nz (fun s => -s) gl i)) ⟨same_upd nb, [], upd_same, TermsAt.nil⟩ (fun _ _ _ _ => trivial) ?_ ?_
  · rintro i v G0 G hi ⟨sm, xs, eD, hT⟩ ⟨rfl, rfl⟩
    rw [List.length_map, Int.toNat_natCast] at hi
    have hs : gl[i]? = some gl[i] := List.getElem?_eq_getElem hi
    have hat : atI (gl.map V.int) (i : Int) = some (.int gl[i]) := atI_nat (by rw [List.getElem?_map, hs]; rfl)
    have gL' : SqL K G gs (gl.map V.int) := SqL.of (sm _ _ e3)
    refine ⟨rfl, ?_⟩
    refine ⟨_, rfl, _, rfl, gs, _, _, _, rfl, rfl, gL', hat, rfl, _, rfl, ite2 (fun e => ?_) (fun e => ?_)⟩
    · have ne : gl[i] ≠ 0 := fun z => by
        rw [z, decide_eq_true rfl] at e
        cases e
      refine ⟨_, rfl, _, rfl, _, rfl, gs, _, _, _, rfl, rfl, gL', hat, _, rfl, (by show 2 ≤ sizeLine; decide), fun p np => ?_⟩
      have s3 := same_upd (o := .tup [.int (i : Int), .int (-gl[i])]) np
      have x3 := s3 _ _ eD
      have ep : (upd G p (.tup [.int (i : Int), .int (-gl[i])])) p = some (.tup [.int (i : Int), .int (-gl[i])]) := upd_same
      refine ⟨xs, x3, ?_, fun c o ec => ?_, _, upd_same, ?_⟩
      · rw [hT.1]
        have := nz_len (fun s => -s) gl i
        exact small1000 (by omega)
      · rw [upd_ne (ne_of_none ec nb)]
        exact s3 _ _ (sm _ _ ec)
      · rw [nz_yes hs ne]
        refine (hT.keep ((KT.of s3).trans (KT.upd x3))).snoc ?_
        rw [upd_ne (ne_of ep x3 (by intro z; cases z))]
        exact ep
    · have z : gl[i] = 0 := by
        by_cases z : gl[i] = 0
        · exact z
        · rw [decide_eq_false (fun k => z (V.int.inj k))] at e
          exact absurd rfl e
      rw [z] at hs
      rw [nz_no hs]
      exact ⟨sm, xs, eD, hT⟩
  rintro H9 ⟨s9, bx, eb9, bT⟩
  rw [List.length_map, Int.toNat_natCast] at bT
  have est := s9 _ _ est
  have B9 := B8.same s9
  have eg9 := s9 _ _ eg8
  have gT := gT.keep (KT.of s9)
  have gz : ∀ fn, (nz fn gl gl.length).length ≤ 100000 := fun fn => Nat.le_trans (nz_len fn gl gl.length) (by omega)
  refine ⟨_, rfl, st, gl, rfl, SqT.of est, by omega, fun p1 x1 H10 np1 s10 ep1 T1 => ?_⟩
  refine ⟨_, rfl, _, _, rfl, TermsAt.sm ep1 (s10 _ _ eg9) T1 (gT.keep (KT.of s10)) (gz _), _, rfl, iteF' rfl ?_⟩
  have est := s10 _ _ est
  refine ⟨_, rfl, st, gl, rfl, SqT.of est, by omega, fun p2 x2 H11 np2 s11 ep2 T2 => ?_⟩
  refine ⟨_, rfl, _, _, rfl, TermsAt.sm ep2 (s11 _ _ (s10 _ _ eb9)) T2 ((bT.keep (KT.of s10)).keep (KT.of s11)) (gz _), _, rfl, iteF' rfl ?_⟩
  have B11 := (B9.same s10).same s11
  -- count, terms
  refine ⟨_, rfl, b, L, 9, rfl, by decide, by decide, B11, fun c o12 c0 c1 B12 _ => ?_⟩
  generalize upd H11 b o12 = H12 at B12 ⊢
  obtain ⟨n, rfl⟩ := Int.eq_ofNat_of_zero_le c0
  refine ⟨_, rfl, _, _, rfl, rfl, .inl ⟨by decide, by decide⟩, _, rfl, by omega, by omega, fun D nD => ?_⟩
  have en : (2 * (n : Int)).toNat = 2 * n := by omega
  refine lp_it walk_rg (fun i G => Same H12 G ∧ ∃ xs, G D = some (.lst xs) ∧ TermsAt G xs (tms i)) ⟨same_upd nD, [], upd_same, TermsAt.nil⟩ (fun _ _ _ _ => trivial) ?_ ?_
  · rintro i v G0 G hi ⟨sm, xs, eD, hT⟩ ⟨rfl, rfl⟩
    refine ⟨rfl, ?_⟩
    refine ⟨_, rfl, _, _, rfl, rfl, wide_div (b := 8) (by decide) (by decide) (by decide) (by decide), ?_⟩
    refine ⟨_, rfl, _, rfl, _, _, rfl, rfl, wide_div (b := 8) (by decide) (by decide) (by decide) (by decide), _, _, rfl, rfl, .inr ⟨by decide, by decide⟩, _, _, rfl, rfl, _, _, rfl, rfl, .inl ⟨by decide, by decide⟩, _, _, rfl, rfl, ?_⟩
    refine ⟨(by show 2 ≤ sizeLine; decide), fun p np => ?_⟩
    have s3 := same_upd (o := .tup [.int ((i : Int) / 2), .int (1 - 2 * ((i : Int) - (i : Int) / 2 * 2))]) np
    have x3 := s3 _ _ eD
    have ep : (upd G p (.tup [.int ((i : Int) / 2), .int (1 - 2 * ((i : Int) - (i : Int) / 2 * 2))])) p = some (.tup [.int ((i : Int) / 2), .int (1 - 2 * ((i : Int) - (i : Int) / 2 * 2))]) := upd_same
    refine ⟨xs, x3, ?_, fun c o ec => ?_, _, upd_same, ?_⟩
    · rw [hT.1, tms_len]
      exact small1000 (by omega)
    · rw [upd_ne (ne_of_none ec nD)]
      exact s3 _ _ (sm _ _ ec)
    · rw [tms_succ, tm_eq]
      refine (hT.keep ((KT.of s3).trans (KT.upd x3))).snoc ?_
      rw [upd_ne (ne_of ep x3 (by intro z; cases z))]
      exact ep
  rintro H13 ⟨s13, tx, et13, tT⟩
  rw [en] at tT
  refine ⟨_, rfl, n, rfl, by omega, fun p3 x3 H14 np3 s14 ep3 T3 => ?_⟩
  have et14 := s14 _ _ et13
  have tT := tT.keep (KT.of s14)
  refine ⟨_, rfl, _, _, rfl, TermsAt.sm ep3 et14 T3 tT (by rw [tms_len]; omega), _, rfl, iteF' rfl ?_⟩
  -- the last loop
  refine ⟨_, rfl, _, _, rfl, rfl, .inl ⟨by decide, by decide⟩, _, rfl, by omega, by omega, for_range (lo := 0) (n := (2 * (n : Int)).toNat) (fun i σ H' => ∃ y5, σ = [some (.ref a), some (.ref b), some (.ref fs), some (.ref ss), some (.ref gs), y5, y6, y7, some (.ref st), some (.ref g), some (.ref bd), some (.int n), some (.ref D)] ∧ H' = H14) ⟨_, rfl, rfl⟩ ?_ ?_⟩
  · rintro i σ H' hi ⟨z5, rfl, rfl⟩
    have hi2 : i < 2 * n := by omega
    obtain ⟨p, hp, e⟩ := tT.at (tms_at hi2)
    have e0 : (0 : Int) + (i : Int) = (i : Int) := Int.zero_add _
    rw [e0]
    refine ⟨_, rfl, _, rfl, D, _, i, _, rfl, rfl, SqL.of et14, atI_nat hp, ?_⟩
    refine ⟨p, _, _, rfl, SqT.of e, ?_⟩
    rw [tm_rank i]
    exact ⟨_, rfl, _, _, rfl, Sm.flat rfl, _, rfl, iteF' rfl ⟨_, rfl, rfl⟩⟩
  · rintro σ H' ⟨z5, rfl, rfl⟩
    exact q _
end
end VL

namespace VL
open PySem PySem.Spec PyProof.Rows L2
open C8 (Cal pe_c)
theorem all_mk {l : PySem.W.OpenLaw} {w : World} {K : PySem.W.Frag} {h : Heap} {mg : Str → Option Value} {fa f1 f2 f3 f4 f5 f6 f7 f8 f9 f10 : Addr} (X : K.In h) (G : h.Ns mainGlobals mg) (hfa : mg "law" = some (.ref fa))
    {od1 an1 od2 an2 od3 an3 od4 an4 od5 an5 od6 an6 od7 an7 od8 an8 od9 an9 od10 an10 : Option Addr} {sl1 sl2 sl3 sl4 sl5 sl6 sl7 sl8 sl9 sl10 : Array (Option Value)} {oc1 kV1 dc1 pm1 cd1 ct1 oc2 kV2 dc2 pm2 cd2 ct2 oc3 kV3 dc3 pm3 cd3 ct3 oc4 kV4 dc4 pm4 cd4 ct4 oc5 kV5 dc5 pm5 cd5 ct5 oc6 kV6 dc6 pm6 cd6 ct6 oc7 kV7 dc7 pm7 cd7 ct7 oc8 kV8 dc8 pm8 cd8 ct8 oc9 kV9 dc9 pm9 cd9 ct9 oc10 kV10 dc10 pm10 cd10 ct10 : Value}
    (a1 : PySem.W.nsIn K mainGlobals "step_between" = some (some (.ref f1))) (l1 : K.lookup f1 = some ⟨oc1, od1, .func (PySem.W.fnOf "step_between" "step_between" (defArgs sstepbetween) (defBody sstepbetween) (defScope sstepbetween) .none kV1 dc1 pm1 an1 cd1 ct1), sl1⟩) (c1 : PySem.W.codeIn K cd1 "step_between" = true) (k1 : PySem.W.keepIn K (.ref f1) = true)
    (a2 : PySem.W.nsIn K mainGlobals "_sign" = some (some (.ref f2))) (l2 : K.lookup f2 = some ⟨oc2, od2, .func (PySem.W.fnOf "_sign" "_sign" (defArgs ssign) (defBody ssign) (defScope ssign) .none kV2 dc2 pm2 an2 cd2 ct2), sl2⟩) (c2 : PySem.W.codeIn K cd2 "_sign" = true) (k2 : PySem.W.keepIn K (.ref f2) = true)
    (a3 : PySem.W.nsIn K mainGlobals "good_terms" = some (some (.ref f3))) (l3 : K.lookup f3 = some ⟨oc3, od3, .func (PySem.W.fnOf "good_terms" "good_terms" (defArgs sgoodterms) (defBody sgoodterms) (defScope sgoodterms) .none kV3 dc3 pm3 an3 cd3 ct3), sl3⟩) (c3 : PySem.W.codeIn K cd3 "good_terms" = true) (k3 : PySem.W.keepIn K (.ref f3) = true)
    (a4 : PySem.W.nsIn K mainGlobals "bad_terms" = some (some (.ref f4))) (l4 : K.lookup f4 = some ⟨oc4, od4, .func (PySem.W.fnOf "bad_terms" "bad_terms" (defArgs sbadterms) (defBody sbadterms) (defScope sbadterms) .none kV4 dc4 pm4 an4 cd4 ct4), sl4⟩) (c4 : PySem.W.codeIn K cd4 "bad_terms" = true) (k4 : PySem.W.keepIn K (.ref f4) = true)
    (a5 : PySem.W.nsIn K mainGlobals "all_terms" = some (some (.ref f5))) (l5 : K.lookup f5 = some ⟨oc5, od5, .func (PySem.W.fnOf "all_terms" "all_terms" (defArgs sallterms) (defBody sallterms) (defScope sallterms) .none kV5 dc5 pm5 an5 cd5 ct5), sl5⟩) (c5 : PySem.W.codeIn K cd5 "all_terms" = true) (k5 : PySem.W.keepIn K (.ref f5) = true)
    (a6 : PySem.W.nsIn K mainGlobals "term_rank" = some (some (.ref f6))) (l6 : K.lookup f6 = some ⟨oc6, od6, .func (PySem.W.fnOf "term_rank" "term_rank" (defArgs stermrank) (defBody stermrank) (defScope stermrank) .none kV6 dc6 pm6 an6 cd6 ct6), sl6⟩) (c6 : PySem.W.codeIn K cd6 "term_rank" = true) (k6 : PySem.W.keepIn K (.ref f6) = true)
    (a7 : PySem.W.nsIn K mainGlobals "_law_box" = some (some (.ref f7))) (l7 : K.lookup f7 = some ⟨oc7, od7, .func (PySem.W.fnOf "_law_box" "_law_box" (defArgs sLbox) (defBody sLbox) (defScope sLbox) .none kV7 dc7 pm7 an7 cd7 ct7), sl7⟩) (c7 : PySem.W.codeIn K cd7 "_law_box" = true) (k7 : PySem.W.keepIn K (.ref f7) = true)
    (a8 : PySem.W.nsIn K mainGlobals "_law_take" = some (some (.ref f8))) (l8 : K.lookup f8 = some ⟨oc8, od8, .func (PySem.W.fnOf "_law_take" "_law_take" (defArgs sLtake) (defBody sLtake) (defScope sLtake) .none kV8 dc8 pm8 an8 cd8 ct8), sl8⟩) (c8 : PySem.W.codeIn K cd8 "_law_take" = true) (k8 : PySem.W.keepIn K (.ref f8) = true)
    (a9 : PySem.W.nsIn K mainGlobals "_law_same" = some (some (.ref f9))) (l9 : K.lookup f9 = some ⟨oc9, od9, .func (PySem.W.fnOf "_law_same" "_law_same" (defArgs sLsame) (defBody sLsame) (defScope sLsame) .none kV9 dc9 pm9 an9 cd9 ct9), sl9⟩) (c9 : PySem.W.codeIn K cd9 "_law_same" = true) (k9 : PySem.W.keepIn K (.ref f9) = true)
    (a10 : PySem.W.nsIn K mainGlobals "law" = some (some (.ref f10))) (l10 : K.lookup f10 = some ⟨oc10, od10, .func (PySem.W.fnOf "law" "law" (defArgs slaw) (defBody slaw) (defScope slaw) .none kV10 dc10 pm10 an10 cd10 ct10), sl10⟩) (c10 : PySem.W.codeIn K cd10 "law" = true) (k10 : PySem.W.keepIn K (.ref f10) = true)
    (zlen : PySem.W.nsIn K mainGlobals "len" = some none) (zlist : PySem.W.nsIn K mainGlobals "list" = some none) (zint : PySem.W.nsIn K mainGlobals "int" = some none) (zisinstance : PySem.W.nsIn K mainGlobals "isinstance" = some none) (zbool : PySem.W.nsIn K mainGlobals "bool" = some none) (zstr : PySem.W.nsIn K mainGlobals "str" = some none) (ztuple : PySem.W.nsIn K mainGlobals "tuple" = some none) (zrange : PySem.W.nsIn K mainGlobals "range" = some none) (zzip : PySem.W.nsIn K mainGlobals "zip" = some none) (zenumerate : PySem.W.nsIn K mainGlobals "enumerate" = some none) :
    ∃ fd : FuncData, (∀ (s : Shared) (v : Value), BindsTo s fd ⟨[v], []⟩ [("_law_script", v)]) ∧ ∀ base : Heap, K.In base → base.Ns mainGlobals mg → FnOk l.prog w K mg base CX0 4 fa fd ["_law_script"] (spLaw K) := by
  have e := hfa.symm.trans (PySem.W.mg_of X G a10)
  cases e
  have T : Tx mg := ⟨PySem.W.mg_none_of X G zlen, PySem.W.mg_none_of X G zlist, PySem.W.mg_none_of X G zint, PySem.W.mg_none_of X G zisinstance, PySem.W.mg_none_of X G zbool, PySem.W.mg_none_of X G zstr, PySem.W.mg_none_of X G ztuple, PySem.W.mg_none_of X G zrange, PySem.W.mg_none_of X G zzip, PySem.W.mg_none_of X G zenumerate⟩
  have F1 := fun_mk (st := sstepbetween) l1 c1 k1
  have F2 := fun_mk (st := ssign) l2 c2 k2
  have F3 := fun_mk (st := sgoodterms) l3 c3 k3
  have F4 := fun_mk (st := sbadterms) l4 c4 k4
  have F5 := fun_mk (st := sallterms) l5 c5 k5
  have F6 := fun_mk (st := stermrank) l6 c6 k6
  have F7 := fun_mk (st := sLbox) l7 c7 k7
  have F8 := fun_mk (st := sLtake) l8 c8 k8
  have F9 := fun_mk (st := sLsame) l9 c9 k9
  have F10 := fun_mk (st := slaw) l10 c10 k10
  have b1 := F1.binds (ps := ["earlier", "later"]) fun _ _ _ _ _ _ us hl => match us, hl with | [_, _], _ => rfl
  have m1 := PySem.W.mg_of X G a1
  have b2 := F2.binds (ps := ["number"]) fun _ _ _ _ _ _ us hl => match us, hl with | [_], _ => rfl
  have m2 := PySem.W.mg_of X G a2
  have b3 := F3.binds (ps := ["step"]) fun _ _ _ _ _ _ us hl => match us, hl with | [_], _ => rfl
  have m3 := PySem.W.mg_of X G a3
  have b4 := F4.binds (ps := ["step"]) fun _ _ _ _ _ _ us hl => match us, hl with | [_], _ => rfl
  have m4 := PySem.W.mg_of X G a4
  have b5 := F5.binds (ps := ["count"]) fun _ _ _ _ _ _ us hl => match us, hl with | [_], _ => rfl
  have m5 := PySem.W.mg_of X G a5
  have b6 := F6.binds (ps := ["term"]) fun _ _ _ _ _ _ us hl => match us, hl with | [_], _ => rfl
  have m6 := PySem.W.mg_of X G a6
  have b7 := F7.binds (ps := ["_law_script"]) fun _ _ _ _ _ _ us hl => match us, hl with | [_], _ => rfl
  have m7 := PySem.W.mg_of X G a7
  have b8 := F8.binds (ps := ["_law_box_here", "_law_size"]) fun _ _ _ _ _ _ us hl => match us, hl with | [_, _], _ => rfl
  have m8 := PySem.W.mg_of X G a8
  have b9 := F9.binds (ps := ["_law_actual", "_law_due"]) fun _ _ _ _ _ _ us hl => match us, hl with | [_, _], _ => rfl
  have m9 := PySem.W.mg_of X G a9
  exact ⟨PySem.W.fnOf "law" "law" (defArgs slaw) (defBody slaw) (defScope slaw) .none kV10 dc10 pm10 an10 cd10 ct10, fun s v => .of_eq rfl, fun base _ _ => ok_law F10 T (cal_of F7 (ok_box F7 T) m7 b7) (cal_of F8 (ok_take F8 T) m8 b8) (cal_same F9 T m9 b9 3) (cal_of F1 (ok_step F1 T (cal_of F2 (ok_sign F2) m2 b2)) m1 b1) (cal_of F3 (ok_good F3 T) m3 b3) (cal_of F4 (ok_bad F4 T) m4 b4) (cal_of F5 (ok_all F5 T) m5 b5) (cal_of F6 (ok_rank F6) m6 b6)⟩
end VL
open PySem PySem.W PyProof.Rows
set_option maxHeartbeats 0 in
theorem PySem.Challenge.cw_shelfterms_k05_steps_and_terms_holds : PySem.Challenge.rw_shelfterms_k05_steps_and_terms.Holds := by
  w_on; o_law; k_head; (case hw => w_witness2)
  k_fill
  refine L2.walk_of (l := PySem.Challenge.rw_shelfterms_k05_steps_and_terms) (n := 63) (k := 4) (x := "_law_script") (CX := fun _ => L2.CX0) (sp := fun w => VL.spLaw _) rfl (by decide) rfl ⟨rfl, by decide, by decide⟩ (fun w h Y => PySem.W.kIn_of Y) ?F (fun _ _ a ns hl _ hS => ⟨a, ns, rfl, hS, hl, fun _ => rfl⟩) (fun _ _ _ _ _ h => h)
  case F =>
    intro w mg fa h KX G hmg
    refine' VL.all_mk KX G hmg ?a1 ?l1 ?c1 ?k1 ?a2 ?l2 ?c2 ?k2 ?a3 ?l3 ?c3 ?k3 ?a4 ?l4 ?c4 ?k4 ?a5 ?l5 ?c5 ?k5 ?a6 ?l6 ?c6 ?k6 ?a7 ?l7 ?c7 ?k7 ?a8 ?l8 ?c8 ?k8 ?a9 ?l9 ?c9 ?k9 ?a10 ?l10 ?c10 ?k10 ?zlen ?zlist ?zint ?zisinstance ?zbool ?zstr ?ztuple ?zrange ?zzip ?zenumerate
    (case a1 => k_is); (case l1 => k_is); (case c1 => k_is); (case k1 => k_is); (case a2 => k_is); (case l2 => k_is); (case c2 => k_is); (case k2 => k_is); (case a3 => k_is); (case l3 => k_is); (case c3 => k_is); (case k3 => k_is); (case a4 => k_is); (case l4 => k_is); (case c4 => k_is); (case k4 => k_is); (case a5 => k_is); (case l5 => k_is); (case c5 => k_is); (case k5 => k_is); (case a6 => k_is); (case l6 => k_is); (case c6 => k_is); (case k6 => k_is); (case a7 => k_is); (case l7 => k_is); (case c7 => k_is); (case k7 => k_is); (case a8 => k_is); (case l8 => k_is); (case c8 => k_is); (case k8 => k_is); (case a9 => k_is); (case l9 => k_is); (case c9 => k_is); (case k9 => k_is); (case a10 => k_is); (case l10 => k_is); (case c10 => k_is); (case k10 => k_is); (case zlen => k_is); (case zlist => k_is); (case zint => k_is); (case zisinstance => k_is); (case zbool => k_is); (case zstr => k_is); (case ztuple => k_is); (case zrange => k_is); (case zzip => k_is); (case zenumerate => k_is)

