import PyProof.Rows.All
import Wide.All
import OpenK.AllK
import Wide.FinOn
import HandS.ForMost
import HandS.IsInst
import HandS.Codes
import HandS.Wide
import HandS.Walk
import HandS.Zip
import KE.GoesEnum
import HandS.Strs
import HandS.ClsMeth
import HandS.Star
import HandS.Style
import HandS.Defaults
import PyProof.CollectStr
import PySem.Challenge.RW_shelfterms_k04_is_book
set_option Elab.async false
set_option linter.all false
set_option maxRecDepth 100000
set_option maxHeartbeats 4000000
namespace VL
open PySem PySem.Spec PyProof.Rows L2
open C8 (Cal pe_c)
/-! ### heaps -/
/-- all but b is kept -/
def Kp (b : Addr) (H H' : Hp) : Prop := ∀ c o, c ≠ b → H c = some o → H' c = some o
theorem Kp.refl (b : Addr) (H : Hp) : Kp b H H := fun _ _ _ h => h
theorem Kp.trans {b : Addr} {H H1 H2 : Hp} (x : Kp b H H1) (y : Kp b H1 H2) : Kp b H H2 := fun c o n h => y c o n (x c o n h)
theorem Kp.of {b : Addr} {H H' : Hp} (x : Same H H') : Kp b H H' := fun c o _ h => x c o h
theorem Kp.upd {b : Addr} {H : Hp} (o : HO) : Kp b H (upd H b o) := fun c u n h => by
  rw [upd_ne n]
  exact h
theorem same_upd {H : Hp} {p : Addr} {o : HO} (h : H p = none) : Same H (upd H p o) := fun b x e => by
  rw [upd_ne (ne_of_none e h)]
  exact e
theorem _root_.L2.Same.sqt {K : PySem.W.Frag} {H H' : Hp} {a : Addr} {xs : List V} (e : Same H H') (h : SqT K H a xs) : SqT K H' a xs := by
  rcases h with (h | ⟨o, h⟩) | h
  · exact .inl (.inl (e _ _ h))
  · exact .inl (.inr ⟨o, e _ _ h⟩)
  · exact .inr h
/-- tuples are kept -/
def KT (H H' : Hp) : Prop := ∀ c xs, H c = some (.tup xs) → H' c = some (.tup xs)
theorem KT.refl (H : Hp) : KT H H := fun _ _ h => h
theorem KT.trans {H H1 H2 : Hp} (x : KT H H1) (y : KT H1 H2) : KT H H2 := fun c xs h => y c xs (x c xs h)
theorem KT.of {H H' : Hp} (x : Same H H') : KT H H' := fun c xs h => x c _ h
theorem KT.lst {H H' : Hp} {b : Addr} {xs : List V} (x : Kp b H H') (h : H b = some (.lst xs)) : KT H H' := fun c ys e => x c _ (ne_of e h (by intro z; cases z)) e
theorem KT.upd {H : Hp} {b : Addr} {xs : List V} {o : HO} (h : H b = some (.lst xs)) : KT H (upd H b o) := KT.lst (Kp.upd o) h

theorem upd_self {H : Hp} {b : Addr} {o : HO} (h : H b = some o) : L2.upd H b o = H := by
  funext c
  by_cases e : c = b
  · subst e; rw [upd_same, h]
  · rw [upd_ne e]

/-! ### the script's box -/
/-- the law's box stands at b: the cells in the list at L, the place, the rest, the seed -/
def Box (H : Hp) (b L : Addr) : Prop := ∃ (cs : List Int) (p r x : Int), L ≠ b ∧ H L = some (.lst (cs.map V.int)) ∧ H b = some (.lst [.ref L, .int p, .int r, .int x]) ∧ 0 ≤ p ∧ 0 ≤ x ∧ x < 2147483647
theorem Box.lst {H : Hp} {b L : Addr} (h : Box H b L) : ∃ xs, H b = some (.lst xs) := by
  obtain ⟨cs, p, r, x, _, _, h, _⟩ := h
  exact ⟨_, h⟩
theorem Box.lstL {H : Hp} {b L : Addr} (h : Box H b L) : ∃ xs, H L = some (.lst xs) := by
  obtain ⟨cs, p, r, x, _, h, _⟩ := h
  exact ⟨_, h⟩
theorem Box.same {H H' : Hp} {b L : Addr} (h : Box H b L) (s : Same H H') : Box H' b L := by
  obtain ⟨cs, p, r, x, n, hL, hb, q⟩ := h
  exact ⟨cs, p, r, x, n, s _ _ hL, s _ _ hb, q⟩
/-- another object may change -/
theorem Box.upd {H : Hp} {b L l : Addr} {o : HO} (h : Box H b L) (h1 : l ≠ b) (h2 : l ≠ L) : Box (L2.upd H l o) b L := by
  obtain ⟨cs, p, r, x, n, hL, hb, q⟩ := h
  exact ⟨cs, p, r, x, n, by rw [upd_ne h2.symm]; exact hL, by rw [upd_ne h1.symm]; exact hb, q⟩
/-- a new object is neither -/
theorem Box.new {H : Hp} {b L l : Addr} (h : Box H b L) (n : H l = none) : l ≠ b ∧ l ≠ L := by
  obtain ⟨xs, h1⟩ := h.lst
  obtain ⟨ys, h2⟩ := h.lstL
  exact ⟨(ne_of_none h1 n).symm, (ne_of_none h2 n).symm⟩

/-! ### the same data -/
def flt : V → Bool
  | .non => true
  | .bl _ => true
  | .int _ => true
  | .str _ => true
  | _ => false
/-- x and y hold the same data, of depth n at most -/
def Sm (H : Hp) : Nat → V → V → Prop
  | 0, x, y => x = y ∧ flt y = true
  | n + 1, x, y => (x = y ∧ flt y = true) ∨ ∃ (a b : Addr) (xs ys : List V), x = .ref a ∧ y = .ref b ∧
      ((H a = some (.lst xs) ∧ H b = some (.lst ys)) ∨ (H a = some (.tup xs) ∧ H b = some (.tup ys))) ∧ xs.length = ys.length ∧ xs.length ≤ 100000 ∧ ∀ (i : Nat) u v, xs[i]? = some u → ys[i]? = some v → Sm H n u v
theorem Sm.flat {H : Hp} {n : Nat} {x : V} (h : flt x = true) : Sm H n x x := by
  cases n with
  | zero => exact ⟨rfl, h⟩
  | succ n => exact .inl ⟨rfl, h⟩
theorem Sm.tup {H : Hp} {n : Nat} {a b : Addr} {xs ys : List V} (ha : H a = some (.tup xs)) (hb : H b = some (.tup ys)) (hl : xs.length = ys.length) (hz : xs.length ≤ 100000) (h : ∀ (i : Nat) u v, xs[i]? = some u → ys[i]? = some v → Sm H n u v) : Sm H (n + 1) (.ref a) (.ref b) :=
  .inr ⟨a, b, xs, ys, rfl, rfl, .inr ⟨ha, hb⟩, hl, hz, h⟩
theorem Sm.lst {H : Hp} {n : Nat} {a b : Addr} {xs ys : List V} (ha : H a = some (.lst xs)) (hb : H b = some (.lst ys)) (hl : xs.length = ys.length) (hz : xs.length ≤ 100000) (h : ∀ (i : Nat) u v, xs[i]? = some u → ys[i]? = some v → Sm H n u v) : Sm H (n + 1) (.ref a) (.ref b) :=
  .inr ⟨a, b, xs, ys, rfl, rfl, .inl ⟨ha, hb⟩, hl, hz, h⟩
/-- two sequences of the same flat things -/
theorem Sm.tupF {H : Hp} {n : Nat} {a b : Addr} {xs : List V} (ha : H a = some (.tup xs)) (hb : H b = some (.tup xs)) (hz : xs.length ≤ 100000) (h : ∀ x ∈ xs, flt x = true) : Sm H (n + 1) (.ref a) (.ref b) :=
  Sm.tup ha hb rfl hz fun i u v hu hv => by
    rw [hu] at hv
    cases hv
    exact Sm.flat (h _ (List.mem_of_getElem? hu))
theorem Sm.lstF {H : Hp} {n : Nat} {a b : Addr} {xs : List V} (ha : H a = some (.lst xs)) (hb : H b = some (.lst xs)) (hz : xs.length ≤ 100000) (h : ∀ x ∈ xs, flt x = true) : Sm H (n + 1) (.ref a) (.ref b) :=
  Sm.lst ha hb rfl hz fun i u v hu hv => by
    rw [hu] at hv
    cases hv
    exact Sm.flat (h _ (List.mem_of_getElem? hu))
theorem flt_ints (ns : List Int) : ∀ x ∈ ns.map V.int, flt x = true := fun x h => by
  obtain ⟨n, _, rfl⟩ := List.mem_map.mp h
  rfl

theorem Sm.cases {H : Hp} {n : Nat} {x y : V} (h : Sm H n x y) : (x = y ∧ flt y = true) ∨ ∃ (m : Nat) (a b : Addr) (xs ys : List V), n = m + 1 ∧ x = .ref a ∧ y = .ref b ∧
      ((H a = some (.lst xs) ∧ H b = some (.lst ys)) ∨ (H a = some (.tup xs) ∧ H b = some (.tup ys))) ∧ xs.length = ys.length ∧ xs.length ≤ 100000 ∧ ∀ (i : Nat) u v, xs[i]? = some u → ys[i]? = some v → Sm H m u v := by
  cases n with
  | zero => exact .inl h
  | succ n =>
    rcases h with h | ⟨a, b, xs, ys, h⟩
    · exact .inl h
    · exact .inr ⟨n, a, b, xs, ys, rfl, h⟩
theorem isi {K : PySem.W.Frag} {H : Hp} {x : V} {T : String} {Q : VK} (t : String) (b : Bool) (ty : TyX K H x (.type t)) (h : kitB t T = some b) (q : Q (.bl b) H) : rIsi K [x, .ty T] H Q := ⟨x, .ty T, .type t, .type T, b, rfl, .ty T, ty, kit_ty h, q⟩

/-! ### rules with the written part told (within a comprehension) -/
section
variable {X : Cx}
theorem ix_listK (K : PySem.W.Frag) (h : X.K = K := by rfl) : IxR X (rIxL K) := h ▸ ix_list
theorem ix_tupK (K : PySem.W.Frag) (h : X.K = K := by rfl) : IxR X (rIxT K) := h ▸ ix_tup
def rLenK (K : PySem.W.Frag) : List V → Hp → VK → Prop := fun xs H Q => ∃ p ys, xs = [.ref p] ∧ (SqL K H p ys ∨ SqT K H p ys) ∧ Q (.int ys.length) H
theorem call_lenK (K : PySem.W.Frag) (h : X.K = K := by rfl) : CallR X (.builtin "len") (rLenK K) := h ▸ call_len_seq
theorem pi_tupK (K : PySem.W.Frag) {tg l : Expr} {tl : TE} (hl : PE X l tl) (h : X.K = K := by rfl) : PI X tg l (iTup K tl) := h ▸ pi_tup hl
theorem pi_listK (K : PySem.W.Frag) {tg l : Expr} {tl : TE} (hl : PE X l tl) (h : X.K = K := by rfl) : PI X tg l (iList K tl) := h ▸ pi_list hl
theorem call_isiK' (K : PySem.W.Frag) (h : X.K = K := by rfl) : CallR X (.builtin "isinstance") (rIsi K) := h ▸ call_isi
end

/-! ### promises of the law's own defs -/
def spBox (K : PySem.W.Frag) : Sp := fun vs H Q _ => ∃ (a : Addr) (ns : List Int), vs = [.ref a] ∧ SqL K H a (ns.map V.int) ∧ ns.length ≤ 63 ∧ ∀ b L H', H b = none → H L = none → Same H H' → Box H' b L → Q (.ref b) H'
def spTake : Sp := fun vs H Q _ => ∃ (b L : Addr) (n : Int), vs = [.ref b, .int n] ∧ 0 < n ∧ n < 2 ^ 64 ∧ Box H b L ∧ ∀ v o, 0 ≤ v → v < n → Box (upd H b o) b L → (∃ xs, o = .lst xs) → Q (.int v) (upd H b o)
def spNo : Sp := fun _ _ _ _ => False
def spSame : Nat → Sp
  | 0 => spNo
  | n + 1 => fun vs H Q _ => ∃ x y, vs = [x, y] ∧ Sm H n x y ∧ Q (.bl true) H
theorem fn_no {P : Program} {w : World} {K : PySem.W.Frag} {mg : Str → Option Value} {base : Heap} {k : Nat} {f : Addr} {fd : FuncData} {ps : List Str} : FnOk P w K mg base CX0 k f fd ps spNo :=
  ⟨fun _ _ _ _ h => h.elim, fun _ _ _ _ _ _ _ _ _ _ _ _ _ h => h.elim⟩
theorem iteF' {c : Bool} {A B : Prop} (e : c = false) (h : B) : if c = true then A else B := by
  subst e
  exact iteF h
theorem iteT' {c : Bool} {A B : Prop} (e : c = true) (h : A) : if c = true then A else B := by
  subst e
  exact iteT h
/-- a def of the module, as its callers want it -/
theorem cal_of {P : Program} {w : World} {K : PySem.W.Frag} {mg : Str → Option Value} {base : Heap} {k : Nat} {x : Str} {st : Stmt} {f : Addr} {fd : FuncData} {ps : List Str} {sp : Sp} (F : Fun K x x st f fd) (G : FnOk P w K mg base CX0 k f fd ps sp) (hm : mg x = some (.ref f)) (b : Binds K fd ps []) :
    Cal P w K mg base k x sp [] := ⟨f, fd, ps, [], G, hm, F.kp, b, .nil⟩
theorem cutV_ints (ns : List Int) (lo hi : Option Int) : ∃ cs : List Int, cutV (ns.map V.int) lo hi = cs.map V.int := by
  unfold cutV
  rw [← List.map_drop, ← List.map_take]
  exact ⟨_, rfl⟩
theorem map_at {α β : Type} {f : α → β} {xs : List α} {i : Nat} {y : β} (h : (xs.map f)[i]? = some y) : ∃ x, xs[i]? = some x ∧ y = f x := by
  rw [List.getElem?_map] at h
  obtain ⟨x, h1, h2⟩ := Option.map_eq_some_iff.mp h
  exact ⟨x, h1, h2.symm⟩
theorem atI0 {α : Type} {x : α} {xs : List α} : atI (x :: xs) 0 = some x := atI_nat (j := 0) rfl
theorem atI_pos {α : Type} {xs : List α} {p : Int} {x : α} (h0 : 0 ≤ p) (h : xs[p.toNat]? = some x) : atI xs p = some x := by
  obtain ⟨n, rfl⟩ := Int.eq_ofNat_of_zero_le h0
  exact atI_nat h
theorem atI_ints {cs : List Int} {p : Int} (h0 : 0 ≤ p) (h : p < (cs.length : Int)) : ∃ c, cs[p.toNat]? = some c ∧ atI (cs.map V.int) p = some (.int c) := by
  have h1 : p.toNat < cs.length := by omega
  have h2 : cs[p.toNat]? = some (cs[p.toNat]'h1) := List.getElem?_eq_getElem h1
  refine ⟨_, h2, atI_pos h0 ?_⟩
  rw [List.getElem?_map, h2]
  rfl
theorem ixN_nat {n j : Nat} (h : j < n) : ixN n (j : Int) = some j := by
  unfold ixN
  rw [if_pos (by omega), if_pos (by omega)]
  rfl
end VL

namespace VL
open PySem PySem.Spec PyProof.Rows L2
/-! ### enumerate over a tuple (mine: the layer's pi_enum walks lists alone) -/
def EnT (K : PySem.W.Frag) (a : Addr) : It where
  go := fun k G => ∃ (zs : List V) (z : V), SqT K G a zs ∧ zs[k]? = some z
  yld := fun k G u G' => ∃ (T : Addr) (z : V), u = .ref T ∧ G T = none ∧ G' = upd G T (.tup [.int (k : Nat), z]) ∧ ∀ zs, SqT K G a zs → zs[k]? = some z
  stop := fun k G => ∃ zs : List V, SqT K G a zs ∧ zs.length = k
theorem enT_turn {P : Program} {w : World} {K : PySem.W.Frag} {es : List Expr} {q : Nat} {ps : Pos} (a en ti : Addr) :
    Turn P w K (.Tuple es q ps) (EnT K a) [en, ti] en (fun k h => (∃ was, IsEnum h en ti ((k : Nat) : Int) was) ∧ h.IsTupleIter ti a k ∧ en ≠ ti) := by
  refine ⟨List.mem_cons_self .., ?_, ?_, ?_, ?_, ?_⟩
  · rintro k h ⟨⟨was, h1⟩, ⟨ob, h2, _, h3⟩, _⟩ c hc
    rcases List.mem_cons.mp hc with rfl | hc
    · exact ⟨_, h1, fun _ z => nomatch z⟩
    · cases List.mem_singleton.mp hc
      refine ⟨ob, h2, fun _ z => ?_⟩
      rw [h3] at z
      cases z
  · rintro k h h' ⟨⟨was, h1⟩, h2, ne⟩ kp
    exact ⟨⟨was, kp en (List.mem_cons_self ..) _ h1⟩, h2.at fun ob z => kp ti (List.mem_cons_of_mem _ (List.mem_cons_self ..)) ob z, ne⟩
  · rintro X rfl rfl rfl calm k pins s σ G E I free ⟨⟨was, h1⟩, h2, ne⟩ ⟨zs, z, hq, hz⟩
    obtain ⟨vs, rv, hT, _⟩ := I.tuple hq
    obtain ⟨u, hu, ru⟩ := rv.get hz
    have nea : en ≠ a := fun e => by
      subst e
      obtain ⟨ob, e1, e2, _⟩ := hT
      have e3 := h1.symm.trans e1
      cases e3
      exact absurd (Value.type.inj e2) (by decide)
    have nta : a ≠ ti := fun e => by
      subst e
      obtain ⟨ob, e1, e2, _⟩ := hT
      obtain ⟨oc, c1, c2, _⟩ := h2
      rw [c1] at e1
      cases e1
      rw [c2] at e2
      exact absurd (Value.type.inj e2) (by decide)
    have elt : en < s.heap.objs.size := Heap.lt_size h1
    have tlt : ti < s.heap.objs.size := by
      obtain ⟨ob, e1, _⟩ := h2
      exact Heap.lt_size e1
    have klt : k < vs.toArray.size := by
      have := (List.getElem?_eq_some_iff.mp hu).1
      simpa using this
    have D := Draws.tuple (prog := X.prog) (w := X.w) (A := X.A.in1) (I.ok.hd calm) ti a nta vs.toArray
    refine wpAny_pyNext_enum_itemC (c := (k : Int)) D h1 ⟨h2, hT⟩ klt ne (fun c => ?_) fun x h' tk hx out st' tup _ kp => ?_
    · rcases List.mem_cons.mp c with e | c
      · exact ne e
      · exact nea (List.mem_singleton.mp c)
    · have ex : x = u := by
        have hx' : vs.toArray[k]? = some x := hx
        rw [List.getElem?_toArray, hu] at hx'
        exact (Option.some.inj hx').symm
      subst ex
      refine ⟨_, rfl, wpAny_letOwnedTupleGo_enum (s := { s with heap := h', toks := tk + 1 }) out fun g eg sb => ?_⟩
      have tup2 : g.get? s.heap.objs.size = some { cls := .type "tuple", data := .seq #[.int k tk, x] } := (sb.2 _ (Nat.ne_of_gt elt)).trans tup
      have made : ObjOk X.prog X.w (upd G s.heap.objs.size (.tup [.int (k : Nat), z])) g s.heap.objs.size (.tup [.int (k : Nat), z]) := by
        refine ⟨by show 2 ≤ sizeLine; decide, [.int k tk, x], ?_, _, tup2, rfl, _, rfl⟩
        exact .cons ⟨_, rfl⟩ (.cons ru .nil)
      have I' : Inv X pins σ (upd G s.heap.objs.size (.tup [.int (k : Nat), z])) { s with heap := g, toks := tk + 1 } := by
        refine I.turnedNew (ch := [en, ti]) (fun c ob hc e => ?_) free (Nat.le_refl _) made
        have c1 : c ≠ en := fun e => hc (e ▸ List.mem_cons_self ..)
        have c2 : c ≠ ti := fun e => hc (e ▸ List.mem_cons_of_mem _ (List.mem_cons_self ..))
        exact (sb.2 c c1).trans (kp c ob c1 c2 e)
      refine ⟨.ref s.heap.objs.size, _, I', rfl, ⟨_, z, rfl, I.hok.fresh (Nat.le_refl _), rfl, fun ys hy => ?_⟩, ⟨⟨x, ?_⟩, st'.1.at fun ob e => (sb.2 ti ne.symm).trans e, ne⟩, fun c hc => ?_⟩
      · rw [I.tuple_inj hy hq]
        exact hz
      · have e1 : ((k + 1 : Nat) : Int) = (k : Int) + 1 := by omega
        rw [e1]
        exact eg
      · have clt : c < s.heap.objs.size := by
          rcases List.mem_cons.mp hc with rfl | hc
          · exact elt
          · cases List.mem_singleton.mp hc
            exact tlt
        rw [upd_ne (Nat.ne_of_lt clt)]
        exact (free c hc).1
  · rintro X rfl rfl rfl calm k pins s σ G E I free ⟨⟨was, h1⟩, h2, ne⟩ ⟨zs, hq, hz⟩
    obtain ⟨vs, rv, hT, _⟩ := I.tuple hq
    have hl := rv.length
    obtain ⟨f0, f1, f2, f3, f4, f5⟩ := free ti (List.mem_cons_of_mem _ (List.mem_cons_self ..))
    have nta : a ≠ ti := fun e => by
      subst e
      obtain ⟨ob, e1, e2, _⟩ := hT
      obtain ⟨oc, c1, c2, _⟩ := h2
      rw [c1] at e1
      cases e1
      rw [c2] at e2
      exact absurd (Value.type.inj e2) (by decide)
    have D := Draws.tuple (prog := X.prog) (w := X.w) (A := X.A.in1) (I.ok.hd calm) ti a nta vs.toArray
    have ek : k = vs.toArray.size := by
      rw [← hz, hl]
      simp
    refine wpAny_pyNext_enum_endD D h1 ⟨ek ▸ h2, hT⟩ fun g ext => ⟨rfl, I.turned (t' := s.toks) (fun c ob hc e => ext c ob hc e) f0 f1 f3 f4 f5⟩
  · rintro A k s Q E ⟨⟨was, h1⟩, _⟩ q
    exact wpAny_pyIter_enum h1 q
/-- what enumerate(v) leaves: the iterator of v, behind it the enumerate object -/
abbrev enHeap (hp : Heap) (o : Obj) : Heap := (hp.push o).push { cls := .type "enumerate", data := .fields #[.none, .bool false, .ref hp.objs.size, rawInt 0, .none, .none] }
theorem en_meets {v : Value} {o : Obj} {B0 : Heap → Prop} (B : Begins v o B0) :
    Meets (Builtin.«enumerate.__new__» ⟨[.type "enumerate", v], []⟩) (fun _ R s => B0 s.heap ∧ R (.ok (.ret (.ref (s.heap.push o).objs.size))) { s with heap := enHeap s.heap o }) := by
  refine .of_wp fun prog w A R s hh => ?_
  obtain ⟨hp, gg, dd, tt, oo⟩ := s
  obtain ⟨b0, hR⟩ := hh
  have hsub := sub_enumerate
  have st : ∀ {A1 : Around} {E1 : Value → Shared → Prop} {Q1 : Value → Shared → Prop}, Q1 (.ref hp.objs.size) ⟨hp.push o, gg, dd, tt, oo⟩ → wpAny (model prog w) A1 (pyIter v) Q1 E1 ⟨hp, gg, dd, tt, oo⟩ :=
    fun z => B.iter prog w _ _ ⟨hp, gg, dd, tt, oo⟩ _ b0 z
  wp_walk using st
  refine wpAny_stack_any fun sk => wpAny_pure ?_
  split
  · rename_i c _ _ _ _ _
    cases (c == Value.type "enumerate") <;> (wp_walk using st; exact ⟨_, rfl, hR⟩)
  · wp_walk using st
    exact ⟨_, rfl, hR⟩
theorem en_call {prog : Program} {w : World} {A : Around} {E : Value → Shared → Prop} {s : Shared} {v : Value} {o : Obj} {B0 : Heap → Prop} {Q : Value → Shared → Prop} (B : Begins v o B0) (b0 : B0 s.heap)
    (q : Q (.ref (s.heap.objs.size + 1)) { s with heap := enHeap s.heap o }) : wpAny (model prog w) A (call (.type "enumerate") [v]) Q E s := by
  have z : (s.heap.push o).objs.size = s.heap.objs.size + 1 := Heap.size_push ..
  refine callType_new F.called_enumerate (by decide) (F.typeCall_enumerate_1 _) (F.newCall_enumerate_1 _) (fun b => F.args_object_init_2 b _) F.entry_enumerate_new (en_meets B) ⟨b0, ?_⟩
  show _ ∧ _
  rw [z]
  have g := Heap.get?_push_size (s.heap.push o) (o := { cls := .type "enumerate", data := .fields #[.none, .bool false, .ref s.heap.objs.size, rawInt 0, .none, .none] }) rfl
  rw [z] at g
  exact ⟨⟨_, g, rfl⟩, q⟩
/-- a comprehension's loop (either loop of one with two for) over a walk: B is what the turn must bring about, told what comes next -/
theorem lp_it {J : It} {n : Nat} {G : Hp → Prop} {Y : Nat → Hp → V → Hp → Prop} (w : Walk J n G Y) {B : (Hp → Prop) → V → Hp → Prop} {H0 : Hp} {Qd : Hp → Prop} (Pv : Nat → Hp → Prop) (h0 : Pv 0 H0) (hG : ∀ i H, i ≤ n → Pv i H → G H)
    (hs : ∀ i x H H', i < n → Pv i H → Y i H x H' → B (Pv (i + 1)) x H') (hd : ∀ H, Pv n H → Qd H) :
    ∃ W : Nat → Nat → Hp → Prop, (∃ m, W 0 m H0) ∧ ∀ i m H, W i m H → (J.stop i H ∧ Qd H) ∨ (J.go i H ∧ ∃ Nx : Hp → Prop, (∀ H', Nx H' → ∃ m', m' < m ∧ W (i + 1) m' H') ∧ ∀ x H', J.yld i H x H' → B Nx x H') := by
  refine ⟨fun i m H => m + i = n ∧ Pv i H, ⟨n, rfl, h0⟩, ?_⟩
  rintro i m H ⟨em, p⟩
  have g := hG i H (by omega) p
  by_cases z : m = 0
  · have e : i = n := by omega
    subst e
    exact .inl ⟨w.stops H g, hd H p⟩
  · exact .inr ⟨w.goes i H (by omega) g, Pv (i + 1), fun H' p' => ⟨m - 1, by omega, by omega, p'⟩, fun x H' y => hs i x H H' (by omega) p (w.yields i H x H' (by omega) g y)⟩
theorem walk_rg {n : Nat} : Walk (Itr 0 n) n (fun _ => True) (fun i H x H' => H' = H ∧ x = .int (i : Int)) :=
  walk_range.mono (fun _ _ => trivial) fun i H x H' _ _ y => ⟨y.1, y.2.trans (congrArg V.int (Int.zero_add _))⟩
def iEnT (K : PySem.W.Frag) (ta : TA) : TI := fun σ G R => ta σ G fun vs G1 => ∃ a zs, vs = [.ref a] ∧ SqT K G1 a zs ∧ R (EnT K a) G1
theorem pi_enT {X : Cx} {e : Expr} {ta : TA} {p pos tpos : Pos} {es : List Expr} {q : Nat} (hg : Gl X "enumerate") (hm : X.mg "enumerate" = none) (ha : PA X [e] ta)
    (hs : starEach [e] X.env = [(false, eval e X.env)] := by rfl) : PI X (.Tuple es q tpos) (.Call (.Name "enumerate" p) [e] [] pos) (iEnT X.K ta) := by
  constructor
  intro pins s σ G R I h
  refine Call_ (ld_blt I hg hm boot_enumerate (PyProof.Rows.callWith_type1 (thn (ha.run pos pins s σ G _ I h) fun us s1 ⟨vs, G1, I1, r1, a, zs, ev, hq, hR⟩ => ?_) hs rfl))
  subst ev
  obtain ⟨u, rfl, ru⟩ := vals1 r1
  cases (show u = Value.ref a from ru)
  obtain ⟨its, rv, hT, _⟩ := I1.tuple hq
  have B := begins_tuple a its.toArray
  have z : (s1.heap.push { cls := .type "tuple_iterator", data := .fields #[.ref a, .int 0 0] }).objs.size = s1.heap.objs.size + 1 := Heap.size_push ..
  have kp : ∀ c ob, s1.heap.get? c = some ob → (enHeap s1.heap { cls := .type "tuple_iterator", data := .fields #[.ref a, .int 0 0] }).get? c = some ob := fun c ob e => Heap.get?_push_of_some _ (Heap.get?_push_of_some _ e)
  have he : IsEnum (enHeap s1.heap { cls := .type "tuple_iterator", data := .fields #[.ref a, .int 0 0] }) (s1.heap.objs.size + 1) s1.heap.objs.size 0 .none := by
    have g := Heap.get?_push_size (s1.heap.push { cls := .type "tuple_iterator", data := .fields #[.ref a, .int 0 0] }) (o := { cls := .type "enumerate", data := .fields #[.none, .bool false, .ref s1.heap.objs.size, rawInt 0, .none, .none] }) rfl
    rw [z] at g
    exact g
  have hit : (enHeap s1.heap { cls := .type "tuple_iterator", data := .fields #[.ref a, .int 0 0] }).IsTupleIter s1.heap.objs.size a 0 := ⟨_, Heap.get?_push_of_some _ (Heap.get?_push_size _ rfl), rfl, rfl⟩
  refine en_call B (show s1.heap.IsTuple a its.toArray from hT) (wpAny_pyIter_enum he ?_)
  have I2 : Inv X pins σ G1 { s1 with heap := enHeap s1.heap { cls := .type "tuple_iterator", data := .fields #[.ref a, .int 0 0] } } := I1.kept (t' := s1.toks) kp
  refine ⟨s1.heap.objs.size + 1, [s1.heap.objs.size + 1, s1.heap.objs.size], _, _, G1, rfl, I2, enT_turn a (s1.heap.objs.size + 1) s1.heap.objs.size, ⟨⟨.none, he⟩, hit, Nat.succ_ne_self _⟩, fun c hc => ?_, hR⟩
  have le : s1.heap.objs.size ≤ c := by
    rcases List.mem_cons.mp hc with rfl | hc
    · exact Nat.le_succ _
    · cases List.mem_singleton.mp hc
      exact Nat.le_refl _
  exact I1.fpOk le (I1.hok.fresh le)
theorem walk_enT {K : PySem.W.Frag} {a : Addr} {xs : List V} : Walk (EnT K a) xs.length (fun H => SqT K H a xs) (YPair (fun i => some (.int (i : Nat))) (fun i => xs[i]?)) := by
  refine ⟨fun i G hi q => ⟨xs, xs[i], q, List.getElem?_eq_getElem hi⟩, fun G q => ⟨xs, q, rfl⟩, ?_⟩
  rintro i G u G' _ q ⟨T, z, h1, h2, h3, h4⟩
  exact ⟨T, .int (i : Nat), z, h1, h2, h3, rfl, h4 xs q⟩
theorem walk_zipT {K : PySem.W.Frag} {a b : Addr} {xs ys : List V} (hl : xs.length = ys.length) : Walk (RZ.ItzT K a b) xs.length (fun H => SqT K H a xs ∧ SqT K H b ys) (YPair (fun i => xs[i]?) (fun i => ys[i]?)) := by
  refine ⟨fun i G hi q => ⟨xs, ys, xs[i], ys[i], q.1, q.2, List.getElem?_eq_getElem hi, List.getElem?_eq_getElem (hl ▸ hi)⟩, fun G q => ⟨xs, ys, q.1, q.2, .inl (Nat.le_refl _)⟩, ?_⟩
  rintro i G u G' _ q ⟨T, x, y, h1, h2, h3, h4, h5⟩
  exact ⟨T, x, y, h1, h2, h3, h4 xs q.1, h5 ys q.2⟩
end VL

namespace VL
open PySem PySem.Spec PyProof.Rows L2
/-! ### set(t) of a tuple of texts, any number (mine: the layer's is for one text at most) -/
/-- how many different ones are among the first i -/
def dst {α : Type} [DecidableEq α] (ks : List α) : Nat → Nat
  | 0 => 0
  | i + 1 => match ks[i]? with
    | some k => if k ∈ ks.take i then dst ks i else dst ks i + 1
    | none => dst ks i
theorem dst_le {α : Type} [DecidableEq α] (ks : List α) : ∀ i, dst ks i ≤ i
  | 0 => Nat.le_refl _
  | i + 1 => by
    have h := dst_le ks i
    unfold dst
    split
    · split <;> omega
    · omega
theorem nodup_not_mem {α : Type} [DecidableEq α] {ks : List α} (h : ks.Nodup) {i : Nat} {k : α} (e : ks[i]? = some k) : k ∉ ks.take i := fun hm => by
  obtain ⟨j, hj⟩ := List.mem_iff_getElem?.mp hm
  rw [List.getElem?_take] at hj
  by_cases hji : j < i
  · rw [if_pos hji] at hj
    obtain ⟨hl, ej⟩ := List.getElem?_eq_some_iff.mp hj
    obtain ⟨hl2, ei⟩ := List.getElem?_eq_some_iff.mp e
    exact absurd (ej.trans ei.symm) (List.pairwise_iff_getElem.mp h j i hl hl2 hji)
  · rw [if_neg hji] at hj
    cases hj
theorem dst_nodup {α : Type} [DecidableEq α] {ks : List α} (h : ks.Nodup) : ∀ i, i ≤ ks.length → dst ks i = i
  | 0, _ => rfl
  | i + 1, hi => by
    have e : ks[i]? = some ks[i] := List.getElem?_eq_getElem hi
    unfold dst
    rw [e]
    show (if ks[i] ∈ ks.take i then dst ks i else dst ks i + 1) = i + 1
    rw [if_neg (nodup_not_mem h e), dst_nodup h i (by omega)]
theorem dst_dup {α : Type} [DecidableEq α] {ks : List α} : ∀ i, i ≤ ks.length → dst ks i = i → (ks.take i).Nodup
  | 0, _, _ => by rw [List.take_zero]; exact List.Pairwise.nil
  | i + 1, hi, hd => by
    have e : ks[i]? = some ks[i] := List.getElem?_eq_getElem hi
    unfold dst at hd
    rw [e] at hd
    have hd : (if ks[i] ∈ ks.take i then dst ks i else dst ks i + 1) = i + 1 := hd
    have hl := dst_le ks i
    by_cases hm : ks[i] ∈ ks.take i
    · rw [if_pos hm] at hd
      omega
    · rw [if_neg hm] at hd
      have ih := dst_dup (ks := ks) i (by omega) (by omega)
      rw [List.take_add_one, e]
      refine List.nodup_append.mpr ⟨ih, by simp, fun x hx y hy => ?_⟩
      have : y = ks[i] := by simpa using hy
      subst this
      exact fun z => hm (z ▸ hx)
section
variable {prog : Program} {w : World} {A : Around} {R : Result → Shared → Prop} {I : Addr} {fp wr : List Addr} {G : Array GenState → Array GenState → Prop} {n : Nat} {Pv : Nat → Value → Prop} {St : Nat → Shared → Prop}
theorem put_all (W : WalksS prog w A.in1 I fp wr G n Pv St) (S : Addr) (out : S ∉ fp) (ks : List Str) (en : ks.length = n) (room : n + 1 < scanBound) (val : ∀ i v, Pv i v → ∃ x t, ks[i]? = some x ∧ v = .str x t) :
    ∀ (m i : Nat) (s : Shared), i + m = n → St i s → s.heap.SetOf (PySem.strKind prog w) S (fun k => decide (k ∈ ks.take i)) (dst ks i) →
      (∀ s', Moved (S :: wr) G s s' → s'.heap.SetOf (PySem.strKind prog w) S (fun k => decide (k ∈ ks)) (dst ks n) → R (.ok (.ret .none)) s') →
      codeAny (model prog w) A (.builtin "set.update.loop" ⟨[.ref S, .ref I], []⟩) R s := by
  have outw : S ∉ wr := fun z => out (W.sub _ z)
  have up : ∀ b ∈ wr, b ∈ S :: wr := fun b z => List.mem_cons_of_mem _ z
  intro m
  induction m with
  | zero =>
    intro i s hi st held fin
    obtain rfl : i = n := by omega
    refine codeAny_builtin PyProof.Rows.F.entry_set_update_loop (Around.under_plainId PyProof.Rows.F.plain_set_update_loop _ ▸ ?_)
    refine wpAny_bind (W.done s _ _ st fun s' mv => wpAny_pure (fin s' (mv.mono up) ?_))
    obtain ⟨o, es, ep, t, ho, r⟩ := held
    rw [← en, List.take_length] at r
    rw [← en]
    exact ⟨o, es, ep, t, mv.heap S _ outw ho, r⟩
  | succ m ih =>
    intro i s hi st held fin
    refine codeAny_builtin PyProof.Rows.F.entry_set_update_loop (Around.under_plainId PyProof.Rows.F.plain_set_update_loop _ ▸ ?_)
    refine wpAny_bind (W.item i s _ _ (by omega) st fun v s' pv st' mv => ?_)
    obtain ⟨x, t, ex, rfl⟩ := val i v pv
    obtain ⟨o, es, ep, tb, ho, r⟩ := held
    have held' : s'.heap.SetOf (PySem.strKind prog w) S (fun k => decide (k ∈ ks.take i)) (dst ks i) := ⟨o, es, ep, tb, mv.heap S _ outw ho, r⟩
    refine wpAny_bind (wpAny_holding ?_)
    unfold setAdd
    refine wpAny_holding (wpAny_bind ((PySem.strKind prog w).pyHash (k := x) (strKind_is _ _ _ _) ?_))
    have hd := dst_le ks i
    refine wpAny_setAddHashed_of (knd := PySem.strKind prog w) (s := { s' with toks := s'.toks + 1 }) (strKind_is _ _ _ _) rfl held' (by omega) fun h' sb more => ?_
    have more' : h'.SetOf (PySem.strKind prog w) S (fun k => decide (k ∈ ks.take (i + 1))) (dst ks (i + 1)) := by
      refine SetOf_congr more (fun k => ?_) ?_
      · rw [List.take_add_one, ex]
        show (decide (k ∈ ks.take i) || decide (k = x)) = decide (k ∈ ks.take i ++ [x])
        rw [Bool.eq_iff_iff]
        simp [List.mem_append]
      · show (if decide (x ∈ ks.take i) = true then dst ks i else dst ks i + 1) = dst ks (i + 1)
        conv => rhs; unfold dst
        rw [ex]
        by_cases hm : x ∈ ks.take i
        · simp [hm]
        · simp [hm]
    have nS : ∀ b ∈ fp, b ≠ S := fun b hb z => out (z ▸ hb)
    refine wpAny_pure ⟨plainId_quiet PyProof.Rows.F.plain_set_update_loop _, ih (i + 1) _ (by omega) ?_ more' fun s2 mv2 held2 => ?_⟩
    · exact W.frame _ s' _ _ st' (Nat.le_succ _) fun b hb u e => (sb.2 b (nS b hb)).trans e
    · refine fin s2 (Moved.trans W.gtrans ((mv.mono up).then_heap (Nat.le_succ _) fun b u hb e => ?_) mv2) held2
      exact (sb.2 b fun z => hb (z ▸ List.mem_cons_self)).trans e
end
abbrev mtSet (led : Bool) : Obj := { cls := .type "set", dict := none, data := .set #[] 0 (.fresh 0 0 led) }
section
variable {prog : Program} {w : World} {A : Around} {E : Value → Shared → Prop} {s : Shared}
/-- what set.__init__ brings about: the heap with the set filled -/
def Filled (prog : Program) (w : World) (s : Shared) (xs : List Str) (s2 : Shared) : Prop :=
  ∃ (g : Heap) (tk : Nat), s2 = { s with heap := g, toks := tk } ∧ g.SetOf (PySem.strKind prog w) s.heap.objs.size (fun k => decide (k ∈ xs)) (dst xs xs.length) ∧ ∀ b o, s.heap.get? b = some o → g.get? b = some o
theorem init_tup {l : Addr} {items : Array Value} {xs : List Str} (led : Bool) (calm : A.handled = none) (hl : s.heap.IsTuple l items) (hi : PyProof.Rows.StrsAre items.toList xs) (room : xs.length + 1 < scanBound) :
    codeAny (model prog w) A (.call (.builtin "set.__init__") ⟨[.ref s.heap.objs.size, .ref l], []⟩) (wants (fun r s2 => r = .none ∧ Filled prog w s xs s2) E) { s with heap := s.heap.push (mtSet led) } := by
  have hS : (s.heap.push (mtSet led)).get? s.heap.objs.size = some (mtSet led) := Heap.get?_push_size _ rfl
  have hT : Shared.TypeIs { s with heap := s.heap.push (mtSet led) } (.ref s.heap.objs.size) "set" := ⟨_, hS, rfl⟩
  refine codeAny_call_builtin PySem.F.called_set.init.plain PySem.F.entry_set_init (check_set_init_1 hT ?_)
  have esz : xs.length = items.size := by
    rw [← StrsAre.len_eq hi, Array.length_toList]
  obtain ⟨⟨ocls, odict, odata, oslots⟩, hol, hcl, nl, hdl⟩ := id hl
  cases (show ocls = .type "tuple" from hcl)
  cases (show odata = .seq items nl from hdl)
  have hol' := Heap.get?_push_of_some (mtSet led) hol
  have k1 := PySem.F.sub_tuple_set
  have k2 := PySem.F.sub_tuple_frozenset
  have k3 : (Value.type "tuple" == Value.type "dict") = false := by decide
  have hl1 : (s.heap.push (mtSet led)).IsTuple l items := ⟨_, hol', rfl, nl, rfl⟩
  have lS : l < s.heap.objs.size := Heap.lt_size hol
  have zS : (s.heap.push (mtSet led)).objs.size = s.heap.objs.size + 1 := Heap.size_push ..
  unfold Builtin.«set.__init__» noKeywords Builtin.Frozenset.updateFrom
  generalize ePI : pyIter = PI
  wp_walk
  subst ePI
  refine wpAny_pyIter_tuple hl1 (wpAny_bind (wpAny_runValue ?_))
  have calm2 : A.in1.in1.handled = none := by simp [calm]
  have nIt : l ≠ (s.heap.push (mtSet led)).objs.size := by
    rw [zS]
    exact Nat.ne_of_lt (Nat.lt_succ_of_lt lS)
  have out : s.heap.objs.size ∉ [(s.heap.push (mtSet led)).objs.size, l] := by
    rw [zS]
    simp only [List.mem_cons, List.not_mem_nil, or_false, not_or]
    exact ⟨Nat.ne_of_lt (Nat.lt_succ_self _), (Nat.ne_of_lt lS).symm⟩
  have val : ∀ (i : Nat) (v : Value), items[i]? = some v → ∃ x t, xs[i]? = some x ∧ v = .str x t := fun i v hv => by
    have hlt : i < xs.length := by
      rw [esz]
      exact (Array.getElem?_eq_some_iff.mp hv).1
    obtain ⟨t, e⟩ := SS.strs_at hi i v (by rw [Array.getElem?_toList]; exact hv)
    refine ⟨xs[i], t, List.getElem?_eq_getElem hlt, ?_⟩
    rw [e, List.getD_eq_getElem?_getD, List.getElem?_eq_getElem hlt]
    rfl
  refine put_all ((Walks.tuple calm2 _ l nIt items).toS) s.heap.objs.size out xs esz (by omega) val items.size 0 _ (Nat.zero_add _) ?_ ?_ fun s2 mv held => ?_
  · exact ⟨⟨_, Heap.get?_push_size _ rfl, rfl, rfl⟩, hl1.push _⟩
  · have hget := Heap.get?_push_of_some ({ cls := .type "tuple_iterator", data := .fields #[.ref l, .int 0 0] } : Obj) hS
    exact SetOf_congr ((setObjOf_fresh (knd := PySem.strKind prog w) led).setOf hget (by unfold scanBound; omega)) (fun _ => rfl) rfl
  · obtain ⟨g, g2, dr, tk, os'⟩ := s2
    cases (show g2 = s.gens from mv.gens)
    cases (show dr = s.drawn from mv.drawn)
    cases (show os' = s.os from mv.os)
    rw [← esz] at held
    refine wpAny_pure (wpAny_pure ⟨rfl, g, tk, rfl, held, fun b o e => ?_⟩)
    have bS := Heap.lt_size e
    refine mv.heap b o ?_ (Heap.get?_push_of_some _ (Heap.get?_push_of_some _ e))
    rw [zS]
    simp only [List.mem_cons, List.not_mem_nil, or_false, not_or]
    exact ⟨Nat.ne_of_lt bS, Nat.ne_of_lt (Nat.lt_succ_of_lt bS)⟩
theorem set_tup {l : Addr} {items : Array Value} {xs : List Str} {Q : Value → Shared → Prop} (calm : A.handled = none) (hl : s.heap.IsTuple l items) (hi : PyProof.Rows.StrsAre items.toList xs) (room : xs.length + 1 < scanBound)
    (h : ∀ s2, Filled prog w s xs s2 → Q (.ref s.heap.objs.size) s2) : wpAny (model prog w) A (call (.type "set") [.ref l]) Q E s := by
  obtain ⟨c, tl, f1⟩ := PySem.F.called_set.mro
  have f2 := PySem.F.called_set.made
  have f3 := PySem.F.called_set.sub
  have f4 := PySem.F.called_set.notType
  have f5 := PySem.F.called_set.canCreate
  have f6 := PySem.F.typeCall_set_1 (.ref l)
  have f7 := PySem.F.called_set.init.lookup
  refine wpAny_call (codeAny_of_tree (wpAny_pure ⟨Code.quiet_builtin _ (by decide +kernel), codeAny_builtin PySem.F.entry_type_call ?_⟩))
  rw [Around.under_plain (weight_type_call_type "set" [.ref l] []) rfl]
  repeat (any_goals (first | assumption | wp_step))
  refine codeAny_mono (code_set_new_1 (.ref l) (E := E) (Q₁ := fun ob s1 => ∃ led : Bool, ob = .ref s.heap.objs.size ∧ s1 = { s with heap := s.heap.push (mtSet led) }) fun led => ⟨led, rfl, rfl⟩) fun r s1 hr => ?_
  cases r with
  | error e => exact hr
  | ok fl =>
    cases fl with
    | ret ob =>
      obtain ⟨led, rfl, rfl⟩ := hr
      have f8 := PySem.F.called_set.init.bind (.ref s.heap.objs.size)
      have hT : Shared.TypeIs { s with heap := s.heap.push (mtSet led) } (.ref s.heap.objs.size) "set" := ⟨_, Heap.get?_push_size _ rfl, rfl⟩
      repeat (any_goals (first | assumption | wp_step))
      refine codeAny_mono (init_tup led (E := E) calm hl hi room) fun r2 s2 hr2 => ?_
      cases r2 with
      | error e => exact hr2
      | ok fl2 =>
        cases fl2 with
        | ret r =>
          obtain ⟨rfl, z⟩ := hr2
          repeat (any_goals (first | assumption | wp_step))
          exact h _ z
        | _ => exact hr2.elim
    | _ => exact hr.elim
end
/-- len(set(t)), t a tuple of texts -/
def tLenSetS (K : PySem.W.Frag) (ta : TE) : TE := fun σ G Q => ta σ G fun x G1 => ∃ (l : Addr) (xs : List Str), x = .ref l ∧ SqT K G1 l (xs.map V.str) ∧ xs.length ≤ 1000 ∧ Q (.int (dst xs xs.length : Nat)) G1
theorem pe_lenSetS (K : PySem.W.Frag) {X : Cx} {a : Expr} {ta : TE} {p p2 q pos : Pos} (hc : X.calm = true) (hg : Gl X "len") (hm : X.mg "len" = none) (hg2 : Gl X "set") (hm2 : X.mg "set" = none) (ha : PE X a ta)
    (na : starEach [a] X.env = (false, eval a X.env) :: starEach [] X.env := by rfl) (hK : X.K = K := by rfl) : PE X (.Call (.Name "len" p) [.Call (.Name "set" p2) [a] [] q] [] pos) (tLenSetS K ta) := by
  subst hK
  constructor
  intro pins s σ G Q I h
  refine Call_ (ld_blt I hg hm boot_len (PyProof.Rows.callWith_builtin1 (PyProof.Rows.args_cons (Call_ (ld_blt I hg2 hm2 boot_set ?_)) rfl) rfl rfl))
  refine PyProof.Rows.callWith_type1 (PyProof.Rows.args_cons (thn (ha.run pins s σ G _ I h) fun v s1 ⟨x, G1, I1, r1, l, xs, ex, hq, hz, hQ⟩ => PyProof.Rows.args_nil ?_) na) na rfl
  subst ex
  cases r1
  obtain ⟨its, rv, hT, _⟩ := I1.tuple hq
  refine set_tup (xs := xs) (I1.ok.hd hc) hT (by simpa using strsAre_of rv) (by unfold scanBound; omega) fun s2 ⟨g, tk, e2, held, kp⟩ => PyProof.Rows.args_nil ?_
  subst e2
  obtain ⟨o, es, ep, t, ho, hex, hd, _, _, _, hf, hn⟩ := held
  have I2 : Inv X pins σ G1 { s1 with heap := g, toks := tk } := I1.kept kp
  have hd2 := dst_le xs xs.length
  exact call_len_set ho hex hd hf (by rw [hn]; omega) ⟨.int (dst xs xs.length : Nat), G1, I2.tok _, ⟨_, by rw [hn]⟩, hQ⟩
end VL

namespace VL
open PySem PySem.Spec PyProof.Rows L2
open C8 (Cal pe_c Met pe_mt)
/-! ### x( *text), x a local name that holds a class -/
/-- the signs of a text, each a text -/
def signs (z : Str) : List V := z.cps.toList.map fun c => V.str ⟨#[c]⟩
theorem signs_vals : ∀ (us : List Value) (cs : List Nat), us.length = cs.length → (∀ (i : Nat) (v : Value) (c : Nat), us[i]? = some v → cs[i]? = some c → ∃ t, v = Value.str ⟨#[c]⟩ t) → Vals (cs.map fun c => V.str ⟨#[c]⟩) us
  | [], [], _, _ => .nil
  | [], _ :: _, h, _ => by cases h
  | _ :: _, [], h, _ => by cases h
  | u :: us, c :: cs, h, hv => .cons (hv 0 u c rfl rfl) (signs_vals us cs (Nat.succ.inj h) fun i v c' e1 e2 => hv (i + 1) v c' (by simpa using e1) (by simpa using e2))
theorem signs_rel {z : Str} {acc : Array Value} (h : ItemsOf (SignAt z) acc z.cps.size) : Vals (signs z) acc.toList := by
  refine signs_vals acc.toList z.cps.toList (by simpa using h.1) fun i v c e1 e2 => ?_
  obtain ⟨c', u, h1, h2⟩ := h.2 i v (by simpa using e1)
  have e3 : z.cps[i]? = some c := by simpa using e2
  rw [e3] at h1
  cases h1
  exact ⟨u, h2⟩
section
variable {X : Cx} {pins : List (Addr × Obj)} {σ : L2.St} {H : Hp} {s : Shared}
theorem star_txt {z : Str} {t : Tok} {E : Value → Shared → Prop} {Q : List Value → Shared → Prop} (I : Inv X pins σ H s) (hz : z.length ≤ sizeLine) (calm : X.calm = true) (hQ : ∀ us s', Inv X pins σ H s' → Vals (signs z) us → Q us s') :
    PySem.W.StarOf (model X.prog X.w) X.A E (.str z t) Q s := by
  have got : wpAny (model X.prog X.w) X.A (collect (.str z t)) Q E s := by
    refine wpAny_collect_str (I.ok.hd calm) z t (fun s' acc kp eg ed eo items => ?_) hz
    obtain ⟨g, g2, d2, tk, os2⟩ := s'
    cases (show g2 = s.gens from eg)
    cases (show d2 = s.drawn from ed)
    cases (show os2 = s.os from eo)
    exact hQ _ _ (I.kept (t' := tk) kp) (signs_rel items)
  unfold PySem.W.StarOf notIterableAtAll
  exact wpAny_bind (wpAny_specialOf (T := "str") (v := .str z t) rfl PySem.F.slot_str_iter.lookup (wpAny_pure ⟨rfl, got⟩))
/-- x( *text): a new instance -/
def tMkTxt (i : Nat) (C : Addr) (sp : Sp) (E : XK) (te : TE) : TE := fun σ H Q => σ[i]? = some (some (.ref C)) ∧ te σ H fun y H1 => ∃ z : Str, y = .str z ∧ z.length ≤ sizeLine ∧
  ∀ x dx, H1 x = Option.none → H1 dx = Option.none → dx ≠ x → sp (V.ref x :: signs z) (upd (upd H1 dx (.own x)) x (.ins C dx [])) (fun v H2 => v = .non ∧ Q (.ref x) H2) E
theorem pe_mkTxt {CX : CXT} {k i : Nat} {f C : Addr} {sp : Sp} {E : XK} {x : Str} {p sp_ pos : Pos} {e : Expr} {te : TE} (M : Mk X.K C f) (F : FnR X.prog X.w X.K X.mg X.base CX k f sp) (hr : Room (k + 1) X.A) (calm : X.calm = true)
    (hN : X.N[i]? = some x) (hv : Vis X.env.scope x) (hx : Passes CX X E) (he : PE X e te) (hdb : (x == ("__debug__" : Str)) = false := by decide) (hcd : (x == ("__classdict__" : Str)) = false := by decide)
    (hst : starEach [.Starred e sp_] X.env = [(true, eval e X.env)] := by rfl) : PE X (.Call (.Name x p) [.Starred e sp_] [] pos) (tMkTxt i C sp E te) := by
  constructor
  intro pins s σ H Q I ⟨hs, ht⟩
  refine wpAny_Call_Name_kw (thn ((pe_var (pos := p) hN hv hdb hcd).run pins s σ H (fun v H1 => v = .ref C ∧ H1 = H) I ⟨.ref C, hs, rfl, rfl⟩) fun u s1 ⟨v, H1, I1, r1, ev, eh⟩ => ?_)
  subst ev eh
  cases r1
  refine PySem.W.callWith_S (h₀ := X.base) I.ok.mod.kin M.kp (thn (he.run pins s1 σ _ _ I1 ht) fun v s2 ⟨y, H2, I2, ry, z, ey, hz, q⟩ => ?_) hst
  subst ey
  obtain ⟨t, rfl⟩ := ry
  exact star_txt I2 hz calm fun us s3 I3 rv => ⟨I3.kIn, StX.run_makeR M F hr hx I3 rv q⟩
end
/-! ### kinds -/
/-- the built-in class of a thing, as far as the heap tells -/
def kd (H : Hp) : V → Option String
  | .non => some "NoneType"
  | .bl _ => some "bool"
  | .int _ => some "int"
  | .str _ => some "str"
  | .ref a => match H a with
    | some (.lst _) => some "list"
    | some (.tup _) => some "tuple"
    | some (.dK _) => some "dict"
    | _ => none
  | _ => none
theorem kd_lst {H : Hp} {a : Addr} {xs : List V} (h : H a = some (.lst xs)) : kd H (.ref a) = some "list" := by
  show (match H a with | some (.lst _) => some "list" | some (.tup _) => some "tuple" | some (.dK _) => some "dict" | _ => none) = _
  rw [h]
theorem kd_tup {H : Hp} {a : Addr} {xs : List V} (h : H a = some (.tup xs)) : kd H (.ref a) = some "tuple" := by
  show (match H a with | some (.lst _) => some "list" | some (.tup _) => some "tuple" | some (.dK _) => some "dict" | _ => none) = _
  rw [h]
theorem kd_dK {H : Hp} {a : Addr} {xs : List (Key × V)} (h : H a = some (.dK xs)) : kd H (.ref a) = some "dict" := by
  show (match H a with | some (.lst _) => some "list" | some (.tup _) => some "tuple" | some (.dK _) => some "dict" | _ => none) = _
  rw [h]
theorem kd_ty {K : PySem.W.Frag} {H : Hp} {x : V} {t : String} (h : kd H x = some t) : TyX K H x (.type t) := by
  cases x with
  | non => cases h; exact .base .non
  | bl b => cases h; exact .base (.bl b)
  | int i => cases h; exact .base (.int i)
  | str z => cases h; exact .base (.str z)
  | ref a =>
    have h : (match H a with | some (.lst _) => some "list" | some (.tup _) => some "tuple" | some (.dK _) => some "dict" | _ => none) = some t := h
    split at h
    · cases h; exact .base (.lst (by assumption))
    · cases h; exact .base (.tup (by assumption))
    · cases h; exact .base (.dK (by assumption))
    · cases h
  | byt b => cases h
  | flt b => cases h
  | ty n => cases h
theorem kd_same {H H' : Hp} {x : V} {t : String} (s : Same H H') (h : kd H x = some t) : kd H' x = some t := by
  cases x with
  | ref a =>
    have h : (match H a with | some (.lst _) => some "list" | some (.tup _) => some "tuple" | some (.dK _) => some "dict" | _ => none) = some t := h
    split at h
    · cases h; exact kd_lst (s _ _ (by assumption))
    · cases h; exact kd_tup (s _ _ (by assumption))
    · cases h; exact kd_dK (s _ _ (by assumption))
    · cases h
  | _ => exact h
/-- is it of the class T: told by the name alone -/
theorem kd_is {H : Hp} {x : V} {t : String} (h : kd H x = some t) : t = "NoneType" ∨ t = "bool" ∨ t = "int" ∨ t = "str" ∨ t = "list" ∨ t = "tuple" ∨ t = "dict" := by
  cases x with
  | non => cases h; exact .inl rfl
  | bl b => cases h; exact .inr (.inl rfl)
  | int i => cases h; exact .inr (.inr (.inl rfl))
  | str z => cases h; exact .inr (.inr (.inr (.inl rfl)))
  | ref a =>
    have h : (match H a with | some (.lst _) => some "list" | some (.tup _) => some "tuple" | some (.dK _) => some "dict" | _ => none) = some t := h
    split at h
    · cases h; exact .inr (.inr (.inr (.inr (.inl rfl))))
    · cases h; exact .inr (.inr (.inr (.inr (.inr (.inl rfl)))))
    · cases h; exact .inr (.inr (.inr (.inr (.inr (.inr rfl)))))
    · cases h
  | byt b => cases h
  | flt b => cases h
  | ty n => cases h
theorem isB {t T : String} (h : t = "NoneType" ∨ t = "bool" ∨ t = "int" ∨ t = "str" ∨ t = "list" ∨ t = "tuple" ∨ t = "dict") (hT : T = "int" ∨ T = "bool" ∨ T = "str" ∨ T = "list" ∨ T = "tuple") :
    kitB t T = some (decide (t = T) || (decide (t = "bool") && decide (T = "int"))) := by
  rcases hT with rfl | rfl | rfl | rfl | rfl <;> rcases h with rfl | rfl | rfl | rfl | rfl | rfl | rfl <;> decide +kernel
/-- the text is a name -/
def letters : List Nat := ("abcdefghijklmnopqrstuvwxyz" : Str).cps.toList
def nameB (z : Str) : Bool := (decide (1 ≤ (z.length : Int)) && decide ((z.length : Int) ≤ 12)) && z.cps.toList.all fun c => decide (c ∈ letters)
/-- it is an integer within the bounds, no bool -/
def intB (lo hi : Int) : V → Bool
  | .int i => decide (lo ≤ i) && decide (i ≤ hi)
  | _ => false
theorem kd_int {H : Hp} {x : V} {t : String} (h : kd H x = some t) : (∃ i, x = .int i) ∨ (∃ b, x = .bl b) ∨ (kitB t "int" = some false ∧ ∀ lo hi, intB lo hi x = false) := by
  cases x with
  | int i => exact .inl ⟨i, rfl⟩
  | bl b => exact .inr (.inl ⟨b, rfl⟩)
  | non => cases h; exact .inr (.inr ⟨by decide +kernel, fun _ _ => rfl⟩)
  | str z => cases h; exact .inr (.inr ⟨by decide +kernel, fun _ _ => rfl⟩)
  | ref a =>
    have h : (match H a with | some (.lst _) => some "list" | some (.tup _) => some "tuple" | some (.dK _) => some "dict" | _ => none) = some t := h
    split at h
    · cases h; exact .inr (.inr ⟨by decide +kernel, fun _ _ => rfl⟩)
    · cases h; exact .inr (.inr ⟨by decide +kernel, fun _ _ => rfl⟩)
    · cases h; exact .inr (.inr ⟨by decide +kernel, fun _ _ => rfl⟩)
    · cases h
  | byt b => cases h
  | flt b => cases h
  | ty n => cases h
theorem kd_notup {H : Hp} {x : V} {t : String} (h : kd H x = some t) (n : t ≠ "tuple") : kitB t "tuple" = some false := by
  rw [isB (kd_is h) (.inr (.inr (.inr (.inr rfl))))]
  rcases kd_is h with rfl | rfl | rfl | rfl | rfl | rfl | rfl <;> first | rfl | exact absurd rfl n
def spName : Sp := fun vs H Q _ => ∃ z : Str, vs = [.str z] ∧ z.length ≤ 100000 ∧ ∀ H', Same H H' → Q (.bl (nameB z)) H'
def spInt : Sp := fun vs H Q _ => ∃ (x : V) (t : String) (lo hi : Int), vs = [x, .int lo, .int hi] ∧ kd H x = some t ∧ Q (.bl (intB lo hi x)) H
/-- all are names, no two alike -/
def diffB (ns : List Str) : Bool := ns.all nameB && decide (ns.Nodup)
def spDiff (K : PySem.W.Frag) : Sp := fun vs H Q _ => ∃ (t : Addr) (ns : List Str), vs = [.ref t] ∧ SqT K H t (ns.map V.str) ∧ ns.length ≤ 100 ∧ (∀ z ∈ ns, z.length ≤ 100000) ∧ ∀ H', Same H H' → Q (.bl (diffB ns)) H'
/-- a catalog of these names stands at a -/
def CatAt (C : Addr) (H : Hp) (a : Addr) (ns : List Str) : Prop := ∃ dx t, H a = some (.ins C dx [("names", .ref t)]) ∧ H t = some (.tup (ns.map V.str))
theorem CatAt.same {C : Addr} {H H' : Hp} {a : Addr} {ns : List Str} (h : CatAt C H a ns) (s : Same H H') : CatAt C H' a ns := by
  obtain ⟨dx, t, h1, h2⟩ := h
  exact ⟨dx, t, s _ _ h1, s _ _ h2⟩
/-- another object may change, if it is neither an instance nor a tuple -/
theorem CatAt.upd {C : Addr} {H : Hp} {a l : Addr} {ns : List Str} {xs : List V} {o : HO} (h : CatAt C H a ns) (hl : H l = some (.lst xs)) : CatAt C (L2.upd H l o) a ns := by
  obtain ⟨dx, t, h1, h2⟩ := h
  exact ⟨dx, t, by rw [upd_ne (ne_of h1 hl (by intro z; cases z))]; exact h1, by rw [upd_ne (ne_of h2 hl (by intro z; cases z))]; exact h2⟩
/-- the names fit a catalog -/
def Good (ns : List Str) : Prop := 1 ≤ ns.length ∧ ns.length ≤ 8 ∧ diffB ns = true ∧ ∀ z ∈ ns, z.length ≤ 100000
/-- the body of Catalog.__init__, behind its star argument -/
def spInit (C : Addr) : Sp := fun vs H Q _ => ∃ (x dx p : Addr) (ns : List Str), vs = [.ref x, .ref p] ∧ H x = some (.ins C dx []) ∧ H p = some (.tup (ns.map V.str)) ∧ Good ns ∧
  ∀ H1, Same H H1 → Q .non (upd H1 x (.ins C dx [("names", .ref p)]))
/-- the first n of the names a to h -/
def abc (n : Nat) : List Str := ((("abcdefgh" : Str).cps.toList).take n).map fun c => ⟨#[c]⟩
def spNumbered (C : Addr) : Sp := fun vs H Q _ => ∃ n : Nat, vs = [.ref C, .int n] ∧ 1 ≤ n ∧ n ≤ 8 ∧ ∀ a H', H a = none → Same H H' → CatAt C H' a (abc n) → Q (.ref a) H'
/-- the answer of is_book -/
def bookB (n : Nat) (xs : List V) : Bool := decide (xs.length = n) && xs.all (intB (-1000000000000) 1000000000000)
def spBook (K : PySem.W.Frag) (C : Addr) : Sp := fun vs H Q _ => ∃ (c : Addr) (ns : List Str) (v : V), vs = [.ref c, v] ∧ CatAt C H c ns ∧ ns.length ≤ 8 ∧
  ((∃ t xs, v = .ref t ∧ H t = some (.tup xs) ∧ xs.length ≤ 1000 ∧ (∀ x ∈ xs, ∃ k, kd H x = some k) ∧ ∀ H', Same H H' → Q (.bl (bookB ns.length xs)) H') ∨
   (∃ t, kd H v = some t ∧ t ≠ "tuple" ∧ Q (.bl false) H))
theorem abc_len {n : Nat} (h : n ≤ 8) : (abc n).length = n := by
  unfold abc
  rw [List.length_map, List.length_take]
  show min n 8 = n
  omega
theorem abc_good {n : Nat} (h1 : 1 ≤ n) (h8 : n ≤ 8) : Good (abc n) := by
  refine ⟨by rw [abc_len h8]; exact h1, by rw [abc_len h8]; exact h8, ?_, ?_⟩
  · have : ∀ n : Fin 9, diffB (abc n.1) = true := by decide +kernel
    exact this ⟨n, by omega⟩
  · intro z hz
    obtain ⟨c, _, rfl⟩ := List.mem_map.mp hz
    show 1 ≤ 100000
    decide
end VL

namespace VL
open PySem PySem.Spec PyProof.Rows L2
open C8 (Cal pe_c)
def top (i : Nat) : Stmt := PySem.Challenge.pw_shelfterms_k04_is_book.main.body.getD i (.Pass ⟨0, 0, 0, 0⟩)
structure Cs where
  LETTERS : Value
  LONGEST_NAME : Value
  BOUND : Value
  C : Addr
structure Tx (mg : Str → Option Value) (u : Cs) : Prop where
  len : mg "len" = none
  list : mg "list" = none
  int : mg "int" = none
  isinstance : mg "isinstance" = none
  bool : mg "bool" = none
  str : mg "str" = none
  tuple : mg "tuple" = none
  range : mg "range" = none
  all : mg "all" = none
  set : mg "set" = none
  mLETTERS : mg "LETTERS" = some u.LETTERS
  rLETTERS : RelV (.str "abcdefghijklmnopqrstuvwxyz") u.LETTERS
  mLONGEST_NAME : mg "LONGEST_NAME" = some u.LONGEST_NAME
  rLONGEST_NAME : RelV (.int 12) u.LONGEST_NAME
  mBOUND : mg "BOUND" = some u.BOUND
  rBOUND : RelV (.int 1000000000000) u.BOUND
  mCatalog : mg "Catalog" = some (.ref u.C)
  rCatalog : RelV (.ref u.C) (.ref u.C)
section
variable {P : Program} {w : World} {K : PySem.W.Frag} {mg : Str → Option Value} {base : Heap} {u : Cs}
abbrev sLbox : Stmt := top 14
theorem scLbox : FnScope ["_law_script"] ["_law_script"] (defScope sLbox) := ⟨rfl, rfl, rfl, by decide +kernel, rfl, by decide +kernel, by decide +kernel⟩
theorem ok_box {f : Addr} {fd : FuncData} (F : Fun K "_law_box" "_law_box" sLbox f fd) (T : Tx mg u) : FnOk P w K mg base CX0 1 f fd ["_law_script"] (spBox K) := by
  refine F.ok scLbox (fun vs H Q E h => ?_) (fun cdv A outer s H vs Q E hr h => ?_)
  · obtain ⟨a, ns, rfl, _⟩ := h
    rfl
  obtain ⟨a, ns, rfl, hS, hlen, q⟩ := h
  refine ⟨_, (pss_one (ps_ret (pe_lst (pa_cons (pe_callTy call_list_of (by rfl) T.list (by decide +kernel) (pa_cons (pe_slice sl_list (pv 0) po_none (po_some pe_int)) pa_nil)) (pa_cons pe_int (pa_cons pe_int (pa_cons pe_int pa_nil))))))), ?_⟩
  obtain ⟨cs, ec⟩ := cutV_ints ns none (some 63)
  refine ⟨.ref a, rfl, 63, rfl, a, ns.map V.int, rfl, hS, fun c nc => ?_⟩
  rw [ec]
  refine ⟨c, cs.map V.int, rfl, .inl (.inl (.inl upd_same)), fun L nL => ?_⟩
  refine ⟨by show 4 ≤ sizeLine; decide, fun b nb => ?_⟩
  have s1 : Same H (upd H c (.lst (cs.map V.int))) := same_upd nc
  have s2 : Same _ (upd (upd H c (.lst (cs.map V.int))) L (.lst (cs.map V.int))) := same_upd nL
  have s3 := same_upd (o := .lst [.ref L, .int 0, .int 0, .int 1]) nb
  have nLb : L ≠ b := fun e => by rw [← e, upd_same] at nb; cases nb
  refine q b L _ ((s1.trans s2).free nb) (s1.free nL) (s1.trans (s2.trans s3)) ⟨cs, 0, 0, 1, nLb, ?_, upd_same, by decide, by decide, by decide⟩
  rw [upd_ne nLb, upd_same]
abbrev sLtake : Stmt := top 15
theorem scLtake : FnScope ["_law_box_here", "_law_size", "_law_cell", "_law_digit"] ["_law_box_here", "_law_size"] (defScope sLtake) := ⟨rfl, rfl, rfl, by decide +kernel, rfl, by decide +kernel, by decide +kernel⟩
theorem ok_take {f : Addr} {fd : FuncData} (F : Fun K "_law_take" "_law_take" sLtake f fd) (T : Tx mg u) : FnOk P w K mg base CX0 1 f fd ["_law_box_here", "_law_size"] spTake := by
  refine F.ok scLtake (fun vs H Q E h => ?_) (fun cdv A outer s H vs Q E hr h => ?_)
  · obtain ⟨b, L, n, rfl, _⟩ := h
    rfl
  obtain ⟨b, L, n, rfl, n0, n1, ⟨cs, p, r, x, nLb, hL, hb, p0, x0, x1⟩, q⟩ := h
  refine ⟨_, (C8.pss_cut (ps_if (PW.pt (pw_and (pt_cmpR op_eq (pe_ix ix_list (pv 0) pe_int (fun _ _ => rfl)) pe_int (nomark _)) (pw_and1 (pt_cmpR op_lt (pe_ix ix_list (pv 0) pe_int (fun _ _ => rfl)) (pe_callB call_len_seq (by rfl) T.len PySem.boot_len (pa_cons (pe_ix ix_list (pv 0) pe_int (fun _ _ => rfl)) pa_nil)) (nomark _)))))
    (pss_cons (ps_set (i := 2) scLtake.nd rfl (Or.inl rfl) (pe_ix ix_list (pe_ix ix_list (pv 0) pe_int (fun _ _ => rfl)) (pe_ix ix_list (pv 0) pe_int (fun _ _ => rfl)) (fun _ _ => rfl)))
    (pss_cons (ps_asg (pe_op op_add (pe_ix ix_list (pv 0) pe_int (fun _ _ => rfl)) pe_int) (pg_sub (pv 0) pe_int set_list))
    (pss_one (ps_if (pt_cmpR op_ge (pv 2) (pe_op op_pow pe_int pe_int) (nomark _))
      (pss_one (ps_asg (pe_op op_sub (pv 2) (pe_op op_pow pe_int pe_int)) (pg_sub (pv 0) pe_int set_list)))
      (pss_one (ps_asg (pe_op op_mod (pe_callTy call_int1 (by rfl) T.int (by decide +kernel) (pa_cons (pe_op op_add (pe_op op_mul (pe_ix ix_list (pv 0) pe_int (fun _ _ => rfl)) pe_int) (pv 2)) pa_nil)) pe_int) (pg_sub (pv 0) pe_int set_list)))))))
    pss_nil)
  (pss_cons (ps_if (pt_cmpR op_gt (pe_ix ix_list (pv 0) pe_int (fun _ _ => rfl)) pe_int (nomark _))
    (pss_cons (ps_set (i := 3) scLtake.nd rfl (Or.inl rfl) (pe_op op_mod (pe_callTy call_int1 (by rfl) T.int (by decide +kernel) (pa_cons (pe_ix ix_list (pv 0) pe_int (fun _ _ => rfl)) pa_nil)) (pv 1)))
    (pss_cons (ps_asg (pe_op op_fdivW (pe_ix ix_list (pv 0) pe_int (fun _ _ => rfl)) (pv 1)) (pg_sub (pv 0) pe_int set_list))
    (pss_one (ps_ret (pv 3)))))
    pss_nil)
  (pss_cons (ps_asg (pe_op op_mod (pe_callTy call_int1 (by rfl) T.int (by decide +kernel) (pa_cons (pe_op op_add (pe_op op_mul (pe_ix ix_list (pv 0) pe_int (fun _ _ => rfl)) pe_int) pe_int) pa_nil)) pe_int) (pg_sub (pv 0) pe_int set_list))
  (pss_one (ps_ret (pe_op op_mod (pe_callTy call_int1 (by rfl) T.int (by decide +kernel) (pa_cons (pe_op op_fdivW (pe_ix ix_list (pv 0) pe_int (fun _ _ => rfl)) pe_int) pa_nil)) (pv 1))))))), ?_⟩
  have hU : ∀ {o u : HO}, upd (upd H b o) b u = upd H b u := upd_upd
  have cp : CPow 10 18 := ⟨by decide, by decide, by decide⟩
  refine ⟨fun σ' H' => ∃ y2 p r x, σ' = [some (.ref b), some (.int n), y2, none] ∧ H' = upd H b (.lst [.ref L, .int p, .int r, .int x]) ∧ 0 ≤ p ∧ 0 ≤ x ∧ x < 2147483647, ?_, ?_⟩
  · have stay : ∃ (y2 : Option V) (p' r' x' : Int), ([some (.ref b), some (.int n), none, none] : L2.St) = [some (.ref b), some (.int n), y2, none] ∧ H = upd H b (.lst [.ref L, .int p', .int r', .int x']) ∧ 0 ≤ p' ∧ 0 ≤ x' ∧ x' < 2147483647 := ⟨none, p, r, x, rfl, (upd_self hb).symm, p0, x0, x1⟩
    refine ⟨_, rfl, b, _, 2, _, rfl, rfl, SqL.of hb, rfl, rfl, _, rfl, ite2 (fun _ => ?_) (fun _ => iteF stay)⟩
    refine ⟨_, rfl, b, _, 1, _, rfl, rfl, SqL.of hb, rfl, _, rfl, b, _, 0, _, rfl, rfl, SqL.of hb, rfl, L, _, rfl, .inl (SqL.of hL), _, _, rfl, rfl, _, rfl, ite2 (fun e => ?_) (fun _ => stay)⟩
    have hp : p < (cs.length : Int) := by
      have := of_decide_eq_true e
      rw [List.length_map] at this
      exact this
    obtain ⟨c, _, hc⟩ := atI_ints p0 hp
    refine ⟨_, rfl, b, _, 0, _, rfl, rfl, SqL.of hb, rfl, _, rfl, b, _, 1, _, rfl, rfl, SqL.of hb, rfl, L, _, p, .int c, rfl, rfl, SqL.of hL, hc, ?_⟩
    refine ⟨_, rfl, b, _, 1, _, rfl, rfl, SqL.of hb, rfl, _, _, rfl, rfl, _, rfl, b, _, 1, 1, rfl, rfl, hb, rfl, ?_⟩
    have hb1 : (upd H b (.lst [.ref L, .int (p + 1), .int r, .int x])) b = some (.lst [.ref L, .int (p + 1), .int r, .int x]) := upd_same
    refine ⟨_, rfl, _, _, rfl, rfl, cp, _, _, rfl, rfl, _, rfl, ite2 (fun _ => ?_) (fun _ => ?_)⟩
    · refine ⟨_, rfl, _, _, rfl, rfl, cp, _, _, rfl, rfl, _, rfl, b, _, 2, 2, rfl, rfl, hb1, rfl, ?_⟩
      exact ⟨_, p + 1, _, x, rfl, hU, by omega, x0, x1⟩
    · refine ⟨_, rfl, b, _, 3, _, rfl, rfl, SqL.of hb1, rfl, _, _, rfl, rfl, .inl ⟨by omega, by omega⟩, _, rfl, _, _, rfl, rfl, .inl ⟨_, rfl, ?_⟩⟩
      refine ⟨_, _, rfl, rfl, (by show (0 : Int) < 2147483647; decide), _, rfl, b, _, 3, 3, rfl, rfl, hb1, rfl, ?_⟩
      exact ⟨_, p + 1, r, _, rfl, hU, by omega, Int.emod_nonneg _ (by decide), Int.emod_lt_of_pos _ (by decide)⟩
  · rintro σ' H' ⟨y2, p, r, x, rfl, rfl, p0, x0, x1⟩
    have hb1 : (upd H b (.lst [.ref L, .int p, .int r, .int x])) b = some (.lst [.ref L, .int p, .int r, .int x]) := upd_same
    have done : ∀ (v p r x : Int), 0 ≤ v → v < n → 0 ≤ p → 0 ≤ x → x < 2147483647 → Q (.int v) (upd H b (.lst [.ref L, .int p, .int r, .int x])) := fun v p r x h1 h2 h3 h4 h5 =>
      q v _ h1 h2 ⟨cs, p, r, x, nLb, by rw [upd_ne nLb]; exact hL, upd_same, h3, h4, h5⟩ ⟨_, rfl⟩
    have hn : CDivW r n := wide_div (b := 64) n0 (by omega) (by decide) (by decide)
    refine ⟨_, rfl, b, _, 2, _, rfl, rfl, SqL.of hb1, rfl, _, _, rfl, rfl, _, rfl, ite2 (fun _ => ?_) (fun _ => ?_)⟩
    · refine ⟨_, rfl, b, _, 2, _, rfl, rfl, SqL.of hb1, rfl, .inl ⟨_, rfl, ?_⟩⟩
      refine ⟨_, rfl, _, _, rfl, rfl, n0, ?_⟩
      refine ⟨_, rfl, b, _, 2, _, rfl, rfl, SqL.of hb1, rfl, _, rfl, _, _, rfl, rfl, hn, _, rfl, b, _, 2, 2, rfl, rfl, hb1, rfl, ?_⟩
      refine ⟨_, rfl, ?_⟩
      show Q _ (upd (upd H b _) b _)
      rw [hU]
      exact done _ _ _ _ (Int.emod_nonneg _ (by omega)) (Int.emod_lt_of_pos _ n0) p0 x0 x1
    · refine ⟨_, rfl, b, _, 3, _, rfl, rfl, SqL.of hb1, rfl, _, _, rfl, rfl, .inl ⟨by omega, by omega⟩, _, _, rfl, rfl, .inl ⟨_, rfl, ?_⟩⟩
      refine ⟨_, _, rfl, rfl, (by show (0 : Int) < 2147483647; decide), _, rfl, b, _, 3, 3, rfl, rfl, hb1, rfl, ?_⟩
      refine ⟨_, rfl, b, _, 3, _, rfl, rfl, SqL.of upd_same, rfl, _, _, rfl, rfl, wide_div (b := 64) (by decide) (by decide) (by decide) (by decide), .inl ⟨_, rfl, ?_⟩⟩
      refine ⟨_, rfl, _, _, rfl, rfl, n0, ?_⟩
      show Q _ (upd (upd H b _) b _)
      rw [hU]
      exact done _ _ _ _ (Int.emod_nonneg _ (by omega)) (Int.emod_lt_of_pos _ n0) p0 (Int.emod_nonneg _ (by decide)) (Int.emod_lt_of_pos _ (by decide))
end
end VL

namespace VL
open PySem PySem.Spec PyProof.Rows L2
open C8 (Cal pe_c Met pe_mt)
section
variable {P : Program} {w : World} {K : PySem.W.Frag} {mg : Str → Option Value} {base : Heap} {u : Cs}
abbrev sisname : Stmt := top 7
theorem scisname : FnScope ["value", "letter"] ["value"] (defScope sisname) := ⟨rfl, rfl, rfl, by decide +kernel, rfl, by decide +kernel, by decide +kernel⟩
theorem ok_name {f : Addr} {fd : FuncData} (F : Fun K "is_name" "is_name" sisname f fd) (T : Tx mg u) : FnOk P w K mg base CX0 1 f fd ["value"] spName := by
  refine F.ok scisname (fun vs H Q E h => ?_) (fun cdv A outer s H vs Q E hr h => ?_)
  · obtain ⟨z, rfl, _⟩ := h
    rfl
  obtain ⟨z, rfl, hz, q⟩ := h
  refine ⟨_, (pss_one (ps_ret (pe_and (pe_callB call_isi (by rfl) T.isinstance (by decide +kernel) (pa_cons (pv 0) (pa_cons (pe_bltn (v := .ty "str") rfl T.str (by decide +kernel) rfl) pa_nil))) (pe_and (pe_chain op_le op_le pe_int (pe_callB call_len_str (by rfl) T.len PySem.boot_len (pa_cons (pv 0) pa_nil)) (pe_glob rfl T.mLONGEST_NAME T.rLONGEST_NAME)) (pe_one (pe_callB (cr_all rfl) (by rfl) T.all (by decide +kernel) (pa_cons (pe_lc (own := [("letter", 1)]) (g := gName 1) (tt := tYes) rfl scisname.nd (pi_str (pv 0)) (blkOk_by (N := ["value", "letter"]) (sc := defScope sisname) (by decide +kernel)) (fun _ _ _ _ _ => pg_name (i := 1) scisname.nd rfl (Or.inl rfl)) (fun _ _ _ _ _ => pts_nil) (fun _ _ _ _ _ => (pe_cmpR op_in_sign (pv 1) (pe_glob rfl T.mLETTERS T.rLETTERS) rfl))) pa_nil))))))), ?_⟩
  have hz2 : z.length ≤ sizeLine := Nat.le_trans hz (by decide)
  refine ⟨_, rfl, _, _, .type "str", _, true, rfl, .ty _, .base (.str _), kit_ty (by decide +kernel), _, rfl, iteT' rfl ?_⟩
  refine ⟨_, rfl, z, rfl, hz2, _, _, rfl, rfl, _, rfl, ?_⟩
  cases e1 : decide ((1 : Int) ≤ (z.length : Int)) with
  | false =>
    refine iteF' rfl ⟨_, rfl, iteF' rfl ?_⟩
    have := q H (Same.refl H)
    rw [show nameB z = false by unfold nameB; rw [e1]; rfl] at this
    exact this
  | true =>
    refine iteT' rfl ⟨_, _, rfl, rfl, _, rfl, ?_⟩
    cases e2 : decide ((z.length : Int) ≤ 12) with
    | false =>
      refine iteF' rfl ?_
      have := q H (Same.refl H)
      rw [show nameB z = false by unfold nameB; rw [e1, e2]; rfl] at this
      exact this
    | true =>
      refine iteT' rfl ?_
      refine ⟨_, rfl, z, rfl, fun D nD => ?_⟩
      refine lp_it walk_str (fun i G => Same H G ∧ G D = some (.lst (((z.cps.toList.take i).map fun c => decide (c ∈ letters)).map V.bl))) ⟨same_upd nD, upd_same⟩ (fun _ _ _ _ => trivial) ?_ ?_
      · rintro i v G0 G hi ⟨sm, eD⟩ ⟨rfl, c, hc, rfl⟩
        refine ⟨rfl, ?_⟩
        refine ⟨_, rfl, c, _, rfl, rfl, _, eD, ?_, fun a o ea => ?_, ?_⟩
        · rw [List.length_map, List.length_map, List.length_take]
          have : z.cps.toList.length = z.length := by simp [Str.length]
          exact Nat.lt_of_le_of_lt (Nat.min_le_right _ _) (Nat.lt_of_le_of_lt (show z.cps.toList.length ≤ 100000 by omega) (by decide))
        · rw [upd_ne (ne_of_none ea nD)]
          exact sm _ _ ea
        · rw [upd_same, List.take_add_one]
          have hc2 : z.cps.toList[i]? = some c := by simpa using hc
          rw [hc2, List.map_append, List.map_append]
          rfl
      · rintro G ⟨sm, eD⟩
        have el : z.cps.toList.take z.cps.size = z.cps.toList := List.take_of_length_le (by simp)
        rw [el] at eD
        refine ⟨D, _, rfl, SqL.of eD, ?_⟩
        have := q G sm
        rw [show nameB z = ((z.cps.toList.map fun c => decide (c ∈ letters)).all id) by unfold nameB; rw [e1, e2, List.all_map]; rfl] at this
        exact this
abbrev sisinteger : Stmt := top 8
theorem scisinteger : FnScope ["value", "least", "most"] ["value", "least", "most"] (defScope sisinteger) := ⟨rfl, rfl, rfl, by decide +kernel, rfl, by decide +kernel, by decide +kernel⟩
theorem ok_int {f : Addr} {fd : FuncData} (F : Fun K "is_integer" "is_integer" sisinteger f fd) (T : Tx mg u) : FnOk P w K mg base CX0 1 f fd ["value", "least", "most"] spInt := by
  refine F.ok scisinteger (fun vs H Q E h => ?_) (fun cdv A outer s H vs Q E hr h => ?_)
  · obtain ⟨x, t, lo, hi, rfl, _⟩ := h
    rfl
  obtain ⟨x, t, lo, hi, rfl, hk, q⟩ := h
  refine ⟨_, (pss_one (ps_ret (pe_and (pe_callB call_isi (by rfl) T.isinstance (by decide +kernel) (pa_cons (pv 0) (pa_cons (pe_bltn (v := .ty "int") rfl T.int (by decide +kernel) rfl) pa_nil))) (pe_and (pe_not (pe_callB call_isi (by rfl) T.isinstance (by decide +kernel) (pa_cons (pv 0) (pa_cons (pe_bltn (v := .ty "bool") rfl T.bool (by decide +kernel) rfl) pa_nil)))) (pe_one (pe_chain op_le op_le (pv 1) (pv 0) (pv 2))))))), ?_⟩
  rcases kd_int hk with ⟨i, rfl⟩ | ⟨b, rfl⟩ | ⟨no, eb⟩
  · refine ⟨_, rfl, _, _, .type "int", _, true, rfl, .ty _, .base (.int _), kit_ty (by decide +kernel), _, rfl, iteT' rfl ?_⟩
    refine ⟨_, rfl, _, _, .type "int", _, false, rfl, .ty _, .base (.int _), kit_ty (by decide +kernel), _, rfl, _, rfl, iteT' rfl ?_⟩
    refine ⟨_, rfl, _, rfl, _, _, rfl, rfl, _, rfl, ?_⟩
    have q : Q (.bl (decide (lo ≤ i) && decide (i ≤ hi))) H := q
    cases e1 : decide (lo ≤ i) with
    | false =>
      rw [e1] at q
      exact iteF' rfl q
    | true =>
      rw [e1] at q
      exact iteT' rfl ⟨_, rfl, _, _, rfl, rfl, q⟩
  · refine ⟨_, rfl, _, _, .type "bool", _, true, rfl, .ty _, .base (.bl _), kit_ty (by decide +kernel), _, rfl, iteT' rfl ?_⟩
    exact ⟨_, rfl, _, _, .type "bool", _, true, rfl, .ty _, .base (.bl _), kit_ty (by decide +kernel), _, rfl, _, rfl, iteF' rfl q⟩
  · rw [eb] at q
    exact ⟨_, rfl, _, _, .type t, _, false, rfl, .ty _, kd_ty hk, kit_ty no, _, rfl, iteF' rfl q⟩
abbrev saredifferentnames : Stmt := top 12
theorem scaredifferentnames : FnScope ["values", "value"] ["values"] (defScope saredifferentnames) := ⟨rfl, rfl, rfl, by decide +kernel, rfl, by decide +kernel, by decide +kernel⟩
theorem ok_diff {f : Addr} {fd : FuncData} (F : Fun K "_are_different_names" "_are_different_names" saredifferentnames f fd) (T : Tx mg u) (cisname : Cal P w K mg base 1 "is_name" spName []) : FnOk P w K mg base CX0 2 f fd ["values"] (spDiff K) := by
  refine F.ok scaredifferentnames (fun vs H Q E h => ?_) (fun cdv A outer s H vs Q E hr h => ?_)
  · obtain ⟨t, ns, rfl, _⟩ := h
    rfl
  obtain ⟨t, ns, rfl, hT, hl, hz, q⟩ := h
  refine ⟨_, (pss_one (ps_ret (pe_and (pe_callB (cr_all rfl) (by rfl) T.all (by decide +kernel) (pa_cons (pe_lc (own := [("value", 1)]) (g := gName 1) (tt := tYes) rfl scaredifferentnames.nd (pi_tup (pv 0)) (blkOk_by (N := ["values", "value"]) (sc := defScope saredifferentnames) (by decide +kernel)) (fun _ _ _ _ _ => pg_name (i := 1) scaredifferentnames.nd rfl (Or.inl rfl)) (fun _ _ _ _ _ => pts_nil) (fun _ _ _ _ _ => (pe_c cisname hr (by decide) rfl (pa_cons (pv 1) pa_nil)))) pa_nil)) (pe_one (pe_cmpR op_eq (pe_lenSetS K rfl rfl T.len rfl T.set (pv 0)) (pe_callB call_len_seq (by rfl) T.len PySem.boot_len (pa_cons (pv 0) pa_nil)) (nomark _)))))), ?_⟩
  refine ⟨_, rfl, t, rfl, ⟨_, hT⟩, fun D nD => ?_⟩
  refine lp_it (walk_tup (xs := ns.map V.str)) (fun i G => Same H G ∧ G D = some (.lst (((ns.take i).map nameB).map V.bl))) ⟨same_upd nD, upd_same⟩ (fun i G _ p => p.1.sqt hT) ?_ ?_
  · rintro i v G0 G hi ⟨sm, eD⟩ ⟨rfl, ev⟩
    obtain ⟨z, ez, rfl⟩ := map_at ev
    refine ⟨rfl, ?_⟩
    refine ⟨_, rfl, z, rfl, hz z (List.mem_of_getElem? ez), fun G2 s2 => ?_⟩
    refine ⟨_, s2 _ _ eD, ?_, fun a o ea => ?_, ?_⟩
    · rw [List.length_map, List.length_map, List.length_take]
      exact small1000 (by omega)
    · rw [upd_ne (ne_of_none ea nD)]
      exact s2 _ _ (sm _ _ ea)
    · rw [upd_same, List.take_add_one, ez, List.map_append, List.map_append]
      rfl
  · rintro G ⟨sm, eD⟩
    rw [List.length_map, List.take_length] at eD
    refine ⟨D, _, rfl, SqL.of eD, _, rfl, ?_⟩
    have q := q G sm
    have ea : ((ns.map nameB).all id) = ns.all nameB := by rw [List.all_map]; rfl
    rw [ea]
    cases e1 : ns.all nameB with
    | false =>
      rw [show diffB ns = false by unfold diffB; rw [e1]; rfl] at q
      exact iteF' rfl q
    | true =>
      refine iteT' rfl ?_
      refine ⟨_, rfl, t, ns, rfl, sm.sqt hT, by omega, _, rfl, t, _, rfl, .inr (sm.sqt hT), rfl, ?_⟩
      have ed : decide (V.int ((dst ns ns.length : Nat) : Int) = V.int (((ns.map V.str).length : Nat) : Int)) = decide ns.Nodup := by
        rw [List.length_map]
        by_cases h : ns.Nodup
        · rw [dst_nodup h _ (Nat.le_refl _), decide_eq_true rfl, decide_eq_true h]
        · rw [decide_eq_false h, decide_eq_false fun z => h ?_]
          have e := Int.ofNat.inj (V.int.inj z)
          have := dst_dup ns.length (Nat.le_refl _) e
          rw [List.take_length] at this
          exact this
      show Q (V.bl (decide (V.int ((dst ns ns.length : Nat) : Int) = V.int (((ns.map V.str).length : Nat) : Int)))) G
      rw [ed]
      rw [show diffB ns = decide ns.Nodup by unfold diffB; rw [e1]; rfl] at q
      exact q
abbrev sCataloginit : Stmt := inClass (top 11) 1
theorem scCataloginit : FnScope ["self", "names"] ["self", "names"] (defScope sCataloginit) := ⟨rfl, rfl, rfl, by decide +kernel, rfl, by decide +kernel, by decide +kernel⟩
/-- what the class must have -/
structure CatF (K : PySem.W.Frag) (C fI fB g p : Addr) (uM mc : Value) : Prop where
  cl : Cls K C
  nN : NoAttr K C "names"
  con : Con K C "MOST" (.int 8) uM
  rd : ClX.CRead K C mc
  cv : ClX.CVal K C mc "MOST" (.int 8) uM
  cm : ClX.CMet K C mc "numbered" p g
  mk0 : Mk K C fI
  mB : Meth K C "is_book" fB
theorem fn_init {fI fB g p : Addr} {uM mc : Value} {fd : FuncData} (F : Fun K "__init__" "Catalog.__init__" sCataloginit fI fd) (T : Tx mg u) (CF : CatF K u.C fI fB g p uM mc) (caredifferentnames : Cal P w K mg base 2 "_are_different_names" (spDiff K) [])
    (hb : ∀ us rest : List Value, us.length = (["self"] : List Str).length → bindArgs fd ⟨us ++ rest, []⟩ = (newTuple rest >>= fun t => pure (((["self"] : List Str).zip us) ++ [(("names" : Str), t)]))) :
    FnR P w K mg base CX0 3 fI (fun vs H Q E => ∃ ws rest, vs = ws ++ rest ∧ ws.length = (["self"] : List Str).length ∧ rest.length ≤ sizeLine ∧ ∀ p, H p = Option.none → spInit u.C (ws ++ [V.ref p]) (L2.upd H p (.tup rest)) Q E) := by
  obtain ⟨oc, od, kV, doc, pm, an, cdv, ct, osl, rfl, lk, hcd⟩ := F.ex
  refine StX.fn_star lk hcd scCataloginit StX.cxUp_none hb fun A outer s H vs Q E hr h => ?_
  obtain ⟨x, dx, t, ns, rfl, hx, ht, ⟨g1, g8, gd, gz⟩, q⟩ := h
  refine ⟨_, PSs.nox (pss_cons (ps_if (PW.pt (pw_or (pt_not (pt_chain op_le op_le pe_int (pe_callB call_len_seq (by rfl) T.len PySem.boot_len (pa_cons (pv 1) pa_nil)) (pe_con (pv 0) rfl))) (pw_or1 (pt_not (pt_val (pe_c caredifferentnames hr (by decide) rfl (pa_cons (pv 1) pa_nil)))))))
    (pss_one ps_never)
    pss_nil)
  (pss_one (ps_fld (pv 0) (pv 1) rfl))), ?_⟩
  refine ⟨_, rfl, t, _, rfl, .inr (SqT.of ht), _, _, rfl, rfl, _, rfl, ?_⟩
  rw [List.length_map]
  refine iteT' (decide_eq_true (by omega)) ?_
  refine ⟨_, rfl, x, u.C, dx, _, .int 8, uM, rfl, hx, CF.cl, CF.con, rfl, _, _, rfl, rfl, _, rfl, ?_⟩
  have e8 : decide ((ns.length : Int) ≤ 8) = true := decide_eq_true (by omega)
  refine iteF' (by rw [e8]; rfl) ?_
  refine ⟨_, rfl, t, ns, rfl, SqT.of ht, by omega, gz, fun G sm => ?_⟩
  refine ⟨_, rfl, iteF' (by rw [gd]; rfl) ?_⟩
  exact ⟨_, rfl, _, rfl, x, u.C, dx, [], rfl, sm _ _ hx, CF.cl, CF.nN, (by show 0 < 1000; decide), q G sm⟩
abbrev sCatalognumbered : Stmt := inClass (top 11) 2
theorem scCatalognumbered : FnScope ["cls", "count", "names"] ["cls", "count"] (defScope sCatalognumbered) := ⟨rfl, rfl, rfl, by decide +kernel, rfl, by decide +kernel, by decide +kernel⟩
theorem ok_numbered {fI fB g p : Addr} {uM mc : Value} {fd : FuncData} (F : Fun K "numbered" "Catalog.numbered" sCatalognumbered g fd) (T : Tx mg u) (CF : CatF K u.C fI fB g p uM mc) (cisinteger : Cal P w K mg base 1 "is_integer" spInt [])
    (GI : FnR P w K mg base CX0 3 fI (fun vs H Q E => ∃ ws rest, vs = ws ++ rest ∧ ws.length = (["self"] : List Str).length ∧ rest.length ≤ sizeLine ∧ ∀ p, H p = Option.none → spInit u.C (ws ++ [V.ref p]) (L2.upd H p (.tup rest)) Q E)) :
    FnOk P w K mg base CX0 5 g fd ["cls", "count"] (spNumbered u.C) := by
  refine F.ok scCatalognumbered (fun vs H Q E h => ?_) (fun cdv A outer s H vs Q E hr h => ?_)
  · obtain ⟨n, rfl, _⟩ := h
    rfl
  obtain ⟨n, rfl, n1, n8, q⟩ := h
  refine ⟨_, (pss_cons (ps_if (pt_not (pt_val (pe_c cisinteger hr (by decide) rfl (pa_cons (pv 1) (pa_cons pe_int (pa_cons (ClX.pe_cval (pv 0)) pa_nil))))))
    (pss_one ps_never)
    pss_nil)
  (pss_cons (ps_set (i := 2) scCatalognumbered.nd rfl (Or.inl rfl) (pe_slice sl_str pe_str po_none (po_some (pv 1))))
  (pss_one (ps_ret (pe_mkTxt (i := 0) CF.mk0 GI hr rfl rfl (Or.inl rfl) pass0 (pv 2)))))), ?_⟩
  refine ⟨_, rfl, _, rfl, u.C, mc, .int 8, uM, rfl, CF.rd, CF.cv, ?_⟩
  refine ⟨_, "int", 1, 8, rfl, rfl, _, rfl, iteF' ?_ ?_⟩
  · show (!(decide ((1 : Int) ≤ (n : Int)) && decide ((n : Int) ≤ 8))) = false
    rw [decide_eq_true (by omega), decide_eq_true (by omega)]
    rfl
  refine ⟨_, rfl, _, rfl, _, rfl, by show 8 ≤ sizeLine; decide, ?_⟩
  refine ⟨rfl, _, rfl, _, rfl, ?_, fun x dx nx ndx ne => ?_⟩
  · have hl : ((cutS "abcdefgh" Option.none (some (n : Int))).cps.toList).length ≤ 8 := by
      unfold cutS
      simp only [List.length_take, List.length_drop]
      exact Nat.le_trans (Nat.min_le_right _ _) (Nat.sub_le _ _)
    exact Nat.le_trans (show (cutS "abcdefgh" Option.none (some (n : Int))).length ≤ 8 by simpa [Str.length] using hl) (by decide)
  have es : signs (cutS "abcdefgh" Option.none (some (n : Int))) = (abc n).map V.str := by
    have : ∀ m : Fin 9, signs (cutS "abcdefgh" Option.none (some (m.1 : Int))) = (abc m.1).map V.str := by decide +kernel
    exact this ⟨n, by omega⟩
  rw [es]
  have s1 : Same H (upd H dx (.own x)) := same_upd ndx
  have nx1 : (upd H dx (.own x)) x = none := by rw [upd_ne ne.symm]; exact nx
  have s2 : Same H (upd (upd H dx (.own x)) x (.ins u.C dx [])) := s1.trans (same_upd nx1)
  refine ⟨[V.ref x], (abc n).map V.str, rfl, rfl, ?_, fun t nt => ?_⟩
  · rw [List.length_map, abc_len n8]
    exact Nat.le_trans n8 (by decide)
  have s3 := same_upd (o := .tup ((abc n).map V.str)) nt
  have nxt : x ≠ t := ne_of_none upd_same nt
  refine ⟨x, dx, t, abc n, rfl, s3 _ _ upd_same, upd_same, abc_good n1 n8, fun G sm => ⟨rfl, ?_⟩⟩
  refine q x _ nx (fun a o ea => ?_) ⟨dx, t, upd_same, ?_⟩
  · rw [upd_ne (ne_of_none ea nx)]
    exact sm _ _ (s3 _ _ (s2 _ _ ea))
  · rw [upd_ne nxt.symm]
    exact sm _ _ upd_same
abbrev sCatalogisbook : Stmt := inClass (top 11) 7
theorem scCatalogisbook : FnScope ["self", "value", "number"] ["self", "value"] (defScope sCatalogisbook) := ⟨rfl, rfl, rfl, by decide +kernel, rfl, by decide +kernel, by decide +kernel⟩
theorem ok_book {fI fB g p : Addr} {uM mc : Value} {fd : FuncData} (F : Fun K "is_book" "Catalog.is_book" sCatalogisbook fB fd) (T : Tx mg u) (CF : CatF K u.C fI fB g p uM mc) (cisinteger : Cal P w K mg base 1 "is_integer" spInt []) :
    FnOk P w K mg base CX0 2 fB fd ["self", "value"] (spBook K u.C) := by
  refine F.ok scCatalogisbook (fun vs H Q E h => ?_) (fun cdv A outer s H vs Q E hr h => ?_)
  · obtain ⟨c, ns, v, rfl, _⟩ := h
    rfl
  obtain ⟨c, ns, v, rfl, ⟨dx, tn, hc, htn⟩, n8, hv⟩ := h
  refine ⟨_, (pss_one (ps_ret (pe_and (pe_callB call_isi (by rfl) T.isinstance (by decide +kernel) (pa_cons (pv 1) (pa_cons (pe_bltn (v := .ty "tuple") rfl T.tuple (by decide +kernel) rfl) pa_nil))) (pe_and (pe_cmpR op_eq (pe_callB call_len_seq (by rfl) T.len PySem.boot_len (pa_cons (pv 1) pa_nil)) (pe_callB call_len_seq (by rfl) T.len PySem.boot_len (pa_cons (pe_fld (pv 0) rfl) pa_nil)) (nomark _)) (pe_one (pe_callB (cr_all rfl) (by rfl) T.all (by decide +kernel) (pa_cons (pe_lc (own := [("number", 2)]) (g := gName 2) (tt := tYes) rfl scCatalogisbook.nd (pi_tup (pv 1)) (blkOk_by (N := ["self", "value", "number"]) (sc := defScope sCatalogisbook) (by decide +kernel)) (fun _ _ _ _ _ => pg_name (i := 2) scCatalogisbook.nd rfl (Or.inl rfl)) (fun _ _ _ _ _ => pts_nil) (fun _ _ _ _ _ => (pe_c cisinteger hr (by decide) rfl (pa_cons (pv 2) (pa_cons (pe_un un_neg (pe_glob rfl T.mBOUND T.rBOUND)) (pa_cons (pe_glob rfl T.mBOUND T.rBOUND) pa_nil)))))) pa_nil))))))), ?_⟩
  rcases hv with ⟨t, xs, rfl, ht, hl, hk, q⟩ | ⟨t, hk, nt, q⟩
  · refine ⟨_, rfl, _, _, .type "tuple", _, true, rfl, .ty _, .base (.tup ht), kit_ty (by decide +kernel), _, rfl, iteT' rfl ?_⟩
    refine ⟨_, rfl, t, xs, rfl, .inr (SqT.of ht), _, rfl, c, u.C, dx, _, .ref tn, rfl, hc, CF.cl, CF.nN, rfl, tn, _, rfl, .inr (SqT.of htn), rfl, _, rfl, ?_⟩
    rw [List.length_map]
    by_cases e : xs.length = ns.length
    · refine iteT' (by rw [e, decide_eq_true rfl]) ?_
      refine ⟨_, rfl, t, rfl, ⟨_, SqT.of ht⟩, fun D nD => ?_⟩
      refine lp_it (walk_tup (xs := xs)) (fun i G => Same H G ∧ G D = some (.lst (((xs.take i).map (intB (-1000000000000) 1000000000000)).map V.bl))) ⟨same_upd nD, upd_same⟩ (fun i G _ p => SqT.of (p.1 _ _ ht)) ?_ ?_
      · rintro i v G0 G hi ⟨sm, eD⟩ ⟨rfl, ev⟩
        obtain ⟨k, hk⟩ := hk v (List.mem_of_getElem? ev)
        refine ⟨rfl, ?_⟩
        refine ⟨_, rfl, _, rfl, v, k, _, _, rfl, kd_same sm hk, ?_⟩
        refine ⟨_, eD, ?_, fun a o ea => ?_, ?_⟩
        · rw [List.length_map, List.length_map, List.length_take]
          exact small1000 (by omega)
        · rw [upd_ne (ne_of_none ea nD)]
          exact sm _ _ ea
        · rw [upd_same, List.take_add_one, ev, List.map_append, List.map_append]
          rfl
      · rintro G ⟨sm, eD⟩
        rw [List.take_length] at eD
        refine ⟨D, _, rfl, SqL.of eD, ?_⟩
        have q := q G sm
        rw [show bookB ns.length xs = ((xs.map (intB (-1000000000000) 1000000000000)).all id) by unfold bookB; rw [e, decide_eq_true rfl, List.all_map]; rfl] at q
        exact q
    · refine iteF' (decide_eq_false fun z => e (Int.ofNat.inj (V.int.inj z))) ?_
      have q := q H (Same.refl H)
      rw [show bookB ns.length xs = false by unfold bookB; rw [decide_eq_false e]; rfl] at q
      exact q
  · exact ⟨_, rfl, _, _, .type t, _, false, rfl, .ty _, kd_ty hk, kit_ty (kd_notup hk nt), _, rfl, iteF' rfl q⟩
end
end VL

namespace VL
open PySem PySem.Spec PyProof.Rows L2
open C8 (Cal pe_c Met pe_mt)
local macro_rules | `(tactic| walk_at "lk") => `(tactic| (repeat' (first | assumption | exact upd_same | (refine Eq.trans (upd_ne ?_) ?_) | (apply Ne.symm; assumption))))
/-- is_book says False of it -/
def Nb (H : Hp) (n : Nat) (v : V) : Prop := (∃ t xs, v = .ref t ∧ H t = some (.tup xs) ∧ xs.length ≤ 1000 ∧ (∀ x ∈ xs, ∃ k, kd H x = some k) ∧ bookB n xs = false) ∨ (∃ t, kd H v = some t ∧ t ≠ "tuple")
theorem Nb.same {H H' : Hp} {n : Nat} {v : V} (h : Nb H n v) (s : Same H H') : Nb H' n v := by
  rcases h with ⟨t, xs, rfl, h1, h2, h3, h4⟩ | ⟨t, h1, h2⟩
  · refine .inl ⟨t, xs, rfl, s _ _ h1, h2, fun x hx => ?_, h4⟩
    obtain ⟨k, hk⟩ := h3 x hx
    exact ⟨k, kd_same s hk⟩
  · exact .inr ⟨t, kd_same s h1, h2⟩
theorem Nb.ask {K : PySem.W.Frag} {C c : Addr} {H : Hp} {ns : List Str} {v : V} {Q : VK} {E : XK} (h : Nb H ns.length v) (hc : CatAt C H c ns) (h8 : ns.length ≤ 8) (q : ∀ H', Same H H' → Q (.bl false) H') : spBook K C [.ref c, v] H Q E := by
  refine ⟨c, ns, v, rfl, hc, h8, ?_⟩
  rcases h with ⟨t, xs, rfl, h1, h2, h3, h4⟩ | ⟨t, h1, h2⟩
  · refine .inl ⟨t, xs, rfl, h1, h2, h3, ?_⟩
    rw [h4]
    exact q
  · exact .inr ⟨t, h1, h2, q H (Same.refl H)⟩
theorem atI_of {xs : List V} {v : Int} {Pr : V → Prop} (h : ∀ x ∈ xs, Pr x) (h0 : 0 ≤ v) (h1 : v < (xs.length : Int)) : ∃ x, atI xs v = some x ∧ Pr x := by
  have hl : v.toNat < xs.length := by omega
  have e := List.getElem?_eq_getElem hl
  exact ⟨_, atI_pos h0 e, h _ (List.mem_of_getElem? e)⟩
theorem kd_ints {H : Hp} (ns : List Int) : ∀ x ∈ ns.map V.int, ∃ k, kd H x = some k := fun x hx => by
  obtain ⟨i, _, rfl⟩ := List.mem_map.mp hx
  exact ⟨_, rfl⟩
theorem book_yes {n : Nat} {bk : List Int} (hl : bk.length = n) (hb : ∀ z ∈ bk, -1000000000000 ≤ z ∧ z ≤ 1000000000000) : bookB n (bk.map V.int) = true := by
  unfold bookB
  rw [List.length_map, decide_eq_true hl, Bool.true_and, List.all_map, List.all_eq_true]
  intro z hz
  obtain ⟨h1, h2⟩ := hb z hz
  show (decide (-1000000000000 ≤ z) && decide (z ≤ 1000000000000)) = true
  rw [decide_eq_true h1, decide_eq_true h2]
  rfl
theorem book_len {n : Nat} {xs : List V} (h : xs.length ≠ n) : bookB n xs = false := by
  unfold bookB
  rw [decide_eq_false h]
  rfl
theorem book_no {n : Nat} {xs : List V} {x : V} (hm : x ∈ xs) (hx : intB (-1000000000000) 1000000000000 x = false) : bookB n xs = false := by
  unfold bookB
  have : xs.all (intB (-1000000000000) 1000000000000) = false := by
    rw [List.all_eq_false]
    exact ⟨x, hm, by rw [hx]; exact Bool.false_ne_true⟩
  rw [this, Bool.and_false]
theorem e12V : (fun i j : Int => V.int (i ^ j.toNat)) 10 12 = V.int 1000000000000 := congrArg V.int (by decide +kernel)
theorem e12 : (10 : Int) ^ (12 : Int).toNat = 1000000000000 := by decide +kernel
def spLaw (K : PySem.W.Frag) : Sp := fun vs H Q _ => ∃ (a : Addr) (ns : List Int), vs = [.ref a] ∧ SqL K H a (ns.map V.int) ∧ ns.length ≤ 63 ∧ ∀ H', Q (.bl true) H'
section
variable {P : Program} {w : World} {K : PySem.W.Frag} {mg : Str → Option Value} {base : Heap} {u : Cs}
abbrev slaw : Stmt := top 16
theorem sclaw : FnScope ["_law_script", "_law_box_here", "_law_count", "_law_catalog", "_law_book", "_law_k", "_law_number", "_law_odd", "_law_at", "_law_spoilt", "_law_others", "_law_other"] ["_law_script"] (defScope slaw) := ⟨rfl, rfl, rfl, by decide +kernel, rfl, by decide +kernel, by decide +kernel⟩
theorem ok_law {fI fB g p f : Addr} {uM mc : Value} {fd : FuncData} (F : Fun K "law" "law" slaw f fd) (T : Tx mg u) (CF : CatF K u.C fI fB g p uM mc) (cLbox : Cal P w K mg base 1 "_law_box" (spBox K) []) (cLtake : Cal P w K mg base 1 "_law_take" spTake [])
    (GN : FnR P w K mg base CX0 5 g (fun vs H Q E => spNumbered u.C (vs ++ []) H Q E)) (cB : Met P w K mg base 2 u.C "is_book" (spBook K u.C) []) :
    FnOk P w K mg base CX0 6 f fd ["_law_script"] (spLaw K) := by
  refine F.ok sclaw (fun vs H Q E h => ?_) (fun cdv A outer s H vs Q E hr h => ?_)
  · obtain ⟨a, ns, rfl, _⟩ := h
    rfl
  obtain ⟨a, ns, rfl, hS, h63, q⟩ := h
  refine ⟨_, (pss_cons (ps_set (i := 1) sclaw.nd rfl (Or.inl rfl) (pe_c cLbox hr (by decide) rfl (pa_cons (pv 0) pa_nil)))
  (pss_cons (ps_set (i := 2) sclaw.nd rfl (Or.inl rfl) (pe_op op_add pe_int (pe_c cLtake hr (by decide) rfl (pa_cons (pv 1) (pa_cons pe_int pa_nil)))))
  (pss_cons (ps_set (i := 3) sclaw.nd rfl (Or.inl rfl) (ClX.pe_cmeth (pe_glob rfl T.mCatalog T.rCatalog) CF.rd CF.cm GN (hr.mono (by decide)) pass0 (pa_cons (pv 2) pa_nil)))
  (pss_cons (ps_set (i := 4) sclaw.nd rfl (Or.inl rfl) (pe_lst pa_nil))
  (pss_cons (ps_for PassesOwn.never rfl (pi_range1 rfl T.range (pa_cons (pv 2) pa_nil)) (pg_name (i := 5) sclaw.nd rfl (Or.inl rfl))
    (pss_cons (ps_set (i := 6) sclaw.nd rfl (Or.inl rfl) (pe_op op_sub (pe_c cLtake hr (by decide) rfl (pa_cons (pv 1) (pa_cons (pe_op op_add (pe_op op_mul pe_int (pe_op op_pow pe_int pe_int)) pe_int) pa_nil))) (pe_op op_pow pe_int pe_int)))
    (pss_one (ps_expr (pe_bm PySem.F.plainAttrs_list PySem.F.slot_list_append PySem.F.type_list_append mt_append (pv 4) (pa_cons (pe_ix ix_list (pe_lst (pa_cons (pv 6) (pa_cons (pe_op op_pow pe_int pe_int) (pa_cons (pe_un un_neg (pe_op op_pow pe_int pe_int)) (pa_cons pe_int pa_nil))))) (pe_c cLtake hr (by decide) rfl (pa_cons (pv 1) (pa_cons pe_int pa_nil))) (fun _ _ => rfl)) pa_nil))))))
  (pss_cons (ps_set (i := 7) sclaw.nd rfl (Or.inl rfl) (pe_ix ix_list (pe_lst (pa_cons (pe_op op_add (pe_op op_pow pe_int pe_int) pe_int) (pa_cons (pe_op op_sub (pe_un un_neg (pe_op op_pow pe_int pe_int)) pe_int) (pa_cons pe_bl (pa_cons pe_bl (pa_cons pe_non (pa_cons pe_str (pa_cons (pe_tup (pa_cons pe_int pa_nil)) (pa_cons (pe_lst (pa_cons pe_int pa_nil)) pa_nil))))))))) (pe_c cLtake hr (by decide) rfl (pa_cons (pv 1) (pa_cons pe_int pa_nil))) (fun _ _ => rfl)))
  (pss_cons (ps_set (i := 8) sclaw.nd rfl (Or.inl rfl) (pe_c cLtake hr (by decide) rfl (pa_cons (pv 1) (pa_cons (pv 2) pa_nil))))
  (pss_cons (ps_set (i := 9) sclaw.nd rfl (Or.inl rfl) (pe_callTy call_list_of (by rfl) T.list (by decide +kernel) (pa_cons (pv 4) pa_nil)))
  (pss_cons (ps_asg (pv 7) (pg_sub (pv 9) (pv 8) set_list))
  (pss_cons (ps_if (PW.pt (pw_or (pt_cmpR op_notBl (pe_mt cB hr (by decide) (pv 3) (pa_cons (pe_callTy call_tuple_of (by rfl) T.tuple (by decide +kernel) (pa_cons (pv 4) pa_nil)) pa_nil)) pe_bl (nomark _)) (pw_or1 (pt_cmpR op_notBl (pe_mt cB hr (by decide) (pv 3) (pa_cons (pe_callTy call_tuple_of (by rfl) T.tuple (by decide +kernel) (pa_cons (pv 9) pa_nil)) pa_nil)) pe_bl (nomark _)))))
    (pss_one (ps_ret pe_bl))
    pss_nil)
  (pss_cons (ps_set (i := 10) sclaw.nd rfl (Or.inl rfl) (pe_lst (pa_cons (pe_callTy call_list_of (by rfl) T.list (by decide +kernel) (pa_cons (pv 4) pa_nil)) (pa_cons (pe_callTy call_tuple_of (by rfl) T.tuple (by decide +kernel) (pa_cons (pe_slice sl_list (pv 4) (po_some pe_int) po_none) pa_nil)) (pa_cons (pe_callTy call_tuple_of (by rfl) T.tuple (by decide +kernel) (pa_cons (pe_op op_cat (pv 4) (pe_lst (pa_cons pe_int pa_nil))) pa_nil)) (pa_cons pe_non (pa_cons pe_str (pa_cons pe_int (pa_cons pe_bl (pa_cons (pe_callTy call_tuple_of (by rfl) T.tuple (by decide +kernel) (pa_cons (pe_lst (pa_cons (pe_callTy call_tuple_of (by rfl) T.tuple (by decide +kernel) (pa_cons (pv 4) pa_nil)) pa_nil)) pa_nil)) (pa_cons pe_dnewK pa_nil)))))))))))
  (pss_cons (ps_for PassesOwn.never rfl (pi_list (pv 10)) (pg_name (i := 11) sclaw.nd rfl (Or.inl rfl))
    (pss_one (ps_if (pt_cmpR op_notBl (pe_mt cB hr (by decide) (pv 3) (pa_cons (pv 11) pa_nil)) pe_bl (nomark _))
      (pss_one (ps_ret pe_bl))
      pss_nil)))
  (pss_one (ps_ret (pe_cmpR op_isBl (pe_mt cB hr (by decide) (pv 3) (pa_cons (pe_callTy call_tuple_of (by rfl) T.tuple (by decide +kernel) (pa_cons (pv 4) pa_nil)) pa_nil)) pe_bl (nomark _)))))))))))))))), ?_⟩
  have cp : CPow 10 12 := ⟨by decide, by decide, by decide⟩
  refine ⟨_, rfl, a, ns, rfl, hS, h63, fun b L H1 _ _ _ B1 => ?_⟩
  refine ⟨_, rfl, b, L, 8, rfl, by decide, by decide, B1, fun v1 o1 v10 v11 B2 ho1 => ⟨_, _, rfl, rfl, ?_⟩⟩
  generalize upd H1 b o1 = H2 at B2 ⊢
  obtain ⟨n, en⟩ := Int.eq_ofNat_of_zero_le (show 0 ≤ 1 + v1 by omega)
  rw [show ((fun i j : Int => V.int (i + j)) 1 v1) = V.int (n : Int) from congrArg V.int en]
  have n1 : 1 ≤ n := by omega
  have n8 : n ≤ 8 := by omega
  have an := abc_len n8
  -- the catalog, the empty book
  refine ⟨rfl, _, rfl, n, rfl, n1, n8, fun c H3 nc s3 C3 => ?_⟩
  have B3 := B2.same s3
  refine ⟨Nat.zero_le _, fun l nl => ?_⟩
  obtain ⟨lb, lL⟩ := B3.new nl
  have B4 := B3.upd (o := .lst []) lb lL
  have C4 := C3.same (same_upd (o := .lst []) nl)
  have e4 : (upd H3 l (.lst [])) l = some (.lst []) := upd_same
  generalize upd H3 l (.lst []) = H4 at B4 C4 e4 ⊢
  refine ⟨_, rfl, _, rfl, by omega, by omega, for_range (lo := 0) (n := ((n : Int)).toNat) (fun i σ H' => ∃ (bk : List Int) (y5 y6 : Option V), σ = [some (.ref a), some (.ref b), some (.int n), some (.ref c), some (.ref l), y5, y6, none, none, none, none, none] ∧
      Box H' b L ∧ CatAt u.C H' c (abc n) ∧ H' l = some (.lst (bk.map V.int)) ∧ bk.length = i ∧ ∀ z ∈ bk, -1000000000000 ≤ z ∧ z ≤ 1000000000000) ⟨[], none, none, rfl, B4, C4, e4, rfl, fun z hz => by cases hz⟩ ?_ ?_⟩
  · rintro i σ H' hi ⟨bk, y5, y6, rfl, B, Cc, el, hl, hb⟩
    refine ⟨_, rfl, _, _, rfl, rfl, cp, _, _, rfl, rfl, .inl ⟨by decide, by decide⟩, _, _, rfl, rfl, b, L, _, rfl, by decide +kernel, by decide +kernel, B, fun v2 o2 v20 v21 B5 ho2 => ?_⟩
    refine ⟨_, _, rfl, rfl, cp, _, _, rfl, rfl, ?_⟩
    rw [e12] at v21
    rw [e12]
    obtain ⟨xs5, ex5⟩ := B.lst
    have C5 := Cc.upd (o := o2) ex5
    have e5 : (upd H' b o2) l = some (.lst (bk.map V.int)) := by walk_at "lk"
    generalize upd H' b o2 = H5 at B5 C5 e5 ⊢
    refine ⟨_, rfl, .inl ⟨rfl, _, SqL.of e5⟩, ?_⟩
    refine ⟨_, rfl, _, _, rfl, rfl, cp, _, _, rfl, rfl, cp, _, rfl, ?_⟩
    refine ⟨by show 4 ≤ sizeLine; decide, fun D nD => ?_⟩
    rw [show (fun i j : Int => V.int (i ^ j.toNat)) 10 12 = V.int 1000000000000 from e12V]
    rw [e12]
    obtain ⟨Db, DL⟩ := B5.new nD
    have sD := same_upd (o := .lst [.int (v2 - 1000000000000), .int 1000000000000, .int (-1000000000000), .int 0]) nD
    have eD : (upd H5 D (.lst [.int (v2 - 1000000000000), .int 1000000000000, .int (-1000000000000), .int 0])) D = some (.lst ([v2 - 1000000000000, 1000000000000, -1000000000000, 0].map V.int)) := upd_same
    have B6 := B5.same sD
    have C6 := C5.same sD
    have e6 := sD _ _ e5
    refine ⟨_, rfl, b, L, 4, rfl, by decide, by decide, B6, fun v3 o3 v30 v31 B7 ho3 => ?_⟩
    obtain ⟨z, hz0, hz⟩ := atI_ints (cs := [v2 - 1000000000000, 1000000000000, -1000000000000, 0]) v30 v31
    have hzb : -1000000000000 ≤ z ∧ z ≤ 1000000000000 := by
      have := List.mem_of_getElem? hz0
      simp only [List.mem_cons, List.not_mem_nil, or_false] at this
      omega
    refine ⟨D, _, v3, .int z, rfl, rfl, SqL.of (Eq.trans (upd_ne Db) eD), hz, ?_⟩
    obtain ⟨xs6, ex6⟩ := B6.lst
    have C7 := C6.upd (o := o3) ex6
    generalize upd H5 D (.lst [.int (v2 - 1000000000000), .int 1000000000000, .int (-1000000000000), .int 0]) = H6 at B7 C7 e6 ⊢
    have e7 : (upd H6 b o3) l = some (.lst (bk.map V.int)) := by walk_at "lk"
    generalize upd H6 b o3 = H7 at B7 C7 e7 ⊢
    refine ⟨l, _, _, rfl, rfl, e7, by rw [List.length_map]; exact small1000 (by omega), ?_⟩
    refine ⟨bk ++ [z], _, _, rfl, B7.upd lb lL, C7.upd e7, by rw [upd_same, List.map_append]; rfl, by rw [List.length_append, hl]; rfl, fun y hy => ?_⟩
    rcases List.mem_append.mp hy with h | h
    · exact hb y h
    · rw [List.mem_singleton.mp h]
      exact hzb
  rintro σ H5 ⟨bk, y5, y6, rfl, B5, C5, e5, hl, hb⟩
  have hl : bk.length = n := by omega
  -- the odd value
  refine ⟨_, _, rfl, rfl, cp, _, _, rfl, rfl, _, _, rfl, rfl, cp, _, rfl, _, _, rfl, rfl, ?_⟩
  refine ⟨by show 1 ≤ sizeLine; decide, fun t0 nt0 => ?_⟩
  have s1 := same_upd (o := .tup [.int 0]) nt0
  have et0 : (upd H5 t0 (.tup [.int 0])) t0 = some (.tup [.int 0]) := upd_same
  have B6 := B5.same s1
  have C6 := C5.same s1
  have e6 := s1 _ _ e5
  generalize upd H5 t0 (.tup [.int 0]) = H6 at B6 C6 e6 et0 ⊢
  refine ⟨by show 1 ≤ sizeLine; decide, fun t1 nt1 => ?_⟩
  have s2 := same_upd (o := .lst [.int 0]) nt1
  have et1 : (upd H6 t1 (.lst [.int 0])) t1 = some (.lst [.int 0]) := upd_same
  have B7 := B6.same s2
  have C7 := C6.same s2
  have e7 := s2 _ _ e6
  have et0 := s2 _ _ et0
  obtain ⟨t1b, t1L⟩ := B6.new nt1
  generalize upd H6 t1 (.lst [.int 0]) = H7 at B7 C7 e7 et0 et1 ⊢
  refine ⟨by show 8 ≤ sizeLine; decide, fun D nD => ?_⟩
  try rw [e12]
  obtain ⟨Db, DL⟩ := B7.new nD
  have sD := same_upd (o := .lst [.int (1000000000000 + 1), .int (-1000000000000 - 1), .bl true, .bl false, .non, .str "0", .ref t0, .ref t1]) nD
  have eD : (upd H7 D (.lst [.int (1000000000000 + 1), .int (-1000000000000 - 1), .bl true, .bl false, .non, .str "0", .ref t0, .ref t1])) D = some (.lst [.int (1000000000000 + 1), .int (-1000000000000 - 1), .bl true, .bl false, .non, .str "0", .ref t0, .ref t1]) := upd_same
  have B8 := B7.same sD
  have C8 := C7.same sD
  have e8 := sD _ _ e7
  have et0 := sD _ _ et0
  have et1 := sD _ _ et1
  refine ⟨_, rfl, b, L, 8, rfl, by decide, by decide, B8, fun v4 o4 v40 v41 B9 ho4 => ?_⟩
  obtain ⟨xs8, ex8⟩ := B8.lst
  have C9 := C8.upd (o := o4) ex8
  generalize upd H7 D (.lst [.int (1000000000000 + 1), .int (-1000000000000 - 1), .bl true, .bl false, .non, .str "0", .ref t0, .ref t1]) = H8 at B9 C9 e8 et0 et1 eD ex8 ⊢
  have et0b : (upd H8 b o4) t0 = some (.tup [.int 0]) := by
    rw [upd_ne (ne_of et0 ex8 (by intro z; cases z))]
    exact et0
  have et1b : (upd H8 b o4) t1 = some (.lst [.int 0]) := by walk_at "lk"
  have e9 : (upd H8 b o4) l = some (.lst (bk.map V.int)) := by walk_at "lk"
  have eDb := Eq.trans (upd_ne (H := H8) (o := o4) Db) eD
  generalize upd H8 b o4 = H9 at B9 C9 et0b et1b e9 eDb ⊢
  obtain ⟨od, hod, ⟨kO, hkO⟩, iO⟩ := atI_of (xs := [.int (1000000000000 + 1), .int (-1000000000000 - 1), .bl true, .bl false, .non, .str "0", .ref t0, .ref t1]) (v := v4) (Pr := fun x => (∃ k, kd H9 x = some k) ∧ intB (-1000000000000) 1000000000000 x = false) (fun x hx => by
    simp only [List.mem_cons, List.not_mem_nil, or_false] at hx
    rcases hx with rfl | rfl | rfl | rfl | rfl | rfl | rfl | rfl
    · exact ⟨⟨_, rfl⟩, by decide +kernel⟩
    · exact ⟨⟨_, rfl⟩, by decide +kernel⟩
    · exact ⟨⟨_, rfl⟩, rfl⟩
    · exact ⟨⟨_, rfl⟩, rfl⟩
    · exact ⟨⟨_, rfl⟩, rfl⟩
    · exact ⟨⟨_, rfl⟩, rfl⟩
    · exact ⟨⟨_, kd_tup et0b⟩, rfl⟩
    · exact ⟨⟨_, kd_lst et1b⟩, rfl⟩) v40 v41
  refine ⟨D, _, v4, od, rfl, rfl, SqL.of eDb, hod, ?_⟩
  -- at, spoilt
  refine ⟨_, rfl, _, rfl, b, L, _, rfl, by omega, by omega, B9, fun v5 o5 v50 v51 B10 ho5 => ?_⟩
  obtain ⟨xs9, ex9⟩ := B9.lst
  have C10 := C9.upd (o := o5) ex9
  have kT9 : ∀ {x : V} {k : String}, kd H9 x = some k → kd (upd H9 b o5) x = some k := fun {x k} h => by
    obtain ⟨xs5, rfl⟩ := ho5
    cases x with
    | ref z =>
      by_cases e : z = b
      · subst e
        rw [kd_lst ex9] at h
        rw [kd_lst upd_same]
        exact h
      · have h2 : (upd H9 b (.lst xs5)) z = H9 z := upd_ne e
        have h : (match H9 z with | some (.lst _) => some "list" | some (.tup _) => some "tuple" | some (.dK _) => some "dict" | _ => none) = some k := h
        show (match (upd H9 b (.lst xs5)) z with | some (.lst _) => some "list" | some (.tup _) => some "tuple" | some (.dK _) => some "dict" | _ => none) = some k
        rw [h2]
        exact h
    | _ => exact h
  have hkO := kT9 hkO
  have e10 : (upd H9 b o5) l = some (.lst (bk.map V.int)) := by walk_at "lk"
  generalize upd H9 b o5 = H10 at B10 C10 hkO e10 ⊢
  refine ⟨_, rfl, l, _, rfl, .inl (SqL.of e10), fun sp nsp => ?_⟩
  obtain ⟨spb, spL⟩ := B10.new nsp
  have s11 := same_upd (o := .lst (bk.map V.int)) nsp
  have e11 := s11 _ _ e10
  have lsp : l ≠ sp := ne_of_none e10 nsp
  have hkO := kd_same s11 hkO
  have C11 := C10.same s11
  have esp : (upd H10 sp (.lst (bk.map V.int))) sp = some (.lst (bk.map V.int)) := upd_same
  generalize upd H10 sp (.lst (bk.map V.int)) = H11 at e11 hkO C11 esp ⊢
  refine ⟨_, rfl, _, rfl, _, rfl, sp, _, v5, v5.toNat, rfl, rfl, esp, ?_, ?_⟩
  · rw [List.length_map]
    have e : v5 = ((v5.toNat : Nat) : Int) := by omega
    have h : v5.toNat < bk.length := by omega
    have := ixN_nat h
    rw [← e] at this
    exact this
  have C12 := C11.upd (o := .lst ((bk.map V.int).set v5.toNat od)) esp
  have kT12 : ∀ {x : V} {k : String}, kd H11 x = some k → kd (upd H11 sp (.lst ((bk.map V.int).set v5.toNat od))) x = some k := fun {x k} h => by
    cases x with
    | ref z =>
      by_cases e : z = sp
      · subst e
        rw [kd_lst esp] at h
        rw [kd_lst upd_same]
        exact h
      · have h2 : (upd H11 sp (.lst ((bk.map V.int).set v5.toNat od))) z = H11 z := upd_ne e
        have h : (match H11 z with | some (.lst _) => some "list" | some (.tup _) => some "tuple" | some (.dK _) => some "dict" | _ => none) = some k := h
        show (match (upd H11 sp (.lst ((bk.map V.int).set v5.toNat od))) z with | some (.lst _) => some "list" | some (.tup _) => some "tuple" | some (.dK _) => some "dict" | _ => none) = some k
        rw [h2]
        exact h
    | _ => exact h
  have hkO := kT12 hkO
  have e12l : (upd H11 sp (.lst ((bk.map V.int).set v5.toNat od))) l = some (.lst (bk.map V.int)) := by walk_at "lk"
  have e12s : (upd H11 sp (.lst ((bk.map V.int).set v5.toNat od))) sp = some (.lst ((bk.map V.int).set v5.toNat od)) := upd_same
  generalize upd H11 sp (.lst ((bk.map V.int).set v5.toNat od)) = H12 at C12 hkO e12l e12s ⊢
  -- the two asked
  have h8 : (abc n).length ≤ 8 := by omega
  obtain ⟨dx, tn, hc12, ht12⟩ := C12
  refine ⟨_, rfl, c, dx, _, rfl, hc12, rfl, _, rfl, l, _, rfl, .inl ⟨SqL.of e12l, fun p1 np1 => ?_⟩⟩
  have s13 := same_upd (o := .tup (bk.map V.int)) np1
  refine ⟨c, abc n, _, rfl, ⟨dx, tn, s13 _ _ hc12, s13 _ _ ht12⟩, h8, .inl ⟨p1, _, rfl, upd_same, by rw [List.length_map]; omega, kd_ints bk, fun G s14 => ?_⟩⟩
  rw [book_yes (by omega) hb]
  refine ⟨_, _, rfl, rfl, _, rfl, iteF' rfl ?_⟩
  have s := s13.trans s14
  have hkO := kd_same s hkO
  have hcG := s _ _ hc12
  have htG := s _ _ ht12
  have elG := s _ _ e12l
  have esG := s _ _ e12s
  refine ⟨_, rfl, c, dx, _, rfl, hcG, rfl, _, rfl, sp, _, rfl, .inl ⟨SqL.of esG, fun p2 np2 => ?_⟩⟩
  have s15 := same_upd (o := .tup ((bk.map V.int).set v5.toNat od)) np2
  have odm : od ∈ (bk.map V.int).set v5.toNat od := List.mem_of_getElem? (List.getElem?_set_self (by rw [List.length_map]; omega))
  refine ⟨c, abc n, _, rfl, ⟨dx, tn, s15 _ _ hcG, s15 _ _ htG⟩, h8, .inl ⟨p2, _, rfl, upd_same, by rw [List.length_set, List.length_map]; omega, fun x hx => ?_, fun G2 s16 => ?_⟩⟩
  · rcases List.mem_or_eq_of_mem_set hx with h | h
    · exact kd_ints bk x h
    · rw [h]
      exact ⟨_, kd_same s15 hkO⟩
  rw [book_no odm iO]
  refine ⟨_, _, rfl, rfl, _, rfl, iteF' rfl ?_⟩
  have s := s15.trans s16
  have hc2 := s _ _ hcG
  have ht2 := s _ _ htG
  have el2 := s _ _ elG
  -- the others
  refine ⟨_, rfl, l, _, rfl, .inl (SqL.of el2), fun q1 nq1 => ?_⟩
  have z1 := same_upd (o := .lst (bk.map V.int)) nq1
  have eq1 : (upd G2 q1 (.lst (bk.map V.int))) q1 = some (.lst (bk.map V.int)) := upd_same
  have el3 := z1 _ _ el2
  have hc3 := z1 _ _ hc2
  have ht3 := z1 _ _ ht2
  generalize upd G2 q1 (.lst (bk.map V.int)) = G3 at eq1 el3 hc3 ht3 ⊢
  obtain ⟨cs, ec⟩ := cutV_ints bk (some 1) none
  have hcs : cs.length ≠ n := by
    have e1 : (cutV (bk.map V.int) (some 1) none).length = (bk.map V.int).length - 1 := by
      unfold cutV
      rw [show HT.sIx (bk.map V.int).length 0 (some 1) = min 1 (bk.map V.int).length from HT.sIx_nat (bk.map V.int).length 0 1, HT.sIx_none, List.length_take, List.length_drop]
      omega
    rw [ec, List.length_map, List.length_map] at e1
    omega
  have hcl : cs.length ≤ 1000 := by
    have := cutV_length (bk.map V.int) (some 1) none
    rw [ec, List.length_map, List.length_map] at this
    omega
  refine ⟨_, rfl, 1, rfl, l, _, rfl, SqL.of el3, fun q2 nq2 => ?_⟩
  rw [ec]
  have z2 := same_upd (o := .lst (cs.map V.int)) nq2
  refine ⟨q2, _, rfl, .inl ⟨SqL.of upd_same, fun q3 nq3 => ?_⟩⟩
  have z3 := same_upd (o := .tup (cs.map V.int)) nq3
  have eq3 : (upd (upd G3 q2 (.lst (cs.map V.int))) q3 (.tup (cs.map V.int))) q3 = some (.tup (cs.map V.int)) := upd_same
  have z := z2.trans z3
  have eq1 := z _ _ eq1
  have el4 := z _ _ el3
  have hc4 := z _ _ hc3
  have ht4 := z _ _ ht3
  generalize upd (upd G3 q2 (.lst (cs.map V.int))) q3 (.tup (cs.map V.int)) = G4 at eq1 eq3 el4 hc4 ht4 ⊢
  -- tuple(book + [0])
  refine ⟨_, rfl, by show 1 ≤ sizeLine; decide, fun q4 nq4 => ?_⟩
  have z4 := same_upd (o := .lst [.int 0]) nq4
  refine ⟨l, q4, _, _, rfl, rfl, z4 _ _ el4, upd_same, ?_, fun q5 nq5 => ?_⟩
  · rw [List.length_map]
    exact Nat.le_trans (show bk.length + 1 ≤ 1000 by omega) (by decide)
  have z5 := same_upd (o := .lst (bk.map V.int ++ [.int 0])) nq5
  refine ⟨q5, _, rfl, .inl ⟨SqL.of upd_same, fun q6 nq6 => ?_⟩⟩
  have z6 := same_upd (o := .tup (bk.map V.int ++ [.int 0])) nq6
  have z := (z4.trans z5).trans z6
  have eq1 := z _ _ eq1
  have eq3 := z _ _ eq3
  have eq6 : (upd (upd (upd G4 q4 (.lst [.int 0])) q5 (.lst (bk.map V.int ++ [.int 0]))) q6 (.tup (bk.map V.int ++ [.int 0]))) q6 = some (.tup (bk.map V.int ++ [.int 0])) := upd_same
  have el5 := z _ _ el4
  have hc5 := z _ _ hc4
  have ht5 := z _ _ ht4
  generalize upd (upd (upd G4 q4 (.lst [.int 0])) q5 (.lst (bk.map V.int ++ [.int 0]))) q6 (.tup (bk.map V.int ++ [.int 0])) = G5 at eq1 eq3 eq6 el5 hc5 ht5 ⊢
  -- tuple([tuple(book)])
  refine ⟨_, rfl, l, _, rfl, .inl ⟨SqL.of el5, fun q7 nq7 => ?_⟩⟩
  have z7 := same_upd (o := .tup (bk.map V.int)) nq7
  refine ⟨by show 1 ≤ sizeLine; decide, fun q8 nq8 => ?_⟩
  have z8 := same_upd (o := .lst [.ref q7]) nq8
  refine ⟨q8, _, rfl, .inl ⟨SqL.of upd_same, fun q9 nq9 => ?_⟩⟩
  have z9 := same_upd (o := .tup [.ref q7]) nq9
  have z := (z7.trans z8).trans z9
  have eq1 := z _ _ eq1
  have eq3 := z _ _ eq3
  have eq6 := z _ _ eq6
  have eq7 := z9 _ _ (z8 _ _ (upd_same (H := G5) (a := q7) (o := .tup (bk.map V.int))))
  have eq9 : (upd (upd (upd G5 q7 (.tup (bk.map V.int))) q8 (.lst [.ref q7])) q9 (.tup [.ref q7])) q9 = some (.tup [.ref q7]) := upd_same
  have el6 := z _ _ el5
  have hc6 := z _ _ hc5
  have ht6 := z _ _ ht5
  generalize upd (upd (upd G5 q7 (.tup (bk.map V.int))) q8 (.lst [.ref q7])) q9 (.tup [.ref q7]) = G6 at eq1 eq3 eq6 eq7 eq9 el6 hc6 ht6 ⊢
  -- {}, the list
  intro q10 nq10
  have z10 := same_upd (o := .dK []) nq10
  have eq10 : (upd G6 q10 (.dK [])) q10 = some (.dK []) := upd_same
  have eq1 := z10 _ _ eq1
  have eq3 := z10 _ _ eq3
  have eq6 := z10 _ _ eq6
  have eq7 := z10 _ _ eq7
  have eq9 := z10 _ _ eq9
  have el7 := z10 _ _ el6
  have hc7 := z10 _ _ hc6
  have ht7 := z10 _ _ ht6
  generalize upd G6 q10 (.dK []) = G7 at eq1 eq3 eq6 eq7 eq9 eq10 el7 hc7 ht7 ⊢
  refine ⟨by show 9 ≤ sizeLine; decide, fun W nW => ?_⟩
  have zW := same_upd (o := .lst [.ref q1, .ref q3, .ref q6, .non, .str "", .int 0, .bl true, .ref q9, .ref q10]) nW
  have eW : (upd G7 W (.lst [.ref q1, .ref q3, .ref q6, .non, .str "", .int 0, .bl true, .ref q9, .ref q10])) W = some (.lst [.ref q1, .ref q3, .ref q6, .non, .str "", .int 0, .bl true, .ref q9, .ref q10]) := upd_same
  have eq1 := zW _ _ eq1
  have eq3 := zW _ _ eq3
  have eq6 := zW _ _ eq6
  have eq7 := zW _ _ eq7
  have eq9 := zW _ _ eq9
  have eq10 := zW _ _ eq10
  have el8 := zW _ _ el7
  have hc8 := zW _ _ hc7
  have ht8 := zW _ _ ht7
  generalize upd G7 W (.lst [.ref q1, .ref q3, .ref q6, .non, .str "", .int 0, .bl true, .ref q9, .ref q10]) = G8 at eW eq1 eq3 eq6 eq7 eq9 eq10 el8 hc8 ht8 ⊢
  have all : ∀ x ∈ ([.ref q1, .ref q3, .ref q6, .non, .str "", .int 0, .bl true, .ref q9, .ref q10] : List V), Nb G8 (abc n).length x := fun x hx => by
    rw [an]
    simp only [List.mem_cons, List.not_mem_nil, or_false] at hx
    rcases hx with rfl | rfl | rfl | rfl | rfl | rfl | rfl | rfl | rfl
    · exact .inr ⟨_, kd_lst eq1, by decide⟩
    · exact .inl ⟨q3, _, rfl, eq3, by rw [List.length_map]; exact hcl, kd_ints cs, book_len (by rw [List.length_map]; exact hcs)⟩
    · refine .inl ⟨q6, _, rfl, eq6, by rw [List.length_append, List.length_map]; show bk.length + 1 ≤ 1000; omega, fun y hy => ?_, book_len (by rw [List.length_append, List.length_map]; show bk.length + 1 ≠ n; omega)⟩
      rcases List.mem_append.mp hy with h | h
      · exact kd_ints bk y h
      · rw [List.mem_singleton.mp h]
        exact ⟨_, rfl⟩
    · exact .inr ⟨_, rfl, by decide⟩
    · exact .inr ⟨_, rfl, by decide⟩
    · exact .inr ⟨_, rfl, by decide⟩
    · exact .inr ⟨_, rfl, by decide⟩
    · refine .inl ⟨q9, _, rfl, eq9, by show 1 ≤ 1000; decide, fun y hy => ?_, book_no (List.mem_singleton.mpr rfl) rfl⟩
      rw [List.mem_singleton.mp hy]
      exact ⟨_, kd_tup eq7⟩
    · exact .inr ⟨_, kd_dK eq10, by decide⟩
  refine ⟨_, rfl, W, rfl, ⟨_, SqL.of eW⟩, for_list (K := K) (a := W) (xs := [.ref q1, .ref q3, .ref q6, .non, .str "", .int 0, .bl true, .ref q9, .ref q10]) (fun i σ H' => ∃ y11, σ = [some (.ref a), some (.ref b), some (.int n), some (.ref c), some (.ref l), y5, y6, some od, some (.int v5), some (.ref sp), some (.ref W), y11] ∧ Same G8 H')
      ⟨none, rfl, Same.refl _⟩ (fun i σ H' _ ⟨_, _, e⟩ => SqL.of (e _ _ eW)) ?_ ?_⟩
  · rintro i x σ H' hx ⟨y11, rfl, sm⟩
    have nb := (all x (List.mem_of_getElem? hx)).same sm
    refine ⟨_, rfl, c, dx, _, rfl, sm _ _ hc8, rfl, _, rfl, ?_⟩
    refine ⟨c, abc n, _, rfl, ⟨dx, tn, sm _ _ hc8, sm _ _ ht8⟩, h8, ?_⟩
    rcases nb with ⟨t, xs, rfl, h1, h2, h3, h4⟩ | ⟨t, h1, h2⟩
    · refine .inl ⟨t, xs, rfl, h1, h2, h3, fun G s2 => ?_⟩
      rw [h4]
      exact ⟨_, _, rfl, rfl, _, rfl, iteF' rfl ⟨_, rfl, sm.trans s2⟩⟩
    · exact .inr ⟨t, h1, h2, _, _, rfl, rfl, _, rfl, iteF' rfl ⟨_, rfl, sm⟩⟩
  · rintro σ H' ⟨y11, rfl, sm⟩
    have el9 := sm _ _ el8
    refine ⟨_, rfl, c, dx, _, rfl, sm _ _ hc8, rfl, _, rfl, l, _, rfl, .inl ⟨SqL.of el9, fun p9 np9 => ?_⟩⟩
    have s9 := same_upd (o := .tup (bk.map V.int)) np9
    refine ⟨c, abc n, _, rfl, ⟨dx, tn, s9 _ _ (sm _ _ hc8), s9 _ _ (sm _ _ ht8)⟩, h8, .inl ⟨p9, _, rfl, upd_same, by rw [List.length_map]; omega, kd_ints bk, fun G s14 => ?_⟩⟩
    rw [book_yes (by omega) hb]
    exact ⟨_, _, rfl, rfl, q _⟩
end
end VL

namespace VL
open PySem PySem.Spec PyProof.Rows L2
open C8 (Cal pe_c Met pe_mt)
theorem all_mk {l : PySem.W.OpenLaw} {w : World} {K : PySem.W.Frag} {h : Heap} {mg : Str → Option Value} {fa C p f1 f2 f3 f4 f5 f6 fI fB fN : Addr} {uM uLETTERS uLONGEST_NAME uBOUND : Value} {rest : List Value} (X : K.In h) (G : h.Ns mainGlobals mg) (hfa : mg "law" = some (.ref fa))
    {od1 an1 od2 an2 od3 an3 od4 an4 od5 an5 od6 an6 odI anI odB anB odN anN : Option Addr} {sl1 sl2 sl3 sl4 sl5 sl6 slI slB slN : Array (Option Value)} {oc1 kV1 dc1 pm1 cd1 ct1 oc2 kV2 dc2 pm2 cd2 ct2 oc3 kV3 dc3 pm3 cd3 ct3 oc4 kV4 dc4 pm4 cd4 ct4 oc5 kV5 dc5 pm5 cd5 ct5 oc6 kV6 dc6 pm6 cd6 ct6 ocI kVI dcI pmI cdI ctI ocB kVB dcB pmB cdB ctB ocN kVN dcN pmN cdN ctN : Value}
    (a1 : PySem.W.nsIn K mainGlobals "is_name" = some (some (.ref f1))) (l1 : K.lookup f1 = some ⟨oc1, od1, .func (PySem.W.fnOf "is_name" "is_name" (defArgs sisname) (defBody sisname) (defScope sisname) .none kV1 dc1 pm1 an1 cd1 ct1), sl1⟩) (c1 : PySem.W.codeIn K cd1 "is_name" = true) (k1 : PySem.W.keepIn K (.ref f1) = true)
    (a2 : PySem.W.nsIn K mainGlobals "is_integer" = some (some (.ref f2))) (l2 : K.lookup f2 = some ⟨oc2, od2, .func (PySem.W.fnOf "is_integer" "is_integer" (defArgs sisinteger) (defBody sisinteger) (defScope sisinteger) .none kV2 dc2 pm2 an2 cd2 ct2), sl2⟩) (c2 : PySem.W.codeIn K cd2 "is_integer" = true) (k2 : PySem.W.keepIn K (.ref f2) = true)
    (a3 : PySem.W.nsIn K mainGlobals "_are_different_names" = some (some (.ref f3))) (l3 : K.lookup f3 = some ⟨oc3, od3, .func (PySem.W.fnOf "_are_different_names" "_are_different_names" (defArgs saredifferentnames) (defBody saredifferentnames) (defScope saredifferentnames) .none kV3 dc3 pm3 an3 cd3 ct3), sl3⟩) (c3 : PySem.W.codeIn K cd3 "_are_different_names" = true) (k3 : PySem.W.keepIn K (.ref f3) = true)
    (a4 : PySem.W.nsIn K mainGlobals "_law_box" = some (some (.ref f4))) (l4 : K.lookup f4 = some ⟨oc4, od4, .func (PySem.W.fnOf "_law_box" "_law_box" (defArgs sLbox) (defBody sLbox) (defScope sLbox) .none kV4 dc4 pm4 an4 cd4 ct4), sl4⟩) (c4 : PySem.W.codeIn K cd4 "_law_box" = true) (k4 : PySem.W.keepIn K (.ref f4) = true)
    (a5 : PySem.W.nsIn K mainGlobals "_law_take" = some (some (.ref f5))) (l5 : K.lookup f5 = some ⟨oc5, od5, .func (PySem.W.fnOf "_law_take" "_law_take" (defArgs sLtake) (defBody sLtake) (defScope sLtake) .none kV5 dc5 pm5 an5 cd5 ct5), sl5⟩) (c5 : PySem.W.codeIn K cd5 "_law_take" = true) (k5 : PySem.W.keepIn K (.ref f5) = true)
    (a6 : PySem.W.nsIn K mainGlobals "law" = some (some (.ref f6))) (l6 : K.lookup f6 = some ⟨oc6, od6, .func (PySem.W.fnOf "law" "law" (defArgs slaw) (defBody slaw) (defScope slaw) .none kV6 dc6 pm6 an6 cd6 ct6), sl6⟩) (c6 : PySem.W.codeIn K cd6 "law" = true) (k6 : PySem.W.keepIn K (.ref f6) = true)
    (aC : PySem.W.nsIn K mainGlobals "Catalog" = some (some (.ref C)))
    (aI : PySem.W.findIn K (.ref C) "__init__" = some (some (.ref fI))) (iI : PySem.W.isFn K (.ref fI) = true) (lI : K.lookup fI = some ⟨ocI, odI, .func (PySem.W.fnOf "__init__" "Catalog.__init__" (defArgs sCataloginit) (defBody sCataloginit) (defScope sCataloginit) .none kVI dcI pmI anI cdI ctI), slI⟩) (cI : PySem.W.codeIn K cdI "Catalog.__init__" = true) (kI : PySem.W.keepIn K (.ref fI) = true)
    (aB : PySem.W.findIn K (.ref C) "is_book" = some (some (.ref fB))) (iB : PySem.W.isFn K (.ref fB) = true) (lB : K.lookup fB = some ⟨ocB, odB, .func (PySem.W.fnOf "is_book" "Catalog.is_book" (defArgs sCatalogisbook) (defBody sCatalogisbook) (defScope sCatalogisbook) .none kVB dcB pmB anB cdB ctB), slB⟩) (cB : PySem.W.codeIn K cdB "Catalog.is_book" = true) (kB : PySem.W.keepIn K (.ref fB) = true)
    (cmA : PySem.W.findCls K (.ref C) (.type "type") "numbered" = some (.get (.builtin "classmethod.__get__") (.ref p) .none (.ref C))) (cmR : PySem.W.recIn K p "classmethod" = some (.ref fN :: rest)) (cmF : PySem.W.fnIn K fN = true)
    (lN : K.lookup fN = some ⟨ocN, odN, .func (PySem.W.fnOf "numbered" "Catalog.numbered" (defArgs sCatalognumbered) (defBody sCatalognumbered) (defScope sCatalognumbered) .none kVN dcN pmN anN cdN ctN), slN⟩) (cN : PySem.W.codeIn K cdN "Catalog.numbered" = true) (kN : PySem.W.keepIn K (.ref fN) = true)
    (pg : PySem.W.plainGet K C Str.empty = true)
    (hd : PySem.W.hasDictIn K C = true)
    (po : PySem.W.plainOver K C = true)
    (sa : PySem.W.findIn K (.ref C) "__setattr__" = some (some (.builtin "object.__setattr__")))
    (mk : PySem.W.makesIn K C = true)
    (kC : PySem.W.keepIn K (.ref C) = true)
    (nN : PySem.W.findIn K (.ref C) "names" = some none)
    (mM : PySem.W.findIn K (.ref C) "MOST" = some (some uM))
    (rM : RelV (.int 8) uM)
    (gM : PySem.W.specialIn K uM "__get__" = some none)
    (vM : PySem.W.findCls K (.ref C) (.type "type") "MOST" = some (.val uM))
    (rd : PySem.W.readsIn K C (.type "type") = true)
    (ga : PySem.W.specialIn K (.ref C) "__getattribute__" = some (some (.builtin "type.__getattribute__")))
    (mLETTERS : PySem.W.nsIn K mainGlobals "LETTERS" = some (some uLETTERS)) (rLETTERS : RelV (.str "abcdefghijklmnopqrstuvwxyz") uLETTERS)
    (mLONGEST_NAME : PySem.W.nsIn K mainGlobals "LONGEST_NAME" = some (some uLONGEST_NAME)) (rLONGEST_NAME : RelV (.int 12) uLONGEST_NAME)
    (mBOUND : PySem.W.nsIn K mainGlobals "BOUND" = some (some uBOUND)) (rBOUND : RelV (.int 1000000000000) uBOUND)
    (zlen : PySem.W.nsIn K mainGlobals "len" = some none) (zlist : PySem.W.nsIn K mainGlobals "list" = some none) (zint : PySem.W.nsIn K mainGlobals "int" = some none) (zisinstance : PySem.W.nsIn K mainGlobals "isinstance" = some none) (zbool : PySem.W.nsIn K mainGlobals "bool" = some none) (zstr : PySem.W.nsIn K mainGlobals "str" = some none) (ztuple : PySem.W.nsIn K mainGlobals "tuple" = some none) (zrange : PySem.W.nsIn K mainGlobals "range" = some none) (zall : PySem.W.nsIn K mainGlobals "all" = some none) (zset : PySem.W.nsIn K mainGlobals "set" = some none) :
    ∃ fd : FuncData, (∀ (s : Shared) (v : Value), BindsTo s fd ⟨[v], []⟩ [("_law_script", v)]) ∧ ∀ base : Heap, K.In base → base.Ns mainGlobals mg → FnOk l.prog w K mg base CX0 6 fa fd ["_law_script"] (spLaw K) := by
  have e := hfa.symm.trans (PySem.W.mg_of X G a6)
  cases e
  let u : Cs := ⟨uLETTERS, uLONGEST_NAME, uBOUND, C⟩
  have T : Tx mg u := ⟨PySem.W.mg_none_of X G zlen, PySem.W.mg_none_of X G zlist, PySem.W.mg_none_of X G zint, PySem.W.mg_none_of X G zisinstance, PySem.W.mg_none_of X G zbool, PySem.W.mg_none_of X G zstr, PySem.W.mg_none_of X G ztuple, PySem.W.mg_none_of X G zrange, PySem.W.mg_none_of X G zall, PySem.W.mg_none_of X G zset, PySem.W.mg_of X G mLETTERS, rLETTERS, PySem.W.mg_of X G mLONGEST_NAME, rLONGEST_NAME, PySem.W.mg_of X G mBOUND, rBOUND, PySem.W.mg_of X G aC, rfl⟩
  have F1 := fun_mk (st := sisname) l1 c1 k1
  have b1 := F1.binds (ps := ["value"]) fun _ _ _ _ _ _ us hl => match us, hl with | [_], _ => rfl
  have m1 := PySem.W.mg_of X G a1
  have F2 := fun_mk (st := sisinteger) l2 c2 k2
  have b2 := F2.binds (ps := ["value", "least", "most"]) fun _ _ _ _ _ _ us hl => match us, hl with | [_, _, _], _ => rfl
  have m2 := PySem.W.mg_of X G a2
  have F3 := fun_mk (st := saredifferentnames) l3 c3 k3
  have b3 := F3.binds (ps := ["values"]) fun _ _ _ _ _ _ us hl => match us, hl with | [_], _ => rfl
  have m3 := PySem.W.mg_of X G a3
  have F4 := fun_mk (st := sLbox) l4 c4 k4
  have b4 := F4.binds (ps := ["_law_script"]) fun _ _ _ _ _ _ us hl => match us, hl with | [_], _ => rfl
  have m4 := PySem.W.mg_of X G a4
  have F5 := fun_mk (st := sLtake) l5 c5 k5
  have b5 := F5.binds (ps := ["_law_box_here", "_law_size"]) fun _ _ _ _ _ _ us hl => match us, hl with | [_, _], _ => rfl
  have m5 := PySem.W.mg_of X G a5
  have F6 := fun_mk (st := slaw) l6 c6 k6
  have FI := fun_mk (st := sCataloginit) lI cI kI
  have FB := fun_mk (st := sCatalogisbook) lB cB kB
  have bB := FB.binds (ps := ["self", "value"]) fun _ _ _ _ _ _ us hl => match us, hl with | [_, _], _ => rfl
  have FN := fun_mk (st := sCatalognumbered) lN cN kN
  have bN := FN.binds (ps := ["cls", "count"]) fun _ _ _ _ _ _ us hl => match us, hl with | [_, _], _ => rfl
  have CF : CatF K u.C fI fB fN p uM (.type "type") := ⟨⟨pg, hd, po, sa⟩, nN, ⟨mM, rM, gM, by decide⟩, ⟨rd, ga⟩, ⟨vM, rM⟩, ⟨cmA, ⟨rest, cmR⟩, cmF⟩, ⟨mk, aI, iI, kC⟩, ⟨aB, iB, kB⟩⟩
  exact ⟨PySem.W.fnOf "law" "law" (defArgs slaw) (defBody slaw) (defScope slaw) .none kV6 dc6 pm6 an6 cd6 ct6, fun s v => .of_eq rfl, fun base _ _ => by
    have cN := cal_of (P := l.prog) (w := w) (base := base) F1 (ok_name F1 T) m1 b1
    have cI := cal_of (P := l.prog) (w := w) (base := base) F2 (ok_int F2 T) m2 b2
    have GI := fn_init (P := l.prog) (w := w) (base := base) FI T CF (cal_of F3 (ok_diff F3 T cN) m3 b3) (StX.bind_star1 (B := fun z => bindArgs (PySem.W.fnOf "__init__" "Catalog.__init__" (defArgs sCataloginit) (defBody sCataloginit) (defScope sCataloginit) .none kVI dcI pmI anI cdI ctI) ⟨z, []⟩) (p1 := "self") (pv := "names") (fun _ => rfl) (fun _ _ _ => rfl))
    have GN := (ok_numbered (P := l.prog) (w := w) (base := base) FN T CF cI GI).raw bN .nil
    exact ok_law F6 T CF (cal_of F4 (ok_box F4 T) m4 b4) (cal_of F5 (ok_take F5 T) m5 b5) GN ⟨fB, _, _, [], CF.cl, CF.mB, ok_book FB T CF cI, bB, .nil⟩⟩
end VL
open PySem PySem.W PyProof.Rows
set_option maxHeartbeats 0 in
theorem PySem.Challenge.cw_shelfterms_k04_is_book_holds : PySem.Challenge.rw_shelfterms_k04_is_book.Holds := by
  w_on; o_law; k_head; (case hw => w_witness2)
  k_fill
  refine L2.walk_of (l := PySem.Challenge.rw_shelfterms_k04_is_book) (n := 63) (k := 6) (x := "_law_script") (CX := fun _ => L2.CX0) (sp := fun w => VL.spLaw _) rfl (by decide) rfl ⟨rfl, by decide, by decide⟩ (fun w h Y => PySem.W.kIn_of Y) ?F (fun _ _ a ns hl _ hS => ⟨a, ns, rfl, hS, hl, fun _ => rfl⟩) (fun _ _ _ _ _ h => h)
  case F =>
    intro w mg fa h KX G hmg
    refine' VL.all_mk KX G hmg ?a1 ?l1 ?c1 ?k1 ?a2 ?l2 ?c2 ?k2 ?a3 ?l3 ?c3 ?k3 ?a4 ?l4 ?c4 ?k4 ?a5 ?l5 ?c5 ?k5 ?a6 ?l6 ?c6 ?k6 ?aC ?aI ?iI ?lI ?cI ?kI ?aB ?iB ?lB ?cB ?kB ?cmA ?cmR ?cmF ?lN ?cN ?kN ?pg ?hd ?po ?sa ?mk ?kC ?nN ?mM ?rM ?gM ?vM ?rd ?ga ?mLETTERS ?rLETTERS ?mLONGEST_NAME ?rLONGEST_NAME ?mBOUND ?rBOUND ?zlen ?zlist ?zint ?zisinstance ?zbool ?zstr ?ztuple ?zrange ?zall ?zset
    (case a1 => k_is); (case l1 => k_is); (case c1 => k_is); (case k1 => k_is); (case a2 => k_is); (case l2 => k_is); (case c2 => k_is); (case k2 => k_is); (case a3 => k_is); (case l3 => k_is); (case c3 => k_is); (case k3 => k_is); (case a4 => k_is); (case l4 => k_is); (case c4 => k_is); (case k4 => k_is); (case a5 => k_is); (case l5 => k_is); (case c5 => k_is); (case k5 => k_is); (case a6 => k_is); (case l6 => k_is); (case c6 => k_is); (case k6 => k_is); (case aC => k_is); (case aI => k_is); (case iI => k_is); (case lI => k_is); (case cI => k_is); (case kI => k_is); (case aB => k_is); (case iB => k_is); (case lB => k_is); (case cB => k_is); (case kB => k_is); (case cmA => k_is); (case cmR => k_is); (case cmF => k_is); (case lN => k_is); (case cN => k_is); (case kN => k_is); (case pg => k_is); (case hd => k_is); (case po => k_is); (case sa => k_is); (case mk => k_is); (case kC => k_is); (case nN => k_is); (case mM => k_is); (case rM => exact ⟨_, rfl⟩); (case gM => k_is); (case vM => k_is); (case rd => k_is); (case ga => k_is); (case mLETTERS => k_is); (case rLETTERS => exact ⟨_, rfl⟩); (case mLONGEST_NAME => k_is); (case rLONGEST_NAME => exact ⟨_, rfl⟩); (case mBOUND => k_is); (case rBOUND => exact ⟨_, rfl⟩); (case zlen => k_is); (case zlist => k_is); (case zint => k_is); (case zisinstance => k_is); (case zbool => k_is); (case zstr => k_is); (case ztuple => k_is); (case zrange => k_is); (case zall => k_is); (case zset => k_is)

