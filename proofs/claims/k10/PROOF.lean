import PyProof.Rows.All
import Wide.All
import OpenK.AllK
import Wide.FinOn
import HandS.ForMost
import HandS.IsInst
import HandS.Deep
import HandS.TupAny
import HandS.Conv
import PyProof.TupleOps
import HandS.Style
import HandS.ForExc
import HandS.Rev
import HandS.Strs
import HandS.Text
import HandS.StrMore
import HandS.RaiseMore
import PySem.Challenge.RW_wardhouse_k10_told_and_read
set_option Elab.async false
set_option linter.all false
set_option maxRecDepth 100000
set_option maxHeartbeats 4000000
/-! Pure defs over data: a def's body read as a function over PyData (lists, tuples, dicts by value; lists that a def itself fills are its own). -/
namespace Pd
open PySem PySem.Spec PyProof.Rows L2
abbrev D := PyData
def keyD : Key → D
  | .inl i => .int i
  | .inr x => .str x
theorem keyD_inj : ∀ {a b : Key}, keyD a = keyD b → a = b
  | .inl _, .inl _, h => by injection h with h; rw [h]
  | .inr _, .inr _, h => by injection h with h; rw [h]
  | .inl _, .inr _, h => by cases h
  | .inr _, .inl _, h => by cases h
/-! ### tuples whose object is known to have no dict of its own -/
def NoD (K : PySem.W.Frag) (H : Hp) (a : Addr) : Prop := (∃ o u, H a = some (.frz o u) ∧ o.dict = none) ∨ ∃ o, K.lookup a = some o ∧ o.cls = .type "tuple" ∧ o.dict = none
def SqN (K : PySem.W.Frag) (H : Hp) (a : Addr) (xs : List V) : Prop := SqT K H a xs ∧ NoD K H a
def QTup (H : Hp) (xs : List V) (Q : VK) : Prop := ∀ (p : Addr) (o : Obj), H p = none → o.dict = none → Q (.ref p) (upd H p (.frz o (.tup xs)))
section
variable {X : Cx}
def tTupN (t : TA) : TE := fun σ H Q => t σ H fun xs H1 => xs.length ≤ sizeLine ∧ QTup H1 xs Q
theorem new_tup {pins : List (Addr × Obj)} {s : Shared} {σ : L2.St} {H : Hp} {xs : List V} {us : List Value} {Q : VK} (I : Inv X pins σ H s) (r : Vals xs us) (z : xs.length ≤ sizeLine) (q : QTup H xs Q) :
    EP X pins σ Q (.ref s.heap.objs.size) { s with heap := s.heap.push { cls := .type "tuple", data := .seq us.toArray } } := by
  have hf : H s.heap.objs.size = none := I.hok.fresh (Nat.le_refl _)
  refine ⟨.ref s.heap.objs.size, upd H s.heap.objs.size (.frz { cls := .type "tuple", data := .seq us.toArray } (.tup xs)), I.laid (t' := s.toks) (fun b u e => Heap.get?_push_of_some _ e) (Nat.le_refl _) ?_, rfl, q _ _ hf rfl⟩
  exact ⟨Heap.get?_push_size _ rfl, z, us, r, IsTup.new _ _⟩
theorem pe_tupN {es : List Expr} {t : TA} {x1 : Nat} {pos : Pos} (h : PA X es t) : PE X (.Tuple es x1 pos) (tTupN t) := by
  refine ⟨fun pins s σ H Q I hq => ?_⟩
  refine wpAny_Tuple_spliced (thn (h.run pos pins s σ H _ I hq) fun us s1 ⟨xs, H1, I1, r, z, q⟩ => ⟨by rw [← r.length]; exact z, ?_⟩)
  exact new_tup I1 r z q
def rCatN (K : PySem.W.Frag) : R2 := fun x y H Q => ∃ a b xs ys, x = .ref a ∧ y = .ref b ∧ SqT K H a xs ∧ SqT K H b ys ∧ xs.length + ys.length ≤ sizeLine ∧
  (xs = [] → Q (.ref b) H) ∧ (xs ≠ [] → ys = [] → Q (.ref a) H) ∧ (xs ≠ [] → ys ≠ [] → QTup H (xs ++ ys) Q)
theorem op_catN : OpR X (binaryOp .Add) (rCatN X.K) := by
  intro pins s σ H x y v u Q I rx ry h
  obtain ⟨a, b, xs, ys, rfl, rfl, ha, hb, hz, q0, q1, q2⟩ := h
  cases rx
  cases ry
  obtain ⟨its, r1, p1, _⟩ := I.tuple ha
  obtain ⟨its2, r2, p2, _⟩ := I.tuple hb
  by_cases hx : xs = []
  · subst hx
    cases r1
    exact cat_tup0 p1 p2 ⟨.ref b, H, I, rfl, q0 rfl⟩
  · refine HT.cat_tup p1 p2 (fun z => hx (r1.nil_iff.mp z)) (fun z => ⟨.ref a, H, I, rfl, q1 hx (r2.nil_iff.mp z)⟩) (fun z => ?_) (by rw [← r1.length, ← r2.length]; exact hz)
    exact new_tup I (r1.append r2) (by rw [List.length_append]; exact hz) (q2 hx fun w => z (r2.nil_iff.mpr w))
def rSlN (K : PySem.W.Frag) : V → Option Int → Option Int → Hp → VK → Prop := fun x lo hi H Q => ∃ a xs, x = .ref a ∧ SqT K H a xs ∧
  (HT.sIx xs.length 0 lo = 0 ∧ HT.sIx xs.length xs.length hi = xs.length → Q (.ref a) H) ∧ (¬ (HT.sIx xs.length 0 lo = 0 ∧ HT.sIx xs.length xs.length hi = xs.length) → QTup H (cutV xs lo hi) Q)
theorem sl_tupN : SlR X (rSlN X.K) := by
  intro pins s σ H x v vl vu lo hi sl Q I rx hs pl pu h
  obtain ⟨a, xs, rfl, hx, q1, q2⟩ := h
  cases rx
  obtain ⟨its, r, ht, hz⟩ := I.tuple hx
  have hlen : its.toArray.size = xs.length := by rw [List.size_toArray]; exact r.length.symm
  refine ⟨"tuple", _, PyProof.Rows.slot_tuple_getitem.lookup, ht.typeIs, ?_⟩
  by_cases hw : HT.sIx xs.length 0 lo = 0 ∧ HT.sIx xs.length xs.length hi = xs.length
  · exact getItem_tuple_whole ht hs pl pu (by rw [hlen]; exact hw) ⟨.ref a, H, I, rfl, q1 hw⟩
  · refine HT.getItem_tuple_cut ht hs pl pu (by rw [hlen]; exact hw) ?_ (by rw [hlen]; exact hz)
    rw [hlen]
    exact new_tup I ((r.drop (HT.sIx xs.length 0 lo)).take (HT.sIx xs.length xs.length hi - HT.sIx xs.length 0 lo)) (Nat.le_trans (cutV_length xs lo hi) hz) (q2 hw)
theorem call_tupleN : CallR X (.type "tuple") (fun xs H Q => ∃ p ys, xs = [.ref p] ∧ ((SqL X.K H p ys ∧ QTup H ys Q) ∨ (SqT X.K H p ys ∧ Q (.ref p) H))) := by
  intro pins s σ H xs us Q I r h
  obtain ⟨p, ys, rfl, h⟩ := h
  obtain ⟨u, rfl, rx⟩ := vals1 r
  cases rx
  rcases h with ⟨hq, q⟩ | ⟨hq, q⟩
  · obtain ⟨its, r', pl, hz⟩ := I.list hq
    have hlen := r'.length
    refine call_tuple_list pl.isList (fun h' kp => ?_) (by simp only [List.size_toArray] <;> omega)
    have I1 : Inv X pins σ H { s with heap := h' } := I.kept (t' := s.toks) kp
    exact new_tup I1 r' hz q
  · obtain ⟨its, r', pl, hz⟩ := I.tuple hq
    exact call_tuple_same pl ⟨.ref p, H, I, rfl, q⟩
end
/-! ### data in a heap -/
mutual
inductive Rv (K : PySem.W.Frag) (H : Hp) : D → V → Prop
  | non : Rv K H .none .non
  | bl (b : Bool) : Rv K H (.bool b) (.bl b)
  | int (i : Int) : Rv K H (.int i) (.int i)
  | str (x : Str) : Rv K H (.str x) (.str x)
  | lst {a : Addr} {xs : List V} {ds : List D} : SqL K H a xs → RvL K H ds xs → Rv K H (.list ds) (.ref a)
  | tup {a : Addr} {xs : List V} {ds : List D} : SqN K H a xs → RvL K H ds xs → Rv K H (.tuple ds) (.ref a)
  | dic {a : Addr} {xs : List (Key × V)} {ds : List (D × D)} : H a = some (.dK xs) → RvK K H ds xs → Rv K H (.dict ds) (.ref a)
inductive RvL (K : PySem.W.Frag) (H : Hp) : List D → List V → Prop
  | nil : RvL K H [] []
  | cons {v : V} {vs : List V} {d : D} {ds : List D} : Rv K H d v → RvL K H ds vs → RvL K H (d :: ds) (v :: vs)
inductive RvK (K : PySem.W.Frag) (H : Hp) : List (D × D) → List (Key × V) → Prop
  | nil : RvK K H [] []
  | cons {k : Key} {v : V} {vs : List (Key × V)} {d : D} {ds : List (D × D)} : Rv K H d v → RvK K H ds vs → RvK K H ((keyD k, d) :: ds) ((k, v) :: vs)
end
theorem sqt_mono {K : PySem.W.Frag} {H H' : Hp} {a : Addr} {xs : List V} (e : Same H H') (h : SqN K H a xs) : SqT K H' a xs := by
  rcases h.1 with (h | ⟨o, h⟩) | h
  · exact .inl (.inl (e _ _ h))
  · exact .inl (.inr ⟨o, e _ _ h⟩)
  · exact .inr h
theorem sqn_mono {K : PySem.W.Frag} {H H' : Hp} {a : Addr} {xs : List V} (e : Same H H') (h : SqN K H a xs) : SqN K H' a xs :=
  ⟨sqt_mono e h, h.2.elim (fun ⟨o, u, h1, h2⟩ => .inl ⟨o, u, e _ _ h1, h2⟩) .inr⟩
section
variable {K : PySem.W.Frag} {H H' : Hp}
mutual
theorem Rv.mono (s : Same H H') : ∀ (d : D) {v : V}, Rv K H d v → Rv K H' d v
  | .none, _, h => by cases h; exact .non
  | .bool b, _, h => by cases h; exact .bl b
  | .int i, _, h => by cases h; exact .int i
  | .str x, _, h => by cases h; exact .str x
  | .list ds, _, h => by cases h with | lst a b => exact .lst (s.seq a) (RvL.mono s ds b)
  | .tuple ds, _, h => by cases h with | tup a b => exact .tup (sqn_mono s a) (RvL.mono s ds b)
  | .dict ds, _, h => by cases h with | dic a b => exact .dic (s _ _ a) (RvK.mono s ds b)
theorem RvL.mono (s : Same H H') : ∀ (ds : List D) {vs : List V}, RvL K H ds vs → RvL K H' ds vs
  | [], _, h => by cases h; exact .nil
  | d :: ds, _, h => by cases h with | cons a b => exact .cons (Rv.mono s d a) (RvL.mono s ds b)
theorem RvK.mono (s : Same H H') : ∀ (ds : List (D × D)) {vs : List (Key × V)}, RvK K H ds vs → RvK K H' ds vs
  | [], _, h => by cases h; exact .nil
  | (_, d) :: ds, _, h => by cases h with | cons a b => exact .cons (Rv.mono s d a) (RvK.mono s ds b)
end
theorem RvL.length : ∀ {ds : List D} {vs : List V}, RvL K H ds vs → vs.length = ds.length
  | [], _, h => by cases h; rfl
  | d :: ds, _, h => by cases h with | cons a b => rw [List.length_cons, List.length_cons, RvL.length b]
theorem RvL.get : ∀ {ds : List D} {vs : List V} {i : Nat} {d : D}, RvL K H ds vs → ds[i]? = some d → ∃ v, vs[i]? = some v ∧ Rv K H d v
  | [], _, _, _, _, e => by simp at e
  | d :: ds, _, 0, _, h, e => by cases h with | cons a b => simp at e; subst e; exact ⟨_, rfl, a⟩
  | d :: ds, _, i + 1, _, h, e => by
    cases h with
    | cons a b => obtain ⟨v, h1, h2⟩ := RvL.get (i := i) b (by simpa using e); exact ⟨v, by simpa using h1, h2⟩
theorem RvL.got : ∀ {ds : List D} {vs : List V} {i : Nat} {v : V}, RvL K H ds vs → vs[i]? = some v → ∃ d, ds[i]? = some d ∧ Rv K H d v := fun {ds vs i v} h e => by
  have hl := h.length
  have hi : i < vs.length := (List.getElem?_eq_some_iff.mp e).1
  have e2 : ds[i]? = some ds[i] := List.getElem?_eq_getElem (by omega)
  obtain ⟨v', h1, h2⟩ := h.get e2
  rw [e] at h1
  cases h1
  exact ⟨_, e2, h2⟩
theorem RvL.append : ∀ {ds es : List D} {vs ws : List V}, RvL K H ds vs → RvL K H es ws → RvL K H (ds ++ es) (vs ++ ws)
  | [], _, _, _, h, g => by cases h; exact g
  | d :: ds, _, _, _, h, g => by cases h with | cons a b => exact .cons a (RvL.append b g)
theorem RvL.take : ∀ {ds : List D} {vs : List V} (n : Nat), RvL K H ds vs → RvL K H (ds.take n) (vs.take n)
  | _, _, 0, _ => .nil
  | [], _, _ + 1, h => by cases h; exact .nil
  | d :: ds, _, n + 1, h => by cases h with | cons a b => exact .cons a (RvL.take n b)
theorem RvL.drop : ∀ {ds : List D} {vs : List V} (n : Nat), RvL K H ds vs → RvL K H (ds.drop n) (vs.drop n)
  | _, _, 0, h => h
  | [], _, _ + 1, h => by cases h; exact .nil
  | d :: ds, _, n + 1, h => by cases h with | cons a b => exact RvL.drop n b
theorem RvL.reverse : ∀ {ds : List D} {vs : List V}, RvL K H ds vs → RvL K H ds.reverse vs.reverse
  | [], _, h => by cases h; exact .nil
  | d :: ds, _, h => by
    cases h with
    | cons a b => rw [List.reverse_cons, List.reverse_cons]; exact (RvL.reverse b).append (.cons a .nil)
theorem RvL.ints : ∀ (ns : List Int), RvL K H (ns.map PyData.int) (ns.map V.int)
  | [] => .nil
  | n :: r => .cons (.int n) (RvL.ints r)
/-- data without dicts -/
theorem dp_none {d : D} {v : V} (h : Rv K H d v) : d = .none → v = .non := by intro e; subst e; cases h; rfl
mutual
def flatD : D → Bool
  | .none => true
  | .bool _ => true
  | .int _ => true
  | .str _ => true
  | .list ds => flatDs ds
  | .tuple ds => flatDs ds
  | .dict _ => false
def flatDs : List D → Bool
  | [] => true
  | d :: ds => flatD d && flatDs ds
end
mutual
theorem Rv.dp : ∀ (d : D) {v : V}, flatD d = true → Rv K H d v → Dp K H v d
  | .none, _, _, h => by cases h; exact .non
  | .bool b, _, _, h => by cases h; exact .bl b
  | .int i, _, _, h => by cases h; exact .int i
  | .str x, _, _, h => by cases h; exact .str x
  | .list ds, _, f, h => by cases h with | lst a b => exact .lst a (RvL.dp ds (by simpa [flatD] using f) b)
  | .tuple ds, _, f, h => by cases h with | tup a b => exact .tup a.1 (RvL.dp ds (by simpa [flatD] using f) b)
  | .dict ds, _, f, h => by simp [flatD] at f
theorem RvL.dp : ∀ (ds : List D) {vs : List V}, flatDs ds = true → RvL K H ds vs → DpAll K H vs ds
  | [], _, _, h => by cases h; exact .nil
  | d :: ds, _, f, h => by
    simp only [flatDs, Bool.and_eq_true] at f
    cases h with | cons a b => exact .cons (Rv.dp d f.1 a) (RvL.dp ds f.2 b)
end
end
/-! ### the frozen part of a heap, and the heap -/
structure Stt where
  Z : Hp
  H : Hp
  ok : Same Z H
structure Ex (S S' : Stt) : Prop where
  z : Same S.Z S'.Z
  h : Same S.H S'.H
  c : ∀ b, S.Z b = none → S.H b ≠ none → S'.Z b = none
theorem Ex.refl (S : Stt) : Ex S S := ⟨Same.refl _, Same.refl _, fun _ h _ => h⟩
theorem same_some {H H' : Hp} (s : Same H H') {b : Addr} (h : H b ≠ none) : H' b ≠ none := by
  cases e : H b with
  | none => exact absurd e h
  | some o => rw [s _ _ e]; simp
theorem Ex.trans {S T U : Stt} (a : Ex S T) (b : Ex T U) : Ex S U := ⟨a.z.trans b.z, a.h.trans b.h, fun c h1 h2 => b.c c (a.c c h1 h2) (same_some a.h h2)⟩
theorem same_upd {H : Hp} {p : Addr} (h : H p = none) (o : HO) : Same H (upd H p o) := fun b u q => by rw [upd_ne (ne_of_none q h)]; exact q
theorem same_upd2 {Z H : Hp} (s : Same Z H) {p : Addr} (o : HO) : Same (upd Z p o) (upd H p o) := fun b u q => by
  by_cases e : b = p
  · subst e; rw [upd_same] at q ⊢; exact q
  · rw [upd_ne e] at q ⊢; exact s _ _ q
/-- a new frozen object -/
def Stt.lay (S : Stt) (p : Addr) (o : HO) : Stt := ⟨upd S.Z p o, upd S.H p o, same_upd2 S.ok o⟩
theorem Stt.lay_ex {S : Stt} {p : Addr} {o : HO} (h : S.H p = none) : Ex S (S.lay p o) := ⟨same_upd (S.ok.free h) o, same_upd h o, fun b h1 h2 => by
  show upd S.Z p o b = none
  rw [upd_ne (show b ≠ p from fun e => by subst e; exact h2 h)]; exact h1⟩
theorem Stt.lay_at {S : Stt} {p : Addr} {o : HO} : (S.lay p o).Z p = some o := upd_same
/-- a new object of the def's own, not frozen -/
def Stt.put (S : Stt) (p : Addr) (o : HO) (h : S.Z p = none) : Stt := ⟨S.Z, upd S.H p o, fun b u q => by rw [upd_ne (ne_of_none q h)]; exact S.ok _ _ q⟩
/-! ### the slots -/
inductive Sl where
  | un
  | val (d : D)
  | own (ds : List D)
def RS (K : PySem.W.Frag) (E : Hp) (S : Stt) (v : Option V) : Sl → Prop
  | .un => True
  | .val d => ∃ x, v = some x ∧ Rv K S.Z d x
  | .own ds => ∃ a vs, v = some (.ref a) ∧ S.H a = some (.lst vs) ∧ S.Z a = none ∧ E a = none ∧ RvL K S.Z ds vs
structure R (K : PySem.W.Frag) (E : Hp) (S : Stt) (σ : L2.St) (δ : List Sl) : Prop where
  at_ : ∀ (i : Nat) (s : Sl), δ[i]? = some s → ∃ v, σ[i]? = some v ∧ RS K E S v s
  dis : ∀ (i j : Nat) (a : Addr) (ds es : List D), δ[i]? = some (.own ds) → δ[j]? = some (.own es) → σ[i]? = some (some (.ref a)) → σ[j]? = some (some (.ref a)) → i = j
section
variable {K : PySem.W.Frag} {E : Hp} {S S' : Stt} {σ : L2.St} {δ : List Sl}
theorem RS.mono (x : Ex S S') {v : Option V} {s : Sl} (h : RS K E S v s) : RS K E S' v s := by
  cases s with
  | un => exact trivial
  | val d => obtain ⟨y, h1, h2⟩ := h; exact ⟨y, h1, Rv.mono x.z d h2⟩
  | own ds => obtain ⟨a, vs, h1, h2, h3, h4, h5⟩ := h; exact ⟨a, vs, h1, x.h _ _ h2, x.c _ h3 (by rw [h2]; simp), h4, RvL.mono x.z ds h5⟩
theorem R.mono (x : Ex S S') (r : R K E S σ δ) : R K E S' σ δ := ⟨fun i s h => let ⟨v, h1, h2⟩ := r.at_ i s h; ⟨v, h1, h2.mono x⟩, r.dis⟩
/-- a value is stored -/
theorem R.set (r : R K E S σ δ) {i : Nat} {v : V} {s : Sl} (h : RS K E S (some v) s) (hd : ∀ (ds : List D) (j : Nat) (a : Addr) (es : List D), s = .own ds → v = .ref a → δ[j]? = some (.own es) → σ[j]? = some (some (.ref a)) → j = i) : R K E S (σ.set i (some v)) (δ.set i s) := by
  refine ⟨fun j t e => ?_, fun j k a ds es e1 e2 f1 f2 => ?_⟩
  · by_cases hj : j = i
    · subst hj
      have hl : j < δ.length := by
        have := (List.getElem?_eq_some_iff.mp e).1
        simpa using this
      rw [List.getElem?_set_self hl] at e
      cases e
      obtain ⟨w, hw, _⟩ := r.at_ j δ[j] (List.getElem?_eq_getElem hl)
      have hs : j < σ.length := (List.getElem?_eq_some_iff.mp hw).1
      exact ⟨some v, List.getElem?_set_self hs, h⟩
    · rw [List.getElem?_set_ne (Ne.symm hj)] at e ⊢
      exact r.at_ j t e
  · have lens : ∀ {m : Nat} {t : Sl}, (δ.set i s)[m]? = some t → m < δ.length := fun q => by
      have := (List.getElem?_eq_some_iff.mp q).1
      simpa using this
    have at_i : ∀ {m : Nat} {es' : List D}, m = i → (δ.set i s)[m]? = some (.own es') → (σ.set i (some v))[m]? = some (some (.ref a)) → s = .own es' ∧ v = .ref a := by
      intro m es' hm q1 q2
      subst hm
      have hl := lens q1
      rw [List.getElem?_set_self hl] at q1
      have hs : m < σ.length := by
        have := (List.getElem?_eq_some_iff.mp q2).1
        simpa using this
      rw [List.getElem?_set_self hs] at q2
      cases q1
      cases q2
      exact ⟨rfl, rfl⟩
    by_cases hj : j = i
    · obtain ⟨q1, q2⟩ := at_i hj e1 f1
      by_cases hk : k = i
      · rw [hj, hk]
      · rw [List.getElem?_set_ne (Ne.symm hk)] at e2 f2
        exact absurd (hd ds k a es q1 q2 e2 f2) hk
    · by_cases hk : k = i
      · obtain ⟨q1, q2⟩ := at_i hk e2 f2
        rw [List.getElem?_set_ne (Ne.symm hj)] at e1 f1
        exact absurd (hd es j a ds q1 q2 e1 f1) hj
      · rw [List.getElem?_set_ne (Ne.symm hj)] at e1 f1
        rw [List.getElem?_set_ne (Ne.symm hk)] at e2 f2
        exact r.dis j k a ds es e1 e2 f1 f2
theorem R.setv (r : R K E S σ δ) {i : Nat} {v : V} {d : D} (h : Rv K S.Z d v) : R K E S (σ.set i (some v)) (δ.set i (.val d)) :=
  r.set ⟨v, rfl, h⟩ fun ds j a es e => by cases e
end
/-! ### readings of expressions -/
abbrev FE := List Sl → Option D
def tD (K : PySem.W.Frag) (f : FE) : TE := fun σ H Q => ∃ (E : Hp) (S : Stt) (δ : List Sl) (d : D), S.H = H ∧ R K E S σ δ ∧ f δ = some d ∧ ∀ v S', Ex S S' → Rv K S'.Z d v → Q v S'.H
abbrev DE (X : Cx) (e : Expr) (f : FE) : Prop := PE X e (tD X.K f)
abbrev FA := List Sl → Option (List D)
def tDA (K : PySem.W.Frag) (f : FA) : TA := fun σ H Q => ∃ (E : Hp) (S : Stt) (δ : List Sl) (ds : List D), S.H = H ∧ R K E S σ δ ∧ f δ = some ds ∧ ∀ vs S', Ex S S' → RvL K S'.Z ds vs → Q vs S'.H
abbrev DA (X : Cx) (es : List Expr) (f : FA) : Prop := PA X es (tDA X.K f)
def rD2 (K : PySem.W.Frag) (f : D → D → Option D) : R2 := fun x y H Q => ∃ (S : Stt) (d1 d2 d : D), S.H = H ∧ Rv K S.Z d1 x ∧ Rv K S.Z d2 y ∧ f d1 d2 = some d ∧ ∀ v S', Ex S S' → Rv K S'.Z d v → Q v S'.H
abbrev OpD (X : Cx) (op : Value → Value → Sem Value) (f : D → D → Option D) : Prop := OpR X op (rD2 X.K f)
theorem pe_conseq {X : Cx} {e : Expr} {t t' : TE} (h : PE X e t) (q : ∀ σ H Q, t' σ H Q → t σ H Q) : PE X e t' := ⟨fun pins s σ H Q I hw => h.run pins s σ H Q I (q _ _ _ hw)⟩
theorem pa_conseq {X : Cx} {e : List Expr} {t t' : TA} (h : PA X e t) (q : ∀ σ H Q, t' σ H Q → t σ H Q) : PA X e t' := ⟨fun pos pins s σ H Q I hw => h.run pos pins s σ H Q I (q _ _ _ hw)⟩
theorem ps_conseq {X : Cx} {e : Stmt} {t t' : TS} (h : PS X e t) (q : ∀ Dn σ H, t' Dn σ H → t Dn σ H) : PS X e t' := ⟨fun pins s σ H Dn I hw => h.run pins s σ H Dn I (q _ _ _ hw)⟩
theorem pss_conseq {X : Cx} {e : List Stmt} {t t' : TS} (h : PSs X e t) (q : ∀ Dn σ H, t' Dn σ H → t Dn σ H) : PSs X e t' := ⟨fun pins s σ H Dn I hw => h.run pins s σ H Dn I (q _ _ _ hw)⟩
theorem pt_conseq {X : Cx} {e : Expr} {t t' : TT} (h : PT X e t) (q : ∀ σ H Q, t' σ H Q → t σ H Q) : PT X e t' := ⟨fun pins s σ H Q I hw => h.run pins s σ H Q I (q _ _ _ hw)⟩
theorem opr_conseq {X : Cx} {op : Value → Value → Sem Value} {r r' : R2} (h : OpR X op r) (q : ∀ x y H Q, r' x y H Q → r x y H Q) : OpR X op r' := fun pins s σ H x y v u Q I rx ry hw => h pins s σ H x y v u Q I rx ry (q _ _ _ _ hw)
section
variable {X : Cx} {a b c e : Expr} {fa fb fc f : FE} {pos : Pos}
def eC (d : D) : FE := fun _ => some d
def eVar (i : Nat) : FE := fun δ => match δ[i]? with
  | some (.val d) => some d
  | _ => none
def e1 (g : D → Option D) (fa : FE) : FE := fun δ => (fa δ).bind g
def e2 (g : D → D → Option D) (fa fb : FE) : FE := fun δ => (fa δ).bind fun x => (fb δ).bind fun y => g x y
theorem de_var (i : Nat) {x : Str} (hN : X.N[i]? = some x := by rfl) (hv : Vis X.env.scope x := by first | exact Or.inl rfl | exact Or.inr (Or.inl rfl) | exact Or.inr (Or.inr rfl)) (hd : (x == ("__debug__" : Str)) = false := by decide)
    (hcd : (x == ("__classdict__" : Str)) = false := by decide) : DE X (.Name x pos) (eVar i) := by
  refine pe_conseq (pe_var hN hv hd hcd) fun σ H Q h => ?_
  obtain ⟨E, S, δ, d, rfl, r, hf, q⟩ := h
  unfold eVar at hf
  cases es : δ[i]? with
  | none => rw [es] at hf; cases hf
  | some s =>
    rw [es] at hf
    cases s with
    | un => cases hf
    | own ds => cases hf
    | val d' =>
      cases hf
      obtain ⟨v, h1, y, rfl, h3⟩ := r.at_ i _ es
      exact ⟨y, h1, q y S (.refl S) h3⟩
theorem de_const {t : TE} {v : V} {d : D} (h : PE X e (tC v)) (hr : ∀ H, Rv X.K H d v) : DE X e (eC d) := pe_conseq h fun σ H Q h => by
  obtain ⟨E, S, δ, d', rfl, r, hf, q⟩ := h
  cases hf
  exact q v S (.refl S) (hr _)
theorem de_int {i : Int} {j : Nat} : DE X (.Constant (.int i) j pos) (eC (.int i)) := de_const (t := tC (.int i)) pe_int fun _ => .int i
theorem de_str {i : Str} {j : Nat} : DE X (.Constant (.str i) j pos) (eC (.str i)) := de_const (t := tC (.str i)) pe_str fun _ => .str i
theorem de_bl {i : Bool} {j : Nat} : DE X (.Constant (.bool i) j pos) (eC (.bool i)) := de_const (t := tC (.bl i)) pe_bl fun _ => .bl i
theorem de_non {j : Nat} : DE X (.Constant .none j pos) (eC .none) := de_const (t := tC .non) pe_non fun _ => .non
theorem de_globI {x : Str} {i : Int} (hg : Gl X x) (hm : ∃ t, X.mg x = some (.int i t)) (hd : (x == ("__debug__" : Str)) = false := by decide) : DE X (.Name x pos) (eC (.int i)) :=
  let ⟨t, hm⟩ := hm
  de_const (t := tC (.int i)) (pe_glob (v := V.int i) hg hm (show ∃ u, Value.int i t = Value.int i u from ⟨t, rfl⟩) hd) fun _ => .int i
/-- a module's tuple -/
theorem de_globT {x : Str} {p : Addr} {ds : List D} {vs : List V} (hg : Gl X x) (hm : X.mg x = some (.ref p)) (hs : ∀ H, SqN X.K H p vs) (hr : ∀ H, RvL X.K H ds vs) (hd : (x == ("__debug__" : Str)) = false := by decide) : DE X (.Name x pos) (eC (.tuple ds)) :=
  de_const (t := tC (.ref p)) (pe_glob (v := V.ref p) hg hm (show Value.ref p = Value.ref p from rfl) hd) fun H => .tup (hs H) (hr H)
theorem tD_bin {K : PySem.W.Frag} {g : D → D → Option D} {σ : L2.St} {H : Hp} {Q : VK} (h : tD K (e2 g fa fb) σ H Q) : tOp (rD2 K g) (tD K fa) (tD K fb) σ H Q := by
  obtain ⟨E, S, δ, d, rfl, r, hf, q⟩ := h
  unfold e2 at hf
  obtain ⟨x, hx, hf⟩ := Option.bind_eq_some_iff.mp hf
  obtain ⟨y, hy, hf⟩ := Option.bind_eq_some_iff.mp hf
  refine ⟨E, S, δ, x, rfl, r, hx, fun v S1 x1 r1 => ⟨E, S1, δ, y, rfl, r.mono x1, hy, fun u S2 x2 r2 => ⟨S2, x, y, d, rfl, Rv.mono x2.z x r1, r2, hf, fun w S3 x3 r3 => q w S3 ((x1.trans x2).trans x3) r3⟩⟩⟩
theorem de_bin {op : Operator} {g : D → D → Option D} (ho : OpD X (binaryOp op) g) (ha : DE X a fa) (hb : DE X b fb) : DE X (.BinOp a op b pos) (e2 g fa fb) :=
  pe_conseq (pe_op ho ha hb) fun σ H Q h => tD_bin h
theorem de_cmp {op : CmpOp} {g : D → D → Option D} (ho : OpD X (compareOp op) g) (ha : DE X a fa) (hb : DE X b fb) (hm : behindInMarks op b = false) : DE X (.Compare a [op] [b] pos) (e2 g fa fb) :=
  pe_conseq (pe_cmpR ho ha hb hm) fun σ H Q h => tD_bin h
/-- a < b < c -/
def eChain (g g' : D → D → Option D) (fa fb fc : FE) : FE := fun δ => (fa δ).bind fun x => (fb δ).bind fun y => (g x y).bind fun z => match z with
  | .bool true => (fc δ).bind fun w => g' y w
  | .bool false => some (.bool false)
  | _ => none
theorem chain_run {K : PySem.W.Frag} {g g' : D → D → Option D} {σ : L2.St} {H : Hp} {Q : VK} (h : tD K (eChain g g' fa fb fc) σ H Q) : tChain (rD2 K g) (rD2 K g') (tD K fa) (tD K fb) (tD K fc) σ H Q := by
  obtain ⟨E, S, δ, d, rfl, r, hf, q⟩ := h
  unfold eChain at hf
  obtain ⟨x, hx, hf⟩ := Option.bind_eq_some_iff.mp hf
  obtain ⟨y, hy, hf⟩ := Option.bind_eq_some_iff.mp hf
  obtain ⟨z, hz, hf⟩ := Option.bind_eq_some_iff.mp hf
  refine ⟨E, S, δ, x, rfl, r, hx, fun v S1 x1 r1 => ⟨E, S1, δ, y, rfl, r.mono x1, hy, fun u S2 x2 r2 => ⟨S2, x, y, z, rfl, Rv.mono x2.z x r1, r2, hz, fun w S3 x3 r3 => ?_⟩⟩⟩
  cases z with
  | bool k =>
    cases r3
    refine ⟨k, rfl, ?_⟩
    cases k with
    | true =>
      rw [if_pos rfl]
      obtain ⟨w2, hw2, hf⟩ := Option.bind_eq_some_iff.mp hf
      exact ⟨E, S3, δ, w2, rfl, r.mono ((x1.trans x2).trans x3), hw2, fun v4 S4 x4 r4 => ⟨S4, y, w2, d, rfl, Rv.mono (x3.z.trans x4.z) y r2, r4, hf, fun v5 S5 x5 r5 => q v5 S5 ((((x1.trans x2).trans x3).trans x4).trans x5) r5⟩⟩
    | false =>
      rw [if_neg Bool.false_ne_true]
      have hf : some (PyData.bool false) = some d := hf
      cases hf
      exact q _ S3 ((x1.trans x2).trans x3) (.bl false)
  | _ => cases hf
theorem de_chain {op op' : CmpOp} {g g' : D → D → Option D} (ho : OpD X (compareOp op) g) (ho' : OpD X (compareOp op') g') (ha : DE X a fa) (hb : DE X b fb) (hc : DE X c fc) (hm : lastMarks [op, op'] [b, c] = false := by with_unfolding_all rfl) :
    DE X (.Compare a [op, op'] [b, c] pos) (eChain g g' fa fb fc) := pe_conseq (pe_chain ho ho' ha hb hc hm) fun σ H Q h => chain_run h
def asB : D → Option Bool
  | .bool k => some k
  | _ => none
def eAnd (fa fb : FE) : FE := fun δ => (fa δ).bind fun x => match x with
  | .bool true => fb δ
  | .bool false => some (.bool false)
  | _ => none
def eOr (fa fb : FE) : FE := fun δ => (fa δ).bind fun x => match x with
  | .bool true => some (.bool true)
  | .bool false => fb δ
  | _ => none
def eNot (fa : FE) : FE := fun δ => (fa δ).bind fun x => match x with
  | .bool k => some (.bool (!k))
  | _ => none
def eIf (ft fa fb : FE) : FE := fun δ => (ft δ).bind fun x => match x with
  | .bool true => fa δ
  | .bool false => fb δ
  | _ => none
theorem de_one {op : BoolOp} (h : DE X a fa) : DE X (.BoolOp op [a] pos) fa := pe_one h
theorem de_and {rest : List Expr} (ha : DE X a fa) (hb : DE X (.BoolOp .And (b :: rest) pos) fb) : DE X (.BoolOp .And (a :: b :: rest) pos) (eAnd fa fb) := by
  refine pe_conseq (pe_and ha hb) fun σ H Q h => ?_
  obtain ⟨E, S, δ, d, rfl, r, hf, q⟩ := h
  unfold eAnd at hf
  obtain ⟨x, hx, hf⟩ := Option.bind_eq_some_iff.mp hf
  refine ⟨E, S, δ, x, rfl, r, hx, fun v S1 x1 r1 => ?_⟩
  cases x with
  | bool k =>
    cases r1
    refine ⟨k, rfl, ?_⟩
    cases k with
    | true => rw [if_pos rfl]; exact ⟨E, S1, δ, d, rfl, r.mono x1, hf, fun v S2 x2 r2 => q v S2 (x1.trans x2) r2⟩
    | false =>
      rw [if_neg Bool.false_ne_true]
      have hf : some (PyData.bool false) = some d := hf
      cases hf
      exact q _ S1 x1 (.bl false)
  | _ => cases hf
theorem de_or {rest : List Expr} (ha : DE X a fa) (hb : DE X (.BoolOp .Or (b :: rest) pos) fb) : DE X (.BoolOp .Or (a :: b :: rest) pos) (eOr fa fb) := by
  refine pe_conseq (pe_or ha hb) fun σ H Q h => ?_
  obtain ⟨E, S, δ, d, rfl, r, hf, q⟩ := h
  unfold eOr at hf
  obtain ⟨x, hx, hf⟩ := Option.bind_eq_some_iff.mp hf
  refine ⟨E, S, δ, x, rfl, r, hx, fun v S1 x1 r1 => ?_⟩
  cases x with
  | bool k =>
    cases r1
    refine ⟨k, rfl, ?_⟩
    cases k with
    | false => rw [if_neg Bool.false_ne_true]; exact ⟨E, S1, δ, d, rfl, r.mono x1, hf, fun v S2 x2 r2 => q v S2 (x1.trans x2) r2⟩
    | true =>
      rw [if_pos rfl]
      have hf : some (PyData.bool true) = some d := hf
      cases hf
      exact q _ S1 x1 (.bl true)
  | _ => cases hf
theorem de_not (ha : DE X a fa) : DE X (.UnaryOp .Not a pos) (eNot fa) := by
  refine pe_conseq (pe_not ha) fun σ H Q h => ?_
  obtain ⟨E, S, δ, d, rfl, r, hf, q⟩ := h
  unfold eNot at hf
  obtain ⟨x, hx, hf⟩ := Option.bind_eq_some_iff.mp hf
  refine ⟨E, S, δ, x, rfl, r, hx, fun v S1 x1 r1 => ?_⟩
  cases x with
  | bool k =>
    cases r1
    have hf : some (PyData.bool (!k)) = some d := hf
    cases hf
    exact ⟨k, rfl, q _ S1 x1 (.bl _)⟩
  | _ => cases hf
/-- a test that gives True or False -/
def tDT (K : PySem.W.Frag) (f : FE) : TT := fun σ H Q => ∃ (E : Hp) (S : Stt) (δ : List Sl) (k : Bool), S.H = H ∧ R K E S σ δ ∧ f δ = some (.bool k) ∧ ∀ S', Ex S S' → Q k S'.H
theorem dt_of (h : DE X e f) (he : ∀ whole, isTrue e X.env whole = (do let v ← whole; standAt e.pos; holding [v] (truthy v)) := by intro _; rfl) : PT X e (tDT X.K f) := by
  refine pt_conseq (pt_val h he) fun σ H Q q => ?_
  obtain ⟨E, S, δ, k, rfl, r, hf, q⟩ := q
  exact ⟨E, S, δ, _, rfl, r, hf, fun v S' x rv => by cases rv; exact ⟨k, rfl, q S' x⟩⟩
theorem dt_not {ft : FE} (h : PT X e (tDT X.K ft)) : PT X (.UnaryOp .Not e pos) (tDT X.K (eNot ft)) := by
  refine pt_conseq (pt_not h) fun σ H Q q => ?_
  obtain ⟨E, S, δ, k, rfl, r, hf, q⟩ := q
  unfold eNot at hf
  obtain ⟨x, hx, hf⟩ := Option.bind_eq_some_iff.mp hf
  cases x with
  | bool k' =>
    have hf : some (PyData.bool (!k')) = some (PyData.bool k) := hf
    cases hf
    exact ⟨E, S, δ, k', rfl, r, hx, fun S' x => q S' x⟩
  | _ => cases hf
theorem dw_and1 {ft : FE} (h : PT X a (tDT X.K ft)) : PW X (.BoolOp .And [a] pos) (tDT X.K ft) := pw_and1 h
theorem dw_or1 {ft : FE} (h : PT X a (tDT X.K ft)) : PW X (.BoolOp .Or [a] pos) (tDT X.K ft) := pw_or1 h
theorem pw_conseq {e : Expr} {t t' : TT} (h : PW X e t) (q : ∀ σ H Q, t' σ H Q → t σ H Q) : PW X e t' := ⟨fun whole pins s σ H Q I hw => h.run whole pins s σ H Q I (q _ _ _ hw)⟩
theorem dw_and {rest : List Expr} {fa fb : FE} (ha : PT X a (tDT X.K fa)) (hb : PW X (.BoolOp .And (b :: rest) pos) (tDT X.K fb)) : PW X (.BoolOp .And (a :: b :: rest) pos) (tDT X.K (eAnd fa fb)) := by
  refine pw_conseq (pw_and ha hb) fun σ H Q q => ?_
  obtain ⟨E, S, δ, k, rfl, r, hf, q⟩ := q
  unfold eAnd at hf
  obtain ⟨x, hx, hf⟩ := Option.bind_eq_some_iff.mp hf
  cases x with
  | bool k' =>
    refine ⟨E, S, δ, k', rfl, r, hx, fun S1 x1 => ?_⟩
    cases k' with
    | true => rw [if_pos rfl]; exact ⟨E, S1, δ, k, rfl, r.mono x1, hf, fun S2 x2 => q S2 (x1.trans x2)⟩
    | false =>
      rw [if_neg Bool.false_ne_true]
      have hf : some (PyData.bool false) = some (PyData.bool k) := hf
      cases hf
      exact q S1 x1
  | _ => cases hf
theorem dw_or {rest : List Expr} {fa fb : FE} (ha : PT X a (tDT X.K fa)) (hb : PW X (.BoolOp .Or (b :: rest) pos) (tDT X.K fb)) : PW X (.BoolOp .Or (a :: b :: rest) pos) (tDT X.K (eOr fa fb)) := by
  refine pw_conseq (pw_or ha hb) fun σ H Q q => ?_
  obtain ⟨E, S, δ, k, rfl, r, hf, q⟩ := q
  unfold eOr at hf
  obtain ⟨x, hx, hf⟩ := Option.bind_eq_some_iff.mp hf
  cases x with
  | bool k' =>
    refine ⟨E, S, δ, k', rfl, r, hx, fun S1 x1 => ?_⟩
    cases k' with
    | false => rw [if_neg Bool.false_ne_true]; exact ⟨E, S1, δ, k, rfl, r.mono x1, hf, fun S2 x2 => q S2 (x1.trans x2)⟩
    | true =>
      rw [if_pos rfl]
      have hf : some (PyData.bool true) = some (PyData.bool k) := hf
      cases hf
      exact q S1 x1
  | _ => cases hf
theorem dw_pt {ft : FE} (h : PW X e (tDT X.K ft)) : PT X e (tDT X.K ft) := h.pt
theorem de_ifExp {ft : FE} (ht : PT X c (tDT X.K ft)) (ha : DE X a fa) (hb : DE X b fb) : DE X (.IfExp c a b pos) (eIf ft fa fb) := by
  refine pe_conseq (pe_ifExp ht ha hb) fun σ H Q h => ?_
  obtain ⟨E, S, δ, d, rfl, r, hf, q⟩ := h
  unfold eIf at hf
  obtain ⟨x, hx, hf⟩ := Option.bind_eq_some_iff.mp hf
  cases x with
  | bool k =>
    refine ⟨E, S, δ, k, rfl, r, hx, fun S1 x1 => ?_⟩
    cases k with
    | true => rw [if_pos rfl]; exact ⟨E, S1, δ, d, rfl, r.mono x1, hf, fun v S2 x2 r2 => q v S2 (x1.trans x2) r2⟩
    | false => rw [if_neg Bool.false_ne_true]; exact ⟨E, S1, δ, d, rfl, r.mono x1, hf, fun v S2 x2 r2 => q v S2 (x1.trans x2) r2⟩
  | _ => cases hf
/-! ### argument lists, displays -/
def aNil : FA := fun _ => some []
def aCons (f : FE) (g : FA) : FA := fun δ => (f δ).bind fun d => (g δ).bind fun ds => some (d :: ds)
theorem da_nil : DA X [] aNil := pa_conseq pa_nil fun σ H Q h => by
  obtain ⟨E, S, δ, ds, rfl, r, hf, q⟩ := h
  cases hf
  exact q [] S (.refl S) .nil
theorem da_cons {es : List Expr} {g : FA} (h : DE X e f) (t : DA X es g) (hs : starEach (e :: es) X.env = (false, eval e X.env) :: starEach es X.env := by rfl) : DA X (e :: es) (aCons f g) := pa_conseq (pa_cons h t hs) fun σ H Q h => by
  obtain ⟨E, S, δ, ds, rfl, r, hf, q⟩ := h
  unfold aCons at hf
  obtain ⟨x, hx, hf⟩ := Option.bind_eq_some_iff.mp hf
  obtain ⟨y, hy, hf⟩ := Option.bind_eq_some_iff.mp hf
  cases hf
  exact ⟨E, S, δ, x, rfl, r, hx, fun v S1 x1 r1 => ⟨E, S1, δ, y, rfl, r.mono x1, hy, fun vs S2 x2 r2 => q _ S2 (x1.trans x2) (.cons (Rv.mono x2.z x r1) r2)⟩⟩
/-- lists no longer than this are made -/
def lim : Nat := 16777216
theorem lim_line : lim ≤ sizeLine := by decide
def eTup (g : FA) : FE := fun δ => (g δ).bind fun ds => if ds.length ≤ lim then some (.tuple ds) else none
def eLst (g : FA) : FE := fun δ => (g δ).bind fun ds => if ds.length ≤ lim then some (.list ds) else none
theorem lay_tup {K : PySem.W.Frag} {S : Stt} {ds : List D} {vs : List V} {p : Addr} {o : Obj} (hp : S.H p = none) (ho : o.dict = none) (r : RvL K S.Z ds vs) : Rv K (S.lay p (.frz o (.tup vs))).Z (.tuple ds) (.ref p) :=
  .tup ⟨.inl (.inr ⟨o, Stt.lay_at⟩), .inl ⟨o, _, Stt.lay_at, ho⟩⟩ (RvL.mono (S.lay_ex (o := .frz o (.tup vs)) hp).z ds r)
theorem q_tup {K : PySem.W.Frag} {S S0 : Stt} {ds : List D} {vs : List V} {Q : VK} (x : Ex S0 S) (r : RvL K S.Z ds vs) (q : ∀ (v : V) (S' : Stt), Ex S0 S' → Rv K S'.Z (.tuple ds) v → Q v S'.H) : QTup S.H vs Q := fun p o hp ho =>
  q _ (S.lay p (.frz o (.tup vs))) (x.trans (S.lay_ex hp)) (lay_tup hp ho r)
theorem lay_lst {K : PySem.W.Frag} {S : Stt} {ds : List D} {vs : List V} {p : Addr} (hp : S.H p = none) (r : RvL K S.Z ds vs) : Rv K (S.lay p (.lst vs)).Z (.list ds) (.ref p) :=
  .lst (.inl (.inl Stt.lay_at)) (RvL.mono (S.lay_ex (o := .lst vs) hp).z ds r)
theorem de_tup {es : List Expr} {g : FA} {k : Nat} (h : DA X es g) : DE X (.Tuple es k pos) (eTup g) := pe_conseq (pe_tupN h) fun σ H Q h => by
  obtain ⟨E, S, δ, d, rfl, r, hf, q⟩ := h
  unfold eTup at hf
  obtain ⟨ds, hx, hf⟩ := Option.bind_eq_some_iff.mp hf
  split at hf
  · rename_i hz
    cases hf
    refine ⟨E, S, δ, ds, rfl, r, hx, fun vs S1 x1 r1 => ⟨by rw [r1.length]; exact Nat.le_trans hz lim_line, ?_⟩⟩
    exact q_tup x1 r1 q
  · cases hf
theorem de_lst {es : List Expr} {g : FA} (h : DA X es g) : DE X (.List es pos) (eLst g) := pe_conseq (pe_lst h) fun σ H Q h => by
  obtain ⟨E, S, δ, d, rfl, r, hf, q⟩ := h
  unfold eLst at hf
  obtain ⟨ds, hx, hf⟩ := Option.bind_eq_some_iff.mp hf
  split at hf
  · rename_i hz
    cases hf
    refine ⟨E, S, δ, ds, rfl, r, hx, fun vs S1 x1 r1 => ⟨by rw [r1.length]; exact Nat.le_trans hz lim_line, fun p hp => ?_⟩⟩
    exact q _ (S1.lay p (.lst vs)) (x1.trans (S1.lay_ex hp)) (lay_lst hp r1)
  · cases hf
end
end Pd

set_option Elab.async false
set_option linter.all false
set_option maxRecDepth 100000
set_option maxHeartbeats 4000000
namespace PySem
theorem list_extendW (l : Addr) (items : Array Value) (n : Nat) (b : Addr) (items2 : Array Value) (n2 : Nat) (dd2 : Option Addr) (sl2 : Array (Option Value)) (hc0 : ¬(!items.isEmpty && Builtin.List.listTooLong (items.size + items2.size)) = true) (hc1 : items.size ≤ sizeLine) (hs2 : items.size + items2.size ≤ sizeLine + 1) :
    Meets (Builtin.«list.extend» ⟨[.ref l, .ref b], []⟩) (fun _ R s => s.heap.get? l = some { cls := .type "list", dict := none, data := .seq items n, slots := #[] } ∧ s.heap.get? b = some { cls := .type "list", dict := dd2, data := .seq items2 n2, slots := sl2 } ∧ R (.ok (.ret .none)) { s with heap := s.heap.update l (Obj.mapSeq fun x => x ++ items2) }) :=
  .of_wp fun prog w A R s h => by
    obtain ⟨hp, g, d, tk, os⟩ := s; obtain ⟨hl, hb, h⟩ := h; have f1 := AutoSeq1.idx_int; have f2 := AutoSeq1.sub_tuple_tuple; have f3 := AutoSeq1.sub_list_list; have f4 := AutoSeq1.sub_tuple_list; have f5 := AutoSeq1.sub_list_tuple;
    have hz' : (items ++ items2).size ≤ sizeLine + 1 := by rw [Array.size_append]; exact hs2
    wp_walk using (wpAny_updateSeq hl rfl (hz := hc1) (_hz' := hz')), wpAny_loadPart' hl, wpAny_loadPart' hb; exact ⟨_, rfl, h⟩
end PySem
namespace Pd
open PySem PySem.Spec PyProof.Rows L2
section
variable {X : Cx} {a b c e : Expr} {fa fb fc f : FE} {pos : Pos}
/-! ### operators -/
def addD : D → D → Option D
  | .int i, .int j => some (.int (i + j))
  | .str x, .str y => if x.length + y.length ≤ lim then some (.str (x ++ y)) else none
  | .list x, .list y => if x.length + y.length ≤ lim then some (.list (x ++ y)) else none
  | .tuple x, .tuple y => if x.length + y.length ≤ lim then some (.tuple (x ++ y)) else none
  | _, _ => none
theorem I_list {pins : List (Addr × Obj)} {s : Shared} {σ : L2.St} {H : Hp} (I : Inv X pins σ H s) {a : Addr} {xs : List V} (h : SqL X.K H a xs) :
    ∃ (its : List Value) (o : Obj) (n : Nat), Vals xs its ∧ s.heap.get? a = some o ∧ o.cls = .type "list" ∧ o.dict = none ∧ o.data = .seq its.toArray n ∧ xs.length ≤ sizeLine := by
  obtain ⟨its, rv, ⟨o, n, ho, hc, hdn, hd⟩, hlen⟩ := I.list h
  exact ⟨its, o, n, rv, ho, hc, hdn, hd, hlen⟩
theorem add_list_gen {pins : List (Addr × Obj)} {s : Shared} {σ : L2.St} {H : Hp} {p q : Addr} {xs zs : List V} {Q : VK} (I : Inv X pins σ H s) (h1 : SqL X.K H p xs) (h2 : SqL X.K H q zs) (hz : xs.length + zs.length ≤ sizeLine)
    (k : ∀ l, H l = none → Q (.ref l) (upd H l (.lst (xs ++ zs)))) : wpAny (model X.prog X.w) X.A (binaryOp .Add (.ref p) (.ref q)) (EP X pins σ Q) X.xe s := by
  obtain ⟨its, ⟨cls, dd, data, sl⟩, n, r, e, hc, hdn, hd, hl⟩ := I_list I h1
  obtain ⟨its2, ⟨cls2, dd2, data2, sl2⟩, n2, r2, e2, hc2, hdn2, hd2, hl2⟩ := I_list I h2
  simp only at hc hdn hd hc2 hdn2 hd2
  subst hc hdn hd hc2 hdn2 hd2
  have z1 := r.length
  have z2 := r2.length
  refine concat_meets ⟨_, e, rfl⟩ ⟨_, e2, rfl⟩ noFill_list_add seq_list_add PySem.F.slot_list_add PySem.F.entry_list_add (PySem.F.args_list_add_2 _ _) (list_addW p q its.toArray its2.toArray n n2 none none sl sl2 (by rw [List.size_toArray, List.size_toArray]; omega)) ⟨e, e2, ?_⟩
  have ea : its.toArray ++ its2.toArray = (its ++ its2).toArray := by simp
  rw [ea]
  exact ⟨.ref _, _, I.lnew (t' := s.toks) (r.append r2) (by rw [List.length_append]; omega), rfl, k _ I.fresh⟩
theorem op_addD : OpD X (binaryOp .Add) addD := by
  intro pins s σ H x y v u Q I rx ry h
  obtain ⟨S, d1, d2, d, rfl, r1, r2, hf, q⟩ := h
  cases d1 with
  | int i =>
    cases d2 with
    | int j => cases r1; cases r2; cases hf; exact op_add pins s σ S.H _ _ v u Q I rx ry ⟨i, j, rfl, rfl, q _ S (.refl S) (.int _)⟩
    | _ => cases hf
  | str i =>
    cases d2 with
    | str j =>
      cases r1; cases r2
      simp only [addD] at hf
      split at hf
      · rename_i hz
        cases hf
        exact op_add_str pins s σ S.H _ _ v u Q I rx ry ⟨i, j, rfl, rfl, Nat.le_trans hz lim_line, q _ S (.refl S) (.str _)⟩
      · cases hf
    | _ => cases hf
  | list ds =>
    cases d2 with
    | list es =>
      simp only [addD] at hf
      split at hf
      · rename_i hz
        cases hf
        cases r1 with
        | lst a1 b1 =>
          cases r2 with
          | lst a2 b2 =>
            cases (show v = Value.ref _ from rx)
            cases (show u = Value.ref _ from ry)
            refine add_list_gen I (S.ok.seq a1) (S.ok.seq a2) (by rw [b1.length, b2.length]; exact Nat.le_trans hz lim_line) fun l hl => ?_
            exact q _ (S.lay l (.lst _)) (S.lay_ex hl) (lay_lst hl (b1.append b2))
      · cases hf
    | _ => cases hf
  | tuple ds =>
    cases d2 with
    | tuple es =>
      simp only [addD] at hf
      split at hf
      · rename_i hz
        cases hf
        cases r1 with
        | tup a1 b1 =>
          cases r2 with
          | tup a2 b2 =>
            rename_i p1 xs p2 ys
            refine op_catN pins s σ S.H _ _ v u Q I rx ry ⟨p1, p2, xs, ys, rfl, rfl, sqt_mono S.ok a1, sqt_mono S.ok a2, by rw [b1.length, b2.length]; exact Nat.le_trans hz lim_line, fun e => ?_, fun e e' => ?_, fun e e' => ?_⟩
            · subst e
              cases b1
              exact q _ S (.refl S) (.tup a2 b2)
            · subst e'
              cases b2
              rw [List.append_nil] at q
              exact q _ S (.refl S) (.tup a1 b1)
            · exact q_tup (.refl S) (b1.append b2) q
      · cases hf
    | _ => cases hf
  | _ => cases hf
/-- operators on two ints -/
def intD (c : Int → Int → Bool) (g : Int → Int → D) : D → D → Option D
  | .int i, .int j => if c i j then some (g i j) else none
  | _, _ => none
theorem op_intD {op : Value → Value → Sem Value} {C : Int → Int → Prop} {c : Int → Int → Bool} {g : Int → Int → Int} (h : OpR X op (rI C fun i j => .int (g i j))) (hc : ∀ i j, c i j = true → C i j) : OpD X op (intD c fun i j => .int (g i j)) := by
  refine opr_conseq h fun x y H Q h => ?_
  obtain ⟨S, d1, d2, d, rfl, r1, r2, hf, q⟩ := h
  cases d1 with
  | int i =>
    cases d2 with
    | int j =>
      cases r1; cases r2
      simp only [intD] at hf
      split at hf
      · rename_i hz
        cases hf
        exact ⟨i, j, rfl, rfl, hc i j hz, q _ S (.refl S) (.int _)⟩
      · cases hf
    | _ => cases hf
  | _ => cases hf
def subD : D → D → Option D := intD (fun _ _ => true) fun i j => .int (i - j)
def mulD : D → D → Option D := intD (fun i j => decide (-(2 ^ 64) < i ∧ i < 2 ^ 64) || decide (-(2 ^ 64) < j ∧ j < 2 ^ 64)) fun i j => .int (i * j)
def divD : D → D → Option D := intD (fun _ j => decide (0 < j ∧ j < 1073741824)) fun i j => .int (i / j)
def modD : D → D → Option D := intD (fun _ j => decide (0 < j)) fun i j => .int (i % j)
def powD : D → D → Option D := intD (fun i j => decide (0 ≤ j ∧ j ≤ 1000000 ∧ i.natAbs < 2 ^ 64)) fun i j => .int (i ^ j.toNat)
theorem op_subD : OpD X (binaryOp .Sub) subD := op_intD (C := fun _ _ => True) (g := fun i j => i - j) (opr_conseq op_sub fun x y H Q h => by obtain ⟨i, j, e1, e2, _, q⟩ := h; exact ⟨i, j, e1, e2, q⟩) fun _ _ _ => trivial
theorem op_mulD : OpD X (binaryOp .Mult) mulD := op_intD op_mul fun i j h => by
  rw [Bool.or_eq_true, decide_eq_true_eq, decide_eq_true_eq] at h
  exact h
theorem op_divD : OpD X (binaryOp .FloorDiv) divD := op_intD op_fdiv fun i j h => (of_decide_eq_true h : 0 < j ∧ j < 1073741824)
theorem op_modD : OpD X (binaryOp .Mod) modD := op_intD op_mod fun i j h => of_decide_eq_true h
theorem op_powD : OpD X (binaryOp .Pow) powD := op_intD op_pow fun i j h => (of_decide_eq_true h : 0 ≤ j ∧ j ≤ 1000000 ∧ i.natAbs < 2 ^ 64)
/-- comparisons of order: ints, texts -/
def ordD (g : Int → Int → Bool) (h : List Nat → List Nat → Bool) : D → D → Option D
  | .int i, .int j => some (.bool (g i j))
  | .str x, .str y => some (.bool (h x.cps.toList y.cps.toList))
  | _, _ => none
theorem op_ordD {op : Value → Value → Sem Value} {g : Int → Int → Bool} {k : List Nat → List Nat → Bool} (h1 : OpR X op (rI0 fun i j => .bl (g i j))) (h2 : OpR X op (fun x y H Q => ∃ i j, x = .str i ∧ y = .str j ∧ Q (.bl (k i.cps.toList j.cps.toList)) H)) : OpD X op (ordD g k) := by
  intro pins s σ H x y v u Q I rx ry h
  obtain ⟨S, d1, d2, d, rfl, r1, r2, hf, q⟩ := h
  cases d1 with
  | int i =>
    cases d2 with
    | int j => cases r1; cases r2; cases hf; exact h1 pins s σ S.H _ _ v u Q I rx ry ⟨i, j, rfl, rfl, q _ S (.refl S) (.bl _)⟩
    | _ => cases hf
  | str i =>
    cases d2 with
    | str j => cases r1; cases r2; cases hf; exact h2 pins s σ S.H _ _ v u Q I rx ry ⟨i, j, rfl, rfl, q _ S (.refl S) (.bl _)⟩
    | _ => cases hf
  | _ => cases hf
def ltD : D → D → Option D := ordD (fun i j => decide (i < j)) fun x y => decide (x < y)
def leD : D → D → Option D := ordD (fun i j => decide (i ≤ j)) fun x y => !decide (y < x)
def gtD : D → D → Option D := ordD (fun i j => decide (j < i)) fun x y => decide (y < x)
def geD : D → D → Option D := ordD (fun i j => decide (j ≤ i)) fun x y => !decide (x < y)
theorem op_ltD : OpD X (compareOp .Lt) ltD := op_ordD op_lt op_lt_str
theorem op_leD : OpD X (compareOp .LtE) leD := op_ordD op_le op_le_str
theorem op_gtD : OpD X (compareOp .Gt) gtD := op_ordD op_gt op_gt_str
theorem op_geD : OpD X (compareOp .GtE) geD := op_ordD op_ge op_ge_str
/-- == and != of data -/
def fitD (d : D) : Bool := flatD d && SeqAt.shaped d
/-- two plain values that == compares without a look at their signs -/
def sc2 : D → D → Bool
  | .none, .none => true
  | .none, .int _ => true
  | .int _, .none => true
  | .none, .bool _ => true
  | .bool _, .none => true
  | .none, .str _ => true
  | .str _, .none => true
  | .int _, .int _ => true
  | .bool _, .bool _ => true
  | .str _, .str _ => true
  | .int _, .str _ => true
  | .str _, .int _ => true
  | .bool _, .str _ => true
  | .str _, .bool _ => true
  | _, _ => false
theorem sc2_run {K : PySem.W.Frag} {H : Hp} {d1 d2 : D} {x y : V} (h : sc2 d1 d2 = true) (r1 : Rv K H d1 x) (r2 : Rv K H d2 y) : scal x y = true ∧ decide (x = y) = PyData.eqv d1 d2 := by
  cases d1 <;> cases d2 <;> first | (cases h; done) | (cases r1; cases r2; first | exact ⟨rfl, rfl⟩ | skip)
  · rename_i a b
    refine ⟨rfl, ?_⟩
    show decide (V.bl a = V.bl b) = (a == b)
    cases a <;> cases b <;> rfl
  · rename_i a b
    refine ⟨rfl, ?_⟩
    show decide (V.int a = V.int b) = (a == b)
    by_cases e : a = b
    · subst e; simp
    · rw [decide_eq_false (fun q => e (V.int.inj q))]; exact (beq_eq_false_iff_ne.mpr e).symm
  · rename_i a b
    refine ⟨rfl, ?_⟩
    show decide (V.str a = V.str b) = (a == b)
    by_cases e : a = b
    · subst e; simp
    · rw [decide_eq_false (fun q => e (V.str.inj q))]; exact (beq_eq_false_iff_ne.mpr e).symm
def eqD (x y : D) : Option D := if sc2 x y || (fitD x && fitD y) then some (.bool (PyData.eqv x y)) else none
def neD (x y : D) : Option D := if sc2 x y || (fitD x && fitD y) then some (.bool (!PyData.eqv x y)) else none
theorem op_eqDD (hu : X.A.units + 64 < cLine) : OpD X (compareOp .Eq) eqD := by
  refine opr_conseq (op_eq.or (op_eqD hu)) fun x y H Q h => ?_
  obtain ⟨S, d1, d2, d, rfl, r1, r2, hf, q⟩ := h
  unfold eqD at hf
  split at hf
  · rename_i hz
    cases hf
    rw [Bool.or_eq_true] at hz
    rcases hz with hz | hz
    · obtain ⟨h1, h2⟩ := sc2_run hz r1 r2
      exact .inl ⟨h1, by rw [h2]; exact q _ S (.refl S) (.bl _)⟩
    · simp only [fitD, Bool.and_eq_true] at hz
      exact .inr ⟨d1, d2, (Rv.mono S.ok d1 r1).dp d1 hz.1.1, (Rv.mono S.ok d2 r2).dp d2 hz.2.1, hz.1.2, hz.2.2, q _ S (.refl S) (.bl _)⟩
  · cases hf
theorem op_neDD (hu : X.A.units + 64 < cLine) : OpD X (compareOp .NotEq) neD := by
  refine opr_conseq (op_ne.or (op_neD hu)) fun x y H Q h => ?_
  obtain ⟨S, d1, d2, d, rfl, r1, r2, hf, q⟩ := h
  unfold neD at hf
  split at hf
  · rename_i hz
    cases hf
    rw [Bool.or_eq_true] at hz
    rcases hz with hz | hz
    · obtain ⟨h1, h2⟩ := sc2_run hz r1 r2
      exact .inl ⟨h1, by rw [h2]; exact q _ S (.refl S) (.bl _)⟩
    · simp only [fitD, Bool.and_eq_true] at hz
      exact .inr ⟨d1, d2, (Rv.mono S.ok d1 r1).dp d1 hz.1.1, (Rv.mono S.ok d2 r2).dp d2 hz.2.1, hz.1.2, hz.2.2, q _ S (.refl S) (.bl _)⟩
  · cases hf
/-- in -/
def inD (neg : Bool) : D → D → Option D
  | .str x, .str z => match x.cps.toList with
    | [c] => some (.bool (if neg then !decide (c ∈ z.cps.toList) else decide (c ∈ z.cps.toList)))
    | _ => none
  | x, .list ds => if fitD x && fitD (.list ds) then some (.bool (if neg then !ds.any fun z => PyData.eqv z x else ds.any fun z => PyData.eqv z x)) else none
  | x, .tuple ds => if fitD x && fitD (.tuple ds) then some (.bool (if neg then !ds.any fun z => PyData.eqv z x else ds.any fun z => PyData.eqv z x)) else none
  | _, _ => none
theorem in_seq {neg : Bool} {pins : List (Addr × Obj)} {s : Shared} {σ : L2.St} {S : Stt} {x y : V} {v u : Value} {Q : VK} {d1 : D} {ds : List D} {tup : Bool} (hu : X.A.units + 65 < cLine) (I : Inv X pins σ S.H s) (rx : RelV x v) (ry : RelV y u)
    (r1 : Rv X.K S.Z d1 x) (r2 : Rv X.K S.Z (if tup then .tuple ds else .list ds) y) (hf : (fitD d1 && fitD (if tup then .tuple ds else .list ds)) = true) (q : Q (.bl (if neg then !ds.any fun z => PyData.eqv z d1 else ds.any fun z => PyData.eqv z d1)) S.H) :
    wpAny (model X.prog X.w) X.A (compareOp (if neg then .NotIn else .In) v u) (EP X pins σ Q) X.xe s := by
  simp only [fitD, Bool.and_eq_true] at hf
  obtain ⟨as, h1⟩ := Dp.reads I d1 x v ((Rv.mono S.ok _ r1).dp _ hf.1.1) rx
  have h2 := Dp.reads I _ y u ((Rv.mono S.ok _ r2).dp _ hf.2.1) ry
  obtain ⟨bs, h2⟩ := h2
  have l1 := SeqAt.canLay_of_shaped hf.1.2
  have l2 := SeqAt.canLay_of_shaped hf.2.2
  have rm := room_in_shaped (A := X.A) (xs := ds) hf.1.2 hu
  cases tup with
  | true =>
    cases neg with
    | true => exact SeqAt.notIn_tuple_reads h2 h1 (by simpa [PyData.canLay0] using l2) l1 rm ⟨.bl _, S.H, I, rfl, q⟩
    | false => exact SeqAt.in_tuple_reads h2 h1 (by simpa [PyData.canLay0] using l2) l1 rm ⟨.bl _, S.H, I, rfl, q⟩
  | false =>
    cases neg with
    | true => exact SeqAt.notIn_list_reads h2 h1 (by simpa [PyData.canLay0] using l2) l1 rm ⟨.bl _, S.H, I, rfl, q⟩
    | false => exact SeqAt.in_list_reads h2 h1 (by simpa [PyData.canLay0] using l2) l1 rm ⟨.bl _, S.H, I, rfl, q⟩
theorem op_inDn (neg : Bool) (hu : X.A.units + 65 < cLine) : OpD X (compareOp (if neg then .NotIn else .In)) (inD neg) := by
  intro pins s σ H x y v u Q I rx ry h
  obtain ⟨S, d1, d2, d, rfl, r1, r2, hf, q⟩ := h
  have seqL : ∀ ds, d2 = .list ds → wpAny (model X.prog X.w) X.A (compareOp (if neg then .NotIn else .In) v u) (EP X pins σ Q) X.xe s := by
    intro ds e
    subst e
    have hf' : (if fitD d1 && fitD (.list ds) then some (PyData.bool (if neg then !ds.any fun z => PyData.eqv z d1 else ds.any fun z => PyData.eqv z d1)) else none) = some d := by
      cases d1 <;> exact hf
    split at hf'
    · rename_i hz
      cases hf'
      exact in_seq (tup := false) hu I rx ry r1 r2 hz (q _ S (.refl S) (.bl _))
    · cases hf'
  have seqT : ∀ ds, d2 = .tuple ds → wpAny (model X.prog X.w) X.A (compareOp (if neg then .NotIn else .In) v u) (EP X pins σ Q) X.xe s := by
    intro ds e
    subst e
    have hf' : (if fitD d1 && fitD (.tuple ds) then some (PyData.bool (if neg then !ds.any fun z => PyData.eqv z d1 else ds.any fun z => PyData.eqv z d1)) else none) = some d := by
      cases d1 <;> exact hf
    split at hf'
    · rename_i hz
      cases hf'
      exact in_seq (tup := true) hu I rx ry r1 r2 hz (q _ S (.refl S) (.bl _))
    · cases hf'
  cases d2 with
  | list ds => exact seqL ds rfl
  | tuple ds => exact seqT ds rfl
  | str z =>
    cases d1 with
    | str w =>
      cases r1; cases r2
      simp only [inD] at hf
      split at hf
      · rename_i c hc
        cases hf
        have hw : w = ⟨#[c]⟩ := by
          obtain ⟨a⟩ := w
          simp only at hc
          have : a = #[c] := by
            apply Array.ext'
            simpa using hc
          rw [this]
        subst hw
        cases neg with
        | true => exact op_notIn_sign pins s σ S.H _ _ v u Q I rx ry ⟨c, z, rfl, rfl, q _ S (.refl S) (.bl _)⟩
        | false => exact op_in_sign pins s σ S.H _ _ v u Q I rx ry ⟨c, z, rfl, rfl, q _ S (.refl S) (.bl _)⟩
      · cases hf
    | _ => cases hf
  | _ => cases d1 <;> cases hf
theorem op_inDD (hu : X.A.units + 65 < cLine) : OpD X (compareOp .In) (inD false) := op_inDn false hu
theorem op_notInDD (hu : X.A.units + 65 < cLine) : OpD X (compareOp .NotIn) (inD true) := op_inDn true hu
/-- -n -/
def negD : D → Option D
  | .int i => some (.int (-i))
  | _ => none
theorem de_neg (ha : DE X a fa) : DE X (.UnaryOp .USub a pos) (e1 negD fa) := by
  refine pe_conseq (pe_un un_neg ha) fun σ H Q h => ?_
  obtain ⟨E, S, δ, d, rfl, r, hf, q⟩ := h
  unfold e1 at hf
  obtain ⟨x, hx, hf⟩ := Option.bind_eq_some_iff.mp hf
  refine ⟨E, S, δ, x, rfl, r, hx, fun v S1 x1 r1 => ?_⟩
  cases x with
  | int i => cases r1; cases hf; exact ⟨i, rfl, q _ S1 x1 (.int _)⟩
  | _ => cases hf
/-! ### built-ins by values -/
def rD1 (K : PySem.W.Frag) (g : D → Option D) : V → Hp → VK → Prop := fun x H Q => ∃ (S : Stt) (d1 d : D), S.H = H ∧ Rv K S.Z d1 x ∧ g d1 = some d ∧ ∀ v S', Ex S S' → Rv K S'.Z d v → Q v S'.H
/-- a call of a built-in function or class with data -/
def CaD (X : Cx) (f : Value) (g : List D → Option D) : Prop := CallR X f fun xs H Q => ∃ (S : Stt) (ds : List D) (d : D), S.H = H ∧ RvL X.K S.Z ds xs ∧ g ds = some d ∧ ∀ v S', Ex S S' → Rv X.K S'.Z d v → Q v S'.H
def eCB (g : List D → Option D) (fs : FA) : FE := fun δ => (fs δ).bind g
theorem de_callB {x : Str} {id : String} {es : List Expr} {p : Pos} {g : List D → Option D} {fs : FA} (hc : CaD X (.builtin id) g) (hg : Gl X x) (hm : X.mg x = none) (hv : bootBuiltins x = some (.builtin id)) (ha : DA X (e :: es) fs) (hn : x ≠ "__name__" := by decide) (hdb : (x == ("__debug__" : Str)) = false := by decide)
    (he : starEach (e :: es) X.env = (false, eval e X.env) :: starEach es X.env := by rfl) (hpl : (backTo pos (starEach es X.env)).any (·.1) = false := by rfl) : DE X (.Call (.Name x p) (e :: es) [] pos) (eCB g fs) := by
  refine pe_conseq (pe_callB hc hg hm hv ha hn hdb he hpl) fun σ H Q h => ?_
  obtain ⟨E, S, δ, d, rfl, r, hf, q⟩ := h
  obtain ⟨ds, hx, hf⟩ := Option.bind_eq_some_iff.mp hf
  exact ⟨E, S, δ, ds, rfl, r, hx, fun vs S1 x1 r1 => ⟨S1, ds, d, rfl, r1, hf, fun v S2 x2 r2 => q v S2 (x1.trans x2) r2⟩⟩
theorem de_callTy {x : Str} {T : String} {es : List Expr} {p : Pos} {g : List D → Option D} {fs : FA} (hc : CaD X (.type T) g) (hg : Gl X x) (hm : X.mg x = none) (hv : bootBuiltins x = some (.type T)) (ha : DA X (e :: es) fs) (hn : x ≠ "__name__" := by decide) (hdb : (x == ("__debug__" : Str)) = false := by decide)
    (he : starEach (e :: es) X.env = (false, eval e X.env) :: starEach es X.env := by rfl) (hpl : (backTo pos (starEach es X.env)).any (·.1) = false := by rfl) : DE X (.Call (.Name x p) (e :: es) [] pos) (eCB g fs) := by
  refine pe_conseq (pe_callTy hc hg hm hv ha hn hdb he hpl) fun σ H Q h => ?_
  obtain ⟨E, S, δ, d, rfl, r, hf, q⟩ := h
  obtain ⟨ds, hx, hf⟩ := Option.bind_eq_some_iff.mp hf
  exact ⟨E, S, δ, ds, rfl, r, hx, fun vs S1 x1 r1 => ⟨S1, ds, d, rfl, r1, hf, fun v S2 x2 r2 => q v S2 (x1.trans x2) r2⟩⟩
def lenD : List D → Option D
  | [.str x] => if x.length ≤ lim then some (.int x.length) else none
  | [.list ds] => some (.int ds.length)
  | [.tuple ds] => some (.int ds.length)
  | _ => none
theorem ca_len : CaD X (.builtin "len") lenD := by
  intro pins s σ H xs us Q I rx h
  obtain ⟨S, ds, d, rfl, rl, hf, q⟩ := h
  unfold lenD at hf
  split at hf
  · split at hf
    · rename_i x hz
      cases hf
      cases rl with
      | cons r1 rt =>
        cases rt; cases r1
        exact call_len_str pins s σ S.H _ us Q I rx ⟨x, rfl, Nat.le_trans hz lim_line, q _ S (.refl S) (.int _)⟩
    · cases hf
  · cases hf
    cases rl with
    | cons r1 rt =>
      cases rt
      cases r1 with
      | lst a1 b1 => exact call_len_seq pins s σ S.H _ us Q I rx ⟨_, _, rfl, .inl (S.ok.seq a1), by rw [b1.length]; exact q _ S (.refl S) (.int _)⟩
  · cases hf
    cases rl with
    | cons r1 rt =>
      cases rt
      cases r1 with
      | tup a1 b1 => exact call_len_seq pins s σ S.H _ us Q I rx ⟨_, _, rfl, .inr (sqt_mono S.ok a1), by rw [b1.length]; exact q _ S (.refl S) (.int _)⟩
  · cases hf
def listD : List D → Option D
  | [.list ds] => some (.list ds)
  | [.tuple ds] => some (.list ds)
  | _ => none
theorem ca_list : CaD X (.type "list") listD := by
  intro pins s σ H xs us Q I rx h
  obtain ⟨S, ds, d, rfl, rl, hf, q⟩ := h
  unfold listD at hf
  split at hf
  · cases hf
    cases rl with
    | cons r1 rt =>
      cases rt
      cases r1 with
      | lst a1 b1 => exact call_list_of pins s σ S.H _ us Q I rx ⟨_, _, rfl, .inl (S.ok.seq a1), fun l hl => q _ (S.lay l (.lst _)) (S.lay_ex hl) (lay_lst hl b1)⟩
  · cases hf
    cases rl with
    | cons r1 rt =>
      cases rt
      cases r1 with
      | tup a1 b1 => exact call_list_of pins s σ S.H _ us Q I rx ⟨_, _, rfl, .inr (sqt_mono S.ok a1), fun l hl => q _ (S.lay l (.lst _)) (S.lay_ex hl) (lay_lst hl b1)⟩
  · cases hf
def tupD : List D → Option D
  | [.list ds] => some (.tuple ds)
  | [.tuple ds] => some (.tuple ds)
  | _ => none
theorem ca_tuple : CaD X (.type "tuple") tupD := by
  intro pins s σ H xs us Q I rx h
  obtain ⟨S, ds, d, rfl, rl, hf, q⟩ := h
  unfold tupD at hf
  split at hf
  · cases hf
    cases rl with
    | cons r1 rt =>
      cases rt
      cases r1 with
      | lst a1 b1 => exact call_tupleN pins s σ S.H _ us Q I rx ⟨_, _, rfl, .inl ⟨S.ok.seq a1, q_tup (.refl S) b1 q⟩⟩
  · cases hf
    cases rl with
    | cons r1 rt =>
      cases rt
      cases r1 with
      | tup a1 b1 => exact call_tupleN pins s σ S.H _ us Q I rx ⟨_, _, rfl, .inr ⟨sqt_mono S.ok a1, q _ S (.refl S) (.tup a1 b1)⟩⟩
  · cases hf
def strD : List D → Option D
  | [.int i] => if i.natAbs.log2 < 1920 then some (.str (toString i)) else none
  | _ => none
theorem ca_str : CaD X (.type "str") strD := by
  intro pins s σ H xs us Q I rx h
  obtain ⟨S, ds, d, rfl, rl, hf, q⟩ := h
  unfold strD at hf
  split at hf
  · split at hf
    · rename_i i hz
      cases hf
      cases rl with
      | cons r1 rt =>
        cases rt; cases r1
        exact call_str_int pins s σ S.H _ us Q I rx ⟨i, rfl, hz, q _ S (.refl S) (.str _)⟩
    · cases hf
  · cases hf
def toIntD : List D → Option D
  | [.int i] => some (.int i)
  | [.bool k] => some (.int (if k then 1 else 0))
  | _ => none
theorem ca_int : CaD X (.type "int") toIntD := by
  intro pins s σ H xs us Q I rx h
  obtain ⟨S, ds, d, rfl, rl, hf, q⟩ := h
  unfold toIntD at hf
  split at hf
  · cases hf
    cases rl with
    | cons r1 rt => cases rt; cases r1; exact call_int1 pins s σ S.H _ us Q I rx (.inl ⟨_, rfl, q _ S (.refl S) (.int _)⟩)
  · cases hf
    cases rl with
    | cons r1 rt => cases rt; cases r1; exact call_int1 pins s σ S.H _ us Q I rx (.inr ⟨_, rfl, q _ S (.refl S) (.int _)⟩)
  · cases hf
def maxD : List D → Option D
  | [.int i, .int j] => some (.int (if j > i then j else i))
  | _ => none
def minD : List D → Option D
  | [.int i, .int j] => some (.int (if j < i then j else i))
  | _ => none
theorem ca_max (hc : X.calm = true) : CaD X (.builtin "max") maxD := by
  intro pins s σ H xs us Q I rx h
  obtain ⟨S, ds, d, rfl, rl, hf, q⟩ := h
  unfold maxD at hf
  split at hf
  · cases hf
    cases rl with
    | cons r1 rt => cases rt with | cons r2 rt => cases rt; cases r1; cases r2; exact call_max2 hc pins s σ S.H _ us Q I rx ⟨_, _, rfl, q _ S (.refl S) (.int _)⟩
  · cases hf
theorem ca_min (hc : X.calm = true) : CaD X (.builtin "min") minD := by
  intro pins s σ H xs us Q I rx h
  obtain ⟨S, ds, d, rfl, rl, hf, q⟩ := h
  unfold minD at hf
  split at hf
  · cases hf
    cases rl with
    | cons r1 rt => cases rt with | cons r2 rt => cases rt; cases r1; cases r2; exact call_min2 hc pins s σ S.H _ us Q I rx ⟨_, _, rfl, q _ S (.refl S) (.int _)⟩
  · cases hf
/-- all, any of truth values -/
def blsD : List D → Option (List Bool)
  | [] => some []
  | .bool k :: r => (blsD r).map (k :: ·)
  | _ => none
theorem blsD_rv {K : PySem.W.Frag} {H : Hp} : ∀ {ds : List D} {vs : List V} {bs : List Bool}, RvL K H ds vs → blsD ds = some bs → vs = bs.map V.bl
  | [], _, _, h, e => by cases h; cases e; rfl
  | d :: r, _, bs, h, e => by
    cases h with
    | cons a b =>
      cases d with
      | bool k =>
        cases a
        simp only [blsD, Option.map_eq_some_iff] at e
        obtain ⟨bs', h1, rfl⟩ := e
        rw [blsD_rv b h1]
        rfl
      | _ => cases e
def allD : List D → Option D
  | [.list ds] => (blsD ds).map fun bs => .bool (bs.all id)
  | _ => none
def anyD : List D → Option D
  | [.list ds] => (blsD ds).map fun bs => .bool (bs.any id)
  | _ => none
theorem ca_all (hc : X.calm = true) : CaD X (.builtin "all") allD := by
  intro pins s σ H xs us Q I rx h
  obtain ⟨S, ds, d, rfl, rl, hf, q⟩ := h
  unfold allD at hf
  split at hf
  · obtain ⟨bs, h1, rfl⟩ := Option.map_eq_some_iff.mp hf
    cases rl with
    | cons r1 rt =>
      cases rt
      cases r1 with
      | lst a1 b1 =>
        have e := blsD_rv b1 h1
        subst e
        exact cr_all hc pins s σ S.H _ us Q I rx ⟨_, bs, rfl, S.ok.seq a1, q _ S (.refl S) (.bl _)⟩
  · cases hf
/-! ### isinstance -/
def tyD : D → String
  | .none => "NoneType"
  | .bool _ => "bool"
  | .int _ => "int"
  | .str _ => "str"
  | .list _ => "list"
  | .tuple _ => "tuple"
  | .dict _ => "dict"
theorem Rv.ty {K : PySem.W.Frag} {H : Hp} {d : D} {v : V} (r : Rv K H d v) : TyX K H v (.type (tyD d)) := by
  cases r with
  | non => exact .base .non
  | bl b => exact .base (.bl b)
  | int i => exact .base (.int i)
  | str x => exact .base (.str x)
  | lst a b =>
    rcases a with (a | ⟨o, a⟩) | ⟨o, its, n, hk, hc, _⟩
    · exact .base (.lst a)
    · exact .base (.frz a)
    · exact .kList hk hc
  | tup a b =>
    rcases a.1 with (a | ⟨o, a⟩) | ⟨o, its, n, hk, hc, _⟩
    · exact .base (.tup a)
    · exact .fTuple a
    · exact .kTuple hk hc
  | dic a b => exact .base (.dK a)
def isTy (T : String) (d : D) : Bool := (kitB (tyD d) T).getD false
def eIs (T : String) (f : FE) : FE := fun δ => (f δ).map fun d => .bool (isTy T d)
/-- the classes asked about -/
theorem kit6 (d : D) : (kitB (tyD d) "int").isSome = true ∧ (kitB (tyD d) "str").isSome = true ∧ (kitB (tyD d) "bool").isSome = true ∧ (kitB (tyD d) "list").isSome = true ∧ (kitB (tyD d) "tuple").isSome = true ∧ (kitB (tyD d) "dict").isSome = true := by
  cases d <;> (simp only [tyD]; decide +kernel)
theorem de_isi {x : Expr} {p : Pos} {T : String} (hT : ∀ d : D, (kitB (tyD d) T).isSome = true) (hg : Gl X "isinstance") (hm : X.mg "isinstance" = none) (ht : PE X x (tC (.ty T))) (ha : DE X e f)
    (he : starEach [e, x] X.env = (false, eval e X.env) :: starEach [x] X.env := by rfl) (he2 : starEach [x] X.env = (false, eval x X.env) :: starEach [] X.env := by rfl) (hpl : (backTo pos (starEach [x] X.env)).any (·.1) = false := by rfl) : DE X (.Call (.Name "isinstance" p) [e, x] [] pos) (eIs T f) := by
  refine pe_conseq (pe_callB call_isi hg hm (by decide +kernel) (pa_cons ha (pa_cons ht pa_nil he2) he) (he := he) (hpl := hpl)) fun σ H Q h => ?_
  obtain ⟨E, S, δ, d, rfl, r, hf, q⟩ := h
  obtain ⟨d1, hx, hf⟩ := Option.map_eq_some_iff.mp hf
  cases hf
  refine ⟨E, S, δ, d1, rfl, r, hx, fun v S1 x1 r1 => ?_⟩
  have hk := hT d1
  refine ⟨v, .ty T, .type (tyD d1), .type T, isTy T d1, rfl, .ty T, (Rv.mono S1.ok d1 r1).ty, kit_ty ?_, q _ S1 x1 (.bl _)⟩
  unfold isTy
  cases e : kitB (tyD d1) T with
  | none => rw [e] at hk; cases hk
  | some b => rfl
/-! ### subscripts -/
def ixD : D → D → Option D
  | .list ds, .int i => atI ds i
  | .tuple ds, .int i => atI ds i
  | .str x, .int i => if x.length ≤ lim then (atI x.cps.toList i).map fun c => .str ⟨#[c]⟩ else none
  | _, _ => none
theorem atI_rv {K : PySem.W.Frag} {H : Hp} {ds : List D} {vs : List V} {i : Int} {d : D} (h : RvL K H ds vs) (e : atI ds i = some d) : ∃ v, atI vs i = some v ∧ Rv K H d v := by
  unfold atI at e ⊢
  rw [h.length]
  cases ei : ixN ds.length i with
  | none => rw [ei] at e; cases e
  | some j =>
    rw [ei] at e
    obtain ⟨v, h1, h2⟩ := h.get (show ds[j]? = some d from e)
    exact ⟨v, h1, h2⟩
theorem de_ix (ha : DE X a fa) (hb : DE X b fb) (hs : PlainIx b) : DE X (.Subscript a b pos) (e2 ixD fa fb) := by
  refine pe_conseq (pe_ix ix_seq ha hb hs) fun σ H Q h => ?_
  obtain ⟨E, S, δ, d, rfl, r, hf, q⟩ := h
  unfold e2 at hf
  obtain ⟨x, hx, hf⟩ := Option.bind_eq_some_iff.mp hf
  obtain ⟨y, hy, hf⟩ := Option.bind_eq_some_iff.mp hf
  refine ⟨E, S, δ, x, rfl, r, hx, fun v S1 x1 r1 => ⟨E, S1, δ, y, rfl, r.mono x1, hy, fun u S2 x2 r2 => ?_⟩⟩
  have r1' := Rv.mono x2.z x r1
  have x12 := x1.trans x2
  cases y with
  | int i =>
    cases r2
    cases x with
    | list ds =>
      cases r1' with
      | lst a1 b1 =>
        obtain ⟨w, e1, e2⟩ := atI_rv b1 hf
        exact .inl ⟨_, _, i, w, rfl, rfl, S2.ok.seq a1, e1, q w S2 x12 e2⟩
    | tuple ds =>
      cases r1' with
      | tup a1 b1 =>
        obtain ⟨w, e1, e2⟩ := atI_rv b1 hf
        exact .inr (.inl ⟨_, _, i, w, rfl, rfl, sqt_mono S2.ok a1, e1, q w S2 x12 e2⟩)
    | str z =>
      cases r1'
      simp only [ixD] at hf
      split at hf
      · rename_i hz
        obtain ⟨c, h1, rfl⟩ := Option.map_eq_some_iff.mp hf
        exact .inr (.inr ⟨z, i, c, rfl, rfl, Nat.le_trans hz lim_line, h1, q _ S2 x12 (.str _)⟩)
      · cases hf
    | _ => cases hf
  | _ => cases x <;> cases hf
/-- d['key'] -/
def lookD : List (D × D) → Str → Option D
  | [], _ => none
  | (.str k, d) :: r, x => if k = x then some d else lookD r x
  | _ :: r, x => lookD r x
def getD : D → D → Option D
  | .dict kvs, .str x => lookD kvs x
  | _, _ => none
theorem lookD_rv {K : PySem.W.Frag} {H : Hp} : ∀ {ds : List (D × D)} {vs : List (Key × V)} {x : Str} {d : D}, RvK K H ds vs → lookD ds x = some d → ∃ v, valV vs (Sum.inr x : Key) = some v ∧ Rv K H d v
  | [], _, _, _, _, e => by cases e
  | (k, d') :: r, _, x, d, h, e => by
    cases h with
    | cons a b =>
      rename_i kk v vs
      cases kk with
      | inl i =>
        have e' : lookD r x = some d := e
        obtain ⟨w, h1, h2⟩ := lookD_rv b e'
        refine ⟨w, ?_, h2⟩
        unfold valV at h1 ⊢
        rw [List.find?_cons_of_neg (by simp)]
        exact h1
      | inr y =>
        have e' : (if y = x then some d' else lookD r x) = some d := e
        split at e'
        · rename_i hy
          cases e'
          subst hy
          exact ⟨v, by unfold valV; rw [List.find?_cons_of_pos (by simp)]; rfl, a⟩
        · rename_i hy
          obtain ⟨w, h1, h2⟩ := lookD_rv b e'
          refine ⟨w, ?_, h2⟩
          unfold valV at h1 ⊢
          rw [List.find?_cons_of_neg (by simpa using hy)]
          exact h1
theorem de_get (hu : X.A.units + 1 < cLine) (ha : DE X a fa) (hb : DE X b fb) (hs : NoSl b) : DE X (.Subscript a b pos) (e2 getD fa fb) := by
  refine pe_conseq (pe_dget hu ha hb hs) fun σ H Q h => ?_
  obtain ⟨E, S, δ, d, rfl, r, hf, q⟩ := h
  unfold e2 at hf
  obtain ⟨x, hx, hf⟩ := Option.bind_eq_some_iff.mp hf
  obtain ⟨y, hy, hf⟩ := Option.bind_eq_some_iff.mp hf
  refine ⟨E, S, δ, x, rfl, r, hx, fun v S1 x1 r1 => ⟨E, S1, δ, y, rfl, r.mono x1, hy, fun u S2 x2 r2 => ?_⟩⟩
  have r1' := Rv.mono x2.z x r1
  cases x with
  | dict kvs =>
    cases y with
    | str z =>
      cases r2
      cases r1' with
      | dic a1 b1 =>
        obtain ⟨w, h1, h2⟩ := lookD_rv b1 hf
        exact ⟨_, w, rfl, by rw [← h1]; exact DGet.k (k := Sum.inr z) (S2.ok _ _ a1), q w S2 (x1.trans x2) h2⟩
    | _ => cases hf
  | _ => cases hf
end
end Pd

set_option Elab.async false
set_option linter.all false
set_option maxRecDepth 100000
set_option maxHeartbeats 4000000
namespace Pd
open PySem PySem.Spec PyProof.Rows L2
section
variable {X : Cx} {a b c e : Expr} {fa fb fc f : FE} {pos : Pos}
/-! ### slices -/
abbrev FO := List Sl → Option (Option Int)
def tDO (K : PySem.W.Frag) (f : FO) : TO := fun σ H Q => ∃ (E : Hp) (S : Stt) (δ : List Sl) (o : Option Int), S.H = H ∧ R K E S σ δ ∧ f δ = some o ∧ ∀ S', Ex S S' → Q o S'.H
abbrev DO' (X : Cx) (e : Option Expr) (f : FO) : Prop := PO X e (tDO X.K f)
theorem po_conseq {e : Option Expr} {t t' : TO} (h : PO X e t) (q : ∀ σ H Q, t' σ H Q → t σ H Q) : PO X e t' := ⟨fun pins s σ H Q I hw => h.run pins s σ H Q I (q _ _ _ hw)⟩
def oNone : FO := fun _ => some none
def oSome (f : FE) : FO := fun δ => (f δ).bind fun d => match d with
  | .int i => some (some i)
  | _ => none
theorem do_none : DO' X none oNone := po_conseq po_none fun σ H Q h => by
  obtain ⟨E, S, δ, o, rfl, r, hf, q⟩ := h
  cases hf
  exact q S (.refl S)
theorem do_some (h : DE X e f) : DO' X (some e) (oSome f) := po_conseq (po_some h) fun σ H Q h => by
  obtain ⟨E, S, δ, o, rfl, r, hf, q⟩ := h
  obtain ⟨d, hx, hf⟩ := Option.bind_eq_some_iff.mp hf
  refine ⟨E, S, δ, d, rfl, r, hx, fun v S1 x1 r1 => ?_⟩
  cases d with
  | int i => cases r1; cases hf; exact ⟨i, rfl, q S1 x1⟩
  | _ => cases hf
def cutD {α : Type} (ds : List α) (lo hi : Option Int) : List α := (ds.drop (HT.sIx ds.length 0 lo)).take (HT.sIx ds.length ds.length hi - HT.sIx ds.length 0 lo)
def slD (lo hi : Option Int) : D → Option D
  | .list ds => some (.list (cutD ds lo hi))
  | .tuple ds => some (.tuple (cutD ds lo hi))
  | .str z => if z.length ≤ lim then some (.str (cutS z lo hi)) else none
  | _ => none
def eSl (fa : FE) (fl fh : FO) : FE := fun δ => (fa δ).bind fun d => (fl δ).bind fun lo => (fh δ).bind fun hi => slD lo hi d
theorem cut_rv {K : PySem.W.Frag} {H : Hp} {ds : List D} {vs : List V} (h : RvL K H ds vs) (lo hi : Option Int) : RvL K H (cutD ds lo hi) (cutV vs lo hi) := by
  unfold cutD cutV
  rw [h.length]
  exact (h.drop _).take _
theorem cut_whole {α : Type} {ds : List α} {lo hi : Option Int} (h : HT.sIx ds.length 0 lo = 0 ∧ HT.sIx ds.length ds.length hi = ds.length) : cutD ds lo hi = ds := by
  unfold cutD
  rw [h.1, h.2, List.drop_zero, Nat.sub_zero, List.take_length]
theorem de_slice {lo hi : Option Expr} {fl fh : FO} {p2 : Pos} (ha : DE X e f) (hl : DO' X lo fl) (hh : DO' X hi fh) : DE X (.Subscript e (.Slice lo hi none p2) pos) (eSl f fl fh) := by
  refine pe_conseq (pe_slice (sl_list.or (sl_tupN.or sl_str)) ha hl hh) fun σ H Q h => ?_
  obtain ⟨E, S, δ, d, rfl, r, hf, q⟩ := h
  obtain ⟨x, hx, hf⟩ := Option.bind_eq_some_iff.mp hf
  obtain ⟨l, hl, hf⟩ := Option.bind_eq_some_iff.mp hf
  obtain ⟨u, hu, hf⟩ := Option.bind_eq_some_iff.mp hf
  refine ⟨E, S, δ, x, rfl, r, hx, fun v S1 x1 r1 => ⟨E, S1, δ, l, rfl, r.mono x1, hl, fun S2 x2 => ⟨E, S2, δ, u, rfl, (r.mono x1).mono x2, hu, fun S3 x3 => ?_⟩⟩⟩
  have r1' := Rv.mono (x2.trans x3).z x r1
  have x13 := (x1.trans x2).trans x3
  cases x with
  | list ds =>
    cases hf
    cases r1' with
    | lst a1 b1 => exact .inl ⟨_, _, rfl, S3.ok.seq a1, fun p hp => q _ (S3.lay p (.lst _)) (x13.trans (S3.lay_ex hp)) (lay_lst hp (cut_rv b1 l u))⟩
  | tuple ds =>
    cases hf
    cases r1' with
    | tup a1 b1 =>
      refine .inr (.inl ⟨_, _, rfl, sqt_mono S3.ok a1, fun hw => ?_, fun hw => ?_⟩)
      · rw [b1.length] at hw
        rw [cut_whole hw] at q
        exact q _ S3 x13 (.tup a1 b1)
      · exact q_tup x13 (cut_rv b1 l u) q
  | str z =>
    cases r1'
    simp only [slD] at hf
    split at hf
    · rename_i hz
      cases hf
      exact .inr (.inr ⟨z, rfl, Nat.le_trans hz lim_line, q _ S3 x13 (.str _)⟩)
    · cases hf
  | _ => cases hf
/-! ### a dict written out -/
def mapF : List (Str × FE) → List Sl → Option (List (D × D))
  | [], _ => some []
  | (k, f) :: r, δ => (f δ).bind fun d => (mapF r δ).bind fun ds => some ((.str k, d) :: ds)
def eDict (kfs : List (Str × FE)) : FE := fun δ => (mapF kfs δ).bind fun ds => if kfs.length ≤ 15 && decide (kfs.map (·.1)).Nodup then some (.dict ds) else none
def trsOf (K : PySem.W.Frag) (kfs : List (Str × FE)) : List (TE × TE) := kfs.map fun kf => (tC (.str kf.1), tD K kf.2)
theorem pairs_run {K : PySem.W.Frag} {E : Hp} {σ : L2.St} : ∀ {kfs : List (Str × FE)} {S : Stt} {δ : List Sl} {ds : List (D × D)} {Q : List (V × V) → Hp → Prop}, R K E S σ δ → mapF kfs δ = some ds →
    (∀ (kvs : List (Key × V)) S', Ex S S' → RvK K S'.Z ds kvs → kvs.map (·.1) = kfs.map (fun kf => Sum.inr kf.1) → Q (kvs.map fun kv => (kV kv.1, kv.2)) S'.H) → tPairs (trsOf K kfs) σ S.H Q
  | [], S, δ, ds, Q, r, hf, q => by cases hf; exact q [] S (.refl S) .nil rfl
  | (k, f) :: rest, S, δ, ds, Q, r, hf, q => by
    simp only [mapF] at hf
    obtain ⟨d, hd, hf⟩ := Option.bind_eq_some_iff.mp hf
    obtain ⟨es, he, hf⟩ := Option.bind_eq_some_iff.mp hf
    cases hf
    refine ⟨E, S, δ, d, rfl, r, hd, fun v S1 x1 r1 => ?_⟩
    refine pairs_run (kfs := rest) (r.mono x1) he fun kvs S2 x2 r2 ek => ?_
    have := q ((Sum.inr k, v) :: kvs) S2 (x1.trans x2) (RvK.cons (k := Sum.inr k) (Rv.mono x2.z d r1) r2) (by rw [List.map_cons, List.map_cons, ek])
    exact this
theorem putK_fresh : ∀ {kvs : List (Key × V)} {k : Key} {v : V}, k ∉ kvs.map (·.1) → putK kvs k v = kvs ++ [(k, v)] := fun {kvs k v} h => by
  unfold putK
  rw [if_neg]
  intro hc
  rw [List.any_eq_true] at hc
  obtain ⟨p, hp, e⟩ := hc
  exact h (List.mem_map.mpr ⟨p, hp, of_decide_eq_true e⟩)
theorem mergeK_fresh : ∀ {more kvs : List (Key × V)}, ((kvs ++ more).map (·.1)).Nodup → mergeK kvs more = kvs ++ more
  | [], kvs, _ => by rw [List.append_nil]; rfl
  | (k, v) :: r, kvs, h => by
    have e : mergeK kvs ((k, v) :: r) = mergeK (putK kvs k v) r := rfl
    have hk : k ∉ kvs.map (·.1) := by
      rw [List.map_append, List.map_cons] at h
      intro hm
      exact (List.nodup_append.mp h).2.2 k hm k (List.mem_cons_self ..) rfl
    rw [e, putK_fresh hk, mergeK_fresh]
    · rw [List.append_assoc]; rfl
    · rw [List.append_assoc]; exact h
theorem de_dict {keys : List (Option Expr)} {values : List Expr} {kfs : List (Str × FE)} (h : PPs X pos keys values (trsOf X.K kfs)) (hall : keys.all (·.isSome) = true := by rfl) (hl : keys.length = values.length := by rfl) (h0 : keys ≠ [] := by (intro z; cases z)) (h15 : keys.length ≤ 15 := by decide) : DE X (.Dict keys values pos) (eDict kfs) := by
  refine pe_conseq (pe_disp h hall hl h0 h15) fun σ H Q h => ?_
  obtain ⟨E, S, δ, d, rfl, r, hf, q⟩ := h
  unfold eDict at hf
  obtain ⟨ds, hx, hf⟩ := Option.bind_eq_some_iff.mp hf
  split at hf
  · rename_i hz
    cases hf
    rw [Bool.and_eq_true, decide_eq_true_eq, decide_eq_true_eq] at hz
    intro p hp
    have zp : S.Z p = none := S.ok.free hp
    have x0 : Ex S (S.put p (.dK []) zp) := ⟨Same.refl _, same_upd hp _, fun _ h _ => h⟩
    have rr : R X.K E (S.put p (.dK []) zp) σ δ := r.mono x0
    refine pairs_run (S := S.put p (.dK []) zp) rr hx fun kvs S2 x2 rk ek => ?_
    have hp2 : S2.H p = some (.dK []) := x2.h _ _ upd_same
    have zp2 : S2.Z p = none := x2.c p zp (by show upd S.H p _ p ≠ none; rw [upd_same]; simp)
    have nd : (kvs.map (·.1)).Nodup := by
      rw [ek]
      have e3 : kfs.map (fun kf => (Sum.inr kf.1 : Key)) = (kfs.map (·.1)).map Sum.inr := by rw [List.map_map]; rfl
      rw [e3]
      exact List.Pairwise.map _ (fun a b hab hc => hab (Sum.inr.inj hc)) hz.2
    have lk : kvs.length = kfs.length := by
      have := congrArg List.length ek
      simpa using this
    refine ⟨hp2, kvs, rfl, by omega, ?_⟩
    have em : mergeK [] kvs = kvs := by rw [mergeK_fresh (by simpa using nd)]; rfl
    rw [em]
    have x02 : Ex S S2 := x0.trans x2
    let S3 : Stt := ⟨upd S2.Z p (.dK kvs), upd S2.H p (.dK kvs), same_upd2 S2.ok _⟩
    have x3 : Ex S S3 := ⟨fun b o e => by show upd S2.Z p _ b = _; rw [upd_ne (ne_of_none e zp)]; exact x02.z _ _ e, fun b o e => by show upd S2.H p _ b = _; rw [upd_ne (ne_of_none e hp)]; exact x02.h _ _ e, fun b h1 h2 => by
      show upd S2.Z p _ b = none
      rw [upd_ne (show b ≠ p from fun e => by subst e; exact h2 hp)]
      exact x02.c b h1 h2⟩
    refine q (.ref p) S3 x3 (.dic (xs := kvs) upd_same (RvK.mono (same_upd zp2 _) ds rk))
  · cases hf
/-! ### what a for walks -/
abbrev FI := List Sl → Option (List D)
structure ItD (K : PySem.W.Frag) (J : It) (S : Stt) (ds : List D) : Prop where
  go : ∀ i (S' : Stt), Same S.Z S'.Z → i < ds.length → J.go i S'.H
  yld : ∀ i (S' : Stt) x H', Same S.Z S'.Z → i < ds.length → J.yld i S'.H x H' → ∃ d S2, ds[i]? = some d ∧ Ex S' S2 ∧ S2.H = H' ∧ Rv K S2.Z d x
  stop : ∀ (S' : Stt), Same S.Z S'.Z → J.stop ds.length S'.H
def tWI (K : PySem.W.Frag) (f : FI) : TI := fun σ H Rk => ∃ (E : Hp) (S : Stt) (δ : List Sl) (ds : List D), S.H = H ∧ R K E S σ δ ∧ f δ = some ds ∧ ∀ J S', Ex S S' → ItD K J S' ds → Rk J S'.H
abbrev WI (X : Cx) (tg e : Expr) (f : FI) : Prop := PI X tg e (tWI X.K f)
theorem pi_conseq {tg e : Expr} {t t' : TI} (h : PI X tg e t) (q : ∀ σ H Q, t' σ H Q → t σ H Q) : PI X tg e t' := ⟨fun pins s σ H Q I hw => h.run pins s σ H Q I (q _ _ _ hw)⟩
theorem itd_list {K : PySem.W.Frag} {S : Stt} {a : Addr} {vs : List V} {ds : List D} (hs : SqL K S.Z a vs) (hr : RvL K S.Z ds vs) : ItD K (Itl K a) S ds := by
  refine ⟨fun i S' x hi => ?_, fun i S' v H' x hi h => ?_, fun S' x => ?_⟩
  · obtain ⟨v, h1, _⟩ := hr.get (List.getElem?_eq_getElem hi)
    exact ⟨vs, v, (x.trans S'.ok).seq hs, h1⟩
  · obtain ⟨rfl, h⟩ := h
    have h1 := h vs ((x.trans S'.ok).seq hs)
    obtain ⟨d, h2, h3⟩ := hr.got h1
    exact ⟨d, S', h2, .refl S', rfl, Rv.mono x d h3⟩
  · exact ⟨vs, (x.trans S'.ok).seq hs, by rw [hr.length]; exact Nat.le_refl _⟩
theorem itd_tup {K : PySem.W.Frag} {S : Stt} {a : Addr} {vs : List V} {ds : List D} (hs : SqN K S.Z a vs) (hr : RvL K S.Z ds vs) : ItD K (Itt K a) S ds := by
  refine ⟨fun i S' x hi => ?_, fun i S' v H' x hi h => ?_, fun S' x => ?_⟩
  · obtain ⟨v, h1, _⟩ := hr.get (List.getElem?_eq_getElem hi)
    exact ⟨vs, v, sqt_mono (x.trans S'.ok) hs, h1⟩
  · obtain ⟨rfl, h⟩ := h
    have h1 := h vs (sqt_mono (x.trans S'.ok) hs)
    obtain ⟨d, h2, h3⟩ := hr.got h1
    exact ⟨d, S', h2, .refl S', rfl, Rv.mono x d h3⟩
  · exact ⟨vs, sqt_mono (x.trans S'.ok) hs, by rw [hr.length]; exact Nat.le_refl _⟩
def signs (x : Str) : List D := x.cps.toList.map fun c => .str ⟨#[c]⟩
theorem itd_str {K : PySem.W.Frag} {S : Stt} {x : Str} : ItD K (Its x) S (signs x) := by
  have hl : (signs x).length = x.cps.size := by unfold signs; rw [List.length_map, Array.length_toList]
  refine ⟨fun i S' _ hi => ?_, fun i S' v H' _ hi h => ?_, fun S' _ => ?_⟩
  · rw [hl] at hi; exact hi
  · obtain ⟨rfl, c, h1, rfl⟩ := h
    refine ⟨.str ⟨#[c]⟩, S', ?_, .refl S', rfl, .str _⟩
    unfold signs
    rw [List.getElem?_map, Array.getElem?_toList, h1]
    rfl
  · show x.cps.size ≤ _
    rw [hl]
    exact Nat.le_refl _
def rangeD (lo : Int) (n : Nat) : List D := (List.range n).map fun k => .int (lo + (k : Nat))
theorem itd_range {K : PySem.W.Frag} {S : Stt} {lo : Int} {n : Nat} : ItD K (Itr lo n) S (rangeD lo n) := by
  have hl : (rangeD lo n).length = n := by unfold rangeD; rw [List.length_map, List.length_range]
  refine ⟨fun i S' _ hi => ?_, fun i S' v H' _ hi h => ?_, fun S' _ => ?_⟩
  · rw [hl] at hi; exact hi
  · obtain ⟨rfl, rfl⟩ := h
    rw [hl] at hi
    refine ⟨.int (lo + i), S', ?_, .refl S', rfl, .int _⟩
    unfold rangeD
    rw [List.getElem?_map, List.getElem?_range hi]
    rfl
  · show n ≤ _
    rw [hl]
    exact Nat.le_refl _
def seqD : D → Option (List D)
  | .list ds => some ds
  | .tuple ds => some ds
  | .str x => some (signs x)
  | _ => none
def iSeq (f : FE) : FI := fun δ => (f δ).bind seqD
theorem wi_seq {tg : Expr} (h : DE X e f) : WI X tg e (iSeq f) := by
  refine ⟨fun pins s σ H Rk I hw => ?_⟩
  obtain ⟨E, S, δ, ds, rfl, r, hf, q⟩ := hw
  obtain ⟨d, hx, hf⟩ := Option.bind_eq_some_iff.mp hf
  refine thn (h.run pins s σ S.H (fun v H1 => ∃ S1, Ex S S1 ∧ S1.H = H1 ∧ Rv X.K S1.Z d v) I ⟨E, S, δ, d, rfl, r, hx, fun v S1 x1 r1 => ⟨S1, x1, rfl, r1⟩⟩) fun v s1 ⟨x, H1, I1, r1, S1, x1, e1, rv⟩ => ?_
  subst e1
  cases d with
  | list es =>
    cases hf
    cases rv with
    | lst a1 b1 =>
      cases r1
      obtain ⟨its, rv, p, hz⟩ := I1.list (S1.ok.seq a1)
      refine wpAny_pyIter_list p.isList ?_
      refine ⟨s1.heap.objs.size, [s1.heap.objs.size], _, _, S1.H, rfl, I1.kept (t' := s1.toks) fun b o e => Heap.get?_push_of_some _ e, turn_list _ _, ⟨_, Heap.get?_push_size _ rfl, rfl, rfl⟩, fun b hb => ?_, q _ S1 x1 (itd_list a1 b1)⟩
      have e : b = s1.heap.objs.size := by simpa using hb
      subst e
      exact I1.fpOk (Nat.le_refl _) (I1.hok.fresh (Nat.le_refl _))
  | tuple es =>
    cases hf
    cases rv with
    | tup a1 b1 =>
      rename_i p0 xs0
      cases r1
      obtain ⟨its, rv, p, hz⟩ := I1.tuple (sqt_mono S1.ok a1)
      refine wpAny_pyIter_tuple (show s1.heap.IsTuple p0 its.toArray from p) ?_
      refine ⟨s1.heap.objs.size, [s1.heap.objs.size], _, _, S1.H, rfl, I1.kept (t' := s1.toks) fun b o e => Heap.get?_push_of_some _ e, turn_tuple p0 _, ⟨_, Heap.get?_push_size _ rfl, rfl, rfl⟩, fun b hb => ?_, q _ S1 x1 (itd_tup a1 b1)⟩
      have e : b = s1.heap.objs.size := by simpa using hb
      subst e
      exact I1.fpOk (Nat.le_refl _) (I1.hok.fresh (Nat.le_refl _))
  | str x =>
    cases hf
    cases rv
    obtain ⟨t, rfl⟩ := r1
    have q' := q (Its x) S1 x1 itd_str
    cases ha : x.cps.all (· < 128)
    · exact wpAny_pyIter_wide ha (pi_one (tk := s1.toks) I1 _ (turn_str _ x t "str_iterator" (.inr rfl)) ⟨_, Heap.get?_push_size _ rfl, rfl, rfl⟩ q')
    · exact wpAny_pyIter_ascii ha (pi_one (tk := s1.toks) I1 _ (turn_str _ x t "str_ascii_iterator" (.inl rfl)) ⟨_, Heap.get?_push_size _ rfl, rfl, rfl⟩ q')
  | _ => cases hf
def iR1 (g : FA) : FI := fun δ => (g δ).bind fun ds => match ds with
  | [.int j] => if -(2 ^ 62) ≤ j ∧ j < 2 ^ 62 then some (rangeD 0 j.toNat) else none
  | _ => none
def iR2 (g : FA) : FI := fun δ => (g δ).bind fun ds => match ds with
  | [.int i, .int j] => if -(2 ^ 62) ≤ i ∧ i < 2 ^ 62 ∧ -(2 ^ 62) ≤ j ∧ j < 2 ^ 62 then some (rangeD i (j - i).toNat) else none
  | _ => none
theorem wi_range1 {tg : Expr} {p : Pos} {g : FA} (hg : Gl X "range") (hm : X.mg "range" = none) (ha : DA X [a] g) (hs : starEach [a] X.env = [(false, eval a X.env)] := by rfl) : WI X tg (.Call (.Name "range" p) [a] [] pos) (iR1 g) := by
  refine pi_conseq (pi_range1 hg hm ha hs) fun σ H Rk h => ?_
  obtain ⟨E, S, δ, ds, rfl, r, hf, q⟩ := h
  obtain ⟨es, hx, hf⟩ := Option.bind_eq_some_iff.mp hf
  refine ⟨E, S, δ, es, rfl, r, hx, fun vs S1 x1 r1 => ?_⟩
  split at hf
  · split at hf
    · rename_i j hz
      cases hf
      cases r1 with
      | cons a1 b1 => cases b1; cases a1; exact ⟨j, rfl, hz.1, hz.2, q _ S1 x1 itd_range⟩
    · cases hf
  · cases hf
theorem wi_range2 {tg : Expr} {p : Pos} {g : FA} (hg : Gl X "range") (hm : X.mg "range" = none) (ha : DA X [a, b] g) (hs : starEach [a, b] X.env = [(false, eval a X.env), (false, eval b X.env)] := by rfl) (hs2 : starEach [b] X.env = [(false, eval b X.env)] := by rfl) : WI X tg (.Call (.Name "range" p) [a, b] [] pos) (iR2 g) := by
  refine pi_conseq (pi_range2 hg hm ha hs hs2) fun σ H Rk h => ?_
  obtain ⟨E, S, δ, ds, rfl, r, hf, q⟩ := h
  obtain ⟨es, hx, hf⟩ := Option.bind_eq_some_iff.mp hf
  refine ⟨E, S, δ, es, rfl, r, hx, fun vs S1 x1 r1 => ?_⟩
  split at hf
  · split at hf
    · rename_i i j hz
      cases hf
      cases r1 with
      | cons a1 b1 => cases b1 with | cons a2 b2 => cases b2; cases a1; cases a2; exact ⟨i, j, rfl, hz, q _ S1 x1 itd_range⟩
    · cases hf
  · cases hf
/-! ### comprehensions -/
theorem R.un {K : PySem.W.Frag} {E : Hp} {S : Stt} {σ : L2.St} {δ : List Sl} (r : R K E S σ δ) (i : Nat) (v : Option V) : R K E S (σ.set i v) (δ.set i .un) := by
  refine ⟨fun j t e => ?_, fun j k a ds es e1 e2 f1 f2 => ?_⟩
  · have hl : j < δ.length := by
      have := (List.getElem?_eq_some_iff.mp e).1
      simpa using this
    obtain ⟨w, hw, hr⟩ := r.at_ j δ[j] (List.getElem?_eq_getElem hl)
    have hs : j < σ.length := (List.getElem?_eq_some_iff.mp hw).1
    by_cases hj : j = i
    · subst hj
      rw [List.getElem?_set_self hl] at e
      cases e
      exact ⟨v, List.getElem?_set_self hs, trivial⟩
    · rw [List.getElem?_set_ne (Ne.symm hj)] at e ⊢
      exact r.at_ j t e
  · have ne : ∀ {m : Nat} {es' : List D}, (δ.set i Sl.un)[m]? = some (.own es') → m ≠ i := fun {m es'} q hm => by
      subst hm
      have hl : m < δ.length := by
        have := (List.getElem?_eq_some_iff.mp q).1
        simpa using this
      rw [List.getElem?_set_self hl] at q
      cases q
    have n1 := ne e1
    have n2 := ne e2
    rw [List.getElem?_set_ne (Ne.symm n1)] at e1 f1
    rw [List.getElem?_set_ne (Ne.symm n2)] at e2 f2
    exact r.dis j k a ds es e1 e2 f1 f2
def lcD (i : Nat) (δ : List Sl) (ft fe : FE) : List D → Option (List D)
  | [] => some []
  | d :: r => match ft (δ.set i (.val d)) with
    | some (.bool true) => (fe (δ.set i (.val d))).bind fun y => (lcD i δ ft fe r).bind fun ys => some (y :: ys)
    | some (.bool false) => lcD i δ ft fe r
    | _ => none
def eLc (fi : FI) (i : Nat) (ft fe : FE) : FE := fun δ => (fi δ).bind fun ds => (lcD i (δ.set i .un) ft fe ds).bind fun ys => if ys.length ≤ lim then some (.list ys) else none
theorem lc_runO {K : PySem.W.Frag} {fi : FI} {i : Nat} {ft fe : FE} {E : Hp} {S : Stt} {σ : L2.St} {δ : List Sl} {ds ys : List D} {Q : VK} (r : R K E S σ δ) (hx : fi δ = some ds) (hy : lcD i (δ.set i .un) ft fe ds = some ys) (hz : ys.length ≤ lim)
    (q : ∀ p ws S', Ex S S' → S.H p = none → S'.Z p = none → S'.H p = some (.lst ws) → RvL K S'.Z ys ws → Q (.ref p) S'.H) : tLc (tWI K fi) (gName i) (tDT K ft) (tD K fe) [i] σ S.H Q := by
  refine ⟨E, S, δ, ds, rfl, r, hx, fun J S1 x1 it => ?_⟩
  intro Da hD
  let Pv : Nat → Hp → Prop := fun k H => ∃ (S' : Stt) (acc : List V) (done rest : List D), S'.H = H ∧ Ex S1 S' ∧ S'.Z Da = none ∧ S'.H Da = some (.lst acc) ∧ RvL K S'.Z done acc ∧ lcD i (δ.set i .un) ft fe (ds.drop k) = some rest ∧ done ++ rest = ys
  have zD : S1.Z Da = none := S1.ok.free hD
  refine ⟨fun k m H => m = ds.length - k ∧ k ≤ ds.length ∧ Pv k H, ⟨ds.length, by simp, Nat.zero_le _, S1.put Da (.lst []) zD, [], [], ys, rfl, ⟨Same.refl _, same_upd hD _, fun _ h _ => h⟩, zD, upd_same, .nil, hy, rfl⟩, ?_⟩
  rintro k m H ⟨rfl, hk, S', acc, done, rest, rfl, x', zD', hD', racc, hl, he⟩
  by_cases hlt : k < ds.length
  · refine .inr ⟨it.go k S' x'.z hlt, Pv (k + 1), fun H' p => ⟨ds.length - (k + 1), by omega, rfl, hlt, p⟩, fun v H' hyld => ?_⟩
    obtain ⟨d, S2, hd, x2, rfl, rd⟩ := it.yld k S' v H' x'.z hlt hyld
    rw [List.drop_eq_getElem_cons hlt] at hl
    have ed : ds[k] = d := by rw [List.getElem?_eq_getElem hlt] at hd; exact Option.some.inj hd
    rw [ed] at hl
    have rr : R K E S2 ((σ.set i none).set i (some v)) ((δ.set i .un).set i (.val d)) := (((r.mono x1).mono x').mono x2 |>.un i none).setv rd
    refine ⟨?_, ?_⟩
    · show ((σ.set i none).set i (some v)).set i none = σ.set i none
      rw [List.set_set, List.set_set]
    simp only [lcD] at hl
    have zD2 : S2.Z Da = none := x2.c Da zD' (by rw [hD']; simp)
    have hD2 : S2.H Da = some (.lst acc) := x2.h _ _ hD'
    split at hl
    · rename_i ht
      obtain ⟨y, hy1, hl⟩ := Option.bind_eq_some_iff.mp hl
      obtain ⟨rest', hy2, hl⟩ := Option.bind_eq_some_iff.mp hl
      cases hl
      refine ⟨E, S2, _, true, rfl, rr, ht, fun S3 x3 => ?_⟩
      refine iteT ?_
      refine ⟨E, S3, _, y, rfl, rr.mono x3, hy1, fun w S4 x4 r4 => ?_⟩
      have x24 := x3.trans x4
      have zD4 : S4.Z Da = none := x24.c Da zD2 (by rw [hD2]; simp)
      have hD4 : S4.H Da = some (.lst acc) := x24.h _ _ hD2
      have hlen : acc.length = done.length := racc.length
      have hys : done.length < lim := by
        have e4 := congrArg List.length he
        rw [List.length_append, List.length_cons] at e4
        omega
      refine ⟨acc, hD4, by rw [hlen]; exact Nat.lt_of_lt_of_le hys lim_line, S4.put Da (.lst (acc ++ [w])) zD4, acc ++ [w], done ++ [y], rest', rfl, ?_, zD4, upd_same, ?_, hy2, by rw [List.append_assoc]; exact he⟩
      · have xx := (x'.trans x2).trans x24
        exact ⟨xx.z, fun b o e => by show upd S4.H Da _ b = _; rw [upd_ne (ne_of_none e hD)]; exact xx.h _ _ e, xx.c⟩
      · exact (RvL.mono (x2.z.trans x24.z) done racc).append (.cons r4 .nil)
    · rename_i ht
      refine ⟨E, S2, _, false, rfl, rr, ht, fun S3 x3 => ?_⟩
      refine iteF ?_
      exact ⟨S3, acc, done, rest, rfl, (x'.trans x2).trans x3, x3.c Da zD2 (by rw [hD2]; simp), x3.h _ _ hD2, RvL.mono (x2.z.trans x3.z) done racc, hl, he⟩
    · cases hl
  · have ek : k = ds.length := by omega
    subst ek
    refine .inl ⟨it.stop S' x'.z, ?_⟩
    rw [List.drop_length] at hl
    cases hl
    rw [List.append_nil] at he
    subst he
    exact q Da acc S' (x1.trans x') (x1.h.free hD) zD' hD' racc
theorem own_frz {K : PySem.W.Frag} {S S' : Stt} {p : Addr} {ws : List V} {ys : List D} (x : Ex S S') (h0 : S.H p = none) (h1 : S'.Z p = none) (h2 : S'.H p = some (.lst ws)) (h3 : RvL K S'.Z ys ws) : ∃ S3 : Stt, Ex S S3 ∧ S3.H = S'.H ∧ Rv K S3.Z (.list ys) (.ref p) := by
  refine ⟨⟨upd S'.Z p (.lst ws), S'.H, fun b o e => ?_⟩, ⟨x.z.trans (same_upd h1 _), x.h, fun b g1 g2 => ?_⟩, rfl, .lst (.inl (.inl upd_same)) (RvL.mono (same_upd h1 _) ys h3)⟩
  · by_cases hb : b = p
    · subst hb; rw [upd_same] at e; cases e; exact h2
    · rw [upd_ne hb] at e; exact S'.ok _ _ e
  · show upd S'.Z p _ b = none
    rw [upd_ne (show b ≠ p from fun e => by subst e; exact g2 h0)]
    exact x.c b g1 g2
theorem lc_run {K : PySem.W.Frag} {fi : FI} {i : Nat} {ft fe : FE} {σ : L2.St} {H : Hp} {Q : VK} (h : tD K (eLc fi i ft fe) σ H Q) : tLc (tWI K fi) (gName i) (tDT K ft) (tD K fe) [i] σ H Q := by
  obtain ⟨E, S, δ, d, rfl, r, hf, q⟩ := h
  obtain ⟨ds, hx, hf⟩ := Option.bind_eq_some_iff.mp hf
  obtain ⟨ys, hy, hf⟩ := Option.bind_eq_some_iff.mp hf
  split at hf
  · rename_i hz
    cases hf
    refine lc_runO r hx hy hz fun p ws S' x h0 h1 h2 h3 => ?_
    obtain ⟨S3, x3, e3, r3⟩ := own_frz x h0 h1 h2 h3
    rw [← e3]
    exact q _ S3 x3 r3
  · cases hf
theorem dts_nil : PTs X [] (tDT X.K (eC (.bool true))) := by
  have h : PTs X [] tYes := pts_nil
  refine ⟨fun pins s σ H Q I hw => h.run pins s σ H Q I ?_⟩
  obtain ⟨E, S, δ, k, rfl, r, hf, q⟩ := hw
  cases hf
  exact q S (.refl S)
theorem dts_one {ft : FE} (h : PT X c (tDT X.K ft)) : PTs X [c] (tDT X.K ft) := pts_one h
theorem de_lc {elt tg iter : Expr} {ifs : List Expr} {scope : Scope} {x : Str} {i : Nat} {fi : FI} {ft fe : FE} (hc : X.calm = true) (hN : X.N.Nodup) (hi : WI X tg iter fi) (ok : BlkOk X.N X.env.scope scope [(x, i)])
    (hg : ∀ (s : Shared) (H : Hp) (C : Addr) (cl : List (Str × Addr)) (fp : List Addr), PG (X.blk s H scope (compEnvC scope cl C X.env) fp) tg (gName i)) (ht : ∀ (s : Shared) (H : Hp) (C : Addr) (cl : List (Str × Addr)) (fp : List Addr), PTs (X.blk s H scope (compEnvC scope cl C X.env) fp) ifs (tDT X.K ft))
    (he : ∀ (s : Shared) (H : Hp) (C : Addr) (cl : List (Str × Addr)) (fp : List Addr), PE (X.blk s H scope (compEnvC scope cl C X.env) fp) elt (tD X.K fe)) (hs : ∀ x, foldedSetIterable iter X.env x = pure x := by intro _; rfl) :
    DE X (.ListComp elt [⟨tg, iter, ifs, 0⟩] scope pos) (eLc fi i ft fe) :=
  pe_conseq (pe_lc (own := [(x, i)]) hc hN hi ok hg ht he hs) fun σ H Q h => lc_run h
/-! ### statements -/
inductive Out where
  | nx (δ : List Sl)
  | rt (d : D)
  | bk (δ : List Sl)
  | ct (δ : List Sl)
abbrev GS := List Sl → Option Out
def fits (K : PySem.W.Frag) (Se : Stt) (Dn : Ends) : Out → Prop
  | .nx δ => ∀ σ S, Ex Se S → R K Se.H S σ δ → Dn.nx σ S.H
  | .rt d => ∀ v S, Ex Se S → Rv K S.Z d v → Dn.rt v S.H
  | .bk δ => ∀ σ S, Ex Se S → R K Se.H S σ δ → Dn.bk σ S.H
  | .ct δ => ∀ σ S, Ex Se S → R K Se.H S σ δ → Dn.ct σ S.H
def tG (K : PySem.W.Frag) (g : GS) : TS := fun Dn σ H => ∃ (Se S : Stt) (δ : List Sl) (o : Out), S.H = H ∧ Ex Se S ∧ R K Se.H S σ δ ∧ g δ = some o ∧ fits K Se Dn o
abbrev DS (X : Cx) (st : Stmt) (g : GS) : Prop := PS X st (tG X.K g)
abbrev DB (X : Cx) (sts : List Stmt) (g : GS) : Prop := PSs X sts (tG X.K g)
def gSeq (g g' : GS) : GS := fun δ => (g δ).bind fun o => match o with
  | .nx δ' => g' δ'
  | o => some o
def gNil : GS := fun δ => some (.nx δ)
theorem db_nil : DB X [] gNil := pss_conseq pss_nil fun Dn σ H h => by
  obtain ⟨Se, S, δ, o, rfl, x, r, hf, q⟩ := h
  cases hf
  exact q σ S x r
theorem db_cons {st : Stmt} {rest : List Stmt} {g g' : GS} (h : DS X st g) (t : DB X rest g') : DB X (st :: rest) (gSeq g g') := pss_conseq (pss_cons h t) fun Dn σ H h => by
  obtain ⟨Se, S, δ, o, rfl, x, r, hf, q⟩ := h
  obtain ⟨o1, h1, hf⟩ := Option.bind_eq_some_iff.mp hf
  refine ⟨Se, S, δ, o1, rfl, x, r, h1, ?_⟩
  cases o1 with
  | nx δ' => exact fun σ' S' x' r' => ⟨Se, S', δ', o, rfl, x', r', hf, q⟩
  | rt d => cases hf; exact q
  | bk δ' => cases hf; exact q
  | ct δ' => cases hf; exact q
theorem db_one {st : Stmt} {g : GS} (h : DS X st g) : DB X [st] g := pss_one h
def gIf (ft : FE) (g g' : GS) : GS := fun δ => match ft δ with
  | some (.bool true) => g δ
  | some (.bool false) => g' δ
  | _ => none
theorem ds_if {ft : FE} {s1 s2 : List Stmt} {g g' : GS} (h : PT X c (tDT X.K ft)) (h1 : DB X s1 g) (h2 : DB X s2 g') : DS X (.If c s1 s2 pos) (gIf ft g g') := ps_conseq (ps_if h h1 h2) fun Dn σ H h => by
  obtain ⟨Se, S, δ, o, rfl, x, r, hf, q⟩ := h
  unfold gIf at hf
  split at hf
  · rename_i ht
    refine ⟨Se.H, S, δ, true, rfl, r, ht, fun S1 x1 => ?_⟩
    refine iteT ?_
    exact ⟨Se, S1, δ, o, rfl, x.trans x1, r.mono x1, hf, q⟩
  · rename_i ht
    refine ⟨Se.H, S, δ, false, rfl, r, ht, fun S1 x1 => ?_⟩
    refine iteF ?_
    exact ⟨Se, S1, δ, o, rfl, x.trans x1, r.mono x1, hf, q⟩
  · cases hf
def gRet (f : FE) : GS := fun δ => (f δ).map .rt
theorem ds_ret (h : DE X e f) : DS X (.Return (some e) pos) (gRet f) := ps_conseq (ps_ret h) fun Dn σ H h => by
  obtain ⟨Se, S, δ, o, rfl, x, r, hf, q⟩ := h
  obtain ⟨d, hx, rfl⟩ := Option.map_eq_some_iff.mp hf
  exact ⟨Se.H, S, δ, d, rfl, r, hx, fun v S1 x1 r1 => q v S1 (x.trans x1) r1⟩
def gRetN : GS := fun _ => some (.rt .none)
theorem ds_retN : DS X (.Return none pos) gRetN := ps_conseq ps_retN fun Dn σ H h => by
  obtain ⟨Se, S, δ, o, rfl, x, r, hf, q⟩ := h
  cases hf
  exact q _ S x .non
def gBk : GS := fun δ => some (.bk δ)
def gCt : GS := fun δ => some (.ct δ)
theorem ds_break : DS X (.Break pos) gBk := ps_conseq ps_break fun Dn σ H h => by
  obtain ⟨Se, S, δ, o, rfl, x, r, hf, q⟩ := h
  cases hf
  exact q σ S x r
theorem ds_continue : DS X (.Continue pos) gCt := ps_conseq ps_continue fun Dn σ H h => by
  obtain ⟨Se, S, δ, o, rfl, x, r, hf, q⟩ := h
  cases hf
  exact q σ S x r
theorem ds_pass : DS X (.Pass pos) gNil := ps_conseq ps_pass fun Dn σ H h => by
  obtain ⟨Se, S, δ, o, rfl, x, r, hf, q⟩ := h
  cases hf
  exact q σ S x r
/-- x = e -/
def gSet (i : Nat) (f : FE) : GS := fun δ => (f δ).map fun d => .nx (δ.set i (.val d))
theorem set_run {K : PySem.W.Frag} {i : Nat} {Dn : Ends} {σ : L2.St} {H : Hp} (h : tG K (gSet i f) Dn σ H) : tAsg (tD K f) (gName i) Dn σ H := by
  obtain ⟨Se, S, δ, o, rfl, x, r, hf, q⟩ := h
  obtain ⟨d, hx, rfl⟩ := Option.map_eq_some_iff.mp hf
  exact ⟨Se.H, S, δ, d, rfl, r, hx, fun v S1 x1 r1 => q _ S1 (x.trans x1) ((r.mono x1).setv r1)⟩
theorem ds_set {i : Nat} {x : Str} {pos' : Pos} (hN : X.N.Nodup) (hi : X.N[i]? = some x) (hx : Loc X.env.scope x) (h : DE X e f)
    (hf : X.fn x = true ∨ X.env.scope.names.lookup x = some .local := by first | exact .inl rfl | exact .inr rfl | assumption) (hs : swapsWith e (some (.Name x pos')) pos.line X.env = pure false := by rfl) : DS X (.Assign [.Name x pos'] e pos) (gSet i f) :=
  ps_conseq (ps_set (i := i) hN hi hx h hs hf) fun Dn σ H h => set_run h
end
end Pd

set_option Elab.async false
set_option linter.all false
set_option maxRecDepth 100000
set_option maxHeartbeats 4000000
namespace Pd
open PySem PySem.Spec PyProof.Rows L2
section
variable {X : Cx} {a b c e : Expr} {fa fb fc f : FE} {pos : Pos}
theorem ds_setLc {i j : Nat} {y x : Str} {py spos : Pos} {elt tg iter : Expr} {ifs : List Expr} {scope : Scope} {fi : FI} {ft fe : FE} (hc : X.calm = true) (hN : X.N.Nodup) (hy : X.N[j]? = some y) (hyl : X.env.scope.names.lookup y = some .local)
    (hsw : swapsWith (.ListComp elt [⟨tg, iter, ifs, 0⟩] scope pos) (some (.Name y py)) spos.line X.env = pure true) (hi : WI X tg iter fi) (ok : BlkOk X.N X.env.scope scope [(x, i)])
    (hg : ∀ (s : Shared) (H : Hp) (C : Addr) (cl : List (Str × Addr)) (fp : List Addr), PG (X.blk s H scope (compEnvC scope cl C X.env) fp) tg (gName i)) (ht : ∀ (s : Shared) (H : Hp) (C : Addr) (cl : List (Str × Addr)) (fp : List Addr), PTs (X.blk s H scope (compEnvC scope cl C X.env) fp) ifs (tDT X.K ft))
    (he : ∀ (s : Shared) (H : Hp) (C : Addr) (cl : List (Str × Addr)) (fp : List Addr), PE (X.blk s H scope (compEnvC scope cl C X.env) fp) elt (tD X.K fe)) (hs : ∀ x, foldedSetIterable iter X.env x = pure x := by intro _; rfl) :
    DS X (.Assign [.Name y py] (.ListComp elt [⟨tg, iter, ifs, 0⟩] scope pos) spos) (gSet j (eLc fi i ft fe)) := by
  refine ps_conseq (ps_setLc (own := [(x, i)]) (i := j) hc hN hy hyl hsw hi ok hg ht he hs) fun Dn σ H h => ?_
  have h' := set_run h
  exact lc_run (Q := fun x H1 => gName j x σ H1 Dn.nx) h'
/-- a, b, .. = e (e a tuple) -/
def setAll : List Nat → List D → List Sl → List Sl
  | i :: is, d :: ds, δ => setAll is ds (δ.set i (.val d))
  | _, _, δ => δ
def gUnp (is : List Nat) (f : FE) : GS := fun δ => (f δ).bind fun d => match d with
  | .tuple ds => if ds.length = is.length then some (.nx (setAll is ds δ)) else none
  | _ => none
def namesG : List Nat → TGs
  | [] => gNil'
  | i :: is => gCons (gName i) (namesG is)
where gNil' : TGs := L2.gNil
theorem names_run {K : PySem.W.Frag} {E : Hp} {S : Stt} {Q : L2.St → Hp → Prop} : ∀ {is : List Nat} {vs : List V} {ds : List D} {σ : L2.St} {δ : List Sl}, R K E S σ δ → RvL K S.Z ds vs → ds.length = is.length → (∀ σ', R K E S σ' (setAll is ds δ) → Q σ' S.H) → namesG is vs σ S.H Q
  | [], vs, ds, σ, δ, r, rv, hl, q => by
    cases ds with
    | nil => cases rv; exact ⟨rfl, q σ r⟩
    | cons d ds => cases hl
  | i :: is, vs, ds, σ, δ, r, rv, hl, q => by
    cases ds with
    | nil => cases hl
    | cons d ds =>
      cases rv with
      | cons a b => exact ⟨_, _, rfl, names_run (is := is) (r.setv a) b (by simpa using hl) q⟩
theorem ds_unp {tgs : List Expr} {k n : Nat} {pos' : Pos} {is : List Nat} (hl : n = is.length) (hps : PS X (.Assign [.Tuple tgs k pos'] e pos) (tAsg (tD X.K f) (gTup X.K n (namesG is)))) : DS X (.Assign [.Tuple tgs k pos'] e pos) (gUnp is f) :=
  ps_conseq hps fun Dn σ H h => by
    obtain ⟨Se, S, δ, o, rfl, x, r, hf, q⟩ := h
    obtain ⟨d, hx, hf⟩ := Option.bind_eq_some_iff.mp hf
    refine ⟨Se.H, S, δ, d, rfl, r, hx, fun v S1 x1 r1 => ?_⟩
    cases d with
    | tuple ds =>
      have hf' : (if ds.length = is.length then some (Out.nx (setAll is ds δ)) else none) = some o := hf
      split at hf'
      · rename_i hz
        cases hf'
        cases r1 with
        | tup a1 b1 =>
          refine ⟨_, _, rfl, sqt_mono S1.ok a1, by rw [b1.length, hz, hl], ?_⟩
          exact names_run (r.mono x1) b1 hz fun σ' r' => q σ' S1 (x.trans x1) r'
      · cases hf'
    | _ => cases hf
/-- for x in .. -/
def forG (i : Nat) (body : GS) : List D → GS
  | [], δ => some (.nx δ)
  | d :: r, δ => match body (δ.set i (.val d)) with
    | some (.nx δ') => forG i body r δ'
    | some (.ct δ') => forG i body r δ'
    | some (.bk δ') => some (.nx δ')
    | some (.rt d') => some (.rt d')
    | none => none
def gFor (fi : FI) (i : Nat) (body : GS) : GS := fun δ => (fi δ).bind fun ds => forG i body ds δ
/-- the entry of a loop's body: what stood frozen or was there at the def's entry -/
def Stt.mid (Se S : Stt) (x : Ex Se S) : Stt := ⟨S.Z, fun b => if (Se.H b).isSome || (S.Z b).isSome then S.H b else none, fun b o e => by
  show (if _ then _ else _) = some o
  rw [e]
  simp only [Option.isSome_some, Bool.or_true, if_true]
  exact S.ok _ _ e⟩
theorem mid_none {Se S : Stt} {x : Ex Se S} {b : Addr} (h : (Se.mid S x).H b = none) : Se.H b = none := by
  have h' : (if (Se.H b).isSome || (S.Z b).isSome then S.H b else none) = none := h
  cases e : Se.H b with
  | none => rfl
  | some o =>
    rw [e] at h'
    simp only [Option.isSome_some, Bool.true_or, if_true] at h'
    rw [x.h _ _ e] at h'
    cases h'
theorem mid_out {Se S : Stt} {x : Ex Se S} {b : Addr} (h : Se.H b = none) (h2 : S.Z b = none) : (Se.mid S x).H b = none := by
  show (if (Se.H b).isSome || (S.Z b).isSome then S.H b else none) = none
  rw [h, h2]
  rfl
theorem mid_ex {Se S : Stt} (x : Ex Se S) : Ex (Se.mid S x) S := ⟨Same.refl _, fun b o e => by
  have e' : (if (Se.H b).isSome || (S.Z b).isSome then S.H b else none) = some o := e
  split at e'
  · exact e'
  · (cases e'), fun b h1 _ => h1⟩
theorem ex_mid {Se S : Stt} (x : Ex Se S) : Ex Se (Se.mid S x) := ⟨x.z, fun b o e => by
  show (if (Se.H b).isSome || (S.Z b).isSome then S.H b else none) = some o
  rw [e]
  simp only [Option.isSome_some, Bool.true_or, if_true]
  exact x.h _ _ e, fun b h1 h2 => x.c b h1 h2⟩
theorem R.mid {K : PySem.W.Frag} {Se S : Stt} {σ : L2.St} {δ : List Sl} (x : Ex Se S) (r : R K Se.H S σ δ) : R K (Se.mid S x).H S σ δ := by
  refine ⟨fun i s h => ?_, r.dis⟩
  obtain ⟨v, h1, h2⟩ := r.at_ i s h
  refine ⟨v, h1, ?_⟩
  cases s with
  | un => exact trivial
  | val d => exact h2
  | own ds => obtain ⟨a, vs, e1, e2, e3, e4, e5⟩ := h2; exact ⟨a, vs, e1, e2, e3, mid_out e4 e3, e5⟩
theorem R.unmid {K : PySem.W.Frag} {Se S T : Stt} {σ : L2.St} {δ : List Sl} (x : Ex Se S) (r : R K (Se.mid S x).H T σ δ) : R K Se.H T σ δ := by
  refine ⟨fun i s h => ?_, r.dis⟩
  obtain ⟨v, h1, h2⟩ := r.at_ i s h
  refine ⟨v, h1, ?_⟩
  cases s with
  | un => exact trivial
  | val d => exact h2
  | own ds => obtain ⟨a, vs, e1, e2, e3, e4, e5⟩ := h2; exact ⟨a, vs, e1, e2, e3, mid_none e4, e5⟩
theorem ds_for {tg iter : Expr} {body : List Stmt} {fi : FI} {i : Nat} {g : GS} (hp : PassesOwn (model X.prog X.w) X.A X.env X.xe) (hc : X.calm = true) (hi : WI X tg iter fi) (hg : PG X tg (gName i)) (hb : DB X body g) (hs : ∀ x, foldedSetIterable iter X.env x = pure x := by intro _; rfl) : DS X (.For tg iter body [] pos) (gFor fi i g) :=
  ps_conseq (ps_for hp hc hi hg hb (hs := hs)) fun Dn σ H h => by
    obtain ⟨Se, S, δ, o, rfl, x, r, hf, q⟩ := h
    obtain ⟨ds, hx, hf⟩ := Option.bind_eq_some_iff.mp hf
    refine ⟨Se.H, S, δ, ds, rfl, r, hx, fun J S1 x1 it => ?_⟩
    have xe : Ex Se S1 := x.trans x1
    let Sm := Se.mid S1 xe
    let Pv : Nat → L2.St → Hp → Prop := fun k σ H => ∃ (S' : Stt) (δ' : List Sl), S'.H = H ∧ Ex Sm S' ∧ R X.K Sm.H S' σ δ' ∧ forG i g (ds.drop k) δ' = some o
    refine ⟨fun k m σ H => m = ds.length - k ∧ k ≤ ds.length ∧ Pv k σ H, ⟨ds.length, by simp, Nat.zero_le _, S1, δ, rfl, mid_ex xe, R.mid xe (r.mono x1), hf⟩, ?_⟩
    rintro k m σ H ⟨rfl, hk, S', δ', rfl, x', r', hl⟩
    by_cases hlt : k < ds.length
    · refine .inr ⟨it.go k S' x'.z hlt, Pv (k + 1), fun σ' H' p => ⟨ds.length - (k + 1), by omega, rfl, hlt, p⟩, fun v H' hyld => ?_⟩
      obtain ⟨d, S2, hd, x2, rfl, rd⟩ := it.yld k S' v H' x'.z hlt hyld
      rw [List.drop_eq_getElem_cons hlt] at hl
      have ed : ds[k] = d := by rw [List.getElem?_eq_getElem hlt] at hd; exact Option.some.inj hd
      rw [ed] at hl
      simp only [forG] at hl
      have rr := (r'.mono x2).setv (i := i) rd
      have x2' := x'.trans x2
      split at hl
      · rename_i hb1
        exact ⟨Sm, S2, _, _, rfl, x2', rr, hb1, fun σ3 S3 x3 r3 => ⟨S3, _, rfl, x3, r3, hl⟩⟩
      · rename_i hb1
        exact ⟨Sm, S2, _, _, rfl, x2', rr, hb1, fun σ3 S3 x3 r3 => ⟨S3, _, rfl, x3, r3, hl⟩⟩
      · rename_i hb1
        cases hl
        exact ⟨Sm, S2, _, _, rfl, x2', rr, hb1, fun σ3 S3 x3 r3 => q σ3 S3 ((ex_mid xe).trans x3) (R.unmid xe r3)⟩
      · rename_i hb1
        cases hl
        exact ⟨Sm, S2, _, _, rfl, x2', rr, hb1, fun v3 S3 x3 r3 => q v3 S3 ((ex_mid xe).trans x3) r3⟩
      · cases hl
    · have ek : k = ds.length := by omega
      subst ek
      rw [List.drop_length] at hl
      cases hl
      exact .inl ⟨it.stop S' x'.z, q σ S' ((ex_mid xe).trans x') (R.unmid xe r')⟩
/-- while, at most n turns -/
def whileG (ft : FE) (body : GS) : Nat → GS
  | 0, _ => none
  | n + 1, δ => match ft δ with
    | some (.bool true) => match body δ with
      | some (.nx δ') => whileG ft body n δ'
      | some (.ct δ') => whileG ft body n δ'
      | some (.bk δ') => some (.nx δ')
      | some (.rt d') => some (.rt d')
      | none => none
    | some (.bool false) => some (.nx δ)
    | _ => none
theorem ds_while (n : Nat) {body : List Stmt} {ft : FE} {g : GS} (hp : PassesOwn (model X.prog X.w) X.A X.env X.xe) (ht : PT X c (tDT X.K ft)) (hb : DB X body g) : DS X (.While c body [] pos) (whileG ft g n) :=
  ps_conseq (ps_while hp ht hb) fun Dn σ H h => by
    obtain ⟨Se, S, δ, o, rfl, x, r, hf, q⟩ := h
    refine ⟨fun m σ H => ∃ (S' : Stt) (δ' : List Sl), S'.H = H ∧ Ex Se S' ∧ R X.K Se.H S' σ δ' ∧ whileG ft g m δ' = some o, ⟨n, S, δ, rfl, x, r, hf⟩, ?_⟩
    rintro m σ H ⟨S', δ', rfl, x', r', hl⟩
    cases m with
    | zero => cases hl
    | succ m =>
      simp only [whileG] at hl
      split at hl
      · rename_i ht1
        refine ⟨Se.H, S', δ', true, rfl, r', ht1, fun S1 x1 => ?_⟩
        refine iteT ?_
        refine ⟨fun σ2 H2 => ∃ (S2 : Stt) (δ2 : List Sl), S2.H = H2 ∧ Ex Se S2 ∧ R X.K Se.H S2 σ2 δ2 ∧ whileG ft g m δ2 = some o, fun σ2 H2 p => ⟨m, Nat.lt_succ_self _, p⟩, ?_⟩
        split at hl
        · rename_i hb1
          exact ⟨Se, S1, _, _, rfl, x'.trans x1, r'.mono x1, hb1, fun σ3 S3 x3 r3 => ⟨S3, _, rfl, x3, r3, hl⟩⟩
        · rename_i hb1
          exact ⟨Se, S1, _, _, rfl, x'.trans x1, r'.mono x1, hb1, fun σ3 S3 x3 r3 => ⟨S3, _, rfl, x3, r3, hl⟩⟩
        · rename_i hb1
          cases hl
          exact ⟨Se, S1, _, _, rfl, x'.trans x1, r'.mono x1, hb1, fun σ3 S3 x3 r3 => q σ3 S3 x3 r3⟩
        · rename_i hb1
          cases hl
          exact ⟨Se, S1, _, _, rfl, x'.trans x1, r'.mono x1, hb1, fun v3 S3 x3 r3 => q v3 S3 x3 r3⟩
        · cases hl
      · rename_i ht1
        cases hl
        refine ⟨Se.H, S', δ', false, rfl, r', ht1, fun S1 x1 => ?_⟩
        refine iteF ?_
        exact q σ S1 (x'.trans x1) (r'.mono x1)
      · cases hl
/-! ### lists of the def's own -/
/-- x = [..], x filled later -/
def gOwn (i : Nat) (g : FA) : GS := fun δ => (g δ).bind fun ds => if ds.length ≤ lim then some (.nx (δ.set i (.own ds))) else none
theorem ds_own {i : Nat} {x : Str} {pos' epos : Pos} {es : List Expr} {g : FA} (hN : X.N.Nodup) (hi : X.N[i]? = some x) (hx : Loc X.env.scope x) (h : DA X es g)
    (hf : X.fn x = true ∨ X.env.scope.names.lookup x = some .local := by first | exact .inl rfl | exact .inr rfl | assumption) (hs : swapsWith (.List es epos) (some (.Name x pos')) pos.line X.env = pure false := by rfl) : DS X (.Assign [.Name x pos'] (.List es epos) pos) (gOwn i g) :=
  ps_conseq (ps_set (i := i) hN hi hx (pe_lst h) hs hf) fun Dn σ H h => by
    obtain ⟨Se, S, δ, o, rfl, x, r, hf, q⟩ := h
    obtain ⟨ds, hx, hf⟩ := Option.bind_eq_some_iff.mp hf
    split at hf
    · rename_i hz
      cases hf
      refine ⟨Se.H, S, δ, ds, rfl, r, hx, fun vs S1 x1 r1 => ⟨by rw [r1.length]; exact Nat.le_trans hz lim_line, fun p hp => ?_⟩⟩
      have zp : S1.Z p = none := S1.ok.free hp
      have xe := x.trans x1
      have x2 : Ex S1 (S1.put p (.lst vs) zp) := ⟨Same.refl _, same_upd hp _, fun _ h _ => h⟩
      refine q _ (S1.put p (.lst vs) zp) (xe.trans x2) (((r.mono x1).mono x2).set ⟨p, vs, rfl, upd_same, zp, xe.h.free hp, r1⟩ ?_)
      intro es' j a' fs e1 e2 e3 e4
      cases e2
      obtain ⟨w, hw, a2, vs2, f1, f2, _⟩ := (r.mono x1).at_ j _ e3
      rw [e4] at hw
      cases hw
      cases f1
      rw [hp] at f2
      cases f2
    · cases hf
theorem own_write {K : PySem.W.Frag} {Se S : Stt} {σ : L2.St} {δ : List Sl} {i : Nat} {ds ds' : List D} {a : Addr} {vs vs' : List V} (x : Ex Se S) (r : R K Se.H S σ δ) (hi : δ[i]? = some (.own ds)) (ha : σ[i]? = some (some (.ref a))) (hz : S.Z a = none) (he : Se.H a = none) (hv : RvL K S.Z ds' vs') :
    Ex Se (S.put a (.lst vs') hz) ∧ R K Se.H (S.put a (.lst vs') hz) σ (δ.set i (.own ds')) := by
  refine ⟨⟨x.z, fun b o e => by show upd S.H a _ b = _; rw [upd_ne (ne_of_none e he)]; exact x.h _ _ e, x.c⟩, fun j t e => ?_, fun j k b es fs e1 e2 f1 f2 => ?_⟩
  · by_cases hj : j = i
    · subst hj
      rw [List.getElem?_set_self (List.getElem?_eq_some_iff.mp hi).1] at e
      cases e
      exact ⟨_, ha, a, vs', rfl, upd_same, hz, he, hv⟩
    · rw [List.getElem?_set_ne (Ne.symm hj)] at e
      obtain ⟨v, h1, h2⟩ := r.at_ j t e
      refine ⟨v, h1, ?_⟩
      cases t with
      | un => exact trivial
      | val d => exact h2
      | own es =>
        obtain ⟨b, ws, g1, g2, g3, g4, g5⟩ := h2
        subst g1
        have hb : b ≠ a := fun eb => by subst eb; exact hj (r.dis j i b es ds e hi h1 ha)
        exact ⟨b, ws, rfl, by show upd S.H a _ b = _; rw [upd_ne hb]; exact g2, g3, g4, g5⟩
  · have own_of : ∀ {m : Nat} {es' : List D}, (δ.set i (.own ds'))[m]? = some (.own es') → ∃ es'', δ[m]? = some (.own es'') := fun {m es'} q => by
      by_cases hm : m = i
      · subst hm; exact ⟨ds, hi⟩
      · rw [List.getElem?_set_ne (Ne.symm hm)] at q; exact ⟨_, q⟩
    obtain ⟨es1, q1⟩ := own_of e1
    obtain ⟨es2, q2⟩ := own_of e2
    exact r.dis j k b es1 es2 q1 q2 f1 f2
/-- x.append(e) -/
def gApp (i : Nat) (f : FE) : GS := fun δ => (f δ).bind fun d => match δ[i]? with
  | some (.own ds) => if ds.length < lim then some (.nx (δ.set i (.own (ds ++ [d])))) else none
  | _ => none
theorem ds_append {i : Nat} {x : Str} {npos apos cpos epos : Pos} (hN : X.N[i]? = some x) (hv : Vis X.env.scope x) (h : DE X e f)
    (hbase : attributeBase (.Name x npos) "append" X.env (eval (.Name x npos) X.env) = eval (.Name x npos) X.env := by rfl)
    (hfew : ((backTo cpos (starEach [e] X.env)).all (fun x => !x.1) && (backToKw cpos (keywordEach [] X.env)).all (fun x => x.1.isSome) && decide ([e].length + ([] : List Keyword).length + (if ([] : List Keyword).isEmpty then 0 else 1) < 30)) = true := by rfl)
    (hline : (apos.endLine == cpos.line) = true := by rfl) (hs : starEach [e] X.env = (false, eval e X.env) :: starEach [] X.env := by rfl) (hplain : (backTo cpos (starEach [] X.env)).any (·.1) = false := by rfl)
    (hd : (x == ("__debug__" : Str)) = false := by decide) (hcd : (x == ("__classdict__" : Str)) = false := by decide)
    : DS X (.Expr (.Call (.Attribute (.Name x npos) "append" apos) [e] [] cpos) epos) (gApp i f) :=
  ps_conseq (ps_expr (pe_bm PySem.F.plainAttrs_list PySem.F.slot_list_append PySem.F.type_list_append mt_append (pe_var hN hv hd hcd) (pa_cons h pa_nil hs) hbase hfew hline hs hplain)) fun Dn σ H h => by
    obtain ⟨Se, S, δ, o, rfl, xe, r, hf, q⟩ := h
    obtain ⟨d, hx, hf⟩ := Option.bind_eq_some_iff.mp hf
    split at hf
    · rename_i ds hds
      split at hf
      · rename_i hz
        cases hf
        obtain ⟨v, h1, a, vs, rfl, h3, h4, h5, h6⟩ := r.at_ i _ hds
        refine ⟨.ref a, h1, .inl ⟨rfl, vs, .inl (.inl h3)⟩, Se.H, S, δ, d, rfl, r, hx, fun w S1 x1 r1 => ?_⟩
        have h3' : S1.H a = some (.lst vs) := x1.h _ _ h3
        have h4' : S1.Z a = none := x1.c a h4 (by rw [h3]; simp)
        refine ⟨a, vs, w, rfl, rfl, h3', by rw [h6.length]; exact Nat.lt_of_lt_of_le hz lim_line, ?_⟩
        obtain ⟨x3, r3⟩ := own_write (vs := vs) (vs' := vs ++ [w]) (xe.trans x1) (r.mono x1) hds h1 h4' h5 ((RvL.mono x1.z ds h6).append (.cons r1 .nil))
        exact q σ _ x3 r3
      · cases hf
    · cases hf
/-- return x, x a list of the def's own -/
def eOwn (i : Nat) : FE := fun δ => match δ[i]? with
  | some (.own ds) => some (.list ds)
  | _ => none
theorem ds_retOwn {i : Nat} {x : Str} {npos : Pos} (hN : X.N[i]? = some x := by rfl) (hv : Vis X.env.scope x := by first | exact Or.inl rfl | exact Or.inr (Or.inl rfl) | exact Or.inr (Or.inr rfl)) (hd : (x == ("__debug__" : Str)) = false := by decide) (hcd : (x == ("__classdict__" : Str)) = false := by decide) : DS X (.Return (some (.Name x npos)) pos) (gRet (eOwn i)) :=
  ps_conseq (ps_ret (pe_var hN hv hd hcd)) fun Dn σ H h => by
    obtain ⟨Se, S, δ, o, rfl, xe, r, hf, q⟩ := h
    obtain ⟨d, hx, rfl⟩ := Option.map_eq_some_iff.mp hf
    unfold eOwn at hx
    split at hx
    · rename_i ds hds
      cases hx
      obtain ⟨v, h1, a, vs, rfl, h3, h4, h5, h6⟩ := r.at_ i _ hds
      refine ⟨.ref a, h1, ?_⟩
      let S3 : Stt := ⟨upd S.Z a (.lst vs), S.H, fun b o e => by
        by_cases hb : b = a
        · subst hb; rw [upd_same] at e; cases e; exact h3
        · rw [upd_ne hb] at e; exact S.ok _ _ e⟩
      have x3 : Ex Se S3 := ⟨xe.z.trans (same_upd h4 _), xe.h, fun b g1 g2 => by
        show upd S.Z a _ b = none
        rw [upd_ne (show b ≠ a from fun e => by subst e; exact g2 h5)]
        exact xe.c b g1 g2⟩
      exact q _ S3 x3 (.lst (.inl (.inl upd_same)) (RvL.mono (same_upd h4 _) ds h6))
    · cases hx
/-! ### calls of pure defs; a def from its body -/
def spP (K : PySem.W.Frag) (F : List D → Option D) : Sp := fun vs H Q _ => ∃ (S : Stt) (ds : List D) (d : D), S.H = H ∧ RvL K S.Z ds vs ∧ F ds = some d ∧ ∀ v S', Ex S S' → Rv K S'.Z d v → Q v S'.H
def eCall (F : List D → Option D) (g : FA) : FE := fun δ => (g δ).bind F
theorem de_call {x : Str} {fa : Addr} {fd : FuncData} {ps : List Str} {k : Nat} {es : List Expr} {p : Pos} {F : List D → Option D} {g : FA} (G : FnOk X.prog X.w X.K X.mg X.base CX0 k fa fd ps (spP X.K F)) (hr : Room k X.A) (hg : Gl X x) (hm : X.mg x = some (.ref fa)) (hk : PySem.W.keepIn X.K (.ref fa) = true) (hb : Binds X.K fd ps [])
    (ha : DA X (e :: es) g) (hdb : (x == ("__debug__" : Str)) = false := by decide) (he : starEach (e :: es) X.env = (false, eval e X.env) :: starEach es X.env := by rfl) (hpl : (backTo pos (starEach es X.env)).any (·.1) = false := by rfl) : DE X (.Call (.Name x p) (e :: es) [] pos) (eCall F g) :=
  pe_conseq (pe_call G hr hg hm hk hb .nil pass0 ha hdb he hpl) fun σ H Q h => by
    obtain ⟨E, S, δ, d, rfl, r, hf, q⟩ := h
    obtain ⟨ds, hx, hf⟩ := Option.bind_eq_some_iff.mp hf
    exact ⟨E, S, δ, ds, rfl, r, hx, fun vs S1 x1 r1 => ⟨S1, ds, d, rfl, by rw [List.append_nil]; exact r1, hf, fun v S2 x2 r2 => q v S2 (x1.trans x2) r2⟩⟩
end
/-- the slots at a def's entry -/
def startD (n : Nat) (ds : List D) : List Sl := ds.map .val ++ List.replicate (n - ds.length) .un
/-- what a body gives: n slots, np parameters -/
def runG (n np : Nat) (g : GS) : List D → Option D := fun ds => if ds.length = np then match g (startD n ds) with
  | some (.rt d) => some d
  | some (.nx _) => some .none
  | _ => none
  else none
theorem start_rv {K : PySem.W.Frag} {S : Stt} {N : List Str} {vs : List V} {ds : List D} (h : RvL K S.Z ds vs) : R K S.H S (L2.start N vs) (startD N.length ds) := by
  have hl := h.length
  refine ⟨fun i s e => ?_, fun i j a es fs e1 e2 _ _ => ?_⟩
  · unfold startD at e
    unfold L2.start
    by_cases hi : i < ds.length
    · rw [List.getElem?_append_left (by simpa using hi), List.getElem?_map, List.getElem?_eq_getElem hi] at e
      cases e
      obtain ⟨v, h1, h2⟩ := h.get (List.getElem?_eq_getElem hi)
      exact ⟨some v, by rw [List.getElem?_append_left (by simp; omega), List.getElem?_map, h1]; rfl, v, rfl, h2⟩
    · rw [List.getElem?_append_right (by simp; omega), List.length_map, List.getElem?_replicate] at e
      split at e
      · rename_i hk
        cases e
        exact ⟨none, by rw [List.getElem?_append_right (by simp; omega), List.length_map, List.getElem?_replicate, if_pos (by omega)], trivial⟩
      · cases e
  · have no : ∀ {m : Nat} {es' : List D}, (startD N.length ds)[m]? ≠ some (.own es') := fun {m es'} q => by
      unfold startD at q
      by_cases hm : m < ds.length
      · rw [List.getElem?_append_left (by simpa using hm), List.getElem?_map, List.getElem?_eq_getElem hm] at q
        cases q
      · rw [List.getElem?_append_right (by simp; omega), List.length_map, List.getElem?_replicate] at q
        split at q <;> cases q
    exact absurd e1 no
theorem fn_pure {P : Program} {w : World} {K : PySem.W.Frag} {mg : Str → Option Value} {base : Heap} {x qual : Str} {st : Stmt} {fa : Addr} {fd : FuncData} {N ps : List Str} {k : Nat} {g : GS} (F : Fun K x qual st fa fd) (Sc : FnScope N ps (defScope st))
    (hbody : ∀ (cdv : Value) (A : Around) (outer : List Env) (s : Shared) (H : Hp) (E : XK), Room k (A.deeper (envOfC qual (defScope st) s.heap.objs.size fa cdv)) → DB (cxOf CX0 P w K mg base N qual (defScope st) fa cdv A outer s H E).nox (defBody st) g) :
    FnOk P w K mg base CX0 (k + 1) fa fd ps (spP K (runG N.length ps.length g)) := by
  refine F.ok Sc (fun vs H Q E h => ?_) (fun cdv A outer s H vs Q E hr h => ?_)
  · obtain ⟨S, ds, d, rfl, rl, hf, q⟩ := h
    unfold runG at hf
    split at hf
    · rename_i hz
      rw [rl.length, hz]
    · cases hf
  · refine ⟨_, hbody cdv A outer s H E hr, ?_⟩
    obtain ⟨S, ds, d, rfl, rl, hf, q⟩ := h
    unfold runG at hf
    split at hf
    · split at hf
      · rename_i d' hg
        cases hf
        exact ⟨S, S, _, _, rfl, .refl S, start_rv rl, hg, fun v S' x' r' => q v S' x' r'⟩
      · rename_i δ' hg
        cases hf
        exact ⟨S, S, _, _, rfl, .refl S, start_rv rl, hg, fun σ' S' x' _ => q .non S' x' .non⟩
      · cases hf
    · cases hf
/-- nothing is promised -/
theorem fn_none {P : Program} {w : World} {K : PySem.W.Frag} {mg : Str → Option Value} {base : Heap} {k : Nat} {fa : Addr} {fd : FuncData} {ps : List Str} : FnOk P w K mg base CX0 k fa fd ps (spP K fun _ => none) := by
  have no : ∀ vs H Q E, ¬ spP K (fun _ => none) vs H Q E := fun vs H Q E h => by
    obtain ⟨_, _, _, _, _, e, _⟩ := h
    cases e
  exact ⟨fun vs H Q E h => absurd h (no vs H Q E), fun A outer s H args us vs Q E _ _ _ _ h => absurd h (no vs H Q E)⟩
end Pd

set_option Elab.async false
set_option linter.all false
set_option maxRecDepth 100000
set_option maxHeartbeats 4000000
namespace Pd
open PySem PySem.Spec PyProof.Rows L2
theorem hu65 {k : Nat} {A : Around} (hr : Room k A) : A.units + 65 < cLine := by have := hr.un; omega
theorem hu64 {k : Nat} {A : Around} (hr : Room k A) : A.units + 64 < cLine := by have := hr.un; omega
theorem hu1 {k : Nat} {A : Around} (hr : Room k A) : A.units + 1 < cLine := by have := hr.un; omega
/-- a def of the text, bound to its name -/
def Df (K : PySem.W.Frag) (mg : Str → Option Value) (x : Str) (st : Stmt) (ps : List Str) : Prop :=
  ∃ (fa : Addr) (fd : FuncData), Fun K x x st fa fd ∧ mg x = some (.ref fa) ∧ Binds K fd ps []
/-- a def that keeps a pure promise -/
def Fx (P : Program) (w : World) (K : PySem.W.Frag) (mg : Str → Option Value) (base : Heap) (x : Str) (ps : List Str) (lv : Nat) (F : List D → Option D) : Prop :=
  ∃ (fa : Addr) (fd : FuncData), FnOk P w K mg base CX0 lv fa fd ps (spP K F) ∧ mg x = some (.ref fa) ∧ PySem.W.keepIn K (.ref fa) = true ∧ Binds K fd ps [] ∧ ∃ oc od osl, K.lookup fa = some ⟨oc, od, .func fd, osl⟩
section
variable {P : Program} {w : World} {K : PySem.W.Frag} {mg : Str → Option Value} {base : Heap} {x : Str} {st : Stmt} {N ps : List Str}
theorem fun_look {fa : Addr} {fd : FuncData} (F : Fun K x x st fa fd) : ∃ oc od osl, K.lookup fa = some ⟨oc, od, .func fd, osl⟩ := by
  obtain ⟨oc, od, kV, doc, pm, an, cdv, ct, osl, e, lk, _⟩ := F.ex
  exact ⟨oc, od, osl, lk⟩
theorem fx_of {k n np : Nat} {g : GS} (d : Df K mg x st ps) (Sc : FnScope N ps (defScope st)) (hn : N.length = n) (hp : ps.length = np)
    (hbody : ∀ (fa : Addr) (cdv : Value) (A : Around) (outer : List Env) (s : Shared) (H : Hp) (E : XK), Room k (A.deeper (envOfC x (defScope st) s.heap.objs.size fa cdv)) → DB (cxOf CX0 P w K mg base N x (defScope st) fa cdv A outer s H E).nox (defBody st) g) :
    Fx P w K mg base x ps (k + 1) (runG n np g) := by
  subst hn hp
  exact let ⟨fa, fd, F, hm, hb⟩ := d
  ⟨fa, fd, fn_pure F Sc fun cdv A outer s H E hr => hbody fa cdv A outer s H E hr, hm, F.kp, hb, fun_look F⟩
theorem fx_none {k : Nat} (d : Df K mg x st ps) : Fx P w K mg base x ps k fun _ => none :=
  let ⟨fa, fd, F, hm, hb⟩ := d
  ⟨fa, fd, fn_none, hm, F.kp, hb, fun_look F⟩
end
/-- the def as the text has it -/
theorem fx_at {P : Program} {w : World} {K : PySem.W.Frag} {mg : Str → Option Value} {base : Heap} {x : Str} {ps : List Str} {k : Nat} {F : List D → Option D} {fa : Addr} {fd : FuncData} {oc : Value} {od : Option Addr} {osl : Array (Option Value)}
    (c : Fx P w K mg base x ps k F) (hm : mg x = some (.ref fa)) (lk : K.lookup fa = some ⟨oc, od, .func fd, osl⟩) : FnOk P w K mg base CX0 k fa fd ps (spP K F) := by
  obtain ⟨fa', fd', G, hm', _, _, oc', od', osl', lk'⟩ := c
  rw [hm] at hm'
  cases hm'
  rw [lk] at lk'
  cases lk'
  exact G
/-- law's promise -/
def spLaw (K : PySem.W.Frag) : Sp := fun vs H Q _ => ∃ (a : Addr) (ns : List Int), vs = [.ref a] ∧ SqL K H a (ns.map V.int) ∧ ns.length ≤ 63 ∧ ∀ H', Q (.bl true) H'
theorem law_imp {K : PySem.W.Frag} {F : List D → Option D} (hF : ∀ ns : List Int, ns.length ≤ 63 → F [.list (ns.map PyData.int)] = some (.bool true)) : ∀ vs H Q E, spLaw K vs H Q E → spP K F vs H Q E := by
  rintro vs H Q E ⟨a, ns, rfl, hs, hl, q⟩
  exact ⟨⟨H, H, Same.refl H⟩, [.list (ns.map PyData.int)], .bool true, rfl, .cons (.lst hs (RvL.ints ns)) .nil, hF ns hl, fun v S' _ r => by cases r; exact q _⟩
/-- a module's tuple of data -/
def KTup (K : PySem.W.Frag) (p : Addr) (ds : List D) : Prop := ∃ vs : List V, (∀ H, SqN K H p vs) ∧ ∀ H, RvL K H ds vs
theorem rel_ref (a : Addr) : RelV (V.ref a) (Value.ref a) := rfl
theorem rel_str (x : Str) (t : Tok) : RelV (V.str x) (Value.str x t) := ⟨t, rfl⟩
theorem rel_int (x : Int) (t : Tok) : RelV (V.int x) (Value.int x t) := ⟨t, rfl⟩
theorem ktup_of {K : PySem.W.Frag} {p : Addr} {n : Nat} {sl : Array (Option Value)} {its : Array Value} {ds : List D} {vs : List V} (l : K.lookup p = some ⟨.type "tuple", none, .seq its n, sl⟩) (hz : its.size ≤ sizeLine) (hv : Vals vs its.toList) (hr : ∀ H, RvL K H ds vs) : KTup K p ds :=
  ⟨vs, fun _ => ⟨.inr ⟨_, its, n, l, rfl, rfl, hz, hv⟩, .inr ⟨_, l, rfl, rfl⟩⟩, hr⟩
theorem ktup_rv {K : PySem.W.Frag} {p : Addr} {ds : List D} (h : KTup K p ds) : ∀ H, Rv K H (.tuple ds) (.ref p) := fun H => let ⟨_, h1, h2⟩ := h; .tup (h1 H) (h2 H)
def GlT (K : PySem.W.Frag) (mg : Str → Option Value) (x : Str) (ds : List D) : Prop := ∃ p, mg x = some (.ref p) ∧ KTup K p ds
section
variable {X : Cx} {a b c e : Expr} {fa fb fc f : FE} {pos : Pos}
theorem de_globTx {x : Str} {ds : List D} (hg : Gl X x) (h : GlT X.K X.mg x ds) (hd : (x == ("__debug__" : Str)) = false := by decide) : DE X (.Name x pos) (eC (.tuple ds)) :=
  let ⟨p, hm, vs, h1, h2⟩ := h
  de_globT hg hm h1 h2 hd
theorem de_callx {x : Str} {ps : List Str} {k j : Nat} {es : List Expr} {p : Pos} {F : List D → Option D} {g : FA} (c : Fx X.prog X.w X.K X.mg X.base x ps k F) (hr : Room j X.A) (hk : k ≤ j) (hg : Gl X x)
    (ha : DA X (e :: es) g) (hdb : (x == ("__debug__" : Str)) = false := by decide) (he : starEach (e :: es) X.env = (false, eval e X.env) :: starEach es X.env := by rfl) (hpl : (backTo pos (starEach es X.env)).any (·.1) = false := by rfl) : DE X (.Call (.Name x p) (e :: es) [] pos) (eCall F g) :=
  let ⟨_, _, G, hm, kp, hb, _⟩ := c
  de_call G (hr.mono hk) hg hm kp hb ha hdb he hpl
theorem de_dict0 : DE X (.Dict [] [] pos) (eC (.dict [])) := pe_conseq pe_dnewK fun σ H Q h => by
  obtain ⟨E, S, δ, d, rfl, r, hf, q⟩ := h
  cases hf
  intro p hp
  exact q _ (S.lay p (.dK [])) (S.lay_ex hp) (.dic Stt.lay_at .nil)
theorem dt_cmp {op : CmpOp} {g : D → D → Option D} (ho : OpD X (compareOp op) g) (ha : DE X a fa) (hb : DE X b fb) (hm : behindInMarks op b = false) : PT X (.Compare a [op] [b] pos) (tDT X.K (e2 g fa fb)) :=
  pt_conseq (pt_cmpR ho ha hb hm) fun σ H Q h => by
    obtain ⟨E, S, δ, k, rfl, r, hf, q⟩ := h
    exact tD_bin (Q := fun x H' => ∃ k, x = .bl k ∧ Q k H') ⟨E, S, δ, .bool k, rfl, r, hf, fun v S' x rv => by cases rv; exact ⟨k, rfl, q S' x⟩⟩
theorem dt_chain {op op' : CmpOp} {g g' : D → D → Option D} (ho : OpD X (compareOp op) g) (ho' : OpD X (compareOp op') g') (ha : DE X a fa) (hb : DE X b fb) (hc : DE X c fc) (hm : lastMarks [op, op'] [b, c] = false := by with_unfolding_all rfl) :
    PT X (.Compare a [op, op'] [b, c] pos) (tDT X.K (eChain g g' fa fb fc)) :=
  pt_conseq (pt_chain ho ho' ha hb hc hm) fun σ H Q h => by
    obtain ⟨E, S, δ, k, rfl, r, hf, q⟩ := h
    exact chain_run (Q := fun x H' => ∃ k, x = .bl k ∧ Q k H') ⟨E, S, δ, .bool k, rfl, r, hf, fun v S' x rv => by cases rv; exact ⟨k, rfl, q S' x⟩⟩
/-- a list of the def's own, read where the answer keeps nothing of it -/
def eOwnR (i : Nat) : FE := fun δ => match δ[i]? with
  | some (.own ds) => some (.list ds)
  | some (.val d) => some d
  | _ => none
theorem de_isiB {T : String} (hT : ∀ d : D, (kitB (tyD d) T).isSome = true) {p p2 : Pos} (hm : X.mg "isinstance" = none) (hm2 : X.mg (Str.ofString T) = none) (hg : Gl X "isinstance") (hg2 : Gl X (Str.ofString T)) (hb : bootBuiltins (Str.ofString T) = some (.type T)) (ha : DE X e f)
    (hn : Str.ofString T ≠ "__name__") (hd : (Str.ofString T == ("__debug__" : Str)) = false)
    (he : starEach [e, .Name (Str.ofString T) p2] X.env = (false, eval e X.env) :: starEach [.Name (Str.ofString T) p2] X.env) (he2 : starEach [.Name (Str.ofString T) p2] X.env = (false, eval (.Name (Str.ofString T) p2) X.env) :: starEach [] X.env) (hpl : (backTo pos (starEach [.Name (Str.ofString T) p2] X.env)).any (·.1) = false) :
    DE X (.Call (.Name "isinstance" p) [e, .Name (Str.ofString T) p2] [] pos) (eIs T f) :=
  de_isi hT hg hm (pe_bltn (v := .ty T) hg2 hm2 hb (show Value.type T = Value.type T from rfl) hn hd) ha he he2 hpl
section
variable {p p2 : Pos}
theorem de_isiB_str (hm : X.mg "isinstance" = none) (hm2 : X.mg "str" = none) (hg : Gl X "isinstance") (hg2 : Gl X "str") (ha : DE X e f)
    (he : starEach [e, .Name "str" p2] X.env = (false, eval e X.env) :: starEach [.Name "str" p2] X.env := by rfl) (he2 : starEach [.Name "str" p2] X.env = (false, eval (.Name "str" p2) X.env) :: starEach [] X.env := by rfl) (hpl : (backTo pos (starEach [.Name "str" p2] X.env)).any (·.1) = false := by rfl) : DE X (.Call (.Name "isinstance" p) [e, .Name "str" p2] [] pos) (eIs "str" f) :=
  de_isiB (fun d => (kit6 d).2.1) hm hm2 hg hg2 (by decide +kernel) ha (by decide) (by decide) he he2 hpl
theorem de_isiB_int (hm : X.mg "isinstance" = none) (hm2 : X.mg "int" = none) (hg : Gl X "isinstance") (hg2 : Gl X "int") (ha : DE X e f)
    (he : starEach [e, .Name "int" p2] X.env = (false, eval e X.env) :: starEach [.Name "int" p2] X.env := by rfl) (he2 : starEach [.Name "int" p2] X.env = (false, eval (.Name "int" p2) X.env) :: starEach [] X.env := by rfl) (hpl : (backTo pos (starEach [.Name "int" p2] X.env)).any (·.1) = false := by rfl) : DE X (.Call (.Name "isinstance" p) [e, .Name "int" p2] [] pos) (eIs "int" f) :=
  de_isiB (fun d => (kit6 d).1) hm hm2 hg hg2 (by decide +kernel) ha (by decide) (by decide) he he2 hpl
theorem de_isiB_bool (hm : X.mg "isinstance" = none) (hm2 : X.mg "bool" = none) (hg : Gl X "isinstance") (hg2 : Gl X "bool") (ha : DE X e f)
    (he : starEach [e, .Name "bool" p2] X.env = (false, eval e X.env) :: starEach [.Name "bool" p2] X.env := by rfl) (he2 : starEach [.Name "bool" p2] X.env = (false, eval (.Name "bool" p2) X.env) :: starEach [] X.env := by rfl) (hpl : (backTo pos (starEach [.Name "bool" p2] X.env)).any (·.1) = false := by rfl) : DE X (.Call (.Name "isinstance" p) [e, .Name "bool" p2] [] pos) (eIs "bool" f) :=
  de_isiB (fun d => (kit6 d).2.2.1) hm hm2 hg hg2 (by decide +kernel) ha (by decide) (by decide) he he2 hpl
theorem de_isiB_list (hm : X.mg "isinstance" = none) (hm2 : X.mg "list" = none) (hg : Gl X "isinstance") (hg2 : Gl X "list") (ha : DE X e f)
    (he : starEach [e, .Name "list" p2] X.env = (false, eval e X.env) :: starEach [.Name "list" p2] X.env := by rfl) (he2 : starEach [.Name "list" p2] X.env = (false, eval (.Name "list" p2) X.env) :: starEach [] X.env := by rfl) (hpl : (backTo pos (starEach [.Name "list" p2] X.env)).any (·.1) = false := by rfl) : DE X (.Call (.Name "isinstance" p) [e, .Name "list" p2] [] pos) (eIs "list" f) :=
  de_isiB (fun d => (kit6 d).2.2.2.1) hm hm2 hg hg2 (by decide +kernel) ha (by decide) (by decide) he he2 hpl
theorem de_isiB_tuple (hm : X.mg "isinstance" = none) (hm2 : X.mg "tuple" = none) (hg : Gl X "isinstance") (hg2 : Gl X "tuple") (ha : DE X e f)
    (he : starEach [e, .Name "tuple" p2] X.env = (false, eval e X.env) :: starEach [.Name "tuple" p2] X.env := by rfl) (he2 : starEach [.Name "tuple" p2] X.env = (false, eval (.Name "tuple" p2) X.env) :: starEach [] X.env := by rfl) (hpl : (backTo pos (starEach [.Name "tuple" p2] X.env)).any (·.1) = false := by rfl) : DE X (.Call (.Name "isinstance" p) [e, .Name "tuple" p2] [] pos) (eIs "tuple" f) :=
  de_isiB (fun d => (kit6 d).2.2.2.2.1) hm hm2 hg hg2 (by decide +kernel) ha (by decide) (by decide) he he2 hpl
theorem de_isiB_dict (hm : X.mg "isinstance" = none) (hm2 : X.mg "dict" = none) (hg : Gl X "isinstance") (hg2 : Gl X "dict") (ha : DE X e f)
    (he : starEach [e, .Name "dict" p2] X.env = (false, eval e X.env) :: starEach [.Name "dict" p2] X.env := by rfl) (he2 : starEach [.Name "dict" p2] X.env = (false, eval (.Name "dict" p2) X.env) :: starEach [] X.env := by rfl) (hpl : (backTo pos (starEach [.Name "dict" p2] X.env)).any (·.1) = false := by rfl) : DE X (.Call (.Name "isinstance" p) [e, .Name "dict" p2] [] pos) (eIs "dict" f) :=
  de_isiB (fun d => (kit6 d).2.2.2.2.2) hm hm2 hg hg2 (by decide +kernel) ha (by decide) (by decide) he he2 hpl
end
end
end Pd

set_option Elab.async false
set_option linter.all false
set_option maxRecDepth 100000
set_option maxHeartbeats 4000000
/-! Lists of a def's own: frozen, read, popped, extended, made by calls. -/
namespace Pd
open PySem PySem.Spec PyProof.Rows L2
section
variable {X : Cx} {a b c e : Expr} {fa fb fc f : FE} {pos : Pos}
/-! ### frozen ahead of a statement -/
def gFrz (i : Nat) : GS := fun δ => match δ[i]? with
  | some (.own ds) => some (.nx (δ.set i (.val (.list ds))))
  | _ => none
theorem frz_run {K : PySem.W.Frag} {i : Nat} {g : GS} {Dn : Ends} {σ : L2.St} {H : Hp} (h : tG K (gSeq (gFrz i) g) Dn σ H) : tG K g Dn σ H := by
  obtain ⟨Se, S, δ, o, rfl, xe, r, hf, q⟩ := h
  obtain ⟨o1, h1, hf⟩ := Option.bind_eq_some_iff.mp hf
  unfold gFrz at h1
  split at h1
  · rename_i ds hds
    cases h1
    obtain ⟨v, e1, a, vs, rfl, h3, h4, h5, h6⟩ := r.at_ i _ hds
    let S3 : Stt := ⟨upd S.Z a (.lst vs), S.H, fun b o e => by
      by_cases hb : b = a
      · subst hb; rw [upd_same] at e; cases e; exact h3
      · rw [upd_ne hb] at e; exact S.ok _ _ e⟩
    have zz : Same S.Z S3.Z := same_upd h4 _
    have x3 : Ex Se S3 := ⟨xe.z.trans zz, xe.h, fun b g1 g2 => by
      show upd S.Z a _ b = none
      rw [upd_ne (show b ≠ a from fun e => by subst e; exact g2 h5)]
      exact xe.c b g1 g2⟩
    refine ⟨Se, S3, δ.set i (.val (.list ds)), o, rfl, x3, ⟨fun j t e => ?_, fun j k b es fs e1' e2 f1 f2 => ?_⟩, hf, q⟩
    · by_cases hj : j = i
      · subst hj
        rw [List.getElem?_set_self (List.getElem?_eq_some_iff.mp hds).1] at e
        cases e
        exact ⟨_, e1, _, rfl, .lst (.inl (.inl upd_same)) (RvL.mono zz ds h6)⟩
      · rw [List.getElem?_set_ne (Ne.symm hj)] at e
        obtain ⟨w, w1, w2⟩ := r.at_ j t e
        refine ⟨w, w1, ?_⟩
        cases t with
        | un => exact trivial
        | val d => obtain ⟨y, y1, y2⟩ := w2; exact ⟨y, y1, Rv.mono zz d y2⟩
        | own es =>
          obtain ⟨b, ws, g1, g2, g3, g4, g5⟩ := w2
          subst g1
          have hb : b ≠ a := fun eb => by subst eb; exact hj (r.dis j i b es ds e hds w1 e1)
          exact ⟨b, ws, rfl, g2, by show upd S.Z a _ b = none; rw [upd_ne hb]; exact g3, g4, RvL.mono zz es g5⟩
    · have own_of : ∀ {m : Nat} {es' : List D}, (δ.set i (.val (.list ds)))[m]? = some (.own es') → δ[m]? = some (.own es') := fun {m es'} q => by
        by_cases hm : m = i
        · subst hm
          rw [List.getElem?_set_self (List.getElem?_eq_some_iff.mp hds).1] at q
          cases q
        · rw [List.getElem?_set_ne (Ne.symm hm)] at q; exact q
      exact r.dis j k b es fs (own_of e1') (own_of e2) f1 f2
  · cases h1
theorem ds_frz (i : Nat) {st : Stmt} {g : GS} (h : DS X st g) : DS X st (gSeq (gFrz i) g) := ps_conseq h fun Dn σ H q => frz_run q
theorem db_frz (i : Nat) {sts : List Stmt} {g : GS} (h : DB X sts g) : DB X sts (gSeq (gFrz i) g) := pss_conseq h fun Dn σ H q => frz_run q
/-! ### read where the answer keeps nothing of it -/
def bor1 : Sl → Sl
  | .own ds => .val (.list ds)
  | s => s
def borrow (δ : List Sl) : List Sl := δ.map bor1
def scalK : D → Option D
  | .none => some .none
  | .bool b => some (.bool b)
  | .int i => some (.int i)
  | .str x => some (.str x)
  | _ => none
noncomputable def borZ (S : Stt) (σ : L2.St) (δ : List Sl) : Hp := fun b => open Classical in if S.Z b = none ∧ ∃ (i : Nat) (ds : List D), δ[i]? = some (.own ds) ∧ σ[i]? = some (some (.ref b)) then S.H b else S.Z b
theorem borZ_same {S : Stt} {σ : L2.St} {δ : List Sl} : Same S.Z (borZ S σ δ) := fun b o e => by
  unfold borZ
  rw [if_neg (by rintro ⟨h, _⟩; rw [e] at h; cases h)]
  exact e
theorem borZ_ok {S : Stt} {σ : L2.St} {δ : List Sl} : Same (borZ S σ δ) S.H := fun b o e => by
  unfold borZ at e
  split at e
  · exact e
  · exact S.ok _ _ e
theorem R.borrow {K : PySem.W.Frag} {E : Hp} {S : Stt} {σ : L2.St} {δ : List Sl} (r : R K E S σ δ) : R K E ⟨borZ S σ δ, S.H, borZ_ok⟩ σ (borrow δ) := by
  refine ⟨fun i s h => ?_, fun i j a ds es e1 _ _ _ => ?_⟩
  · unfold Pd.borrow at h
    rw [List.getElem?_map] at h
    obtain ⟨t, ht, rfl⟩ := Option.map_eq_some_iff.mp h
    obtain ⟨v, h1, h2⟩ := r.at_ i t ht
    refine ⟨v, h1, ?_⟩
    cases t with
    | un => exact trivial
    | val d => obtain ⟨y, y1, y2⟩ := h2; exact ⟨y, y1, Rv.mono borZ_same d y2⟩
    | own ds =>
      obtain ⟨a, vs, rfl, g2, g3, g4, g5⟩ := h2
      refine ⟨.ref a, rfl, .lst (.inl (.inl ?_)) (RvL.mono borZ_same ds g5)⟩
      show borZ S σ δ a = _
      unfold borZ
      rw [if_pos ⟨g3, i, ds, ht, h1⟩]
      exact g2
  · unfold Pd.borrow at e1
    rw [List.getElem?_map] at e1
    obtain ⟨t, ht, e⟩ := Option.map_eq_some_iff.mp e1
    cases t <;> cases e
theorem unborrow {S : Stt} {σ : L2.St} {δ : List Sl} {S' : Stt} (x : Ex ⟨borZ S σ δ, S.H, borZ_ok⟩ S') : ∃ S'' : Stt, Ex S S'' ∧ S''.H = S'.H ∧ S''.Z = S.Z :=
  ⟨⟨S.Z, S'.H, S.ok.trans x.h⟩, ⟨Same.refl _, x.h, fun _ h _ => h⟩, rfl, rfl⟩
theorem scal_rv {K : PySem.W.Frag} {H H' : Hp} {d d' : D} {v : V} (h : scalK d = some d') (r : Rv K H d v) : Rv K H' d' v := by
  cases d <;> cases h <;> cases r
  · exact .non
  · exact .bl _
  · exact .int _
  · exact .str _
def eBor (f : FE) : FE := fun δ => (f (borrow δ)).bind scalK
theorem de_bor (h : DE X e f) : DE X e (eBor f) := pe_conseq h fun σ H Q q => by
  obtain ⟨E, S, δ, d, rfl, r, hf, q⟩ := q
  obtain ⟨d1, h1, h2⟩ := Option.bind_eq_some_iff.mp hf
  refine ⟨E, ⟨borZ S σ δ, S.H, borZ_ok⟩, borrow δ, d1, rfl, r.borrow, h1, fun v S' x rv => ?_⟩
  obtain ⟨S2, x2, e2, e3⟩ := unborrow x
  rw [← e2]
  exact q v S2 x2 (scal_rv h2 rv)
theorem dt_bor {ft : FE} (h : PT X e (tDT X.K ft)) : PT X e (tDT X.K (eBor ft)) := pt_conseq h fun σ H Q q => by
  obtain ⟨E, S, δ, k, rfl, r, hf, q⟩ := q
  obtain ⟨d1, h1, h2⟩ := Option.bind_eq_some_iff.mp hf
  have e : d1 = .bool k := by cases d1 <;> cases h2; rfl
  subst e
  refine ⟨E, ⟨borZ S σ δ, S.H, borZ_ok⟩, borrow δ, k, rfl, r.borrow, h1, fun S' x => ?_⟩
  obtain ⟨S2, x2, e2, e3⟩ := unborrow x
  rw [← e2]
  exact q S2 x2
/-! ### x.pop() as a statement; x.extend(e) -/
def gPop (i : Nat) : GS := fun δ => match δ[i]? with
  | some (.own ds) => if ds = [] then none else some (.nx (δ.set i (.own ds.dropLast)))
  | _ => none
theorem RvL.dropLast {K : PySem.W.Frag} {H : Hp} {ds : List D} {vs : List V} (h : RvL K H ds vs) : RvL K H ds.dropLast vs.dropLast := by
  rw [List.dropLast_eq_take, List.dropLast_eq_take, h.length]
  exact h.take _
theorem ds_pop {i : Nat} {x : Str} {npos apos cpos epos : Pos} (hN : X.N[i]? = some x) (hv : Vis X.env.scope x)
    (hbase : attributeBase (.Name x npos) "pop" X.env (eval (.Name x npos) X.env) = eval (.Name x npos) X.env := by rfl) (hline : (apos.endLine == cpos.line) = true := by rfl)
    (hd : (x == ("__debug__" : Str)) = false := by decide) (hcd : (x == ("__classdict__" : Str)) = false := by decide) : DS X (.Expr (.Call (.Attribute (.Name x npos) "pop" apos) [] [] cpos) epos) (gPop i) :=
  ps_conseq (ps_expr (pe_bm0 PySem.F.plainAttrs_list PySem.F.slot_list_pop PySem.F.type_list_pop mt_pop (pe_var hN hv hd hcd) hbase hline)) fun Dn σ H h => by
    obtain ⟨Se, S, δ, o, rfl, xe, r, hf, q⟩ := h
    unfold gPop at hf
    split at hf
    · rename_i ds hds
      split at hf
      · cases hf
      · rename_i hne
        cases hf
        obtain ⟨v, h1, a, vs, rfl, h3, h4, h5, h6⟩ := r.at_ i _ hds
        have hl := h6.length
        have hp : 0 < ds.length := List.length_pos_iff.mpr hne
        obtain ⟨y, hy, _⟩ := h6.get (List.getElem?_eq_getElem (show ds.length - 1 < ds.length by omega))
        refine ⟨.ref a, h1, .inl ⟨rfl, vs, .inl (.inl h3)⟩, a, vs, y, rfl, rfl, h3, by rw [hl]; exact hy, ?_⟩
        obtain ⟨x3, r3⟩ := own_write (vs := vs) (vs' := vs.dropLast) xe r hds h1 h4 h5 h6.dropLast
        exact q σ _ x3 r3
    · cases hf
def gExt (i : Nat) (f : FE) : GS := fun δ => (f δ).bind fun d => match δ[i]?, d with
  | some (.own ds), .list es => if ds.length + es.length ≤ lim then some (.nx (δ.set i (.own (ds ++ es)))) else none
  | _, _ => none
def rExtS (K : PySem.W.Frag) : V → List V → Hp → VK → Prop := fun x vs H Q => ∃ l b xs zs, x = .ref l ∧ vs = [.ref b] ∧ H l = some (.lst xs) ∧ SqL K H b zs ∧ xs.length + zs.length ≤ sizeLine ∧ Q .non (upd H l (.lst (xs ++ zs)))
theorem mt_extS : MtM X "list.extend" (rExtS X.K) := by
  intro pins s σ H x vs v us Q I rx rv h
  obtain ⟨l, b, xs, zs, rfl, rfl, hH, hB, hz, q⟩ := h
  cases rx
  obtain ⟨u, rfl, ru⟩ := rv.one
  cases ru
  obtain ⟨z, its, n, r, hl, e⟩ := I.lstM hH
  obtain ⟨its2, ⟨cls2, dd2, data2, sl2⟩, n2, r2, e2, hc2, hdn2, hd2, hl2⟩ := I_list I hB
  simp only at hc2 hdn2 hd2
  subst hc2 hdn2 hd2
  have z1 := r.length
  have z2 := r2.length
  have hsz : its.toArray.size + its2.toArray.size ≤ sizeLine := by rw [List.size_toArray, List.size_toArray]; omega
  have hlong : ¬ (!its.toArray.isEmpty && Builtin.List.listTooLong (its.toArray.size + its2.toArray.size)) = true := by
    rw [notLongL hsz, Bool.and_false]
    exact Bool.false_ne_true
  refine call_meets F.slot_list_extend ⟨_, e, rfl⟩ F.entry_list_extend (F.args_list_extend_2 _ _)
    (list_extendW l its.toArray n b its2.toArray n2 none sl2 hlong (by rw [List.size_toArray]; omega) (by omega)) ⟨e, e2, ?_⟩
  refine ⟨.non, _, I.lset (its' := its ++ its2) hH e (by simp) (r.append r2) ?_, rfl, q⟩
  rw [List.length_append]
  omega
theorem ds_extend {i : Nat} {x : Str} {npos apos cpos epos : Pos} (hN : X.N[i]? = some x) (hv : Vis X.env.scope x) (h : DE X e f)
    (hbase : attributeBase (.Name x npos) "extend" X.env (eval (.Name x npos) X.env) = eval (.Name x npos) X.env := by rfl)
    (hfew : ((backTo cpos (starEach [e] X.env)).all (fun x => !x.1) && (backToKw cpos (keywordEach [] X.env)).all (fun x => x.1.isSome) && decide ([e].length + ([] : List Keyword).length + (if ([] : List Keyword).isEmpty then 0 else 1) < 30)) = true := by rfl)
    (hline : (apos.endLine == cpos.line) = true := by rfl) (hs : starEach [e] X.env = (false, eval e X.env) :: starEach [] X.env := by rfl) (hplain : (backTo cpos (starEach [] X.env)).any (·.1) = false := by rfl)
    (hd : (x == ("__debug__" : Str)) = false := by decide) (hcd : (x == ("__classdict__" : Str)) = false := by decide) : DS X (.Expr (.Call (.Attribute (.Name x npos) "extend" apos) [e] [] cpos) epos) (gExt i f) :=
  ps_conseq (ps_expr (pe_bm PySem.F.plainAttrs_list PySem.F.slot_list_extend PySem.F.type_list_extend mt_extS (pe_var hN hv hd hcd) (pa_cons h pa_nil hs) hbase hfew hline hs hplain)) fun Dn σ H h => by
    obtain ⟨Se, S, δ, o, rfl, xe, r, hf, q⟩ := h
    obtain ⟨d, hx, hf⟩ := Option.bind_eq_some_iff.mp hf
    split at hf
    · rename_i ds es hds
      split at hf
      · rename_i hz
        cases hf
        obtain ⟨v, h1, a, vs, rfl, h3, h4, h5, h6⟩ := r.at_ i _ hds
        refine ⟨.ref a, h1, .inl ⟨rfl, vs, .inl (.inl h3)⟩, Se.H, S, δ, .list es, rfl, r, hx, fun w S1 x1 r1 => ?_⟩
        have h3' : S1.H a = some (.lst vs) := x1.h _ _ h3
        have h4' : S1.Z a = none := x1.c a h4 (by rw [h3]; simp)
        cases r1 with
        | lst s1 b1 =>
          rename_i ws
          refine ⟨a, _, vs, ws, rfl, rfl, h3', S1.ok.seq s1, by rw [h6.length, b1.length]; exact Nat.le_trans hz lim_line, ?_⟩
          obtain ⟨x3, r3⟩ := own_write (vs := vs) (vs' := vs ++ ws) (xe.trans x1) (r.mono x1) hds h1 h4' h5 ((RvL.mono x1.z ds h6).append b1)
          exact q σ _ x3 r3
      · cases hf
    · cases hf
/-! ### a list of the def's own out of a call -/
/-- what gives a new list (of the caller's own), its items frozen -/
def tDO2 (K : PySem.W.Frag) (f : List Sl → Option (List D)) : TE := fun σ H Q => ∃ (E : Hp) (S : Stt) (δ : List Sl) (ys : List D), S.H = H ∧ R K E S σ δ ∧ f δ = some ys ∧ ∀ p ws S', Ex S S' → S.H p = none → S'.Z p = none → S'.H p = some (.lst ws) → RvL K S'.Z ys ws → Q (.ref p) S'.H
def gNew (i : Nat) (f : List Sl → Option (List D)) : GS := fun δ => (f δ).map fun ys => .nx (δ.set i (.own ys))
theorem new_run {K : PySem.W.Frag} {i : Nat} {f : List Sl → Option (List D)} {Dn : Ends} {σ : L2.St} {H : Hp} (h : tG K (gNew i f) Dn σ H) : tAsg (tDO2 K f) (gName i) Dn σ H := by
  obtain ⟨Se, S, δ, o, rfl, xe, r, hf, q⟩ := h
  obtain ⟨ys, hx, rfl⟩ := Option.map_eq_some_iff.mp hf
  refine ⟨Se.H, S, δ, ys, rfl, r, hx, fun p ws S1 x1 h0 h1 h2 h3 => ?_⟩
  refine q _ S1 (xe.trans x1) ((r.mono x1).set ⟨p, ws, rfl, h2, h1, xe.h.free h0, h3⟩ ?_)
  intro es' j a' fs e1 e2 e3 e4
  cases e2
  obtain ⟨w, hw, a2, vs2, f1, f2, _⟩ := r.at_ j _ e3
  rw [e4] at hw
  cases hw
  cases f1
  rw [h0] at f2
  cases f2
theorem ds_new {i : Nat} {x : Str} {pos' : Pos} {g : List Sl → Option (List D)} (hN : X.N.Nodup) (hi : X.N[i]? = some x) (hx : Loc X.env.scope x) (h : PE X e (tDO2 X.K g))
    (hf : X.fn x = true ∨ X.env.scope.names.lookup x = some .local := by first | exact .inl rfl | exact .inr rfl | assumption) (hs : swapsWith e (some (.Name x pos')) pos.line X.env = pure false := by rfl) : DS X (.Assign [.Name x pos'] e pos) (gNew i g) :=
  ps_conseq (ps_set (i := i) hN hi hx h hs hf) fun Dn σ H h => new_run h
/-- list(e) -/
def nList (f : FE) : List Sl → Option (List D) := fun δ => (f δ).bind fun d => match d with
  | .list ds => some ds
  | .tuple ds => some ds
  | _ => none
theorem do_list {p : Pos} (hg : Gl X "list") (hm : X.mg "list" = none) (ha : DE X e f) (he : starEach [e] X.env = (false, eval e X.env) :: starEach [] X.env := by rfl) (hpl : (backTo pos (starEach [] X.env)).any (·.1) = false := by rfl) : PE X (.Call (.Name "list" p) [e] [] pos) (tDO2 X.K (nList f)) :=
  pe_conseq (pe_callTy call_list_of hg hm (by decide +kernel) (pa_cons ha pa_nil he) (he := he) (hpl := hpl)) fun σ H Q h => by
    obtain ⟨E, S, δ, ys, rfl, r, hf, q⟩ := h
    obtain ⟨d, hx, hf⟩ := Option.bind_eq_some_iff.mp hf
    refine ⟨E, S, δ, d, rfl, r, hx, fun v S1 x1 r1 => ?_⟩
    cases d with
    | list ds =>
      cases hf
      cases r1 with
      | lst a1 b1 =>
        refine ⟨_, _, rfl, .inl (S1.ok.seq a1), fun l hl => ?_⟩
        have zl : S1.Z l = none := S1.ok.free hl
        exact q l _ (S1.put l (.lst _) zl) (x1.trans ⟨Same.refl _, same_upd hl _, fun _ h _ => h⟩) (x1.h.free hl) zl upd_same b1
    | tuple ds =>
      cases hf
      cases r1 with
      | tup a1 b1 =>
        refine ⟨_, _, rfl, .inr (sqt_mono S1.ok a1), fun l hl => ?_⟩
        have zl : S1.Z l = none := S1.ok.free hl
        exact q l _ (S1.put l (.lst _) zl) (x1.trans ⟨Same.refl _, same_upd hl _, fun _ h _ => h⟩) (x1.h.free hl) zl upd_same b1
    | _ => cases hf
/-- a def that gives a new list of plain items -/
def spFr (K : PySem.W.Frag) (F : List D → Option (List D)) : Sp := fun vs H Q _ => ∃ (S : Stt) (ds ys : List D), S.H = H ∧ RvL K S.Z ds vs ∧ F ds = some ys ∧ ∀ p ws S', Ex S S' → S.H p = none → S'.Z p = none → S'.H p = some (.lst ws) → RvL K S'.Z ys ws → Q (.ref p) S'.H
def allInts : List D → Bool
  | [] => true
  | .int _ :: r => allInts r
  | _ => false
theorem ints_rv {K : PySem.W.Frag} {H H' : Hp} : ∀ {ds : List D} {vs : List V}, allInts ds = true → RvL K H ds vs → RvL K H' ds vs
  | [], _, _, h => by cases h; exact .nil
  | d :: r, _, hd, h => by
    cases h with
    | cons a b =>
      cases d with
      | int i => cases a; exact .cons (.int i) (ints_rv hd b)
      | _ => cases hd
def nCall (F : List D → Option (List D)) (g : FA) : List Sl → Option (List D) := fun δ => (g (borrow δ)).bind fun ds => (F ds).bind fun ys => if allInts ys then some ys else none
theorem do_call {x : Str} {fa : Addr} {fd : FuncData} {ps : List Str} {k j : Nat} {es : List Expr} {p : Pos} {F : List D → Option (List D)} {g : FA} (G : FnOk X.prog X.w X.K X.mg X.base CX0 k fa fd ps (spFr X.K F)) (hr : Room j X.A) (hkj : k ≤ j) (hg : Gl X x) (hm : X.mg x = some (.ref fa)) (hk : PySem.W.keepIn X.K (.ref fa) = true) (hb : Binds X.K fd ps [])
    (ha : DA X (e :: es) g) (hdb : (x == ("__debug__" : Str)) = false := by decide) (he : starEach (e :: es) X.env = (false, eval e X.env) :: starEach es X.env := by rfl) (hpl : (backTo pos (starEach es X.env)).any (·.1) = false := by rfl) : PE X (.Call (.Name x p) (e :: es) [] pos) (tDO2 X.K (nCall F g)) :=
  pe_conseq (pe_call G (hr.mono hkj) hg hm hk hb .nil pass0 ha hdb he hpl) fun σ H Q h => by
    obtain ⟨E, S, δ, ys, rfl, r, hf, q⟩ := h
    obtain ⟨ds, hx, hf⟩ := Option.bind_eq_some_iff.mp hf
    obtain ⟨ys', hy, hf⟩ := Option.bind_eq_some_iff.mp hf
    split at hf
    · rename_i hi
      cases hf
      refine ⟨E, ⟨borZ S σ δ, S.H, borZ_ok⟩, borrow δ, ds, rfl, r.borrow, hx, fun vs S1 x1 r1 => ⟨S1, ds, ys, rfl, by rw [List.append_nil]; exact r1, hy, fun p ws S2 x2 h0 h1 h2 h3 => ?_⟩⟩
      obtain ⟨S3, x3, e3, e4⟩ := unborrow (x1.trans x2)
      have hp : S.H p = none := x1.h.free h0
      have := q p ws S3 x3 hp (by rw [e4]; exact S.ok.free hp) (by rw [e3]; exact h2) (ints_rv hi h3)
      rw [e3] at this
      exact this
    · cases hf
/-! ### list(range(..)) -/
def eLr1 (f : FE) : FE := fun δ => (f δ).bind fun d => match d with
  | .int n => if 0 ≤ n ∧ n ≤ 16777216 then some (.list (rangeD 0 n.toNat)) else none
  | _ => none
def eLr2 (f g : FE) : FE := fun δ => (f δ).bind fun d => (g δ).bind fun d' => match d, d' with
  | .int i, .int n => if 0 ≤ i ∧ i ≤ 16777216 ∧ 0 ≤ n ∧ n ≤ 16777216 then some (.list (rangeD i (n - i).toNat)) else none
  | _, _ => none
theorem rv_range {K : PySem.W.Frag} {H : Hp} (lo : Int) (n : Nat) : RvL K H (rangeD lo n) ((List.range n).map fun i => V.int (lo + (i : Nat))) := by
  unfold rangeD
  induction List.range n with
  | nil => exact .nil
  | cons a r ih => exact .cons (.int _) ih
theorem de_lr1 {p p2 pos2 : Pos} (hc : X.calm = true) (hg : Gl X "list") (hm : X.mg "list" = none) (hg2 : Gl X "range") (hm2 : X.mg "range" = none) (ha : DE X e f)
    (na : starEach [e] X.env = (false, eval e X.env) :: starEach [] X.env := by rfl) (na2 : starEach [.Call (.Name "range" p2) [e] [] pos2] X.env = (false, eval (.Call (.Name "range" p2) [e] [] pos2) X.env) :: starEach [] X.env := by rfl) : DE X (.Call (.Name "list" p) [.Call (.Name "range" p2) [e] [] pos2] [] pos) (eLr1 f) :=
  pe_conseq (pe_listRg hc hg hm (prg_1 hg2 hm2 ha na) na2) fun σ H Q h => by
    obtain ⟨E, S, δ, d, rfl, r, hf, q⟩ := h
    obtain ⟨x, hx, hf⟩ := Option.bind_eq_some_iff.mp hf
    refine ⟨E, S, δ, x, rfl, r, hx, fun v S1 x1 r1 => ?_⟩
    cases x with
    | int n =>
      cases r1
      have hf : (if 0 ≤ n ∧ n ≤ 16777216 then some (PyData.list (rangeD 0 n.toNat)) else none) = some d := hf
      split at hf
      · rename_i hz
        cases hf
        refine ⟨n, rfl, .of_le (by omega) (by omega) (by omega) (by omega), fun l hl => ?_⟩
        refine q _ (S1.lay l (.lst _)) (x1.trans (S1.lay_ex hl)) (lay_lst hl ?_)
        have := rv_range (K := X.K) (H := S1.Z) 0 n.toNat
        unfold rgV
        rw [show (n - 0).toNat = n.toNat by omega]
        exact this
      · cases hf
    | _ => cases hf
theorem de_lr2 {p p2 pos2 : Pos} (hc : X.calm = true) (hg : Gl X "list") (hm : X.mg "list" = none) (hg2 : Gl X "range") (hm2 : X.mg "range" = none) (ha : DE X a fa) (hb : DE X b fb)
    (na : starEach [a, b] X.env = (false, eval a X.env) :: starEach [b] X.env := by rfl) (nb : starEach [b] X.env = (false, eval b X.env) :: starEach [] X.env := by rfl) (hp : (backTo pos2 (starEach [b] X.env)).any (·.1) = false := by rfl) (na2 : starEach [.Call (.Name "range" p2) [a, b] [] pos2] X.env = (false, eval (.Call (.Name "range" p2) [a, b] [] pos2) X.env) :: starEach [] X.env := by rfl) : DE X (.Call (.Name "list" p) [.Call (.Name "range" p2) [a, b] [] pos2] [] pos) (eLr2 fa fb) :=
  pe_conseq (pe_listRg hc hg hm (prg_2 hg2 hm2 ha hb na nb hp) na2) fun σ H Q h => by
    obtain ⟨E, S, δ, d, rfl, r, hf, q⟩ := h
    obtain ⟨x, hx, hf⟩ := Option.bind_eq_some_iff.mp hf
    obtain ⟨y, hy, hf⟩ := Option.bind_eq_some_iff.mp hf
    refine ⟨E, S, δ, x, rfl, r, hx, fun v S1 x1 r1 => ⟨E, S1, δ, y, rfl, r.mono x1, hy, fun u S2 x2 r2 => ?_⟩⟩
    cases x with
    | int i =>
      cases y with
      | int n =>
        cases r1
        cases r2
        have hf : (if 0 ≤ i ∧ i ≤ 16777216 ∧ 0 ≤ n ∧ n ≤ 16777216 then some (PyData.list (rangeD i (n - i).toNat)) else none) = some d := hf
        split at hf
        · rename_i hz
          cases hf
          refine ⟨i, n, rfl, rfl, .of_le (by omega) (by omega) (by omega) (by omega), fun l hl => ?_⟩
          exact q _ (S2.lay l (.lst _)) ((x1.trans x2).trans (S2.lay_ex hl)) (lay_lst hl (rv_range i (n - i).toNat))
        · cases hf
      | _ => cases hf
    | _ => cases hf
/-- a comprehension that gives a new list of the caller's own -/
def nLc (fi : FI) (i : Nat) (ft fe : FE) : List Sl → Option (List D) := fun δ => (fi δ).bind fun ds => (lcD i (δ.set i .un) ft fe ds).bind fun ys => if ys.length ≤ lim then some ys else none
theorem do_lc {elt tg iter : Expr} {ifs : List Expr} {scope : Scope} {x : Str} {i : Nat} {fi : FI} {ft fe : FE} (hc : X.calm = true) (hN : X.N.Nodup) (hi : WI X tg iter fi) (ok : BlkOk X.N X.env.scope scope [(x, i)])
    (hg : ∀ (s : Shared) (H : Hp) (C : Addr) (cl : List (Str × Addr)) (fp : List Addr), PG (X.blk s H scope (compEnvC scope cl C X.env) fp) tg (gName i)) (ht : ∀ (s : Shared) (H : Hp) (C : Addr) (cl : List (Str × Addr)) (fp : List Addr), PTs (X.blk s H scope (compEnvC scope cl C X.env) fp) ifs (tDT X.K ft))
    (he : ∀ (s : Shared) (H : Hp) (C : Addr) (cl : List (Str × Addr)) (fp : List Addr), PE (X.blk s H scope (compEnvC scope cl C X.env) fp) elt (tD X.K fe)) (hs : ∀ x, foldedSetIterable iter X.env x = pure x := by intro _; rfl) :
    PE X (.ListComp elt [⟨tg, iter, ifs, 0⟩] scope pos) (tDO2 X.K (nLc fi i ft fe)) :=
  pe_conseq (pe_lc (own := [(x, i)]) hc hN hi ok hg ht he hs) fun σ H Q h => by
    obtain ⟨E, S, δ, ys, rfl, r, hf, q⟩ := h
    obtain ⟨ds, hx, hf⟩ := Option.bind_eq_some_iff.mp hf
    obtain ⟨ys', hy, hf⟩ := Option.bind_eq_some_iff.mp hf
    split at hf
    · rename_i hz
      cases hf
      exact lc_runO r hx hy hz q
    · cases hf
end
def Fxr (P : Program) (w : World) (K : PySem.W.Frag) (mg : Str → Option Value) (base : Heap) (x : Str) (ps : List Str) (lv : Nat) (F : List D → Option (List D)) : Prop :=
  ∃ (fa : Addr) (fd : FuncData), FnOk P w K mg base CX0 lv fa fd ps (spFr K F) ∧ mg x = some (.ref fa) ∧ PySem.W.keepIn K (.ref fa) = true ∧ Binds K fd ps []
def runR (n np : Nat) (f : List Sl → Option (List D)) : List D → Option (List D) := fun ds => if ds.length = np then f (startD n ds) else none
theorem fxr_of {P : Program} {w : World} {K : PySem.W.Frag} {mg : Str → Option Value} {base : Heap} {x : Str} {st : Stmt} {N ps : List Str} {k n np : Nat} {f : List Sl → Option (List D)} (d : Df K mg x st ps) (Sc : FnScope N ps (defScope st)) (hn : N.length = n) (hp : ps.length = np)
    (hbody : ∀ (fa : Addr) (cdv : Value) (A : Around) (outer : List Env) (s : Shared) (H : Hp) (E : XK), Room k (A.deeper (envOfC x (defScope st) s.heap.objs.size fa cdv)) → PSs (cxOf CX0 P w K mg base N x (defScope st) fa cdv A outer s H E).nox (defBody st) (tRet (tDO2 K f))) :
    Fxr P w K mg base x ps (k + 1) (runR n np f) := by
  subst hn hp
  obtain ⟨fa, fd, F, hm, hb⟩ := d
  refine ⟨fa, fd, F.ok Sc (fun vs H Q E h => ?_) (fun cdv A outer s H vs Q E hr h => ?_), hm, F.kp, hb⟩
  · obtain ⟨S, ds, ys, rfl, rl, hf, q⟩ := h
    unfold runR at hf
    split at hf
    · rename_i hz
      rw [rl.length, hz]
    · cases hf
  · refine ⟨_, hbody fa cdv A outer s H E hr, ?_⟩
    obtain ⟨S, ds, ys, rfl, rl, hf, q⟩ := h
    unfold runR at hf
    split at hf
    · exact ⟨S.H, S, _, ys, rfl, start_rv rl, hf, q⟩
    · cases hf
section
variable {X : Cx} {e : Expr} {pos : Pos}
theorem do_callx {x : Str} {ps : List Str} {k j : Nat} {es : List Expr} {p : Pos} {F : List D → Option (List D)} {g : FA} (c : Fxr X.prog X.w X.K X.mg X.base x ps k F) (hr : Room j X.A) (hk : k ≤ j) (hg : Gl X x)
    (ha : DA X (e :: es) g) (hdb : (x == ("__debug__" : Str)) = false := by decide) (he : starEach (e :: es) X.env = (false, eval e X.env) :: starEach es X.env := by rfl) (hpl : (backTo pos (starEach es X.env)).any (·.1) = false := by rfl) : PE X (.Call (.Name x p) (e :: es) [] pos) (tDO2 X.K (nCall F g)) :=
  let ⟨_, _, G, hm, kp, hb⟩ := c
  do_call G hr hk hg hm kp hb ha hdb he hpl
end
end Pd

set_option Elab.async false
set_option linter.all false
set_option maxRecDepth 100000
set_option maxHeartbeats 4000000
/-! t[::-1] of a tuple; upper, count of data. -/
namespace Pd
open PySem PySem.Spec PyProof.Rows L2 HT PySem.W
section
variable {prog : Program} {w : World} {A : Around} {E : Value → Shared → Prop} {s : Shared}
theorem pick_all {α : Type} : ∀ m : List α, (List.range m.length).filterMap (fun k => m[k]?) = m
  | [] => rfl
  | a :: r => by
    rw [List.length_cons, List.range_succ_eq_map, List.filterMap_cons, List.filterMap_map]
    show a :: List.filterMap ((fun k => (a :: r)[k]?) ∘ Nat.succ) (List.range r.length) = a :: r
    congr 1
    exact pick_all r
theorem adjust_rev (n : Nat) : Builtin.Slice.sliceAdjust none none (-1) (n : Int) = ((n : Int) - 1, -1) := by
  unfold Builtin.Slice.sliceAdjust
  simp
theorem places_rev (n : Nat) : Builtin.Slice.slicePlaces ((n : Int) - 1) (-1) (-1) = n := by
  unfold Builtin.Slice.slicePlaces
  rw [if_neg (by decide)]
  split
  · simp
  · simp
    omega
theorem fm_congr {α β : Type} {f g : α → Option β} : ∀ {l : List α}, (∀ x ∈ l, f x = g x) → l.filterMap f = l.filterMap g
  | [], _ => rfl
  | a :: r, h => by
    rw [List.filterMap_cons, List.filterMap_cons, h a (List.mem_cons_self ..), fm_congr fun x hx => h x (List.mem_cons_of_mem _ hx)]
theorem pick_rev (l : List Value) : (List.range l.length).filterMap (fun (k : Nat) => l.toArray[((l.length : Int) - 1 + (k : Int) * (-1)).toNat]?) = l.reverse := by
  have h := pick_all l.reverse
  rw [List.length_reverse] at h
  rw [← h]
  apply fm_congr
  intro k hk
  have hk := List.mem_range.mp hk
  rw [List.getElem?_reverse hk, List.getElem?_toArray]
  congr 1
  omega
theorem getItem_tuple_rev {t sl : Addr} {items : Array Value} {Q : Value → Shared → Prop} {vl vu vs : Value} {one : Option Int} (ht : IsTup s.heap t items) (hs : s.heap.IsSliceOf sl vl vu vs) (pl : IsPart vl none) (pu : IsPart vu none) (ps : IsPart vs (some (-1)))
    (h : Q (.ref s.heap.objs.size) { s with heap := s.heap.push { cls := .type "tuple", data := .seq items.toList.reverse.toArray } }) (hsz : items.size ≤ sizeLine) : wpAny (model prog w) A (getItem (.ref t) (.ref sl)) Q E s := by
  obtain ⟨os, hos, hcs, hds⟩ := id hs
  have hTs : s.TypeIs (.ref sl) "slice" := ⟨os, hos, hcs⟩
  unfold getItem
  try with_reducible refine wpAny_holding ?_
  first | refine wpAny_bind (wpAny_pure ?_) | skip
  refine wpAny_bind (wpAny_sequenceKey ht.typeIs (by decide) ?_)
  refine wpAny_bind (wpAny_callSpecial?_slot (name := Str.ofString "__getitem__") ht.typeIs PyProof.Rows.slot_tuple_getitem
    (wpAny_call_entry PyProof.Rows.slot_tuple_getitem ht.typeIs entry_tuple_getitem ?_ (args_tuple_getitem _ _)))
  show wpAny _ _ (Builtin.Tuple.tupleItemsOf (.ref t) >>= _) _ _ s
  refine wpAny_bind (tupleItemsOf_ ht ?_)
  refine wpAny_bind (wpAny_typeOf hTs ?_)
  rw [if_pos (by decide)]
  refine wpAny_bind ?_
  unfold Builtin.Slice.sliceApplied Builtin.Slice.sliceFields
  refine wpAny_bind (wpAny_bind (wpAny_field hos hds (x := vl) rfl (wpAny_bind (wpAny_field hos hds (x := vu) rfl (wpAny_bind (wpAny_field hos hds (x := vs) rfl (wpAny_pure ?_)))))))
  refine wpAny_bind (slicePart_ ps ?_)
  show wpAny _ _ (if ((-1 : Int) == 0) = true then _ else _) _ _ s
  rw [if_neg (by decide)]
  refine wpAny_bind (slicePart_ pl (wpAny_bind (slicePart_ pu (wpAny_bind (wpAny_pure ?_)))))
  have htake : sizeOk (.seq items.toList.reverse.toArray) := by
    show items.toList.reverse.toArray.size ≤ sizeLine
    rw [List.size_toArray, List.length_reverse, Array.length_toList]
    exact hsz
  show wpAny _ _ (match Builtin.Slice.sliceAdjust none none (-1) (items.size : Int) with | (lo, hi) => pure (lo, (-1 : Int), Builtin.Slice.slicePlaces lo hi (-1))) _ _ s
  rw [adjust_rev]
  show wpAny _ _ (pure (((items.size : Int) - 1), (-1 : Int), Builtin.Slice.slicePlaces ((items.size : Int) - 1) (-1) (-1))) _ _ s
  rw [places_rev]
  refine wpAny_pure ?_
  have hno : ¬ ((((items.size : Int) - 1 == 0) && ((-1 : Int) == 1) && (items.size == items.size)) = true) := by
    intro q
    rw [Bool.and_eq_true, Bool.and_eq_true] at q
    exact absurd q.1.2 (by decide)
  have hpick : (List.filterMap (fun (k : Nat) => items[((items.size : Int) - 1 + (k : Int) * (-1)).toNat]?) (List.range items.size)) = items.toList.reverse := by
    have := pick_rev items.toList
    simpa using this
  show wpAny _ _ (if (((items.size : Int) - 1 == 0) && ((-1 : Int) == 1) && (items.size == items.size)) = true then _ else _) _ _ s
  rw [if_neg hno, hpick]
  first
    | exact wpAny_bind (m := Builtin.Tuple.tupleExact _) (wpAny_newObj_type (wpAny_pure ⟨_, rfl, wpAny_pure h⟩) htake)
    | exact wpAny_bind (m := Builtin.Tuple.tupleExact _) (wpAny_newObj_type (wpAny_bind (wpAny_pure (wpAny_pure ⟨_, rfl, wpAny_pure h⟩))) htake)
    | exact wpAny_bind (wpAny_bind (m := Builtin.Tuple.tupleExact _) (wpAny_newObj_type (wpAny_pure (wpAny_pure ⟨_, rfl, wpAny_pure h⟩)) htake))
    | exact wpAny_bind (wpAny_bind (m := Builtin.Tuple.tupleExact _) (wpAny_newObj_type (wpAny_pure ⟨_, rfl, wpAny_pure h⟩) htake))
end
section
variable {X : Cx} {a b c e : Expr} {fa fb fc f : FE} {pos : Pos}
def tRevT (K : PySem.W.Frag) (te : TE) : TE := fun σ H Q => te σ H fun x H1 => ∃ a xs, x = .ref a ∧ SqT K H1 a xs ∧ QTup H1 xs.reverse Q
theorem pe_revT {e : Expr} {te : TE} {k : Nat} {p1 p2 p3 pos : Pos} (he : PE X e te) : PE X (.Subscript e (.Slice none none (some (.UnaryOp .USub (.Constant (.int 1) k p1) p2)) p3) pos) (tRevT X.K te) := by
  refine ⟨fun pins s σ H Q I h => ?_⟩
  refine Subscript_ (thn (he.run pins s σ H _ I h) fun v s1 ⟨x, H1, I1, r1, q1⟩ => ?_)
  obtain ⟨a, xs, ex, hx, q⟩ := q1
  subst ex
  cases r1
  have hst : PO X (some (.UnaryOp .USub (.Constant (.int 1) k p1) p2)) (tPart (tUn (rU fun i => .int (-i)) (tC (.int 1)))) := po_some (pe_un un_neg pe_int)
  refine wpAny_Slice (thn (po_none.run pins s1 σ H1 (fun o H2 => o = none ∧ H2 = H1) I1 ⟨rfl, rfl⟩) fun vl s2 ⟨l, H2, I2, pl, el, e2⟩ => ?_)
  subst el e2
  refine thn (po_none.run pins s2 σ H2 (fun o H3 => o = none ∧ H3 = H2) I2 ⟨rfl, rfl⟩) fun vu s3 ⟨u, H3, I3, pu, eu, e3⟩ => ?_
  subst eu e3
  refine thn (hst.run pins s3 σ H3 (fun o H4 => o = some (-1) ∧ H4 = H3) I3 ⟨1, rfl, -1, rfl, rfl, rfl⟩) fun vs s4 ⟨o, H4, I4, ps, eo, e4⟩ => ?_
  subst eo e4
  have I5 : Inv X pins σ H4 { s4 with heap := s4.heap.push { cls := .type "slice", data := .fields #[vl, vu, vs] } } := I4.kept (t' := s4.toks) fun b ob q => Heap.get?_push_of_some _ q
  obtain ⟨its, r, ht, hz⟩ := I5.tuple hx
  have hlen := r.length
  show wpAny (model X.prog X.w) X.A (subscriptTail e (.Slice none none (some (.UnaryOp .USub (.Constant (.int 1) k p1) p2)) p3) (.ref a) (.ref s4.heap.objs.size)) (EP X pins σ Q) X.xe { s4 with heap := s4.heap.push { cls := .type "slice", data := .fields #[vl, vu, vs] } }
  refine tail_any (ops := [.ref a, .ref s4.heap.objs.size]) ht.typeIs (PyProof.Rows.slot_tuple_getitem.lookup) ?_ (by with_unfolding_all rfl)
  refine getItem_tuple_rev (one := none) ht (Heap.IsSliceOf.new _ vl vu vs) pl pu ps ?_ (by rw [List.size_toArray]; omega)
  have er : its.toArray.toList.reverse.toArray = its.reverse.toArray := by simp
  rw [er]
  exact new_tup I5 r.reverse (by rw [List.length_reverse]; exact hz) q
def revT : D → Option D
  | .tuple ds => some (.tuple ds.reverse)
  | _ => none
def revL : D → Option D
  | .list ds => some (.list ds.reverse)
  | _ => none
theorem de_revT {k : Nat} {p1 p2 p3 : Pos} (he : DE X e f) : DE X (.Subscript e (.Slice none none (some (.UnaryOp .USub (.Constant (.int 1) k p1) p2)) p3) pos) (e1 revT f) :=
  pe_conseq (pe_revT he) fun σ H Q h => by
    obtain ⟨E, S, δ, d, rfl, r, hf, q⟩ := h
    obtain ⟨x, hx, hf⟩ := Option.bind_eq_some_iff.mp hf
    refine ⟨E, S, δ, x, rfl, r, hx, fun v S1 x1 r1 => ?_⟩
    cases x with
    | tuple ds =>
      cases hf
      cases r1 with
      | tup a1 b1 => exact ⟨_, _, rfl, sqt_mono S1.ok a1, q_tup x1 b1.reverse q⟩
    | _ => cases hf
theorem de_revL {k : Nat} {p1 p2 p3 : Pos} (he : DE X e f) : DE X (.Subscript e (.Slice none none (some (.UnaryOp .USub (.Constant (.int 1) k p1) p2)) p3) pos) (e1 revL f) :=
  pe_conseq (pe_revL he) fun σ H Q h => by
    obtain ⟨E, S, δ, d, rfl, r, hf, q⟩ := h
    obtain ⟨x, hx, hf⟩ := Option.bind_eq_some_iff.mp hf
    refine ⟨E, S, δ, x, rfl, r, hx, fun v S1 x1 r1 => ?_⟩
    cases x with
    | list ds =>
      cases hf
      cases r1 with
      | lst a1 b1 => exact ⟨_, _, rfl, S1.ok.seq a1, fun p hp => q _ (S1.lay p (.lst _)) (x1.trans (S1.lay_ex hp)) (lay_lst hp b1.reverse)⟩
    | _ => cases hf
/-- s.upper() -/
def upperD : D → Option D
  | .str x => if x.length ≤ 5592405 then some (.str (Txt.upper x)) else none
  | _ => none
theorem de_upper {apos : Pos} (he : DE X e f) (hbase : attributeBase e "upper" X.env (eval e X.env) = eval e X.env := by rfl) (hline : (apos.endLine == pos.line) = true := by rfl) : DE X (.Call (.Attribute e "upper" apos) [] [] pos) (e1 upperD f) :=
  pe_conseq (pe_upper he (hbase := hbase) (hline := hline)) fun σ H Q h => by
    obtain ⟨E, S, δ, d, rfl, r, hf, q⟩ := h
    obtain ⟨x, hx, hf⟩ := Option.bind_eq_some_iff.mp hf
    refine ⟨E, S, δ, x, rfl, r, hx, fun v S1 x1 r1 => ?_⟩
    cases x with
    | str z =>
      cases r1
      simp only [upperD] at hf
      split at hf
      · rename_i hz
        cases hf
        exact ⟨⟨z, rfl⟩, z, rfl, rfl, hz, q _ S1 x1 (.str _)⟩
      · cases hf
    | _ => cases hf
/-- xs.count(x) -/
def countD : D → D → Option D
  | .list ds, x => if fitD x && fitD (.list ds) then some (.int (ds.countP fun z => PyData.eqv z x : Nat)) else none
  | _, _ => none
def rCntD (K : PySem.W.Frag) : V → List V → Hp → VK → Prop := fun x xs H Q => ∃ p ds y d, x = .ref p ∧ xs = [y] ∧ Dp K H (.ref p) (.list ds) ∧ Dp K H y d ∧ SeqAt.shaped (.list ds) = true ∧ SeqAt.shaped d = true ∧ Q (.int (ds.countP fun z => PyData.eqv z d : Nat)) H
theorem countP_readOf {h : Heap} {d : PyData} : ∀ {its : List Value} {ds : List PyData}, its.map (SeqAt.readOf h) = ds → its.countP (fun u => PyData.eqv (SeqAt.readOf h u) d) = ds.countP fun z => PyData.eqv z d := fun {its ds} e => by
  rw [← e, List.countP_map]
  rfl
theorem mt_countD (hu : X.A.units + 65 < cLine) : MtR X "list.count" (rCntD X.K) := by
  intro pins s σ H x xs v us Q I rx rxs h
  obtain ⟨a, ds, y, d, rfl, rfl, hl, hy, sl, sd, q⟩ := h
  cases rx
  cases rxs with
  | cons ry rt =>
    rename_i uy ut
    cases rt
    obtain ⟨bs, r1⟩ := Dp.reads I d y uy hy ry
    have hxs : PyData.canLayAll0 ds = true := SeqAt.canLay_of_shaped sl
    have hroom : X.A.units + 1 + min (PyData.depthAll ds) d.depth < cLine := room_in_shaped sd hu
    cases hl with
    | lst hs ha =>
      obtain ⟨its, rv, ⟨⟨cls, dd, data, sls⟩, n, ho, hc, hdn, hdt⟩, hlen⟩ := I.list hs
      simp only at hc hdt
      subst hc hdt
      obtain ⟨as, h4⟩ := Dp.readsAll I ds _ its ha rv
      have hmap : its.map (SeqAt.readOf s.heap) = ds := SeqAt.readsAll_map ds its as hxs h4
      refine call_meets PySem.F.slot_list_count ⟨_, ho, rfl⟩ PySem.F.entry_list_count (PySem.F.args_list_count_2 _ _)
        (SeqAt.list_countAt a its.toArray n dd sls uy (fun u => PyData.eqv (SeqAt.readOf s.heap u) d)) ⟨ho, SeqAt.items_eqAt (vs := its.toArray) (show ReadsAll s.heap its.toArray.toList ds as from h4) r1 hxs (SeqAt.canLay_of_shaped sd) hroom, ?_⟩
      refine ⟨.int ((ds.countP fun z => PyData.eqv z d : Nat) : Int), H, I.tok _, ⟨s.toks, ?_⟩, q⟩
      show Value.int ((its.toArray.toList.countP _ : Nat) : Int) s.toks = Value.int _ s.toks
      rw [show its.toArray.toList = its by simp, countP_readOf hmap]
theorem de_count {apos : Pos} (hu : X.A.units + 65 < cLine) (ha : DE X a fa) (hb : DE X b fb)
    (hbase : attributeBase a "count" X.env (eval a X.env) = eval a X.env := by rfl)
    (hfew : ((backTo pos (starEach [b] X.env)).all (fun x => !x.1) && (backToKw pos (keywordEach [] X.env)).all (fun x => x.1.isSome) && decide ([b].length + ([] : List Keyword).length + (if ([] : List Keyword).isEmpty then 0 else 1) < 30)) = true := by rfl)
    (hline : (apos.endLine == pos.line) = true := by rfl) (hs : starEach [b] X.env = (false, eval b X.env) :: starEach [] X.env := by rfl) (hplain : (backTo pos (starEach [] X.env)).any (·.1) = false := by rfl) : DE X (.Call (.Attribute a "count" apos) [b] [] pos) (e2 countD fa fb) :=
  pe_conseq (pe_bm PySem.F.plainAttrs_list PySem.F.slot_list_count PySem.F.type_list_count (mt_countD hu) ha (pa_cons hb pa_nil hs) hbase hfew hline hs hplain) fun σ H Q h => by
    obtain ⟨E, S, δ, d, rfl, r, hf, q⟩ := h
    obtain ⟨x, hx, hf⟩ := Option.bind_eq_some_iff.mp hf
    obtain ⟨y, hy, hf⟩ := Option.bind_eq_some_iff.mp hf
    refine ⟨E, S, δ, x, rfl, r, hx, fun v S1 x1 r1 => ?_⟩
    cases x with
    | list ds =>
      cases r1 with
      | lst a1 b1 =>
        refine ⟨.inl ⟨rfl, _, S1.ok.seq a1⟩, E, S1, δ, y, rfl, r.mono x1, hy, fun u S2 x2 r2 => ?_⟩
        simp only [countD] at hf
        split at hf
        · rename_i hz
          cases hf
          simp only [fitD, Bool.and_eq_true] at hz
          refine ⟨_, ds, u, y, rfl, rfl, ?_, (Rv.mono S2.ok y r2).dp y hz.1.1, hz.2.2, hz.1.2, q _ S2 (x1.trans x2) (.int _)⟩
          exact (Rv.mono S2.ok (.list ds) (Rv.mono x2.z (.list ds) (.lst a1 b1))).dp _ hz.2.1
        · cases hf
    | _ => cases hf
end
end Pd

set_option Elab.async false
set_option linter.all false
set_option maxRecDepth 100000
set_option maxHeartbeats 4000000
/-! Equations by which simp runs a semantic function, a step at a time (what comes behind stays a name). -/
namespace Pd
open PySem PySem.Spec L2
@[simp] theorem lim_eq : lim = 16777216 := by decide
def slK : Option Sl → Option D
  | some (.val d) => some d
  | _ => none
@[simp] theorem slK_val (d : D) : slK (some (.val d)) = some d := rfl
@[simp] theorem eVar_eq (i : Nat) (δ : List Sl) : eVar i δ = slK δ[i]? := by unfold eVar slK; rfl
@[simp] theorem eC_eq (d : D) (δ : List Sl) : eC d δ = some d := rfl
@[simp] theorem e1_eq (g : D → Option D) (fa : FE) (δ : List Sl) : e1 g fa δ = (fa δ).bind g := rfl
def e2k (g : D → D → Option D) (fb : FE) (δ : List Sl) : D → Option D := fun x => (fb δ).bind (g x)
@[simp] theorem e2_eq (g : D → D → Option D) (fa fb : FE) (δ : List Sl) : e2 g fa fb δ = (fa δ).bind (e2k g fb δ) := rfl
@[simp] theorem e2k_eq (g : D → D → Option D) (fb : FE) (δ : List Sl) (x : D) : e2k g fb δ x = (fb δ).bind (g x) := rfl
def chK (g g' : D → D → Option D) (fb fc : FE) (δ : List Sl) (x : D) : Option D := (fb δ).bind fun y => (g x y).bind fun z => match z with
  | .bool true => (fc δ).bind (g' y)
  | .bool false => some (.bool false)
  | _ => none
def chK2 (g g' : D → D → Option D) (fc : FE) (δ : List Sl) (x y : D) : Option D := (g x y).bind fun z => match z with
  | .bool true => (fc δ).bind (g' y)
  | .bool false => some (.bool false)
  | _ => none
def chK3 (g' : D → D → Option D) (fc : FE) (δ : List Sl) (y : D) : D → Option D
  | .bool true => (fc δ).bind (g' y)
  | .bool false => some (.bool false)
  | _ => none
@[simp] theorem eChain_eq (g g' : D → D → Option D) (fa fb fc : FE) (δ : List Sl) : eChain g g' fa fb fc δ = (fa δ).bind (chK g g' fb fc δ) := by unfold eChain chK; rfl
@[simp] theorem chK_eq (g g' : D → D → Option D) (fb fc : FE) (δ : List Sl) (x : D) : chK g g' fb fc δ x = (fb δ).bind (chK2 g g' fc δ x) := by unfold chK chK2; rfl
@[simp] theorem chK2_eq (g g' : D → D → Option D) (fc : FE) (δ : List Sl) (x y : D) : chK2 g g' fc δ x y = (g x y).bind (chK3 g' fc δ y) := by unfold chK2 chK3; rfl
@[simp] theorem chK3_eq (g' : D → D → Option D) (fc : FE) (δ : List Sl) (y : D) (b : Bool) : chK3 g' fc δ y (.bool b) = if b then (fc δ).bind (g' y) else some (.bool false) := by cases b <;> rfl
def andK (fb : FE) (δ : List Sl) : D → Option D
  | .bool true => fb δ
  | .bool false => some (.bool false)
  | _ => none
def orK (fb : FE) (δ : List Sl) : D → Option D
  | .bool true => some (.bool true)
  | .bool false => fb δ
  | _ => none
def notK : D → Option D
  | .bool k => some (.bool (!k))
  | _ => none
def ifEK (fa fb : FE) (δ : List Sl) : D → Option D
  | .bool true => fa δ
  | .bool false => fb δ
  | _ => none
@[simp] theorem eAnd_eq (fa fb : FE) (δ : List Sl) : eAnd fa fb δ = (fa δ).bind (andK fb δ) := by unfold eAnd andK; rfl
@[simp] theorem eOr_eq (fa fb : FE) (δ : List Sl) : eOr fa fb δ = (fa δ).bind (orK fb δ) := by unfold eOr orK; rfl
@[simp] theorem eNot_eq (fa : FE) (δ : List Sl) : eNot fa δ = (fa δ).bind notK := by unfold eNot notK; rfl
@[simp] theorem eIf_eq (ft fa fb : FE) (δ : List Sl) : eIf ft fa fb δ = (ft δ).bind (ifEK fa fb δ) := by unfold eIf ifEK; rfl
@[simp] theorem andK_eq (fb : FE) (δ : List Sl) (b : Bool) : andK fb δ (.bool b) = if b then fb δ else some (.bool false) := by cases b <;> rfl
@[simp] theorem orK_eq (fb : FE) (δ : List Sl) (b : Bool) : orK fb δ (.bool b) = if b then some (.bool true) else fb δ := by cases b <;> rfl
@[simp] theorem notK_eq (b : Bool) : notK (.bool b) = some (.bool (!b)) := rfl
@[simp] theorem ifEK_eq (fa fb : FE) (δ : List Sl) (b : Bool) : ifEK fa fb δ (.bool b) = if b then fa δ else fb δ := by cases b <;> rfl
@[simp] theorem aNil_eq (δ : List Sl) : aNil δ = some [] := rfl
def consK (d : D) : List D → Option (List D) := fun ds => some (d :: ds)
@[simp] theorem consK_eq (d : D) (ds : List D) : consK d ds = some (d :: ds) := rfl
def aK (g : FA) (δ : List Sl) : D → Option (List D) := fun d => (g δ).bind (consK d)
@[simp] theorem aCons_eq (f : FE) (g : FA) (δ : List Sl) : aCons f g δ = (f δ).bind (aK g δ) := by
  unfold aCons aK consK
  rfl
@[simp] theorem aK_eq (g : FA) (δ : List Sl) (d : D) : aK g δ d = (g δ).bind (consK d) := rfl
@[simp] theorem bind_ite {α β : Type} {c : Prop} [Decidable c] (a b : Option α) (k : α → Option β) : (if c then a else b).bind k = if c then a.bind k else b.bind k := by split <;> rfl
def tupK (ds : List D) : Option D := if ds.length ≤ lim then some (.tuple ds) else none
def lstK (ds : List D) : Option D := if ds.length ≤ lim then some (.list ds) else none
@[simp] theorem eTup_eq (g : FA) (δ : List Sl) : eTup g δ = (g δ).bind tupK := rfl
@[simp] theorem eLst_eq (g : FA) (δ : List Sl) : eLst g δ = (g δ).bind lstK := rfl
@[simp] theorem tupK_eq (ds : List D) (h : ds.length ≤ lim) : tupK ds = some (.tuple ds) := if_pos h
@[simp] theorem lstK_eq (ds : List D) (h : ds.length ≤ lim) : lstK ds = some (.list ds) := if_pos h
@[simp] theorem tupK_nil : tupK [] = some (.tuple []) := rfl
@[simp] theorem tupK_1 (a : D) : tupK [a] = some (.tuple [a]) := rfl
@[simp] theorem tupK_2 (a b : D) : tupK [a, b] = some (.tuple [a, b]) := rfl
@[simp] theorem tupK_3 (a b c : D) : tupK [a, b, c] = some (.tuple [a, b, c]) := rfl
@[simp] theorem tupK_4 (a b c d : D) : tupK [a, b, c, d] = some (.tuple [a, b, c, d]) := rfl
@[simp] theorem tupK_6 (a b c d e f : D) : tupK [a, b, c, d, e, f] = some (.tuple [a, b, c, d, e, f]) := rfl
@[simp] theorem lstK_nil : lstK [] = some (.list []) := rfl
@[simp] theorem lstK_1 (a : D) : lstK [a] = some (.list [a]) := rfl
@[simp] theorem lstK_2 (a b : D) : lstK [a, b] = some (.list [a, b]) := rfl
@[simp] theorem lstK_3 (a b c : D) : lstK [a, b, c] = some (.list [a, b, c]) := rfl
@[simp] theorem lstK_4 (a b c d : D) : lstK [a, b, c, d] = some (.list [a, b, c, d]) := rfl
@[simp] theorem lstK_5 (x0 x1 x2 x3 x4 : D) : lstK [x0, x1, x2, x3, x4] = some (.list [x0, x1, x2, x3, x4]) := rfl
@[simp] theorem tupK_5 (x0 x1 x2 x3 x4 : D) : tupK [x0, x1, x2, x3, x4] = some (.tuple [x0, x1, x2, x3, x4]) := rfl
@[simp] theorem lstK_6 (x0 x1 x2 x3 x4 x5 : D) : lstK [x0, x1, x2, x3, x4, x5] = some (.list [x0, x1, x2, x3, x4, x5]) := rfl
@[simp] theorem lstK_7 (x0 x1 x2 x3 x4 x5 x6 : D) : lstK [x0, x1, x2, x3, x4, x5, x6] = some (.list [x0, x1, x2, x3, x4, x5, x6]) := rfl
@[simp] theorem tupK_7 (x0 x1 x2 x3 x4 x5 x6 : D) : tupK [x0, x1, x2, x3, x4, x5, x6] = some (.tuple [x0, x1, x2, x3, x4, x5, x6]) := rfl
@[simp] theorem lstK_8 (x0 x1 x2 x3 x4 x5 x6 x7 : D) : lstK [x0, x1, x2, x3, x4, x5, x6, x7] = some (.list [x0, x1, x2, x3, x4, x5, x6, x7]) := rfl
@[simp] theorem tupK_8 (x0 x1 x2 x3 x4 x5 x6 x7 : D) : tupK [x0, x1, x2, x3, x4, x5, x6, x7] = some (.tuple [x0, x1, x2, x3, x4, x5, x6, x7]) := rfl
@[simp] theorem lstK_9 (x0 x1 x2 x3 x4 x5 x6 x7 x8 : D) : lstK [x0, x1, x2, x3, x4, x5, x6, x7, x8] = some (.list [x0, x1, x2, x3, x4, x5, x6, x7, x8]) := rfl
@[simp] theorem lstK_10 (x0 x1 x2 x3 x4 x5 x6 x7 x8 x9 : D) : lstK [x0, x1, x2, x3, x4, x5, x6, x7, x8, x9] = some (.list [x0, x1, x2, x3, x4, x5, x6, x7, x8, x9]) := rfl
@[simp] theorem lstK_11 (x0 x1 x2 x3 x4 x5 x6 x7 x8 x9 x10 : D) : lstK [x0, x1, x2, x3, x4, x5, x6, x7, x8, x9, x10] = some (.list [x0, x1, x2, x3, x4, x5, x6, x7, x8, x9, x10]) := rfl
@[simp] theorem lstK_12 (x0 x1 x2 x3 x4 x5 x6 x7 x8 x9 x10 x11 : D) : lstK [x0, x1, x2, x3, x4, x5, x6, x7, x8, x9, x10, x11] = some (.list [x0, x1, x2, x3, x4, x5, x6, x7, x8, x9, x10, x11]) := rfl
@[simp] theorem lstK_13 (x0 x1 x2 x3 x4 x5 x6 x7 x8 x9 x10 x11 x12 : D) : lstK [x0, x1, x2, x3, x4, x5, x6, x7, x8, x9, x10, x11, x12] = some (.list [x0, x1, x2, x3, x4, x5, x6, x7, x8, x9, x10, x11, x12]) := rfl
@[simp] theorem lstK_14 (x0 x1 x2 x3 x4 x5 x6 x7 x8 x9 x10 x11 x12 x13 : D) : lstK [x0, x1, x2, x3, x4, x5, x6, x7, x8, x9, x10, x11, x12, x13] = some (.list [x0, x1, x2, x3, x4, x5, x6, x7, x8, x9, x10, x11, x12, x13]) := rfl
@[simp] theorem lstK_15 (x0 x1 x2 x3 x4 x5 x6 x7 x8 x9 x10 x11 x12 x13 x14 : D) : lstK [x0, x1, x2, x3, x4, x5, x6, x7, x8, x9, x10, x11, x12, x13, x14] = some (.list [x0, x1, x2, x3, x4, x5, x6, x7, x8, x9, x10, x11, x12, x13, x14]) := rfl
@[simp] theorem lstK_16 (x0 x1 x2 x3 x4 x5 x6 x7 x8 x9 x10 x11 x12 x13 x14 x15 : D) : lstK [x0, x1, x2, x3, x4, x5, x6, x7, x8, x9, x10, x11, x12, x13, x14, x15] = some (.list [x0, x1, x2, x3, x4, x5, x6, x7, x8, x9, x10, x11, x12, x13, x14, x15]) := rfl
@[simp] theorem lstK_17 (x0 x1 x2 x3 x4 x5 x6 x7 x8 x9 x10 x11 x12 x13 x14 x15 x16 : D) : lstK [x0, x1, x2, x3, x4, x5, x6, x7, x8, x9, x10, x11, x12, x13, x14, x15, x16] = some (.list [x0, x1, x2, x3, x4, x5, x6, x7, x8, x9, x10, x11, x12, x13, x14, x15, x16]) := rfl
@[simp] theorem lstK_18 (x0 x1 x2 x3 x4 x5 x6 x7 x8 x9 x10 x11 x12 x13 x14 x15 x16 x17 : D) : lstK [x0, x1, x2, x3, x4, x5, x6, x7, x8, x9, x10, x11, x12, x13, x14, x15, x16, x17] = some (.list [x0, x1, x2, x3, x4, x5, x6, x7, x8, x9, x10, x11, x12, x13, x14, x15, x16, x17]) := rfl
@[simp] theorem lstK_19 (x0 x1 x2 x3 x4 x5 x6 x7 x8 x9 x10 x11 x12 x13 x14 x15 x16 x17 x18 : D) : lstK [x0, x1, x2, x3, x4, x5, x6, x7, x8, x9, x10, x11, x12, x13, x14, x15, x16, x17, x18] = some (.list [x0, x1, x2, x3, x4, x5, x6, x7, x8, x9, x10, x11, x12, x13, x14, x15, x16, x17, x18]) := rfl
@[simp] theorem lstK_20 (x0 x1 x2 x3 x4 x5 x6 x7 x8 x9 x10 x11 x12 x13 x14 x15 x16 x17 x18 x19 : D) : lstK [x0, x1, x2, x3, x4, x5, x6, x7, x8, x9, x10, x11, x12, x13, x14, x15, x16, x17, x18, x19] = some (.list [x0, x1, x2, x3, x4, x5, x6, x7, x8, x9, x10, x11, x12, x13, x14, x15, x16, x17, x18, x19]) := rfl
theorem mapF_nil (δ : List Sl) : mapF [] δ = some [] := rfl
def mapK (k : Str) (d : D) : List (D × D) → Option (List (D × D)) := fun ds => some ((.str k, d) :: ds)
@[simp] theorem mapK_eq (k : Str) (d : D) (ds : List (D × D)) : mapK k d ds = some ((.str k, d) :: ds) := rfl
def mapK1 (k : Str) (r : List (Str × FE)) (δ : List Sl) : D → Option (List (D × D)) := fun d => (mapF r δ).bind (mapK k d)
@[simp] theorem mapK1_eq (k : Str) (r : List (Str × FE)) (δ : List Sl) (d : D) : mapK1 k r δ d = (mapF r δ).bind (mapK k d) := rfl
theorem mapF_cons (k : Str) (f : FE) (r : List (Str × FE)) (δ : List Sl) : mapF ((k, f) :: r) δ = (f δ).bind (mapK1 k r δ) := rfl
theorem eDict_eq (kfs : List (Str × FE)) (δ : List Sl) (h : (decide (kfs.length ≤ 15) && decide (kfs.map (·.1)).Nodup) = true) : eDict kfs δ = (mapF kfs δ).bind fun ds => some (.dict ds) := by
  unfold eDict
  rw [h]
  rfl
@[simp] theorem eCall_eq (F : List D → Option D) (g : FA) (δ : List Sl) : eCall F g δ = (g δ).bind F := rfl
@[simp] theorem eCB_eq (F : List D → Option D) (g : FA) (δ : List Sl) : eCB F g δ = (g δ).bind F := rfl
def isK (T : String) : D → Option D := fun d => some (.bool (isTy T d))
@[simp] theorem eIs_eq (T : String) (f : FE) (δ : List Sl) : eIs T f δ = (f δ).bind (isK T) := by
  unfold eIs isK
  cases f δ <;> rfl
@[simp] theorem isK_int (T : String) (i : Int) : isK T (.int i) = some (.bool ((kitB "int" T).getD false)) := rfl
@[simp] theorem isK_str (T : String) (i : Str) : isK T (.str i) = some (.bool ((kitB "str" T).getD false)) := rfl
@[simp] theorem isK_bool (T : String) (i : Bool) : isK T (.bool i) = some (.bool ((kitB "bool" T).getD false)) := rfl
@[simp] theorem isK_none (T : String) : isK T .none = some (.bool ((kitB "NoneType" T).getD false)) := rfl
@[simp] theorem isK_list (T : String) (i : List D) : isK T (.list i) = some (.bool ((kitB "list" T).getD false)) := rfl
@[simp] theorem isK_tuple (T : String) (i : List D) : isK T (.tuple i) = some (.bool ((kitB "tuple" T).getD false)) := rfl
@[simp] theorem isK_dict (T : String) (i : List (D × D)) : isK T (.dict i) = some (.bool ((kitB "dict" T).getD false)) := rfl
@[simp] theorem kit_NoneType_bool : (kitB "NoneType" "bool").getD false = false := by decide +kernel
@[simp] theorem kit_NoneType_int : (kitB "NoneType" "int").getD false = false := by decide +kernel
@[simp] theorem kit_NoneType_str : (kitB "NoneType" "str").getD false = false := by decide +kernel
@[simp] theorem kit_NoneType_list : (kitB "NoneType" "list").getD false = false := by decide +kernel
@[simp] theorem kit_NoneType_tuple : (kitB "NoneType" "tuple").getD false = false := by decide +kernel
@[simp] theorem kit_NoneType_dict : (kitB "NoneType" "dict").getD false = false := by decide +kernel
@[simp] theorem kit_bool_bool : (kitB "bool" "bool").getD false = true := by decide +kernel
@[simp] theorem kit_bool_int : (kitB "bool" "int").getD false = true := by decide +kernel
@[simp] theorem kit_bool_str : (kitB "bool" "str").getD false = false := by decide +kernel
@[simp] theorem kit_bool_list : (kitB "bool" "list").getD false = false := by decide +kernel
@[simp] theorem kit_bool_tuple : (kitB "bool" "tuple").getD false = false := by decide +kernel
@[simp] theorem kit_bool_dict : (kitB "bool" "dict").getD false = false := by decide +kernel
@[simp] theorem kit_int_bool : (kitB "int" "bool").getD false = false := by decide +kernel
@[simp] theorem kit_int_int : (kitB "int" "int").getD false = true := by decide +kernel
@[simp] theorem kit_int_str : (kitB "int" "str").getD false = false := by decide +kernel
@[simp] theorem kit_int_list : (kitB "int" "list").getD false = false := by decide +kernel
@[simp] theorem kit_int_tuple : (kitB "int" "tuple").getD false = false := by decide +kernel
@[simp] theorem kit_int_dict : (kitB "int" "dict").getD false = false := by decide +kernel
@[simp] theorem kit_str_bool : (kitB "str" "bool").getD false = false := by decide +kernel
@[simp] theorem kit_str_int : (kitB "str" "int").getD false = false := by decide +kernel
@[simp] theorem kit_str_str : (kitB "str" "str").getD false = true := by decide +kernel
@[simp] theorem kit_str_list : (kitB "str" "list").getD false = false := by decide +kernel
@[simp] theorem kit_str_tuple : (kitB "str" "tuple").getD false = false := by decide +kernel
@[simp] theorem kit_str_dict : (kitB "str" "dict").getD false = false := by decide +kernel
@[simp] theorem kit_list_bool : (kitB "list" "bool").getD false = false := by decide +kernel
@[simp] theorem kit_list_int : (kitB "list" "int").getD false = false := by decide +kernel
@[simp] theorem kit_list_str : (kitB "list" "str").getD false = false := by decide +kernel
@[simp] theorem kit_list_list : (kitB "list" "list").getD false = true := by decide +kernel
@[simp] theorem kit_list_tuple : (kitB "list" "tuple").getD false = false := by decide +kernel
@[simp] theorem kit_list_dict : (kitB "list" "dict").getD false = false := by decide +kernel
@[simp] theorem kit_tuple_bool : (kitB "tuple" "bool").getD false = false := by decide +kernel
@[simp] theorem kit_tuple_int : (kitB "tuple" "int").getD false = false := by decide +kernel
@[simp] theorem kit_tuple_str : (kitB "tuple" "str").getD false = false := by decide +kernel
@[simp] theorem kit_tuple_list : (kitB "tuple" "list").getD false = false := by decide +kernel
@[simp] theorem kit_tuple_tuple : (kitB "tuple" "tuple").getD false = true := by decide +kernel
@[simp] theorem kit_tuple_dict : (kitB "tuple" "dict").getD false = false := by decide +kernel
@[simp] theorem kit_dict_bool : (kitB "dict" "bool").getD false = false := by decide +kernel
@[simp] theorem kit_dict_int : (kitB "dict" "int").getD false = false := by decide +kernel
@[simp] theorem kit_dict_str : (kitB "dict" "str").getD false = false := by decide +kernel
@[simp] theorem kit_dict_list : (kitB "dict" "list").getD false = false := by decide +kernel
@[simp] theorem kit_dict_tuple : (kitB "dict" "tuple").getD false = false := by decide +kernel
@[simp] theorem kit_dict_dict : (kitB "dict" "dict").getD false = true := by decide +kernel
/-! statements -/
def seqK (g' : GS) : Out → Option Out
  | .nx δ' => g' δ'
  | o => some o
@[simp] theorem gSeq_eq (g g' : GS) (δ : List Sl) : gSeq g g' δ = (g δ).bind (seqK g') := by
  unfold gSeq seqK
  congr
@[simp] theorem seqK_nx (g' : GS) (δ : List Sl) : seqK g' (.nx δ) = g' δ := rfl
@[simp] theorem seqK_rt (g' : GS) (d : D) : seqK g' (.rt d) = some (.rt d) := rfl
@[simp] theorem seqK_bk (g' : GS) (δ : List Sl) : seqK g' (.bk δ) = some (.bk δ) := rfl
@[simp] theorem seqK_ct (g' : GS) (δ : List Sl) : seqK g' (.ct δ) = some (.ct δ) := rfl
@[simp] theorem gNil_eq (δ : List Sl) : Pd.gNil δ = some (.nx δ) := rfl
def ifK (g g' : GS) (δ : List Sl) : D → Option Out
  | .bool true => g δ
  | .bool false => g' δ
  | _ => none
@[simp] theorem gIf_eq (ft : FE) (g g' : GS) (δ : List Sl) : gIf ft g g' δ = (ft δ).bind (ifK g g' δ) := by
  unfold gIf ifK
  cases ft δ with
  | none => rfl
  | some d => cases d <;> first | rfl | (rename_i b; cases b <;> rfl)
@[simp] theorem ifK_eq (g g' : GS) (δ : List Sl) (b : Bool) : ifK g g' δ (.bool b) = if b then g δ else g' δ := by cases b <;> rfl
def rtO (d : D) : Option Out := some (.rt d)
@[simp] theorem rtO_eq (d : D) : rtO d = some (.rt d) := rfl
@[simp] theorem gRet_eq (f : FE) (δ : List Sl) : gRet f δ = (f δ).bind rtO := by
  unfold gRet rtO
  cases f δ <;> rfl
@[simp] theorem gRetN_eq (δ : List Sl) : gRetN δ = some (.rt .none) := rfl
@[simp] theorem gBk_eq (δ : List Sl) : gBk δ = some (.bk δ) := rfl
@[simp] theorem gCt_eq (δ : List Sl) : gCt δ = some (.ct δ) := rfl
def setK (i : Nat) (δ : List Sl) (d : D) : Option Out := some (.nx (δ.set i (.val d)))
@[simp] theorem gSet_eq (i : Nat) (f : FE) (δ : List Sl) : gSet i f δ = (f δ).bind (setK i δ) := by
  unfold gSet setK
  cases f δ <;> rfl
@[simp] theorem setK_eq (i : Nat) (δ : List Sl) (d : D) : setK i δ d = some (.nx (δ.set i (.val d))) := rfl
def forK (i : Nat) (body : GS) (r : List D) : Out → Option Out
  | .nx δ' => forG i body r δ'
  | .ct δ' => forG i body r δ'
  | .bk δ' => some (.nx δ')
  | .rt d' => some (.rt d')
theorem forG_nil (i : Nat) (body : GS) (δ : List Sl) : forG i body [] δ = some (.nx δ) := rfl
theorem forG_cons (i : Nat) (body : GS) (d : D) (r : List D) (δ : List Sl) : forG i body (d :: r) δ = (body (δ.set i (.val d))).bind (forK i body r) := by
  rw [forG]
  cases body (δ.set i (.val d)) with
  | none => rfl
  | some o => cases o <;> rfl
@[simp] theorem forK_nx (i : Nat) (body : GS) (r : List D) (δ : List Sl) : forK i body r (.nx δ) = forG i body r δ := rfl
@[simp] theorem forK_ct (i : Nat) (body : GS) (r : List D) (δ : List Sl) : forK i body r (.ct δ) = forG i body r δ := rfl
@[simp] theorem forK_bk (i : Nat) (body : GS) (r : List D) (δ : List Sl) : forK i body r (.bk δ) = some (.nx δ) := rfl
@[simp] theorem forK_rt (i : Nat) (body : GS) (r : List D) (d : D) : forK i body r (.rt d) = some (.rt d) := rfl
def forS (i : Nat) (body : GS) (δ : List Sl) (ds : List D) : Option Out := forG i body ds δ
@[simp] theorem gFor_eq (fi : FI) (i : Nat) (body : GS) (δ : List Sl) : gFor fi i body δ = (fi δ).bind (forS i body δ) := rfl
@[simp] theorem forS_eq (i : Nat) (body : GS) (δ : List Sl) (ds : List D) : forS i body δ ds = forG i body ds δ := rfl
def whB (ft : FE) (body : GS) (n : Nat) : Out → Option Out
  | .nx δ' => whileG ft body n δ'
  | .ct δ' => whileG ft body n δ'
  | .bk δ' => some (.nx δ')
  | .rt d' => some (.rt d')
def whK (ft : FE) (body : GS) (n : Nat) (δ : List Sl) : D → Option Out
  | .bool true => (body δ).bind (whB ft body n)
  | .bool false => some (.nx δ)
  | _ => none
theorem whileG_succ (ft : FE) (body : GS) (n : Nat) (δ : List Sl) : whileG ft body (n + 1) δ = (ft δ).bind (whK ft body n δ) := by
  rw [whileG]
  cases ft δ with
  | none => rfl
  | some d =>
    cases d <;> first | rfl | skip
    rename_i b
    cases b
    · rfl
    · show _ = (body δ).bind (whB ft body n)
      cases body δ with
      | none => rfl
      | some o => cases o <;> rfl
@[simp] theorem whK_eq (ft : FE) (body : GS) (n : Nat) (δ : List Sl) (b : Bool) : whK ft body n δ (.bool b) = if b then (body δ).bind (whB ft body n) else some (.nx δ) := by cases b <;> rfl
@[simp] theorem whB_nx (ft : FE) (body : GS) (n : Nat) (δ : List Sl) : whB ft body n (.nx δ) = whileG ft body n δ := rfl
@[simp] theorem whB_ct (ft : FE) (body : GS) (n : Nat) (δ : List Sl) : whB ft body n (.ct δ) = whileG ft body n δ := rfl
@[simp] theorem whB_bk (ft : FE) (body : GS) (n : Nat) (δ : List Sl) : whB ft body n (.bk δ) = some (.nx δ) := rfl
@[simp] theorem whB_rt (ft : FE) (body : GS) (n : Nat) (d : D) : whB ft body n (.rt d) = some (.rt d) := rfl
def rtK : Out → Option D
  | .rt d => some d
  | .nx _ => some .none
  | _ => none
@[simp] theorem rtK_rt (d : D) : rtK (.rt d) = some d := rfl
@[simp] theorem rtK_nx (δ : List Sl) : rtK (.nx δ) = some .none := rfl
@[simp] theorem bind_rt (o : Option D) : (o.bind rtO).bind rtK = o := by cases o <;> rfl
theorem runG_eq (n np : Nat) (g : GS) (ds : List D) (h : ds.length = np) : runG n np g ds = (g (startD n ds)).bind rtK := by
  unfold runG
  rw [if_pos h]
  cases g (startD n ds) with
  | none => rfl
  | some o => cases o <;> rfl
/-! comprehensions -/
def lcK2 (i : Nat) (δ : List Sl) (ft fe : FE) (r : List D) (y : D) : Option (List D) := (lcD i δ ft fe r).bind (consK y)
def lcK (i : Nat) (δ : List Sl) (ft fe : FE) (d : D) (r : List D) : D → Option (List D)
  | .bool true => (fe (δ.set i (.val d))).bind (lcK2 i δ ft fe r)
  | .bool false => lcD i δ ft fe r
  | _ => none
theorem lcD_nil (i : Nat) (δ : List Sl) (ft fe : FE) : lcD i δ ft fe [] = some [] := rfl
theorem lcD_cons (i : Nat) (δ : List Sl) (ft fe : FE) (d : D) (r : List D) : lcD i δ ft fe (d :: r) = (ft (δ.set i (.val d))).bind (lcK i δ ft fe d r) := by
  rw [lcD]
  cases ft (δ.set i (.val d)) with
  | none => rfl
  | some b =>
    cases b <;> first | rfl | skip
    rename_i b
    cases b
    · rfl
    · show ((fe (δ.set i (.val d))).bind fun y => (lcD i δ ft fe r).bind fun ys => some (y :: ys)) = (fe (δ.set i (.val d))).bind (lcK2 i δ ft fe r)
      rfl
@[simp] theorem lcK_eq (i : Nat) (δ : List Sl) (ft fe : FE) (d : D) (r : List D) (b : Bool) : lcK i δ ft fe d r (.bool b) = if b then (fe (δ.set i (.val d))).bind (lcK2 i δ ft fe r) else lcD i δ ft fe r := by cases b <;> rfl
@[simp] theorem lcK2_eq (i : Nat) (δ : List Sl) (ft fe : FE) (r : List D) (y : D) : lcK2 i δ ft fe r y = (lcD i δ ft fe r).bind (consK y) := rfl
/-- a comprehension whose parts give values -/
theorem lcD_eq (i : Nat) (δ : List Sl) (ft fe : FE) (p : D → Bool) (h : D → D) : ∀ ds : List D, (∀ d ∈ ds, ft (δ.set i (.val d)) = some (.bool (p d))) → (∀ d ∈ ds, p d = true → fe (δ.set i (.val d)) = some (h d)) → lcD i δ ft fe ds = some ((ds.filter p).map h)
  | [], _, _ => rfl
  | d :: r, h1, h2 => by
    rw [lcD_cons, h1 d (List.mem_cons_self ..), Option.bind_some, lcK_eq, lcD_eq i δ ft fe p h r (fun x hx => h1 x (List.mem_cons_of_mem _ hx)) fun x hx => h2 x (List.mem_cons_of_mem _ hx)]
    cases hp : p d with
    | true => rw [if_pos rfl, h2 d (List.mem_cons_self ..) hp, Option.bind_some, lcK2_eq, lcD_eq i δ ft fe p h r (fun x hx => h1 x (List.mem_cons_of_mem _ hx)) fun x hx => h2 x (List.mem_cons_of_mem _ hx), List.filter_cons_of_pos hp]; rfl
    | false => rw [if_neg Bool.false_ne_true, List.filter_cons_of_neg (by rw [hp]; exact Bool.false_ne_true)]
def lcQ (i : Nat) (ft fe : FE) (δ : List Sl) (ds : List D) : Option D := (lcD i (δ.set i .un) ft fe ds).bind lstK
@[simp] theorem eLc_eq (fi : FI) (i : Nat) (ft fe : FE) (δ : List Sl) : eLc fi i ft fe δ = (fi δ).bind (lcQ i ft fe δ) := rfl
theorem lcQ_eq (i : Nat) (ft fe : FE) (δ : List Sl) (ds : List D) : lcQ i ft fe δ ds = (lcD i (δ.set i .un) ft fe ds).bind lstK := rfl
@[simp] theorem iSeq_eq (f : FE) (δ : List Sl) : iSeq f δ = (f δ).bind seqD := rfl
@[simp] theorem seqD_list (ds : List D) : seqD (.list ds) = some ds := rfl
@[simp] theorem seqD_tuple (ds : List D) : seqD (.tuple ds) = some ds := rfl
@[simp] theorem seqD_str (x : Str) : seqD (.str x) = some (signs x) := rfl
def r1K : List D → Option (List D)
  | [.int j] => if -(2 ^ 62) ≤ j ∧ j < 2 ^ 62 then some (rangeD 0 j.toNat) else none
  | _ => none
def r2K : List D → Option (List D)
  | [.int i, .int j] => if -(2 ^ 62) ≤ i ∧ i < 2 ^ 62 ∧ -(2 ^ 62) ≤ j ∧ j < 2 ^ 62 then some (rangeD i (j - i).toNat) else none
  | _ => none
@[simp] theorem iR1_eq (g : FA) (δ : List Sl) : iR1 g δ = (g δ).bind r1K := by unfold iR1 r1K; rfl
@[simp] theorem iR2_eq (g : FA) (δ : List Sl) : iR2 g δ = (g δ).bind r2K := by unfold iR2 r2K; rfl
theorem r1K_eq (j : Int) (h : -(2 ^ 62) ≤ j ∧ j < 2 ^ 62) : r1K [.int j] = some (rangeD 0 j.toNat) := if_pos h
/-! operators -/
@[simp] theorem addD_int (i j : Int) : addD (.int i) (.int j) = some (.int (i + j)) := rfl
@[simp] theorem addD_str (x y : Str) (h : x.length + y.length ≤ lim) : addD (.str x) (.str y) = some (.str (x ++ y)) := if_pos h
@[simp] theorem addD_list (x y : List D) (h : x.length + y.length ≤ lim) : addD (.list x) (.list y) = some (.list (x ++ y)) := if_pos h
@[simp] theorem addD_tuple (x y : List D) (h : x.length + y.length ≤ lim) : addD (.tuple x) (.tuple y) = some (.tuple (x ++ y)) := if_pos h
@[simp] theorem subD_int (i j : Int) : subD (.int i) (.int j) = some (.int (i - j)) := rfl
theorem mulD_int (i j : Int) : mulD (.int i) (.int j) = if (decide (-(2 ^ 64) < i ∧ i < 2 ^ 64) || decide (-(2 ^ 64) < j ∧ j < 2 ^ 64)) = true then some (.int (i * j)) else none := rfl
@[simp] theorem divD_int (i j : Int) (h : 0 < j ∧ j < 1073741824) : divD (.int i) (.int j) = some (.int (i / j)) := if_pos (decide_eq_true h)
@[simp] theorem modD_int (i j : Int) (h : 0 < j) : modD (.int i) (.int j) = some (.int (i % j)) := if_pos (decide_eq_true h)
@[simp] theorem negD_int (i : Int) : negD (.int i) = some (.int (-i)) := rfl
@[simp] theorem ltD_int (i j : Int) : ltD (.int i) (.int j) = some (.bool (decide (i < j))) := rfl
@[simp] theorem leD_int (i j : Int) : leD (.int i) (.int j) = some (.bool (decide (i ≤ j))) := rfl
@[simp] theorem gtD_int (i j : Int) : gtD (.int i) (.int j) = some (.bool (decide (j < i))) := rfl
@[simp] theorem geD_int (i j : Int) : geD (.int i) (.int j) = some (.bool (decide (j ≤ i))) := rfl
theorem eqD_of (x y : D) (hx : fitD x = true) (hy : fitD y = true) : eqD x y = some (.bool (PyData.eqv x y)) := by
  unfold eqD
  rw [hx, hy, Bool.and_self, Bool.or_true]
  rfl
theorem neD_of (x y : D) (hx : fitD x = true) (hy : fitD y = true) : neD x y = some (.bool (!PyData.eqv x y)) := by
  unfold neD
  rw [hx, hy, Bool.and_self, Bool.or_true]
  rfl
@[simp] theorem fitD_int (i : Int) : fitD (.int i) = true := rfl
@[simp] theorem fitD_bool (i : Bool) : fitD (.bool i) = true := rfl
@[simp] theorem fitD_none : fitD .none = true := rfl
@[simp] theorem eqD_ii (i j : Int) : eqD (.int i) (.int j) = some (.bool (i == j)) := rfl
@[simp] theorem eqD_ss (i j : Str) : eqD (.str i) (.str j) = some (.bool (i == j)) := rfl
@[simp] theorem eqD_bb (i j : Bool) : eqD (.bool i) (.bool j) = some (.bool (i == j)) := rfl
@[simp] theorem neD_ii (i j : Int) : neD (.int i) (.int j) = some (.bool (!(i == j))) := rfl
@[simp] theorem neD_ss (i j : Str) : neD (.str i) (.str j) = some (.bool (!(i == j))) := rfl
@[simp] theorem neD_bb (i j : Bool) : neD (.bool i) (.bool j) = some (.bool (!(i == j))) := rfl
@[simp] theorem eqD_is (i : Int) (j : Str) : eqD (.int i) (.str j) = some (.bool false) := rfl
@[simp] theorem eqD_si (i : Str) (j : Int) : eqD (.str i) (.int j) = some (.bool false) := rfl
@[simp] theorem eqD_ns (j : Str) : eqD .none (.str j) = some (.bool false) := rfl
@[simp] theorem eqD_bs (i : Bool) (j : Str) : eqD (.bool i) (.str j) = some (.bool false) := rfl
@[simp] theorem neD_is (i : Int) (j : Str) : neD (.int i) (.str j) = some (.bool true) := rfl
@[simp] theorem neD_ns (j : Str) : neD .none (.str j) = some (.bool true) := rfl
@[simp] theorem neD_bs (i : Bool) (j : Str) : neD (.bool i) (.str j) = some (.bool true) := rfl
@[simp] theorem lenD_list (ds : List D) : lenD [.list ds] = some (.int ds.length) := rfl
@[simp] theorem lenD_tuple (ds : List D) : lenD [.tuple ds] = some (.int ds.length) := rfl
theorem lenD_str (x : Str) (h : x.length ≤ lim) : lenD [.str x] = some (.int x.length) := if_pos h
@[simp] theorem ixD_list (ds : List D) (i : Int) : ixD (.list ds) (.int i) = atI ds i := rfl
@[simp] theorem ixD_tuple (ds : List D) (i : Int) : ixD (.tuple ds) (.int i) = atI ds i := rfl
theorem ixD_str (x : Str) (i : Int) (h : x.length ≤ lim) : ixD (.str x) (.int i) = (atI x.cps.toList i).map fun c => .str ⟨#[c]⟩ := if_pos h
@[simp] theorem toIntD_int (i : Int) : toIntD [.int i] = some (.int i) := rfl
@[simp] theorem toIntD_bool (i : Bool) : toIntD [.bool i] = some (.int (if i then 1 else 0)) := rfl
@[simp] theorem minD_int (i j : Int) : minD [.int i, .int j] = some (.int (if j < i then j else i)) := rfl
@[simp] theorem maxD_int (i j : Int) : maxD [.int i, .int j] = some (.int (if j > i then j else i)) := rfl
@[simp] theorem listD_list (ds : List D) : listD [.list ds] = some (.list ds) := rfl
@[simp] theorem listD_tuple (ds : List D) : listD [.tuple ds] = some (.list ds) := rfl
@[simp] theorem tupD_list (ds : List D) : tupD [.list ds] = some (.tuple ds) := rfl
@[simp] theorem tupD_tuple (ds : List D) : tupD [.tuple ds] = some (.tuple ds) := rfl
/-- an item by its place -/
theorem atI_of {α : Type} {xs : List α} {i : Int} {v : α} (h0 : 0 ≤ i) (h : xs[i.toNat]? = some v) : atI xs i = some v := by
  have e : i = ((i.toNat : Nat) : Int) := by omega
  rw [e]
  exact atI_nat h
@[simp] theorem atI_zero {α : Type} (xs : List α) : atI xs 0 = xs[0]? := by
  unfold atI ixN
  cases xs with
  | nil => rfl
  | cons x r => rw [if_pos (by decide), if_pos (by rw [List.length_cons]; omega)]; rfl
theorem atI_n {α : Type} (xs : List α) (n : Nat) : atI xs (n : Int) = xs[n]? := by
  unfold atI ixN
  rw [if_pos (by omega)]
  by_cases h : n < xs.length
  · rw [if_pos (by omega)]
    rfl
  · rw [if_neg (by omega), List.getElem?_eq_none (by omega)]
    rfl
@[simp] theorem atI_1 {α : Type} (xs : List α) : atI xs 1 = xs[1]? := atI_n xs 1
@[simp] theorem atI_2 {α : Type} (xs : List α) : atI xs 2 = xs[2]? := atI_n xs 2
@[simp] theorem atI_3 {α : Type} (xs : List α) : atI xs 3 = xs[3]? := atI_n xs 3
@[simp] theorem atI_4 {α : Type} (xs : List α) : atI xs 4 = xs[4]? := atI_n xs 4
@[simp] theorem atI_5 {α : Type} (xs : List α) : atI xs 5 = xs[5]? := atI_n xs 5
@[simp] theorem atI_6 {α : Type} (xs : List α) : atI xs 6 = xs[6]? := atI_n xs 6
@[simp] theorem atI_7 {α : Type} (xs : List α) : atI xs 7 = xs[7]? := atI_n xs 7
@[simp] theorem atI_8 {α : Type} (xs : List α) : atI xs 8 = xs[8]? := atI_n xs 8
@[simp] theorem atI_9 {α : Type} (xs : List α) : atI xs 9 = xs[9]? := atI_n xs 9
@[simp] theorem atI_10 {α : Type} (xs : List α) : atI xs 10 = xs[10]? := atI_n xs 10
@[simp] theorem atI_11 {α : Type} (xs : List α) : atI xs 11 = xs[11]? := atI_n xs 11
@[simp] theorem atI_12 {α : Type} (xs : List α) : atI xs 12 = xs[12]? := atI_n xs 12
@[simp] theorem atI_13 {α : Type} (xs : List α) : atI xs 13 = xs[13]? := atI_n xs 13
@[simp] theorem atI_14 {α : Type} (xs : List α) : atI xs 14 = xs[14]? := atI_n xs 14
@[simp] theorem atI_15 {α : Type} (xs : List α) : atI xs 15 = xs[15]? := atI_n xs 15
@[simp] theorem atI_16 {α : Type} (xs : List α) : atI xs 16 = xs[16]? := atI_n xs 16
@[simp] theorem atI_17 {α : Type} (xs : List α) : atI xs 17 = xs[17]? := atI_n xs 17
@[simp] theorem atI_18 {α : Type} (xs : List α) : atI xs 18 = xs[18]? := atI_n xs 18
@[simp] theorem atI_19 {α : Type} (xs : List α) : atI xs 19 = xs[19]? := atI_n xs 19
@[simp] theorem atI_20 {α : Type} (xs : List α) : atI xs 20 = xs[20]? := atI_n xs 20
@[simp] theorem atI_21 {α : Type} (xs : List α) : atI xs 21 = xs[21]? := atI_n xs 21
@[simp] theorem atI_22 {α : Type} (xs : List α) : atI xs 22 = xs[22]? := atI_n xs 22
@[simp] theorem atI_23 {α : Type} (xs : List α) : atI xs 23 = xs[23]? := atI_n xs 23
@[simp] theorem atI_24 {α : Type} (xs : List α) : atI xs 24 = xs[24]? := atI_n xs 24
@[simp] theorem atI_25 {α : Type} (xs : List α) : atI xs 25 = xs[25]? := atI_n xs 25
@[simp] theorem atI_26 {α : Type} (xs : List α) : atI xs 26 = xs[26]? := atI_n xs 26
@[simp] theorem atI_27 {α : Type} (xs : List α) : atI xs 27 = xs[27]? := atI_n xs 27
@[simp] theorem atI_28 {α : Type} (xs : List α) : atI xs 28 = xs[28]? := atI_n xs 28
@[simp] theorem atI_29 {α : Type} (xs : List α) : atI xs 29 = xs[29]? := atI_n xs 29
@[simp] theorem atI_30 {α : Type} (xs : List α) : atI xs 30 = xs[30]? := atI_n xs 30
@[simp] theorem powD_9 : powD (.int 10) (.int 9) = some (.int 1000000000) := by rfl
@[simp] theorem powD_30 : powD (.int 10) (.int 30) = some (.int 1000000000000000000000000000000) := by rfl
@[simp] theorem powD_18 : powD (.int 10) (.int 18) = some (.int 1000000000000000000) := by rfl
@[simp] theorem mulD_2 : mulD (.int 2) (.int 1000000000) = some (.int 2000000000) := by rfl
theorem F1 {n np : Nat} {g : GS} {ds : List D} {r : Option D} (h : ds.length = np) (e : (g (startD n ds)).bind rtK = r) : runG n np g ds = r := (runG_eq n np g ds h).trans e
/-- the slots at the entry -/
@[simp] theorem startD_eq (n : Nat) (ds : List D) : startD n ds = ds.map .val ++ List.replicate (n - ds.length) .un := rfl
/-! lists of the def's own -/
def frzK (i : Nat) (δ : List Sl) : Option Sl → Option Out
  | some (.own ds) => some (.nx (δ.set i (.val (.list ds))))
  | _ => none
@[simp] theorem gFrz_eq (i : Nat) (δ : List Sl) : gFrz i δ = frzK i δ δ[i]? := by unfold gFrz frzK; rfl
@[simp] theorem frzK_own (i : Nat) (δ : List Sl) (ds : List D) : frzK i δ (some (.own ds)) = some (.nx (δ.set i (.val (.list ds)))) := rfl
@[simp] theorem borrow_nil : borrow [] = [] := rfl
@[simp] theorem borrow_cons (s : Sl) (δ : List Sl) : borrow (s :: δ) = bor1 s :: borrow δ := rfl
@[simp] theorem bor1_un : bor1 .un = .un := rfl
@[simp] theorem bor1_val (d : D) : bor1 (.val d) = .val d := rfl
@[simp] theorem bor1_own (ds : List D) : bor1 (.own ds) = .val (.list ds) := rfl
@[simp] theorem eBor_eq (f : FE) (δ : List Sl) : eBor f δ = (f (borrow δ)).bind scalK := rfl
@[simp] theorem scalK_bool (b : Bool) : scalK (.bool b) = some (.bool b) := rfl
@[simp] theorem scalK_int (b : Int) : scalK (.int b) = some (.int b) := rfl
@[simp] theorem scalK_str (b : Str) : scalK (.str b) = some (.str b) := rfl
@[simp] theorem scalK_none : scalK .none = some .none := rfl
def popK (i : Nat) (δ : List Sl) : Option Sl → Option Out
  | some (.own ds) => if ds = [] then none else some (.nx (δ.set i (.own ds.dropLast)))
  | _ => none
@[simp] theorem gPop_eq (i : Nat) (δ : List Sl) : gPop i δ = popK i δ δ[i]? := by unfold gPop popK; rfl
theorem popK_own (i : Nat) (δ : List Sl) (ds : List D) (h : ds ≠ []) : popK i δ (some (.own ds)) = some (.nx (δ.set i (.own ds.dropLast))) := if_neg h
def appK (i : Nat) (δ : List Sl) (d : D) : Option Sl → Option Out
  | some (.own ds) => if ds.length < lim then some (.nx (δ.set i (.own (ds ++ [d])))) else none
  | _ => none
def appK1 (i : Nat) (δ : List Sl) : D → Option Out := fun d => appK i δ d δ[i]?
@[simp] theorem gApp_eq (i : Nat) (f : FE) (δ : List Sl) : gApp i f δ = (f δ).bind (appK1 i δ) := by unfold gApp appK1 appK; rfl
@[simp] theorem appK1_eq (i : Nat) (δ : List Sl) (d : D) : appK1 i δ d = appK i δ d δ[i]? := rfl
@[simp] theorem appK_own (i : Nat) (δ : List Sl) (d : D) (ds : List D) (h : ds.length < lim) : appK i δ d (some (.own ds)) = some (.nx (δ.set i (.own (ds ++ [d])))) := if_pos h
def extK (i : Nat) (δ : List Sl) : Option Sl → D → Option Out
  | some (.own ds), .list es => if ds.length + es.length ≤ lim then some (.nx (δ.set i (.own (ds ++ es)))) else none
  | _, _ => none
@[simp] theorem gExt_eq (i : Nat) (f : FE) (δ : List Sl) : gExt i f δ = (f δ).bind (extK i δ δ[i]?) := by unfold gExt extK; rfl
@[simp] theorem extK_own (i : Nat) (δ : List Sl) (ds es : List D) (h : ds.length + es.length ≤ lim) : extK i δ (some (.own ds)) (.list es) = some (.nx (δ.set i (.own (ds ++ es)))) := if_pos h
def ownK (i : Nat) (δ : List Sl) (ds : List D) : Option Out := if ds.length ≤ lim then some (.nx (δ.set i (.own ds))) else none
@[simp] theorem gOwn_eq (i : Nat) (g : FA) (δ : List Sl) : gOwn i g δ = (g δ).bind (ownK i δ) := rfl
@[simp] theorem ownK_eq (i : Nat) (δ : List Sl) (ds : List D) (h : ds.length ≤ lim) : ownK i δ ds = some (.nx (δ.set i (.own ds))) := if_pos h
def newK (i : Nat) (δ : List Sl) (ds : List D) : Option Out := some (.nx (δ.set i (.own ds)))
@[simp] theorem gNew_eq (i : Nat) (f : List Sl → Option (List D)) (δ : List Sl) : gNew i f δ = (f δ).bind (newK i δ) := by
  unfold gNew newK
  cases f δ <;> rfl
@[simp] theorem newK_eq (i : Nat) (δ : List Sl) (ds : List D) : newK i δ ds = some (.nx (δ.set i (.own ds))) := rfl
@[simp] theorem nList_eq (f : FE) (δ : List Sl) : nList f δ = (f δ).bind fun d => match d with
  | .list ds => some ds
  | .tuple ds => some ds
  | _ => none := rfl
def intsK (ys : List D) : Option (List D) := if allInts ys then some ys else none
def nFK (F : List D → Option (List D)) (ds : List D) : Option (List D) := (F ds).bind intsK
@[simp] theorem nCall_eq (F : List D → Option (List D)) (g : FA) (δ : List Sl) : nCall F g δ = (g (borrow δ)).bind (nFK F) := rfl
@[simp] theorem nFK_eq (F : List D → Option (List D)) (ds : List D) : nFK F ds = (F ds).bind intsK := rfl
theorem allInts_map (ns : List Int) : allInts (ns.map PyData.int) = true := by
  induction ns with
  | nil => rfl
  | cons n r ih => exact ih
@[simp] theorem intsK_map (ns : List Int) : intsK (ns.map PyData.int) = some (ns.map PyData.int) := by
  unfold intsK
  rw [allInts_map]
  rfl
theorem eLr1_eq (f : FE) (δ : List Sl) (n : Int) (h : f δ = some (.int n)) (h0 : 0 ≤ n) (h1 : n ≤ 16777216) : eLr1 f δ = some (.list (rangeD 0 n.toNat)) := by
  unfold eLr1
  rw [h, Option.bind_some]
  exact if_pos ⟨h0, h1⟩
theorem eLr2_eq (f g : FE) (δ : List Sl) (i n : Int) (h : f δ = some (.int i)) (h' : g δ = some (.int n)) (h0 : 0 ≤ i ∧ i ≤ 16777216 ∧ 0 ≤ n ∧ n ≤ 16777216) : eLr2 f g δ = some (.list (rangeD i (n - i).toNat)) := by
  unfold eLr2
  rw [h, h', Option.bind_some, Option.bind_some]
  exact if_pos h0
def lcN (i : Nat) (ft fe : FE) (δ : List Sl) (ds : List D) : Option (List D) := (lcD i (δ.set i .un) ft fe ds).bind fun ys => if ys.length ≤ lim then some ys else none
@[simp] theorem nLc_eq (fi : FI) (i : Nat) (ft fe : FE) (δ : List Sl) : nLc fi i ft fe δ = (fi δ).bind (lcN i ft fe δ) := rfl
theorem runR_eq (n np : Nat) (f : List Sl → Option (List D)) (ds : List D) (h : ds.length = np) : runR n np f ds = f (startD n ds) := if_pos h
@[simp] theorem revT_eq (ds : List D) : revT (.tuple ds) = some (.tuple ds.reverse) := rfl
@[simp] theorem revL_eq (ds : List D) : revL (.list ds) = some (.list ds.reverse) := rfl
theorem upperD_eq (x : Str) (h : x.length ≤ 5592405) : upperD (.str x) = some (.str (Txt.upper x)) := if_pos h
@[simp] theorem oNone_eq (δ : List Sl) : oNone δ = some none := rfl
def oK : D → Option (Option Int)
  | .int i => some (some i)
  | _ => none
@[simp] theorem oSome_eq (f : FE) (δ : List Sl) : oSome f δ = (f δ).bind oK := rfl
@[simp] theorem oK_int (i : Int) : oK (.int i) = some (some i) := rfl
def slK1 (fl fh : FO) (δ : List Sl) (d : D) : Option D := (fl δ).bind fun lo => (fh δ).bind fun hi => slD lo hi d
def slK2 (fh : FO) (δ : List Sl) (d : D) (lo : Option Int) : Option D := (fh δ).bind fun hi => slD lo hi d
def slK3 (d : D) (lo hi : Option Int) : Option D := slD lo hi d
@[simp] theorem eSl_eq (fa : FE) (fl fh : FO) (δ : List Sl) : eSl fa fl fh δ = (fa δ).bind (slK1 fl fh δ) := rfl
@[simp] theorem slK1_eq (fl fh : FO) (δ : List Sl) (d : D) : slK1 fl fh δ d = (fl δ).bind (slK2 fh δ d) := rfl
@[simp] theorem slK2_eq (fh : FO) (δ : List Sl) (d : D) (lo : Option Int) : slK2 fh δ d lo = (fh δ).bind (slK3 d lo) := rfl
@[simp] theorem slK3_tup (ds : List D) (lo hi : Option Int) : slK3 (.tuple ds) lo hi = some (.tuple (cutD ds lo hi)) := rfl
@[simp] theorem slK3_lst (ds : List D) (lo hi : Option Int) : slK3 (.list ds) lo hi = some (.list (cutD ds lo hi)) := rfl
theorem slK3_str (x : Str) (lo hi : Option Int) (h : x.length ≤ lim) : slK3 (.str x) lo hi = some (.str (cutS x lo hi)) := if_pos h
def unpK (is : List Nat) (δ : List Sl) : D → Option Out
  | .tuple ds => if ds.length = is.length then some (.nx (setAll is ds δ)) else none
  | _ => none
@[simp] theorem gUnp_eq (is : List Nat) (f : FE) (δ : List Sl) : gUnp is f δ = (f δ).bind (unpK is δ) := by unfold gUnp unpK; rfl
theorem unpK_eq (is : List Nat) (δ : List Sl) (ds : List D) (h : ds.length = is.length) : unpK is δ (.tuple ds) = some (.nx (setAll is ds δ)) := if_pos h
end Pd

set_option Elab.async false
set_option linter.all false
set_option maxRecDepth 100000
set_option maxHeartbeats 4000000
/-! General facts about semantic functions. -/
namespace Pd
open PySem PySem.Spec L2
/-- a loop that neither leaves nor fails, by its invariant -/
theorem forG_inv {i : Nat} {body : GS} (I : Nat → List Sl → Prop) : ∀ (ds : List D) (k : Nat) (δ : List Sl), I k δ → (∀ (j : Nat) (d : D) (δ : List Sl), ds[j]? = some d → I (k + j) δ → ∃ δ', body (δ.set i (.val d)) = some (.nx δ') ∧ I (k + j + 1) δ') → ∃ δ', forG i body ds δ = some (.nx δ') ∧ I (k + ds.length) δ'
  | [], k, δ, h, _ => ⟨δ, rfl, h⟩
  | d :: r, k, δ, h, hs => by
    obtain ⟨δ1, e1, h1⟩ := hs 0 d δ rfl h
    obtain ⟨δ2, e2, h2⟩ := forG_inv I r (k + 1) δ1 h1 fun j d' δ' hj hI => by
      have := hs (j + 1) d' δ' (by simpa using hj) (by rw [show k + (j + 1) = k + 1 + j by omega]; exact hI)
      rw [show k + (j + 1) + 1 = k + 1 + j + 1 by omega] at this
      exact this
    refine ⟨δ2, ?_, by rw [List.length_cons, show k + (r.length + 1) = k + 1 + r.length by omega]; exact h2⟩
    rw [forG_cons, e1, Option.bind_some, forK_nx, e2]
/-- the same, by the items themselves -/
theorem forG_all {i : Nat} {body : GS} (I : List Sl → Prop) (ds : List D) (δ : List Sl) (h : I δ) (hs : ∀ d ∈ ds, ∀ δ, I δ → ∃ δ', body (δ.set i (.val d)) = some (.nx δ') ∧ I δ') : ∃ δ', forG i body ds δ = some (.nx δ') ∧ I δ' := by
  obtain ⟨δ', e, h'⟩ := forG_inv (i := i) (body := body) (fun _ δ => I δ) ds 0 δ h fun j d δ hj hI => hs d (List.mem_of_getElem? hj) δ hI
  exact ⟨δ', e, h'⟩
theorem mem_rangeD {d : D} {lo : Int} {n : Nat} (h : d ∈ rangeD lo n) : ∃ k : Nat, k < n ∧ d = .int (lo + k) := by
  unfold rangeD at h
  obtain ⟨k, hk, e⟩ := List.mem_map.mp h
  exact ⟨k, List.mem_range.mp hk, e.symm⟩
/-- a text whose signs are signs -/
def SOk (s : Str) : Prop := s.length ≤ 1000 ∧ ∀ c ∈ s.cps.toList, c < 128
theorem SOk.strOk {s : Str} (h : SOk s) : PyData.strOk s = true := by
  unfold PyData.strOk
  rw [Array.all_eq_true]
  intro i hi
  have := h.2 s.cps[i] (by simp)
  simp
  omega
theorem SOk.lim {s : Str} (h : SOk s) : s.length ≤ lim := by
  have := h.1
  rw [lim_eq]
  omega
theorem fitD_str {s : Str} (h : SOk s) : fitD (.str s) = true := by
  simp [fitD, flatD, SeqAt.shaped, PyData.canLay0, PyData.depth, h.strOk]
theorem len_append (a b : Str) : (a ++ b).length = a.length + b.length := by
  show (a.cps ++ b.cps).size = a.cps.size + b.cps.size
  exact Array.size_append
theorem cps_append (a b : Str) : (a ++ b).cps.toList = a.cps.toList ++ b.cps.toList := by
  show (a.cps ++ b.cps).toList = _
  simp
theorem SOk.append {a b : Str} (ha : SOk a) (hb : SOk b) (h : a.length + b.length ≤ 1000) : SOk (a ++ b) := ⟨by rw [len_append]; exact h, fun c hc => by
  rw [cps_append, List.mem_append] at hc
  rcases hc with hc | hc
  · exact ha.2 c hc
  · exact hb.2 c hc⟩
theorem SOk.one {c : Nat} (h : c < 128) : SOk ⟨#[c]⟩ := ⟨by show 1 ≤ 1000; decide, fun d hd => by
  have : d = c := by simpa using hd
  omega⟩
theorem len_one (c : Nat) : (⟨#[c]⟩ : Str).length = 1 := rfl
/-- one sign of a text -/
theorem sign_at {s : Str} (h : SOk s) {i : Int} (h0 : 0 ≤ i) (h1 : i < s.length) : ∃ c, c < 128 ∧ ixD (.str s) (.int i) = some (.str ⟨#[c]⟩) := by
  have hl : s.cps.toList.length = s.length := by simp [Str.length]
  have hi : i.toNat < s.cps.toList.length := by omega
  refine ⟨s.cps.toList[i.toNat], h.2 _ (List.getElem_mem hi), ?_⟩
  rw [ixD_str _ _ h.lim, atI_of h0 (List.getElem?_eq_getElem hi)]
  rfl
/-- lists that fit -/
theorem fitD_list {ds : List D} (h : ∀ d ∈ ds, fitD d = true ∧ d.depth ≤ 60) : fitD (.list ds) = true := by
  have hf : flatDs ds = true ∧ PyData.canLayAll0 ds = true ∧ PyData.depthAll ds ≤ 60 := by
    induction ds with
    | nil => exact ⟨rfl, rfl, Nat.zero_le _⟩
    | cons d r ih =>
      obtain ⟨h1, h2⟩ := h d (List.mem_cons_self ..)
      obtain ⟨i1, i2, i3⟩ := ih fun x hx => h x (List.mem_cons_of_mem _ hx)
      simp only [fitD, SeqAt.shaped, Bool.and_eq_true] at h1
      refine ⟨by simp only [flatDs, Bool.and_eq_true]; exact ⟨h1.1, i1⟩, by simp only [PyData.canLayAll0, Bool.and_eq_true]; exact ⟨h1.2.1, i2⟩, by simp only [PyData.depthAll]; omega⟩
  have h3 := hf.2.2
  have e : fitD (.list ds) = (flatDs ds && (PyData.canLayAll0 ds && decide (PyData.depthAll ds + 1 ≤ 64))) := rfl
  rw [e, hf.1, hf.2.1, decide_eq_true (by omega)]
  rfl
theorem fitD_tuple {ds : List D} (h : ∀ d ∈ ds, fitD d = true ∧ d.depth ≤ 60) : fitD (.tuple ds) = true := by
  exact fitD_list h
theorem lcQ_of {i : Nat} {ft fe : FE} {δ : List Sl} {ds : List D} (p : D → Bool) (h : D → D) (h1 : ∀ d ∈ ds, ft ((δ.set i .un).set i (.val d)) = some (.bool (p d))) (h2 : ∀ d ∈ ds, p d = true → fe ((δ.set i .un).set i (.val d)) = some (h d)) (hl : ds.length ≤ lim) :
    lcQ i ft fe δ ds = some (.list ((ds.filter p).map h)) := by
  rw [lcQ_eq, lcD_eq i _ ft fe p h ds h1 h2, Option.bind_some, lstK_eq]
  rw [List.length_map]
  exact Nat.le_trans (List.length_filter_le _ _) hl
theorem lcQ_map {i : Nat} {fe : FE} {δ : List Sl} {ds : List D} (h : D → D) (h2 : ∀ d ∈ ds, fe ((δ.set i .un).set i (.val d)) = some (h d)) (hl : ds.length ≤ lim) : lcQ i (eC (.bool true)) fe δ ds = some (.list (ds.map h)) := by
  rw [lcQ_of (fun _ => true) h (fun _ _ => rfl) (fun d hd _ => h2 d hd) hl, List.filter_eq_self.mpr fun _ _ => rfl]
theorem lcQ_filter {i : Nat} {ft : FE} {δ : List Sl} {ds : List D} (p : D → Bool) (hi : i < δ.length) (h1 : ∀ d ∈ ds, ft ((δ.set i .un).set i (.val d)) = some (.bool (p d))) (hl : ds.length ≤ lim) : lcQ i ft (eVar i) δ ds = some (.list (ds.filter p)) := by
  rw [lcQ_of p id h1 (fun d _ _ => ?_) hl, List.map_id]
  rw [eVar_eq, List.getElem?_set_self (by simpa using hi)]
  rfl
theorem blsD_map (l : List Bool) : blsD (l.map PyData.bool) = some l := by
  induction l with
  | nil => rfl
  | cons b r ih => simp only [List.map_cons, blsD, ih, Option.map_some]
theorem allD_map (l : List Bool) : allD [.list (l.map PyData.bool)] = some (.bool (l.all id)) := by
  simp only [allD, blsD_map, Option.map_some]
/-- a cell of the script -/
def cellZ (ns : List Int) (k : Nat) : Int := ns.getD k 0
theorem eqv_nil (ds : List D) : PyData.eqv (.list ds) (.list []) = ds.isEmpty := by
  cases ds <;> rfl
theorem signs_len (s : Str) : (signs s).length = s.length := by
  unfold signs
  rw [List.length_map]
  simp [Str.length]
theorem mem_signs {d : D} {s : Str} (h : d ∈ signs s) : ∃ c, c ∈ s.cps.toList ∧ d = .str ⟨#[c]⟩ := by
  obtain ⟨c, hc, e⟩ := List.mem_map.mp h
  exact ⟨c, hc, e.symm⟩
theorem leD_one (a b : Nat) : leD (.str ⟨#[a]⟩) (.str ⟨#[b]⟩) = some (.bool (decide (a ≤ b))) := by
  show some (PyData.bool (!decide ([b] < [a]))) = _
  congr 2
  rw [Bool.eq_iff_iff]
  simp [List.cons_lt_cons_iff]
theorem inD_one (neg : Bool) (c : Nat) (z : Str) : inD neg (.str ⟨#[c]⟩) (.str z) = some (.bool (if neg then !decide (c ∈ z.cps.toList) else decide (c ∈ z.cps.toList))) := rfl
theorem lcN_filter {i : Nat} {ft : FE} {δ : List Sl} {ds : List D} (p : D → Bool) (hi : i < δ.length) (h1 : ∀ d ∈ ds, ft ((δ.set i .un).set i (.val d)) = some (.bool (p d))) (hl : ds.length ≤ lim) : lcN i ft (eVar i) δ ds = some (ds.filter p) := by
  unfold lcN
  rw [lcD_eq i _ ft (eVar i) p id ds h1 (fun d _ _ => ?_), Option.bind_some, List.map_id, if_pos (Nat.le_trans (List.length_filter_le _ _) hl)]
  rw [eVar_eq, List.getElem?_set_self (by simpa using hi)]
  rfl
/-! lists of ints -/
def IL (ns : List Int) : List D := ns.map PyData.int
theorem IL_len (ns : List Int) : (IL ns).length = ns.length := List.length_map _
theorem IL_append (a b : List Int) : IL (a ++ b) = IL a ++ IL b := List.map_append
theorem fit_IL (ns : List Int) : fitD (.list (IL ns)) = true := fitD_list fun d hd => by
  obtain ⟨n, _, rfl⟩ := List.mem_map.mp hd
  exact ⟨rfl, Nat.zero_le _⟩
theorem eqvAll_IL : ∀ a b : List Int, PyData.eqvAll (IL a) (IL b) = decide (a = b)
  | [], [] => by rfl
  | [], _ :: _ => by rfl
  | _ :: _, [] => by rfl
  | x :: a, y :: b => by
    show ((x == y) && PyData.eqvAll (IL a) (IL b)) = _
    rw [eqvAll_IL a b]
    by_cases h : x = y
    · subst h; simp
    · simp [h]
theorem eqD_IL (a b : List Int) : eqD (.list (IL a)) (.list (IL b)) = some (.bool (decide (a = b))) := by
  rw [eqD_of _ _ (fit_IL a) (fit_IL b)]
  show some (PyData.bool (PyData.eqvAll (IL a) (IL b))) = _
  rw [eqvAll_IL]
theorem neD_IL (a b : List Int) : neD (.list (IL a)) (.list (IL b)) = some (.bool (!decide (a = b))) := by
  rw [neD_of _ _ (fit_IL a) (fit_IL b)]
  show some (PyData.bool (!PyData.eqvAll (IL a) (IL b))) = _
  rw [eqvAll_IL]
theorem filter_IL (p : D → Bool) (ns : List Int) : (IL ns).filter p = IL (ns.filter fun n => p (.int n)) := by
  unfold IL
  rw [List.filter_map]
  rfl
theorem mem_IL {d : D} {ns : List Int} (h : d ∈ IL ns) : ∃ n, n ∈ ns ∧ d = .int n := by
  obtain ⟨n, hn, e⟩ := List.mem_map.mp h
  exact ⟨n, hn, e.symm⟩
theorem allInts_IL (ns : List Int) : allInts (IL ns) = true := allInts_map ns
theorem intsK_IL (ns : List Int) : intsK (IL ns) = some (IL ns) := intsK_map ns
def rangeZ (lo : Int) (n : Nat) : List Int := (List.range n).map fun k => lo + (k : Nat)
theorem rangeD_IL (lo : Int) (n : Nat) : rangeD lo n = IL (rangeZ lo n) := by
  unfold rangeD IL rangeZ
  rw [List.map_map]
  rfl
end Pd

set_option Elab.async false
set_option linter.all false
set_option maxRecDepth 100000
set_option maxHeartbeats 4000000
/-! Semantic functions with a store of cells (lists, dicts, objects) and with exceptions. -/
namespace Q
open PySem PySem.Spec PyProof.Rows L2 Pd
/-- data, a location, the exception in hand -/
inductive W where
  | d (x : D)
  | l (n : Nat)
  | x
inductive Cell where
  | lst (ws : List W)
  | dct (kvs : List (Str × W))
  | ins (c : Str) (fs : List (Str × W))
  | tup (ws : List W)
  | dead
/-- the written part, the module's names, the exception in hand -/
structure Gx where
  K : PySem.W.Frag
  mg : Str → Option Value
  ex : Option Addr
/-- the frozen part, the heap, the addresses of the locations -/
structure Sm where
  Z : Hp
  H : Hp
  L : List Addr
def Rw (G : Gx) (S : Sm) : W → V → Prop
  | .d x, v => Rv G.K S.Z x v
  | .l n, v => ∃ a, S.L[n]? = some a ∧ v = .ref a
  | .x, v => ∀ a, G.ex = some a → v = .ref a
def RwL (G : Gx) (S : Sm) : List W → List V → Prop
  | [], vs => vs = []
  | w :: ws, vs => ∃ v r, vs = v :: r ∧ Rw G S w v ∧ RwL G S ws r
def RwK (G : Gx) (S : Sm) : List (Str × W) → List (Key × V) → Prop
  | [], vs => vs = []
  | (k, w) :: ws, vs => ∃ v r, vs = (Sum.inr k, v) :: r ∧ Rw G S w v ∧ RwK G S ws r
def RwF (G : Gx) (S : Sm) : List (Str × W) → List (Str × V) → Prop
  | [], vs => vs = []
  | (k, w) :: ws, vs => ∃ v r, vs = (k, v) :: r ∧ Rw G S w v ∧ RwF G S ws r
def CellOk (G : Gx) (S : Sm) (a : Addr) : Cell → Prop
  | .lst ws => ∃ vs, S.H a = some (.lst vs) ∧ RwL G S ws vs
  | .dct kvs => ∃ xs, S.H a = some (.dK xs) ∧ RwK G S kvs xs
  | .ins c fs => ∃ C dx vs, G.mg c = some (.ref C) ∧ S.H a = some (.ins C dx vs) ∧ RwF G S fs vs
  | .tup ws => ∃ (o : Obj) (vs : List V), S.H a = some (.frz o (.tup vs)) ∧ RwL G S ws vs
  | .dead => ∃ o, S.H a = some o
structure OkS (G : Gx) (S : Sm) (M : List Cell) : Prop where
  zh : Same S.Z S.H
  nd : S.L.Nodup
  len : S.L.length = M.length
  zn : ∀ a ∈ S.L, S.Z a = none
  cell : ∀ (n : Nat) (a : Addr) (c : Cell), S.L[n]? = some a → M[n]? = some c → CellOk G S a c
structure Le (S S' : Sm) : Prop where
  z : Same S.Z S'.Z
  l : ∃ t, S'.L = S.L ++ t
  f : ∀ b o, S.H b = some o → b ∉ S.L → S'.H b = some o
  n : ∀ b, b ∈ S'.L → b ∈ S.L ∨ S.H b = none
  t : ∀ b, S.H b ≠ none → S'.H b ≠ none
  c : ∀ b, S.Z b = none → S.H b ≠ none → b ∉ S.L → S'.Z b = none
  k : ∀ b o u, S.H b = some (.frz o u) → S'.H b = some (.frz o u)
theorem Le.refl (S : Sm) : Le S S := ⟨Same.refl _, ⟨[], by simp⟩, fun _ _ h _ => h, fun _ h => .inl h, fun _ h => h, fun _ h _ _ => h, fun _ _ _ h => h⟩
theorem Le.trans {S T U : Sm} (a : Le S T) (b : Le T U) : Le S U := by
  obtain ⟨t1, e1⟩ := a.l
  obtain ⟨t2, e2⟩ := b.l
  have nl : ∀ c, S.H c ≠ none → c ∉ S.L → c ∉ T.L := fun c h1 h2 h3 => by
    rcases a.n c h3 with h | h
    · exact h2 h
    · exact h1 h
  refine ⟨a.z.trans b.z, ⟨t1 ++ t2, by rw [e2, e1, List.append_assoc]⟩, fun c o h1 h2 => ?_, fun c h => ?_, fun c h => b.t c (a.t c h), fun c h1 h2 h3 => b.c c (a.c c h1 h2 h3) (a.t c h2) (nl c h2 h3), fun c o u h => b.k c o u (a.k c o u h)⟩
  · exact b.f c o (a.f c o h1 h2) (nl c (by rw [h1]; simp) h2)
  · rcases b.n c h with h | h
    · exact a.n c h
    · right
      cases e : S.H c with
      | none => rfl
      | some o => exact absurd h (a.t c (by rw [e]; simp))
section
variable {G : Gx} {S S' : Sm}
structure Gr (S S' : Sm) : Prop where
  z : Same S.Z S'.Z
  l : ∃ t, S'.L = S.L ++ t
theorem Le.gr (x : Le S S') : Gr S S' := ⟨x.z, x.l⟩
theorem Rw.gr (x : Gr S S') : ∀ {w : W} {v : V}, Rw G S w v → Rw G S' w v
  | .d x', _, h => Rv.mono x.z x' h
  | .l n, _, h => by
    obtain ⟨a, h1, h2⟩ := h
    obtain ⟨t, e⟩ := x.l
    refine ⟨a, ?_, h2⟩
    rw [e, List.getElem?_append_left (List.getElem?_eq_some_iff.mp h1).1]
    exact h1
  | .x, _, h => h
theorem RwL.gr (x : Gr S S') : ∀ {ws : List W} {vs : List V}, RwL G S ws vs → RwL G S' ws vs
  | [], _, h => h
  | w :: ws, _, h => by obtain ⟨v, r, rfl, h1, h2⟩ := h; exact ⟨v, r, rfl, h1.gr x, RwL.gr x h2⟩
theorem RwK.gr (x : Gr S S') : ∀ {ws : List (Str × W)} {vs : List (Key × V)}, RwK G S ws vs → RwK G S' ws vs
  | [], _, h => h
  | (k, w) :: ws, _, h => by obtain ⟨v, r, rfl, h1, h2⟩ := h; exact ⟨v, r, rfl, h1.gr x, RwK.gr x h2⟩
theorem RwF.gr (x : Gr S S') : ∀ {ws : List (Str × W)} {vs : List (Str × V)}, RwF G S ws vs → RwF G S' ws vs
  | [], _, h => h
  | (k, w) :: ws, _, h => by obtain ⟨v, r, rfl, h1, h2⟩ := h; exact ⟨v, r, rfl, h1.gr x, RwF.gr x h2⟩
theorem Rw.mono (x : Le S S') {w : W} {v : V} (h : Rw G S w v) : Rw G S' w v := h.gr x.gr
theorem RwL.mono (x : Le S S') {ws : List W} {vs : List V} (h : RwL G S ws vs) : RwL G S' ws vs := h.gr x.gr
theorem RwL.length : ∀ {ws : List W} {vs : List V}, RwL G S ws vs → vs.length = ws.length
  | [], _, h => by cases h; rfl
  | w :: ws, _, h => by obtain ⟨v, r, rfl, h1, h2⟩ := h; rw [List.length_cons, List.length_cons, RwL.length h2]
theorem RwK.length : ∀ {ws : List (Str × W)} {vs : List (Key × V)}, RwK G S ws vs → vs.length = ws.length
  | [], _, h => by cases h; rfl
  | (k, w) :: ws, _, h => by obtain ⟨v, r, rfl, h1, h2⟩ := h; rw [List.length_cons, List.length_cons, RwK.length h2]
theorem RwF.length : ∀ {ws : List (Str × W)} {vs : List (Str × V)}, RwF G S ws vs → vs.length = ws.length
  | [], _, h => by cases h; rfl
  | (k, w) :: ws, _, h => by obtain ⟨v, r, rfl, h1, h2⟩ := h; rw [List.length_cons, List.length_cons, RwF.length h2]
theorem RwL.append : ∀ {ws us : List W} {vs xs : List V}, RwL G S ws vs → RwL G S us xs → RwL G S (ws ++ us) (vs ++ xs)
  | [], _, _, _, h, g => by cases h; exact g
  | w :: ws, _, _, _, h, g => by obtain ⟨v, r, rfl, h1, h2⟩ := h; exact ⟨v, _, rfl, h1, RwL.append h2 g⟩
theorem RwL.get : ∀ {ws : List W} {vs : List V} {i : Nat} {w : W}, RwL G S ws vs → ws[i]? = some w → ∃ v, vs[i]? = some v ∧ Rw G S w v
  | [], _, _, _, _, e => by simp at e
  | w :: ws, _, 0, _, h, e => by obtain ⟨v, r, rfl, h1, h2⟩ := h; simp at e; subst e; exact ⟨v, rfl, h1⟩
  | w :: ws, _, i + 1, _, h, e => by obtain ⟨v, r, rfl, h1, h2⟩ := h; obtain ⟨u, h3, h4⟩ := RwL.get (i := i) h2 (by simpa using e); exact ⟨u, by simpa using h3, h4⟩
theorem RwL.set : ∀ {ws : List W} {vs : List V} (i : Nat) {w : W} {v : V}, RwL G S ws vs → Rw G S w v → RwL G S (ws.set i w) (vs.set i v)
  | [], _, _, _, _, h, _ => by cases h; rfl
  | w :: ws, _, 0, _, _, h, g => by obtain ⟨v, r, rfl, h1, h2⟩ := h; exact ⟨_, _, rfl, g, h2⟩
  | w :: ws, _, i + 1, _, _, h, g => by obtain ⟨v, r, rfl, h1, h2⟩ := h; exact ⟨_, _, rfl, h1, RwL.set i h2 g⟩
theorem RwL.drop : ∀ {ws : List W} {vs : List V} (n : Nat), RwL G S ws vs → RwL G S (ws.drop n) (vs.drop n)
  | ws, vs, 0, h => h
  | [], _, n + 1, h => by cases h; rfl
  | w :: ws, _, n + 1, h => by obtain ⟨v, r, rfl, h1, h2⟩ := h; exact RwL.drop n h2
theorem RwL.take : ∀ {ws : List W} {vs : List V} (n : Nat), RwL G S ws vs → RwL G S (ws.take n) (vs.take n)
  | ws, vs, 0, h => rfl
  | [], _, n + 1, h => by cases h; rfl
  | w :: ws, _, n + 1, h => by obtain ⟨v, r, rfl, h1, h2⟩ := h; exact ⟨v, _, rfl, h1, RwL.take n h2⟩
theorem RwL.eraseIdx : ∀ {ws : List W} {vs : List V} (n : Nat), RwL G S ws vs → RwL G S (ws.eraseIdx n) (vs.eraseIdx n)
  | [], _, n, h => by cases h; rfl
  | w :: ws, _, 0, h => by obtain ⟨v, r, rfl, h1, h2⟩ := h; exact h2
  | w :: ws, _, n + 1, h => by obtain ⟨v, r, rfl, h1, h2⟩ := h; exact ⟨v, _, rfl, h1, RwL.eraseIdx n h2⟩
theorem RwL.ofD : ∀ {ds : List D} {vs : List V}, RvL G.K S.Z ds vs → RwL G S (ds.map .d) vs
  | [], _, h => by cases h; rfl
  | d :: ds, _, h => by cases h with | cons a b => exact ⟨_, _, rfl, a, RwL.ofD b⟩
/-- all of it data -/
def datL : List W → Option (List D)
  | [] => some []
  | .d x :: r => (datL r).map (x :: ·)
  | _ => none
theorem RwL.toD : ∀ {ws : List W} {vs : List V} {ds : List D}, RwL G S ws vs → datL ws = some ds → RvL G.K S.Z ds vs
  | [], _, _, h, e => by cases e; cases h; exact .nil
  | .d x :: ws, _, _, h, e => by
    obtain ⟨v, r, rfl, h1, h2⟩ := h
    obtain ⟨ds, e1, rfl⟩ := Option.map_eq_some_iff.mp e
    exact .cons h1 (RwL.toD h2 e1)
  | .l n :: ws, _, _, _, e => by cases e
  | .x :: ws, _, _, _, e => by cases e
theorem RwK.get : ∀ {ws : List (Str × W)} {vs : List (Key × V)} {k : Str}, RwK G S ws vs → (match ws.lookup k with | some w => ∃ v, valV vs (Sum.inr k : Key) = some v ∧ Rw G S w v | none => valV vs (Sum.inr k : Key) = none)
  | [], _, _, h => by cases h; rfl
  | (k', w') :: ws, _, k, h => by
    obtain ⟨v, r, rfl, h1, h2⟩ := h
    rw [List.lookup_cons]
    by_cases hk : k = k'
    · subst hk
      simp only [beq_self_eq_true]
      exact ⟨v, valV_pos rfl, h1⟩
    · have hb : (k == k') = false := by simpa using hk
      rw [hb]
      have := RwK.get (k := k) h2
      rw [valV_neg (by intro q; exact hk (Sum.inr.inj q).symm)]
      exact this
theorem RwF.get : ∀ {ws : List (Str × W)} {vs : List (Str × V)} {k : Str}, RwF G S ws vs → (match ws.lookup k with | some w => ∃ v, vs.lookup k = some v ∧ Rw G S w v | none => vs.lookup k = none)
  | [], _, _, h => by cases h; rfl
  | (k', w') :: ws, _, k, h => by
    obtain ⟨v, r, rfl, h1, h2⟩ := h
    rw [List.lookup_cons]
    by_cases hk : k = k'
    · subst hk
      simp only [beq_self_eq_true]
      exact ⟨v, by rw [List.lookup_cons]; simp, h1⟩
    · have hb : (k == k') = false := by simpa using hk
      rw [hb]
      have := RwF.get (k := k) h2
      rw [List.lookup_cons, hb]
      exact this
/-- a pair put into a dict -/
def putW (k : Str) (w : W) : List (Str × W) → List (Str × W)
  | [] => [(k, w)]
  | (k', w') :: r => if k' = k then (k', w) :: r else (k', w') :: putW k w r
theorem putF_rw : ∀ {ws : List (Str × W)} {vs : List (Str × V)} {k : Str} {w : W} {v : V}, RwF G S ws vs → Rw G S w v → RwF G S (putW k w ws) (putF k v vs)
  | [], _, k, w, v, h, g => by cases h; exact ⟨v, [], rfl, g, rfl⟩
  | (k', w') :: ws, _, k, w, v, h, g => by
    obtain ⟨v', r, rfl, h1, h2⟩ := h
    show RwF G S (if k' = k then _ else _) (if k' = k then _ else _)
    by_cases hk : k' = k
    · rw [if_pos hk, if_pos hk]; exact ⟨_, _, rfl, g, h2⟩
    · rw [if_neg hk, if_neg hk]; exact ⟨_, _, rfl, h1, putF_rw h2 g⟩
/-- d[k] = w -/
def putD (k : Str) (w : W) (kvs : List (Str × W)) : List (Str × W) :=
  if (kvs.any fun kv => decide (kv.1 = k)) = true then kvs.map (fun kv => if kv.1 = k then (kv.1, w) else kv) else kvs ++ [(k, w)]
theorem RwK.append : ∀ {ws us : List (Str × W)} {vs xs : List (Key × V)}, RwK G S ws vs → RwK G S us xs → RwK G S (ws ++ us) (vs ++ xs)
  | [], _, _, _, h, g => by cases h; exact g
  | (k, w) :: ws, _, _, _, h, g => by obtain ⟨v, r, rfl, h1, h2⟩ := h; exact ⟨v, _, rfl, h1, RwK.append h2 g⟩
theorem putK_any : ∀ {ws : List (Str × W)} {vs : List (Key × V)} {k : Str}, RwK G S ws vs → (vs.any fun kv => decide (kv.1 = (Sum.inr k : Key))) = (ws.any fun kv => decide (kv.1 = k))
  | [], _, k, h => by cases h; rfl
  | (k', w') :: ws, _, k, h => by
    obtain ⟨v', r, rfl, h1, h2⟩ := h
    rw [List.any_cons, List.any_cons, putK_any h2]
    congr 1
    by_cases hk : k' = k
    · subst hk; simp
    · simp [hk]
theorem putK_map : ∀ {ws : List (Str × W)} {vs : List (Key × V)} {k : Str} {w : W} {v : V}, RwK G S ws vs → Rw G S w v → RwK G S (ws.map fun kv => if kv.1 = k then (kv.1, w) else kv) (vs.map fun kv => if kv.1 = (Sum.inr k : Key) then (kv.1, v) else kv)
  | [], _, k, w, v, h, g => by cases h; rfl
  | (k', w') :: ws, _, k, w, v, h, g => by
    obtain ⟨v', r, rfl, h1, h2⟩ := h
    rw [List.map_cons, List.map_cons]
    by_cases hk : k' = k
    · subst hk
      simp only [if_true]
      exact ⟨_, _, rfl, g, putK_map h2 g⟩
    · rw [if_neg (show ¬ (k', w').1 = k from hk), if_neg (show ¬ ((Sum.inr k' : Key), v').1 = Sum.inr k from fun q => hk (Sum.inr.inj q))]
      exact ⟨_, _, rfl, h1, putK_map h2 g⟩
theorem putK_rw {ws : List (Str × W)} {vs : List (Key × V)} {k : Str} {w : W} {v : V} (h : RwK G S ws vs) (g : Rw G S w v) : RwK G S (putD k w ws) (putK vs (Sum.inr k) v) := by
  unfold putD putK
  rw [putK_any h]
  split
  · exact putK_map h g
  · exact h.append ⟨v, [], rfl, g, rfl⟩
theorem putW_len (k : Str) (w : W) : ∀ l : List (Str × W), (putW k w l).length ≤ l.length + 1
  | [] => Nat.le_refl _
  | (k', w') :: r => by
    show (if k' = k then _ else _ : List _).length ≤ _
    split
    · simp
    · simp only [List.length_cons]; have := putW_len k w r; omega
end
end Q

set_option Elab.async false
set_option linter.all false
set_option maxRecDepth 100000
set_option maxHeartbeats 4000000
namespace Q
open PySem PySem.Spec PyProof.Rows L2 Pd
section
variable {G : Gx} {S S' : Sm}
theorem CellOk.tr {a : Addr} {c : Cell} (x : Gr S S') (h : ∀ o, S.H a = some o → S'.H a = some o) (k : CellOk G S a c) : CellOk G S' a c := by
  cases c with
  | lst ws => obtain ⟨vs, g1, g2⟩ := k; exact ⟨vs, h _ g1, g2.gr x⟩
  | dct kvs => obtain ⟨xs, g1, g2⟩ := k; exact ⟨xs, h _ g1, g2.gr x⟩
  | ins c fs => obtain ⟨C, dx, vs, g0, g1, g2⟩ := k; exact ⟨C, dx, vs, g0, h _ g1, g2.gr x⟩
  | tup ws => obtain ⟨o, vs, g1, g2⟩ := k; exact ⟨o, vs, h _ g1, g2.gr x⟩
  | dead => obtain ⟨o, g1⟩ := k; exact ⟨o, h _ g1⟩
theorem CellOk.some {a : Addr} {c : Cell} (k : CellOk G S a c) : S.H a ≠ none := by
  cases c with
  | lst ws => obtain ⟨vs, g1, g2⟩ := k; rw [g1]; simp
  | dct kvs => obtain ⟨xs, g1, g2⟩ := k; rw [g1]; simp
  | ins c fs => obtain ⟨C, dx, vs, g0, g1, g2⟩ := k; rw [g1]; simp
  | tup ws => obtain ⟨o, vs, g1, g2⟩ := k; rw [g1]; simp
  | dead => obtain ⟨o, g1⟩ := k; rw [g1]; simp
theorem OkS.at_some {M : List Cell} (ok : OkS G S M) : ∀ a ∈ S.L, S.H a ≠ none := fun a ha => by
  obtain ⟨n, hn⟩ := List.getElem?_of_mem ha
  have hl : n < M.length := by
    have := (List.getElem?_eq_some_iff.mp hn).1
    have := ok.len
    omega
  exact (ok.cell n a M[n] hn (List.getElem?_eq_getElem hl)).some
/-- the pure state within -/
def Sm.st (S : Sm) (h : Same S.Z S.H) : Stt := ⟨S.Z, S.H, h⟩
/-- a later pure state, the locations as they were -/
theorem ok_ex {M : List Cell} (ok : OkS G S M) {T : Stt} (x : Ex (S.st ok.zh) T) : Le S ⟨T.Z, T.H, S.L⟩ ∧ OkS G ⟨T.Z, T.H, S.L⟩ M := by
  have hh : Same S.H T.H := x.h
  have le : Le S ⟨T.Z, T.H, S.L⟩ := ⟨x.z, ⟨[], by simp⟩, fun b o h _ => hh b o h, fun b h => .inl h, fun b h => same_some hh h, fun b h1 h2 _ => x.c b h1 h2, fun b o u h => hh b _ h⟩
  exact ⟨le, T.ok, ok.nd, ok.len, fun a ha => x.c a (ok.zn a ha) (ok.at_some a ha), fun n a c h1 h2 => (ok.cell n a c h1 h2).tr le.gr fun o e => hh _ _ e⟩
theorem not_cell {M : List Cell} (ok : OkS G S M) {p : Addr} (hp : S.H p = none) : p ∉ S.L := fun hm => ok.at_some p hm hp
/-- a place that was made since becomes a cell -/
theorem ok_new2 {S0 : Sm} {M : List Cell} (ok : OkS G S M) (le : Le S0 S) {p : Addr} (h0 : S0.H p = none) (np : p ∉ S.L) (zp : S.Z p = none) (c : Cell) (o : HO) (hc : ∀ T : Sm, Gr S T → T.H p = some o → CellOk G T p c) :
    Le S0 ⟨S.Z, upd S.H p o, S.L ++ [p]⟩ ∧ OkS G ⟨S.Z, upd S.H p o, S.L ++ [p]⟩ (M ++ [c]) := by
  have gr : Gr S ⟨S.Z, upd S.H p o, S.L ++ [p]⟩ := ⟨Same.refl _, ⟨[p], rfl⟩⟩
  refine ⟨⟨le.z, ?_, fun b u h hb => ?_, fun b h => ?_, fun b h => ?_, le.c, fun b o' u h => by
    show upd S.H p o b = _
    rw [upd_ne (fun e => by subst e; rw [h0] at h; cases h)]
    exact le.k b o' u h⟩, fun b u h => ?_, ?_, by rw [List.length_append, List.length_append, ok.len]; rfl, fun a ha => ?_, fun n a c' h1 h2 => ?_⟩
  · obtain ⟨t, e⟩ := le.l
    exact ⟨t ++ [p], by show S.L ++ [p] = _; rw [e, List.append_assoc]⟩
  · show upd S.H p o b = _
    rw [upd_ne (fun e => by subst e; rw [h0] at h; cases h)]
    exact le.f b u h hb
  · rcases List.mem_append.mp h with h | h
    · exact le.n b h
    · right
      have : b = p := by simpa using h
      rw [this]; exact h0
  · show upd S.H p o b ≠ none
    by_cases e : b = p
    · subst e; rw [upd_same]; simp
    · rw [upd_ne e]; exact le.t b h
  · show upd S.H p o b = _
    rw [upd_ne (fun e => by have h : S.Z b = some u := h; rw [e, zp] at h; cases h)]
    exact ok.zh b u h
  · rw [List.nodup_append]
    exact ⟨ok.nd, by simp, fun a ha b hb => by
      have : b = p := by simpa using hb
      intro e
      exact np (this ▸ e ▸ ha)⟩
  · rcases List.mem_append.mp ha with h | h
    · exact ok.zn a h
    · have : a = p := by simpa using h
      rw [this]; exact zp
  · have hlen := ok.len
    by_cases hn : n < S.L.length
    · have h1 : (S.L ++ [p])[n]? = some a := h1
      rw [List.getElem?_append_left hn] at h1
      rw [List.getElem?_append_left (by omega)] at h2
      have ap : a ≠ p := fun e => np (e ▸ List.mem_of_getElem? h1)
      exact (ok.cell n a c' h1 h2).tr gr fun u e => by show upd S.H p o a = _; rw [upd_ne ap]; exact e
    · have h1 : (S.L ++ [p])[n]? = some a := h1
      have hn2 : n = S.L.length := by
        have := (List.getElem?_eq_some_iff.mp h1).1
        rw [List.length_append, List.length_singleton] at this
        omega
      subst hn2
      rw [List.getElem?_append_right (Nat.le_refl _), Nat.sub_self] at h1
      rw [hlen, List.getElem?_append_right (Nat.le_refl _), Nat.sub_self] at h2
      cases h1
      cases h2
      exact hc _ gr upd_same
/-- a new cell -/
theorem ok_new {M : List Cell} (ok : OkS G S M) {p : Addr} (hp : S.H p = none) (c : Cell) (o : HO) (hc : ∀ T : Sm, Gr S T → T.H p = some o → CellOk G T p c) :
    Le S ⟨S.Z, upd S.H p o, S.L ++ [p]⟩ ∧ OkS G ⟨S.Z, upd S.H p o, S.L ++ [p]⟩ (M ++ [c]) := ok_new2 ok (.refl S) hp (not_cell ok hp) (ok.zh.free hp) c o hc
theorem new_at {M : List Cell} (ok : OkS G S M) (p : Addr) (Z H : Hp) : Rw G ⟨Z, H, S.L ++ [p]⟩ (.l M.length) (.ref p) := ⟨p, by
  show (S.L ++ [p])[M.length]? = some p
  rw [← ok.len, List.getElem?_append_right (Nat.le_refl _), Nat.sub_self]
  rfl, rfl⟩
/-- a cell is written -/
theorem ok_set {M : List Cell} (ok : OkS G S M) {n : Nat} {p : Addr} (hp : S.L[n]? = some p) (hnf : ∀ o u, S.H p ≠ some (.frz o u)) (c : Cell) (o : HO) (hc : ∀ T : Sm, Gr S T → T.H p = some o → CellOk G T p c) :
    Le S ⟨S.Z, upd S.H p o, S.L⟩ ∧ OkS G ⟨S.Z, upd S.H p o, S.L⟩ (M.set n c) := by
  have hm : p ∈ S.L := List.mem_of_getElem? hp
  have gr : Gr S ⟨S.Z, upd S.H p o, S.L⟩ := ⟨Same.refl _, ⟨[], by simp⟩⟩
  refine ⟨⟨Same.refl _, ⟨[], by simp⟩, fun b u h hb => by
    show upd S.H p o b = _
    rw [upd_ne (show b ≠ p from fun e => hb (by rw [e]; exact hm))]; exact h, fun b h => .inl h, fun b h => by
    show upd S.H p o b ≠ none
    by_cases e : b = p
    · subst e; rw [upd_same]; simp
    · rw [upd_ne e]; exact h, fun b h _ _ => h, fun b o' u h => by
    show upd S.H p o b = _
    rw [upd_ne (fun e => by subst e; exact hnf _ _ h)]; exact h⟩, fun b u h => ?_, ok.nd, by rw [List.length_set]; exact ok.len, ok.zn, fun m a c' h1 h2 => ?_⟩
  · show upd S.H p o b = _
    rw [upd_ne (fun e => by have h : S.Z b = some u := h; rw [e, ok.zn p hm] at h; cases h)]
    exact ok.zh b u h
  · by_cases hmn : m = n
    · subst hmn
      have h1 : S.L[m]? = some a := h1
      rw [hp] at h1
      cases h1
      have hl : m < M.length := by
        have := (List.getElem?_eq_some_iff.mp h2).1
        simpa using this
      rw [List.getElem?_set_self hl] at h2
      cases h2
      exact hc _ gr upd_same
    · have h1 : S.L[m]? = some a := h1
      rw [List.getElem?_set_ne (Ne.symm hmn)] at h2
      have ap : a ≠ p := fun e => by
        subst e
        have l1 := (List.getElem?_eq_some_iff.mp h1).1
        exact hmn ((List.getElem?_inj l1 ok.nd).mp (h1.trans hp.symm))
      exact (ok.cell m a c' h1 h2).tr gr fun u e => by show upd S.H p o a = _; rw [upd_ne ap]; exact e
end
/-! ### results -/
inductive Rs (α : Type) where
  | ok (a : α) (M : List Cell)
  | rz (c : Str) (M : List Cell)
abbrev Rr (α : Type) := Option (Rs α)
def bnd {α β : Type} (r : Rr α) (k : α → List Cell → Rr β) : Rr β := match r with
  | some (.ok a M) => k a M
  | some (.rz c M) => some (.rz c M)
  | none => none
theorem bnd_ok {α β : Type} (a : α) (M : List Cell) (k : α → List Cell → Rr β) : bnd (some (.ok a M)) k = k a M := rfl
theorem bnd_rz {α β : Type} (c : Str) (M : List Cell) (k : α → List Cell → Rr β) : bnd (some (.rz c M)) k = some (.rz c M) := rfl
def Fit {α : Type} (G : Gx) (Wr : Value → Hp → Prop) (S : Sm) (r : Rr α) (q : α → List Cell → Sm → Prop) : Prop := match r with
  | some (.ok a M) => ∀ S', Le S S' → OkS G S' M → q a M S'
  | some (.rz c M) => ∀ S' C, Le S S' → OkS G S' M → G.mg c = some (.ref C) → Wr (.ref C) S'.H
  | none => False
section
variable {α β : Type} {G : Gx} {Wr : Value → Hp → Prop} {S S' : Sm}
theorem Fit.mono {r : Rr α} {q : α → List Cell → Sm → Prop} (x : Le S S') (h : Fit G Wr S r q) : Fit G Wr S' r q := by
  unfold Fit at h ⊢
  split at h
  · exact fun T y => h T (x.trans y)
  · exact fun T C y => h T C (x.trans y)
  · exact h
theorem Fit.imp {r : Rr α} {q q' : α → List Cell → Sm → Prop} (h : Fit G Wr S r q) (i : ∀ a M T, Le S T → OkS G T M → q a M T → q' a M T) : Fit G Wr S r q' := by
  unfold Fit at h ⊢
  split at h
  · exact fun T y ok => i _ _ T y ok (h T y ok)
  · exact h
  · exact h
theorem Fit.out {r : Rr α} {k : α → List Cell → Rr β} {q : β → List Cell → Sm → Prop} (h : Fit G Wr S (bnd r k) q) : Fit G Wr S r fun a M T => Fit G Wr T (k a M) q := by
  cases r with
  | none => exact h
  | some o =>
    cases o with
    | ok a M => exact fun T y ok => Fit.mono y h
    | rz c M => exact h
/-- from the left, with all that is known there -/
theorem Fit.go {r : Rr α} {k : α → List Cell → Rr β} {q : β → List Cell → Sm → Prop} {q' : α → List Cell → Sm → Prop} (h : Fit G Wr S (bnd r k) q) (i : ∀ a M T, Le S T → OkS G T M → Fit G Wr T (k a M) q → q' a M T) : Fit G Wr S r q' := h.out.imp i
theorem Fit.here {a : α} {M : List Cell} {q : α → List Cell → Sm → Prop} (h : Fit G Wr S (some (.ok a M)) q) (ok : OkS G S M) : q a M S := h S (.refl S) ok
theorem Fit.at {a : α} {M : List Cell} {q : α → List Cell → Sm → Prop} (h : Fit G Wr S (some (.ok a M)) q) (x : Le S S') (ok : OkS G S' M) : q a M S' := h S' x ok
end
/-! ### slots, readings -/
abbrev Env := List (Option W)
structure RH (G : Gx) (S : Sm) (σ : L2.St) (δ : Env) : Prop where
  len : σ.length = δ.length
  at_ : ∀ (i : Nat) (w : W), δ[i]? = some (some w) → ∃ v, σ[i]? = some (some v) ∧ Rw G S w v
theorem RH.mono {G : Gx} {S S' : Sm} {σ : L2.St} {δ : Env} (x : Le S S') (r : RH G S σ δ) : RH G S' σ δ := ⟨r.len, fun i w h => let ⟨v, h1, h2⟩ := r.at_ i w h; ⟨v, h1, h2.mono x⟩⟩
theorem RH.set {G : Gx} {S : Sm} {σ : L2.St} {δ : Env} (r : RH G S σ δ) {i : Nat} {v : V} {w : W} (h : Rw G S w v) : RH G S (σ.set i (some v)) (δ.set i (some w)) := by
  refine ⟨by rw [List.length_set, List.length_set]; exact r.len, fun j u e => ?_⟩
  by_cases hj : j = i
  · subst hj
    have hl : j < δ.length := by
      have := (List.getElem?_eq_some_iff.mp e).1
      simpa using this
    rw [List.getElem?_set_self hl] at e
    cases e
    exact ⟨v, List.getElem?_set_self (by rw [r.len]; exact hl), h⟩
  · rw [List.getElem?_set_ne (Ne.symm hj)] at e ⊢
    exact r.at_ j u e
theorem RH.setN {G : Gx} {S : Sm} {σ : L2.St} {δ : Env} (r : RH G S σ δ) (i : Nat) (v : Option V) : RH G S (σ.set i v) (δ.set i none) := by
  refine ⟨by rw [List.length_set, List.length_set]; exact r.len, fun j u e => ?_⟩
  by_cases hj : j = i
  · subst hj
    have hl : j < δ.length := by
      have := (List.getElem?_eq_some_iff.mp e).1
      simpa using this
    rw [List.getElem?_set_self hl] at e
    cases e
  · rw [List.getElem?_set_ne (Ne.symm hj)] at e ⊢
    exact r.at_ j u e
end Q
namespace L2
open PySem
/-- the store's view of a place -/
abbrev Cx.gx (X : Cx) : Q.Gx := ⟨X.K, X.mg, none⟩
end L2
namespace Q
open PySem PySem.Spec PyProof.Rows L2 Pd
abbrev FH := Env → List Cell → Rr W
abbrev FHA := Env → List Cell → Rr (List W)
abbrev FT := Env → List Cell → Rr Bool
abbrev Wx (W : WX) (σ : L2.St) : Value → Hp → Prop := fun c H => W c none σ H
def tH (G : Gx) (W : WX) (f : FH) : TE := fun σ H Q => ∃ (S : Sm) (M : List Cell) (δ : Env), S.H = H ∧ OkS G S M ∧ RH G S σ δ ∧ Fit G (Wx W σ) S (f δ M) fun w _ S' => ∀ v, Rw G S' w v → Q v S'.H
def tHA (G : Gx) (W : WX) (f : FHA) : TA := fun σ H Q => ∃ (S : Sm) (M : List Cell) (δ : Env), S.H = H ∧ OkS G S M ∧ RH G S σ δ ∧ Fit G (Wx W σ) S (f δ M) fun ws _ S' => ∀ vs, RwL G S' ws vs → Q vs S'.H
def tHT (G : Gx) (W : WX) (f : FT) : TT := fun σ H Q => ∃ (S : Sm) (M : List Cell) (δ : Env), S.H = H ∧ OkS G S M ∧ RH G S σ δ ∧ Fit G (Wx W σ) S (f δ M) fun b _ S' => Q b S'.H
abbrev HE (X : Cx) (G : Gx) (W : WX) (e : Expr) (f : FH) : Prop := PE X e (tH G W f)
abbrev HA (X : Cx) (G : Gx) (W : WX) (es : List Expr) (f : FHA) : Prop := PA X es (tHA G W f)
abbrev HT (X : Cx) (G : Gx) (W : WX) (e : Expr) (f : FT) : Prop := PT X e (tHT G W f)
end Q

set_option Elab.async false
set_option linter.all false
set_option maxRecDepth 100000
set_option maxHeartbeats 4000000
/-! Pure expressions: over the slots that hold data; over the slots with cells read as data. -/
namespace Q
open PySem PySem.Spec PyProof.Rows L2 Pd
def oAll {α β : Type} (f : α → Option β) : List α → Option (List β)
  | [] => some []
  | a :: r => (f a).bind fun b => (oAll f r).bind fun bs => some (b :: bs)
/-- a value with all that hangs on it, as data -/
def fzW : Nat → List Cell → W → Option D
  | _, _, .d x => some x
  | 0, _, _ => none
  | n + 1, M, .l k => match M[k]? with
    | some (.lst ws) => (oAll (fzW n M) ws).map .list
    | some (.dct kvs) => (oAll (fun kw => (fzW n M kw.2).map fun d => ((PyData.str kw.1, d) : D × D)) kvs).map .dict
    | _ => none
  | _ + 1, _, .x => none
def Zc (S : Sm) : Hp := fun b => match S.Z b with
  | some o => some o
  | none => if b ∈ S.L then S.H b else none
theorem zc_of {S : Sm} : Same S.Z (Zc S) := fun b o e => by
  unfold Zc
  rw [e]
theorem zc_ok {S : Sm} (h : Same S.Z S.H) : Same (Zc S) S.H := fun b o e => by
  unfold Zc at e
  split at e
  · rename_i o' ho
    cases e
    exact h _ _ ho
  · split at e
    · exact e
    · cases e
theorem zc_at {G : Gx} {S : Sm} {M : List Cell} (ok : OkS G S M) {n : Nat} {a : Addr} (h : S.L[n]? = some a) {o : HO} (ho : S.H a = some o) : Zc S a = some o := by
  have hm := List.mem_of_getElem? h
  unfold Zc
  rw [ok.zn a hm]
  show (if a ∈ S.L then S.H a else none) = some o
  rw [if_pos hm]
  exact ho
theorem fz_rv {G : Gx} {S : Sm} {M : List Cell} (ok : OkS G S M) : ∀ (n : Nat) (w : W) (v : V) (d : D), Rw G S w v → fzW n M w = some d → Rv G.K (Zc S) d v := by
  intro n
  induction n with
  | zero =>
    intro w v d h e
    cases w with
    | d x => cases e; exact Rv.mono zc_of _ h
    | l k => cases e
    | x => cases e
  | succ n ih =>
    intro w v d h e
    cases w with
    | d x => cases e; exact Rv.mono zc_of _ h
    | x => cases e
    | l k =>
      obtain ⟨a, h1, rfl⟩ := h
      simp only [fzW] at e
      split at e
      · rename_i ws hc
        obtain ⟨ds, hd, rfl⟩ := Option.map_eq_some_iff.mp e
        obtain ⟨vs, g1, g2⟩ := ok.cell k a _ h1 hc
        refine .lst (.inl (.inl (zc_at ok h1 g1))) ?_
        clear hc g1 e
        induction ws generalizing vs ds with
        | nil => cases hd; cases g2; exact .nil
        | cons w ws ih2 =>
          obtain ⟨v, r, rfl, q1, q2⟩ := g2
          obtain ⟨d, e1, hd⟩ := Option.bind_eq_some_iff.mp hd
          obtain ⟨ds', e2, hd⟩ := Option.bind_eq_some_iff.mp hd
          cases hd
          exact .cons (ih w v d q1 e1) (ih2 ds' e2 r q2)
      · rename_i kvs hc
        obtain ⟨ds, hd, rfl⟩ := Option.map_eq_some_iff.mp e
        obtain ⟨xs, g1, g2⟩ := ok.cell k a _ h1 hc
        refine .dic (zc_at ok h1 g1) ?_
        clear hc g1 e
        induction kvs generalizing xs ds with
        | nil => cases hd; cases g2; exact .nil
        | cons w ws ih2 =>
          obtain ⟨k', w⟩ := w
          obtain ⟨v, r, rfl, q1, q2⟩ := g2
          obtain ⟨d, e1, hd⟩ := Option.bind_eq_some_iff.mp hd
          obtain ⟨ds', e2, hd⟩ := Option.bind_eq_some_iff.mp hd
          cases hd
          obtain ⟨d', e3, rfl⟩ := Option.map_eq_some_iff.mp e1
          exact .cons (k := Sum.inr k') (ih w v d' q1 e3) (ih2 ds' e2 r q2)
      · cases e
/-- the slots that hold data -/
def pv1 : Option W → Sl
  | some (.d x) => .val x
  | _ => .un
def pview (δ : Env) : List Sl := δ.map pv1
/-- the slots, cells read as data -/
def vw1 (M : List Cell) : Option W → Sl
  | some w => match fzW 9 M w with
    | some d => .val d
    | none => .un
  | none => .un
def view (M : List Cell) (δ : Env) : List Sl := δ.map (vw1 M)
theorem pview_r {G : Gx} {S : Sm} {σ : L2.St} {δ : Env} {E : Hp} (h : Same S.Z S.H) (r : RH G S σ δ) : R G.K E (S.st h) σ (pview δ) := by
  refine ⟨fun i s e => ?_, fun i j a ds es e _ _ _ => ?_⟩
  · unfold pview at e
    rw [List.getElem?_map] at e
    obtain ⟨o, ho, rfl⟩ := Option.map_eq_some_iff.mp e
    have hl : i < σ.length := by rw [r.len]; exact (List.getElem?_eq_some_iff.mp ho).1
    cases o with
    | none => exact ⟨_, List.getElem?_eq_getElem hl, trivial⟩
    | some w =>
      obtain ⟨v, h1, h2⟩ := r.at_ i w ho
      cases w with
      | d x => exact ⟨some v, h1, v, rfl, h2⟩
      | l n => exact ⟨some v, h1, trivial⟩
      | x => exact ⟨some v, h1, trivial⟩
  · unfold pview at e
    rw [List.getElem?_map] at e
    obtain ⟨o, ho, e⟩ := Option.map_eq_some_iff.mp e
    cases o with
    | none => cases e
    | some w => cases w <;> cases e
theorem view_r {G : Gx} {S : Sm} {M : List Cell} {σ : L2.St} {δ : Env} {E : Hp} (ok : OkS G S M) (r : RH G S σ δ) : R G.K E ⟨Zc S, S.H, zc_ok ok.zh⟩ σ (view M δ) := by
  refine ⟨fun i s e => ?_, fun i j a ds es e _ _ _ => ?_⟩
  · unfold view at e
    rw [List.getElem?_map] at e
    obtain ⟨o, ho, rfl⟩ := Option.map_eq_some_iff.mp e
    have hl : i < σ.length := by rw [r.len]; exact (List.getElem?_eq_some_iff.mp ho).1
    cases o with
    | none => exact ⟨_, List.getElem?_eq_getElem hl, trivial⟩
    | some w =>
      obtain ⟨v, h1, h2⟩ := r.at_ i w ho
      refine ⟨some v, h1, ?_⟩
      show RS G.K E _ (some v) (match fzW 9 M w with | some d => Sl.val d | none => Sl.un)
      cases e : fzW 9 M w with
      | none => exact trivial
      | some d => exact ⟨v, rfl, fz_rv ok 9 w v d h2 e⟩
  · unfold view at e
    rw [List.getElem?_map] at e
    obtain ⟨o, ho, e⟩ := Option.map_eq_some_iff.mp e
    cases o with
    | none => cases e
    | some w =>
      have e : (match fzW 9 M w with | some d => Sl.val d | none => Sl.un) = Sl.own ds := e
      split at e <;> cases e
/-- what a look over the cells left: nothing is frozen by it -/
theorem unview {G : Gx} {S : Sm} {M : List Cell} (ok : OkS G S M) {T : Stt} (x : Ex ⟨Zc S, S.H, zc_ok ok.zh⟩ T) : Le S ⟨S.Z, T.H, S.L⟩ ∧ OkS G ⟨S.Z, T.H, S.L⟩ M := by
  have hs : Same S.H T.H := x.h
  exact ok_ex ok (T := ⟨S.Z, T.H, ok.zh.trans hs⟩) ⟨Same.refl _, hs, fun _ h _ => h⟩
/-- a pure result -/
def ofO {α : Type} (o : Option α) (M : List Cell) : Rr α := o.map fun a => .ok a M
theorem fit_ofO {α : Type} {G : Gx} {Wr : Value → Hp → Prop} {S : Sm} {o : Option α} {M : List Cell} {q : α → List Cell → Sm → Prop} (h : Fit G Wr S (ofO o M) q) : ∃ a, o = some a ∧ ∀ S', Le S S' → OkS G S' M → q a M S' := by
  cases o with
  | none => exact False.elim h
  | some a => exact ⟨a, rfl, h⟩
/-- lists of scalars, free of what can change -/
def scalL : List D → Option (List D)
  | [] => some []
  | d :: r => (scalK d).bind fun d' => (scalL r).map (d' :: ·)
theorem scalL_rv {K : PySem.W.Frag} {H H' : Hp} : ∀ {ds ds' : List D} {vs : List V}, scalL ds = some ds' → RvL K H ds vs → RvL K H' ds' vs
  | [], _, _, e, r => by cases e; cases r; exact .nil
  | d :: ds, _, _, e, r => by
    cases r with
    | cons a b =>
      obtain ⟨d', e1, e⟩ := Option.bind_eq_some_iff.mp e
      obtain ⟨ds', e2, rfl⟩ := Option.map_eq_some_iff.mp e
      exact .cons (scal_rv e1 a) (scalL_rv e2 b)
section
variable {X : Cx} {W : WX} {a b c e : Expr} {pos : Pos}
def lift (f : FE) : FH := fun δ M => ofO ((f (pview δ)).map .d) M
theorem lift_run {G : Gx} {f : FE} {σ : L2.St} {H : Hp} {Q : VK} (q : tH G W (lift f) σ H Q) : tD G.K f σ H Q := by
  obtain ⟨S, M, δ, rfl, ok, r, hf⟩ := q
  obtain ⟨w, hw, hf⟩ := fit_ofO hf
  obtain ⟨d, hd, rfl⟩ := Option.map_eq_some_iff.mp hw
  refine ⟨S.H, S.st ok.zh, pview δ, d, rfl, pview_r ok.zh r, hd, fun v T x rv => ?_⟩
  obtain ⟨le, ok'⟩ := ok_ex ok x
  exact hf ⟨T.Z, T.H, S.L⟩ le ok' v rv
theorem he_lift {f : FE} (h : DE X e f) : HE X X.gx W e (lift f) := pe_conseq h fun σ H Q q => lift_run q
def hView (f : FE) : FH := fun δ M => ofO (((f (view M δ)).bind scalK).map .d) M
theorem he_view {f : FE} (h : DE X e f) : HE X X.gx W e (hView f) := pe_conseq h fun σ H Q q => by
  obtain ⟨S, M, δ, rfl, ok, r, hf⟩ := q
  obtain ⟨w, hw, hf⟩ := fit_ofO hf
  obtain ⟨d, hd, rfl⟩ := Option.map_eq_some_iff.mp hw
  obtain ⟨d1, h1, h2⟩ := Option.bind_eq_some_iff.mp hd
  refine ⟨S.H, ⟨Zc S, S.H, zc_ok ok.zh⟩, view M δ, d1, rfl, view_r ok r, h1, fun v T x rv => ?_⟩
  obtain ⟨le, ok'⟩ := unview ok x
  exact hf ⟨S.Z, T.H, S.L⟩ le ok' v (scal_rv h2 rv)
def asBl : D → Option Bool
  | .bool b => some b
  | _ => none
def lT (f : FE) : FT := fun δ M => ofO ((f (pview δ)).bind asBl) M
def vT (f : FE) : FT := fun δ M => ofO ((f (view M δ)).bind asBl) M
theorem asBl_some {d : D} {k : Bool} (h : asBl d = some k) : d = .bool k := by cases d <;> cases h; rfl
theorem ht_lift {f : FE} (h : PT X e (tDT X.K f)) : HT X X.gx W e (lT f) := pt_conseq h fun σ H Q q => by
  obtain ⟨S, M, δ, rfl, ok, r, hf⟩ := q
  obtain ⟨k, hk, hf⟩ := fit_ofO hf
  obtain ⟨d, hd, hk⟩ := Option.bind_eq_some_iff.mp hk
  rw [asBl_some hk] at hd
  refine ⟨S.H, S.st ok.zh, pview δ, k, rfl, pview_r ok.zh r, hd, fun T x => ?_⟩
  obtain ⟨le, ok'⟩ := ok_ex ok x
  exact hf ⟨T.Z, T.H, S.L⟩ le ok'
theorem ht_view {f : FE} (h : PT X e (tDT X.K f)) : HT X X.gx W e (vT f) := pt_conseq h fun σ H Q q => by
  obtain ⟨S, M, δ, rfl, ok, r, hf⟩ := q
  obtain ⟨k, hk, hf⟩ := fit_ofO hf
  obtain ⟨d, hd, hk⟩ := Option.bind_eq_some_iff.mp hk
  rw [asBl_some hk] at hd
  refine ⟨S.H, ⟨Zc S, S.H, zc_ok ok.zh⟩, view M δ, k, rfl, view_r ok r, hd, fun T x => ?_⟩
  obtain ⟨le, ok'⟩ := unview ok x
  exact hf ⟨S.Z, T.H, S.L⟩ le ok'
/-- a new list of scalars, reckoned over cells: data -/
def hViewO (g : List Sl → Option (List D)) : FH := fun δ M => ofO (((g (view M δ)).bind scalL).map fun ys => .d (.list ys)) M
theorem viewO_run {G : Gx} {g : List Sl → Option (List D)} {σ : L2.St} {H : Hp} {Q : VK} (q : tH G W (hViewO g) σ H Q) : tDO2 G.K g σ H Q := by
  obtain ⟨S, M, δ, rfl, ok, r, hf⟩ := q
  obtain ⟨w, hw, hf⟩ := fit_ofO hf
  obtain ⟨ys, hy, rfl⟩ := Option.map_eq_some_iff.mp hw
  obtain ⟨zs, h1, h2⟩ := Option.bind_eq_some_iff.mp hy
  refine ⟨S.H, ⟨Zc S, S.H, zc_ok ok.zh⟩, view M δ, zs, rfl, view_r ok r, h1, fun p ws T x h0 z0 h2' h3 => ?_⟩
  have hs : Same S.H T.H := x.h
  have zp : S.Z p = none := ok.zh.free h0
  let T2 : Stt := ⟨upd S.Z p (.lst ws), T.H, fun b o e => by
    by_cases hb : b = p
    · subst hb; rw [upd_same] at e; cases e; exact h2'
    · rw [upd_ne hb] at e; exact hs _ _ (ok.zh _ _ e)⟩
  have x2 : Ex (S.st ok.zh) T2 := ⟨same_upd zp _, hs, fun b g1 g2 => by
    show upd S.Z p _ b = none
    rw [upd_ne (show b ≠ p from fun e => by subst e; exact g2 h0)]
    exact g1⟩
  obtain ⟨le, ok'⟩ := ok_ex ok x2
  exact hf ⟨T2.Z, T2.H, S.L⟩ le ok' (.ref p) (.lst (.inl (.inl upd_same)) (scalL_rv h2 h3))
theorem he_viewO {g : List Sl → Option (List D)} (h : PE X e (tDO2 X.K g)) : HE X X.gx W e (hViewO g) := pe_conseq h fun σ H Q q => viewO_run q
/-- the same, a cell -/
def hViewC (g : List Sl → Option (List D)) : FH := fun δ M => bnd (ofO ((g (view M δ)).bind scalL) M) fun ys M => some (.ok (.l M.length) (M ++ [.lst (ys.map .d)]))
end
end Q

set_option Elab.async false
set_option linter.all false
set_option maxRecDepth 100000
set_option maxHeartbeats 4000000
/-! Expressions over cells. -/
namespace Q
open PySem PySem.Spec PyProof.Rows L2 Pd
section
variable {X : Cx} {G : Gx} {Ww : WX} {a b c e : Expr} {pos : Pos}
def hVar (i : Nat) : FH := fun δ M => match δ[i]? with
  | some (some w) => some (.ok w M)
  | _ => none
theorem he_var (i : Nat) {x : Str} (hN : X.N[i]? = some x := by rfl) (hv : Vis X.env.scope x := by first | exact Or.inl rfl | exact Or.inr (Or.inl rfl) | exact Or.inr (Or.inr rfl)) (hd : (x == ("__debug__" : Str)) = false := by decide)
    (hcd : (x == ("__classdict__" : Str)) = false := by decide) : HE X G Ww (.Name x pos) (hVar i) := by
  refine pe_conseq (pe_var hN hv hd hcd) fun σ H Q h => ?_
  obtain ⟨S, M, δ, rfl, ok, r, hf⟩ := h
  unfold hVar at hf
  split at hf
  · rename_i w hw
    obtain ⟨v, h1, h2⟩ := r.at_ i _ hw
    exact ⟨v, h1, hf.here ok v h2⟩
  · exact False.elim hf
/-! ### argument lists, displays -/
def haNil : FHA := fun _ M => some (.ok [] M)
def haCons (f : FH) (g : FHA) : FHA := fun δ M => bnd (f δ M) fun w M1 => bnd (g δ M1) fun ws M2 => some (.ok (w :: ws) M2)
theorem ha_nil : HA X G Ww [] haNil := pa_conseq pa_nil fun σ H Q h => by
  obtain ⟨S, M, δ, rfl, ok, r, hf⟩ := h
  exact hf.here ok [] rfl
theorem ha_cons {es : List Expr} {f : FH} {g : FHA} (h : HE X G Ww e f) (t : HA X G Ww es g) (hs : starEach (e :: es) X.env = (false, eval e X.env) :: starEach es X.env := by rfl) : HA X G Ww (e :: es) (haCons f g) := pa_conseq (pa_cons h t hs) fun σ H Q h => by
  obtain ⟨S, M, δ, rfl, ok, r, hf⟩ := h
  refine ⟨S, M, δ, rfl, ok, r, hf.go fun w M1 S1 x1 ok1 h1 v rv => ?_⟩
  refine ⟨S1, M1, δ, rfl, ok1, r.mono x1, h1.go fun ws M2 S2 x2 ok2 h2 vs rvs => ?_⟩
  exact h2.here ok2 _ ⟨v, vs, rfl, rv.mono x2, rvs⟩
/-- a list that is a cell -/
def cellL (ws : List W) (M : List Cell) : Rr W := if ws.length ≤ lim then some (.ok (.l M.length) (M ++ [.lst ws])) else none
theorem cellL_fit {Wr : Value → Hp → Prop} {S : Sm} {M : List Cell} {ws : List W} {vs : List V} {Q : VK} {p : Addr} (ok : OkS G S M) (r : RwL G S ws vs) (h : Fit G Wr S (cellL ws M) fun w _ S' => ∀ v, Rw G S' w v → Q v S'.H) (hp : S.H p = none) : Q (.ref p) (upd S.H p (.lst vs)) := by
  unfold cellL at h
  split at h
  · obtain ⟨le, ok2⟩ := ok_new ok hp (.lst ws) (.lst vs) fun T gr hT => ⟨vs, hT, r.gr gr⟩
    exact h.at le ok2 (.ref p) (new_at ok p _ _)
  · exact False.elim h
theorem cellL_lim {Wr : Value → Hp → Prop} {S : Sm} {M : List Cell} {ws : List W} {q : W → List Cell → Sm → Prop} (h : Fit G Wr S (cellL ws M) q) : ws.length ≤ lim := by
  unfold cellL at h
  split at h
  · assumption
  · exact False.elim h
def hCell (g : FHA) : FH := fun δ M => bnd (g δ M) fun ws M1 => cellL ws M1
theorem he_cell {es : List Expr} {g : FHA} (h : HA X G Ww es g) : HE X G Ww (.List es pos) (hCell g) := pe_conseq (pe_lst h) fun σ H Q h => by
  obtain ⟨S, M, δ, rfl, ok, r, hf⟩ := h
  refine ⟨S, M, δ, rfl, ok, r, hf.go fun ws M1 S1 x1 ok1 h1 vs rvs => ⟨?_, fun p hp => cellL_fit ok1 rvs h1 hp⟩⟩
  rw [rvs.length]
  exact Nat.le_trans (cellL_lim h1) lim_line
/-- an empty dict, a cell -/
def hDict0 : FH := fun _ M => some (.ok (.l M.length) (M ++ [.dct []]))
theorem he_dict0 : HE X G Ww (.Dict [] [] pos) hDict0 := pe_conseq pe_dnewK fun σ H Q h => by
  obtain ⟨S, M, δ, rfl, ok, r, hf⟩ := h
  intro p hp
  obtain ⟨le, ok2⟩ := ok_new ok hp (.dct []) (.dK []) fun T gr hT => ⟨[], hT, rfl⟩
  exact hf.at le ok2 (.ref p) (new_at ok p _ _)
/-- a tuple of data -/
def tupD (ws : List W) (M : List Cell) : Rr W := ofO ((datL ws).bind fun ds => if ds.length ≤ lim then some (.d (.tuple ds)) else none) M
def hTup (g : FHA) : FH := fun δ M => bnd (g δ M) tupD
theorem he_tup {es : List Expr} {g : FHA} {k : Nat} (h : HA X X.gx Ww es g) : HE X X.gx Ww (.Tuple es k pos) (hTup g) := pe_conseq (pe_tupN h) fun σ H Q h => by
  obtain ⟨S, M, δ, rfl, ok, r, hf⟩ := h
  refine ⟨S, M, δ, rfl, ok, r, hf.go fun ws M1 S1 x1 ok1 h1 vs rvs => ?_⟩
  obtain ⟨w, hw, h1⟩ := fit_ofO h1
  obtain ⟨ds, hd, hw⟩ := Option.bind_eq_some_iff.mp hw
  split at hw
  · rename_i hz
    cases hw
    have rd := rvs.toD hd
    refine ⟨by rw [rd.length]; exact Nat.le_trans hz lim_line, q_tup (S := S1.st ok1.zh) (.refl _) rd fun v S' hx r' => ?_⟩
    obtain ⟨le, ok2⟩ := ok_ex ok1 hx
    exact h1 _ le ok2 v r'
  · cases hw
/-! ### subscripts, attributes, lengths -/
def ixW (x y : W) (M : List Cell) : Rr W := match x, y with
  | .l n, .d (.int i) => (match M[n]? with
    | some (.lst ws) => ofO (atI ws i) M
    | _ => none)
  | .d x, .d y => ofO ((ixD x y).map .d) M
  | _, _ => none
def hIx (fa fb : FH) : FH := fun δ M => bnd (fa δ M) fun x M1 => bnd (fb δ M1) fun y M2 => ixW x y M2
theorem atI_rw {S : Sm} {ws : List W} {vs : List V} {i : Int} {w : W} (h : RwL G S ws vs) (e : atI ws i = some w) : ∃ v, atI vs i = some v ∧ Rw G S w v := by
  unfold atI at e ⊢
  rw [h.length]
  cases ei : ixN ws.length i with
  | none => rw [ei] at e; cases e
  | some j =>
    rw [ei] at e
    obtain ⟨v, h1, h2⟩ := h.get (show ws[j]? = some w from e)
    exact ⟨v, h1, h2⟩
theorem he_ix {fa fb : FH} (ha : HE X X.gx Ww a fa) (hb : HE X X.gx Ww b fb) (hs : PlainIx b) : HE X X.gx Ww (.Subscript a b pos) (hIx fa fb) := by
  refine pe_conseq (pe_ix ix_seq ha hb hs) fun σ H Q h => ?_
  obtain ⟨S, M, δ, rfl, ok, r, hf⟩ := h
  refine ⟨S, M, δ, rfl, ok, r, hf.go fun x M1 S1 x1 ok1 h1 v rv => ?_⟩
  refine ⟨S1, M1, δ, rfl, ok1, r.mono x1, h1.go fun y M2 S2 x2 ok2 h2 u ru => ?_⟩
  have rv := rv.mono x2
  cases x with
  | x => cases y <;> exact False.elim h2
  | l n =>
    cases y with
    | l m => exact False.elim h2
    | x => exact False.elim h2
    | d y =>
      cases y with
      | int i =>
        cases ru
        have h2 : Fit X.gx _ S2 (match M2[n]? with | some (Cell.lst ws) => ofO (atI ws i) M2 | _ => none) _ := h2
        split at h2
        · rename_i ws hc
          obtain ⟨w, hw, h2⟩ := fit_ofO h2
          obtain ⟨p, g1, rfl⟩ := rv
          obtain ⟨vs, g2, g3⟩ := ok2.cell n p _ g1 hc
          obtain ⟨z, z1, z2⟩ := atI_rw g3 hw
          exact .inl ⟨p, vs, i, z, rfl, rfl, .inl (.inl g2), z1, h2 S2 (.refl S2) ok2 z z2⟩
        · exact False.elim h2
      | _ => exact False.elim h2
  | d x =>
    cases y with
    | l m => exact False.elim h2
    | x => exact False.elim h2
    | d y =>
      have h2 : Fit X.gx _ S2 (ofO ((ixD x y).map W.d) M2) _ := h2
      obtain ⟨w, hw, h2⟩ := fit_ofO h2
      obtain ⟨d, hd, rfl⟩ := Option.map_eq_some_iff.mp hw
      have r1'' : Rv X.K S2.Z x v := rv
      have r2'' : Rv X.K S2.Z y u := ru
      have fin : ∀ z, Rv X.K S2.Z d z → Q z S2.H := fun z rz => h2 S2 (.refl S2) ok2 z rz
      cases y with
      | int i =>
        cases r2''
        cases x with
        | list ds =>
          cases r1'' with
          | lst a1 b1 =>
            obtain ⟨z, e1, e2⟩ := Pd.atI_rv b1 hd
            exact .inl ⟨_, _, i, z, rfl, rfl, ok2.zh.seq a1, e1, fin z e2⟩
        | tuple ds =>
          cases r1'' with
          | tup a1 b1 =>
            obtain ⟨z, e1, e2⟩ := Pd.atI_rv b1 hd
            exact .inr (.inl ⟨_, _, i, z, rfl, rfl, sqt_mono ok2.zh a1, e1, fin z e2⟩)
        | str z =>
          cases r1''
          simp only [ixD] at hd
          split at hd
          · rename_i hz
            obtain ⟨c, c1, rfl⟩ := Option.map_eq_some_iff.mp hd
            exact .inr (.inr ⟨z, i, c, rfl, rfl, Nat.le_trans hz lim_line, c1, fin _ (Rv.str _)⟩)
          · cases hd
        | _ => cases hd
      | _ => cases x <;> cases hd
/-- d[k], k a text -/
def getW (x : W) (k : Str) (M : List Cell) : Rr W := match x with
  | .l n => (match M[n]? with
    | some (.dct kvs) => ofO (kvs.lookup k) M
    | _ => none)
  | .d (.dict ds) => ofO ((lookD ds k).map .d) M
  | _ => none
def keyW (x y : W) (M : List Cell) : Rr W := match y with
  | .d (.str k) => getW x k M
  | _ => none
def hKey (fa fb : FH) : FH := fun δ M => bnd (fa δ M) fun x M1 => bnd (fb δ M1) fun y M2 => keyW x y M2
theorem he_key {fa fb : FH} (hu : X.A.units + 1 < cLine) (ha : HE X X.gx Ww a fa) (hb : HE X X.gx Ww b fb) (hs : NoSl b) : HE X X.gx Ww (.Subscript a b pos) (hKey fa fb) := by
  refine pe_conseq (pe_dget hu ha hb hs) fun σ H Q h => ?_
  obtain ⟨S, M, δ, rfl, ok, r, hf⟩ := h
  refine ⟨S, M, δ, rfl, ok, r, hf.go fun x M1 S1 x1 ok1 h1 v rv => ?_⟩
  refine ⟨S1, M1, δ, rfl, ok1, r.mono x1, h1.go fun y M2 S2 x2 ok2 h2 u ru => ?_⟩
  have rv := rv.mono x2
  cases y with
  | l m => exact False.elim h2
  | x => exact False.elim h2
  | d y =>
    cases y with
    | str k =>
      cases ru
      have h2 : Fit X.gx _ S2 (getW x k M2) _ := h2
      cases x with
      | x => exact False.elim h2
      | l n =>
        have h2 : Fit X.gx _ S2 (match M2[n]? with | some (Cell.dct kvs) => ofO (kvs.lookup k) M2 | _ => none) _ := h2
        split at h2
        · rename_i kvs hc
          obtain ⟨w, hw, h2⟩ := fit_ofO h2
          obtain ⟨p, g1, rfl⟩ := rv
          obtain ⟨xs, g2, g3⟩ := ok2.cell n p _ g1 hc
          have := g3.get (k := k)
          rw [hw] at this
          obtain ⟨z, z1, z2⟩ := this
          exact ⟨p, z, rfl, by rw [← z1]; exact DGet.k (k := Sum.inr k) g2, h2 S2 (.refl S2) ok2 z z2⟩
        · exact False.elim h2
      | d x =>
        cases x with
        | dict ds =>
          have h2 : Fit X.gx _ S2 (ofO ((lookD ds k).map W.d) M2) _ := h2
          obtain ⟨w, hw, h2⟩ := fit_ofO h2
          obtain ⟨d, hd, rfl⟩ := Option.map_eq_some_iff.mp hw
          have r1' : Rv X.K S2.Z (.dict ds) v := rv
          cases r1' with
          | dic a1 b1 =>
            obtain ⟨z, z1, z2⟩ := lookD_rv b1 hd
            exact ⟨_, z, rfl, by rw [← z1]; exact DGet.k (k := Sum.inr k) (ok2.zh _ _ a1), h2 S2 (.refl S2) ok2 z z2⟩
        | _ => exact False.elim h2
    | _ => exact False.elim h2
/-- what a class has: its address, plain attributes -/
structure KC (K : PySem.W.Frag) (mg : Str → Option Value) (c : Str) (C : Addr) : Prop where
  mgC : mg c = some (.ref C)
  cl : Cls K C
abbrev AtC (K : PySem.W.Frag) (mg : Str → Option Value) (c f : Str) : Prop := ∃ C, KC K mg c C ∧ NoAttr K C f
def attrW (c : Str) (x : W) (f : Str) (M : List Cell) : Rr W := match x with
  | .l n => (match M[n]? with
    | some (.ins c' fs) => if c' = c then ofO (fs.lookup f) M else none
    | _ => none)
  | _ => none
def hAttr (c : Str) (fa : FH) (f : Str) : FH := fun δ M => bnd (fa δ M) fun x M1 => attrW c x f M1
theorem he_attr {c f : Str} {fa : FH} (T : AtC X.K X.mg c f) (ha : HE X X.gx Ww e fa) (hb : attributeBase e f X.env (eval e X.env) = eval e X.env := by rfl) : HE X X.gx Ww (.Attribute e f pos) (hAttr c fa f) := by
  obtain ⟨C, k, na⟩ := T
  refine pe_conseq (pe_fld ha hb) fun σ H Q h => ?_
  obtain ⟨S, M, δ, rfl, ok, r, hf⟩ := h
  refine ⟨S, M, δ, rfl, ok, r, hf.go fun x M1 S1 x1 ok1 h1 v rv => ?_⟩
  unfold attrW at h1
  split at h1
  · rename_i n
    split at h1
    · rename_i c' fs hc
      split at h1
      · rename_i ec
        subst ec
        obtain ⟨w, hw, h1⟩ := fit_ofO h1
        obtain ⟨p, g1, rfl⟩ := rv
        obtain ⟨C', dx, vs, g0, g2, g3⟩ := ok1.cell n p _ g1 hc
        have eC : C' = C := by
          have : X.mg c' = some (.ref C') := g0
          rw [k.mgC] at this
          cases this
          rfl
        subst eC
        have := g3.get (k := f)
        rw [hw] at this
        obtain ⟨z, z1, z2⟩ := this
        exact ⟨p, C', dx, vs, z, rfl, g2, k.cl, na, z1, h1 S1 (.refl S1) ok1 z z2⟩
      · exact False.elim h1
    · exact False.elim h1
  · exact False.elim h1
/-- len of a list or a dict that is a cell, of data -/
def lenW : List W → List Cell → Rr W
  | [.l n], M => (match M[n]? with
    | some (.lst ws) => some (.ok (.d (.int ws.length)) M)
    | _ => none)
  | _, _ => none
def hLen (g : FHA) : FH := fun δ M => bnd (g δ M) lenW
theorem he_len {p : Pos} {g : FHA} (hg : Gl X "len") (hm : X.mg "len" = none) (ha : HA X X.gx Ww [e] g) (he : starEach [e] X.env = (false, eval e X.env) :: starEach [] X.env := by rfl) (hpl : (backTo pos (starEach [] X.env)).any (·.1) = false := by rfl) : HE X X.gx Ww (.Call (.Name "len" p) [e] [] pos) (hLen g) := by
  refine pe_conseq (pe_callB call_len_seq hg hm PySem.boot_len ha (he := he) (hpl := hpl)) fun σ H Q h => ?_
  obtain ⟨S, M, δ, rfl, ok, r, hf⟩ := h
  refine ⟨S, M, δ, rfl, ok, r, hf.go fun ws M1 S1 x1 ok1 h1 vs rvs => ?_⟩
  unfold lenW at h1
  split at h1
  · rename_i n
    split at h1
    · rename_i us hc
      obtain ⟨v, t, rfl, rv, rt⟩ := rvs
      cases rt
      obtain ⟨p, g1, rfl⟩ := rv
      obtain ⟨zs, g2, g3⟩ := ok1.cell n p _ g1 hc
      refine ⟨p, zs, rfl, .inl (.inl (.inl g2)), ?_⟩
      rw [g3.length]
      exact h1.here ok1 _ (.int _)
    · exact False.elim h1
  · exact False.elim h1
end
end Q

set_option Elab.async false
set_option linter.all false
set_option maxRecDepth 100000
set_option maxHeartbeats 4000000
/-! Tests, calls, statements. -/
namespace Q
open PySem PySem.Spec PyProof.Rows L2 Pd
section
variable {X : Cx} {G : Gx} {Ww : WX} {a b c e : Expr} {pos : Pos}
/-! ### tests -/
def tE (f : FH) : FT := fun δ M => bnd (f δ M) fun w M1 => match w with
  | .d (.bool k) => some (.ok k M1)
  | _ => none
theorem ht_of {f : FH} (h : HE X X.gx Ww e f) (he : ∀ whole, isTrue e X.env whole = (do let v ← whole; standAt e.pos; holding [v] (truthy v)) := by intro _; rfl) : HT X X.gx Ww e (tE f) := by
  refine pt_conseq (pt_val h he) fun σ H Q q => ?_
  obtain ⟨S, M, δ, rfl, ok, r, hf⟩ := q
  refine ⟨S, M, δ, rfl, ok, r, hf.go fun w M1 S1 x1 ok1 h1 v rv => ?_⟩
  cases w with
  | l n => exact False.elim h1
  | x => exact False.elim h1
  | d y =>
    cases y with
    | bool k => cases rv; exact ⟨k, rfl, h1.here ok1⟩
    | _ => exact False.elim h1
/-- a list (cell or data): is anything in it -/
def truW (w : W) (M : List Cell) : Rr Bool := match w with
  | .l n => (match M[n]? with
    | some (.lst ws) => some (.ok (!ws.isEmpty) M)
    | _ => none)
  | .d (.list ds) => some (.ok (!ds.isEmpty) M)
  | .d (.tuple ds) => some (.ok (!ds.isEmpty) M)
  | .d (.bool k) => some (.ok k M)
  | _ => none
def tTru (f : FH) : FT := fun δ M => bnd (f δ M) truW
theorem pt_tru {ta : TE} {r : V → Hp → (Bool → Hp → Prop) → Prop} (ha : PE X a ta) (hr : TruR X r) (he : ∀ whole, isTrue a X.env whole = (do let v ← whole; standAt a.pos; holding [v] (truthy v))) :
    PT X a (fun σ H Q => ta σ H fun x H' => r x H' Q) := by
  refine ⟨fun pins s σ H Q I h => ?_⟩
  exact isTrue_plain (thn (ha.run pins s σ H _ I h) fun v s1 ⟨x, H1, I1, r1, q1⟩ => hr pins s1 σ H1 x v Q I1 r1 q1) (he _)
theorem rvl_empty {K : PySem.W.Frag} {H : Hp} {ds : List D} {vs : List V} (r : RvL K H ds vs) : vs.isEmpty = ds.isEmpty := by cases r <;> rfl
theorem ht_tru {f : FH} (h : HE X X.gx Ww e f) (he : ∀ whole, isTrue e X.env whole = (do let v ← whole; standAt e.pos; holding [v] (truthy v)) := by intro _; rfl) : HT X X.gx Ww e (tTru f) := by
  refine pt_conseq (pt_tru h tru_ok he) fun σ H Q q => ?_
  obtain ⟨S, M, δ, rfl, ok, r, hf⟩ := q
  refine ⟨S, M, δ, rfl, ok, r, hf.go fun w M1 S1 x1 ok1 h1 v rv => ?_⟩
  cases w with
  | x => exact False.elim h1
  | l n =>
    have h1 : Fit X.gx _ S1 (match M1[n]? with | some (Cell.lst ws) => some (Rs.ok (!ws.isEmpty) M1) | _ => none) _ := h1
    split at h1
    · rename_i ws hc
      obtain ⟨p, g1, rfl⟩ := rv
      obtain ⟨vs, g2, g3⟩ := ok1.cell n p _ g1 hc
      have e0 : vs.isEmpty = ws.isEmpty := by have := g3.length; cases vs <;> cases ws <;> first | rfl | (simp at this)
      exact ⟨_, .inl ⟨vs, .inl (.inl g2), by rw [e0]⟩, h1.here ok1⟩
    · exact False.elim h1
  | d y =>
    cases y with
    | bool k => cases rv; exact ⟨k, rfl, h1.here ok1⟩
    | list ds =>
      cases rv with
      | lst a1 b1 => exact ⟨_, .inl ⟨_, ok1.zh.seq a1, by rw [rvl_empty b1]⟩, h1.here ok1⟩
    | tuple ds =>
      cases rv with
      | tup a1 b1 => exact ⟨_, .inr (.inl ⟨_, sqt_mono ok1.zh a1, by rw [rvl_empty b1]⟩), h1.here ok1⟩
    | _ => exact False.elim h1
def tNot (f : FT) : FT := fun δ M => bnd (f δ M) fun k M1 => some (.ok (!k) M1)
theorem ht_not {f : FT} (h : HT X G Ww e f) : HT X G Ww (.UnaryOp .Not e pos) (tNot f) := pt_conseq (pt_not h) fun σ H Q q => by
  obtain ⟨S, M, δ, rfl, ok, r, hf⟩ := q
  exact ⟨S, M, δ, rfl, ok, r, hf.go fun k M1 S1 x1 ok1 h1 => h1.here ok1⟩
def tAnd (f g : FT) : FT := fun δ M => bnd (f δ M) fun k M1 => if k then g δ M1 else some (.ok false M1)
def tOr (f g : FT) : FT := fun δ M => bnd (f δ M) fun k M1 => if k then some (.ok true M1) else g δ M1
abbrev HW (X : Cx) (G : Gx) (W : WX) (e : Expr) (f : FT) : Prop := PW X e (tHT G W f)
theorem hw_and1 {f : FT} (h : HT X G Ww a f) : HW X G Ww (.BoolOp .And [a] pos) f := pw_and1 h
theorem hw_or1 {f : FT} (h : HT X G Ww a f) : HW X G Ww (.BoolOp .Or [a] pos) f := pw_or1 h
theorem hw_pt {f : FT} (h : HW X G Ww e f) : HT X G Ww e f := h.pt
theorem hw_and {rest : List Expr} {f g : FT} (ha : HT X G Ww a f) (hb : HW X G Ww (.BoolOp .And (b :: rest) pos) g) : HW X G Ww (.BoolOp .And (a :: b :: rest) pos) (tAnd f g) := by
  refine pw_conseq (pw_and ha hb) fun σ H Q q => ?_
  obtain ⟨S, M, δ, rfl, ok, r, hf⟩ := q
  refine ⟨S, M, δ, rfl, ok, r, hf.go fun k M1 S1 x1 ok1 h1 => ?_⟩
  cases k with
  | true => rw [if_pos rfl]; exact ⟨S1, M1, δ, rfl, ok1, r.mono x1, h1⟩
  | false => rw [if_neg (by decide)]; exact h1.here ok1
theorem hw_or {rest : List Expr} {f g : FT} (ha : HT X G Ww a f) (hb : HW X G Ww (.BoolOp .Or (b :: rest) pos) g) : HW X G Ww (.BoolOp .Or (a :: b :: rest) pos) (tOr f g) := by
  refine pw_conseq (pw_or ha hb) fun σ H Q q => ?_
  obtain ⟨S, M, δ, rfl, ok, r, hf⟩ := q
  refine ⟨S, M, δ, rfl, ok, r, hf.go fun k M1 S1 x1 ok1 h1 => ?_⟩
  cases k with
  | true => rw [if_pos rfl]; exact h1.here ok1
  | false => rw [if_neg (by decide)]; exact ⟨S1, M1, δ, rfl, ok1, r.mono x1, h1⟩
/-! ### operators on data -/
def op2 (g : D → D → Option D) (x y : W) (M : List Cell) : Rr W := match x, y with
  | .d x, .d y => ofO ((g x y).map .d) M
  | _, _ => none
def h2 (g : D → D → Option D) (fa fb : FH) : FH := fun δ M => bnd (fa δ M) fun x M1 => bnd (fb δ M1) fun y M2 => op2 g x y M2
theorem h2_run {g : D → D → Option D} {fa fb : FH} {σ : L2.St} {H : Hp} {Q : VK} (h : tH X.gx Ww (h2 g fa fb) σ H Q) : tOp (rD2 X.K g) (tH X.gx Ww fa) (tH X.gx Ww fb) σ H Q := by
  obtain ⟨S, M, δ, rfl, ok, r, hf⟩ := h
  refine ⟨S, M, δ, rfl, ok, r, hf.go fun x M1 S1 x1 ok1 h1 v rv => ?_⟩
  refine ⟨S1, M1, δ, rfl, ok1, r.mono x1, h1.go fun y M2 S2 x2 ok2 h2 u ru => ?_⟩
  have rv := rv.mono x2
  cases x with
  | l n => exact False.elim h2
  | x => exact False.elim h2
  | d x =>
    cases y with
    | l n => exact False.elim h2
    | x => exact False.elim h2
    | d y =>
      have h2 : Fit X.gx _ S2 (ofO ((g x y).map W.d) M2) _ := h2
      obtain ⟨w, hw, h2⟩ := fit_ofO h2
      obtain ⟨d, hd, rfl⟩ := Option.map_eq_some_iff.mp hw
      refine ⟨S2.st ok2.zh, x, y, d, rfl, rv, ru, hd, fun z T xx rz => ?_⟩
      obtain ⟨le, ok'⟩ := ok_ex ok2 xx
      exact h2 ⟨T.Z, T.H, S2.L⟩ le ok' z rz
theorem he_bin {op : Operator} {g : D → D → Option D} {fa fb : FH} (ho : OpD X (binaryOp op) g) (ha : HE X X.gx Ww a fa) (hb : HE X X.gx Ww b fb) : HE X X.gx Ww (.BinOp a op b pos) (h2 g fa fb) := pe_conseq (pe_op ho ha hb) fun _ _ _ h => h2_run h
theorem he_cmp {op : CmpOp} {g : D → D → Option D} {fa fb : FH} (ho : OpD X (compareOp op) g) (ha : HE X X.gx Ww a fa) (hb : HE X X.gx Ww b fb) (hm : behindInMarks op b = false := by rfl) : HE X X.gx Ww (.Compare a [op] [b] pos) (h2 g fa fb) := pe_conseq (pe_cmpR ho ha hb hm) fun _ _ _ h => h2_run h
theorem ht_cmp {op : CmpOp} {g : D → D → Option D} {fa fb : FH} (ho : OpD X (compareOp op) g) (ha : HE X X.gx Ww a fa) (hb : HE X X.gx Ww b fb) (hm : behindInMarks op b = false := by rfl) : HT X X.gx Ww (.Compare a [op] [b] pos) (tE (h2 g fa fb)) :=
  pt_conseq (pt_cmpR ho ha hb hm) fun σ H Q h => by
    obtain ⟨S, M, δ, rfl, ok, r, hf⟩ := h
    refine h2_run (Q := fun x H' => ∃ k, x = .bl k ∧ Q k H') ⟨S, M, δ, rfl, ok, r, hf.go fun w M1 S1 x1 ok1 h1 v rv => ?_⟩
    cases w with
    | l n => exact False.elim h1
    | x => exact False.elim h1
    | d y =>
      cases y with
      | bool k => cases rv; exact ⟨k, rfl, h1.here ok1⟩
      | _ => exact False.elim h1
/-- k in d, k not in d: d a dict that is a cell, k a text -/
def inW (neg : Bool) (x y : W) (M : List Cell) : Rr Bool := match x, y with
  | .d (.str k), .l n => (match M[n]? with
    | some (.dct kvs) => some (.ok (if neg then !(kvs.lookup k).isSome else (kvs.lookup k).isSome) M)
    | _ => none)
  | _, _ => none
def tIn (neg : Bool) (fa fb : FH) : FT := fun δ M => bnd (fa δ M) fun x M1 => bnd (fb δ M1) fun y M2 => inW neg x y M2
theorem in_run {neg : Bool} {fa fb : FH} {σ : L2.St} {H : Hp} {Q : Bool → Hp → Prop} (h : tHT X.gx Ww (tIn neg fa fb) σ H Q) :
    tH X.gx Ww fa σ H fun y H1 => tH X.gx Ww fb σ H1 fun x H2 => ∃ a o, x = .ref a ∧ DGet H2 a y o ∧ Q (if neg then !o.isSome else o.isSome) H2 := by
  obtain ⟨S, M, δ, rfl, ok, r, hf⟩ := h
  refine ⟨S, M, δ, rfl, ok, r, hf.go fun x M1 S1 x1 ok1 h1 v rv => ?_⟩
  refine ⟨S1, M1, δ, rfl, ok1, r.mono x1, h1.go fun y M2 S2 x2 ok2 h2 u ru => ?_⟩
  cases x with
  | l n => exact False.elim h2
  | x => exact False.elim h2
  | d x =>
    cases y with
    | d y => cases x <;> exact False.elim h2
    | x => cases x <;> exact False.elim h2
    | l n =>
      cases x with
      | str k =>
        cases rv
        have h2 : Fit X.gx _ S2 (match M2[n]? with | some (Cell.dct kvs) => some (Rs.ok (if neg then !(kvs.lookup k).isSome else (kvs.lookup k).isSome) M2) | _ => none) _ := h2
        split at h2
        · rename_i kvs hc
          obtain ⟨p, g1, rfl⟩ := ru
          obtain ⟨xs, g2, g3⟩ := ok2.cell n p _ g1 hc
          have e : (valV xs (Sum.inr k : Key)).isSome = (kvs.lookup k).isSome := by
            have := g3.get (k := k)
            cases e : kvs.lookup k with
            | none => rw [e] at this; rw [this]; rfl
            | some w => rw [e] at this; obtain ⟨z, z1, _⟩ := this; rw [z1]; rfl
          refine ⟨p, _, rfl, DGet.k (k := Sum.inr k) g2, ?_⟩
          rw [e]
          exact h2.here ok2
        · exact False.elim h2
      | _ => exact False.elim h2
theorem ht_in {fa fb : FH} (hu : X.A.units + 1 < cLine) (ha : HE X X.gx Ww a fa) (hb : HE X X.gx Ww b fb) (hm : behindInMarks .In b = false := by rfl) : HT X X.gx Ww (.Compare a [.In] [b] pos) (tIn false fa fb) :=
  pt_conseq (pt_cmp (pc_din hu ha hb) hm) fun σ H Q h => by
    obtain ⟨S, M, δ, e, ok, r, hf⟩ := in_run h
    exact ⟨S, M, δ, e, ok, r, hf.imp fun w M1 S1 x1 ok1 q v rv => by
      obtain ⟨S', M', δ', e', ok', r', hf'⟩ := q v rv
      exact ⟨S', M', δ', e', ok', r', hf'.imp fun w2 M2 S2 x2 ok2 q2 v2 rv2 => by
        obtain ⟨p, o, e1, e2, e3⟩ := q2 v2 rv2
        exact ⟨p, o, e1, e2, _, rfl, e3⟩⟩⟩
theorem ht_notIn {fa fb : FH} (hu : X.A.units + 1 < cLine) (ha : HE X X.gx Ww a fa) (hb : HE X X.gx Ww b fb) (hm : behindInMarks .NotIn b = false := by rfl) : HT X X.gx Ww (.Compare a [.NotIn] [b] pos) (tIn true fa fb) :=
  pt_conseq (pt_cmp (pc_dnotin hu ha hb) hm) fun σ H Q h => by
    obtain ⟨S, M, δ, e, ok, r, hf⟩ := in_run h
    exact ⟨S, M, δ, e, ok, r, hf.imp fun w M1 S1 x1 ok1 q v rv => by
      obtain ⟨S', M', δ', e', ok', r', hf'⟩ := q v rv
      exact ⟨S', M', δ', e', ok', r', hf'.imp fun w2 M2 S2 x2 ok2 q2 v2 rv2 => by
        obtain ⟨p, o, e1, e2, e3⟩ := q2 v2 rv2
        exact ⟨p, o, e1, e2, _, rfl, e3⟩⟩⟩
/-! ### slices, copies -/
abbrev FO := Env → List Cell → Rr (Option Int)
def tHO (G : Gx) (W : WX) (f : FO) : TO := fun σ H Q => ∃ (S : Sm) (M : List Cell) (δ : Env), S.H = H ∧ OkS G S M ∧ RH G S σ δ ∧ Fit G (Wx W σ) S (f δ M) fun o _ S' => Q o S'.H
def oN : FO := fun _ M => some (.ok none M)
def oS (f : FH) : FO := fun δ M => bnd (f δ M) fun w M1 => match w with
  | .d (.int i) => some (.ok (some i) M1)
  | _ => none
theorem ho_none : PO X none (tHO X.gx Ww oN) := by
  refine ⟨fun pins s σ H Q I h => po_none.run pins s σ H Q I ?_⟩
  obtain ⟨S, M, δ, rfl, ok, r, hf⟩ := h
  exact hf.here ok
theorem ho_some {f : FH} (h : HE X X.gx Ww e f) : PO X (some e) (tHO X.gx Ww (oS f)) := by
  refine ⟨fun pins s σ H Q I q => (po_some h).run pins s σ H Q I ?_⟩
  obtain ⟨S, M, δ, rfl, ok, r, hf⟩ := q
  refine ⟨S, M, δ, rfl, ok, r, hf.go fun w M1 S1 x1 ok1 h1 v rv => ?_⟩
  cases w with
  | l n => exact False.elim h1
  | x => exact False.elim h1
  | d y =>
    cases y with
    | int i => cases rv; exact ⟨i, rfl, h1.here ok1⟩
    | _ => exact False.elim h1
def cutW (ws : List W) (lo hi : Option Int) : List W := (ws.drop (HT.sIx ws.length 0 lo)).take (HT.sIx ws.length ws.length hi - HT.sIx ws.length 0 lo)
/-- a slice of a list that is a cell: a new cell -/
def slW (w : W) (lo hi : Option Int) (M : List Cell) : Rr W := match w with
  | .l n => (match M[n]? with
    | some (.lst ws) => some (.ok (.l M.length) (M ++ [.lst (cutW ws lo hi)]))
    | _ => none)
  | _ => none
def hSl (fa : FH) (fl fh : FO) : FH := fun δ M => bnd (fa δ M) fun w M1 => bnd (fl δ M1) fun lo M2 => bnd (fh δ M2) fun hi M3 => slW w lo hi M3
theorem he_slice {lo hi : Option Expr} {fa : FH} {fl fh : FO} {p2 : Pos} (ha : HE X X.gx Ww a fa) (hl : PO X lo (tHO X.gx Ww fl)) (hh : PO X hi (tHO X.gx Ww fh)) : HE X X.gx Ww (.Subscript a (.Slice lo hi none p2) pos) (hSl fa fl fh) := by
  refine pe_conseq (pe_slice sl_list ha hl hh) fun σ H Q h => ?_
  obtain ⟨S, M, δ, rfl, ok, r, hf⟩ := h
  refine ⟨S, M, δ, rfl, ok, r, hf.go fun w M1 S1 x1 ok1 h1 v rv => ?_⟩
  refine ⟨S1, M1, δ, rfl, ok1, r.mono x1, h1.go fun lo M2 S2 x2 ok2 h2 => ?_⟩
  refine ⟨S2, M2, δ, rfl, ok2, r.mono (x1.trans x2), h2.go fun hi M3 S3 x3 ok3 h3 => ?_⟩
  have rv := rv.mono (x2.trans x3)
  cases w with
  | d y => exact False.elim h3
  | x => exact False.elim h3
  | l n =>
    have h3 : Fit X.gx _ S3 (match M3[n]? with | some (Cell.lst ws) => some (Rs.ok (W.l M3.length) (M3 ++ [.lst (cutW ws lo hi)])) | _ => none) _ := h3
    split at h3
    · rename_i ws hc
      obtain ⟨p, g1, rfl⟩ := rv
      obtain ⟨vs, g2, g3⟩ := ok3.cell n p _ g1 hc
      refine ⟨p, vs, rfl, .inl (.inl g2), fun q hq => ?_⟩
      have rc : RwL X.gx S3 (cutW ws lo hi) (cutV vs lo hi) := by
        unfold cutW cutV
        rw [g3.length]
        exact (g3.drop _).take _
      obtain ⟨le, ok4⟩ := ok_new ok3 hq (.lst (cutW ws lo hi)) (.lst (cutV vs lo hi)) fun T gr hT => ⟨_, hT, rc.gr gr⟩
      exact h3.at le ok4 (.ref q) (new_at ok3 q _ _)
    · exact False.elim h3
end
end Q

set_option Elab.async false
set_option linter.all false
set_option maxRecDepth 100000
set_option maxHeartbeats 4000000
/-! Calls of defs, of methods, of classes. -/
namespace L2
open PySem PySem.Spec PyProof.Rows
section
variable {X : Cx} {CX : CXT} {k : Nat} {f C : Addr} {fd : FuncData} {ps : List Str} {sp : Sp} {E : St → XK} {x m : Str} {p pos apos : Pos} {e o : Expr} {es : List Expr} {ta : TE} {t : TA}
def tMethS (C : Addr) (m : Str) (sp : Sp) (E : St → XK) (ta : TE) (t : TA) : TE := fun σ H Q => ta σ H fun x H1 => ∃ a dx fs, x = .ref a ∧ H1 a = some (.ins C dx fs) ∧ fs.lookup m = none ∧ t σ H1 fun vs H2 => sp (x :: vs) H2 Q (E σ)
theorem pe_methE {pl : Sem Bool} (he : PE X o ta) (c : Cls X.K C) (hm : Meth X.K C m f) (F : FnOk X.prog X.w X.K X.mg X.base CX k f fd ps sp) (hr : Room k X.A) (hb : Binds X.K fd ps []) (hx : ∀ σ, PassesAt CX X σ (E σ)) (ha : PA X (e :: es) t)
    (hst : starEach (e :: es) X.env = (false, eval e X.env) :: starEach es X.env := by rfl) (hpl : (backTo pos (starEach es X.env)).any (·.1) = false := by rfl)
    (ht : eval (.Call (.Attribute o m apos) (e :: es) [] pos) X.env = (do
      let ov ← eval o X.env
      standAt apos.atName
      let (f, first) ← holding [ov] (getMethod ov m pl)
      callWith pos f first (backTo pos (starEach (e :: es) X.env)) (backToKw pos (keywordEach [] X.env))) := by rfl) :
    PE X (.Call (.Attribute o m apos) (e :: es) [] pos) (tMethS C m sp E ta t) := by
  refine ⟨fun pins s σ H Q I h => ?_⟩
  refine PySem.W.methodCall_KW (pl := pl) (thn (he.run pins s σ H _ I h) fun u s1 ⟨x, H1, I1, rx, a, dx, fs, ex, ea, l, q⟩ => ?_) ht
  subst ex
  obtain rfl : u = Value.ref a := rx
  refine getmeth_ok I1 ea c hm l ?_
  refine PySem.W.callWith_K (first := [.ref a]) (h₀ := X.base) I.ok.mod.kin hm.kp (thn (ha.run pos pins s1 σ H1 _ I1 q) fun us s2 ⟨vs, H2, I2, r, q2⟩ => ⟨I2.kIn, ?_⟩) hst hpl
  exact run_fnS (us := .ref a :: us) (vs := .ref a :: vs) F hr hb (hx σ) I2 (.cons rfl r) q2
theorem pe_methE0 {pl : Sem Bool} (he : PE X o ta) (c : Cls X.K C) (hm : Meth X.K C m f) (F : FnOk X.prog X.w X.K X.mg X.base CX k f fd ps sp) (hr : Room k X.A) (hb : Binds X.K fd ps []) (hx : ∀ σ, PassesAt CX X σ (E σ))
    (ht : eval (.Call (.Attribute o m apos) [] [] pos) X.env = (do
      let ov ← eval o X.env
      standAt apos.atName
      let (f, first) ← holding [ov] (getMethod ov m pl)
      callWith pos f first (backTo pos (starEach [] X.env)) (backToKw pos (keywordEach [] X.env))) := by rfl) :
    PE X (.Call (.Attribute o m apos) [] [] pos) (tMethS C m sp E ta tNil) := by
  refine ⟨fun pins s σ H Q I h => ?_⟩
  refine PySem.W.methodCall_KW (pl := pl) (thn (he.run pins s σ H _ I h) fun u s1 ⟨x, H1, I1, rx, a, dx, fs, ex, ea, l, q⟩ => ?_) ht
  subst ex
  obtain rfl : u = Value.ref a := rx
  refine getmeth_ok I1 ea c hm l ?_
  exact PySem.W.callWith_K0 (first := [.ref a]) I1.kIn hm.kp (run_fnS (us := [.ref a]) (vs := [.ref a]) F hr hb (hx σ) I1 (.cons rfl .nil) q)
theorem run_makeS {pins : List (Addr × Obj)} {σ : St} {H : Hp} {s : Shared} {Q : VK} {us : List Value} {vs : List V} (M : Mk X.K C f) (F : FnOk X.prog X.w X.K X.mg X.base CX k f fd ps sp) (hr : Room (k + 1) X.A) (hb : Binds X.K fd ps [])
    (hx : PassesAt CX X σ (E σ)) (I : Inv X pins σ H s) (r : Vals vs us)
    (h : ∀ x dx, H x = none → H dx = none → dx ≠ x → sp (.ref x :: vs) (upd (upd H dx (.own x)) x (.ins C dx [])) (fun v H2 => v = .non ∧ Q (.ref x) H2) (E σ)) :
    wpAny (model X.prog X.w) X.A (call (.ref C) us) (EP X pins σ Q) X.xe s := by
  have hq := h (s.heap.objs.size + 1) s.heap.objs.size (I.hok.fresh (Nat.le_succ _)) (I.hok.fresh (Nat.le_refl _)) (Nat.ne_of_lt (Nat.lt_succ_self _))
  have I2 := Inv.made (C := C) I
  have r2 : Vals (V.ref (s.heap.objs.size + 1) :: vs) (Value.ref (s.heap.objs.size + 1) :: us) := .cons rfl r
  have hl : (Value.ref (s.heap.objs.size + 1) :: us).length = ps.length := by
    have e := r2.length
    rw [F.len _ _ _ _ hq] at e
    exact e.symm
  have b := hb { s with heap := _ } (Value.ref (s.heap.objs.size + 1) :: us) I2.kIn (by rw [List.append_nil]; exact hl)
  rw [List.append_nil] at b
  refine wpAny_call (make_map (f := f) I.kIn M.makes M.init (beq_iff_eq.mp M.fn) (codeAny_mono (F.run _ X.stack _ _ ⟨Value.ref (s.heap.objs.size + 1) :: us, []⟩ (Value.ref (s.heap.objs.size + 1) :: us) _ _ (E σ) (hr.make C us [])
    (I2.env0.make C us []) b r2 hq) fun r s' hq' => ?_))
  cases r with
  | error e => exact hx pins _ _ e s' I2 hq'
  | ok fl =>
    cases fl with
    | ret u =>
      obtain ⟨v, H', I3, rv, ev, q3⟩ := I2.after hq'
      subst ev
      exact ⟨rv, ⟨V.ref (s.heap.objs.size + 1), H', I3, rfl, q3⟩⟩
    | next => exact False.elim hq'
    | brk => exact False.elim hq'
    | cont => exact False.elim hq'
def tMakeS (C : Addr) (sp : Sp) (E : St → XK) (t : TA) : TE := fun σ H Q => t σ H fun vs H1 => ∀ x dx, H1 x = none → H1 dx = none → dx ≠ x → sp (.ref x :: vs) (upd (upd H1 dx (.own x)) x (.ins C dx [])) (fun v H2 => v = .non ∧ Q (.ref x) H2) (E σ)
theorem pe_makeE (M : Mk X.K C f) (F : FnOk X.prog X.w X.K X.mg X.base CX k f fd ps sp) (hr : Room (k + 1) X.A) (hg : Gl X x) (hm : X.mg x = some (.ref C)) (hb : Binds X.K fd ps []) (hx : ∀ σ, PassesAt CX X σ (E σ))
    (ha : PA X (e :: es) t) (hdb : (x == ("__debug__" : Str)) = false := by decide) (he : starEach (e :: es) X.env = (false, eval e X.env) :: starEach es X.env := by rfl) (hpl : (backTo pos (starEach es X.env)).any (·.1) = false := by rfl) :
    PE X (.Call (.Name x p) (e :: es) [] pos) (tMakeS C sp E t) := by
  refine ⟨fun pins s σ H Q I h => ?_⟩
  refine wpAny_Call_Name_kw (ld_glob I hg hm ?_ hdb)
  refine PySem.W.callWith_K (h₀ := X.base) I.ok.mod.kin M.kp (thn (ha.run pos pins s σ H _ I h) fun us s1 ⟨vs, H1, I1, r, q⟩ => ⟨I1.kIn, ?_⟩) he hpl
  exact run_makeS M F hr hb (hx σ) I1 r q
theorem takes_no {X : Cx} : Takes X (fun _ _ _ _ => False) := fun u s' ⟨a, B, sI, pins, σ, H, cls, d, e, I, nb, up, sky, na, os, ag, w⟩ => False.elim w
end
end L2
namespace Q
open PySem PySem.Spec PyProof.Rows L2 Pd
abbrev FHF := List W → List Cell → Rr W
def spQ (G : Gx) (F : FHF) : Sp := fun vs H Q E => ∃ (S : Sm) (M : List Cell) (ws : List W), S.H = H ∧ OkS G S M ∧ RwL G S ws vs ∧ Fit G (fun c H => E c none H) S (F ws M) fun w _ S' => ∀ v, Rw G S' w v → Q v S'.H
/-- the def x of the top does F -/
def Fq (P : Program) (w : World) (K : PySem.W.Frag) (mg : Str → Option Value) (base : Heap) (x : Str) (ps : List Str) (lv : Nat) (F : FHF) : Prop :=
  ∃ (fa : Addr) (fd : FuncData), FnOk P w K mg base (L2.CX P w) lv fa fd ps (spQ ⟨K, mg, none⟩ F) ∧ mg x = some (.ref fa) ∧ PySem.W.keepIn K (.ref fa) = true ∧ Binds K fd ps [] ∧ ∃ oc od osl, K.lookup fa = some ⟨oc, od, .func fd, osl⟩
/-- the method m of the class c does F -/
def Mq (P : Program) (w : World) (K : PySem.W.Frag) (mg : Str → Option Value) (base : Heap) (c m : Str) (ps : List Str) (lv : Nat) (F : FHF) : Prop :=
  ∃ (C fa : Addr) (fd : FuncData), KC K mg c C ∧ Meth K C m fa ∧ FnOk P w K mg base (L2.CX P w) lv fa fd ps (spQ ⟨K, mg, none⟩ F) ∧ Binds K fd ps []
/-- the class c, made by __init__ -/
def Kq (P : Program) (w : World) (K : PySem.W.Frag) (mg : Str → Option Value) (base : Heap) (c : Str) (ps : List Str) (lv : Nat) (F : FHF) : Prop :=
  ∃ (C fa : Addr) (fd : FuncData), KC K mg c C ∧ Mk K C fa ∧ FnOk P w K mg base (L2.CX P w) lv fa fd ps (spQ ⟨K, mg, none⟩ F) ∧ Binds K fd ps []
def hCall (F : FHF) (g : FHA) : FH := fun δ M => bnd (g δ M) F
def isIns (c m : Str) (w : W) (M : List Cell) : Bool := match w with
  | .l n => (match M[n]? with
    | some (.ins c' fs) => decide (c' = c) && (fs.lookup m).isNone
    | _ => false)
  | _ => false
def hMeth (c m : Str) (F : FHF) (fo : FH) (g : FHA) : FH := fun δ M => bnd (fo δ M) fun w M1 => if isIns c m w M1 then bnd (g δ M1) fun ws M2 => F (w :: ws) M2 else none
def hMake (c : Str) (F : FHF) (g : FHA) : FH := fun δ M => bnd (g δ M) fun ws M1 => bnd (F (.l M1.length :: ws) (M1 ++ [.ins c []])) fun w M2 => match w with
  | .d .none => some (.ok (.l M1.length) M2)
  | _ => none
section
variable {X : Cx} {Ww : WX} {a b c e o : Expr} {es : List Expr} {pos p apos : Pos}
theorem he_call {x : Str} {ps : List Str} {k j : Nat} {F : FHF} {g : FHA} (cx : Fq X.prog X.w X.K X.mg X.base x ps k F) (tk : Takes X Ww) (hr : Room j X.A) (hk : k ≤ j) (hg : Gl X x)
    (ha : HA X X.gx Ww (e :: es) g) (hdb : (x == ("__debug__" : Str)) = false := by decide) (he : starEach (e :: es) X.env = (false, eval e X.env) :: starEach es X.env := by rfl) (hpl : (backTo pos (starEach es X.env)).any (·.1) = false := by rfl) : HE X X.gx Ww (.Call (.Name x p) (e :: es) [] pos) (hCall F g) :=
  let ⟨_, _, FF, hm, kp, hb, _⟩ := cx
  pe_conseq (pe_callS FF (hr.mono hk) hg hm kp hb (fun σ => passAt tk σ) ha hdb he hpl) fun σ H Q h => by
    obtain ⟨S, M, δ, rfl, ok, r, hf⟩ := h
    exact ⟨S, M, δ, rfl, ok, r, hf.go fun ws M1 S1 x1 ok1 h1 vs rvs => ⟨S1, M1, ws, rfl, ok1, rvs, h1⟩⟩
theorem isIns_of {G : Gx} {S : Sm} {M : List Cell} {c m : Str} {w : W} {v : V} {C : Addr} (k : G.mg c = some (.ref C)) (ok : OkS G S M) (h : isIns c m w M = true) (rv : Rw G S w v) : ∃ a dx fs, v = .ref a ∧ S.H a = some (.ins C dx fs) ∧ fs.lookup m = none := by
  unfold isIns at h
  split at h
  · rename_i n
    split at h
    · rename_i c' fs hc
      rw [Bool.and_eq_true, decide_eq_true_eq] at h
      obtain ⟨rfl, h⟩ := h
      obtain ⟨p, g1, rfl⟩ := rv
      obtain ⟨C', dx, vs, g0, g2, g3⟩ := ok.cell n p _ g1 hc
      rw [k] at g0
      cases g0
      have := g3.get (k := m)
      cases e : fs.lookup m with
      | some w => rw [e] at h; cases h
      | none => rw [e] at this; exact ⟨p, dx, vs, rfl, g2, this⟩
    · cases h
  · cases h
theorem he_meth {c m : Str} {ps : List Str} {k j : Nat} {F : FHF} {fo : FH} {g : FHA} {pl : Sem Bool} (cx : Mq X.prog X.w X.K X.mg X.base c m ps k F) (tk : Takes X Ww) (hr : Room j X.A) (hk : k ≤ j) (ho : HE X X.gx Ww o fo) (ha : HA X X.gx Ww (e :: es) g)
    (hst : starEach (e :: es) X.env = (false, eval e X.env) :: starEach es X.env := by rfl) (hpl : (backTo pos (starEach es X.env)).any (·.1) = false := by rfl)
    (ht : eval (.Call (.Attribute o m apos) (e :: es) [] pos) X.env = (do
      let ov ← eval o X.env
      standAt apos.atName
      let (f, first) ← holding [ov] (getMethod ov m pl)
      callWith pos f first (backTo pos (starEach (e :: es) X.env)) (backToKw pos (keywordEach [] X.env))) := by rfl) : HE X X.gx Ww (.Call (.Attribute o m apos) (e :: es) [] pos) (hMeth c m F fo g) :=
  let ⟨_, _, _, kc, mt, FF, hb⟩ := cx
  pe_conseq (pe_methE (pl := pl) ho kc.cl mt FF (hr.mono hk) hb (fun σ => passAt tk σ) ha hst hpl ht) fun σ H Q h => by
    obtain ⟨S, M, δ, rfl, ok, r, hf⟩ := h
    refine ⟨S, M, δ, rfl, ok, r, hf.go fun w M1 S1 x1 ok1 h1 v rv => ?_⟩
    split at h1
    · rename_i hi
      obtain ⟨a, dx, fs, rfl, e1, e2⟩ := isIns_of (G := X.gx) kc.mgC ok1 hi rv
      refine ⟨a, dx, fs, rfl, e1, e2, S1, M1, δ, rfl, ok1, r.mono x1, h1.go fun ws M2 S2 x2 ok2 h2 vs rvs => ?_⟩
      exact ⟨S2, M2, w :: ws, rfl, ok2, ⟨_, vs, rfl, rv.mono x2, rvs⟩, h2⟩
    · exact False.elim h1
theorem he_meth0 {c m : Str} {ps : List Str} {k j : Nat} {F : FHF} {fo : FH} {pl : Sem Bool} (cx : Mq X.prog X.w X.K X.mg X.base c m ps k F) (tk : Takes X Ww) (hr : Room j X.A) (hk : k ≤ j) (ho : HE X X.gx Ww o fo)
    (ht : eval (.Call (.Attribute o m apos) [] [] pos) X.env = (do
      let ov ← eval o X.env
      standAt apos.atName
      let (f, first) ← holding [ov] (getMethod ov m pl)
      callWith pos f first (backTo pos (starEach [] X.env)) (backToKw pos (keywordEach [] X.env))) := by rfl) : HE X X.gx Ww (.Call (.Attribute o m apos) [] [] pos) (hMeth c m F fo haNil) :=
  let ⟨_, _, _, kc, mt, FF, hb⟩ := cx
  pe_conseq (pe_methE0 (pl := pl) ho kc.cl mt FF (hr.mono hk) hb (fun σ => passAt tk σ) ht) fun σ H Q h => by
    obtain ⟨S, M, δ, rfl, ok, r, hf⟩ := h
    refine ⟨S, M, δ, rfl, ok, r, hf.go fun w M1 S1 x1 ok1 h1 v rv => ?_⟩
    split at h1
    · rename_i hi
      obtain ⟨a, dx, fs, rfl, e1, e2⟩ := isIns_of (G := X.gx) kc.mgC ok1 hi rv
      exact ⟨a, dx, fs, rfl, e1, e2, S1, M1, [w], rfl, ok1, ⟨_, [], rfl, rv, rfl⟩, h1⟩
    · exact False.elim h1
theorem he_make {c : Str} {ps : List Str} {k j : Nat} {F : FHF} {g : FHA} (cx : Kq X.prog X.w X.K X.mg X.base c ps k F) (tk : Takes X Ww) (hr : Room j X.A) (hk : k + 1 ≤ j) (hg : Gl X c)
    (ha : HA X X.gx Ww (e :: es) g) (hdb : (c == ("__debug__" : Str)) = false := by decide) (he : starEach (e :: es) X.env = (false, eval e X.env) :: starEach es X.env := by rfl) (hpl : (backTo pos (starEach es X.env)).any (·.1) = false := by rfl) : HE X X.gx Ww (.Call (.Name c p) (e :: es) [] pos) (hMake c F g) :=
  let ⟨C, _, _, kc, mk, FF, hb⟩ := cx
  pe_conseq (pe_makeE mk FF (hr.mono hk) hg kc.mgC hb (fun σ => passAt tk σ) ha hdb he hpl) fun σ H Q h => by
    obtain ⟨S, M, δ, rfl, ok, r, hf⟩ := h
    refine ⟨S, M, δ, rfl, ok, r, hf.go fun ws M1 S1 x1 ok1 h1 vs rvs => ?_⟩
    intro x dx hx hdx hne
    have hex : Ex (S1.st ok1.zh) ⟨S1.Z, upd S1.H dx (.own x), ok1.zh.trans (same_upd hdx _)⟩ := ⟨Same.refl _, same_upd hdx _, fun _ h _ => h⟩
    obtain ⟨le1, ok1'⟩ := ok_ex ok1 hex
    have hx' : upd S1.H dx (.own x) x = none := by rw [upd_ne (Ne.symm hne)]; exact hx
    obtain ⟨le2, ok2⟩ := ok_new (S := ⟨S1.Z, upd S1.H dx (.own x), S1.L⟩) ok1' (p := x) hx' (.ins c []) (.ins C dx []) fun T gr hT => ⟨C, dx, [], kc.mgC, hT, rfl⟩
    refine ⟨⟨S1.Z, upd (upd S1.H dx (.own x)) x (.ins C dx []), S1.L ++ [x]⟩, M1 ++ [.ins c []], .l M1.length :: ws, rfl, ok2, ⟨_, vs, rfl, new_at ok1 x _ _, rvs.mono (le1.trans le2)⟩, ?_⟩
    refine (h1.mono (le1.trans le2)).go fun w M3 S3 x3 ok3 h3 v rv => ?_
    cases w with
    | l n => exact False.elim h3
    | x => exact False.elim h3
    | d y =>
      cases y with
      | none =>
        cases rv
        exact ⟨rfl, h3.here ok3 _ ((new_at ok1 x _ _).mono x3)⟩
      | _ => exact False.elim h3
end
end Q

set_option Elab.async false
set_option linter.all false
set_option maxRecDepth 100000
set_option maxHeartbeats 4000000
/-! Statements. -/
namespace Q
open PySem PySem.Spec PyProof.Rows L2 Pd
inductive OutQ where
  | nx (δ : Env) (M : List Cell)
  | rt (w : W) (M : List Cell)
  | bk (δ : Env) (M : List Cell)
  | ct (δ : Env) (M : List Cell)
  | rz (c : Str) (δ : Env) (M : List Cell)
abbrev GQ := Env → List Cell → Option OutQ
def FitS (G : Gx) (Ww : WX) (Dn : Ends) (S : Sm) : Option OutQ → Prop
  | some (.nx δ M) => ∀ σ S', Le S S' → OkS G S' M → RH G S' σ δ → Dn.nx σ S'.H
  | some (.rt w M) => ∀ v S', Le S S' → OkS G S' M → Rw G S' w v → Dn.rt v S'.H
  | some (.bk δ M) => ∀ σ S', Le S S' → OkS G S' M → RH G S' σ δ → Dn.bk σ S'.H
  | some (.ct δ M) => ∀ σ S', Le S S' → OkS G S' M → RH G S' σ δ → Dn.ct σ S'.H
  | some (.rz c δ M) => ∀ σ S' C, Le S S' → OkS G S' M → RH G S' σ δ → G.mg c = some (.ref C) → Ww (.ref C) none σ S'.H
  | none => False
theorem FitS.mono {G : Gx} {Ww : WX} {Dn : Ends} {S S' : Sm} (x : Le S S') : ∀ {o : Option OutQ}, FitS G Ww Dn S o → FitS G Ww Dn S' o
  | some (.nx δ M), h => fun σ T y => h σ T (x.trans y)
  | some (.rt w M), h => fun v T y => h v T (x.trans y)
  | some (.bk δ M), h => fun σ T y => h σ T (x.trans y)
  | some (.ct δ M), h => fun σ T y => h σ T (x.trans y)
  | some (.rz c δ M), h => fun σ T C y => h σ T C (x.trans y)
  | none, h => h
def tGQ (G : Gx) (Ww : WX) (g : GQ) : TS := fun Dn σ H => ∃ (S : Sm) (M : List Cell) (δ : Env), S.H = H ∧ OkS G S M ∧ RH G S σ δ ∧ FitS G Ww Dn S (g δ M)
abbrev HS (X : Cx) (G : Gx) (Ww : WX) (st : Stmt) (g : GQ) : Prop := PS X st (tGQ G Ww g)
abbrev HB (X : Cx) (G : Gx) (Ww : WX) (sts : List Stmt) (g : GQ) : Prop := PSs X sts (tGQ G Ww g)
/-- behind an expression -/
def onE {α : Type} (r : Rr α) (δ : Env) (k : α → List Cell → Option OutQ) : Option OutQ := match r with
  | some (.ok a M) => k a M
  | some (.rz c M) => some (.rz c δ M)
  | none => none
theorem onE_ok {α : Type} (a : α) (M : List Cell) (δ : Env) (k : α → List Cell → Option OutQ) : onE (some (.ok a M)) δ k = k a M := rfl
theorem onE_rz {α : Type} (c : Str) (M : List Cell) (δ : Env) (k : α → List Cell → Option OutQ) : onE (some (.rz c M)) δ k = some (.rz c δ M) := rfl
theorem FitS.on {α : Type} {G : Gx} {Ww : WX} {Dn : Ends} {S : Sm} {σ : L2.St} {δ : Env} {r : Rr α} {k : α → List Cell → Option OutQ} (rh : RH G S σ δ) (h : FitS G Ww Dn S (onE r δ k)) {q : α → List Cell → Sm → Prop} (i : ∀ a M T, Le S T → OkS G T M → FitS G Ww Dn T (k a M) → q a M T) : Fit G (Wx Ww σ) S r q := by
  cases r with
  | none => exact False.elim h
  | some o =>
    cases o with
    | ok a M => exact fun T y ok => i a M T y ok (FitS.mono y h)
    | rz c M => exact fun T C y ok mgc => h σ T C y ok (rh.mono y) mgc
section
variable {X : Cx} {G : Gx} {Ww : WX} {a b c e o : Expr} {es : List Expr} {pos p apos : Pos}
def sSeq (g g' : GQ) : GQ := fun δ M => (g δ M).bind fun o => match o with
  | .nx δ' M' => g' δ' M'
  | o => some o
def sNil : GQ := fun δ M => some (.nx δ M)
theorem hb_nil : HB X G Ww [] sNil := pss_conseq pss_nil fun Dn σ H h => by
  obtain ⟨S, M, δ, rfl, ok, r, hf⟩ := h
  exact hf σ S (.refl S) ok r
theorem hb_cons {st : Stmt} {rest : List Stmt} {g g' : GQ} (h : HS X G Ww st g) (t : HB X G Ww rest g') : HB X G Ww (st :: rest) (sSeq g g') := pss_conseq (pss_cons h t) fun Dn σ H h => by
  obtain ⟨S, M, δ, rfl, ok, r, hf⟩ := h
  refine ⟨S, M, δ, rfl, ok, r, ?_⟩
  unfold sSeq at hf
  cases hg : g δ M with
  | none => rw [hg] at hf; exact False.elim hf
  | some out =>
    rw [hg] at hf
    cases out with
    | nx δ' M' => exact fun σ' S' x' ok' r' => ⟨S', M', δ', rfl, ok', r', FitS.mono x' hf⟩
    | rt w M' => exact hf
    | bk δ' M' => exact hf
    | ct δ' M' => exact hf
    | rz c δ' M' => exact hf
theorem hb_one {st : Stmt} {g : GQ} (h : HS X G Ww st g) : HB X G Ww [st] g := pss_one h
def sIf (ft : FT) (g g' : GQ) : GQ := fun δ M => onE (ft δ M) δ fun k M1 => if k then g δ M1 else g' δ M1
theorem hs_if {ft : FT} {s1 s2 : List Stmt} {g g' : GQ} (h : HT X G Ww c ft) (h1 : HB X G Ww s1 g) (h2 : HB X G Ww s2 g') : HS X G Ww (.If c s1 s2 pos) (sIf ft g g') := ps_conseq (ps_if h h1 h2) fun Dn σ H h => by
  obtain ⟨S, M, δ, rfl, ok, r, hf⟩ := h
  refine ⟨S, M, δ, rfl, ok, r, hf.on r fun k M1 S1 x1 ok1 h1 => ?_⟩
  cases k with
  | true => exact iteT ⟨S1, M1, δ, rfl, ok1, r.mono x1, h1⟩
  | false => exact iteF ⟨S1, M1, δ, rfl, ok1, r.mono x1, h1⟩
def sRet (f : FH) : GQ := fun δ M => onE (f δ M) δ fun w M1 => some (.rt w M1)
theorem hs_ret {f : FH} (h : HE X G Ww e f) : HS X G Ww (.Return (some e) pos) (sRet f) := ps_conseq (ps_ret h) fun Dn σ H h => by
  obtain ⟨S, M, δ, rfl, ok, r, hf⟩ := h
  exact ⟨S, M, δ, rfl, ok, r, hf.on r fun w M1 S1 x1 ok1 h1 v rv => h1 v S1 (.refl S1) ok1 rv⟩
def sRetN : GQ := fun _ M => some (.rt (.d .none) M)
theorem hs_retN : HS X G Ww (.Return none pos) sRetN := ps_conseq ps_retN fun Dn σ H h => by
  obtain ⟨S, M, δ, rfl, ok, r, hf⟩ := h
  exact hf _ S (.refl S) ok Rv.non
def sBk : GQ := fun δ M => some (.bk δ M)
def sCt : GQ := fun δ M => some (.ct δ M)
theorem hs_break : HS X G Ww (.Break pos) sBk := ps_conseq ps_break fun Dn σ H h => by
  obtain ⟨S, M, δ, rfl, ok, r, hf⟩ := h
  exact hf σ S (.refl S) ok r
theorem hs_continue : HS X G Ww (.Continue pos) sCt := ps_conseq ps_continue fun Dn σ H h => by
  obtain ⟨S, M, δ, rfl, ok, r, hf⟩ := h
  exact hf σ S (.refl S) ok r
/-- x = e -/
def sSet (i : Nat) (f : FH) : GQ := fun δ M => onE (f δ M) δ fun w M1 => some (.nx (δ.set i (some w)) M1)
theorem set_run {i : Nat} {f : FH} {Dn : Ends} {σ : L2.St} {H : Hp} (h : tGQ G Ww (sSet i f) Dn σ H) : tAsg (tH G Ww f) (gName i) Dn σ H := by
  obtain ⟨S, M, δ, rfl, ok, r, hf⟩ := h
  exact ⟨S, M, δ, rfl, ok, r, hf.on r fun w M1 S1 x1 ok1 h1 v rv => h1 _ S1 (.refl S1) ok1 ((r.mono x1).set rv)⟩
theorem hs_set {i : Nat} {x : Str} {pos' : Pos} {f : FH} (hN : X.N.Nodup) (hi : X.N[i]? = some x) (hx : Loc X.env.scope x) (h : HE X G Ww e f)
    (hf : X.fn x = true ∨ X.env.scope.names.lookup x = some .local := by first | exact .inl rfl | exact .inr rfl | assumption) (hs : swapsWith e (some (.Name x pos')) pos.line X.env = pure false := by rfl) : HS X G Ww (.Assign [.Name x pos'] e pos) (sSet i f) :=
  ps_conseq (ps_set (i := i) hN hi hx h hs hf) fun Dn σ H h => set_run h
theorem nlc_run {K : PySem.W.Frag} {fi : FI} {i : Nat} {ft fe : FE} {σ : L2.St} {H : Hp} {Q : VK} (h : tDO2 K (nLc fi i ft fe) σ H Q) : tLc (tWI K fi) (gName i) (tDT K ft) (tD K fe) [i] σ H Q := by
  obtain ⟨E, S, δ, ys, rfl, r, hf, q⟩ := h
  obtain ⟨ds, hx, hf⟩ := Option.bind_eq_some_iff.mp hf
  obtain ⟨ys', hy, hf⟩ := Option.bind_eq_some_iff.mp hf
  split at hf
  · rename_i hz
    cases hf
    exact lc_runO r hx hy hz q
  · cases hf
/-- x = [.. for .. if ..], reckoned over the slots with cells read as data -/
theorem hs_setLc {i j : Nat} {y x : Str} {py spos : Pos} {elt tg iter : Expr} {ifs : List Expr} {scope : Scope} {fi : FI} {ft fe : FE} (hc : X.calm = true) (hN : X.N.Nodup) (hy : X.N[j]? = some y) (hyl : X.env.scope.names.lookup y = some .local)
    (hsw : swapsWith (.ListComp elt [⟨tg, iter, ifs, 0⟩] scope pos) (some (.Name y py)) spos.line X.env = pure true) (hi : WI X tg iter fi) (ok : BlkOk X.N X.env.scope scope [(x, i)])
    (hg : ∀ (s : Shared) (H : Hp) (C : Addr) (cl : List (Str × Addr)) (fp : List Addr), PG (X.blk s H scope (compEnvC scope cl C X.env) fp) tg (gName i)) (ht : ∀ (s : Shared) (H : Hp) (C : Addr) (cl : List (Str × Addr)) (fp : List Addr), PTs (X.blk s H scope (compEnvC scope cl C X.env) fp) ifs (tDT X.K ft))
    (he : ∀ (s : Shared) (H : Hp) (C : Addr) (cl : List (Str × Addr)) (fp : List Addr), PE (X.blk s H scope (compEnvC scope cl C X.env) fp) elt (tD X.K fe)) (hs : ∀ x, foldedSetIterable iter X.env x = pure x := by intro _; rfl) :
    HS X X.gx Ww (.Assign [.Name y py] (.ListComp elt [⟨tg, iter, ifs, 0⟩] scope pos) spos) (sSet j (hViewO (nLc fi i ft fe))) :=
  ps_conseq (ps_setLc (own := [(x, i)]) (i := j) hc hN hy hyl hsw hi ok hg ht he hs) fun Dn σ H h => by
    have h := set_run h
    exact nlc_run (viewO_run (Q := fun x H1 => gName j x σ H1 Dn.nx) h)
/-- x = [.. for .. if ..], pure: over the slots that hold data -/
theorem hs_setLcD {i j : Nat} {y x : Str} {py spos : Pos} {elt tg iter : Expr} {ifs : List Expr} {scope : Scope} {fi : FI} {ft fe : FE} (hc : X.calm = true) (hN : X.N.Nodup) (hy : X.N[j]? = some y) (hyl : X.env.scope.names.lookup y = some .local)
    (hsw : swapsWith (.ListComp elt [⟨tg, iter, ifs, 0⟩] scope pos) (some (.Name y py)) spos.line X.env = pure true) (hi : WI X tg iter fi) (ok : BlkOk X.N X.env.scope scope [(x, i)])
    (hg : ∀ (s : Shared) (H : Hp) (C : Addr) (cl : List (Str × Addr)) (fp : List Addr), PG (X.blk s H scope (compEnvC scope cl C X.env) fp) tg (gName i)) (ht : ∀ (s : Shared) (H : Hp) (C : Addr) (cl : List (Str × Addr)) (fp : List Addr), PTs (X.blk s H scope (compEnvC scope cl C X.env) fp) ifs (tDT X.K ft))
    (he : ∀ (s : Shared) (H : Hp) (C : Addr) (cl : List (Str × Addr)) (fp : List Addr), PE (X.blk s H scope (compEnvC scope cl C X.env) fp) elt (tD X.K fe)) (hs : ∀ x, foldedSetIterable iter X.env x = pure x := by intro _; rfl) :
    HS X X.gx Ww (.Assign [.Name y py] (.ListComp elt [⟨tg, iter, ifs, 0⟩] scope pos) spos) (sSet j (lift (eLc fi i ft fe))) :=
  ps_conseq (ps_setLc (own := [(x, i)]) (i := j) hc hN hy hyl hsw hi ok hg ht he hs) fun Dn σ H h => lc_run (Q := fun x H1 => gName j x σ H1 Dn.nx) (lift_run (set_run h))
/-- o(..), for what it does -/
def sExpr (f : FH) : GQ := fun δ M => onE (f δ M) δ fun _ M1 => some (.nx δ M1)
theorem hs_expr {f : FH} (h : HE X G Ww e f) (hs : swapsWith e none pos.line X.env = pure false := by rfl) : HS X G Ww (.Expr e pos) (sExpr f) := ps_conseq (ps_expr h hs) fun Dn σ H h => by
  obtain ⟨S, M, δ, rfl, ok, r, hf⟩ := h
  exact ⟨S, M, δ, rfl, ok, r, hf.on r fun w M1 S1 x1 ok1 h1 v rv => h1 σ S1 (.refl S1) ok1 (r.mono x1)⟩
end
end Q

set_option Elab.async false
set_option linter.all false
set_option maxRecDepth 100000
set_option maxHeartbeats 4000000
/-! Stores, append, pop, unpacking, raise, try. -/
namespace Q
open PySem PySem.Spec PyProof.Rows L2 Pd
section
variable {X : Cx} {G : Gx} {Ww : WX} {a b c e o : Expr} {es : List Expr} {pos p apos : Pos}
theorem lt_line {n : Nat} (h : n < lim) : n < sizeLine := Nat.lt_of_lt_of_le h lim_line
/-- the cell at n stands at p -/
theorem Le.at {S S' : Sm} (x : Le S S') {n : Nat} {p : Addr} (h : S.L[n]? = some p) : S'.L[n]? = some p := by
  obtain ⟨t, et⟩ := x.l
  rw [et, List.getElem?_append_left (List.getElem?_eq_some_iff.mp h).1]
  exact h
theorem nofrzL {H : Hp} {p : Addr} {xs : List V} (h : H p = some (.lst xs)) : ∀ o u, H p ≠ some (.frz o u) := fun o u e => by rw [h] at e; cases e
theorem nofrzK {H : Hp} {p : Addr} {xs : List (Key × V)} (h : H p = some (.dK xs)) : ∀ o u, H p ≠ some (.frz o u) := fun o u e => by rw [h] at e; cases e
theorem nofrzI {H : Hp} {p C dx : Addr} {xs : List (Str × V)} (h : H p = some (.ins C dx xs)) : ∀ o u, H p ≠ some (.frz o u) := fun o u e => by rw [h] at e; cases e
/-- o.append(e) -/
def appW (x w : W) (M : List Cell) : Rr W := match x with
  | .l n => (match M[n]? with
    | some (.lst ws) => if ws.length < lim then some (.ok (.d .none) (M.set n (.lst (ws ++ [w])))) else none
    | _ => none)
  | _ => none
def isLst (x : W) (M : List Cell) : Bool := match x with
  | .l n => (match M[n]? with
    | some (.lst _) => true
    | _ => false)
  | _ => false
theorem isLst_of {S : Sm} {M : List Cell} {x : W} {v : V} (ok : OkS G S M) (h : isLst x M = true) (rv : Rw G S x v) : ∃ n p vs, x = .l n ∧ v = .ref p ∧ S.L[n]? = some p ∧ S.H p = some (.lst vs) := by
  unfold isLst at h
  split at h
  · rename_i n
    split at h
    · rename_i ws hc
      obtain ⟨p, g1, rfl⟩ := rv
      obtain ⟨vs, g2, g3⟩ := ok.cell n p _ g1 hc
      exact ⟨n, p, vs, rfl, rfl, g1, g2⟩
    · cases h
  · cases h
def hApp (fo f : FH) : FH := fun δ M => bnd (fo δ M) fun x M1 => if isLst x M1 then bnd (f δ M1) fun w M2 => appW x w M2 else none
theorem he_append {cpos : Pos} {fo f : FH} (ho : HE X X.gx Ww o fo) (h : HE X X.gx Ww e f)
    (hbase : attributeBase o "append" X.env (eval o X.env) = eval o X.env := by rfl)
    (hfew : ((backTo cpos (starEach [e] X.env)).all (fun x => !x.1) && (backToKw cpos (keywordEach [] X.env)).all (fun x => x.1.isSome) && decide ([e].length + ([] : List Keyword).length + (if ([] : List Keyword).isEmpty then 0 else 1) < 30)) = true := by rfl)
    (hline : (apos.endLine == cpos.line) = true := by rfl) (hs : starEach [e] X.env = (false, eval e X.env) :: starEach [] X.env := by rfl) (hplain : (backTo cpos (starEach [] X.env)).any (·.1) = false := by rfl)
    : HE X X.gx Ww (.Call (.Attribute o "append" apos) [e] [] cpos) (hApp fo f) :=
  pe_conseq (pe_bm PySem.F.plainAttrs_list PySem.F.slot_list_append PySem.F.type_list_append mt_append ho (pa_cons h pa_nil hs) hbase hfew hline hs hplain) fun σ H Q h => by
    obtain ⟨S, M, δ, rfl, ok, r, hf⟩ := h
    refine ⟨S, M, δ, rfl, ok, r, hf.go fun x M1 S1 x1 ok1 h1 v rv => ?_⟩
    split at h1
    · rename_i hi
      obtain ⟨n, p, vs0, rfl, rfl, g1, g2⟩ := isLst_of ok1 hi rv
      refine ⟨.inl ⟨rfl, vs0, .inl (.inl g2)⟩, S1, M1, δ, rfl, ok1, r.mono x1, h1.go fun w M2 S2 x2 ok2 h2 u ru => ?_⟩
      have h2 : Fit X.gx _ S2 (match M2[n]? with | some (Cell.lst ws) => if ws.length < lim then some (Rs.ok (W.d .none) (M2.set n (.lst (ws ++ [w])))) else none | _ => none) _ := h2
      split at h2
      · rename_i ws hc
        split at h2
        · rename_i hz
          obtain ⟨vs, g4, g5⟩ := ok2.cell n p _ (x2.at g1) hc
          refine ⟨p, vs, u, rfl, rfl, g4, by rw [g5.length]; exact lt_line hz, ?_⟩
          obtain ⟨le3, ok3⟩ := ok_set ok2 (x2.at g1) (nofrzL g4) (.lst (ws ++ [w])) (.lst (vs ++ [u])) fun T gr hT => ⟨_, hT, (g5.gr gr).append ⟨u, [], rfl, ru.gr gr, rfl⟩⟩
          exact h2.at le3 ok3 .non Rv.non
        · exact False.elim h2
      · exact False.elim h2
    · exact False.elim h1
/-- o.pop(0) -/
def popW (x : W) (i : Int) (M : List Cell) : Rr W := match x with
  | .l n => (match M[n]? with
    | some (.lst ws) => (match seqIndex? i ws.length with
      | some k => ofO (ws[k]?) (M.set n (.lst (ws.eraseIdx k)))
      | none => none)
    | _ => none)
  | _ => none
def hPop (fo f : FH) : FH := fun δ M => bnd (fo δ M) fun x M1 => if isLst x M1 then bnd (f δ M1) fun w M2 => (match w with
  | .d (.int i) => if -(2 ^ 63) ≤ i ∧ i < 2 ^ 63 then popW x i M2 else none
  | _ => none) else none
theorem he_pop {cpos : Pos} {fo f : FH} (ho : HE X X.gx Ww o fo) (h : HE X X.gx Ww e f)
    (hbase : attributeBase o "pop" X.env (eval o X.env) = eval o X.env := by rfl)
    (hfew : ((backTo cpos (starEach [e] X.env)).all (fun x => !x.1) && (backToKw cpos (keywordEach [] X.env)).all (fun x => x.1.isSome) && decide ([e].length + ([] : List Keyword).length + (if ([] : List Keyword).isEmpty then 0 else 1) < 30)) = true := by rfl)
    (hline : (apos.endLine == cpos.line) = true := by rfl) (hs : starEach [e] X.env = (false, eval e X.env) :: starEach [] X.env := by rfl) (hplain : (backTo cpos (starEach [] X.env)).any (·.1) = false := by rfl)
    : HE X X.gx Ww (.Call (.Attribute o "pop" apos) [e] [] cpos) (hPop fo f) :=
  pe_conseq (pe_bm PySem.F.plainAttrs_list PySem.F.slot_list_pop PySem.F.type_list_pop mt_popAt ho (pa_cons h pa_nil hs) hbase hfew hline hs hplain) fun σ H Q h => by
    obtain ⟨S, M, δ, rfl, ok, r, hf⟩ := h
    refine ⟨S, M, δ, rfl, ok, r, hf.go fun x M1 S1 x1 ok1 h1 v rv => ?_⟩
    split at h1
    · rename_i hi
      obtain ⟨n, p, vs0, rfl, rfl, g1, g2⟩ := isLst_of ok1 hi rv
      refine ⟨.inl ⟨rfl, vs0, .inl (.inl g2)⟩, S1, M1, δ, rfl, ok1, r.mono x1, h1.go fun w M2 S2 x2 ok2 h2 u ru => ?_⟩
      cases w with
      | l m => exact False.elim h2
      | x => exact False.elim h2
      | d y =>
        cases y with
        | int i =>
          cases ru
          have h2 : Fit X.gx _ S2 (if -(2 ^ 63) ≤ i ∧ i < 2 ^ 63 then popW (.l n) i M2 else none) _ := h2
          split at h2
          · rename_i hz
            have h2 : Fit X.gx _ S2 (match M2[n]? with | some (Cell.lst ws) => (match seqIndex? i ws.length with | some k => ofO (ws[k]?) (M2.set n (.lst (ws.eraseIdx k))) | none => none) | _ => none) _ := h2
            split at h2
            · rename_i ws hc
              split at h2
              · rename_i k hk
                obtain ⟨w, hw, h2⟩ := fit_ofO h2
                obtain ⟨vs, g4, g5⟩ := ok2.cell n p _ (x2.at g1) hc
                obtain ⟨y, y1, y2⟩ := g5.get hw
                refine ⟨p, vs, i, k, y, rfl, rfl, g4, hz.1, hz.2, by rw [g5.length]; exact hk, y1, ?_⟩
                obtain ⟨le3, ok3⟩ := ok_set ok2 (x2.at g1) (nofrzL g4) (.lst (ws.eraseIdx k)) (.lst (vs.eraseIdx k)) fun T gr hT => ⟨_, hT, (g5.gr gr).eraseIdx k⟩
                exact h2 _ le3 ok3 y (y2.mono le3)
              · exact False.elim h2
            · exact False.elim h2
          · exact False.elim h2
        | _ => exact False.elim h2
    · exact False.elim h1
/-- o.f = e -/
def putA (c f : Str) (x w : W) (M : List Cell) : Option (List Cell) := match x with
  | .l n => (match M[n]? with
    | some (.ins c' fs) => if c' = c ∧ fs.length < 1000 then some (M.set n (.ins c (putW f w fs))) else none
    | _ => none)
  | _ => none
def sAttr (c f : Str) (fo fe : FH) : GQ := fun δ M => onE (fe δ M) δ fun w M1 => onE (fo δ M1) δ fun x M2 => (putA c f x w M2).map fun M3 => .nx δ M3
theorem hs_attr {c f : Str} {fo fe : FH} {pos' : Pos} (T : AtC X.K X.mg c f) (ho : HE X X.gx Ww o fo) (h : HE X X.gx Ww e fe) (hs : swapsWith e (some (.Attribute o f pos')) pos.line X.env = pure false := by rfl) : HS X X.gx Ww (.Assign [.Attribute o f pos'] e pos) (sAttr c f fo fe) := by
  obtain ⟨C, k, na⟩ := T
  refine ps_conseq (ps_fld ho h hs) fun Dn σ H h => ?_
  obtain ⟨S, M, δ, rfl, ok, r, hf⟩ := h
  refine ⟨S, M, δ, rfl, ok, r, hf.on r fun w M1 S1 x1 ok1 h1 v rv => ?_⟩
  refine ⟨S1, M1, δ, rfl, ok1, r.mono x1, h1.on (r.mono x1) fun x M2 S2 x2 ok2 h2 u ru => ?_⟩
  have rv := rv.mono x2
  unfold putA at h2
  split at h2
  · rename_i n
    split at h2
    · rename_i c' fs hc
      split at h2
      · rename_i hz
        obtain ⟨rfl, hz⟩ := hz
        obtain ⟨p, g1, rfl⟩ := ru
        obtain ⟨C', dx, vs, g0, g2, g3⟩ := ok2.cell n p _ g1 hc
        have eC : C' = C := by
          have : X.mg c' = some (.ref C') := g0
          rw [k.mgC] at this
          cases this
          rfl
        subst eC
        refine ⟨p, C', dx, vs, rfl, g2, k.cl, na, by rw [g3.length]; exact hz, ?_⟩
        obtain ⟨le3, ok3⟩ := ok_set ok2 g1 (nofrzI g2) (.ins c' (putW f w fs)) (.ins C' dx (putF f v vs)) fun T gr hT => ⟨C', dx, _, g0, hT, putF_rw (g3.gr gr) (rv.gr gr)⟩
        exact h2 σ _ le3 ok3 (r.mono (x1.trans (x2.trans le3)))
      · exact False.elim h2
    · exact False.elim h2
  · exact False.elim h2
/-- o.f += e, ints -/
def intW (w : W) : Option Int := match w with
  | .d (.int i) => some i
  | _ => none
def sAugA (c f : Str) (fo fe : FH) : GQ := fun δ M => onE (fo δ M) δ fun x M1 => onE (attrW c x f M1) δ fun y M1' => onE (fe δ M1') δ fun w M2 => match intW y, intW w with
  | some i, some j => (putA c f x (.d (.int (i + j))) M2).map fun M3 => .nx δ M3
  | _, _ => none
theorem hs_augA {c f : Str} {fo fe : FH} {tpos : Pos} (T : AtC X.K X.mg c f) (ho : HE X X.gx Ww o fo) (h : HE X X.gx Ww e fe) : HS X X.gx Ww (.AugAssign (.Attribute o f tpos) .Add e pos) (sAugA c f fo fe) := by
  obtain ⟨C, k, na⟩ := T
  refine ps_conseq (ps_fldaug ho h in_add) fun Dn σ H h => ?_
  obtain ⟨S, M, δ, rfl, ok, r, hf⟩ := h
  refine ⟨S, M, δ, rfl, ok, r, hf.on r fun x M1 S1 x1 ok1 h1 v rv => ?_⟩
  cases x with
  | d y => exact False.elim h1
  | x => exact False.elim h1
  | l n =>
    have h1 : FitS X.gx Ww Dn S1 (onE (match M1[n]? with | some (Cell.ins c' fs) => if c' = c then ofO (fs.lookup f) M1 else none | _ => none) δ _) := h1
    split at h1
    · rename_i c' fs hc
      by_cases ec : c' = c
      · rw [if_pos ec] at h1
        subst ec
        cases hw : fs.lookup f with
        | none => rw [hw] at h1; exact False.elim h1
        | some y =>
          rw [hw] at h1
          obtain ⟨p, g1, rfl⟩ := rv
          obtain ⟨C', dx, vs, g0, g2, g3⟩ := ok1.cell n p _ g1 hc
          have eC : C' = C := by
            have : X.mg c' = some (.ref C') := g0
            rw [k.mgC] at this
            cases this
            rfl
          subst eC
          have := g3.get (k := f)
          rw [hw] at this
          obtain ⟨z, z1, z2⟩ := this
          have h1 : FitS X.gx Ww Dn S1 (onE (fe δ M1) δ _) := h1
          refine ⟨p, C', dx, vs, z, rfl, g2, k.cl, na, z1, S1, M1, δ, rfl, ok1, r.mono x1, h1.on (r.mono x1) fun w M2 S2 x2 ok2 h2 u ru => ?_⟩
          have z2 := z2.mono x2
          cases y with
          | l m => exact False.elim h2
          | x => exact False.elim h2
          | d y =>
            cases y with
            | int i =>
              cases w with
              | l m => exact False.elim h2
              | x => exact False.elim h2
              | d w =>
                cases w with
                | int j =>
                  cases z2
                  cases ru
                  have h2 : FitS X.gx Ww Dn S2 ((putA c' f (.l n) (.d (.int (i + j))) M2).map fun M3 => OutQ.nx δ M3) := h2
                  refine ⟨i, j, rfl, rfl, ?_⟩
                  have h2 : FitS X.gx Ww Dn S2 ((match M2[n]? with | some (Cell.ins c'' fs) => if c'' = c' ∧ fs.length < 1000 then some (M2.set n (.ins c' (putW f (.d (.int (i + j))) fs))) else none | _ => none : Option (List Cell)).map fun M3 => OutQ.nx δ M3) := h2
                  split at h2
                  · rename_i c'' fs2 hc2
                    by_cases hz : c'' = c' ∧ fs2.length < 1000
                    · rw [if_pos hz] at h2
                      obtain ⟨rfl, hz⟩ := hz
                      obtain ⟨C2, dx2, vs2, q0, q2, q3⟩ := ok2.cell n p _ (x2.at g1) hc2
                      have eC2 : C2 = C' := by
                        have : X.mg c'' = some (.ref C2) := q0
                        rw [k.mgC] at this
                        cases this
                        rfl
                      subst eC2
                      refine ⟨dx2, vs2, q2, by rw [q3.length]; exact hz, ?_⟩
                      obtain ⟨le3, ok3⟩ := ok_set ok2 (x2.at g1) (nofrzI q2) (.ins c'' (putW f (.d (.int (i + j))) fs2)) (.ins C2 dx2 (putF f (.int (i + j)) vs2)) fun T gr hT => ⟨C2, dx2, _, q0, hT, putF_rw (q3.gr gr) (Rv.int _)⟩
                      exact h2 σ _ le3 ok3 (r.mono (x1.trans (x2.trans le3)))
                    · rw [if_neg hz] at h2; exact False.elim h2
                  · exact False.elim h2
                | _ => exact False.elim h2
            | _ => exact False.elim h2
      · rw [if_neg ec] at h1; exact False.elim h1
    · exact False.elim h1
end
end Q

set_option Elab.async false
set_option linter.all false
set_option maxRecDepth 100000
set_option maxHeartbeats 4000000
/-! d[k] = e, xs[i] = e, a, b = e, raise, try. -/
namespace Q
open PySem PySem.Spec PyProof.Rows L2 Pd
section
variable {X : Cx} {G : Gx} {Ww : WX} {a b c e o i : Expr} {es : List Expr} {pos p apos : Pos}
/-- d[k] = w -/
def putKW (x y w : W) (M : List Cell) : Option (List Cell) := match x, y with
  | .l n, .d (.str k) => (match M[n]? with
    | some (.dct kvs) => if kvs.length < lim then some (M.set n (.dct (putD k w kvs))) else none
    | _ => none)
  | _, _ => none
theorem putKW_run {Dn : Ends} {S : Sm} {M : List Cell} {σ : L2.St} {δ : Env} {x y w : W} {v u z : V} (ok : OkS G S M) (r : RH G S σ δ) (rx : Rw G S x v) (ry : Rw G S y u) (rw_ : Rw G S w z) (h : FitS G Ww Dn S ((putKW x y w M).map fun M3 => .nx δ M3)) :
    ∃ a H4, v = .ref a ∧ DPut S.H a u z H4 ∧ Dn.nx σ H4 := by
  cases x with
  | d x => exact False.elim h
  | x => exact False.elim h
  | l n =>
    cases y with
    | l m => exact False.elim h
    | x => exact False.elim h
    | d y =>
      cases y with
      | str k =>
        cases ry
        have h : FitS G Ww Dn S ((match M[n]? with | some (Cell.dct kvs) => if kvs.length < lim then some (M.set n (.dct (putD k w kvs))) else none | _ => none : Option (List Cell)).map fun M3 => .nx δ M3) := h
        split at h
        · rename_i kvs hc
          by_cases hz : kvs.length < lim
          · rw [if_pos hz] at h
            obtain ⟨p, g1, rfl⟩ := rx
            obtain ⟨xs, g2, g3⟩ := ok.cell n p _ g1 hc
            obtain ⟨le3, ok3⟩ := ok_set ok g1 (nofrzK g2) (.dct (putD k w kvs)) (.dK (putK xs (Sum.inr k) z)) fun T gr hT => ⟨_, hT, putK_rw (g3.gr gr) (rw_.gr gr)⟩
            exact ⟨p, _, rfl, DPut.k (k := Sum.inr k) g2 (by rw [g3.length]; exact lt_line hz), h σ _ le3 ok3 (r.mono le3)⟩
          · rw [if_neg hz] at h; exact False.elim h
        · exact False.elim h
      | _ => exact False.elim h
def sPutK (fo fi fe : FH) : GQ := fun δ M => onE (fe δ M) δ fun w M1 => onE (fo δ M1) δ fun x M2 => onE (fi δ M2) δ fun y M3 => (putKW x y w M3).map fun M4 => .nx δ M4
theorem hs_putK {fo fi fe : FH} {pos' : Pos} (hu : X.A.units + 1 < cLine) (ho : HE X X.gx Ww o fo) (hi : HE X X.gx Ww i fi) (h : HE X X.gx Ww e fe) (hs : swapsWith e (some (.Subscript o i pos')) pos.line X.env = pure false := by rfl) : HS X X.gx Ww (.Assign [.Subscript o i pos'] e pos) (sPutK fo fi fe) := by
  refine ps_conseq (ps_dput hu ho hi h hs) fun Dn σ H h => ?_
  obtain ⟨S, M, δ, rfl, ok, r, hf⟩ := h
  refine ⟨S, M, δ, rfl, ok, r, hf.on r fun w M1 S1 x1 ok1 h1 z rz => ?_⟩
  refine ⟨S1, M1, δ, rfl, ok1, r.mono x1, h1.on (r.mono x1) fun x M2 S2 x2 ok2 h2 v rv => ?_⟩
  refine ⟨S2, M2, δ, rfl, ok2, r.mono (x1.trans x2), h2.on (r.mono (x1.trans x2)) fun y M3 S3 x3 ok3 h3 u ru => ?_⟩
  exact putKW_run ok3 (r.mono (x1.trans (x2.trans x3))) (rv.mono x3) ru (rz.mono (x2.trans x3)) h3
/-- d[k] += e, ints -/
def sAugK (fo fi fe : FH) : GQ := fun δ M => onE (fo δ M) δ fun x M1 => onE (fi δ M1) δ fun y M2 => onE (keyW x y M2) δ fun g _ => onE (fe δ M2) δ fun w M3 => match intW g, intW w with
  | some a, some b => (putKW x y (.d (.int (a + b))) M3).map fun M4 => .nx δ M4
  | _, _ => none
theorem hs_augK {fo fi fe : FH} {tpos : Pos} (hu : X.A.units + 1 < cLine) (ho : HE X X.gx Ww o fo) (hi : HE X X.gx Ww i fi) (h : HE X X.gx Ww e fe)
    (ha : ∀ ov iv new, augStore i ov iv new = (do holding [new, ov, iv] (setItem ov iv new); release [new, ov, iv] []; pure .next) := by intro _ _ _; rfl) : HS X X.gx Ww (.AugAssign (.Subscript o i tpos) .Add e pos) (sAugK fo fi fe) := by
  refine ps_conseq (ps_daug hu ho hi h in_add ha) fun Dn σ H h => ?_
  obtain ⟨S, M, δ, rfl, ok, r, hf⟩ := h
  refine ⟨S, M, δ, rfl, ok, r, hf.on r fun x M1 S1 x1 ok1 h1 v rv => ?_⟩
  refine ⟨S1, M1, δ, rfl, ok1, r.mono x1, h1.on (r.mono x1) fun y M2 S2 x2 ok2 h2 u ru => ?_⟩
  have rv := rv.mono x2
  have r2 := r.mono (x1.trans x2)
  cases y with
  | l m => exact False.elim h2
  | x => exact False.elim h2
  | d y =>
    cases y with
    | str k =>
      cases ru
      cases x with
      | d x =>
        cases x with
        | dict ds =>
          have h2 : FitS X.gx Ww Dn S2 (onE (ofO ((lookD ds k).map W.d) M2) δ fun g _ => onE (fe δ M2) δ fun w M3 => match intW g, intW w with
            | some a, some b => (putKW (.d (.dict ds)) (.d (.str k)) (.d (.int (a + b))) M3).map fun M4 => OutQ.nx δ M4
            | _, _ => none) := h2
          cases hl : (lookD ds k).map W.d with
          | none => rw [hl] at h2; exact False.elim h2
          | some g =>
            rw [hl] at h2
            have h2 : FitS X.gx Ww Dn S2 (onE (fe δ M2) δ fun w M3 => match intW g, intW w with
              | some a, some b => (putKW (.d (.dict ds)) (.d (.str k)) (.d (.int (a + b))) M3).map fun M4 => OutQ.nx δ M4
              | _, _ => none) := h2
            have no : ∀ w M3, (match intW g, intW w with
              | some a, some b => (putKW (.d (.dict ds)) (.d (.str k)) (.d (.int (a + b))) M3).map fun M4 => OutQ.nx δ M4
              | _, _ => none) = none := fun w M3 => by cases intW g <;> cases intW w <;> rfl
            have rd : Rv X.K S2.Z (.dict ds) v := rv
            obtain ⟨d, hd, rfl⟩ := Option.map_eq_some_iff.mp hl
            cases rd with
            | dic a1 b1 =>
              obtain ⟨z, z1, z2⟩ := lookD_rv b1 hd
              exact ⟨_, z, rfl, by rw [← z1]; exact DGet.k (k := Sum.inr k) (ok2.zh _ _ a1), S2, M2, δ, rfl, ok2, r2, h2.on r2 fun w M3 S3 x3 ok3 h3 u3 ru3 => by rw [no] at h3; exact False.elim h3⟩
        | _ => exact False.elim h2
      | x => exact False.elim h2
      | l n =>
        have h2 : FitS X.gx Ww Dn S2 (onE (match M2[n]? with | some (Cell.dct kvs) => ofO (kvs.lookup k) M2 | _ => none) δ fun g _ => onE (fe δ M2) δ fun w M3 => match intW g, intW w with
            | some a, some b => (putKW (.l n) (.d (.str k)) (.d (.int (a + b))) M3).map fun M4 => OutQ.nx δ M4
            | _, _ => none) := h2
        split at h2
        · rename_i kvs hc
          cases hl : kvs.lookup k with
          | none => rw [hl] at h2; exact False.elim h2
          | some g =>
            rw [hl] at h2
            have h2 : FitS X.gx Ww Dn S2 (onE (fe δ M2) δ fun w M3 => match intW g, intW w with
              | some a, some b => (putKW (.l n) (.d (.str k)) (.d (.int (a + b))) M3).map fun M4 => OutQ.nx δ M4
              | _, _ => none) := h2
            have rv0 := rv
            obtain ⟨p, g1, rfl⟩ := rv
            obtain ⟨xs, g2, g3⟩ := ok2.cell n p _ g1 hc
            have := g3.get (k := k)
            rw [hl] at this
            obtain ⟨z, z1, z2⟩ := this
            refine ⟨p, z, rfl, by rw [← z1]; exact DGet.k (k := Sum.inr k) g2, S2, M2, δ, rfl, ok2, r2, h2.on r2 fun w M3 S3 x3 ok3 h3 u3 ru3 => ?_⟩
            have z2 := z2.mono x3
            cases g with
            | l m => exact False.elim h3
            | x => exact False.elim h3
            | d g =>
              cases g with
              | int a =>
                cases w with
                | l m => exact False.elim h3
                | x => exact False.elim h3
                | d w =>
                  cases w with
                  | int b =>
                    cases z2
                    cases ru3
                    have h3 : FitS X.gx Ww Dn S3 ((putKW (.l n) (.d (.str k)) (.d (.int (a + b))) M3).map fun M4 => OutQ.nx δ M4) := h3
                    obtain ⟨a', H4, e1, e2, e3⟩ := putKW_run (σ := σ) (y := .d (.str k)) (w := .d (.int (a + b))) (z := .int (a + b)) ok3 (r2.mono x3) (rv0.mono x3) (Rv.str k) (Rv.int (a + b)) h3
                    cases e1
                    exact ⟨a, b, rfl, rfl, H4, e2, e3⟩
                  | _ => exact False.elim h3
              | _ => exact False.elim h3
        · exact False.elim h2
    | _ => exact False.elim h2
/-- xs[i] = w -/
def putIW (x y w : W) (M : List Cell) : Option (List Cell) := match x, y with
  | .l n, .d (.int k) => (match M[n]? with
    | some (.lst ws) => (ixN ws.length k).map fun j => M.set n (.lst (ws.set j w))
    | _ => none)
  | _, _ => none
def sPutI (fo fi fe : FH) : GQ := fun δ M => onE (fe δ M) δ fun w M1 => onE (fo δ M1) δ fun x M2 => onE (fi δ M2) δ fun y M3 => (putIW x y w M3).map fun M4 => .nx δ M4
theorem hs_putI {fo fi fe : FH} {tg : Expr} (hg : ∀ {to ti : TE} {t : TSet}, PE X o to → PE X i ti → PSet X t → PG X tg (gSub to ti t)) (ho : HE X X.gx Ww o fo) (hi : HE X X.gx Ww i fi) (h : HE X X.gx Ww e fe) (hs : PE X e (tH X.gx Ww fe) → PG X tg (gSub (tH X.gx Ww fo) (tH X.gx Ww fi) rSetL) → PS X (.Assign [tg] e pos) (tAsg (tH X.gx Ww fe) (gSub (tH X.gx Ww fo) (tH X.gx Ww fi) rSetL))) : HS X X.gx Ww (.Assign [tg] e pos) (sPutI fo fi fe) := by
  refine ps_conseq (hs h (hg ho hi set_list)) fun Dn σ H h => ?_
  obtain ⟨S, M, δ, rfl, ok, r, hf⟩ := h
  refine ⟨S, M, δ, rfl, ok, r, hf.on r fun w M1 S1 x1 ok1 h1 z rz => ?_⟩
  refine ⟨S1, M1, δ, rfl, ok1, r.mono x1, h1.on (r.mono x1) fun x M2 S2 x2 ok2 h2 v rv => ?_⟩
  refine ⟨S2, M2, δ, rfl, ok2, r.mono (x1.trans x2), h2.on (r.mono (x1.trans x2)) fun y M3 S3 x3 ok3 h3 u ru => ?_⟩
  have rv := rv.mono x3
  have rz := rz.mono (x2.trans x3)
  have r3 := r.mono (x1.trans (x2.trans x3))
  cases x with
  | d x => exact False.elim h3
  | x => exact False.elim h3
  | l n =>
    cases y with
    | l m => exact False.elim h3
    | x => exact False.elim h3
    | d y =>
      cases y with
      | int k =>
        cases ru
        have h3 : FitS X.gx Ww Dn S3 ((match M3[n]? with | some (Cell.lst ws) => (ixN ws.length k).map fun j => M3.set n (.lst (ws.set j w)) | _ => none : Option (List Cell)).map fun M4 => OutQ.nx δ M4) := h3
        split at h3
        · rename_i ws hc
          cases hj : ixN ws.length k with
          | none => rw [hj] at h3; exact False.elim h3
          | some j =>
            rw [hj] at h3
            obtain ⟨p, g1, rfl⟩ := rv
            obtain ⟨xs, g2, g3⟩ := ok3.cell n p _ g1 hc
            obtain ⟨le3, ok4⟩ := ok_set ok3 g1 (nofrzL g2) (.lst (ws.set j w)) (.lst (xs.set j z)) fun T gr hT => ⟨_, hT, (g3.gr gr).set j (rz.gr gr)⟩
            exact ⟨p, xs, k, j, rfl, rfl, g2, by rw [g3.length]; exact hj, h3 σ _ le3 ok4 (r3.mono le3)⟩
        · exact False.elim h3
      | _ => exact False.elim h3
/-- a, b, .. = e (a tuple of data) -/
def setAllQ : List Nat → List D → Env → Env
  | i :: is, d :: ds, δ => setAllQ is ds (δ.set i (some (.d d)))
  | _, _, δ => δ
def unpW (is : List Nat) (w : W) : Option (List D) := match w with
  | .d (.tuple ds) => if ds.length = is.length then some ds else none
  | _ => none
def sUnp (is : List Nat) (f : FH) : GQ := fun δ M => onE (f δ M) δ fun w M1 => (unpW is w).map fun ds => .nx (setAllQ is ds δ) M1
theorem names_runQ {S : Sm} {Q : L2.St → Hp → Prop} : ∀ {is : List Nat} {vs : List V} {ds : List D} {σ : L2.St} {δ : Env}, RH G S σ δ → RvL G.K S.Z ds vs → ds.length = is.length → (∀ σ', RH G S σ' (setAllQ is ds δ) → Q σ' S.H) → namesG is vs σ S.H Q
  | [], vs, ds, σ, δ, r, rv, hl, q => by
    cases ds with
    | nil => cases rv; exact ⟨rfl, q σ r⟩
    | cons d ds => cases hl
  | i :: is, vs, ds, σ, δ, r, rv, hl, q => by
    cases ds with
    | nil => cases hl
    | cons d ds =>
      cases rv with
      | cons a b => exact ⟨_, _, rfl, names_runQ (is := is) (r.set (w := .d d) a) b (by simpa using hl) q⟩
theorem hs_unp {tgs : List Expr} {k n : Nat} {pos' : Pos} {is : List Nat} {f : FH} (hl : n = is.length) (hps : PS X (.Assign [.Tuple tgs k pos'] e pos) (tAsg (tH X.gx Ww f) (gTup X.K n (namesG is)))) : HS X X.gx Ww (.Assign [.Tuple tgs k pos'] e pos) (sUnp is f) :=
  ps_conseq hps fun Dn σ H h => by
    obtain ⟨S, M, δ, rfl, ok, r, hf⟩ := h
    refine ⟨S, M, δ, rfl, ok, r, hf.on r fun w M1 S1 x1 ok1 h1 v rv => ?_⟩
    cases w with
    | l m => exact False.elim h1
    | x => exact False.elim h1
    | d y =>
      cases y with
      | tuple ds =>
        have h1 : FitS X.gx Ww Dn S1 ((if ds.length = is.length then some ds else none).map fun ds => OutQ.nx (setAllQ is ds δ) M1) := h1
        by_cases hz : ds.length = is.length
        · rw [if_pos hz] at h1
          cases rv with
          | tup a1 b1 =>
            refine ⟨_, _, rfl, sqt_mono ok1.zh a1, by rw [b1.length, hz, hl], ?_⟩
            exact names_runQ (G := X.gx) (r.mono x1) b1 hz fun σ' r' => h1 σ' S1 (.refl S1) ok1 r'
        · rw [if_neg hz] at h1; exact False.elim h1
      | _ => exact False.elim h1
/-! ### raise, try -/
/-- an exception class of the program's own over ValueError -/
structure EC (K : PySem.W.Frag) (mg : Str → Option Value) (c : Str) (C : Addr) : Prop where
  mgC : mg c = some (.ref C)
  ex : PySem.W.excIn K C [.type "ValueError", .type "Exception", .type "BaseException", .type "object"] "ValueError.__new__" = true
  kp : PySem.W.keepIn K (.ref C) = true
  sub : PySem.W.subIn K (.ref C) (.type "BaseException") = some true
  ty : PySem.W.typeIn K (.ref C) = some (.type "type")
abbrev ExC (K : PySem.W.Frag) (mg : Str → Option Value) (c : Str) : Prop := ∃ C, EC K mg c C
def sRaise (c : Str) : GQ := fun δ M => some (.rz c δ M)
theorem hs_raise {c m : Str} {j : Nat} {p2 pos2 : Pos} (T : ExC X.K X.mg c) (hc : X.calm = true) (tk : Takes X Ww) (hg : Gl X c) (hdb : (c == ("__debug__" : Str)) = false := by decide) : HS X X.gx Ww (.Raise (some (.Call (.Name c p) [.Constant (.str m) j p2] [] pos)) none pos2) (sRaise c) := by
  obtain ⟨C, k⟩ := T
  refine ps_conseq (ps_raise hc tk (pmk_own PySem.F.excBase_ValueError k.ex k.mgC k.kp (raises_own k.sub k.ty) hg hdb)) fun Dn σ H h => ?_
  obtain ⟨S, M, δ, rfl, ok, r, hf⟩ := h
  exact hf σ S C (.refl S) ok r k.mgC
/-- except x: of the classes cs each is caught -/
def CaC (K : PySem.W.Frag) (mg : Str → Option Value) (x : Str) (cs : List Str) : Prop := ∃ C, mg x = some (.ref C) ∧ ∀ c ∈ cs, ∃ C', mg c = some (.ref C') ∧ PySem.W.exmOne K (.ref C') (.ref C) = some true
def noRz : Option OutQ → Option OutQ
  | some (.rz _ _ _) => none
  | o => o
def sTry (cs : List Str) (g g' : GQ) : GQ := fun δ M => (g δ M).bind fun o => match o with
  | .rz c δ' M' => if c ∈ cs then noRz (g' δ' M') else none
  | o => some o
theorem hs_try {x : Str} {cs : List Str} {body suite : List Stmt} {b₀ : Stmt} {np pos' : Pos} {g g' : GQ} (T : CaC X.K X.mg x cs) (hs : X.stack = X.env :: X.outer) (hf : X.env.frame = some X.env.locals) (hg : Gl X x) (tk : Takes X Ww)
    (hb : ∀ (W' : WX) (pn : List (Addr × Obj)) (xe : Value → Shared → Prop), Takes (X.tr pn xe) W' → PassesOwn (model X.prog X.w) X.A X.env xe → HB (X.tr pn xe) X.gx W' body g)
    (hsu : ∀ (a : Addr) (oe : Obj) (pn : List (Addr × Obj)), HB (X.suite a ((a, oe) :: pn)) X.gx (fun _ _ _ _ => False) (b₀ :: suite) g')
    (hdb : (x == ("__debug__" : Str)) = false := by decide) : HS X X.gx Ww (.Try body [.ExceptHandler (some (.Name x np)) none (b₀ :: suite) pos'] [] [] pos) (sTry cs g g') := by
  obtain ⟨C, mgC, hcs⟩ := T
  refine ps_conseq (ps_try_only (tb := fun W' => tGQ X.gx W' g) (ts := fun _ _ _ => tGQ X.gx (fun _ _ _ _ => False) g') hs hf ⟨hg, hdb, .inl mgC⟩ tk hb fun a oe cls d pn _ _ => hsu a oe pn) fun Dn σ H h => ?_
  obtain ⟨S, M, δ, rfl, ok, r, hf⟩ := h
  refine ⟨S, M, δ, rfl, ok, r, ?_⟩
  unfold sTry at hf
  cases hg : g δ M with
  | none => rw [hg] at hf; exact False.elim hf
  | some out =>
    rw [hg] at hf
    cases out with
    | nx δ' M' => exact hf
    | rt w M' => exact hf
    | bk δ' M' => exact hf
    | ct δ' M' => exact hf
    | rz c δ' M' =>
      have hf : FitS X.gx Ww Dn S (if c ∈ cs then noRz (g' δ' M') else none) := hf
      by_cases hc : c ∈ cs
      · rw [if_pos hc] at hf
        intro σ' S' C' x' ok' r' e'
        obtain ⟨C2, e2, e3⟩ := hcs c hc
        have e' : X.mg c = some (.ref C') := e'
        rw [e2] at e'
        cases e'
        refine ⟨true, e3, fun _ a ha => ⟨S', M', δ', rfl, ok', r', ?_⟩, fun q => nomatch q⟩
        have q := FitS.mono x' hf
        revert q
        cases g' δ' M' with
        | none => exact fun q => q
        | some o2 =>
          cases o2 with
          | rz c2 δ2 M2 => exact fun q => False.elim q
          | _ => exact fun q => q
      · rw [if_neg hc] at hf; exact False.elim hf
end
end Q

set_option Elab.async false
set_option linter.all false
set_option maxRecDepth 100000
set_option maxHeartbeats 4000000
/-! Loops. -/
namespace Q
open PySem PySem.Spec PyProof.Rows L2 Pd
section
variable {X : Cx} {G : Gx} {Ww : WX} {a b c e o i : Expr} {es : List Expr} {pos p apos : Pos}
/-- what is walked: data -/
abbrev FQI := Env → List Cell → Rr (List D)
def tQI (G : Gx) (W : WX) (f : FQI) : TI := fun σ H Rk => ∃ (S : Sm) (M : List Cell) (δ : Env), S.H = H ∧ OkS G S M ∧ RH G S σ δ ∧ Fit G (Wx W σ) S (f δ M) fun ds _ S' => ∀ J (h : Same S'.Z S'.H), ItD G.K J (S'.st h) ds → Rk J S'.H
abbrev QI (X : Cx) (W : WX) (tg e : Expr) (f : FQI) : Prop := PI X tg e (tQI X.gx W f)
def iLift (fi : FI) : FQI := fun δ M => ofO (fi (pview δ)) M
theorem qi_lift {tg : Expr} {fi : FI} (h : WI X tg e fi) : QI X Ww tg e (iLift fi) := pi_conseq h fun σ H Rk q => by
  obtain ⟨S, M, δ, rfl, ok, r, hf⟩ := q
  obtain ⟨ds, hd, hf⟩ := fit_ofO hf
  refine ⟨S.H, S.st ok.zh, pview δ, ds, rfl, pview_r ok.zh r, hd, fun J T x it => ?_⟩
  obtain ⟨le, ok'⟩ := ok_ex ok x
  exact hf ⟨T.Z, T.H, S.L⟩ le ok' J T.ok it
/-- an expression whose value is data: a list, a tuple, a text -/
def iData (f : FH) : FQI := fun δ M => bnd (f δ M) fun w M1 => match w with
  | .d d => ofO (seqD d) M1
  | _ => none
theorem itd_rev {K : PySem.W.Frag} {S : Stt} {a : Addr} {vs : List V} {ds : List D} (hs : SqN K S.Z a vs) (hr : RvL K S.Z ds vs) : ItD K (RT.ItvT K a vs.length) S ds.reverse := by
  have hl := hr.length
  refine ⟨fun i S' x hi => ?_, fun i S' v H' x hi h => ?_, fun S' x => ?_⟩
  · rw [List.length_reverse] at hi
    obtain ⟨v, h1, _⟩ := hr.get (List.getElem?_eq_getElem (show ds.length - 1 - i < ds.length by omega))
    exact ⟨by omega, vs, v, sqt_mono (x.trans S'.ok) hs, by rw [hl]; exact h1⟩
  · rw [List.length_reverse] at hi
    obtain ⟨e, q⟩ := h
    have q := q vs (sqt_mono (x.trans S'.ok) hs)
    rw [hl] at q
    obtain ⟨d, h1, h2⟩ := hr.got q
    refine ⟨d, S', ?_, .refl _, e.symm, Rv.mono x _ h2⟩
    rw [List.getElem?_reverse (by omega)]
    exact h1
  · rw [List.length_reverse, ← hl]
    exact Nat.le_refl _
theorem itd_revL {K : PySem.W.Frag} {S : Stt} {a : Addr} {vs : List V} {ds : List D} (hs : SqL K S.Z a vs) (hr : RvL K S.Z ds vs) : ItD K (Itv K a vs.length) S ds.reverse := by
  have hl := hr.length
  refine ⟨fun i S' x hi => ?_, fun i S' v H' x hi h => ?_, fun S' x => ?_⟩
  · rw [List.length_reverse] at hi
    obtain ⟨v, h1, _⟩ := hr.get (List.getElem?_eq_getElem (show ds.length - 1 - i < ds.length by omega))
    exact ⟨by omega, vs, v, (x.trans S'.ok).seq hs, by rw [hl]; exact h1⟩
  · rw [List.length_reverse] at hi
    obtain ⟨e, q⟩ := h
    have q := q vs ((x.trans S'.ok).seq hs)
    rw [hl] at q
    obtain ⟨d, h1, h2⟩ := hr.got q
    refine ⟨d, S', ?_, .refl _, e.symm, Rv.mono x _ h2⟩
    rw [List.getElem?_reverse (by omega)]
    exact h1
  · rw [List.length_reverse, ← hl]
    exact Nat.le_refl _
/-- reversed(t), t a tuple or a list of data -/
def revI (f : FE) : FI := fun δ => (f δ).bind fun d => match d with
  | .tuple ds => some ds.reverse
  | .list ds => some ds.reverse
  | _ => none
theorem wi_rev {tg : Expr} {f : FE} (hg : Gl X "reversed") (hm : X.mg "reversed" = none) (he : DE X e f) (hst : starEach [e] X.env = (false, eval e X.env) :: starEach [] X.env := by rfl) : WI X tg (.Call (.Name "reversed" p) [e] [] pos) (revI f) := pi_conseq (RT.pi_revA hg hm he hst) fun σ H Rk q => by
  obtain ⟨E, S, δ, ds, rfl, r, hf, q⟩ := q
  obtain ⟨d, hd, hf⟩ := Option.bind_eq_some_iff.mp hf
  cases d with
  | tuple ds0 =>
    cases hf
    refine ⟨E, S, δ, .tuple ds0, rfl, r, hd, fun v S' x rv => ?_⟩
    cases rv with
    | tup a1 b1 => exact ⟨_, _, rfl, .inr ⟨sqt_mono S'.ok a1, q _ S' x (itd_rev a1 b1)⟩⟩
  | list ds0 =>
    cases hf
    refine ⟨E, S, δ, .list ds0, rfl, r, hd, fun v S' x rv => ?_⟩
    cases rv with
    | lst a1 b1 => exact ⟨_, _, rfl, .inl ⟨S'.ok.seq a1, q _ S' x (itd_revL a1 b1)⟩⟩
  | _ => cases hf
def forQ (i : Nat) (body : GQ) : List D → GQ
  | [], δ, M => some (.nx δ M)
  | d :: r, δ, M => (body (δ.set i (some (.d d))) M).bind fun o => match o with
    | .nx δ' M' => forQ i body r δ' M'
    | .ct δ' M' => forQ i body r δ' M'
    | .bk δ' M' => some (.nx δ' M')
    | .rt w M' => some (.rt w M')
    | .rz c δ' M' => some (.rz c δ' M')
def sFor (fi : FQI) (i : Nat) (body : GQ) : GQ := fun δ M => onE (fi δ M) δ fun ds M1 => forQ i body ds δ M1
theorem hs_for {tg iter : Expr} {body : List Stmt} {fi : FQI} {i : Nat} {g : GQ} (hp : PassesOwn (model X.prog X.w) X.A X.env X.xe) (hc : X.calm = true) (hi : QI X Ww tg iter fi) (hg : PG X tg (gName i)) (hb : HB X X.gx Ww body g) (hs : ∀ x, foldedSetIterable iter X.env x = pure x := by intro _; rfl) : HS X X.gx Ww (.For tg iter body [] pos) (sFor fi i g) :=
  ps_conseq (ps_for hp hc hi hg hb (hs := hs)) fun Dn σ H h => by
    obtain ⟨S, M, δ, rfl, ok, r, hf⟩ := h
    refine ⟨S, M, δ, rfl, ok, r, hf.on r fun ds M1 S1 x1 ok1 h1 J hh it => ?_⟩
    let Pv : Nat → L2.St → Hp → Prop := fun k σ H => ∃ (S' : Sm) (M' : List Cell) (δ' : Env), S'.H = H ∧ Le S1 S' ∧ OkS X.gx S' M' ∧ RH X.gx S' σ δ' ∧ FitS X.gx Ww Dn S' (forQ i g (ds.drop k) δ' M')
    refine ⟨fun k m σ H => m = ds.length - k ∧ k ≤ ds.length ∧ Pv k σ H, ⟨ds.length, by simp, Nat.zero_le _, S1, M1, δ, rfl, .refl S1, ok1, r.mono x1, h1⟩, ?_⟩
    rintro k m σ H ⟨rfl, hk, S', M', δ', rfl, x', ok', r', hl⟩
    by_cases hlt : k < ds.length
    · refine .inr ⟨it.go k (S'.st ok'.zh) x'.z hlt, Pv (k + 1), fun σ' H' p => ⟨ds.length - (k + 1), by omega, rfl, hlt, p⟩, fun v H' hyld => ?_⟩
      obtain ⟨d, S2, hd, x2, rfl, rd⟩ := it.yld k (S'.st ok'.zh) v H' x'.z hlt hyld
      obtain ⟨le2, ok2⟩ := ok_ex ok' x2
      rw [List.drop_eq_getElem_cons hlt] at hl
      have ed : ds[k] = d := by rw [List.getElem?_eq_getElem hlt] at hd; exact Option.some.inj hd
      rw [ed] at hl
      simp only [forQ] at hl
      have rr : RH X.gx ⟨S2.Z, S2.H, S'.L⟩ (σ.set i (some v)) (δ'.set i (some (.d d))) := (r'.mono le2).set rd
      refine ⟨⟨S2.Z, S2.H, S'.L⟩, M', _, rfl, ok2, rr, ?_⟩
      cases hb1 : g (δ'.set i (some (.d d))) M' with
      | none => rw [hb1] at hl; exact False.elim hl
      | some out =>
        rw [hb1] at hl
        have hl := FitS.mono le2 hl
        cases out with
        | nx δ2 M2 => exact fun σ3 S3 x3 ok3 r3 => ⟨S3, M2, δ2, rfl, x'.trans (le2.trans x3), ok3, r3, FitS.mono x3 hl⟩
        | ct δ2 M2 => exact fun σ3 S3 x3 ok3 r3 => ⟨S3, M2, δ2, rfl, x'.trans (le2.trans x3), ok3, r3, FitS.mono x3 hl⟩
        | bk δ2 M2 => exact hl
        | rt w M2 => exact hl
        | rz c δ2 M2 => exact hl
    · have ek : k = ds.length := by omega
      subst ek
      rw [List.drop_length] at hl
      exact .inl ⟨it.stop (S'.st ok'.zh) x'.z, hl σ S' (.refl S') ok' r'⟩
/-- over a list that is a cell, item by item as it stands -/
def forC (i n : Nat) (body : GQ) : Nat → Nat → GQ
  | 0, _, _, _ => none
  | m + 1, k, δ, M => match M[n]? with
    | some (.lst ws) => (match ws[k]? with
      | none => some (.nx δ M)
      | some w => (body (δ.set i (some w)) M).bind fun o => match o with
        | .nx δ' M' => forC i n body m (k + 1) δ' M'
        | .ct δ' M' => forC i n body m (k + 1) δ' M'
        | .bk δ' M' => some (.nx δ' M')
        | .rt w M' => some (.rt w M')
        | .rz c δ' M' => some (.rz c δ' M'))
    | _ => none
def sForC (f : FH) (i : Nat) (body : GQ) : GQ := fun δ M => onE (f δ M) δ fun w M1 => match w with
  | .l n => (match M1[n]? with
    | some (.lst ws) => forC i n body lim 0 δ M1
    | _ => none)
  | _ => none
theorem hs_forC {tg iter : Expr} {body : List Stmt} {f : FH} {i : Nat} {g : GQ} (hp : PassesOwn (model X.prog X.w) X.A X.env X.xe) (hc : X.calm = true) (hi : HE X X.gx Ww iter f) (hg : PG X tg (gName i)) (hb : HB X X.gx Ww body g) (hs : ∀ x, foldedSetIterable iter X.env x = pure x := by intro _; rfl) : HS X X.gx Ww (.For tg iter body [] pos) (sForC f i g) :=
  ps_conseq (ps_for hp hc (pi_list (tg := tg) hi) hg hb (hs := hs)) fun Dn σ H h => by
    obtain ⟨S, M, δ, rfl, ok, r, hf⟩ := h
    refine ⟨S, M, δ, rfl, ok, r, hf.on r fun w M1 S1 x1 ok1 h1 v rv => ?_⟩
    cases w with
    | d y => exact False.elim h1
    | x => exact False.elim h1
    | l n =>
      have h1 : FitS X.gx Ww Dn S1 (match M1[n]? with | some (Cell.lst ws) => forC i n g lim 0 δ M1 | _ => none) := h1
      split at h1
      · rename_i ws hcell
        obtain ⟨p, g1, rfl⟩ := rv
        obtain ⟨vs, g2, g3⟩ := ok1.cell n p _ g1 hcell
        refine ⟨p, rfl, ⟨vs, .inl (.inl g2)⟩, ?_⟩
        let Pv : Nat → Nat → L2.St → Hp → Prop := fun k m σ H => ∃ (S' : Sm) (M' : List Cell) (δ' : Env), S'.H = H ∧ Le S1 S' ∧ OkS X.gx S' M' ∧ RH X.gx S' σ δ' ∧ FitS X.gx Ww Dn S' (forC i n g m k δ' M')
        refine ⟨fun k m σ H => Pv k m σ H, ⟨lim, S1, M1, δ, rfl, .refl S1, ok1, r.mono x1, h1⟩, ?_⟩
        rintro k m σ H ⟨S', M', δ', rfl, x', ok', r', hl⟩
        cases m with
        | zero => exact False.elim hl
        | succ m =>
          simp only [forC] at hl
          split at hl
          · rename_i us hc2
            obtain ⟨xs, q2, q3⟩ := ok'.cell n p _ (x'.at g1) hc2
            have sq : SqL X.K S'.H p xs := .inl (.inl q2)
            split at hl
            · rename_i hk
              refine .inl ⟨⟨xs, sq, ?_⟩, hl σ S' (.refl S') ok' r'⟩
              rw [q3.length]
              exact List.getElem?_eq_none_iff.mp hk
            · rename_i w hk
              obtain ⟨y, y1, y2⟩ := q3.get hk
              refine .inr ⟨⟨xs, y, sq, y1⟩, Pv (k + 1) m, fun σ' H' p => ⟨m, Nat.lt_succ_self _, p⟩, fun v H' hyld => ?_⟩
              obtain ⟨rfl, hy⟩ := hyld
              have ev : y = v := by
                have := hy xs sq
                rw [y1] at this
                exact Option.some.inj this
              subst ev
              refine ⟨S', M', _, rfl, ok', r'.set y2, ?_⟩
              cases hb1 : g (δ'.set i (some w)) M' with
              | none => rw [hb1] at hl; exact False.elim hl
              | some out =>
                rw [hb1] at hl
                cases out with
                | nx δ2 M2 => exact fun σ3 S3 x3 ok3 r3 => ⟨S3, M2, δ2, rfl, x'.trans x3, ok3, r3, FitS.mono x3 hl⟩
                | ct δ2 M2 => exact fun σ3 S3 x3 ok3 r3 => ⟨S3, M2, δ2, rfl, x'.trans x3, ok3, r3, FitS.mono x3 hl⟩
                | bk δ2 M2 => exact hl
                | rt w M2 => exact hl
                | rz c δ2 M2 => exact hl
          · exact False.elim hl
      · exact False.elim h1
/-- while, at most n turns -/
def whileQ (ft : FT) (body : GQ) : Nat → GQ
  | 0, _, _ => none
  | n + 1, δ, M => onE (ft δ M) δ fun k M1 => if k then (body δ M1).bind fun o => (match o with
      | .nx δ' M' => whileQ ft body n δ' M'
      | .ct δ' M' => whileQ ft body n δ' M'
      | .bk δ' M' => some (.nx δ' M')
      | .rt w M' => some (.rt w M')
      | .rz c δ' M' => some (.rz c δ' M')) else some (.nx δ M1)
theorem hs_while (n : Nat) {body : List Stmt} {ft : FT} {g : GQ} (hp : PassesOwn (model X.prog X.w) X.A X.env X.xe) (ht : HT X G Ww c ft) (hb : HB X G Ww body g) : HS X G Ww (.While c body [] pos) (whileQ ft g n) :=
  ps_conseq (ps_while hp ht hb) fun Dn σ H h => by
    obtain ⟨S, M, δ, rfl, ok, r, hf⟩ := h
    refine ⟨fun m σ H => ∃ (S' : Sm) (M' : List Cell) (δ' : Env), S'.H = H ∧ OkS G S' M' ∧ RH G S' σ δ' ∧ FitS G Ww Dn S' (whileQ ft g m δ' M'), ⟨n, S, M, δ, rfl, ok, r, hf⟩, ?_⟩
    rintro m σ H ⟨S', M', δ', rfl, ok', r', hl⟩
    cases m with
    | zero => exact False.elim hl
    | succ m =>
      simp only [whileQ] at hl
      refine ⟨S', M', δ', rfl, ok', r', hl.on r' fun k M1 S1 x1 ok1 h1 => ?_⟩
      cases k with
      | false => exact iteF (h1 σ S1 (.refl S1) ok1 (r'.mono x1))
      | true =>
        refine iteT ?_
        refine ⟨fun σ2 H2 => ∃ (S2 : Sm) (M2 : List Cell) (δ2 : Env), S2.H = H2 ∧ OkS G S2 M2 ∧ RH G S2 σ2 δ2 ∧ FitS G Ww Dn S2 (whileQ ft g m δ2 M2), fun σ2 H2 p => ⟨m, Nat.lt_succ_self _, p⟩, ?_⟩
        refine ⟨S1, M1, δ', rfl, ok1, r'.mono x1, ?_⟩
        have h1 : FitS G Ww Dn S1 ((g δ' M1).bind _) := h1
        cases hb1 : g δ' M1 with
        | none => rw [hb1] at h1; exact False.elim h1
        | some out =>
          rw [hb1] at h1
          cases out with
          | nx δ2 M2 => exact fun σ3 S3 x3 ok3 r3 => ⟨S3, M2, δ2, rfl, ok3, r3, FitS.mono x3 h1⟩
          | ct δ2 M2 => exact fun σ3 S3 x3 ok3 r3 => ⟨S3, M2, δ2, rfl, ok3, r3, FitS.mono x3 h1⟩
          | bk δ2 M2 => exact h1
          | rt w M2 => exact h1
          | rz c δ2 M2 => exact h1
/-! ### list(..) -/
def listW : List W → List Cell → Rr W
  | [.l n], M => (match M[n]? with
    | some (.lst ws) => some (.ok (.l M.length) (M ++ [.lst ws]))
    | _ => none)
  | [.d (.list ds)], M => some (.ok (.l M.length) (M ++ [.lst (ds.map .d)]))
  | [.d (.tuple ds)], M => some (.ok (.l M.length) (M ++ [.lst (ds.map .d)]))
  | _, _ => none
def hList (g : FHA) : FH := fun δ M => bnd (g δ M) listW
theorem he_list {g : FHA} (hg : Gl X "list") (hm : X.mg "list" = none) (ha : HA X X.gx Ww [e] g) (he : starEach [e] X.env = (false, eval e X.env) :: starEach [] X.env := by rfl) (hpl : (backTo pos (starEach [] X.env)).any (·.1) = false := by rfl) : HE X X.gx Ww (.Call (.Name "list" p) [e] [] pos) (hList g) := by
  refine pe_conseq (pe_callTy call_list_of hg hm (by decide +kernel) ha (he := he) (hpl := hpl)) fun σ H Q h => ?_
  obtain ⟨S, M, δ, rfl, ok, r, hf⟩ := h
  refine ⟨S, M, δ, rfl, ok, r, hf.go fun ws M1 S1 x1 ok1 h1 vs rvs => ?_⟩
  have fin : ∀ (us : List W) (xs : List V), RwL X.gx S1 us xs → Fit X.gx (Wx Ww σ) S1 (some (Rs.ok (W.l M1.length) (M1 ++ [.lst us]))) (fun w _ S' => ∀ v, Rw X.gx S' w v → Q v S'.H) → ∀ l, S1.H l = none → Q (.ref l) (upd S1.H l (.lst xs)) := fun us xs rus hh l hl => by
    obtain ⟨le, ok2⟩ := ok_new ok1 hl (.lst us) (.lst xs) fun T gr hT => ⟨xs, hT, rus.gr gr⟩
    exact hh.at le ok2 (.ref l) (new_at ok1 l _ _)
  unfold listW at h1
  split at h1
  · rename_i n
    split at h1
    · rename_i us hc
      obtain ⟨v, t, rfl, rv, rt⟩ := rvs
      cases rt
      obtain ⟨q, g1, rfl⟩ := rv
      obtain ⟨xs, g2, g3⟩ := ok1.cell n q _ g1 hc
      exact ⟨q, xs, rfl, .inl (.inl (.inl g2)), fin us xs g3 h1⟩
    · exact False.elim h1
  · rename_i ds
    obtain ⟨v, t, rfl, rv, rt⟩ := rvs
    cases rt
    have rv : Rv X.K S1.Z (.list ds) v := rv
    cases rv with
    | lst a1 b1 => exact ⟨_, _, rfl, .inl (ok1.zh.seq a1), fin _ _ (RwL.ofD (G := X.gx) b1) h1⟩
  · rename_i ds
    obtain ⟨v, t, rfl, rv, rt⟩ := rvs
    cases rt
    have rv : Rv X.K S1.Z (.tuple ds) v := rv
    cases rv with
    | tup a1 b1 => exact ⟨_, _, rfl, .inr (sqt_mono ok1.zh a1), fin _ _ (RwL.ofD (G := X.gx) b1) h1⟩
  · exact False.elim h1
/-- list(d), d a dict that is a cell: its keys -/
def keysW : List W → List Cell → Rr W
  | [.l n], M => (match M[n]? with
    | some (.dct kvs) => some (.ok (.l M.length) (M ++ [.lst (kvs.map fun kv => .d (.str kv.1))]))
    | _ => none)
  | _, _ => none
def hKeys (g : FHA) : FH := fun δ M => bnd (g δ M) keysW
theorem keys_rw {S : Sm} : ∀ {ws : List (Str × W)} {vs : List (Key × V)}, RwK G S ws vs → RwL G S (ws.map fun kv => .d (.str kv.1)) (vs.map fun kv => kV kv.1)
  | [], _, h => by cases h; rfl
  | (k, w) :: ws, _, h => by obtain ⟨v, r, rfl, h1, h2⟩ := h; exact ⟨_, _, rfl, Rv.str k, keys_rw h2⟩
theorem he_keys {g : FHA} (hc : X.calm = true) (hg : Gl X "list") (hm : X.mg "list" = none) (ha : HA X X.gx Ww [e] g) (he : starEach [e] X.env = (false, eval e X.env) :: starEach [] X.env := by rfl) (hpl : (backTo pos (starEach [] X.env)).any (·.1) = false := by rfl) : HE X X.gx Ww (.Call (.Name "list" p) [e] [] pos) (hKeys g) := by
  refine pe_conseq (pe_callTy (call_list_dK hc) hg hm (by decide +kernel) ha (he := he) (hpl := hpl)) fun σ H Q h => ?_
  obtain ⟨S, M, δ, rfl, ok, r, hf⟩ := h
  refine ⟨S, M, δ, rfl, ok, r, hf.go fun ws M1 S1 x1 ok1 h1 vs rvs => ?_⟩
  unfold keysW at h1
  split at h1
  · rename_i n
    split at h1
    · rename_i kvs hc
      obtain ⟨v, t, rfl, rv, rt⟩ := rvs
      cases rt
      obtain ⟨q, g1, rfl⟩ := rv
      obtain ⟨xs, g2, g3⟩ := ok1.cell n q _ g1 hc
      refine ⟨q, xs, rfl, g2, fun l hl => ?_⟩
      obtain ⟨le, ok2⟩ := ok_new ok1 hl (.lst (kvs.map fun kv => .d (.str kv.1))) (.lst (xs.map fun kv => kV kv.1)) fun T gr hT => ⟨_, hT, (keys_rw g3).gr gr⟩
      exact h1.at le ok2 (.ref l) (new_at ok1 l _ _)
    · exact False.elim h1
  · exact False.elim h1
end
end Q

set_option Elab.async false
set_option linter.all false
set_option maxRecDepth 100000
set_option maxHeartbeats 4000000
/-! Comprehensions over cells. -/
namespace Q
open PySem PySem.Spec PyProof.Rows L2 Pd
/-- what may not raise -/
def nr {α : Type} (r : Rr α) : Rr α := match r with
  | some (.rz _ _) => none
  | r => r
theorem nr_ok {α : Type} (a : α) (M : List Cell) : nr (some (.ok a M)) = some (.ok a M) := rfl
theorem Fit.nr {α : Type} {G : Gx} {Wr Wr' : Value → Hp → Prop} {S : Sm} {r : Rr α} {q : α → List Cell → Sm → Prop} (h : Fit G Wr S (Q.nr r) q) : Fit G Wr' S r q := by
  cases r with
  | none => exact h
  | some o =>
    cases o with
    | ok a M => exact h
    | rz c M => exact False.elim h
/-- the item at k, none behind the last -/
abbrev Nxt := Nat → List Cell → Option (Option W)
structure SrcOk (G : Gx) (J : It) (S : Sm) (nxt : Nxt) : Prop where
  go : ∀ k S' M w, Le S S' → OkS G S' M → nxt k M = some (some w) → J.go k S'.H
  yld : ∀ k S' M w v H', Le S S' → OkS G S' M → nxt k M = some (some w) → J.yld k S'.H v H' → ∃ S2, Le S' S2 ∧ OkS G S2 M ∧ S2.H = H' ∧ Rw G S2 w v
  stop : ∀ k S' M, Le S S' → OkS G S' M → nxt k M = some none → J.stop k S'.H
/-- the turns; the new list is the cell n -/
def lcGo (nxt : Nxt) (i : Nat) (ft : FT) (fe : FH) (n : Nat) (δ : Env) : Nat → Nat → List Cell → Rr W
  | 0, _, _ => none
  | m + 1, k, M => match nxt k M with
    | none => none
    | some none => some (.ok (.l n) M)
    | some (some w) => bnd (nr (ft (δ.set i (some w)) M)) fun b M2 => if b then bnd (nr (fe (δ.set i (some w)) M2)) fun y M3 => bnd (nr (appW (.l n) y M3)) fun _ M4 => lcGo nxt i ft fe n δ m (k + 1) M4 else lcGo nxt i ft fe n δ m (k + 1) M2
section
variable {X : Cx} {G : Gx} {Ww : WX} {a b c e o : Expr} {pos p : Pos}
theorem lc_run {J : It} {S1 : Sm} {M1 : List Cell} {σ : L2.St} {δ : Env} {i : Nat} {nxt : Nxt} {ft : FT} {fe : FH} {Qv : VK} (ok1 : OkS G S1 M1) (r : RH G S1 σ δ) (sr : SrcOk G J S1 nxt)
    (h : Fit G (Wx Ww σ) S1 (lcGo nxt i ft fe M1.length (δ.set i none) lim 0 (M1 ++ [.lst []])) fun w _ S' => ∀ v, Rw G S' w v → Qv v S'.H) :
    ∀ D, S1.H D = none → ∃ Wv : Nat → Nat → Hp → Prop, (∃ m, Wv 0 m (upd S1.H D (.lst []))) ∧ ∀ k m H, Wv k m H → (J.stop k H ∧ Qv (.ref D) H) ∨ (J.go k H ∧ ∃ Nx : Hp → Prop, (∀ H', Nx H' → ∃ m', m' < m ∧ Wv (k + 1) m' H') ∧
      ∀ x H', J.yld k H x H' → gName i x (wipe σ [i]) H' fun σ2 H2 => wipe σ2 [i] = wipe σ [i] ∧ tHT G (fun _ _ _ _ => False) ft σ2 H2 fun b H3 => if b = true then tH G (fun _ _ _ _ => False) fe σ2 H3 fun y H4 => ∃ acc, H4 D = some (.lst acc) ∧ acc.length < sizeLine ∧ Nx (upd H4 D (.lst (acc ++ [y]))) else Nx H3) := by
  intro D hD
  obtain ⟨le, ok2⟩ := ok_new ok1 hD (.lst []) (.lst []) fun T gr hT => ⟨[], hT, rfl⟩
  let n := M1.length
  have atD : (S1.L ++ [D])[n]? = some D := by rw [show n = S1.L.length from ok1.len.symm, List.getElem?_append_right (Nat.le_refl _), Nat.sub_self]; rfl
  let S2 : Sm := ⟨S1.Z, upd S1.H D (.lst []), S1.L ++ [D]⟩
  let Pv : Nat → Nat → Hp → Prop := fun k m H => ∃ (S' : Sm) (M' : List Cell), S'.H = H ∧ Le S2 S' ∧ OkS G S' M' ∧ Fit G (Wx Ww σ) S' (lcGo nxt i ft fe n (δ.set i none) m k M') fun w _ S' => ∀ v, Rw G S' w v → Qv v S'.H
  refine ⟨Pv, ⟨lim, S2, M1 ++ [.lst []], rfl, .refl _, ok2, h.mono le⟩, ?_⟩
  rintro k m H ⟨S', M', rfl, x', ok', hl⟩
  cases m with
  | zero => exact False.elim hl
  | succ m =>
    simp only [lcGo] at hl
    split at hl
    · exact False.elim hl
    · rename_i hn
      exact .inl ⟨sr.stop k S' M' (le.trans x') ok' hn, hl.here ok' (.ref D) ⟨D, x'.at atD, rfl⟩⟩
    · rename_i w hn
      refine .inr ⟨sr.go k S' M' w (le.trans x') ok' hn, Pv (k + 1) m, fun H' p => ⟨m, Nat.lt_succ_self _, p⟩, fun v H' hy => ?_⟩
      obtain ⟨S3, x3, ok3, rfl, rw3⟩ := sr.yld k S' M' w v H' (le.trans x') ok' hn hy
      have r3 : RH G S3 (wipe σ [i]) (δ.set i none) := by
        show RH G S3 (σ.set i none) (δ.set i none)
        exact (r.mono (le.trans (x'.trans x3))).setN i none
      refine ⟨?_, ?_⟩
      · show ((σ.set i none).set i (some v)).set i none = σ.set i none
        rw [List.set_set, List.set_set]
      · have r4 : RH G S3 ((wipe σ [i]).set i (some v)) ((δ.set i none).set i (some w)) := r3.set rw3
        refine ⟨S3, M', _, rfl, ok3, r4, Fit.nr ((hl.mono x3).go fun b M2 S4 x4 ok4 h4 => ?_)⟩
        cases b with
        | false => rw [if_neg (by decide)]; exact ⟨S4, M2, rfl, x'.trans (x3.trans x4), ok4, h4⟩
        | true =>
          rw [if_pos rfl]
          refine ⟨S4, M2, _, rfl, ok4, r4.mono x4, Fit.nr ((show Fit G (Wx Ww σ) S4 (bnd _ _) _ from h4).go fun y M3 S5 x5 ok5 h5 u ru => ?_)⟩
          have xx := x'.trans (x3.trans (x4.trans x5))
          have h5 : Fit G (Wx Ww σ) S5 (bnd (Q.nr (match M3[n]? with | some (Cell.lst ws) => if ws.length < lim then some (Rs.ok (W.d .none) (M3.set n (.lst (ws ++ [y])))) else none | _ => none)) _) _ := h5
          split at h5
          · rename_i ws hc
            obtain ⟨acc, g2, g3⟩ := ok5.cell n D _ (xx.at atD) hc
            by_cases hz : ws.length < lim
            · rw [if_pos hz] at h5
              obtain ⟨le6, ok6⟩ := ok_set ok5 (xx.at atD) (nofrzL g2) (.lst (ws ++ [y])) (.lst (acc ++ [u])) fun T gr hT => ⟨_, hT, (g3.gr gr).append ⟨u, [], rfl, ru.gr gr, rfl⟩⟩
              exact ⟨acc, g2, by rw [g3.length]; exact lt_line hz, _, _, rfl, xx.trans le6, ok6, Fit.mono le6 h5⟩
            · rw [if_neg hz] at h5; exact False.elim h5
          · exact False.elim h5
def hLc (src : Env → List Cell → Rr Nxt) (i : Nat) (ft : FT) (fe : FH) : FH := fun δ M => bnd (src δ M) fun nxt M1 => lcGo nxt i ft fe M1.length (δ.set i none) lim 0 (M1 ++ [.lst []])
def tSrc (G : Gx) (W : WX) (f : Env → List Cell → Rr Nxt) : TI := fun σ H Rk => ∃ (S : Sm) (M : List Cell) (δ : Env), S.H = H ∧ OkS G S M ∧ RH G S σ δ ∧ Fit G (Wx W σ) S (f δ M) fun nxt _ S' => ∀ J, SrcOk G J S' nxt → Rk J S'.H
/-- data, item by item -/
def nxtD (ds : List D) : Nxt := fun k _ => if k = ds.length then some none else (ds[k]?).map fun d => some (.d d)
theorem nxtD_some {ds : List D} {k : Nat} {M : List Cell} {w : W} (h : nxtD ds k M = some (some w)) : ∃ d, ds[k]? = some d ∧ w = .d d := by
  unfold nxtD at h
  split at h
  · cases h
  · obtain ⟨d, h1, h2⟩ := Option.map_eq_some_iff.mp h
    exact ⟨d, h1, (Option.some.inj h2).symm⟩
theorem nxtD_none {ds : List D} {k : Nat} {M : List Cell} (h : nxtD ds k M = some none) : k = ds.length := by
  unfold nxtD at h
  split at h
  · assumption
  · obtain ⟨d, h1, h2⟩ := Option.map_eq_some_iff.mp h
    cases h2
def srcD (f : FQI) : Env → List Cell → Rr Nxt := fun δ M => bnd (f δ M) fun ds M1 => some (.ok (nxtD ds) M1)
theorem src_itd {J : It} {S1 : Sm} {ds : List D} (hh : Same S1.Z S1.H) (it : ItD G.K J (S1.st hh) ds) : SrcOk G J S1 (nxtD ds) := by
  refine ⟨fun k S' M w x' ok' hn => ?_, fun k S' M w v H' x' ok' hn hy => ?_, fun k S' M x' ok' hn => ?_⟩
  · obtain ⟨d, e, _⟩ := nxtD_some hn
    exact it.go k (S'.st ok'.zh) x'.z (List.getElem?_eq_some_iff.mp e).1
  · obtain ⟨d, e, rfl⟩ := nxtD_some hn
    obtain ⟨d', T, h1, h2, h3, h4⟩ := it.yld k (S'.st ok'.zh) v H' x'.z (List.getElem?_eq_some_iff.mp e).1 hy
    rw [e] at h1
    cases h1
    obtain ⟨le2, ok2⟩ := ok_ex ok' h2
    exact ⟨_, le2, ok2, h3, h4⟩
  · rw [nxtD_none hn]
    exact it.stop (S'.st ok'.zh) x'.z
theorem src_data {tg : Expr} {f : FQI} (h : QI X Ww tg e f) : PI X tg e (tSrc X.gx Ww (srcD f)) := pi_conseq h fun σ H Rk q => by
  obtain ⟨S, M, δ, rfl, ok, r, hf⟩ := q
  exact ⟨S, M, δ, rfl, ok, r, hf.go fun ds M1 S1 x1 ok1 h1 J hh it => h1.here ok1 J (src_itd hh it)⟩
/-- a list that is a cell, as it stands -/
def nxtC (n : Nat) : Nxt := fun k M => match M[n]? with
  | some (.lst ws) => some (ws[k]?)
  | _ => none
def srcC (f : FH) : Env → List Cell → Rr Nxt := fun δ M => bnd (f δ M) fun w M1 => if isLst w M1 then (match w with
  | .l n => some (.ok (nxtC n) M1)
  | _ => none) else none
theorem src_cell {tg : Expr} {f : FH} (h : HE X X.gx Ww e f) : PI X tg e (tSrc X.gx Ww (srcC f)) := pi_conseq (pi_list (tg := tg) h) fun σ H Rk q => by
  obtain ⟨S, M, δ, rfl, ok, r, hf⟩ := q
  refine ⟨S, M, δ, rfl, ok, r, hf.go fun w M1 S1 x1 ok1 h1 v rv => ?_⟩
  split at h1
  · rename_i hi
    obtain ⟨n, p, vs, rfl, rfl, g1, g2⟩ := isLst_of ok1 hi rv
    refine ⟨p, rfl, ⟨vs, .inl (.inl g2)⟩, ?_⟩
    refine h1.here ok1 (Itl X.K p) ⟨fun k S' M w x' ok' hn => ?_, fun k S' M w v H' x' ok' hn hy => ?_, fun k S' M x' ok' hn => ?_⟩
    · unfold nxtC at hn
      split at hn
      · rename_i ws hc
        obtain ⟨xs, q2, q3⟩ := ok'.cell n p _ (x'.at g1) hc
        obtain ⟨y, y1, _⟩ := q3.get (Option.some.inj hn)
        exact ⟨xs, y, .inl (.inl q2), y1⟩
      · cases hn
    · unfold nxtC at hn
      split at hn
      · rename_i ws hc
        obtain ⟨xs, q2, q3⟩ := ok'.cell n p _ (x'.at g1) hc
        obtain ⟨y, y1, y2⟩ := q3.get (Option.some.inj hn)
        obtain ⟨rfl, hy⟩ := hy
        have := hy xs (.inl (.inl q2))
        rw [y1] at this
        cases this
        exact ⟨S', .refl _, ok', rfl, y2⟩
      · cases hn
    · unfold nxtC at hn
      split at hn
      · rename_i ws hc
        obtain ⟨xs, q2, q3⟩ := ok'.cell n p _ (x'.at g1) hc
        refine ⟨xs, .inl (.inl q2), ?_⟩
        rw [q3.length]
        exact List.getElem?_eq_none_iff.mp (Option.some.inj hn)
      · cases hn
  · exact False.elim h1
theorem he_lc {elt tg iter : Expr} {ifs : List Expr} {scope : Scope} {x : Str} {i : Nat} {src : Env → List Cell → Rr Nxt} {ft : FT} {fe : FH} (hc : X.calm = true) (hN : X.N.Nodup) (hi : PI X tg iter (tSrc X.gx Ww src)) (ok : BlkOk X.N X.env.scope scope [(x, i)])
    (hg : ∀ (s : Shared) (H : Hp) (C : Addr) (cl : List (Str × Addr)) (fp : List Addr), PG (X.blk s H scope (compEnvC scope cl C X.env) fp) tg (gName i)) (ht : ∀ (s : Shared) (H : Hp) (C : Addr) (cl : List (Str × Addr)) (fp : List Addr), PTs (X.blk s H scope (compEnvC scope cl C X.env) fp) ifs (tHT X.gx (fun _ _ _ _ => False) ft))
    (he : ∀ (s : Shared) (H : Hp) (C : Addr) (cl : List (Str × Addr)) (fp : List Addr), PE (X.blk s H scope (compEnvC scope cl C X.env) fp) elt (tH X.gx (fun _ _ _ _ => False) fe)) (hs : ∀ x, foldedSetIterable iter X.env x = pure x := by intro _; rfl) :
    HE X X.gx Ww (.ListComp elt [⟨tg, iter, ifs, 0⟩] scope pos) (hLc src i ft fe) := pe_conseq (pe_lc (own := [(x, i)]) hc hN hi ok hg ht he hs) fun σ H Q q => by
  obtain ⟨S, M, δ, rfl, ok, r, hf⟩ := q
  exact ⟨S, M, δ, rfl, ok, r, hf.go fun nxt M1 S1 x1 ok1 h1 J sr => lc_run ok1 (r.mono x1) sr h1⟩
theorem hs_setLcQ {i j : Nat} {y x : Str} {py spos : Pos} {elt tg iter : Expr} {ifs : List Expr} {scope : Scope} {src : Env → List Cell → Rr Nxt} {ft : FT} {fe : FH} (hc : X.calm = true) (hN : X.N.Nodup) (hy : X.N[j]? = some y) (hyl : X.env.scope.names.lookup y = some .local)
    (hsw : swapsWith (.ListComp elt [⟨tg, iter, ifs, 0⟩] scope pos) (some (.Name y py)) spos.line X.env = pure true) (hi : PI X tg iter (tSrc X.gx Ww src)) (ok : BlkOk X.N X.env.scope scope [(x, i)])
    (hg : ∀ (s : Shared) (H : Hp) (C : Addr) (cl : List (Str × Addr)) (fp : List Addr), PG (X.blk s H scope (compEnvC scope cl C X.env) fp) tg (gName i)) (ht : ∀ (s : Shared) (H : Hp) (C : Addr) (cl : List (Str × Addr)) (fp : List Addr), PTs (X.blk s H scope (compEnvC scope cl C X.env) fp) ifs (tHT X.gx (fun _ _ _ _ => False) ft))
    (he : ∀ (s : Shared) (H : Hp) (C : Addr) (cl : List (Str × Addr)) (fp : List Addr), PE (X.blk s H scope (compEnvC scope cl C X.env) fp) elt (tH X.gx (fun _ _ _ _ => False) fe)) (hs : ∀ x, foldedSetIterable iter X.env x = pure x := by intro _; rfl) :
    HS X X.gx Ww (.Assign [.Name y py] (.ListComp elt [⟨tg, iter, ifs, 0⟩] scope pos) spos) (sSet j (hLc src i ft fe)) :=
  ps_conseq (ps_setLc (own := [(x, i)]) (i := j) hc hN hy hyl hsw hi ok hg ht he hs) fun Dn σ H h => by
    obtain ⟨S, M, δ, rfl, ok, r, hf⟩ := set_run h
    exact ⟨S, M, δ, rfl, ok, r, hf.go fun nxt M1 S1 x1 ok1 h1 J sr => lc_run ok1 (r.mono x1) sr h1⟩
theorem hts_nil : PTs X [] (tHT G Ww (fun _ M => some (.ok true M))) := by
  refine ⟨fun pins s σ H Q I h => pts_nil.run pins s σ H Q I ?_⟩
  obtain ⟨S, M, δ, rfl, ok, r, hf⟩ := h
  exact hf.here ok
theorem hts_one {ft : FT} (h : HT X G Ww c ft) : PTs X [c] (tHT G Ww ft) := pts_one h
/-- the keys of a dict that is a cell; it is locked meanwhile -/
def lckGo (f : FH) (i : Nat) (ft : FT) (fe : FH) (δ : Env) (n : Nat) (kvs : List (Str × W)) (M : List Cell) : Rr W := bnd (nr (f δ (M.set n .dead))) fun w M1 => match w with
  | .l n' => if n' = n then bnd (nr (lcGo (nxtD (kvs.map fun kv => .str kv.1)) i ft fe M1.length (δ.set i none) lim 0 (M1 ++ [.lst []]))) fun r M2 => some (.ok r (M2.set n (.dct kvs))) else none
  | _ => none
def hLcK (f : FH) (i : Nat) (ft : FT) (fe : FH) : FH := fun δ M => match f δ M with
  | some (.ok (.l n) _) => (match M[n]? with
    | some (.dct kvs) => lckGo f i ft fe δ n kvs M
    | _ => none)
  | _ => none
theorem unlock {S S0 S3 : Sm} {M2 : List Cell} {n : Nat} {d : Addr} {od : Obj} {xs : List (Key × V)} {kvs : List (Str × W)} (hd : S.L[n]? = some d) (hD : S.H d = some (.dK xs)) (rk : RwK G S kvs xs) (e0 : S0 = ⟨S.Z, upd S.H d (.frz od (.dK xs)), S.L⟩) (x : Le S0 S3) (ok3 : OkS G S3 M2) :
    S3.H d = some (.frz od (.dK xs)) ∧ Le S ⟨S3.Z, upd S3.H d (.dK xs), S3.L⟩ ∧ OkS G ⟨S3.Z, upd S3.H d (.dK xs), S3.L⟩ (M2.set n (.dct kvs)) := by
  subst e0
  have hm : d ∈ S.L := List.mem_of_getElem? hd
  have hk := x.k d od (.dK xs) upd_same
  have hd3 : S3.L[n]? = some d := x.at hd
  have hm3 : d ∈ S3.L := List.mem_of_getElem? hd3
  have old : ∀ b, b ≠ d → upd S.H d (.frz od (.dK xs)) b = S.H b := fun b h => upd_ne h
  have gr : Gr S ⟨S3.Z, upd S3.H d (.dK xs), S3.L⟩ := ⟨x.z, x.l⟩
  refine ⟨hk, ⟨x.z, x.l, fun b o h hb => ?_, fun b h => ?_, fun b h => ?_, fun b h1 h2 h3 => ?_, fun b o u h => ?_⟩, fun b u h => ?_, ok3.nd, by rw [List.length_set]; exact ok3.len, ok3.zn, fun m a c h1 h2 => ?_⟩
  · have ne : b ≠ d := fun e => hb (e ▸ hm)
    show upd S3.H d _ b = _
    rw [upd_ne ne]
    exact x.f b o ((old b ne).trans h) hb
  · rcases x.n b h with h | h
    · exact .inl h
    · right
      have ne : b ≠ d := fun e => by subst e; have h : upd S.H b _ b = none := h; rw [upd_same] at h; cases h
      exact (old b ne).symm.trans h
  · show upd S3.H d _ b ≠ none
    by_cases e : b = d
    · subst e; rw [upd_same]; simp
    · rw [upd_ne e]; exact x.t b (fun q => h ((old b e).symm.trans q))
  · have ne : b ≠ d := fun e => h3 (e ▸ hm)
    exact x.c b h1 (fun q => h2 ((old b ne).symm.trans q)) h3
  · have ne : b ≠ d := fun e => by subst e; rw [hD] at h; cases h
    show upd S3.H d _ b = _
    rw [upd_ne ne]
    exact x.k b o u ((old b ne).trans h)
  · show upd S3.H d _ b = _
    rw [upd_ne (fun e => by subst e; have h : S3.Z b = some u := h; rw [ok3.zn b hm3] at h; cases h)]
    exact ok3.zh b u h
  · have h1 : S3.L[m]? = some a := h1
    by_cases e : m = n
    · subst e
      rw [hd3] at h1
      cases h1
      have hl : m < M2.length := by
        have := (List.getElem?_eq_some_iff.mp h2).1
        simpa using this
      rw [List.getElem?_set_self hl] at h2
      cases h2
      exact ⟨xs, upd_same, rk.gr gr⟩
    · rw [List.getElem?_set_ne (Ne.symm e)] at h2
      have ne : a ≠ d := fun q => by
        subst q
        have l1 := (List.getElem?_eq_some_iff.mp h1).1
        exact e ((List.getElem?_inj l1 ok3.nd).mp (h1.trans hd3.symm))
      have g3 : Gr S3 ⟨S3.Z, upd S3.H d (.dK xs), S3.L⟩ := ⟨Same.refl _, ⟨[], by simp⟩⟩
      exact (ok3.cell m a c h1 h2).tr g3 fun o q => by show upd S3.H d _ a = _; rw [upd_ne ne]; exact q
theorem he_lcK {elt tg iter : Expr} {ifs : List Expr} {scope : Scope} {x : Str} {i : Nat} {f : FH} {ft : FT} {fe : FH} (hc : X.calm = true) (hN : X.N.Nodup) (hi : HE X X.gx (fun _ _ _ _ => False) iter f) (ok : BlkOk X.N X.env.scope scope [(x, i)])
    (hg : ∀ (s : Shared) (H : Hp) (C : Addr) (cl : List (Str × Addr)) (fp : List Addr), PG (X.blk s H scope (compEnvC scope cl C X.env) fp) tg (gName i)) (ht : ∀ (s : Shared) (H : Hp) (C : Addr) (cl : List (Str × Addr)) (fp : List Addr), PTs (X.blk s H scope (compEnvC scope cl C X.env) fp) ifs (tHT X.gx (fun _ _ _ _ => False) ft))
    (he : ∀ (s : Shared) (H : Hp) (C : Addr) (cl : List (Str × Addr)) (fp : List Addr), PE (X.blk s H scope (compEnvC scope cl C X.env) fp) elt (tH X.gx (fun _ _ _ _ => False) fe)) (hs : ∀ x, foldedSetIterable iter X.env x = pure x := by intro _; rfl) :
    HE X X.gx Ww (.ListComp elt [⟨tg, iter, ifs, 0⟩] scope pos) (hLcK f i ft fe) := by
  refine pe_conseq (pe_lock (pe_lc (own := [(x, i)]) hc hN (pi_keys (tg := tg) hi) ok hg ht he hs)) fun σ H Q q => ?_
  obtain ⟨S, M, δ, rfl, ok, r, hf⟩ := q
  unfold hLcK at hf
  split at hf
  · rename_i n _ _
    split at hf
    · rename_i kvs hcell
      have hl : n < S.L.length := by rw [ok.len]; exact (List.getElem?_eq_some_iff.mp hcell).1
      have hd : S.L[n]? = some S.L[n] := List.getElem?_eq_getElem hl
      generalize S.L[n] = d at hd
      obtain ⟨xs, hD, rk⟩ := ok.cell n d _ hd hcell
      refine ⟨d, .dK xs, hD, by trivial, fun od => ?_⟩
      obtain ⟨le0, ok0⟩ := ok_set ok hd (nofrzK hD) .dead (.frz od (.dK xs)) fun T gr hT => ⟨_, hT⟩
      have e0 : (⟨S.Z, upd S.H d (.frz od (.dK xs)), S.L⟩ : Sm) = ⟨S.Z, upd S.H d (.frz od (.dK xs)), S.L⟩ := rfl
      generalize hS0 : (⟨S.Z, upd S.H d (.frz od (.dK xs)), S.L⟩ : Sm) = S0 at le0 ok0
      refine ⟨S0, M.set n .dead, δ, by rw [← hS0], ok0, r.mono le0, ?_⟩
      unfold lckGo at hf
      cases hfr : f δ (M.set n .dead) with
      | none => rw [hfr] at hf; exact False.elim hf
      | some o =>
        rw [hfr] at hf
        cases o with
        | rz c M1 => exact False.elim hf
        | ok w M1 =>
          intro S1 x1 ok1 v rv
          cases w with
          | d y => exact False.elim hf
          | x => exact False.elim hf
          | l n' =>
            have hf : Fit X.gx (Wx Ww σ) S (if n' = n then bnd (nr (lcGo (nxtD (kvs.map fun kv => .str kv.1)) i ft fe M1.length (δ.set i none) lim 0 (M1 ++ [.lst []]))) fun r M2 => some (.ok r (M2.set n (.dct kvs))) else none) _ := hf
            by_cases hn : n' = n
            · rw [if_pos hn] at hf
              subst hn
              have hd1 := x1.at (show S0.L[n']? = some d by rw [← hS0]; exact hd)
              obtain ⟨p, g1, rfl⟩ := rv
              rw [hd1] at g1
              cases g1
              have hk1 : S1.H d = some (.frz od (.dK xs)) := x1.k d od (.dK xs) (by rw [← hS0]; exact upd_same)
              have ek : ∀ k : Nat, (kvs.map fun kv => (PyData.str kv.1 : D))[k]? = (kvs[k]?).map fun kv => PyData.str kv.1 := fun k => List.getElem?_map ..
              have gx : ∀ (k : Nat) (d' : D), (kvs.map fun kv => (PyData.str kv.1 : D))[k]? = some d' → ∃ (s : Str) (y : V), d' = .str s ∧ xs[k]? = some (Sum.inr s, y) := fun k d' e => by
                rw [ek] at e
                obtain ⟨kv, h1, rfl⟩ := Option.map_eq_some_iff.mp e
                have : ∀ (ws : List (Str × W)) (vs : List (Key × V)) (k : Nat) (kv : Str × W), RwK X.gx S ws vs → ws[k]? = some kv → ∃ y, vs[k]? = some ((Sum.inr kv.1 : Key), y) := fun ws => by
                  induction ws with
                  | nil => intro vs k kv _ e; simp at e
                  | cons a t ih =>
                    intro vs k kv hh e
                    obtain ⟨a1, a2⟩ := a
                    obtain ⟨v, rr, rfl, q1, q2⟩ := hh
                    cases k with
                    | zero => simp at e; subst e; exact ⟨v, rfl⟩
                    | succ k => obtain ⟨y, hy⟩ := ih rr k kv q2 (by simpa using e); exact ⟨y, by simpa using hy⟩
                obtain ⟨y, hy⟩ := this kvs xs k kv rk h1
                exact ⟨kv.1, y, rfl, hy⟩
              refine ⟨d, od, rfl, .inl ⟨xs, hk1, ?_⟩⟩
              have lx : xs.length = kvs.length := rk.length
              have sr : SrcOk X.gx (Itk d od xs) S1 (nxtD (kvs.map fun kv => .str kv.1)) := by
                refine ⟨fun k S' M' w x' ok' hn => ?_, fun k S' M' w v H' x' ok' hn hy => ?_, fun k S' M' x' ok' hn => ?_⟩
                · obtain ⟨d', e, rfl⟩ := nxtD_some hn
                  obtain ⟨s, y, rfl, hx⟩ := gx k d' e
                  exact ⟨x'.k _ _ _ hk1, (List.getElem?_eq_some_iff.mp hx).1⟩
                · obtain ⟨d', e, rfl⟩ := nxtD_some hn
                  obtain ⟨s, y, rfl, hx⟩ := gx k d' e
                  obtain ⟨rfl, key, y', hx', rfl⟩ := hy
                  rw [hx] at hx'
                  cases hx'
                  exact ⟨S', .refl _, ok', rfl, Rv.str s⟩
                · have hk := nxtD_none hn
                  rw [List.length_map] at hk
                  exact ⟨x'.k _ _ _ hk1, by omega⟩
              refine lc_run (Ww := Ww) (Qv := fun v H' => H' d = some (.frz od (.dK xs)) ∧ Q v (upd H' d (.dK xs))) ok1 ((r.mono le0).mono x1) sr ?_
              cases hgo : lcGo (nxtD (kvs.map fun kv => .str kv.1)) i ft fe M1.length (δ.set i none) lim 0 (M1 ++ [.lst []]) with
              | none => rw [hgo] at hf; exact False.elim hf
              | some o =>
                rw [hgo] at hf
                cases o with
                | rz c M2 => exact False.elim hf
                | ok rr M2 =>
                  intro S3 x3 ok3 v3 rv3
                  obtain ⟨u1, u2, u3⟩ := unlock hd hD rk hS0.symm (x1.trans x3) ok3
                  have g3 : Gr S3 ⟨S3.Z, upd S3.H d (.dK xs), S3.L⟩ := ⟨Same.refl _, ⟨[], by simp⟩⟩
                  exact ⟨u1, hf _ u2 u3 v3 (rv3.gr g3)⟩
            · rw [if_neg hn] at hf; exact False.elim hf
    · exact False.elim hf
  · exact False.elim hf
end
end Q

set_option Elab.async false
set_option linter.all false
set_option maxRecDepth 100000
set_option maxHeartbeats 4000000
/-! Defs, methods, classes as functions over the store; what is pure among them; the law. -/
namespace Q
open PySem PySem.Spec PyProof.Rows L2 Pd
def startQ (n : Nat) (ws : List W) : Env := ws.map some ++ List.replicate (n - ws.length) none
def runQ (n np : Nat) (g : GQ) : FHF := fun ws M => if ws.length = np then match g (startQ n ws) M with
  | some (.rt w M') => some (.ok w M')
  | some (.nx _ M') => some (.ok (.d .none) M')
  | some (.rz c _ M') => some (.rz c M')
  | _ => none
  else none
theorem start_rq {G : Gx} {S : Sm} {N : List Str} {vs : List V} {ws : List W} (h : RwL G S ws vs) (hn : ws.length ≤ N.length) : RH G S (L2.start N vs) (startQ N.length ws) := by
  have hl := h.length
  refine ⟨?_, fun i w e => ?_⟩
  · unfold L2.start startQ
    simp [hl]
  · unfold startQ at e
    unfold L2.start
    by_cases hi : i < ws.length
    · rw [List.getElem?_append_left (by simpa using hi), List.getElem?_map, List.getElem?_eq_getElem hi] at e
      cases e
      obtain ⟨v, h1, h2⟩ := h.get (List.getElem?_eq_getElem hi)
      exact ⟨v, by rw [List.getElem?_append_left (by simp; omega), List.getElem?_map, h1]; rfl, h2⟩
    · rw [List.getElem?_append_right (by simp; omega), List.length_map, List.getElem?_replicate] at e
      split at e <;> cases e
abbrev wE (E : XK) : WX := fun cls d _ H => E cls d H
theorem fn_q {P : Program} {w : World} {K : PySem.W.Frag} {mg : Str → Option Value} {base : Heap} {x qual : Str} {st : Stmt} {fa : Addr} {fd : FuncData} {N ps : List Str} {k : Nat} {g : GQ} (F : Fun K x qual st fa fd) (Sc : FnScope N ps (defScope st)) (hle : ps.length ≤ N.length)
    (hbody : ∀ (cdv : Value) (A : Around) (outer : List PySem.Env) (s : Shared) (H : Hp) (E : XK), Room k (A.deeper (envOfC qual (defScope st) s.heap.objs.size fa cdv)) →
      Takes (cxOf (L2.CX P w) P w K mg base N qual (defScope st) fa cdv A outer s H E) (wE E) →
      PassesOwn (model P w) (cxOf (L2.CX P w) P w K mg base N qual (defScope st) fa cdv A outer s H E).A (cxOf (L2.CX P w) P w K mg base N qual (defScope st) fa cdv A outer s H E).env (cxOf (L2.CX P w) P w K mg base N qual (defScope st) fa cdv A outer s H E).xe →
      HB (cxOf (L2.CX P w) P w K mg base N qual (defScope st) fa cdv A outer s H E) ⟨K, mg, none⟩ (wE E) (defBody st) g) :
    FnOk P w K mg base (L2.CX P w) (k + 1) fa fd ps (spQ ⟨K, mg, none⟩ (runQ N.length ps.length g)) := by
  refine F.okX Sc (fun vs H Q E h => ?_) (fun cdv A outer s H vs Q E hr h => ?_)
  · obtain ⟨S, M, ws, rfl, ok, rl, hf⟩ := h
    unfold runQ at hf
    split at hf
    · rename_i hz
      rw [rl.length, hz]
    · exact False.elim hf
  · refine ⟨_, hbody cdv A outer s H E hr (takes_of rfl rfl rfl rfl) (passes_of rfl), ?_⟩
    obtain ⟨S, M, ws, rfl, ok, rl, hf⟩ := h
    unfold runQ at hf
    split at hf
    · rename_i hz
      have r0 := start_rq (N := N) rl (by omega)
      refine ⟨S, M, _, rfl, ok, r0, ?_⟩
      cases hg : g (startQ N.length ws) M with
      | none => rw [hg] at hf; exact False.elim hf
      | some out =>
        rw [hg] at hf
        cases out with
        | rt w' M1 => exact fun v S' x' ok' r' => hf S' x' ok' v r'
        | nx δ' M1 => exact fun σ' S' x' ok' _ => hf S' x' ok' .non Rv.non
        | rz c δ' M1 => exact fun σ' S' C x' ok' _ mc => hf S' C x' ok' mc
        | bk δ' M1 => exact False.elim hf
        | ct δ' M1 => exact False.elim hf
    · exact False.elim hf
section
variable {P : Program} {w : World} {K : PySem.W.Frag} {mg : Str → Option Value} {base : Heap} {x c m qual : Str} {st : Stmt} {N ps : List Str} {k n np : Nat} {g : GQ}
/-- the method m of the class c stands there -/
def Dm (K : PySem.W.Frag) (mg : Str → Option Value) (c m qual : Str) (st : Stmt) (ps : List Str) : Prop :=
  ∃ (C fa : Addr) (fd : FuncData), KC K mg c C ∧ Meth K C m fa ∧ Fun K m qual st fa fd ∧ Binds K fd ps []
/-- the class c stands there, with its __init__ -/
def Dk (K : PySem.W.Frag) (mg : Str → Option Value) (c qual : Str) (st : Stmt) (ps : List Str) : Prop :=
  ∃ (C fa : Addr) (fd : FuncData), KC K mg c C ∧ Mk K C fa ∧ Fun K "__init__" qual st fa fd ∧ Binds K fd ps []
theorem fq_of (d : Df K mg x st ps) (Sc : FnScope N ps (defScope st)) (hn : N.length = n) (hp : ps.length = np) (hle : np ≤ n)
    (hbody : ∀ (fa : Addr) (cdv : Value) (A : Around) (outer : List PySem.Env) (s : Shared) (H : Hp) (E : XK), Room k (A.deeper (envOfC x (defScope st) s.heap.objs.size fa cdv)) →
      Takes (cxOf (L2.CX P w) P w K mg base N x (defScope st) fa cdv A outer s H E) (wE E) →
      PassesOwn (model P w) (cxOf (L2.CX P w) P w K mg base N x (defScope st) fa cdv A outer s H E).A (cxOf (L2.CX P w) P w K mg base N x (defScope st) fa cdv A outer s H E).env (cxOf (L2.CX P w) P w K mg base N x (defScope st) fa cdv A outer s H E).xe →
      HB (cxOf (L2.CX P w) P w K mg base N x (defScope st) fa cdv A outer s H E) ⟨K, mg, none⟩ (wE E) (defBody st) g) : Fq P w K mg base x ps (k + 1) (runQ n np g) := by
  subst hn hp
  exact let ⟨fa, fd, F, hm, hb⟩ := d
  ⟨fa, fd, fn_q F Sc hle fun cdv A outer s H E hr tk hp => hbody fa cdv A outer s H E hr tk hp, hm, F.kp, hb, fun_look F⟩
theorem mq_of (d : Dm K mg c m qual st ps) (Sc : FnScope N ps (defScope st)) (hn : N.length = n) (hp : ps.length = np) (hle : np ≤ n)
    (hbody : ∀ (fa : Addr) (cdv : Value) (A : Around) (outer : List PySem.Env) (s : Shared) (H : Hp) (E : XK), Room k (A.deeper (envOfC qual (defScope st) s.heap.objs.size fa cdv)) →
      Takes (cxOf (L2.CX P w) P w K mg base N qual (defScope st) fa cdv A outer s H E) (wE E) →
      PassesOwn (model P w) (cxOf (L2.CX P w) P w K mg base N qual (defScope st) fa cdv A outer s H E).A (cxOf (L2.CX P w) P w K mg base N qual (defScope st) fa cdv A outer s H E).env (cxOf (L2.CX P w) P w K mg base N qual (defScope st) fa cdv A outer s H E).xe →
      HB (cxOf (L2.CX P w) P w K mg base N qual (defScope st) fa cdv A outer s H E) ⟨K, mg, none⟩ (wE E) (defBody st) g) : Mq P w K mg base c m ps (k + 1) (runQ n np g) := by
  subst hn hp
  exact let ⟨C, fa, fd, kc, mt, F, hb⟩ := d
  ⟨C, fa, fd, kc, mt, fn_q F Sc hle fun cdv A outer s H E hr tk hp => hbody fa cdv A outer s H E hr tk hp, hb⟩
theorem kq_of (d : Dk K mg c qual st ps) (Sc : FnScope N ps (defScope st)) (hn : N.length = n) (hp : ps.length = np) (hle : np ≤ n)
    (hbody : ∀ (fa : Addr) (cdv : Value) (A : Around) (outer : List PySem.Env) (s : Shared) (H : Hp) (E : XK), Room k (A.deeper (envOfC qual (defScope st) s.heap.objs.size fa cdv)) →
      Takes (cxOf (L2.CX P w) P w K mg base N qual (defScope st) fa cdv A outer s H E) (wE E) →
      PassesOwn (model P w) (cxOf (L2.CX P w) P w K mg base N qual (defScope st) fa cdv A outer s H E).A (cxOf (L2.CX P w) P w K mg base N qual (defScope st) fa cdv A outer s H E).env (cxOf (L2.CX P w) P w K mg base N qual (defScope st) fa cdv A outer s H E).xe →
      HB (cxOf (L2.CX P w) P w K mg base N qual (defScope st) fa cdv A outer s H E) ⟨K, mg, none⟩ (wE E) (defBody st) g) : Kq P w K mg base c ps (k + 1) (runQ n np g) := by
  subst hn hp
  exact let ⟨C, fa, fd, kc, mt, F, hb⟩ := d
  ⟨C, fa, fd, kc, mt, fn_q F Sc hle fun cdv A outer s H E hr tk hp => hbody fa cdv A outer s H E hr tk hp, hb⟩
theorem fn_q0 {fa : Addr} {fd : FuncData} : FnOk P w K mg base (L2.CX P w) k fa fd ps (spQ ⟨K, mg, none⟩ fun _ _ => none) := by
  have no : ∀ vs H Q E, ¬ spQ ⟨K, mg, none⟩ (fun _ _ => none) vs H Q E := fun vs H Q E h => by
    obtain ⟨_, _, _, _, _, _, hf⟩ := h
    exact hf
  exact ⟨fun vs H Q E h => absurd h (no vs H Q E), fun A outer s H args us vs Q E _ _ _ _ h => absurd h (no vs H Q E)⟩
theorem fq_none (d : Df K mg x st ps) : Fq P w K mg base x ps k fun _ _ => none :=
  let ⟨fa, fd, F, hm, hb⟩ := d
  ⟨fa, fd, fn_q0, hm, F.kp, hb, fun_look F⟩
theorem mq_none (d : Dm K mg c m qual st ps) : Mq P w K mg base c m ps k fun _ _ => none :=
  let ⟨C, fa, fd, kc, mt, F, hb⟩ := d
  ⟨C, fa, fd, kc, mt, fn_q0, hb⟩
/-- data in, data out -/
def pureQ (F : FHF) : List D → Option D := fun ds => match F (ds.map .d) [] with
  | some (.ok w M) => fzW 9 M w
  | _ => none
theorem pureq_imp {F : FHF} : ∀ vs H Q E, spP K (pureQ F) vs H Q E → spQ ⟨K, mg, none⟩ F vs H Q (fun _ _ _ => False) := by
  rintro vs H Q E ⟨S, ds, d, rfl, r, hf, q⟩
  unfold pureQ at hf
  split at hf
  · rename_i w M' h1
    refine ⟨⟨S.Z, S.H, []⟩, [], ds.map .d, rfl, ⟨S.ok, List.nodup_nil, rfl, fun a h => (by cases h), fun n a c h => (by cases h)⟩, RwL.ofD (G := ⟨K, mg, none⟩) r, ?_⟩
    rw [h1]
    intro S' x ok v rv
    refine q v ⟨Zc S', S'.H, zc_ok ok.zh⟩ ⟨fun b o e => zc_of b o (x.z b o e), fun b o e => x.f b o e (by simp), fun b g1 g2 => ?_⟩ (fz_rv ok 9 w v d rv hf)
    show Zc S' b = none
    unfold Zc
    rw [x.c b g1 g2 (by simp)]
    show (if b ∈ S'.L then S'.H b else none) = none
    rw [if_neg]
    intro hm
    rcases x.n b hm with g | g
    · cases g
    · exact g2 g
  · cases hf
theorem fn_calm {fa : Addr} {fd : FuncData} {sp sp' : Sp} (F : FnOk P w K mg base (L2.CX P w) k fa fd ps sp) (h : ∀ vs H Q E, sp' vs H Q E → sp vs H Q fun _ _ _ => False) : FnOk P w K mg base CX0 k fa fd ps sp' := by
  refine ⟨fun vs H Q E hs => F.len _ _ _ _ (h vs H Q E hs), fun A outer s H args us vs Q E hr e0 hb hv hs => ?_⟩
  refine codeAny_mono (F.run A outer s H args us vs Q (fun _ _ _ => False) hr e0 hb hv (h vs H Q E hs)) fun r s' hq => ?_
  cases r with
  | ok fl => cases fl <;> exact hq
  | error e =>
    obtain ⟨_, _, _, _, _, _, _, _, _, _, _, _, hf⟩ := hq
    exact False.elim hf
theorem fx_calm {F : FHF} (cx : Fq P w K mg base x ps k F) : Fx P w K mg base x ps k (pureQ F) :=
  let ⟨fa, fd, FF, hm, kp, hb, lk⟩ := cx
  ⟨fa, fd, fn_calm FF pureq_imp, hm, kp, hb, lk⟩
/-- the law: True of every script -/
theorem lawq_imp {F : FHF} (hF : ∀ ns : List Int, ns.length ≤ 63 → ∃ M, F [.d (.list (ns.map PyData.int))] [] = some (.ok (.d (.bool true)) M)) : ∀ vs H Q E, spLaw K vs H Q E → spQ ⟨K, mg, none⟩ F vs H Q fun _ _ _ => False := by
  rintro vs H Q E h
  refine pureq_imp _ _ _ E (law_imp (F := pureQ F) (fun ns hl => ?_) vs H Q E h)
  obtain ⟨M, e⟩ := hF ns hl
  unfold pureQ
  rw [show ([PyData.list (ns.map PyData.int)].map W.d) = [.d (.list (ns.map PyData.int))] from rfl, e]
  rfl
end
end Q

set_option Elab.async false
set_option linter.all false
set_option maxRecDepth 100000
set_option maxHeartbeats 4000000
/-! and, or, not as values; operators that look at cells and give scalars. -/
namespace Q
open PySem PySem.Spec PyProof.Rows L2 Pd
section
variable {X : Cx} {G : Gx} {Ww : WX} {a b c e : Expr} {pos : Pos}
def hAnd (fa fb : FH) : FH := fun δ M => bnd (fa δ M) fun x M1 => match x with
  | .d (.bool true) => fb δ M1
  | .d (.bool false) => some (.ok (.d (.bool false)) M1)
  | _ => none
def hOr (fa fb : FH) : FH := fun δ M => bnd (fa δ M) fun x M1 => match x with
  | .d (.bool true) => some (.ok (.d (.bool true)) M1)
  | .d (.bool false) => fb δ M1
  | _ => none
theorem he_one {o : BoolOp} {f : FH} (h : HE X G Ww a f) : HE X G Ww (.BoolOp o [a] pos) f := pe_one h
theorem he_and {rest : List Expr} {fa fb : FH} (ha : HE X G Ww a fa) (hb : HE X G Ww (.BoolOp .And (b :: rest) pos) fb) : HE X G Ww (.BoolOp .And (a :: b :: rest) pos) (hAnd fa fb) := by
  refine pe_conseq (pe_and ha hb) fun σ H Q h => ?_
  obtain ⟨S, M, δ, rfl, ok, r, hf⟩ := h
  refine ⟨S, M, δ, rfl, ok, r, hf.go fun x M1 S1 x1 ok1 h1 v rv => ?_⟩
  cases x with
  | l n => exact False.elim h1
  | x => exact False.elim h1
  | d x =>
    cases x with
    | bool k =>
      cases rv
      refine ⟨k, rfl, ?_⟩
      cases k with
      | true => rw [if_pos rfl]; exact ⟨S1, M1, δ, rfl, ok1, r.mono x1, h1⟩
      | false => rw [if_neg (by decide)]; exact h1.here ok1 _ (.bl _)
    | _ => exact False.elim h1
theorem he_or {rest : List Expr} {fa fb : FH} (ha : HE X G Ww a fa) (hb : HE X G Ww (.BoolOp .Or (b :: rest) pos) fb) : HE X G Ww (.BoolOp .Or (a :: b :: rest) pos) (hOr fa fb) := by
  refine pe_conseq (pe_or ha hb) fun σ H Q h => ?_
  obtain ⟨S, M, δ, rfl, ok, r, hf⟩ := h
  refine ⟨S, M, δ, rfl, ok, r, hf.go fun x M1 S1 x1 ok1 h1 v rv => ?_⟩
  cases x with
  | l n => exact False.elim h1
  | x => exact False.elim h1
  | d x =>
    cases x with
    | bool k =>
      cases rv
      refine ⟨k, rfl, ?_⟩
      cases k with
      | true => rw [if_pos rfl]; exact h1.here ok1 _ (.bl _)
      | false => rw [if_neg (by decide)]; exact ⟨S1, M1, δ, rfl, ok1, r.mono x1, h1⟩
    | _ => exact False.elim h1
def notW (x : W) (M : List Cell) : Rr W := match x with
  | .d (.bool k) => some (.ok (.d (.bool (!k))) M)
  | _ => none
def hNot (f : FH) : FH := fun δ M => bnd (f δ M) notW
theorem he_not {f : FH} (h : HE X G Ww e f) : HE X G Ww (.UnaryOp .Not e pos) (hNot f) := pe_conseq (pe_not h) fun σ H Q q => by
  obtain ⟨S, M, δ, rfl, ok, r, hf⟩ := q
  refine ⟨S, M, δ, rfl, ok, r, hf.go fun x M1 S1 x1 ok1 h1 v rv => ?_⟩
  cases x with
  | l n => exact False.elim h1
  | x => exact False.elim h1
  | d x =>
    cases x with
    | bool k => cases rv; exact ⟨k, rfl, h1.here ok1 _ (.bl _)⟩
    | _ => exact False.elim h1
/-! ### operators over cells, scalars out -/
def op2v (g : D → D → Option D) (x y : W) (M : List Cell) : Rr W := ofO (((fzW 9 M x).bind fun dx => (fzW 9 M y).bind fun dy => (g dx dy).bind scalK).map .d) M
def h2v (g : D → D → Option D) (fa fb : FH) : FH := fun δ M => bnd (fa δ M) fun x M1 => bnd (fb δ M1) fun y M2 => op2v g x y M2
theorem h2v_run {g : D → D → Option D} {fa fb : FH} {σ : L2.St} {H : Hp} {Q : VK} (h : tH X.gx Ww (h2v g fa fb) σ H Q) : tOp (rD2 X.K g) (tH X.gx Ww fa) (tH X.gx Ww fb) σ H Q := by
  obtain ⟨S, M, δ, rfl, ok, r, hf⟩ := h
  refine ⟨S, M, δ, rfl, ok, r, hf.go fun x M1 S1 x1 ok1 h1 v rv => ?_⟩
  refine ⟨S1, M1, δ, rfl, ok1, r.mono x1, h1.go fun y M2 S2 x2 ok2 h2 u ru => ?_⟩
  have rv := rv.mono x2
  obtain ⟨w, hw, h2⟩ := fit_ofO (show Fit X.gx _ S2 (ofO _ M2) _ from h2)
  obtain ⟨d, hd, rfl⟩ := Option.map_eq_some_iff.mp hw
  obtain ⟨dx, ex, hd⟩ := Option.bind_eq_some_iff.mp hd
  obtain ⟨dy, ey, hd⟩ := Option.bind_eq_some_iff.mp hd
  obtain ⟨d1, e1, e2'⟩ := Option.bind_eq_some_iff.mp hd
  refine ⟨⟨Zc S2, S2.H, zc_ok ok2.zh⟩, dx, dy, d1, rfl, fz_rv ok2 9 x v dx rv ex, fz_rv ok2 9 y u dy ru ey, e1, fun z T xx rz => ?_⟩
  obtain ⟨le, ok'⟩ := unview ok2 xx
  exact h2 ⟨S2.Z, T.H, S2.L⟩ le ok' z (scal_rv e2' rz)
theorem he_cmpv {op : CmpOp} {g : D → D → Option D} {fa fb : FH} (ho : OpD X (compareOp op) g) (ha : HE X X.gx Ww a fa) (hb : HE X X.gx Ww b fb) (hm : behindInMarks op b = false := by rfl) : HE X X.gx Ww (.Compare a [op] [b] pos) (h2v g fa fb) := pe_conseq (pe_cmpR ho ha hb hm) fun _ _ _ h => h2v_run h
theorem ht_cmpv {op : CmpOp} {g : D → D → Option D} {fa fb : FH} (ho : OpD X (compareOp op) g) (ha : HE X X.gx Ww a fa) (hb : HE X X.gx Ww b fb) (hm : behindInMarks op b = false := by rfl) : HT X X.gx Ww (.Compare a [op] [b] pos) (tE (h2v g fa fb)) :=
  pt_conseq (pt_cmpR ho ha hb hm) fun σ H Q h => by
    obtain ⟨S, M, δ, rfl, ok, r, hf⟩ := h
    refine h2v_run (Q := fun x H' => ∃ k, x = .bl k ∧ Q k H') ⟨S, M, δ, rfl, ok, r, hf.go fun w M1 S1 x1 ok1 h1 v rv => ?_⟩
    cases w with
    | l n => exact False.elim h1
    | x => exact False.elim h1
    | d y =>
      cases y with
      | bool k => cases rv; exact ⟨k, rfl, h1.here ok1⟩
      | _ => exact False.elim h1
end
end Q

set_option Elab.async false
set_option linter.all false
set_option maxRecDepth 100000
set_option maxHeartbeats 4000000
/-! Tuples that hold cells; dict(..) of a list of pairs. -/
namespace Q
open PySem PySem.Spec PyProof.Rows L2 Pd
section
variable {X : Cx} {G : Gx} {Ww : WX} {a b c e : Expr} {es : List Expr} {pos p : Pos}
def hTupC (g : FHA) : FH := fun δ M => bnd (g δ M) fun ws M1 => if ws.length ≤ lim then some (.ok (.l M1.length) (M1 ++ [.tup ws])) else none
theorem he_tupC {g : FHA} {k : Nat} (h : HA X X.gx Ww es g) : HE X X.gx Ww (.Tuple es k pos) (hTupC g) := pe_conseq (pe_tupN h) fun σ H Q h => by
  obtain ⟨S, M, δ, rfl, ok, r, hf⟩ := h
  refine ⟨S, M, δ, rfl, ok, r, hf.go fun ws M1 S1 x1 ok1 h1 vs rvs => ?_⟩
  split at h1
  · rename_i hz
    refine ⟨by rw [rvs.length]; exact Nat.le_trans hz lim_line, fun p o hp ho => ?_⟩
    obtain ⟨le, ok2⟩ := ok_new ok1 hp (.tup ws) (.frz o (.tup vs)) fun T gr hT => ⟨o, vs, hT, rvs.gr gr⟩
    exact h1.at le ok2 (.ref p) (new_at ok1 p _ _)
  · exact False.elim h1
def pairW (M : List Cell) : W → Option (Str × W)
  | .d (.tuple [.str k, v]) => some (k, .d v)
  | .l n => match M[n]? with
    | some (.tup [.d (.str k), w]) => some (k, w)
    | _ => none
  | _ => none
def mergeW (kvs : List (Str × W)) : List (Str × W) := kvs.foldl (fun acc kv => putD kv.1 kv.2 acc) []
def dictW : List W → List Cell → Rr W
  | [.l n], M => match M[n]? with
    | some (.lst ws) => (oAll (pairW M) ws).bind fun kvs => some (.ok (.l M.length) (M ++ [.dct (mergeW kvs)]))
    | _ => none
  | _, _ => none
def hDictP (g : FHA) : FH := fun δ M => bnd (g δ M) dictW
theorem pairs_rw {S : Sm} {M : List Cell} (ok : OkS G S M) : ∀ {ws : List W} {vs : List V} {kvs : List (Str × W)}, RwL G S ws vs → oAll (pairW M) ws = some kvs → ∃ (ps : List Addr) (xs : List (Key × V)), vs = ps.map V.ref ∧ Paired (fun p kv => SqT G.K S.H p [kV kv.1, kv.2]) ps xs ∧ RwK G S kvs xs
  | [], _, _, h, e => by cases h; cases e; exact ⟨[], [], rfl, .nil, rfl⟩
  | w :: ws, _, _, h, e => by
    obtain ⟨v, r, rfl, h1, h2⟩ := h
    obtain ⟨⟨k, y⟩, e1, e⟩ := Option.bind_eq_some_iff.mp e
    obtain ⟨kvs', e2', e⟩ := Option.bind_eq_some_iff.mp e
    cases e
    obtain ⟨ps, xs, rfl, g1, g2⟩ := pairs_rw ok h2 e2'
    have one : ∃ (p : Addr) (z : V), v = .ref p ∧ SqT G.K S.H p [.str k, z] ∧ Rw G S y z := by
      cases w with
      | x => cases e1
      | d d =>
        unfold pairW at e1
        split at e1
        · rename_i k' v' heq
          cases e1
          cases heq
          cases h1 with
          | tup a1 b1 =>
            cases b1 with
            | cons c1 c2 =>
              cases c2 with
              | cons c3 c4 =>
                cases c4
                cases c1
                exact ⟨_, _, rfl, sqt_mono ok.zh a1, c3⟩
        · rename_i heq; cases heq
        · cases e1
      | l n =>
        have e1 : (match M[n]? with | some (.tup [.d (.str k), w]) => some (k, w) | _ => none) = some (k, y) := e1
        split at e1
        · rename_i k' w' hc
          cases e1
          obtain ⟨p, g1, rfl⟩ := h1
          obtain ⟨o, vs, q1, q2⟩ := ok.cell n p _ g1 hc
          obtain ⟨v1, r1, rfl, q3, q4⟩ := q2
          obtain ⟨v2, r2, rfl, q5, q6⟩ := q4
          cases q6
          cases q3
          exact ⟨p, v2, rfl, .inl (.inr ⟨o, q1⟩), q5⟩
        · cases e1
    obtain ⟨p, z, rfl, z1, z2⟩ := one
    exact ⟨p :: ps, (Sum.inr k, z) :: xs, rfl, .cons z1 g1, z, xs, rfl, z2, g2⟩
theorem merge_rw {S : Sm} : ∀ {kvs : List (Str × W)} {xs : List (Key × V)} {acc : List (Str × W)} {ys : List (Key × V)}, RwK G S kvs xs → RwK G S acc ys → RwK G S (kvs.foldl (fun acc kv => putD kv.1 kv.2 acc) acc) (xs.foldl (fun acc kv => putK acc kv.1 kv.2) ys)
  | [], _, _, _, h, g => by cases h; exact g
  | (k, w) :: kvs, _, acc, ys, h, g => by
    obtain ⟨v, r, rfl, h1, h2⟩ := h
    exact merge_rw (kvs := kvs) (xs := r) (acc := putD k w acc) (ys := putK ys (Sum.inr k) v) h2 (putK_rw g h1)
theorem he_dictP {g : FHA} (hc : X.calm = true) (hg : Gl X "dict") (hm : X.mg "dict" = none) (ha : HA X X.gx Ww [e] g) (he : starEach [e] X.env = (false, eval e X.env) :: starEach [] X.env := by rfl) (hpl : (backTo pos (starEach [] X.env)).any (·.1) = false := by rfl) : HE X X.gx Ww (.Call (.Name "dict" p) [e] [] pos) (hDictP g) := by
  refine pe_conseq (pe_callTy (call_dictP hc) hg hm (by decide +kernel) ha (he := he) (hpl := hpl)) fun σ H Q h => ?_
  obtain ⟨S, M, δ, rfl, ok, r, hf⟩ := h
  refine ⟨S, M, δ, rfl, ok, r, hf.go fun ws M1 S1 x1 ok1 h1 vs rvs => ?_⟩
  unfold dictW at h1
  split at h1
  · rename_i n
    split at h1
    · rename_i us hc1
      obtain ⟨v, r1, rfl, ⟨q, g1, rfl⟩, h3⟩ := rvs
      cases h3
      obtain ⟨xs, g2, g3⟩ := ok1.cell n q _ g1 hc1
      cases hp : oAll (pairW M1) us with
      | none => rw [hp] at h1; exact False.elim h1
      | some kvs =>
        rw [hp] at h1
        have h1 : Fit X.gx _ S1 (some (Rs.ok (W.l M1.length) (M1 ++ [.dct (mergeW kvs)]))) _ := h1
        obtain ⟨ps, ys, rfl, k1, k2⟩ := pairs_rw ok1 g3 hp
        refine ⟨q, ps, ys, rfl, .inl (.inl g2), k1, fun l hl => ?_⟩
        obtain ⟨le, ok2⟩ := ok_new ok1 hl (.dct (mergeW kvs)) (.dK (mergeK [] ys)) fun T gr hT => ⟨_, hT, (merge_rw (acc := []) (ys := []) k2 rfl).gr gr⟩
        exact h1.at le ok2 (.ref l) (new_at ok1 l _ _)
    · exact False.elim h1
  · exact False.elim h1
end
end Q

set_option Elab.async false
set_option linter.all false
set_option maxRecDepth 100000
set_option maxHeartbeats 4000000
/-! [x] * n as a cell; a dict written out, that holds cells. -/
namespace Q
open PySem PySem.Spec PyProof.Rows L2 Pd
section
variable {X : Cx} {G : Gx} {Ww : WX} {a b c e : Expr} {pos : Pos}
def repW (x y : W) (M : List Cell) : Rr W := match x, y with
  | .l n, .d (.int k) => (match M[n]? with
    | some (.lst ws) => if 0 ≤ k ∧ k ≤ 1000 ∧ ws.length ≤ 1000 then some (.ok (.l M.length) (M ++ [.lst (List.replicate k.toNat ws).flatten])) else none
    | _ => none)
  | _, _ => none
def hRep (fa fb : FH) : FH := fun δ M => bnd (fa δ M) fun x M1 => bnd (fb δ M1) fun y M2 => repW x y M2
theorem RwL.app {G : Gx} {S : Sm} : ∀ {ws ws' : List W} {vs vs' : List V}, RwL G S ws vs → RwL G S ws' vs' → RwL G S (ws ++ ws') (vs ++ vs')
  | [], ws', vs, vs', h, h' => by cases h; exact h'
  | w :: ws, ws', vs, vs', h, h' => by
    obtain ⟨v, r, rfl, h1, h2⟩ := h
    exact ⟨v, r ++ vs', rfl, h1, RwL.app h2 h'⟩
theorem RwL.rep {G : Gx} {S : Sm} {ws : List W} {vs : List V} (h : RwL G S ws vs) : ∀ n : Nat, RwL G S (List.replicate n ws).flatten (List.replicate n vs).flatten
  | 0 => rfl
  | n + 1 => by
    rw [List.replicate_succ, List.replicate_succ, List.flatten_cons, List.flatten_cons]
    exact h.app (RwL.rep h n)
theorem size_big : (1000 * 1000 : Nat) ≤ sizeLine := by decide
theorem he_rep {fa fb : FH} (ha : HE X X.gx Ww a fa) (hb : HE X X.gx Ww b fb) : HE X X.gx Ww (.BinOp a .Mult b pos) (hRep fa fb) := pe_conseq (pe_op op_rep ha hb) fun σ H Q h => by
  obtain ⟨S, M, δ, rfl, ok, r, hf⟩ := h
  refine ⟨S, M, δ, rfl, ok, r, hf.go fun x M1 S1 x1 ok1 h1 v rv => ?_⟩
  refine ⟨S1, M1, δ, rfl, ok1, r.mono x1, h1.go fun y M2 S2 x2 ok2 h2 u ru => ?_⟩
  have rv := rv.mono x2
  unfold repW at h2
  split at h2
  · rename_i k _
    split at h2
    · rename_i ws hm
      split at h2
      · rename_i hz
        obtain ⟨al, hl, rfl⟩ := rv
        cases ru
        obtain ⟨vs, h3, h4⟩ := ok2.cell _ al _ hl hm
        refine ⟨al, _, vs, rfl, rfl, h3, by omega, by omega, ?_, fun p hp => ?_⟩
        · have := h4.length
          exact Nat.le_trans (Nat.mul_le_mul (show vs.length ≤ 1000 by omega) (show _ ≤ 1000 by omega)) size_big
        · obtain ⟨le, ok3⟩ := ok_new ok2 hp (.lst (List.replicate k.toNat ws).flatten) (.lst (List.replicate k.toNat vs).flatten) fun T gr hT => ⟨_, hT, (h4.gr gr).rep _⟩
          exact h2 _ le ok3 (.ref p) (new_at ok2 p _ _)
      · exact False.elim h2
    · exact False.elim h2
  · exact False.elim h2
/-! ### a dict written out -/
theorem Fit.base {α β : Type} {G : Gx} {Wr : Value → Hp → Prop} {S : Sm} {r : Rr α} {k : α → List Cell → Rr β} {q : β → List Cell → Sm → Prop} (h : Fit G Wr S (bnd r k) q) : Fit G Wr S r fun a M _ => Fit G Wr S (k a M) q := by
  cases r with
  | none => exact h
  | some r =>
    cases r with
    | ok a M => exact fun _ _ _ => h
    | rz c M => exact h
def hMapQ : List (Str × FH) → Env → List Cell → Rr (List (Str × W))
  | [], _, M => some (.ok [] M)
  | (k, f) :: r, δ, M => bnd (f δ M) fun w M1 => bnd (hMapQ r δ M1) fun ws M2 => some (.ok ((k, w) :: ws) M2)
def hDictC (kfs : List (Str × FH)) : FH := fun δ M => bnd (hMapQ kfs δ M) fun kvs M1 => if kfs.length ≤ 15 && decide (kfs.map (·.1)).Nodup then some (.ok (.l M1.length) (M1 ++ [.dct kvs])) else none
def trsQ (G : Gx) (Ww : WX) (kfs : List (Str × FH)) : List (TE × TE) := kfs.map fun kf => (tC (.str kf.1), tH G Ww kf.2)
theorem pairs_runQ {σ : L2.St} {δ : Env} : ∀ {kfs : List (Str × FH)} {S : Sm} {M : List Cell} {Q : List (V × V) → Hp → Prop}, OkS G S M → RH G S σ δ → Fit G (Wx Ww σ) S (hMapQ kfs δ M) (fun ds _ S' => ∀ kvs : List (Key × V), RwK G S' ds kvs → kvs.map (·.1) = kfs.map (fun kf => Sum.inr kf.1) → Q (kvs.map fun kv => (kV kv.1, kv.2)) S'.H) → tPairs (trsQ G Ww kfs) σ S.H Q
  | [], S, M, Q, ok, r, hf => hf.here ok [] rfl rfl
  | (k, f) :: rest, S, M, Q, ok, r, hf => by
    refine ⟨S, M, δ, rfl, ok, r, Fit.go hf fun w M1 S1 x1 ok1 h1 v rv => ?_⟩
    refine pairs_runQ (kfs := rest) ok1 (r.mono x1) (Fit.go h1 fun ws M2 S2 x2 ok2 h2 kvs rk ek => ?_)
    exact h2.here ok2 ((Sum.inr k, v) :: kvs) ⟨v, kvs, rfl, rv.mono x2, rk⟩ (by rw [List.map_cons, List.map_cons, ek])
theorem he_dictC {keys : List (Option Expr)} {values : List Expr} {kfs : List (Str × FH)} (h : PPs X pos keys values (trsQ X.gx Ww kfs)) (hall : keys.all (·.isSome) = true := by rfl) (hl : keys.length = values.length := by rfl) (h0 : keys ≠ [] := by (intro z; cases z)) (h15 : keys.length ≤ 15 := by decide) : HE X X.gx Ww (.Dict keys values pos) (hDictC kfs) := by
  refine pe_conseq (pe_disp h hall hl h0 h15) fun σ H Q h => ?_
  obtain ⟨S, M, δ, rfl, ok, r, hf⟩ := h
  intro p hp
  have zp : S.Z p = none := ok.zh.free hp
  obtain ⟨le0, ok0⟩ := ok_ex ok (T := ⟨S.Z, upd S.H p (.dK []), ok.zh.trans (same_upd hp _)⟩) ⟨Same.refl _, same_upd hp _, fun _ h _ => h⟩
  refine pairs_runQ (S := ⟨S.Z, upd S.H p (.dK []), S.L⟩) ok0 (r.mono le0) (((Fit.base hf).mono le0).imp fun ds M1 S2 x2 ok2 h2 kvs rk ek => ?_)
  split at h2
  · rename_i hz
    rw [Bool.and_eq_true, decide_eq_true_eq, decide_eq_true_eq] at hz
    have nl : p ∉ S.L := not_cell ok hp
    have hp2 : S2.H p = some (.dK []) := x2.f p _ upd_same nl
    have zp2 : S2.Z p = none := x2.c p zp (by show upd S.H p _ p ≠ none; rw [upd_same]; simp) nl
    have np2 : p ∉ S2.L := fun hm => by
      rcases x2.n p hm with g | g
      · exact nl g
      · have g : upd S.H p (.dK []) p = none := g
        rw [upd_same] at g; cases g
    have nd : (kvs.map (·.1)).Nodup := by
      rw [ek]
      have e3 : kfs.map (fun kf => (Sum.inr kf.1 : Key)) = (kfs.map (·.1)).map Sum.inr := by rw [List.map_map]; rfl
      rw [e3]
      exact List.Pairwise.map _ (fun a b hab hc => hab (Sum.inr.inj hc)) hz.2
    have lk : kvs.length = kfs.length := by
      have := congrArg List.length ek
      simpa using this
    refine ⟨hp2, kvs, rfl, by omega, ?_⟩
    have em : mergeK [] kvs = kvs := by rw [mergeK_fresh (by simpa using nd)]; rfl
    rw [em]
    obtain ⟨le3, ok3⟩ := ok_new2 ok2 (le0.trans x2) hp np2 zp2 (.dct ds) (.dK kvs) fun T gr hT => ⟨kvs, hT, rk.gr gr⟩
    exact h2 ⟨S2.Z, upd S2.H p (.dK kvs), S2.L ++ [p]⟩ le3 ok3 (.ref p) (new_at ok2 p _ _)
  · exact False.elim h2
end
end Q

set_option Elab.async false
set_option linter.all false
set_option maxRecDepth 100000
set_option maxHeartbeats 4000000
/-! Lists added as cells; «is None» of anything; pure defs called with cells, scalars out. -/
namespace Q
open PySem PySem.Spec PyProof.Rows L2 Pd
section
variable {X : Cx} {G : Gx} {Ww : WX} {a b c e : Expr} {es : List Expr} {pos : Pos}
def catW (x y : W) (M : List Cell) : Rr W := match x, y with
  | .l n, .l m => (match M[n]?, M[m]? with
    | some (.lst ws), some (.lst zs) => if ws.length + zs.length ≤ 1000000 then some (.ok (.l M.length) (M ++ [.lst (ws ++ zs)])) else none
    | _, _ => none)
  | _, _ => none
def hCat (fa fb : FH) : FH := fun δ M => bnd (fa δ M) fun x M1 => bnd (fb δ M1) fun y M2 => catW x y M2
theorem size_mil : (1000000 : Nat) ≤ sizeLine := by decide
theorem he_cat {fa fb : FH} (ha : HE X X.gx Ww a fa) (hb : HE X X.gx Ww b fb) : HE X X.gx Ww (.BinOp a .Add b pos) (hCat fa fb) := pe_conseq (pe_op op_cat ha hb) fun σ H Q h => by
  obtain ⟨S, M, δ, rfl, ok, r, hf⟩ := h
  refine ⟨S, M, δ, rfl, ok, r, hf.go fun x M1 S1 x1 ok1 h1 v rv => ?_⟩
  refine ⟨S1, M1, δ, rfl, ok1, r.mono x1, h1.go fun y M2 S2 x2 ok2 h2 u ru => ?_⟩
  have rv := rv.mono x2
  unfold catW at h2
  split at h2
  · split at h2
    · rename_i ws zs hm hz
      split at h2
      · rename_i hl
        obtain ⟨al, g1, rfl⟩ := rv
        obtain ⟨bl, g2, rfl⟩ := ru
        obtain ⟨vs, h3, h4⟩ := ok2.cell _ al _ g1 hm
        obtain ⟨us, h5, h6⟩ := ok2.cell _ bl _ g2 hz
        refine ⟨al, bl, vs, us, rfl, rfl, h3, h5, ?_, fun p hp => ?_⟩
        · rw [h4.length, h6.length]
          exact Nat.le_trans hl size_mil
        · obtain ⟨le, ok3⟩ := ok_new ok2 hp (.lst (ws ++ zs)) (.lst (vs ++ us)) fun T gr hT => ⟨_, hT, (h4.gr gr).app (h6.gr gr)⟩
          exact h2 _ le ok3 (.ref p) (new_at ok2 p _ _)
      · exact False.elim h2
    · exact False.elim h2
  · exact False.elim h2
/-! ### is None -/
def noneW : W → Option Bool
  | .d .none => some true
  | .d _ => some false
  | .l _ => some false
  | .x => none
def tNone (neg : Bool) (f : FH) : FT := fun δ M => bnd (f δ M) fun w M1 => ofO ((noneW w).map fun b => if neg then !b else b) M1
theorem noneW_rv {S : Sm} {w : W} {v : V} {k : Bool} (r : Rw G S w v) (h : noneW w = some k) : decide (v = V.non) = k := by
  cases w with
  | l n =>
    cases h
    obtain ⟨al, _, rfl⟩ := r
    exact decide_eq_false (fun q => by cases q)
  | x => cases h
  | d x =>
    cases x with
    | none => cases h; cases r; rfl
    | _ => cases h; cases r <;> exact decide_eq_false (fun q => by cases q)
theorem ht_isNone {f : FH} {j : Nat} {pos' : Pos} (h : HE X X.gx Ww a f) (hm : behindInMarks .Is (.Constant .none j pos') = false := by rfl) : HT X X.gx Ww (.Compare a [.Is] [.Constant .none j pos'] pos) (tNone false f) :=
  pt_conseq (pt_cmpR op_isN h pe_non hm) fun σ H Q h => by
    obtain ⟨S, M, δ, rfl, ok, r, hf⟩ := h
    refine ⟨S, M, δ, rfl, ok, r, hf.go fun w M1 S1 x1 ok1 h1 v rv => ?_⟩
    obtain ⟨k, hk, h2⟩ := fit_ofO h1
    obtain ⟨k', hk', rfl⟩ := Option.map_eq_some_iff.mp hk
    exact ⟨rfl, _, rfl, by rw [noneW_rv rv hk']; exact h2 S1 (.refl S1) ok1⟩
theorem ht_notNone {f : FH} {j : Nat} {pos' : Pos} (h : HE X X.gx Ww a f) (hm : behindInMarks .IsNot (.Constant .none j pos') = false := by rfl) : HT X X.gx Ww (.Compare a [.IsNot] [.Constant .none j pos'] pos) (tNone true f) :=
  pt_conseq (pt_cmpR op_notN h pe_non hm) fun σ H Q h => by
    obtain ⟨S, M, δ, rfl, ok, r, hf⟩ := h
    refine ⟨S, M, δ, rfl, ok, r, hf.go fun w M1 S1 x1 ok1 h1 v rv => ?_⟩
    obtain ⟨k, hk, h2⟩ := fit_ofO h1
    obtain ⟨k', hk', rfl⟩ := Option.map_eq_some_iff.mp hk
    exact ⟨rfl, _, rfl, by rw [noneW_rv rv hk']; exact h2 S1 (.refl S1) ok1⟩
/-! ### a pure def, called with cells -/
def callVW (F : List D → Option D) (ws : List W) (M : List Cell) : Rr W := ofO (((oAll (fzW 9 M) ws).bind fun ds => (F ds).bind scalK).map .d) M
def hCallV (F : List D → Option D) (g : FHA) : FH := fun δ M => bnd (g δ M) fun ws M1 => callVW F ws M1
theorem fz_rvs {S : Sm} {M : List Cell} (ok : OkS G S M) : ∀ (ws : List W) (vs : List V) (ds : List D), RwL G S ws vs → oAll (fzW 9 M) ws = some ds → RvL G.K (Zc S) ds vs
  | [], vs, ds, r, h => by
    cases r
    cases h
    exact .nil
  | w :: ws, vs, ds, r, h => by
    obtain ⟨v, t, rfl, r1, r2⟩ := r
    obtain ⟨d, hd, h⟩ := Option.bind_eq_some_iff.mp (show (fzW 9 M w).bind (fun b => (oAll (fzW 9 M) ws).bind fun bs => some (b :: bs)) = some ds from h)
    obtain ⟨ds', hds, h⟩ := Option.bind_eq_some_iff.mp h
    cases h
    exact .cons (fz_rv ok 9 w v d r1 hd) (fz_rvs ok ws t ds' r2 hds)
theorem he_callV {x : Str} {ps : List Str} {k j : Nat} {p : Pos} {F : List D → Option D} {g : FHA} (cx : Fx X.prog X.w X.K X.mg X.base x ps k F) (hr : Room j X.A) (hk : k ≤ j) (hg : Gl X x)
    (ha : HA X X.gx Ww (e :: es) g) (hdb : (x == ("__debug__" : Str)) = false := by decide) (he : starEach (e :: es) X.env = (false, eval e X.env) :: starEach es X.env := by rfl) (hpl : (backTo pos (starEach es X.env)).any (·.1) = false := by rfl) : HE X X.gx Ww (.Call (.Name x p) (e :: es) [] pos) (hCallV F g) :=
  let ⟨_, _, FF, hm, kp, hb, _⟩ := cx
  pe_conseq (pe_call FF (hr.mono hk) hg hm kp hb .nil pass0 ha hdb he hpl) fun σ H Q h => by
    obtain ⟨S, M, δ, rfl, ok, r, hf⟩ := h
    refine ⟨S, M, δ, rfl, ok, r, hf.go fun ws M1 S1 x1 ok1 h1 vs rvs => ?_⟩
    obtain ⟨w, hw, h2⟩ := fit_ofO (show Fit X.gx _ S1 (ofO _ M1) _ from h1)
    obtain ⟨d, hd, rfl⟩ := Option.map_eq_some_iff.mp hw
    obtain ⟨ds, hds, hd⟩ := Option.bind_eq_some_iff.mp hd
    obtain ⟨d1, e1, e2'⟩ := Option.bind_eq_some_iff.mp hd
    refine ⟨⟨Zc S1, S1.H, zc_ok ok1.zh⟩, ds, d1, rfl, by rw [List.append_nil]; exact fz_rvs ok1 ws vs ds rvs hds, e1, fun z T xx rz => ?_⟩
    obtain ⟨le, ok'⟩ := unview ok1 xx
    exact h2 ⟨S1.Z, T.H, S1.L⟩ le ok' z (scal_rv e2' rz)
end
end Q

set_option Elab.async false
set_option linter.all false
set_option maxRecDepth 100000
set_option maxHeartbeats 4000000
/-! t.index(x), l.index(x) of data. -/
namespace Pd
open PySem PySem.Spec PyProof.Rows L2
def rIndexDT (K : PySem.W.Frag) : V → List V → Hp → VK → Prop := fun x xs H Q => ∃ (a : Addr) (y : V) (d : PyData) (ds : List PyData) (j : Nat) (z : PyData), x = V.ref a ∧ xs = [y] ∧ Dp K H (V.ref a) (.tuple ds) ∧ Dp K H y d ∧
  SeqAt.shaped (.tuple ds) = true ∧ SeqAt.shaped d = true ∧ ds[j]? = some z ∧ PyData.eqv z d = true ∧ (∀ (m : Nat) (z' : PyData), m < j → ds[m]? = some z' → PyData.eqv z' d = false) ∧ Q (.int (j : Nat)) H
theorem mt_indexDT {X : Cx} (hu : X.A.units + 65 < cLine) : MtR X "tuple.index" (rIndexDT X.K) := by
  intro pins s σ H x xs v us Q I rx rxs h
  obtain ⟨a, y, d, ds, j, z, rfl, rfl, hl, hy, sl, sd, hz, hzj, hno, q⟩ := h
  cases rx
  cases rxs with
  | cons ry rt =>
    rename_i uy ut
    cases rt
    obtain ⟨bs, r1⟩ := Dp.reads I d y uy hy ry
    have hxs : PyData.canLayAll0 ds = true := SeqAt.canLay_of_shaped sl
    have hroom : X.A.units + 1 + min (PyData.depthAll ds) d.depth < cLine := room_in_shaped sd hu
    cases hl with
    | tup hs ha =>
      obtain ⟨its, rv, pl, hlen⟩ := I.tuple hs
      obtain ⟨⟨cls, dd, dt, sls⟩, ho, hc, n, hd⟩ := pl
      simp only at hc hd
      subst hc
      subst hd
      obtain ⟨as, h4⟩ := Dp.readsAll I ds _ its ha rv
      have hn : its.length = ds.length := SeqAt.ReadsAll.length ds its as h4
      have hmap : its.map (SeqAt.readOf s.heap) = ds := SeqAt.readsAll_map ds its as hxs h4
      obtain ⟨hjd, _⟩ := List.getElem?_eq_some_iff.mp hz
      have hjl : j < its.length := by omega
      have hj : j < its.toArray.size := by simpa using hjl
      have at_ : ∀ (m : Nat) (hm : m < its.toArray.size) (z' : PyData), ds[m]? = some z' → SeqAt.readOf s.heap its.toArray[m] = z' := by
        intro m hm z' hz'
        have hml : m < its.length := by simpa using hm
        rw [← hmap, List.getElem?_map, List.getElem?_eq_getElem hml] at hz'
        have e1 : SeqAt.readOf s.heap its[m] = z' := Option.some.inj (show some (SeqAt.readOf s.heap its[m]) = some z' from hz')
        simpa using e1
      refine call_meets PySem.F.slot_tuple_index ⟨_, ho, rfl⟩ PySem.F.entry_tuple_index (PySem.F.args_tuple_index_2 _ _)
        (TI.tuple_indexAt a its.toArray n dd sls uy (fun u => PyData.eqv (SeqAt.readOf s.heap u) d) j hj ?_ ?_) ⟨ho, SeqAt.items_eqAt (vs := its.toArray) (show ReadsAll s.heap its.toArray.toList ds as from h4) r1 hxs (SeqAt.canLay_of_shaped sd) hroom, ?_⟩
      · show PyData.eqv (SeqAt.readOf s.heap its.toArray[j]) d = true
        rw [at_ j hj z hz]
        exact hzj
      · intro m hm hmj
        have hmd : m < ds.length := by omega
        have hz' : ds[m]? = some ds[m] := List.getElem?_eq_getElem hmd
        show PyData.eqv (SeqAt.readOf s.heap its.toArray[m]) d = false
        rw [at_ m hm _ hz']
        exact hno m _ hmj hz'
      · exact ⟨.int (j : Nat), H, I.tok _, ⟨_, rfl⟩, q⟩
def idxD (p : D → Bool) : List D → Option Nat
  | [] => none
  | z :: r => if p z = true then some 0 else (idxD p r).map (· + 1)
theorem idxD_some {p : D → Bool} : ∀ {ds : List D} {j : Nat}, idxD p ds = some j → (∃ z, ds[j]? = some z ∧ p z = true) ∧ ∀ (m : Nat) (z' : D), m < j → ds[m]? = some z' → p z' = false
  | [], j, h => by cases h
  | z :: r, j, h => by
    simp only [idxD] at h
    by_cases hz : p z = true
    · rw [if_pos hz] at h
      cases h
      exact ⟨⟨z, rfl, hz⟩, fun m z' hm => absurd hm (Nat.not_lt_zero _)⟩
    · rw [if_neg hz] at h
      obtain ⟨k, hk, rfl⟩ := Option.map_eq_some_iff.mp h
      obtain ⟨⟨y, h1, h2⟩, h3⟩ := idxD_some hk
      refine ⟨⟨y, by simpa using h1, h2⟩, fun m z' hm e => ?_⟩
      cases m with
      | zero => simp at e; subst e; simpa using hz
      | succ m => exact h3 m z' (by omega) (by simpa using e)
def indexT : D → D → Option D
  | .tuple ds, y => if fitD (.tuple ds) && fitD y then (idxD (fun z => PyData.eqv z y) ds).map fun j => .int (j : Nat) else none
  | _, _ => none
def indexL : D → D → Option D
  | .list ds, y => if fitD (.list ds) && fitD y then (idxD (fun z => PyData.eqv z y) ds).map fun j => .int (j : Nat) else none
  | _, _ => none
theorem fit_parts {d : D} (h : fitD d = true) : flatD d = true ∧ SeqAt.shaped d = true := by
  unfold fitD at h
  rw [Bool.and_eq_true] at h
  exact h
def tBMN (K : PySem.W.Frag) (r : V → List V → Hp → VK → Prop) (to : TE) (t : TA) : TE := fun σ H Q => to σ H fun x H1 => (∃ a xs, x = .ref a ∧ SqN K H1 a xs) ∧ t σ H1 fun xs H2 => r x xs H2 Q
theorem tyN_is {X : Cx} {pins : List (Addr × Obj)} {σ : L2.St} {H : Hp} {s : Shared} {a : Addr} {xs : List V} (I : Inv X pins σ H s) (h : SqN X.K H a xs) :
    s.TypeIs (.ref a) "tuple" ∧ ∀ b, Value.ref a = .ref b → ∃ ob, s.heap.get? b = some ob ∧ ob.dict = none := by
  obtain ⟨its, _, p, _⟩ := I.tuple h.1
  refine ⟨p.typeIs, fun b e => ?_⟩
  cases e
  rcases h.2 with ⟨o, u, h1, h2⟩ | ⟨o, h1, _, h2⟩
  · exact ⟨o, (I.hok _ _ h1).1, h2⟩
  · exact ⟨o, I.kIn _ o h1, h2⟩
theorem pe_bmN {X : Cx} {o e : Expr} {es : List Expr} {to : TE} {t : TA} {name : Str} {apos cpos : Pos} {id : String} {r : V → List V → Hp → VK → Prop} (pa : PlainAttrs "tuple") (slot : Slot "tuple" name id) (hty : typeOf (.builtin id) = pure (.type "method_descriptor")) (hm : MtR X id r) (ho : PE X o to) (ha : PA X (e :: es) t)
    (hbase : attributeBase o name X.env (eval o X.env) = eval o X.env := by rfl)
    (hfew : ((backTo cpos (starEach (e :: es) X.env)).all (fun x => !x.1) && (backToKw cpos (keywordEach [] X.env)).all (fun x => x.1.isSome)
      && decide ((e :: es).length + ([] : List Keyword).length + (if ([] : List Keyword).isEmpty then 0 else 1) < 30)) = true := by rfl)
    (hline : (apos.endLine == cpos.line) = true := by rfl) (hs : starEach (e :: es) X.env = (false, eval e X.env) :: starEach es X.env := by rfl) (hplain : (backTo cpos (starEach es X.env)).any (·.1) = false := by rfl) :
    PE X (.Call (.Attribute o name apos) (e :: es) [] cpos) (tBMN X.K r to t) := by
  refine ⟨fun pins s σ H Q I h => ?_⟩
  refine wpAny_Call_method_late hbase hfew hline rfl (thn (ho.run pins s σ H _ I h) fun v s1 ⟨x, H1, I1, r1, ⟨a, xs, ex, hx⟩, q1⟩ => ?_)
  subst ex
  cases r1
  obtain ⟨h1, h2⟩ := tyN_is I1 hx
  refine ⟨"tuple", id, pa, slot, hty, h1, h2, ?_⟩
  have hA := ha.run cpos pins s1 σ H1 _ I1 q1
  rw [hs] at hA ⊢
  refine Calls.callWith_builtin (by show (false || (backTo cpos (starEach es X.env)).any (·.1)) = false; rw [hplain] <;> rfl) (Calls.evalArgs_plain ?_)
  exact thn hA fun us s2 ⟨vs, H2, I2, r2, q2⟩ => hm pins s2 σ H2 (.ref a) vs _ us Q I2 rfl r2 q2
theorem de_indexT {X : Cx} {a b : Expr} {fa fb : FE} {pos apos : Pos} (hu : X.A.units + 65 < cLine) (ha : DE X a fa) (hb : DE X b fb)
    (hbase : attributeBase a "index" X.env (eval a X.env) = eval a X.env := by rfl)
    (hfew : ((backTo pos (starEach [b] X.env)).all (fun x => !x.1) && (backToKw pos (keywordEach [] X.env)).all (fun x => x.1.isSome) && decide ([b].length + ([] : List Keyword).length + (if ([] : List Keyword).isEmpty then 0 else 1) < 30)) = true := by rfl)
    (hline : (apos.endLine == pos.line) = true := by rfl) (hs : starEach [b] X.env = (false, eval b X.env) :: starEach [] X.env := by rfl) (hplain : (backTo pos (starEach [] X.env)).any (·.1) = false := by rfl) :
    DE X (.Call (.Attribute a "index" apos) [b] [] pos) (e2 indexT fa fb) :=
  pe_conseq (pe_bmN PySem.F.plainAttrs_tuple PySem.F.slot_tuple_index PySem.F.type_tuple_index (mt_indexDT hu) ha (pa_cons hb pa_nil hs) hbase hfew hline hs hplain) fun σ H Q h => by
    obtain ⟨E, S, δ, d, rfl, r, hf, q⟩ := h
    obtain ⟨x, hx, hf⟩ := Option.bind_eq_some_iff.mp hf
    obtain ⟨y, hy, hf⟩ := Option.bind_eq_some_iff.mp hf
    refine ⟨E, S, δ, x, rfl, r, hx, fun v S1 x1 r1 => ?_⟩
    cases x with
    | tuple ds =>
      have hf : (if fitD (.tuple ds) && fitD y then (idxD (fun z => PyData.eqv z y) ds).map fun j => PyData.int (j : Nat) else none) = some d := hf
      split at hf
      · rename_i hz
        obtain ⟨j, hj, rfl⟩ := Option.map_eq_some_iff.mp hf
        rw [Bool.and_eq_true] at hz
        obtain ⟨f1, s1⟩ := fit_parts hz.1
        obtain ⟨f2, s2⟩ := fit_parts hz.2
        cases r1 with
        | tup a1 b1 =>
          refine ⟨⟨_, _, rfl, sqn_mono S1.ok a1⟩, E, S1, δ, y, rfl, r.mono x1, hy, fun u S2 x2 r2 => ?_⟩
          obtain ⟨⟨z, h1, h2⟩, h3⟩ := idxD_some hj
          have rt : Rv X.K S2.H (.tuple ds) (.ref _) := Rv.mono S2.ok _ (Rv.mono x2.z _ (Rv.tup a1 b1))
          exact ⟨_, u, y, ds, j, z, rfl, rfl, rt.dp _ f1, (Rv.mono S2.ok _ r2).dp _ f2, s1, s2, h1, h2, h3, q _ S2 (x1.trans x2) (.int _)⟩
      · cases hf
    | _ => cases hf
theorem de_indexL {X : Cx} {a b : Expr} {fa fb : FE} {pos apos : Pos} (hu : X.A.units + 65 < cLine) (ha : DE X a fa) (hb : DE X b fb)
    (hbase : attributeBase a "index" X.env (eval a X.env) = eval a X.env := by rfl)
    (hfew : ((backTo pos (starEach [b] X.env)).all (fun x => !x.1) && (backToKw pos (keywordEach [] X.env)).all (fun x => x.1.isSome) && decide ([b].length + ([] : List Keyword).length + (if ([] : List Keyword).isEmpty then 0 else 1) < 30)) = true := by rfl)
    (hline : (apos.endLine == pos.line) = true := by rfl) (hs : starEach [b] X.env = (false, eval b X.env) :: starEach [] X.env := by rfl) (hplain : (backTo pos (starEach [] X.env)).any (·.1) = false := by rfl) :
    DE X (.Call (.Attribute a "index" apos) [b] [] pos) (e2 indexL fa fb) :=
  pe_conseq (pe_bm PySem.F.plainAttrs_list PySem.F.slot_list_index PySem.F.type_list_index (mt_indexD hu) ha (pa_cons hb pa_nil hs) hbase hfew hline hs hplain) fun σ H Q h => by
    obtain ⟨E, S, δ, d, rfl, r, hf, q⟩ := h
    obtain ⟨x, hx, hf⟩ := Option.bind_eq_some_iff.mp hf
    obtain ⟨y, hy, hf⟩ := Option.bind_eq_some_iff.mp hf
    refine ⟨E, S, δ, x, rfl, r, hx, fun v S1 x1 r1 => ?_⟩
    cases x with
    | list ds =>
      have hf : (if fitD (.list ds) && fitD y then (idxD (fun z => PyData.eqv z y) ds).map fun j => PyData.int (j : Nat) else none) = some d := hf
      split at hf
      · rename_i hz
        obtain ⟨j, hj, rfl⟩ := Option.map_eq_some_iff.mp hf
        rw [Bool.and_eq_true] at hz
        obtain ⟨f1, s1⟩ := fit_parts hz.1
        obtain ⟨f2, s2⟩ := fit_parts hz.2
        cases r1 with
        | lst a1 b1 =>
          refine ⟨.inl ⟨rfl, _, S1.ok.seq a1⟩, E, S1, δ, y, rfl, r.mono x1, hy, fun u S2 x2 r2 => ?_⟩
          obtain ⟨⟨z, h1, h2⟩, h3⟩ := idxD_some hj
          have rt : Rv X.K S2.H (.list ds) (.ref _) := Rv.mono S2.ok _ (Rv.mono x2.z _ (Rv.lst a1 b1))
          exact ⟨_, u, y, ds, j, z, rfl, rfl, rt.dp _ f1, (Rv.mono S2.ok _ r2).dp _ f2, s1, s2, h1, h2, h3, q _ S2 (x1.trans x2) (.int _)⟩
      · cases hf
    | _ => cases hf
end Pd

set_option Elab.async false
set_option linter.all false
set_option maxRecDepth 100000
set_option maxHeartbeats 4000000
/-! Texts: split, join, removeprefix, str and int of texts. -/
namespace Pd
open PySem PySem.Spec PyProof.Rows L2
section
variable {X : Cx} {e o : Expr} {f fo : FE} {pos : Pos}
theorem sl_lim {n : Nat} (h : n ≤ lim) : n ≤ sizeLine := by have := lim_eq; have := sizeLine_eq; omega
/-- a.split(b) -/
def splitD : D → D → Option D
  | .str a, .str b => if (b.length == 0) = false ∧ a.length + 2 ≤ lim then some (.list ((Txt.split a b).map .str)) else none
  | _, _ => none
theorem rvl_strs {K : PySem.W.Frag} {Z : Hp} : ∀ ys : List Str, RvL K Z (ys.map PyData.str) (ys.map V.str)
  | [] => .nil
  | y :: r => .cons (.str y) (rvl_strs r)
theorem de_split {apos : Pos} (ho : DE X o fo) (he : DE X e f) (hs : starEach [e] X.env = [(false, eval e X.env)] := by rfl) (hbase : attributeBase o "split" X.env (eval o X.env) = eval o X.env := by rfl) (hline : (apos.endLine == pos.line) = true := by rfl) :
    DE X (.Call (.Attribute o "split" apos) [e] [] pos) (e2 splitD fo f) :=
  pe_conseq (pe_split ho he hs hbase hline) fun σ H Q h => by
    obtain ⟨E, S, δ, d, rfl, r, hf, q⟩ := h
    obtain ⟨x, hx, hf⟩ := Option.bind_eq_some_iff.mp hf
    obtain ⟨y, hy, hf⟩ := Option.bind_eq_some_iff.mp hf
    refine ⟨E, S, δ, x, rfl, r, hx, fun v S1 x1 r1 => ?_⟩
    cases x with
    | str a =>
      cases r1
      refine ⟨⟨a, rfl⟩, E, S1, δ, y, rfl, r.mono x1, hy, fun u S2 x2 r2 => ?_⟩
      cases y with
      | str b =>
        cases r2
        simp only [splitD] at hf
        split at hf
        · rename_i hz
          cases hf
          exact ⟨a, b, rfl, rfl, hz.1, by have := lim_eq; have := sizeLine_eq; omega, fun p hp => q _ (S2.lay p (.lst _)) ((x1.trans x2).trans (S2.lay_ex hp)) (lay_lst hp (rvl_strs _))⟩
        · cases hf
      | _ => cases hf
    | _ => cases hf
/-- all of them texts -/
def strsD : List D → Option (List Str)
  | [] => some []
  | .str a :: r => (strsD r).map (a :: ·)
  | _ => none
theorem strsD_map : ∀ ys : List Str, strsD (ys.map PyData.str) = some ys
  | [] => rfl
  | y :: r => by
    show (strsD (r.map PyData.str)).map (y :: ·) = _
    rw [strsD_map r]
    rfl
theorem strsD_eq : ∀ {ds : List D} {ys : List Str}, strsD ds = some ys → ds = ys.map .str
  | [], ys, h => by cases h; rfl
  | .str a :: r, ys, h => by
    obtain ⟨z, h1, rfl⟩ := Option.map_eq_some_iff.mp h
    rw [strsD_eq h1]
    rfl
  | .none :: _, _, h => by cases h
  | .bool _ :: _, _, h => by cases h
  | .int _ :: _, _, h => by cases h
  | .list _ :: _, _, h => by cases h
  | .tuple _ :: _, _, h => by cases h
  | .dict _ :: _, _, h => by cases h
theorem rvl_vs {K : PySem.W.Frag} {Z : Hp} : ∀ {ys : List Str} {vs : List V}, RvL K Z (ys.map PyData.str) vs → vs = ys.map V.str
  | [], vs, h => by cases h; rfl
  | y :: r, vs, h => by
    cases h with
    | cons h1 h2 =>
      cases h1
      rw [rvl_vs h2]
      rfl
/-- a.join(xs) -/
def joinD : D → D → Option D
  | .str a, .list ds => (strsD ds).bind fun ys => if (ys.map (·.length)).sum + ys.length * a.length ≤ 16777216 then some (.str (Txt.join a ys)) else none
  | _, _ => none
theorem de_join {apos : Pos} (ho : DE X o fo) (he : DE X e f) (hs : starEach [e] X.env = [(false, eval e X.env)] := by rfl) (hbase : attributeBase o "join" X.env (eval o X.env) = eval o X.env := by rfl) (hline : (apos.endLine == pos.line) = true := by rfl) :
    DE X (.Call (.Attribute o "join" apos) [e] [] pos) (e2 joinD fo f) :=
  pe_conseq (pe_join ho he hs hbase hline) fun σ H Q h => by
    obtain ⟨E, S, δ, d, rfl, r, hf, q⟩ := h
    obtain ⟨x, hx, hf⟩ := Option.bind_eq_some_iff.mp hf
    obtain ⟨y, hy, hf⟩ := Option.bind_eq_some_iff.mp hf
    refine ⟨E, S, δ, x, rfl, r, hx, fun v S1 x1 r1 => ?_⟩
    cases x with
    | str a =>
      cases r1
      refine ⟨⟨a, rfl⟩, E, S1, δ, y, rfl, r.mono x1, hy, fun u S2 x2 r2 => ?_⟩
      cases y with
      | list ds =>
        cases r2 with
        | lst a1 b1 =>
          obtain ⟨ys, hys, hf⟩ := Option.bind_eq_some_iff.mp hf
          split at hf
          · rename_i hz
            cases hf
            have e1 := strsD_eq hys
            rw [e1] at b1
            have e2 := rvl_vs b1
            rw [e2] at a1
            exact ⟨a, _, ys, rfl, rfl, .inl (S2.ok.seq a1), hz, q _ S2 (x1.trans x2) (.str _)⟩
          · cases hf
      | _ => cases hf
    | _ => cases hf
/-- a.removeprefix(b) -/
def cutpD : D → D → Option D
  | .str a, .str b => if a.length ≤ lim then some (.str (Txt.removeprefix a b)) else none
  | _, _ => none
theorem de_removeprefix {apos : Pos} (ho : DE X o fo) (he : DE X e f) (hs : starEach [e] X.env = [(false, eval e X.env)] := by rfl) (hbase : attributeBase o "removeprefix" X.env (eval o X.env) = eval o X.env := by rfl) (hline : (apos.endLine == pos.line) = true := by rfl) :
    DE X (.Call (.Attribute o "removeprefix" apos) [e] [] pos) (e2 cutpD fo f) :=
  pe_conseq (pe_m1 F.slot_str_removeprefix F.type_str_removeprefix mt_removeprefix ho he hs hbase hline) fun σ H Q h => by
    obtain ⟨E, S, δ, d, rfl, r, hf, q⟩ := h
    obtain ⟨x, hx, hf⟩ := Option.bind_eq_some_iff.mp hf
    obtain ⟨y, hy, hf⟩ := Option.bind_eq_some_iff.mp hf
    refine ⟨E, S, δ, x, rfl, r, hx, fun v S1 x1 r1 => ?_⟩
    cases x with
    | str a =>
      cases r1
      refine ⟨⟨a, rfl⟩, E, S1, δ, y, rfl, r.mono x1, hy, fun u S2 x2 r2 => ?_⟩
      cases y with
      | str b =>
        cases r2
        simp only [cutpD] at hf
        split at hf
        · rename_i hz
          cases hf
          exact ⟨a, b, rfl, rfl, by have := lim_eq; have := sizeLine_eq; omega, q _ S2 (x1.trans x2) (.str _)⟩
        · cases hf
      | _ => cases hf
    | _ => cases hf
/-- str(x), x a number or a text -/
def strTD : List D → Option D
  | [.int i] => if i.natAbs.log2 < 1920 then some (.str (toString i)) else none
  | [.str a] => some (.str a)
  | _ => none
theorem ca_strT : CaD X (.type "str") strTD := by
  intro pins s σ H xs us Q I rx h
  obtain ⟨S, ds, d, rfl, rl, hf, q⟩ := h
  unfold strTD at hf
  split at hf
  · split at hf
    · rename_i i hz
      cases hf
      cases rl with
      | cons r1 rt => cases rt; cases r1; exact call_str_int pins s σ S.H _ us Q I rx ⟨_, rfl, hz, q _ S (.refl S) (.str _)⟩
    · cases hf
  · cases hf
    cases rl with
    | cons r1 rt => cases rt; cases r1; exact SkE.call_str_str pins s σ S.H _ us Q I rx ⟨_, rfl, q _ S (.refl S) (.str _)⟩
  · cases hf
/-- int(x), x a text -/
def intTD : List D → Option D
  | [.int i] => some (.int i)
  | [.bool k] => some (.int (if k then 1 else 0))
  | [.str a] => if a.length ≤ 640 then (PySem.intText? a).map .int else none
  | _ => none
theorem ca_intT : CaD X (.type "int") intTD := by
  intro pins s σ H xs us Q I rx h
  obtain ⟨S, ds, d, rfl, rl, hf, q⟩ := h
  unfold intTD at hf
  split at hf
  · cases hf
    cases rl with
    | cons r1 rt => cases rt; cases r1; exact call_int1 pins s σ S.H _ us Q I rx (.inl ⟨_, rfl, q _ S (.refl S) (.int _)⟩)
  · cases hf
    cases rl with
    | cons r1 rt => cases rt; cases r1; exact call_int1 pins s σ S.H _ us Q I rx (.inr ⟨_, rfl, q _ S (.refl S) (.int _)⟩)
  · split at hf
    · rename_i a hz
      obtain ⟨n, hn, rfl⟩ := Option.map_eq_some_iff.mp hf
      cases rl with
      | cons r1 rt => cases rt; cases r1; exact call_int_str pins s σ S.H _ us Q I rx ⟨_, n, rfl, hn, hz, q _ S (.refl S) (.int _)⟩
    · cases hf
  · cases hf
end
theorem tup_extendW (l : Addr) (items : Array Value) (n : Nat) (b : Addr) (items2 : Array Value) (n2 : Nat) (dd2 : Option Addr) (sl2 : Array (Option Value)) (hc0 : ¬(!items.isEmpty && Builtin.List.listTooLong (items.size + items2.size)) = true) (hc1 : items.size ≤ sizeLine) (hs2 : items.size + items2.size ≤ sizeLine + 1) :
    Meets (Builtin.«list.extend» ⟨[.ref l, .ref b], []⟩) (fun _ R s => s.heap.get? l = some { cls := .type "list", dict := none, data := .seq items n, slots := #[] } ∧ s.heap.get? b = some { cls := .type "tuple", dict := dd2, data := .seq items2 n2, slots := sl2 } ∧ R (.ok (.ret .none)) { s with heap := s.heap.update l (Obj.mapSeq fun x => x ++ items2) }) :=
  .of_wp fun prog w A R s h => by
    obtain ⟨hp, g, d, tk, os⟩ := s; obtain ⟨hl, hb, h⟩ := h; have f1 := AutoSeq1.idx_int; have f2 := AutoSeq1.sub_tuple_tuple; have f3 := AutoSeq1.sub_list_list; have f4 := AutoSeq1.sub_tuple_list; have f5 := AutoSeq1.sub_list_tuple;
    have hz' : (items ++ items2).size ≤ sizeLine + 1 := by rw [Array.size_append]; exact hs2
    wp_walk using (wpAny_updateSeq hl rfl (hz := hc1) (_hz' := hz')), wpAny_loadPart' hl, wpAny_loadPart' hb; exact ⟨_, rfl, h⟩
section
variable {X : Cx} {e : Expr} {f : FE} {pos : Pos}
def gExtT (i : Nat) (f : FE) : GS := fun δ => (f δ).bind fun d => match δ[i]?, d with
  | some (.own ds), .tuple es => if ds.length + es.length ≤ lim then some (.nx (δ.set i (.own (ds ++ es)))) else none
  | _, _ => none
def rExtT (K : PySem.W.Frag) : V → List V → Hp → VK → Prop := fun x vs H Q => ∃ l b xs zs, x = .ref l ∧ vs = [.ref b] ∧ H l = some (.lst xs) ∧ SqT K H b zs ∧ xs.length + zs.length ≤ sizeLine ∧ Q .non (upd H l (.lst (xs ++ zs)))
theorem mt_extT : MtM X "list.extend" (rExtT X.K) := by
  intro pins s σ H x vs v us Q I rx rv h
  obtain ⟨l, b, xs, zs, rfl, rfl, hH, hB, hz, q⟩ := h
  cases rx
  obtain ⟨u, rfl, ru⟩ := rv.one
  cases ru
  obtain ⟨z, its, n, r, hl, e⟩ := I.lstM hH
  obtain ⟨its2, r2, ⟨⟨cls2, dd2, data2, sl2⟩, e2, hc2, n2, hd2⟩, hl2⟩ := I.tuple hB
  simp only at hc2 hd2
  subst hc2 hd2
  have z1 := r.length
  have z2 := r2.length
  have hsz : its.toArray.size + its2.toArray.size ≤ sizeLine := by rw [List.size_toArray, List.size_toArray]; omega
  have hlong : ¬ (!its.toArray.isEmpty && Builtin.List.listTooLong (its.toArray.size + its2.toArray.size)) = true := by
    rw [notLongL hsz, Bool.and_false]
    exact Bool.false_ne_true
  refine call_meets F.slot_list_extend ⟨_, e, rfl⟩ F.entry_list_extend (F.args_list_extend_2 _ _)
    (tup_extendW l its.toArray n b its2.toArray n2 dd2 sl2 hlong (by rw [List.size_toArray]; omega) (by omega)) ⟨e, e2, ?_⟩
  refine ⟨.non, _, I.lset (its' := its ++ its2) hH e (by simp) (r.append r2) ?_, rfl, q⟩
  rw [List.length_append]
  omega
theorem ds_extendT {i : Nat} {x : Str} {npos apos cpos epos : Pos} (hN : X.N[i]? = some x) (hv : Vis X.env.scope x) (h : DE X e f)
    (hbase : attributeBase (.Name x npos) "extend" X.env (eval (.Name x npos) X.env) = eval (.Name x npos) X.env := by rfl)
    (hfew : ((backTo cpos (starEach [e] X.env)).all (fun x => !x.1) && (backToKw cpos (keywordEach [] X.env)).all (fun x => x.1.isSome) && decide ([e].length + ([] : List Keyword).length + (if ([] : List Keyword).isEmpty then 0 else 1) < 30)) = true := by rfl)
    (hline : (apos.endLine == cpos.line) = true := by rfl) (hs : starEach [e] X.env = (false, eval e X.env) :: starEach [] X.env := by rfl) (hplain : (backTo cpos (starEach [] X.env)).any (·.1) = false := by rfl)
    (hd : (x == ("__debug__" : Str)) = false := by decide) (hcd : (x == ("__classdict__" : Str)) = false := by decide) : DS X (.Expr (.Call (.Attribute (.Name x npos) "extend" apos) [e] [] cpos) epos) (gExtT i f) :=
  ps_conseq (ps_expr (pe_bm PySem.F.plainAttrs_list PySem.F.slot_list_extend PySem.F.type_list_extend mt_extT (pe_var hN hv hd hcd) (pa_cons h pa_nil hs) hbase hfew hline hs hplain)) fun Dn σ H h => by
    obtain ⟨Se, S, δ, o, rfl, xe, r, hf, q⟩ := h
    obtain ⟨d, hx, hf⟩ := Option.bind_eq_some_iff.mp hf
    split at hf
    · rename_i ds es hds
      split at hf
      · rename_i hz
        cases hf
        obtain ⟨v, h1, a, vs, rfl, h3, h4, h5, h6⟩ := r.at_ i _ hds
        refine ⟨.ref a, h1, .inl ⟨rfl, vs, .inl (.inl h3)⟩, Se.H, S, δ, .tuple es, rfl, r, hx, fun w S1 x1 r1 => ?_⟩
        have h3' : S1.H a = some (.lst vs) := x1.h _ _ h3
        have h4' : S1.Z a = none := x1.c a h4 (by rw [h3]; simp)
        cases r1 with
        | tup s1 b1 =>
          rename_i ws
          refine ⟨a, _, vs, ws, rfl, rfl, h3', sqt_mono S1.ok s1, by rw [h6.length, b1.length]; exact Nat.le_trans hz lim_line, ?_⟩
          obtain ⟨x3, r3⟩ := own_write (vs := vs) (vs' := vs ++ ws) (xe.trans x1) (r.mono x1) hds h1 h4' h5 ((RvL.mono x1.z ds h6).append b1)
          exact q σ _ x3 r3
      · cases hf
    · cases hf
end
end Pd

set_option Elab.async false
set_option linter.all false
set_option maxRecDepth 100000
set_option maxHeartbeats 4000000
/-! Defs that change what they are handed: semantic functions with a store of cells. -/
namespace Hd
open PySem PySem.Spec PyProof.Rows L2 Pd
/-- data, or a location -/
inductive W where
  | d (x : D)
  | l (n : Nat)
inductive Cell where
  | lst (ws : List W)
  | dct (kvs : List (Str × W))
/-- the frozen part, the heap, the addresses of the locations -/
structure Sm where
  Z : Hp
  H : Hp
  L : List Addr
def Rw (K : PySem.W.Frag) (S : Sm) : W → V → Prop
  | .d x, v => Rv K S.Z x v
  | .l n, v => ∃ a, S.L[n]? = some a ∧ v = .ref a
def RwL (K : PySem.W.Frag) (S : Sm) : List W → List V → Prop
  | [], vs => vs = []
  | w :: ws, vs => ∃ v r, vs = v :: r ∧ Rw K S w v ∧ RwL K S ws r
def RwK (K : PySem.W.Frag) (S : Sm) : List (Str × W) → List (Key × V) → Prop
  | [], vs => vs = []
  | (k, w) :: ws, vs => ∃ v r, vs = (Sum.inr k, v) :: r ∧ Rw K S w v ∧ RwK K S ws r
def CellOk (K : PySem.W.Frag) (S : Sm) (a : Addr) : Cell → Prop
  | .lst ws => ∃ vs, S.H a = some (.lst vs) ∧ RwL K S ws vs
  | .dct kvs => ∃ xs, S.H a = some (.dK xs) ∧ RwK K S kvs xs
structure OkS (K : PySem.W.Frag) (S : Sm) (M : List Cell) : Prop where
  zh : Same S.Z S.H
  nd : S.L.Nodup
  len : S.L.length = M.length
  zn : ∀ a ∈ S.L, S.Z a = none
  cell : ∀ (n : Nat) (a : Addr) (c : Cell), S.L[n]? = some a → M[n]? = some c → CellOk K S a c
structure Le (S S' : Sm) : Prop where
  z : Same S.Z S'.Z
  l : ∃ t, S'.L = S.L ++ t
  f : ∀ b o, S.H b = some o → b ∉ S.L → S'.H b = some o
  n : ∀ b, b ∈ S'.L → b ∈ S.L ∨ S.H b = none
  t : ∀ b, S.H b ≠ none → S'.H b ≠ none
  c : ∀ b, S.Z b = none → S.H b ≠ none → b ∉ S.L → S'.Z b = none
theorem Le.refl (S : Sm) : Le S S := ⟨Same.refl _, ⟨[], by simp⟩, fun _ _ h _ => h, fun _ h => .inl h, fun _ h => h, fun _ h _ _ => h⟩
theorem Le.trans {S T U : Sm} (a : Le S T) (b : Le T U) : Le S U := by
  obtain ⟨t1, e1⟩ := a.l
  obtain ⟨t2, e2⟩ := b.l
  have nl : ∀ c, S.H c ≠ none → c ∉ S.L → c ∉ T.L := fun c h1 h2 h3 => by
    rcases a.n c h3 with h | h
    · exact h2 h
    · exact h1 h
  refine ⟨a.z.trans b.z, ⟨t1 ++ t2, by rw [e2, e1, List.append_assoc]⟩, fun c o h1 h2 => ?_, fun c h => ?_, fun c h => b.t c (a.t c h), fun c h1 h2 h3 => b.c c (a.c c h1 h2 h3) (a.t c h2) (nl c h2 h3)⟩
  · exact b.f c o (a.f c o h1 h2) (nl c (by rw [h1]; simp) h2)
  · rcases b.n c h with h | h
    · exact a.n c h
    · right
      cases e : S.H c with
      | none => rfl
      | some o => exact absurd h (a.t c (by rw [e]; simp))
section
variable {K : PySem.W.Frag} {S S' : Sm}
structure Gr (S S' : Sm) : Prop where
  z : Same S.Z S'.Z
  l : ∃ t, S'.L = S.L ++ t
theorem Rw.gr (x : Gr S S') : ∀ {w : W} {v : V}, Rw K S w v → Rw K S' w v
  | .d x', _, h => Rv.mono x.z x' h
  | .l n, _, h => by
    obtain ⟨a, h1, h2⟩ := h
    obtain ⟨t, e⟩ := x.l
    refine ⟨a, ?_, h2⟩
    rw [e, List.getElem?_append_left (List.getElem?_eq_some_iff.mp h1).1]
    exact h1
theorem RwL.gr (x : Gr S S') : ∀ {ws : List W} {vs : List V}, RwL K S ws vs → RwL K S' ws vs
  | [], _, h => h
  | w :: ws, _, h => by obtain ⟨v, r, rfl, h1, h2⟩ := h; exact ⟨v, r, rfl, h1.gr x, RwL.gr x h2⟩
theorem RwK.gr (x : Gr S S') : ∀ {ws : List (Str × W)} {vs : List (Key × V)}, RwK K S ws vs → RwK K S' ws vs
  | [], _, h => h
  | (k, w) :: ws, _, h => by obtain ⟨v, r, rfl, h1, h2⟩ := h; exact ⟨v, r, rfl, h1.gr x, RwK.gr x h2⟩
theorem Rw.mono (x : Le S S') {w : W} {v : V} (h : Rw K S w v) : Rw K S' w v := h.gr ⟨x.z, x.l⟩
theorem RwL.mono (x : Le S S') {ws : List W} {vs : List V} (h : RwL K S ws vs) : RwL K S' ws vs := h.gr ⟨x.z, x.l⟩
theorem RwK.mono (x : Le S S') {ws : List (Str × W)} {vs : List (Key × V)} (h : RwK K S ws vs) : RwK K S' ws vs := h.gr ⟨x.z, x.l⟩
theorem RwL.length : ∀ {ws : List W} {vs : List V}, RwL K S ws vs → vs.length = ws.length
  | [], _, h => by cases h; rfl
  | w :: ws, _, h => by obtain ⟨v, r, rfl, h1, h2⟩ := h; rw [List.length_cons, List.length_cons, RwL.length h2]
theorem RwL.append : ∀ {ws us : List W} {vs xs : List V}, RwL K S ws vs → RwL K S us xs → RwL K S (ws ++ us) (vs ++ xs)
  | [], _, _, _, h, g => by cases h; exact g
  | w :: ws, _, _, _, h, g => by obtain ⟨v, r, rfl, h1, h2⟩ := h; exact ⟨v, _, rfl, h1, RwL.append h2 g⟩
theorem RwL.get : ∀ {ws : List W} {vs : List V} {i : Nat} {w : W}, RwL K S ws vs → ws[i]? = some w → ∃ v, vs[i]? = some v ∧ Rw K S w v
  | [], _, _, _, _, e => by simp at e
  | w :: ws, _, 0, _, h, e => by obtain ⟨v, r, rfl, h1, h2⟩ := h; simp at e; subst e; exact ⟨v, rfl, h1⟩
  | w :: ws, _, i + 1, _, h, e => by obtain ⟨v, r, rfl, h1, h2⟩ := h; obtain ⟨u, h3, h4⟩ := RwL.get (i := i) h2 (by simpa using e); exact ⟨u, by simpa using h3, h4⟩
theorem RwL.ofD : ∀ {ds : List D} {vs : List V}, RvL K S.Z ds vs → RwL K S (ds.map .d) vs
  | [], _, h => by cases h; rfl
  | d :: ds, _, h => by cases h with | cons a b => exact ⟨_, _, rfl, a, RwL.ofD b⟩
theorem RwK.get : ∀ {ws : List (Str × W)} {vs : List (Key × V)} {k : Str} {w : W}, RwK K S ws vs → ws.lookup k = some w → ∃ v, valV vs (Sum.inr k : Key) = some v ∧ Rw K S w v
  | [], _, _, _, _, e => by simp at e
  | (k', w') :: ws, _, k, w, h, e => by
    obtain ⟨v, r, rfl, h1, h2⟩ := h
    rw [List.lookup_cons] at e
    by_cases hk : k = k'
    · subst hk
      simp at e
      subst e
      exact ⟨v, valV_pos rfl, h1⟩
    · have hb : (k == k') = false := by simpa using hk
      rw [hb] at e
      obtain ⟨u, h3, h4⟩ := RwK.get h2 e
      exact ⟨u, by rw [valV_neg (by intro q; exact hk (Sum.inr.inj q).symm)]; exact h3, h4⟩
/-- the pure state within -/
def Sm.st (S : Sm) (h : Same S.Z S.H) : Stt := ⟨S.Z, S.H, h⟩
/-- a later pure state, the locations as they were -/
theorem ok_ex {M : List Cell} (ok : OkS K S M) {T : Stt} (x : Ex (S.st ok.zh) T) : Le S ⟨T.Z, T.H, S.L⟩ ∧ OkS K ⟨T.Z, T.H, S.L⟩ M := by
  have hh : Same S.H T.H := x.h
  have le : Le S ⟨T.Z, T.H, S.L⟩ := ⟨x.z, ⟨[], by simp⟩, fun b o h _ => hh b o h, fun b h => .inl h, fun b h => same_some hh h, fun b h1 h2 _ => x.c b h1 h2⟩
  have tr : ∀ a ∈ S.L, S.H a ≠ none := fun a ha => by
    obtain ⟨n, hn⟩ := List.getElem?_of_mem ha
    have hl : n < M.length := by
      have := (List.getElem?_eq_some_iff.mp hn).1
      have := ok.len
      omega
    have := ok.cell n a M[n] hn (List.getElem?_eq_getElem hl)
    cases e : M[n] with
    | lst ws => rw [e] at this; obtain ⟨vs, h1, _⟩ := this; rw [h1]; simp
    | dct kvs => rw [e] at this; obtain ⟨xs, h1, _⟩ := this; rw [h1]; simp
  refine ⟨le, T.ok, ok.nd, ok.len, fun a ha => x.c a (ok.zn a ha) (tr a ha), fun n a c h1 h2 => ?_⟩
  have := ok.cell n a c h1 h2
  cases c with
  | lst ws => obtain ⟨vs, g1, g2⟩ := this; exact ⟨vs, hh _ _ g1, g2.mono le⟩
  | dct kvs => obtain ⟨xs, g1, g2⟩ := this; exact ⟨xs, hh _ _ g1, g2.mono le⟩
/-- a new cell -/
theorem ok_new {M : List Cell} (ok : OkS K S M) {p : Addr} (hp : S.H p = none) (c : Cell) (o : HO) (hc : ∀ T : Sm, Le S T → T.H p = some o → CellOk K T p c) :
    Le S ⟨S.Z, upd S.H p o, S.L ++ [p]⟩ ∧ OkS K ⟨S.Z, upd S.H p o, S.L ++ [p]⟩ (M ++ [c]) := by
  have np : p ∉ S.L := fun hm => by
    obtain ⟨n, hn⟩ := List.getElem?_of_mem hm
    have hl : n < M.length := by
      have := (List.getElem?_eq_some_iff.mp hn).1
      have := ok.len
      omega
    have := ok.cell n p M[n] hn (List.getElem?_eq_getElem hl)
    cases e : M[n] with
    | lst ws => rw [e] at this; obtain ⟨vs, h1, _⟩ := this; rw [hp] at h1; cases h1
    | dct kvs => rw [e] at this; obtain ⟨xs, h1, _⟩ := this; rw [hp] at h1; cases h1
  have sm : Same S.H (upd S.H p o) := same_upd hp o
  have le : Le S ⟨S.Z, upd S.H p o, S.L ++ [p]⟩ := ⟨Same.refl _, ⟨[p], rfl⟩, fun b u h _ => sm b u h, fun b h => by
    rcases List.mem_append.mp h with h | h
    · exact .inl h
    · right
      have : b = p := by simpa using h
      rw [this]; exact hp, fun b h => same_some sm h, fun b h _ _ => h⟩
  have zp : S.Z p = none := ok.zh.free hp
  refine ⟨le, ok.zh.trans sm, ?_, by rw [List.length_append, List.length_append, ok.len]; rfl, fun a ha => ?_, fun n a c' h1 h2 => ?_⟩
  · rw [List.nodup_append]
    exact ⟨ok.nd, by simp, fun a ha b hb => by
      have : b = p := by simpa using hb
      intro e
      exact np (this ▸ e ▸ ha)⟩
  · rcases List.mem_append.mp ha with h | h
    · exact ok.zn a h
    · have : a = p := by simpa using h
      rw [this]; exact zp
  · have hlen := ok.len
    by_cases hn : n < S.L.length
    · have h1 : (S.L ++ [p])[n]? = some a := h1
      rw [List.getElem?_append_left hn] at h1
      rw [List.getElem?_append_left (by omega)] at h2
      have := ok.cell n a c' h1 h2
      cases c' with
      | lst ws => obtain ⟨vs, g1, g2⟩ := this; exact ⟨vs, sm _ _ g1, g2.mono le⟩
      | dct kvs => obtain ⟨xs, g1, g2⟩ := this; exact ⟨xs, sm _ _ g1, g2.mono le⟩
    · have h1 : (S.L ++ [p])[n]? = some a := h1
      have hn2 : n = S.L.length := by
        have := (List.getElem?_eq_some_iff.mp h1).1
        rw [List.length_append, List.length_singleton] at this
        omega
      subst hn2
      rw [List.getElem?_append_right (Nat.le_refl _), Nat.sub_self] at h1
      rw [hlen, List.getElem?_append_right (Nat.le_refl _), Nat.sub_self] at h2
      cases h1
      cases h2
      exact hc _ le upd_same
theorem not_cell {M : List Cell} (ok : OkS K S M) {p : Addr} (hp : S.H p = none) : p ∉ S.L := fun hm => by
  obtain ⟨n, hn⟩ := List.getElem?_of_mem hm
  have hl : n < M.length := by
    have := (List.getElem?_eq_some_iff.mp hn).1
    have := ok.len
    omega
  have := ok.cell n p M[n] hn (List.getElem?_eq_getElem hl)
  cases e : M[n] with
  | lst ws => rw [e] at this; obtain ⟨vs, h1, _⟩ := this; rw [hp] at h1; cases h1
  | dct kvs => rw [e] at this; obtain ⟨xs, h1, _⟩ := this; rw [hp] at h1; cases h1
/-- a place that was made since becomes a cell -/
theorem ok_new2 {S0 : Sm} {M : List Cell} (ok : OkS K S M) (le : Le S0 S) {p : Addr} (h0 : S0.H p = none) (np : p ∉ S.L) (zp : S.Z p = none) (c : Cell) (o : HO) (hc : ∀ T : Sm, Gr S T → T.H p = some o → CellOk K T p c) :
    Le S0 ⟨S.Z, upd S.H p o, S.L ++ [p]⟩ ∧ OkS K ⟨S.Z, upd S.H p o, S.L ++ [p]⟩ (M ++ [c]) := by
  have gr : Gr S ⟨S.Z, upd S.H p o, S.L ++ [p]⟩ := ⟨Same.refl _, ⟨[p], rfl⟩⟩
  refine ⟨⟨le.z, ?_, fun b u h hb => ?_, fun b h => ?_, fun b h => ?_, le.c⟩, fun b u h => ?_, ?_, by rw [List.length_append, List.length_append, ok.len]; rfl, fun a ha => ?_, fun n a c' h1 h2 => ?_⟩
  · obtain ⟨t, e⟩ := le.l
    exact ⟨t ++ [p], by show S.L ++ [p] = _; rw [e, List.append_assoc]⟩
  · show upd S.H p o b = _
    rw [upd_ne (fun e => by subst e; rw [h0] at h; cases h)]
    exact le.f b u h hb
  · rcases List.mem_append.mp h with h | h
    · exact le.n b h
    · right
      have : b = p := by simpa using h
      rw [this]; exact h0
  · show upd S.H p o b ≠ none
    by_cases e : b = p
    · subst e; rw [upd_same]; simp
    · rw [upd_ne e]; exact le.t b h
  · show upd S.H p o b = _
    rw [upd_ne (fun e => by have h : S.Z b = some u := h; rw [e, zp] at h; cases h)]
    exact ok.zh b u h
  · rw [List.nodup_append]
    exact ⟨ok.nd, by simp, fun a ha b hb => by
      have : b = p := by simpa using hb
      intro e
      exact np (this ▸ e ▸ ha)⟩
  · rcases List.mem_append.mp ha with h | h
    · exact ok.zn a h
    · have : a = p := by simpa using h
      rw [this]; exact zp
  · have hlen := ok.len
    by_cases hn : n < S.L.length
    · have h1 : (S.L ++ [p])[n]? = some a := h1
      rw [List.getElem?_append_left hn] at h1
      rw [List.getElem?_append_left (by omega)] at h2
      have ap : a ≠ p := fun e => np (e ▸ List.mem_of_getElem? h1)
      have := ok.cell n a c' h1 h2
      cases c' with
      | lst ws => obtain ⟨vs, g1, g2⟩ := this; exact ⟨vs, by show upd S.H p o a = _; rw [upd_ne ap]; exact g1, g2.gr gr⟩
      | dct kvs => obtain ⟨xs, g1, g2⟩ := this; exact ⟨xs, by show upd S.H p o a = _; rw [upd_ne ap]; exact g1, g2.gr gr⟩
    · have h1 : (S.L ++ [p])[n]? = some a := h1
      have hn2 : n = S.L.length := by
        have := (List.getElem?_eq_some_iff.mp h1).1
        rw [List.length_append, List.length_singleton] at this
        omega
      subst hn2
      rw [List.getElem?_append_right (Nat.le_refl _), Nat.sub_self] at h1
      rw [hlen, List.getElem?_append_right (Nat.le_refl _), Nat.sub_self] at h2
      cases h1
      cases h2
      exact hc _ gr upd_same
/-- a cell is written -/
theorem ok_set {M : List Cell} (ok : OkS K S M) {n : Nat} {p : Addr} (hp : S.L[n]? = some p) (c : Cell) (o : HO) (hc : ∀ T : Sm, Le S T → T.H p = some o → CellOk K T p c) :
    Le S ⟨S.Z, upd S.H p o, S.L⟩ ∧ OkS K ⟨S.Z, upd S.H p o, S.L⟩ (M.set n c) := by
  have hm : p ∈ S.L := List.mem_of_getElem? hp
  have le : Le S ⟨S.Z, upd S.H p o, S.L⟩ := ⟨Same.refl _, ⟨[], by simp⟩, fun b u h hb => by
    show upd S.H p o b = _
    rw [upd_ne (show b ≠ p from fun e => hb (by rw [e]; exact hm))]; exact h, fun b h => .inl h, fun b h => by
    show upd S.H p o b ≠ none
    by_cases e : b = p
    · subst e; rw [upd_same]; simp
    · rw [upd_ne e]; exact h, fun b h _ _ => h⟩
  refine ⟨le, fun b u h => ?_, ok.nd, by rw [List.length_set]; exact ok.len, ok.zn, fun m a c' h1 h2 => ?_⟩
  · show upd S.H p o b = _
    rw [upd_ne (fun e => by have h : S.Z b = some u := h; rw [e, ok.zn p hm] at h; cases h)]
    exact ok.zh b u h
  · by_cases hmn : m = n
    · subst hmn
      have h1 : S.L[m]? = some a := h1
      rw [hp] at h1
      cases h1
      have hl : m < M.length := by
        have := (List.getElem?_eq_some_iff.mp h2).1
        simpa using this
      rw [List.getElem?_set_self hl] at h2
      cases h2
      exact hc _ le upd_same
    · have h1 : S.L[m]? = some a := h1
      rw [List.getElem?_set_ne (Ne.symm hmn)] at h2
      have ap : a ≠ p := fun e => by
        subst e
        have l1 := (List.getElem?_eq_some_iff.mp h1).1
        exact hmn ((List.getElem?_inj l1 ok.nd).mp (h1.trans hp.symm))
      have := ok.cell m a c' h1 h2
      cases c' with
      | lst ws => obtain ⟨vs, g1, g2⟩ := this; exact ⟨vs, by show upd S.H p o a = _; rw [upd_ne ap]; exact g1, g2.mono le⟩
      | dct kvs => obtain ⟨xs, g1, g2⟩ := this; exact ⟨xs, by show upd S.H p o a = _; rw [upd_ne ap]; exact g1, g2.mono le⟩
end
/-! ### slots, readings -/
abbrev Env := List (Option W)
structure RH (K : PySem.W.Frag) (S : Sm) (σ : L2.St) (δ : Env) : Prop where
  len : σ.length = δ.length
  at_ : ∀ (i : Nat) (w : W), δ[i]? = some (some w) → ∃ v, σ[i]? = some (some v) ∧ Rw K S w v
theorem RH.mono {K : PySem.W.Frag} {S S' : Sm} {σ : L2.St} {δ : Env} (x : Le S S') (r : RH K S σ δ) : RH K S' σ δ := ⟨r.len, fun i w h => let ⟨v, h1, h2⟩ := r.at_ i w h; ⟨v, h1, h2.mono x⟩⟩
theorem RH.set {K : PySem.W.Frag} {S : Sm} {σ : L2.St} {δ : Env} (r : RH K S σ δ) {i : Nat} {v : V} {w : W} (h : Rw K S w v) : RH K S (σ.set i (some v)) (δ.set i (some w)) := by
  refine ⟨by rw [List.length_set, List.length_set]; exact r.len, fun j u e => ?_⟩
  by_cases hj : j = i
  · subst hj
    have hl : j < δ.length := by
      have := (List.getElem?_eq_some_iff.mp e).1
      simpa using this
    rw [List.getElem?_set_self hl] at e
    cases e
    exact ⟨v, List.getElem?_set_self (by rw [r.len]; exact hl), h⟩
  · rw [List.getElem?_set_ne (Ne.symm hj)] at e ⊢
    exact r.at_ j u e
abbrev FH := Env → List Cell → Option (W × List Cell)
def tH (K : PySem.W.Frag) (f : FH) : TE := fun σ H Q => ∃ (S : Sm) (M : List Cell) (δ : Env) (w : W) (M' : List Cell), S.H = H ∧ OkS K S M ∧ RH K S σ δ ∧ f δ M = some (w, M') ∧ ∀ v S', Le S S' → OkS K S' M' → Rw K S' w v → Q v S'.H
abbrev HE (X : Cx) (e : Expr) (f : FH) : Prop := PE X e (tH X.K f)
abbrev FHA := Env → List Cell → Option (List W × List Cell)
def tHA (K : PySem.W.Frag) (f : FHA) : TA := fun σ H Q => ∃ (S : Sm) (M : List Cell) (δ : Env) (ws : List W) (M' : List Cell), S.H = H ∧ OkS K S M ∧ RH K S σ δ ∧ f δ M = some (ws, M') ∧ ∀ vs S', Le S S' → OkS K S' M' → RwL K S' ws vs → Q vs S'.H
abbrev HA (X : Cx) (es : List Expr) (f : FHA) : Prop := PA X es (tHA X.K f)
/-- the slots that hold data -/
def pv1 : Option W → Sl
  | some (.d x) => .val x
  | _ => .un
def pview (δ : Env) : List Sl := δ.map pv1
theorem pview_r {K : PySem.W.Frag} {S : Sm} {σ : L2.St} {δ : Env} {E : Hp} (h : Same S.Z S.H) (r : RH K S σ δ) : R K E (S.st h) σ (pview δ) := by
  refine ⟨fun i s e => ?_, fun i j a ds es e _ _ _ => ?_⟩
  · unfold pview at e
    rw [List.getElem?_map] at e
    obtain ⟨o, ho, rfl⟩ := Option.map_eq_some_iff.mp e
    have hl : i < σ.length := by rw [r.len]; exact (List.getElem?_eq_some_iff.mp ho).1
    cases o with
    | none => exact ⟨_, List.getElem?_eq_getElem hl, trivial⟩
    | some w =>
      obtain ⟨v, h1, h2⟩ := r.at_ i w ho
      cases w with
      | d x => exact ⟨some v, h1, v, rfl, h2⟩
      | l n => exact ⟨some v, h1, trivial⟩
  · unfold pview at e
    rw [List.getElem?_map] at e
    obtain ⟨o, ho, e⟩ := Option.map_eq_some_iff.mp e
    cases o with
    | none => cases e
    | some w => cases w <;> cases e
def lift (f : FE) : FH := fun δ M => (f (pview δ)).map fun d => (.d d, M)
section
variable {X : Cx} {a b c e : Expr} {pos : Pos}
theorem he_lift {f : FE} (h : DE X e f) : HE X e (lift f) := pe_conseq h fun σ H Q q => by
  obtain ⟨S, M, δ, w, M', rfl, ok, r, hf, q⟩ := q
  obtain ⟨d, hd, hf⟩ := Option.map_eq_some_iff.mp hf
  cases hf
  refine ⟨S.H, S.st ok.zh, pview δ, d, rfl, pview_r ok.zh r, hd, fun v T x rv => ?_⟩
  obtain ⟨le, ok'⟩ := ok_ex ok x
  exact q v ⟨T.Z, T.H, S.L⟩ le ok' rv
def hVar (i : Nat) : FH := fun δ M => match δ[i]? with
  | some (some w) => some (w, M)
  | _ => none
theorem he_var (i : Nat) {x : Str} (hN : X.N[i]? = some x := by rfl) (hv : Vis X.env.scope x := by first | exact Or.inl rfl | exact Or.inr (Or.inl rfl) | exact Or.inr (Or.inr rfl)) (hd : (x == ("__debug__" : Str)) = false := by decide)
    (hcd : (x == ("__classdict__" : Str)) = false := by decide) : HE X (.Name x pos) (hVar i) := by
  refine pe_conseq (pe_var hN hv hd hcd) fun σ H Q h => ?_
  obtain ⟨S, M, δ, w, M', rfl, ok, r, hf, q⟩ := h
  unfold hVar at hf
  split at hf
  · rename_i w' hw
    cases hf
    obtain ⟨v, h1, h2⟩ := r.at_ i _ hw
    exact ⟨v, h1, q v S (.refl S) ok h2⟩
  · cases hf
/-! ### argument lists, displays -/
def haNil : FHA := fun _ M => some ([], M)
def haCons (f : FH) (g : FHA) : FHA := fun δ M => (f δ M).bind fun (w, M1) => (g δ M1).bind fun (ws, M2) => some (w :: ws, M2)
theorem ha_nil : HA X [] haNil := pa_conseq pa_nil fun σ H Q h => by
  obtain ⟨S, M, δ, ws, M', rfl, ok, r, hf, q⟩ := h
  cases hf
  exact q [] S (.refl S) ok rfl
theorem ha_cons {es : List Expr} {f : FH} {g : FHA} (h : HE X e f) (t : HA X es g) (hs : starEach (e :: es) X.env = (false, eval e X.env) :: starEach es X.env := by rfl) : HA X (e :: es) (haCons f g) := pa_conseq (pa_cons h t hs) fun σ H Q h => by
  obtain ⟨S, M, δ, ws, M', rfl, ok, r, hf, q⟩ := h
  obtain ⟨⟨w1, M1⟩, h1, hf⟩ := Option.bind_eq_some_iff.mp hf
  obtain ⟨⟨ws2, Mb⟩, h2, hf⟩ := Option.bind_eq_some_iff.mp hf
  cases hf
  exact ⟨S, M, δ, w1, M1, rfl, ok, r, h1, fun v S1 x1 ok1 r1 => ⟨S1, M1, δ, ws2, _, rfl, ok1, r.mono x1, h2, fun vs S2 x2 ok2 r2 => q _ S2 (x1.trans x2) ok2 ⟨v, vs, rfl, r1.mono x2, r2⟩⟩⟩
/-- a list that is a cell -/
def hCell (g : FHA) : FH := fun δ M => (g δ M).bind fun (ws, M1) => if ws.length ≤ lim then some (.l M1.length, M1 ++ [.lst ws]) else none
theorem he_cell {es : List Expr} {g : FHA} (h : HA X es g) : HE X (.List es pos) (hCell g) := pe_conseq (pe_lst h) fun σ H Q h => by
  obtain ⟨S, M, δ, w, M', rfl, ok, r, hf, q⟩ := h
  obtain ⟨⟨ws, M1⟩, h1, hf⟩ := Option.bind_eq_some_iff.mp hf
  have hf : (if ws.length ≤ lim then some (W.l M1.length, M1 ++ [Cell.lst ws]) else none) = some (w, M') := hf
  split at hf
  · rename_i hz
    cases hf
    refine ⟨S, M, δ, ws, M1, rfl, ok, r, h1, fun vs S1 x1 ok1 r1 => ⟨by rw [r1.length]; exact Nat.le_trans hz lim_line, fun p hp => ?_⟩⟩
    obtain ⟨le, ok2⟩ := ok_new ok1 hp (.lst ws) (.lst vs) fun T lt hT => ⟨vs, hT, r1.mono lt⟩
    refine q (.ref p) ⟨S1.Z, upd S1.H p (.lst vs), S1.L ++ [p]⟩ (x1.trans le) ok2 ⟨p, ?_, rfl⟩
    show (S1.L ++ [p])[M1.length]? = some p
    rw [← ok1.len, List.getElem?_append_right (Nat.le_refl _), Nat.sub_self]
    rfl
  · cases hf
end
end Hd

set_option Elab.async false
set_option linter.all false
set_option maxRecDepth 100000
set_option maxHeartbeats 4000000
/-! Cells read as data; subscripts, stores, append; a pure expression over cells read as data. -/
namespace Hd
open PySem PySem.Spec PyProof.Rows L2 Pd
def oAll {α β : Type} (f : α → Option β) : List α → Option (List β)
  | [] => some []
  | a :: r => (f a).bind fun b => (oAll f r).bind fun bs => some (b :: bs)
/-- a value with all that hangs on it, as data -/
def fzW : Nat → List Cell → W → Option D
  | _, _, .d x => some x
  | 0, _, .l _ => none
  | n + 1, M, .l k => match M[k]? with
    | some (.lst ws) => (oAll (fzW n M) ws).map .list
    | some (.dct kvs) => (oAll (fun kw => (fzW n M kw.2).map fun d => ((PyData.str kw.1, d) : D × D)) kvs).map .dict
    | none => none
def Zc (S : Sm) : Hp := fun b => match S.Z b with
  | some o => some o
  | none => if b ∈ S.L then S.H b else none
theorem zc_of {S : Sm} : Same S.Z (Zc S) := fun b o e => by
  unfold Zc
  rw [e]
theorem zc_ok {S : Sm} (h : Same S.Z S.H) : Same (Zc S) S.H := fun b o e => by
  unfold Zc at e
  split at e
  · rename_i o' ho
    cases e
    exact h _ _ ho
  · split at e
    · exact e
    · cases e
theorem zc_at {K : PySem.W.Frag} {S : Sm} {M : List Cell} (ok : OkS K S M) {n : Nat} {a : Addr} (h : S.L[n]? = some a) {o : HO} (ho : S.H a = some o) : Zc S a = some o := by
  have hm := List.mem_of_getElem? h
  unfold Zc
  rw [ok.zn a hm]
  show (if a ∈ S.L then S.H a else none) = some o
  rw [if_pos hm]
  exact ho
theorem fz_rv {K : PySem.W.Frag} {S : Sm} {M : List Cell} (ok : OkS K S M) : ∀ (n : Nat) (w : W) (v : V) (d : D), Rw K S w v → fzW n M w = some d → Rv K (Zc S) d v := by
  intro n
  induction n with
  | zero =>
    intro w v d h e
    cases w with
    | d x => cases e; exact Rv.mono zc_of _ h
    | l k => cases e
  | succ n ih =>
    intro w v d h e
    cases w with
    | d x => cases e; exact Rv.mono zc_of _ h
    | l k =>
      obtain ⟨a, h1, rfl⟩ := h
      simp only [fzW] at e
      split at e
      · rename_i ws hc
        obtain ⟨ds, hd, rfl⟩ := Option.map_eq_some_iff.mp e
        obtain ⟨vs, g1, g2⟩ := ok.cell k a _ h1 hc
        refine .lst (.inl (.inl (zc_at ok h1 g1))) ?_
        clear hc g1 e
        induction ws generalizing vs ds with
        | nil => cases hd; cases g2; exact .nil
        | cons w ws ih2 =>
          obtain ⟨v, r, rfl, q1, q2⟩ := g2
          obtain ⟨d, e1, hd⟩ := Option.bind_eq_some_iff.mp hd
          obtain ⟨ds', e2, hd⟩ := Option.bind_eq_some_iff.mp hd
          cases hd
          exact .cons (ih w v d q1 e1) (ih2 ds' e2 r q2)
      · rename_i kvs hc
        obtain ⟨ds, hd, rfl⟩ := Option.map_eq_some_iff.mp e
        obtain ⟨xs, g1, g2⟩ := ok.cell k a _ h1 hc
        refine .dic (zc_at ok h1 g1) ?_
        clear hc g1 e
        induction kvs generalizing xs ds with
        | nil => cases hd; cases g2; exact .nil
        | cons w ws ih2 =>
          obtain ⟨k', w⟩ := w
          obtain ⟨v, r, rfl, q1, q2⟩ := g2
          obtain ⟨d, e1, hd⟩ := Option.bind_eq_some_iff.mp hd
          obtain ⟨ds', e2, hd⟩ := Option.bind_eq_some_iff.mp hd
          cases hd
          obtain ⟨d', e3, rfl⟩ := Option.map_eq_some_iff.mp e1
          exact .cons (k := Sum.inr k') (ih w v d' q1 e3) (ih2 ds' e2 r q2)
      · cases e
/-- the slots, cells read as data -/
def vw1 (M : List Cell) : Option W → Sl
  | some w => match fzW 9 M w with
    | some d => .val d
    | none => .un
  | none => .un
def view (M : List Cell) (δ : Env) : List Sl := δ.map (vw1 M)
theorem view_r {K : PySem.W.Frag} {S : Sm} {M : List Cell} {σ : L2.St} {δ : Env} {E : Hp} (ok : OkS K S M) (r : RH K S σ δ) : R K E ⟨Zc S, S.H, zc_ok ok.zh⟩ σ (view M δ) := by
  refine ⟨fun i s e => ?_, fun i j a ds es e _ _ _ => ?_⟩
  · unfold view at e
    rw [List.getElem?_map] at e
    obtain ⟨o, ho, rfl⟩ := Option.map_eq_some_iff.mp e
    have hl : i < σ.length := by rw [r.len]; exact (List.getElem?_eq_some_iff.mp ho).1
    cases o with
    | none => exact ⟨_, List.getElem?_eq_getElem hl, trivial⟩
    | some w =>
      obtain ⟨v, h1, h2⟩ := r.at_ i w ho
      refine ⟨some v, h1, ?_⟩
      show RS K E _ (some v) (match fzW 9 M w with | some d => Sl.val d | none => Sl.un)
      cases e : fzW 9 M w with
      | none => exact trivial
      | some d => exact ⟨v, rfl, fz_rv ok 9 w v d h2 e⟩
  · unfold view at e
    rw [List.getElem?_map] at e
    obtain ⟨o, ho, e⟩ := Option.map_eq_some_iff.mp e
    cases o with
    | none => cases e
    | some w =>
      have e : (match fzW 9 M w with | some d => Sl.val d | none => Sl.un) = Sl.own ds := e
      split at e <;> cases e
/-- what a look over the cells left: nothing is frozen by it -/
theorem unview {K : PySem.W.Frag} {S : Sm} {M : List Cell} (ok : OkS K S M) {T : Stt} (x : Ex ⟨Zc S, S.H, zc_ok ok.zh⟩ T) : Le S ⟨S.Z, T.H, S.L⟩ ∧ OkS K ⟨S.Z, T.H, S.L⟩ M := by
  have hs : Same S.H T.H := x.h
  exact ok_ex ok (T := ⟨S.Z, T.H, ok.zh.trans hs⟩) ⟨Same.refl _, hs, fun _ h _ => h⟩
section
variable {X : Cx} {a b c e : Expr} {pos : Pos}
def hView (f : FE) : FH := fun δ M => ((f (view M δ)).bind scalK).map fun d => (.d d, M)
theorem he_view {f : FE} (h : DE X e f) : HE X e (hView f) := pe_conseq h fun σ H Q q => by
  obtain ⟨S, M, δ, w, M', rfl, ok, r, hf, q⟩ := q
  obtain ⟨d, hd, hf⟩ := Option.map_eq_some_iff.mp hf
  cases hf
  obtain ⟨d1, h1, h2⟩ := Option.bind_eq_some_iff.mp hd
  refine ⟨S.H, ⟨Zc S, S.H, zc_ok ok.zh⟩, view M δ, d1, rfl, view_r ok r, h1, fun v T x rv => ?_⟩
  obtain ⟨le, ok'⟩ := unview ok x
  exact q v ⟨S.Z, T.H, S.L⟩ le ok' (scal_rv h2 rv)
/-- tests -/
def tHT (K : PySem.W.Frag) (f : FH) : TT := fun σ H Q => ∃ (S : Sm) (M : List Cell) (δ : Env) (k : Bool) (M' : List Cell), S.H = H ∧ OkS K S M ∧ RH K S σ δ ∧ f δ M = some (.d (.bool k), M') ∧ ∀ S', Le S S' → OkS K S' M' → Q k S'.H
theorem ht_view {f : FE} (h : PT X e (tDT X.K f)) : PT X e (tHT X.K (hView f)) := pt_conseq h fun σ H Q q => by
  obtain ⟨S, M, δ, k, M', rfl, ok, r, hf, q⟩ := q
  obtain ⟨d, hd, hf⟩ := Option.map_eq_some_iff.mp hf
  cases hf
  obtain ⟨d1, h1, h2⟩ := Option.bind_eq_some_iff.mp hd
  have e : d1 = .bool k := by cases d1 <;> cases h2; rfl
  subst e
  refine ⟨S.H, ⟨Zc S, S.H, zc_ok ok.zh⟩, view M δ, k, rfl, view_r ok r, h1, fun T x => ?_⟩
  obtain ⟨le, ok'⟩ := unview ok x
  exact q ⟨S.Z, T.H, S.L⟩ le ok'
theorem ht_of {f : FH} (h : HE X e f) (he : ∀ whole, isTrue e X.env whole = (do let v ← whole; standAt e.pos; holding [v] (truthy v)) := by intro _; rfl) : PT X e (tHT X.K f) := by
  refine pt_conseq (pt_val h he) fun σ H Q q => ?_
  obtain ⟨S, M, δ, k, M', rfl, ok, r, hf, q⟩ := q
  exact ⟨S, M, δ, _, M', rfl, ok, r, hf, fun v S' x ok' rv => by cases rv; exact ⟨k, rfl, q S' x ok'⟩⟩
def hNot (f : FH) : FH := fun δ M => (f δ M).bind fun (w, M1) => match w with
  | .d (.bool k) => some (.d (.bool (!k)), M1)
  | _ => none
theorem ht_not {f : FH} (h : PT X e (tHT X.K f)) : PT X (.UnaryOp .Not e pos) (tHT X.K (hNot f)) := pt_conseq (pt_not h) fun σ H Q q => by
  obtain ⟨S, M, δ, k, M', rfl, ok, r, hf, q⟩ := q
  obtain ⟨⟨w, M1⟩, h1, hf⟩ := Option.bind_eq_some_iff.mp hf
  cases w with
  | l n => cases hf
  | d y =>
    cases y with
    | bool k0 =>
      cases hf
      exact ⟨S, M, δ, k0, _, rfl, ok, r, h1, fun S' x ok' => q S' x ok'⟩
    | _ => cases hf
/-- a new list of whole numbers, reckoned over cells -/
def hViewO (g : List Sl → Option (List D)) : FH := fun δ M => (g (view M δ)).bind fun ys => if allInts ys then some (.d (.list ys), M) else none
theorem viewO_run {K : PySem.W.Frag} {g : List Sl → Option (List D)} {σ : L2.St} {H : Hp} {Q : VK} (q : tH K (hViewO g) σ H Q) : tDO2 K g σ H Q := by
  obtain ⟨S, M, δ, w, M', rfl, ok, r, hf, q⟩ := q
  obtain ⟨ys, h1, hf⟩ := Option.bind_eq_some_iff.mp hf
  split at hf
  · rename_i hi
    cases hf
    refine ⟨S.H, ⟨Zc S, S.H, zc_ok ok.zh⟩, view M δ, ys, rfl, view_r ok r, h1, fun p ws T x h0 z0 h2 h3 => ?_⟩
    have hs : Same S.H T.H := x.h
    have zp : S.Z p = none := ok.zh.free h0
    let T2 : Stt := ⟨upd S.Z p (.lst ws), T.H, fun b o e => by
      by_cases hb : b = p
      · subst hb; rw [upd_same] at e; cases e; exact h2
      · rw [upd_ne hb] at e; exact hs _ _ (ok.zh _ _ e)⟩
    have x2 : Ex (S.st ok.zh) T2 := ⟨same_upd zp _, hs, fun b g1 g2 => by
      show upd S.Z p _ b = none
      rw [upd_ne (show b ≠ p from fun e => by subst e; exact g2 h0)]
      exact g1⟩
    obtain ⟨le, ok'⟩ := ok_ex ok x2
    exact q (.ref p) ⟨T2.Z, T2.H, S.L⟩ le ok' (.lst (.inl (.inl upd_same)) (ints_rv hi h3))
  · cases hf
theorem he_viewO {g : List Sl → Option (List D)} (h : PE X e (tDO2 X.K g)) : HE X e (hViewO g) := pe_conseq h fun σ H Q q => viewO_run q
/-! ### subscripts of cells -/
def hIx (fa fb : FH) : FH := fun δ M => (fa δ M).bind fun (x, M1) => (fb δ M1).bind fun (y, Mb) => match x, y with
  | .l n, .d (.int i) => match Mb[n]? with
    | some (.lst ws) => (atI ws i).map fun w => (w, Mb)
    | _ => none
  | .d x, .d y => (ixD x y).map fun d => (.d d, Mb)
  | _, _ => none
theorem atI_rw {K : PySem.W.Frag} {S : Sm} {ws : List W} {vs : List V} {i : Int} {w : W} (h : RwL K S ws vs) (e : atI ws i = some w) : ∃ v, atI vs i = some v ∧ Rw K S w v := by
  unfold atI at e ⊢
  rw [h.length]
  cases ei : ixN ws.length i with
  | none => rw [ei] at e; cases e
  | some j =>
    rw [ei] at e
    obtain ⟨v, h1, h2⟩ := h.get (show ws[j]? = some w from e)
    exact ⟨v, h1, h2⟩
theorem he_ix {fa fb : FH} (ha : HE X a fa) (hb : HE X b fb) (hs : PlainIx b) : HE X (.Subscript a b pos) (hIx fa fb) := by
  refine pe_conseq (pe_ix ix_seq ha hb hs) fun σ H Q h => ?_
  obtain ⟨S, M, δ, w, M', rfl, ok, r, hf, q⟩ := h
  obtain ⟨⟨x, M1⟩, h1, hf⟩ := Option.bind_eq_some_iff.mp hf
  obtain ⟨⟨y, Mb⟩, h2, hf⟩ := Option.bind_eq_some_iff.mp hf
  refine ⟨S, M, δ, x, M1, rfl, ok, r, h1, fun v S1 x1 ok1 r1 => ⟨S1, M1, δ, y, Mb, rfl, ok1, r.mono x1, h2, fun u S2 x2 ok2 r2 => ?_⟩⟩
  have r1' := r1.mono x2
  have x12 := x1.trans x2
  cases x with
  | l n =>
    cases y with
    | l m => cases hf
    | d y =>
      cases y with
      | int i =>
        cases r2
        have hf : (match Mb[n]? with | some (.lst ws) => (atI ws i).map fun w => (w, Mb) | _ => none) = some (w, M') := hf
        split at hf
        · rename_i ws hc
          obtain ⟨w', hw, hf⟩ := Option.map_eq_some_iff.mp hf
          cases hf
          obtain ⟨p, g1, rfl⟩ := r1'
          obtain ⟨vs, g2, g3⟩ := ok2.cell n p _ g1 hc
          obtain ⟨z, z1, z2⟩ := atI_rw g3 hw
          exact .inl ⟨p, vs, i, z, rfl, rfl, .inl (.inl g2), z1, q z S2 x12 ok2 z2⟩
        · cases hf
      | _ => cases hf
  | d x =>
    cases y with
    | l m => cases hf
    | d y =>
      have hf : ((ixD x y).map fun d => (W.d d, Mb)) = some (w, M') := hf
      obtain ⟨d, hd, hf⟩ := Option.map_eq_some_iff.mp hf
      cases hf
      have r1'' : Rv X.K S2.Z x v := r1'
      have r2'' : Rv X.K S2.Z y u := r2
      cases y with
      | int i =>
        cases r2''
        cases x with
        | list ds =>
          cases r1'' with
          | lst a1 b1 =>
            obtain ⟨z, e1, e2⟩ := Pd.atI_rv b1 hd
            exact .inl ⟨_, _, i, z, rfl, rfl, ok2.zh.seq a1, e1, q z S2 x12 ok2 e2⟩
        | tuple ds =>
          cases r1'' with
          | tup a1 b1 =>
            obtain ⟨z, e1, e2⟩ := Pd.atI_rv b1 hd
            exact .inr (.inl ⟨_, _, i, z, rfl, rfl, sqt_mono ok2.zh a1, e1, q z S2 x12 ok2 e2⟩)
        | str z =>
          cases r1''
          simp only [ixD] at hd
          split at hd
          · rename_i hz
            obtain ⟨c, c1, rfl⟩ := Option.map_eq_some_iff.mp hd
            exact .inr (.inr ⟨z, i, c, rfl, rfl, Nat.le_trans hz lim_line, c1, q _ S2 x12 ok2 (Rv.str _)⟩)
          · cases hd
        | _ => cases hd
      | _ => cases x <;> cases hd
def hGet (fa : FH) (k : Str) : FH := fun δ M => (fa δ M).bind fun (x, M1) => match x with
  | .l n => match M1[n]? with
    | some (.dct kvs) => (kvs.lookup k).map fun w => (w, M1)
    | _ => none
  | .d (.dict ds) => (lookD ds k).map fun d => (.d d, M1)
  | _ => none
theorem he_get {fa : FH} {k : Str} {kp : Pos} {kj : Nat} (hu : X.A.units + 1 < cLine) (ha : HE X a fa) (hs : NoSl (.Constant (.str k) kj kp)) : HE X (.Subscript a (.Constant (.str k) kj kp) pos) (hGet fa k) := by
  refine pe_conseq (pe_dget hu ha (pe_str (x := k)) hs) fun σ H Q h => ?_
  obtain ⟨S, M, δ, w, M', rfl, ok, r, hf, q⟩ := h
  obtain ⟨⟨x, M1⟩, h1, hf⟩ := Option.bind_eq_some_iff.mp hf
  refine ⟨S, M, δ, x, M1, rfl, ok, r, h1, fun v S1 x1 ok1 r1 => ?_⟩
  show ∃ a v', v = .ref a ∧ DGet S1.H a (.str k) (some v') ∧ Q v' S1.H
  cases x with
  | l n =>
    have hf : (match M1[n]? with | some (.dct kvs) => (kvs.lookup k).map fun w => (w, M1) | _ => none) = some (w, M') := hf
    split at hf
    · rename_i kvs hc
      obtain ⟨w', hw, hf⟩ := Option.map_eq_some_iff.mp hf
      cases hf
      obtain ⟨p, g1, rfl⟩ := r1
      obtain ⟨xs, g2, g3⟩ := ok1.cell n p _ g1 hc
      obtain ⟨z, z1, z2⟩ := g3.get hw
      exact ⟨p, z, rfl, by rw [← z1]; exact DGet.k (k := Sum.inr k) g2, q z S1 x1 ok1 z2⟩
    · cases hf
  | d x =>
    cases x with
    | dict ds =>
      have hf : ((lookD ds k).map fun d => (W.d d, M1)) = some (w, M') := hf
      obtain ⟨d, hd, hf⟩ := Option.map_eq_some_iff.mp hf
      cases hf
      have r1' : Rv X.K S1.Z (.dict ds) v := r1
      cases r1' with
      | dic a1 b1 =>
        obtain ⟨z, z1, z2⟩ := lookD_rv b1 hd
        exact ⟨_, z, rfl, by rw [← z1]; exact DGet.k (k := Sum.inr k) (ok1.zh _ _ a1), q z S1 x1 ok1 z2⟩
    | _ => cases hf
end
end Hd

set_option Elab.async false
set_option linter.all false
set_option maxRecDepth 100000
set_option maxHeartbeats 4000000
/-! Dict displays as cells, append, statements, calls and defs with a store. -/
namespace Hd
open PySem PySem.Spec PyProof.Rows L2 Pd
/-! ### a dict written out, a cell -/
def hMap : List (Str × FH) → Env → List Cell → Option (List (Str × W) × List Cell)
  | [], _, M => some ([], M)
  | (k, f) :: r, δ, M => (f δ M).bind fun (w, M1) => (hMap r δ M1).bind fun (ws, M2) => some ((k, w) :: ws, M2)
def hDict (kfs : List (Str × FH)) : FH := fun δ M => (hMap kfs δ M).bind fun (kvs, M1) => if kfs.length ≤ 15 && decide (kfs.map (·.1)).Nodup then some (.l M1.length, M1 ++ [.dct kvs]) else none
def trsH (K : PySem.W.Frag) (kfs : List (Str × FH)) : List (TE × TE) := kfs.map fun kf => (tC (.str kf.1), tH K kf.2)
theorem pairs_runH {K : PySem.W.Frag} {σ : L2.St} {δ : Env} : ∀ {kfs : List (Str × FH)} {S : Sm} {M M' : List Cell} {ds : List (Str × W)} {Q : List (V × V) → Hp → Prop}, OkS K S M → RH K S σ δ → hMap kfs δ M = some (ds, M') →
    (∀ (kvs : List (Key × V)) S', Le S S' → OkS K S' M' → RwK K S' ds kvs → kvs.map (·.1) = kfs.map (fun kf => Sum.inr kf.1) → Q (kvs.map fun kv => (kV kv.1, kv.2)) S'.H) → tPairs (trsH K kfs) σ S.H Q
  | [], S, M, M', ds, Q, ok, r, hf, q => by cases hf; exact q [] S (.refl S) ok rfl rfl
  | (k, f) :: rest, S, M, M', ds, Q, ok, r, hf, q => by
    simp only [hMap] at hf
    obtain ⟨⟨w, M1⟩, hd, hf⟩ := Option.bind_eq_some_iff.mp hf
    obtain ⟨⟨ws, Mb⟩, he, hf⟩ := Option.bind_eq_some_iff.mp hf
    cases hf
    refine ⟨S, M, δ, w, M1, rfl, ok, r, hd, fun v S1 x1 ok1 r1 => ?_⟩
    refine pairs_runH (kfs := rest) ok1 (r.mono x1) he fun kvs S2 x2 ok2 r2 ek => ?_
    exact q ((Sum.inr k, v) :: kvs) S2 (x1.trans x2) ok2 ⟨v, kvs, rfl, r1.mono x2, r2⟩ (by rw [List.map_cons, List.map_cons, ek])
section
variable {X : Cx} {a b c e : Expr} {pos : Pos}
theorem he_dict {keys : List (Option Expr)} {values : List Expr} {kfs : List (Str × FH)} (h : PPs X pos keys values (trsH X.K kfs)) (hall : keys.all (·.isSome) = true := by rfl) (hl : keys.length = values.length := by rfl) (h0 : keys ≠ [] := by (intro z; cases z)) (h15 : keys.length ≤ 15 := by decide) : HE X (.Dict keys values pos) (hDict kfs) := by
  refine pe_conseq (pe_disp h hall hl h0 h15) fun σ H Q h => ?_
  obtain ⟨S, M, δ, w, M', rfl, ok, r, hf, q⟩ := h
  unfold hDict at hf
  obtain ⟨⟨ds, M1⟩, hx, hf⟩ := Option.bind_eq_some_iff.mp hf
  have hf : (if kfs.length ≤ 15 && decide (kfs.map (·.1)).Nodup then some (W.l M1.length, M1 ++ [Cell.dct ds]) else none) = some (w, M') := hf
  split at hf
  · rename_i hz
    cases hf
    rw [Bool.and_eq_true, decide_eq_true_eq, decide_eq_true_eq] at hz
    intro p hp
    have zp : S.Z p = none := ok.zh.free hp
    obtain ⟨le0, ok0⟩ := ok_ex ok (T := ⟨S.Z, upd S.H p (.dK []), ok.zh.trans (same_upd hp _)⟩) ⟨Same.refl _, same_upd hp _, fun _ h _ => h⟩
    refine pairs_runH (S := ⟨S.Z, upd S.H p (.dK []), S.L⟩) ok0 (r.mono le0) hx fun kvs S2 x2 ok2 rk ek => ?_
    have nl : p ∉ S.L := not_cell ok hp
    have hp2 : S2.H p = some (.dK []) := x2.f p _ upd_same nl
    have zp2 : S2.Z p = none := x2.c p zp (by show upd S.H p _ p ≠ none; rw [upd_same]; simp) nl
    have np2 : p ∉ S2.L := fun hm => by
      rcases x2.n p hm with g | g
      · exact nl g
      · have g : upd S.H p (.dK []) p = none := g
        rw [upd_same] at g; cases g
    have nd : (kvs.map (·.1)).Nodup := by
      rw [ek]
      have e3 : kfs.map (fun kf => (Sum.inr kf.1 : Key)) = (kfs.map (·.1)).map Sum.inr := by rw [List.map_map]; rfl
      rw [e3]
      exact List.Pairwise.map _ (fun a b hab hc => hab (Sum.inr.inj hc)) hz.2
    have lk : kvs.length = kfs.length := by
      have := congrArg List.length ek
      simpa using this
    refine ⟨hp2, kvs, rfl, by omega, ?_⟩
    have em : mergeK [] kvs = kvs := by rw [mergeK_fresh (by simpa using nd)]; rfl
    rw [em]
    obtain ⟨le3, ok3⟩ := ok_new2 ok2 (le0.trans x2) hp np2 zp2 (.dct ds) (.dK kvs) fun T gr hT => ⟨kvs, hT, rk.gr gr⟩
    refine q (.ref p) ⟨S2.Z, upd S2.H p (.dK kvs), S2.L ++ [p]⟩ le3 ok3 ⟨p, ?_, rfl⟩
    show (S2.L ++ [p])[M1.length]? = some p
    rw [← ok2.len, List.getElem?_append_right (Nat.le_refl _), Nat.sub_self]
    rfl
  · cases hf
/-! ### and -/
def hAnd (fa fb : FH) : FH := fun δ M => (fa δ M).bind fun (x, M1) => match x with
  | .d (.bool true) => fb δ M1
  | .d (.bool false) => some (.d (.bool false), M1)
  | _ => none
theorem he_and {rest : List Expr} {fa fb : FH} (ha : HE X a fa) (hb : HE X (.BoolOp .And (b :: rest) pos) fb) : HE X (.BoolOp .And (a :: b :: rest) pos) (hAnd fa fb) := by
  refine pe_conseq (pe_and ha hb) fun σ H Q h => ?_
  obtain ⟨S, M, δ, w, M', rfl, ok, r, hf, q⟩ := h
  obtain ⟨⟨x, M1⟩, hx, hf⟩ := Option.bind_eq_some_iff.mp hf
  refine ⟨S, M, δ, x, M1, rfl, ok, r, hx, fun v S1 x1 ok1 r1 => ?_⟩
  cases x with
  | l n => cases hf
  | d x =>
    cases x with
    | bool k =>
      cases r1
      refine ⟨k, rfl, ?_⟩
      cases k with
      | true => rw [if_pos rfl]; exact ⟨S1, M1, δ, w, M', rfl, ok1, r.mono x1, hf, fun v S2 x2 ok2 r2 => q v S2 (x1.trans x2) ok2 r2⟩
      | false =>
        rw [if_neg (by decide)]
        cases hf
        exact q _ S1 x1 ok1 (Rv.bl false)
    | _ => cases hf
/-! ### statements -/
inductive OutH where
  | nx (δ : Env) (M : List Cell)
  | rt (w : W) (M : List Cell)
  | bk (δ : Env) (M : List Cell)
  | ct (δ : Env) (M : List Cell)
abbrev GH := Env → List Cell → Option OutH
def fitsH (K : PySem.W.Frag) (Se : Sm) (Dn : Ends) : OutH → Prop
  | .nx δ M => ∀ σ S, Le Se S → OkS K S M → RH K S σ δ → Dn.nx σ S.H
  | .rt w M => ∀ v S, Le Se S → OkS K S M → Rw K S w v → Dn.rt v S.H
  | .bk δ M => ∀ σ S, Le Se S → OkS K S M → RH K S σ δ → Dn.bk σ S.H
  | .ct δ M => ∀ σ S, Le Se S → OkS K S M → RH K S σ δ → Dn.ct σ S.H
def tGH (K : PySem.W.Frag) (g : GH) : TS := fun Dn σ H => ∃ (Se S : Sm) (M : List Cell) (δ : Env) (o : OutH), S.H = H ∧ Le Se S ∧ OkS K S M ∧ RH K S σ δ ∧ g δ M = some o ∧ fitsH K Se Dn o
abbrev HS (X : Cx) (st : Stmt) (g : GH) : Prop := PS X st (tGH X.K g)
abbrev HB (X : Cx) (sts : List Stmt) (g : GH) : Prop := PSs X sts (tGH X.K g)
def sSeq (g g' : GH) : GH := fun δ M => (g δ M).bind fun o => match o with
  | .nx δ' M' => g' δ' M'
  | o => some o
def sNil : GH := fun δ M => some (.nx δ M)
theorem hb_nil : HB X [] sNil := pss_conseq pss_nil fun Dn σ H h => by
  obtain ⟨Se, S, M, δ, o, rfl, x, ok, r, hf, q⟩ := h
  cases hf
  exact q σ S x ok r
theorem hb_cons {st : Stmt} {rest : List Stmt} {g g' : GH} (h : HS X st g) (t : HB X rest g') : HB X (st :: rest) (sSeq g g') := pss_conseq (pss_cons h t) fun Dn σ H h => by
  obtain ⟨Se, S, M, δ, o, rfl, x, ok, r, hf, q⟩ := h
  obtain ⟨o1, h1, hf⟩ := Option.bind_eq_some_iff.mp hf
  refine ⟨Se, S, M, δ, o1, rfl, x, ok, r, h1, ?_⟩
  cases o1 with
  | nx δ' M' => exact fun σ' S' x' ok' r' => ⟨Se, S', M', δ', o, rfl, x', ok', r', hf, q⟩
  | rt w M' => cases hf; exact q
  | bk δ' M' => cases hf; exact q
  | ct δ' M' => cases hf; exact q
theorem hb_one {st : Stmt} {g : GH} (h : HS X st g) : HB X [st] g := pss_one h
def sIf (ft : FH) (g g' : GH) : GH := fun δ M => match ft δ M with
  | some (.d (.bool true), M1) => g δ M1
  | some (.d (.bool false), M1) => g' δ M1
  | _ => none
theorem hs_if {ft : FH} {s1 s2 : List Stmt} {g g' : GH} (h : PT X c (tHT X.K ft)) (h1 : HB X s1 g) (h2 : HB X s2 g') : HS X (.If c s1 s2 pos) (sIf ft g g') := ps_conseq (ps_if h h1 h2) fun Dn σ H h => by
  obtain ⟨Se, S, M, δ, o, rfl, x, ok, r, hf, q⟩ := h
  unfold sIf at hf
  split at hf
  · rename_i M1 ht
    refine ⟨S, M, δ, true, M1, rfl, ok, r, ht, fun S1 x1 ok1 => ?_⟩
    refine iteT ?_
    exact ⟨Se, S1, M1, δ, o, rfl, x.trans x1, ok1, r.mono x1, hf, q⟩
  · rename_i M1 ht
    refine ⟨S, M, δ, false, M1, rfl, ok, r, ht, fun S1 x1 ok1 => ?_⟩
    refine iteF ?_
    exact ⟨Se, S1, M1, δ, o, rfl, x.trans x1, ok1, r.mono x1, hf, q⟩
  · cases hf
def sRet (f : FH) : GH := fun δ M => (f δ M).map fun (w, M1) => .rt w M1
theorem hs_ret {f : FH} (h : HE X e f) : HS X (.Return (some e) pos) (sRet f) := ps_conseq (ps_ret h) fun Dn σ H h => by
  obtain ⟨Se, S, M, δ, o, rfl, x, ok, r, hf, q⟩ := h
  obtain ⟨⟨w, M1⟩, hx, rfl⟩ := Option.map_eq_some_iff.mp hf
  exact ⟨S, M, δ, w, M1, rfl, ok, r, hx, fun v S1 x1 ok1 r1 => q v S1 (x.trans x1) ok1 r1⟩
def sRetN : GH := fun _ M => some (.rt (.d .none) M)
theorem hs_retN : HS X (.Return none pos) sRetN := ps_conseq ps_retN fun Dn σ H h => by
  obtain ⟨Se, S, M, δ, o, rfl, x, ok, r, hf, q⟩ := h
  cases hf
  exact q _ S x ok Rv.non
def sBk : GH := fun δ M => some (.bk δ M)
def sCt : GH := fun δ M => some (.ct δ M)
theorem hs_break : HS X (.Break pos) sBk := ps_conseq ps_break fun Dn σ H h => by
  obtain ⟨Se, S, M, δ, o, rfl, x, ok, r, hf, q⟩ := h
  cases hf
  exact q σ S x ok r
theorem hs_continue : HS X (.Continue pos) sCt := ps_conseq ps_continue fun Dn σ H h => by
  obtain ⟨Se, S, M, δ, o, rfl, x, ok, r, hf, q⟩ := h
  cases hf
  exact q σ S x ok r
/-- x = e -/
def sSet (i : Nat) (f : FH) : GH := fun δ M => (f δ M).map fun (w, M1) => .nx (δ.set i (some w)) M1
theorem hs_set {i : Nat} {x : Str} {pos' : Pos} {f : FH} (hN : X.N.Nodup) (hi : X.N[i]? = some x) (hx : Loc X.env.scope x) (h : HE X e f)
    (hf : X.fn x = true ∨ X.env.scope.names.lookup x = some .local := by first | exact .inl rfl | exact .inr rfl | assumption) (hs : swapsWith e (some (.Name x pos')) pos.line X.env = pure false := by rfl) : HS X (.Assign [.Name x pos'] e pos) (sSet i f) :=
  ps_conseq (ps_set (i := i) hN hi hx h hs hf) fun Dn σ H h => by
    obtain ⟨Se, S, M, δ, o, rfl, x, ok, r, hf, q⟩ := h
    obtain ⟨⟨w, M1⟩, hx, rfl⟩ := Option.map_eq_some_iff.mp hf
    exact ⟨S, M, δ, w, M1, rfl, ok, r, hx, fun v S1 x1 ok1 r1 => q _ S1 (x.trans x1) ok1 ((r.mono x1).set r1)⟩
theorem setH_run {K : PySem.W.Frag} {i : Nat} {f : FH} {Dn : Ends} {σ : L2.St} {H : Hp} (h : tGH K (sSet i f) Dn σ H) : tAsg (tH K f) (gName i) Dn σ H := by
  obtain ⟨Se, S, M, δ, o, rfl, x, ok, r, hf, q⟩ := h
  obtain ⟨⟨w, M1⟩, hx, rfl⟩ := Option.map_eq_some_iff.mp hf
  exact ⟨S, M, δ, w, M1, rfl, ok, r, hx, fun v S1 x1 ok1 r1 => q _ S1 (x.trans x1) ok1 ((r.mono x1).set r1)⟩
theorem nlc_run {K : PySem.W.Frag} {fi : FI} {i : Nat} {ft fe : FE} {σ : L2.St} {H : Hp} {Q : VK} (h : tDO2 K (nLc fi i ft fe) σ H Q) : tLc (tWI K fi) (gName i) (tDT K ft) (tD K fe) [i] σ H Q := by
  obtain ⟨E, S, δ, ys, rfl, r, hf, q⟩ := h
  obtain ⟨ds, hx, hf⟩ := Option.bind_eq_some_iff.mp hf
  obtain ⟨ys', hy, hf⟩ := Option.bind_eq_some_iff.mp hf
  split at hf
  · rename_i hz
    cases hf
    exact lc_runO r hx hy hz q
  · cases hf
theorem hs_setLc {i j : Nat} {y x : Str} {py spos : Pos} {elt tg iter : Expr} {ifs : List Expr} {scope : Scope} {fi : FI} {ft fe : FE} (hc : X.calm = true) (hN : X.N.Nodup) (hy : X.N[j]? = some y) (hyl : X.env.scope.names.lookup y = some .local)
    (hsw : swapsWith (.ListComp elt [⟨tg, iter, ifs, 0⟩] scope pos) (some (.Name y py)) spos.line X.env = pure true) (hi : WI X tg iter fi) (ok : BlkOk X.N X.env.scope scope [(x, i)])
    (hg : ∀ (s : Shared) (H : Hp) (C : Addr) (cl : List (Str × Addr)) (fp : List Addr), PG (X.blk s H scope (compEnvC scope cl C X.env) fp) tg (gName i)) (ht : ∀ (s : Shared) (H : Hp) (C : Addr) (cl : List (Str × Addr)) (fp : List Addr), PTs (X.blk s H scope (compEnvC scope cl C X.env) fp) ifs (tDT X.K ft))
    (he : ∀ (s : Shared) (H : Hp) (C : Addr) (cl : List (Str × Addr)) (fp : List Addr), PE (X.blk s H scope (compEnvC scope cl C X.env) fp) elt (tD X.K fe)) (hs : ∀ x, foldedSetIterable iter X.env x = pure x := by intro _; rfl) :
    HS X (.Assign [.Name y py] (.ListComp elt [⟨tg, iter, ifs, 0⟩] scope pos) spos) (sSet j (hViewO (nLc fi i ft fe))) :=
  ps_conseq (ps_setLc (own := [(x, i)]) (i := j) hc hN hy hyl hsw hi ok hg ht he hs) fun Dn σ H h => nlc_run (viewO_run (Q := fun x H1 => gName j x σ H1 Dn.nx) (setH_run h))
/-- o.append(e) -/
def sApp (fo f : FH) : GH := fun δ M => (fo δ M).bind fun (x, M1) => (f δ M1).bind fun (w, M2) => match x with
  | .l n => match M1[n]?, M2[n]? with
    | some (.lst _), some (.lst ws) => if ws.length < lim then some (.nx δ (M2.set n (.lst (ws ++ [w])))) else none
    | _, _ => none
  | _ => none
theorem hs_append {o : Expr} {apos cpos epos : Pos} {fo f : FH} (ho : HE X o fo) (h : HE X e f)
    (hbase : attributeBase o "append" X.env (eval o X.env) = eval o X.env := by rfl)
    (hfew : ((backTo cpos (starEach [e] X.env)).all (fun x => !x.1) && (backToKw cpos (keywordEach [] X.env)).all (fun x => x.1.isSome) && decide ([e].length + ([] : List Keyword).length + (if ([] : List Keyword).isEmpty then 0 else 1) < 30)) = true := by rfl)
    (hline : (apos.endLine == cpos.line) = true := by rfl) (hs : starEach [e] X.env = (false, eval e X.env) :: starEach [] X.env := by rfl) (hplain : (backTo cpos (starEach [] X.env)).any (·.1) = false := by rfl)
    : HS X (.Expr (.Call (.Attribute o "append" apos) [e] [] cpos) epos) (sApp fo f) :=
  ps_conseq (ps_expr (pe_bm PySem.F.plainAttrs_list PySem.F.slot_list_append PySem.F.type_list_append mt_append ho (pa_cons h pa_nil hs) hbase hfew hline hs hplain)) fun Dn σ H h => by
    obtain ⟨Se, S, M, δ, o, rfl, xe, ok, r, hf, q⟩ := h
    obtain ⟨⟨x, M1⟩, h1, hf⟩ := Option.bind_eq_some_iff.mp hf
    obtain ⟨⟨w, Mb⟩, h2, hf⟩ := Option.bind_eq_some_iff.mp hf
    refine ⟨S, M, δ, x, M1, rfl, ok, r, h1, fun v S1 x1 ok1 r1 => ?_⟩
    cases x with
    | d x => cases hf
    | l n =>
      have hf : (match M1[n]?, Mb[n]? with | some (.lst _), some (.lst ws) => if ws.length < lim then some (OutH.nx δ (Mb.set n (.lst (ws ++ [w])))) else none | _, _ => none) = some o := hf
      split at hf
      · rename_i ws0 ws hc0 hc
        split at hf
        · rename_i hz
          cases hf
          obtain ⟨p, g1, rfl⟩ := r1
          obtain ⟨vs0, g2, g3⟩ := ok1.cell n p _ g1 hc0
          refine ⟨.inl ⟨rfl, vs0, .inl (.inl g2)⟩, S1, M1, δ, w, Mb, rfl, ok1, r.mono x1, h2, fun y S2 x2 ok2 r2 => ?_⟩
          obtain ⟨t, et⟩ := x2.l
          have g1' : S2.L[n]? = some p := by rw [et, List.getElem?_append_left (List.getElem?_eq_some_iff.mp g1).1]; exact g1
          obtain ⟨vs, g4, g5⟩ := ok2.cell n p _ g1' hc
          refine ⟨p, vs, y, rfl, rfl, g4, by rw [g5.length]; exact Nat.lt_of_lt_of_le hz lim_line, ?_⟩
          obtain ⟨le3, ok3⟩ := ok_set ok2 g1' (.lst (ws ++ [w])) (.lst (vs ++ [y])) fun T lt hT => ⟨_, hT, RwL.append (g5.mono lt) ⟨y, [], rfl, r2.mono lt, rfl⟩⟩
          exact q σ ⟨S2.Z, upd S2.H p (.lst (vs ++ [y])), S2.L⟩ (xe.trans (x1.trans (x2.trans le3))) ok3 (r.mono (x1.trans (x2.trans le3)))
        · cases hf
      · cases hf
/-! ### for -/
abbrev FHI := Env → List Cell → Option (List D × List Cell)
def tHI (K : PySem.W.Frag) (f : FHI) : TI := fun σ H Rk => ∃ (S : Sm) (M : List Cell) (δ : Env) (ds : List D) (M' : List Cell), S.H = H ∧ OkS K S M ∧ RH K S σ δ ∧ f δ M = some (ds, M') ∧ ∀ J S' (ok' : OkS K S' M'), Le S S' → ItD K J (S'.st ok'.zh) ds → Rk J S'.H
abbrev HI (X : Cx) (tg e : Expr) (f : FHI) : Prop := PI X tg e (tHI X.K f)
def iLift (fi : FI) : FHI := fun δ M => (fi (pview δ)).map fun ds => (ds, M)
theorem hi_lift {tg : Expr} {fi : FI} (h : WI X tg e fi) : HI X tg e (iLift fi) := pi_conseq h fun σ H Rk q => by
  obtain ⟨S, M, δ, ds, M', rfl, ok, r, hf, q⟩ := q
  obtain ⟨es, hd, hf⟩ := Option.map_eq_some_iff.mp hf
  cases hf
  refine ⟨S.H, S.st ok.zh, pview δ, ds, rfl, pview_r ok.zh r, hd, fun J T x it => ?_⟩
  obtain ⟨le, ok'⟩ := ok_ex ok x
  exact q J ⟨T.Z, T.H, S.L⟩ ok' le it
def iH1 (g : FHA) : FHI := fun δ M => (g δ M).bind fun (ws, M1) => match ws with
  | [.d (.int j)] => if -(2 ^ 62) ≤ j ∧ j < 2 ^ 62 then some (rangeD 0 j.toNat, M1) else none
  | _ => none
def iH2 (g : FHA) : FHI := fun δ M => (g δ M).bind fun (ws, M1) => match ws with
  | [.d (.int i), .d (.int j)] => if -(2 ^ 62) ≤ i ∧ i < 2 ^ 62 ∧ -(2 ^ 62) ≤ j ∧ j < 2 ^ 62 then some (rangeD i (j - i).toNat, M1) else none
  | _ => none
theorem hi_range1 {tg : Expr} {p : Pos} {g : FHA} (hg : Gl X "range") (hm : X.mg "range" = none) (ha : HA X [a] g) (hs : starEach [a] X.env = [(false, eval a X.env)] := by rfl) : HI X tg (.Call (.Name "range" p) [a] [] pos) (iH1 g) := by
  refine pi_conseq (pi_range1 hg hm ha hs) fun σ H Rk h => ?_
  obtain ⟨S, M, δ, ds, M', rfl, ok, r, hf, q⟩ := h
  obtain ⟨⟨es, M1⟩, hx, hf⟩ := Option.bind_eq_some_iff.mp hf
  refine ⟨S, M, δ, es, M1, rfl, ok, r, hx, fun vs S1 x1 ok1 r1 => ?_⟩
  simp only at hf
  split at hf
  · split at hf
    · rename_i j hz
      cases hf
      obtain ⟨v, t, rfl, r2, r3⟩ := r1
      cases r3
      cases r2
      exact ⟨j, rfl, hz.1, hz.2, q _ S1 ok1 x1 itd_range⟩
    · cases hf
  · cases hf
theorem hi_range2 {tg : Expr} {p : Pos} {g : FHA} (hg : Gl X "range") (hm : X.mg "range" = none) (ha : HA X [a, b] g) (hs : starEach [a, b] X.env = [(false, eval a X.env), (false, eval b X.env)] := by rfl) (hs2 : starEach [b] X.env = [(false, eval b X.env)] := by rfl) : HI X tg (.Call (.Name "range" p) [a, b] [] pos) (iH2 g) := by
  refine pi_conseq (pi_range2 hg hm ha hs hs2) fun σ H Rk h => ?_
  obtain ⟨S, M, δ, ds, M', rfl, ok, r, hf, q⟩ := h
  obtain ⟨⟨es, M1⟩, hx, hf⟩ := Option.bind_eq_some_iff.mp hf
  refine ⟨S, M, δ, es, M1, rfl, ok, r, hx, fun vs S1 x1 ok1 r1 => ?_⟩
  simp only at hf
  split at hf
  · split at hf
    · rename_i i j hz
      cases hf
      obtain ⟨v, t, rfl, r2, v2, t2, rfl, r4, r3⟩ := r1
      cases r3
      cases r2
      cases r4
      exact ⟨i, j, rfl, hz, q _ S1 ok1 x1 itd_range⟩
    · cases hf
  · cases hf
def forH (i : Nat) (body : GH) : List D → GH
  | [], δ, M => some (.nx δ M)
  | d :: r, δ, M => match body (δ.set i (some (.d d))) M with
    | some (.nx δ' M') => forH i body r δ' M'
    | some (.ct δ' M') => forH i body r δ' M'
    | some (.bk δ' M') => some (.nx δ' M')
    | some (.rt w M') => some (.rt w M')
    | none => none
def sFor (fi : FHI) (i : Nat) (body : GH) : GH := fun δ M => (fi δ M).bind fun (ds, M1) => forH i body ds δ M1
theorem hs_for {tg iter : Expr} {body : List Stmt} {fi : FHI} {i : Nat} {g : GH} (hp : PassesOwn (model X.prog X.w) X.A X.env X.xe) (hc : X.calm = true) (hi : HI X tg iter fi) (hg : PG X tg (gName i)) (hb : HB X body g) (hs : ∀ x, foldedSetIterable iter X.env x = pure x := by intro _; rfl) : HS X (.For tg iter body [] pos) (sFor fi i g) :=
  ps_conseq (ps_for hp hc hi hg hb (hs := hs)) fun Dn σ H h => by
    obtain ⟨Se, S, M, δ, o, rfl, x, ok, r, hf, q⟩ := h
    obtain ⟨⟨ds, M1⟩, hx, hf⟩ := Option.bind_eq_some_iff.mp hf
    have hf : forH i g ds δ M1 = some o := hf
    refine ⟨S, M, δ, ds, M1, rfl, ok, r, hx, fun J S1 ok1 x1 it => ?_⟩
    have xe : Le Se S1 := x.trans x1
    let Pv : Nat → L2.St → Hp → Prop := fun k σ H => ∃ (S' : Sm) (M' : List Cell) (δ' : Env), S'.H = H ∧ Le S1 S' ∧ OkS X.K S' M' ∧ RH X.K S' σ δ' ∧ forH i g (ds.drop k) δ' M' = some o
    refine ⟨fun k m σ H => m = ds.length - k ∧ k ≤ ds.length ∧ Pv k σ H, ⟨ds.length, by simp, Nat.zero_le _, S1, M1, δ, rfl, .refl S1, ok1, r.mono x1, hf⟩, ?_⟩
    rintro k m σ H ⟨rfl, hk, S', M', δ', rfl, x', ok', r', hl⟩
    by_cases hlt : k < ds.length
    · refine .inr ⟨it.go k (S'.st ok'.zh) x'.z hlt, Pv (k + 1), fun σ' H' p => ⟨ds.length - (k + 1), by omega, rfl, hlt, p⟩, fun v H' hyld => ?_⟩
      obtain ⟨d, S2, hd, x2, rfl, rd⟩ := it.yld k (S'.st ok'.zh) v H' x'.z hlt hyld
      obtain ⟨le2, ok2⟩ := ok_ex ok' x2
      rw [List.drop_eq_getElem_cons hlt] at hl
      have ed : ds[k] = d := by rw [List.getElem?_eq_getElem hlt] at hd; exact Option.some.inj hd
      rw [ed] at hl
      simp only [forH] at hl
      have rr : RH X.K ⟨S2.Z, S2.H, S'.L⟩ (σ.set i (some v)) (δ'.set i (some (.d d))) := (r'.mono le2).set rd
      have x2' := x'.trans le2
      split at hl
      · rename_i hb1
        exact ⟨S1, ⟨S2.Z, S2.H, S'.L⟩, _, _, _, rfl, x2', ok2, rr, hb1, fun σ3 S3 x3 ok3 r3 => ⟨S3, _, _, rfl, x3, ok3, r3, hl⟩⟩
      · rename_i hb1
        exact ⟨S1, ⟨S2.Z, S2.H, S'.L⟩, _, _, _, rfl, x2', ok2, rr, hb1, fun σ3 S3 x3 ok3 r3 => ⟨S3, _, _, rfl, x3, ok3, r3, hl⟩⟩
      · rename_i hb1
        cases hl
        exact ⟨S1, ⟨S2.Z, S2.H, S'.L⟩, _, _, _, rfl, x2', ok2, rr, hb1, fun σ3 S3 x3 ok3 r3 => q σ3 S3 (xe.trans x3) ok3 r3⟩
      · rename_i hb1
        cases hl
        exact ⟨S1, ⟨S2.Z, S2.H, S'.L⟩, _, _, _, rfl, x2', ok2, rr, hb1, fun v3 S3 x3 ok3 r3 => q v3 S3 (xe.trans x3) ok3 r3⟩
      · cases hl
    · have ek : k = ds.length := by omega
      subst ek
      rw [List.drop_length] at hl
      cases hl
      exact .inl ⟨it.stop (S'.st ok'.zh) x'.z, q σ S' (xe.trans x') ok' r'⟩
/-- while, at most n turns -/
def whileH (ft : FH) (body : GH) : Nat → GH
  | 0, _, _ => none
  | n + 1, δ, M => match ft δ M with
    | some (.d (.bool true), M1) => match body δ M1 with
      | some (.nx δ' M') => whileH ft body n δ' M'
      | some (.ct δ' M') => whileH ft body n δ' M'
      | some (.bk δ' M') => some (.nx δ' M')
      | some (.rt w M') => some (.rt w M')
      | none => none
    | some (.d (.bool false), M1) => some (.nx δ M1)
    | _ => none
theorem hs_while (n : Nat) {body : List Stmt} {ft : FH} {g : GH} (hp : PassesOwn (model X.prog X.w) X.A X.env X.xe) (ht : PT X c (tHT X.K ft)) (hb : HB X body g) : HS X (.While c body [] pos) (whileH ft g n) :=
  ps_conseq (ps_while hp ht hb) fun Dn σ H h => by
    obtain ⟨Se, S, M, δ, o, rfl, x, ok, r, hf, q⟩ := h
    refine ⟨fun m σ H => ∃ (S' : Sm) (M' : List Cell) (δ' : Env), S'.H = H ∧ Le Se S' ∧ OkS X.K S' M' ∧ RH X.K S' σ δ' ∧ whileH ft g m δ' M' = some o, ⟨n, S, M, δ, rfl, x, ok, r, hf⟩, ?_⟩
    rintro m σ H ⟨S', M', δ', rfl, x', ok', r', hl⟩
    cases m with
    | zero => cases hl
    | succ m =>
      simp only [whileH] at hl
      split at hl
      · rename_i M1 ht1
        refine ⟨S', M', δ', true, M1, rfl, ok', r', ht1, fun S1 x1 ok1 => ?_⟩
        refine iteT ?_
        refine ⟨fun σ2 H2 => ∃ (S2 : Sm) (M2 : List Cell) (δ2 : Env), S2.H = H2 ∧ Le Se S2 ∧ OkS X.K S2 M2 ∧ RH X.K S2 σ2 δ2 ∧ whileH ft g m δ2 M2 = some o, fun σ2 H2 p => ⟨m, Nat.lt_succ_self _, p⟩, ?_⟩
        split at hl
        · rename_i hb1
          exact ⟨Se, S1, M1, _, _, rfl, x'.trans x1, ok1, r'.mono x1, hb1, fun σ3 S3 x3 ok3 r3 => ⟨S3, _, _, rfl, x3, ok3, r3, hl⟩⟩
        · rename_i hb1
          exact ⟨Se, S1, M1, _, _, rfl, x'.trans x1, ok1, r'.mono x1, hb1, fun σ3 S3 x3 ok3 r3 => ⟨S3, _, _, rfl, x3, ok3, r3, hl⟩⟩
        · rename_i hb1
          cases hl
          exact ⟨Se, S1, M1, _, _, rfl, x'.trans x1, ok1, r'.mono x1, hb1, fun σ3 S3 x3 ok3 r3 => q σ3 S3 x3 ok3 r3⟩
        · rename_i hb1
          cases hl
          exact ⟨Se, S1, M1, _, _, rfl, x'.trans x1, ok1, r'.mono x1, hb1, fun v3 S3 x3 ok3 r3 => q v3 S3 x3 ok3 r3⟩
        · cases hl
      · rename_i M1 ht1
        cases hl
        refine ⟨S', M', δ', false, M1, rfl, ok', r', ht1, fun S1 x1 ok1 => ?_⟩
        refine iteF ?_
        exact q σ S1 (x'.trans x1) ok1 (r'.mono x1)
      · cases hl
end
/-! ### calls, defs -/
abbrev FHF := List W → List Cell → Option (W × List Cell)
def spH (K : PySem.W.Frag) (F : FHF) : Sp := fun vs H Q _ => ∃ (S : Sm) (M : List Cell) (ws : List W) (w : W) (M' : List Cell), S.H = H ∧ OkS K S M ∧ RwL K S ws vs ∧ F ws M = some (w, M') ∧ ∀ v S', Le S S' → OkS K S' M' → Rw K S' w v → Q v S'.H
def hCall (F : FHF) (g : FHA) : FH := fun δ M => (g δ M).bind fun (ws, M1) => F ws M1
def Fh (P : Program) (w : World) (K : PySem.W.Frag) (mg : Str → Option Value) (base : Heap) (x : Str) (ps : List Str) (lv : Nat) (F : FHF) : Prop :=
  ∃ (fa : Addr) (fd : FuncData), FnOk P w K mg base CX0 lv fa fd ps (spH K F) ∧ mg x = some (.ref fa) ∧ PySem.W.keepIn K (.ref fa) = true ∧ Binds K fd ps [] ∧ ∃ oc od osl, K.lookup fa = some ⟨oc, od, .func fd, osl⟩
section
variable {X : Cx} {a b c e : Expr} {pos : Pos}
theorem he_call {x : Str} {ps : List Str} {k j : Nat} {es : List Expr} {p : Pos} {F : FHF} {g : FHA} (cx : Fh X.prog X.w X.K X.mg X.base x ps k F) (hr : Room j X.A) (hk : k ≤ j) (hg : Gl X x)
    (ha : HA X (e :: es) g) (hdb : (x == ("__debug__" : Str)) = false := by decide) (he : starEach (e :: es) X.env = (false, eval e X.env) :: starEach es X.env := by rfl) (hpl : (backTo pos (starEach es X.env)).any (·.1) = false := by rfl) : HE X (.Call (.Name x p) (e :: es) [] pos) (hCall F g) :=
  let ⟨_, _, G, hm, kp, hb, _⟩ := cx
  pe_conseq (pe_call G (hr.mono hk) hg hm kp hb .nil pass0 ha hdb he hpl) fun σ H Q h => by
    obtain ⟨S, M, δ, w, M', rfl, ok, r, hf, q⟩ := h
    obtain ⟨⟨ws, M1⟩, hx, hf⟩ := Option.bind_eq_some_iff.mp hf
    exact ⟨S, M, δ, ws, M1, rfl, ok, r, hx, fun vs S1 x1 ok1 r1 => ⟨S1, M1, ws, w, M', rfl, ok1, by rw [List.append_nil]; exact r1, hf, fun v S2 x2 ok2 r2 => q v S2 (x1.trans x2) ok2 r2⟩⟩
end
def startH (n : Nat) (ws : List W) : Env := ws.map some ++ List.replicate (n - ws.length) none
def runH (n np : Nat) (g : GH) : FHF := fun ws M => if ws.length = np then match g (startH n ws) M with
  | some (.rt w M') => some (w, M')
  | some (.nx _ M') => some (.d .none, M')
  | _ => none
  else none
theorem start_rh {K : PySem.W.Frag} {S : Sm} {N : List Str} {vs : List V} {ws : List W} (h : RwL K S ws vs) (hn : ws.length ≤ N.length) : RH K S (L2.start N vs) (startH N.length ws) := by
  have hl := h.length
  refine ⟨?_, fun i w e => ?_⟩
  · unfold L2.start startH
    simp [hl]
  · unfold startH at e
    unfold L2.start
    by_cases hi : i < ws.length
    · rw [List.getElem?_append_left (by simpa using hi), List.getElem?_map, List.getElem?_eq_getElem hi] at e
      cases e
      obtain ⟨v, h1, h2⟩ := h.get (List.getElem?_eq_getElem hi)
      exact ⟨v, by rw [List.getElem?_append_left (by simp; omega), List.getElem?_map, h1]; rfl, h2⟩
    · rw [List.getElem?_append_right (by simp; omega), List.length_map, List.getElem?_replicate] at e
      split at e <;> cases e
theorem fn_h {P : Program} {w : World} {K : PySem.W.Frag} {mg : Str → Option Value} {base : Heap} {x qual : Str} {st : Stmt} {fa : Addr} {fd : FuncData} {N ps : List Str} {k : Nat} {g : GH} (F : Fun K x qual st fa fd) (Sc : FnScope N ps (defScope st)) (hle : ps.length ≤ N.length)
    (hbody : ∀ (cdv : Value) (A : Around) (outer : List PySem.Env) (s : Shared) (H : Hp) (E : XK), Room k (A.deeper (envOfC qual (defScope st) s.heap.objs.size fa cdv)) → HB (cxOf CX0 P w K mg base N qual (defScope st) fa cdv A outer s H E).nox (defBody st) g) :
    FnOk P w K mg base CX0 (k + 1) fa fd ps (spH K (runH N.length ps.length g)) := by
  refine F.ok Sc (fun vs H Q E h => ?_) (fun cdv A outer s H vs Q E hr h => ?_)
  · obtain ⟨S, M, ws, w, M', rfl, ok, rl, hf, q⟩ := h
    unfold runH at hf
    split at hf
    · rename_i hz
      rw [rl.length, hz]
    · cases hf
  · refine ⟨_, hbody cdv A outer s H E hr, ?_⟩
    obtain ⟨S, M, ws, w, M', rfl, ok, rl, hf, q⟩ := h
    unfold runH at hf
    split at hf
    · rename_i hz
      have r0 := start_rh (N := N) rl (by omega)
      split at hf
      · rename_i w' M1 hg
        cases hf
        exact ⟨S, S, M, _, _, rfl, .refl S, ok, r0, hg, fun v S' x' ok' r' => q v S' x' ok' r'⟩
      · rename_i δ' M1 hg
        cases hf
        exact ⟨S, S, M, _, _, rfl, .refl S, ok, r0, hg, fun σ' S' x' ok' _ => q .non S' x' ok' Rv.non⟩
      · cases hf
    · cases hf
theorem fh_of {P : Program} {w : World} {K : PySem.W.Frag} {mg : Str → Option Value} {base : Heap} {x : Str} {st : Stmt} {N ps : List Str} {k n np : Nat} {g : GH} (d : Df K mg x st ps) (Sc : FnScope N ps (defScope st)) (hn : N.length = n) (hp : ps.length = np) (hle : np ≤ n)
    (hbody : ∀ (fa : Addr) (cdv : Value) (A : Around) (outer : List PySem.Env) (s : Shared) (H : Hp) (E : XK), Room k (A.deeper (envOfC x (defScope st) s.heap.objs.size fa cdv)) → HB (cxOf CX0 P w K mg base N x (defScope st) fa cdv A outer s H E).nox (defBody st) g) :
    Fh P w K mg base x ps (k + 1) (runH n np g) := by
  subst hn hp
  exact let ⟨fa, fd, F, hm, hb⟩ := d
  ⟨fa, fd, fn_h F Sc hle fun cdv A outer s H E hr => hbody fa cdv A outer s H E hr, hm, F.kp, hb, fun_look F⟩
theorem fh_none {P : Program} {w : World} {K : PySem.W.Frag} {mg : Str → Option Value} {base : Heap} {x : Str} {st : Stmt} {ps : List Str} {k : Nat} (d : Df K mg x st ps) : Fh P w K mg base x ps k fun _ _ => none := by
  have no : ∀ vs H Q E, ¬ spH K (fun _ _ => none) vs H Q E := fun vs H Q E h => by
    obtain ⟨_, _, _, _, _, _, _, _, e, _⟩ := h
    cases e
  exact let ⟨fa, fd, F, hm, hb⟩ := d
  ⟨fa, fd, ⟨fun vs H Q E h => absurd h (no vs H Q E), fun A outer s H args us vs Q E _ _ _ _ h => absurd h (no vs H Q E)⟩, hm, F.kp, hb, fun_look F⟩
/-- data in, data out: what it did with cells is its own affair -/
def pureF (F : FHF) : List D → Option D := fun ds => (F (ds.map .d) []).bind fun (w, M') => fzW 9 M' w
theorem pure_imp {K : PySem.W.Frag} {F : FHF} : ∀ vs H Q E, spP K (pureF F) vs H Q E → spH K F vs H Q E := by
  rintro vs H Q E ⟨S, ds, d, rfl, r, hf, q⟩
  obtain ⟨⟨w, M'⟩, h1, h2⟩ := Option.bind_eq_some_iff.mp hf
  refine ⟨⟨S.Z, S.H, []⟩, [], ds.map .d, w, M', rfl, ⟨S.ok, List.nodup_nil, rfl, fun a h => (by cases h), fun n a c h => (by cases h)⟩, RwL.ofD r, h1, fun v S' x ok rw' => ?_⟩
  refine q v ⟨Zc S', S'.H, zc_ok ok.zh⟩ ⟨fun b o e => zc_of b o (x.z b o e), fun b o e => x.f b o e (by simp), fun b g1 g2 => ?_⟩ (fz_rv ok 9 w v d rw' h2)
  show Zc S' b = none
  unfold Zc
  rw [x.c b g1 g2 (by simp)]
  show (if b ∈ S'.L then S'.H b else none) = none
  rw [if_neg]
  intro hm
  rcases x.n b hm with g | g
  · cases g
  · exact g2 g
theorem fh_pure {P : Program} {w : World} {K : PySem.W.Frag} {mg : Str → Option Value} {base : Heap} {x : Str} {ps : List Str} {k : Nat} {F : FHF} (c : Fh P w K mg base x ps k F) : Fx P w K mg base x ps k (pureF F) :=
  let ⟨fa, fd, G, hm, kp, hb, lk⟩ := c
  ⟨fa, fd, G.imp pure_imp, hm, kp, hb, lk⟩
/-- a pure def, called with data from where there are cells -/
def ofPure (F : List D → Option D) : FHF := fun ws M => (oAll (fzW 0 M) ws).bind fun ds => (F ds).map fun d => (.d d, M)
end Hd

set_option Elab.async false
set_option linter.all false
set_option maxRecDepth 100000
set_option maxHeartbeats 4000000
namespace K10
open PySem PySem.Spec PyProof.Rows L2 Pd
def topS (i : Nat) : Stmt := PySem.Challenge.pw_wardhouse_k10_told_and_read.main.body.getD i (.Pass ⟨0, 0, 0, 0⟩)
abbrev s_is_name : Stmt := topS 7
abbrev s_told : Stmt := topS 12
abbrev s_read : Stmt := topS 13
abbrev s__row : Stmt := topS 14
abbrev s__event : Stmt := topS 15
abbrev s__letter : Stmt := topS 16
abbrev s__number : Stmt := topS 17
abbrev s__are_figures : Stmt := topS 18
abbrev s__law_cell_at : Stmt := topS 20
abbrev s__law_whole : Stmt := topS 21
abbrev s__law_names : Stmt := topS 22
abbrev s__law_letter_by : Stmt := topS 23
abbrev s__law_events : Stmt := topS 24
abbrev s__law_row_by : Stmt := topS 25
abbrev s__law_words_of : Stmt := topS 26
abbrev s__law_rows_by : Stmt := topS 27
abbrev s_law : Stmt := topS 28
/-- what the top has written -/
structure TX (K : PySem.W.Frag) (mg : Str → Option Value) : Prop where
  d_is_name : Df K mg "is_name" s_is_name ["thing"]
  d_told : Df K mg "told" s_told ["events"]
  d_read : Df K mg "read" s_read ["text"]
  d__row : Df K mg "_row" s__row ["event"]
  d__event : Df K mg "_event" s__event ["words"]
  d__letter : Df K mg "_letter" s__letter ["words"]
  d__number : Df K mg "_number" s__number ["word", "low"]
  d__are_figures : Df K mg "_are_figures" s__are_figures ["word"]
  d__law_cell_at : Df K mg "_law_cell_at" s__law_cell_at ["_law_script", "_law_k"]
  d__law_whole : Df K mg "_law_whole" s__law_whole ["_law_found"]
  d__law_names : Df K mg "_law_names" s__law_names ["_law_cell", "_law_many"]
  d__law_letter_by : Df K mg "_law_letter_by" s__law_letter_by ["_law_cell"]
  d__law_events : Df K mg "_law_events" s__law_events ["_law_found"]
  d__law_row_by : Df K mg "_law_row_by" s__law_row_by ["_law_cell", "_law_names_here"]
  d__law_words_of : Df K mg "_law_words_of" s__law_words_of ["_law_row"]
  d__law_rows_by : Df K mg "_law_rows_by" s__law_rows_by ["_law_script"]
  d_law : Df K mg "law" s_law ["_law_script"]
  x_BadText : Q.ExC K mg "BadText"
  z_all : mg "all" = none
  z_bool : mg "bool" = none
  z_int : mg "int" = none
  z_isinstance : mg "isinstance" = none
  z_len : mg "len" = none
  z_list : mg "list" = none
  z_range : mg "range" = none
  z_str : mg "str" = none
  z_tuple : mg "tuple" = none
  c_LARGEST : ∃ t, mg "LARGEST" = some (.int 1000000000 t)
  c_LONGEST_NAME : ∃ t, mg "LONGEST_NAME" = some (.int 8 t)
  c_MOST_FIGURES : ∃ t, mg "MOST_FIGURES" = some (.int 10 t)
  c_NAMED : GlT K mg "NAMED" [(.str "begins"), (.str "ends"), (.str "leaves"), (.str "fails")]
  c_NUMBERED : GlT K mg "NUMBERED" [(.str "works"), (.str "lost")]
  c_PLAIN_LETTERS : GlT K mg "PLAIN_LETTERS" [(.tuple [(.str "fault")]), (.tuple [(.str "leave")])]
section
variable {P : Program} {w : World} {K : PySem.W.Frag} {mg : Str → Option Value} {base : Heap}
/-! is_name -/
theorem sc_is_name : FnScope ["thing", "sign"] ["thing"] (defScope s_is_name) := ⟨rfl, rfl, rfl, by decide +kernel, rfl, by decide +kernel, by decide +kernel⟩
def g_is_name : GS :=
    (gSeq (gIf (eOr (eNot (eIs "str" (eVar 0))) (eNot (eChain leD leD (eC (.int 1)) (eCB lenD (aCons (eVar 0) aNil)) (eC (.int 8))))) (gRet (eC (.bool false))) gNil)
    (gRet (eCB allD (aCons (eLc (iSeq (eVar 0)) 1 (eC (.bool true)) (eChain leD leD (eC (.str "a")) (eVar 1) (eC (.str "z")))) aNil))))
def F_is_name : List D → Option D := runG 2 1 g_is_name
theorem ok_is_name (T : TX K mg) : Fx P w K mg base "is_name" ["thing"] 1 F_is_name := by
  refine fx_of T.d_is_name sc_is_name rfl rfl (g := g_is_name) fun fa cdv A outer s H E hr => ?_
  exact (db_cons (ds_if (dw_pt (dw_or (dt_not (dt_of (de_isiB_str T.z_isinstance T.z_str (by rfl) (by rfl) (de_var 0)))) (dw_or1 (dt_not (dt_chain op_leD op_leD de_int (de_callB ca_len (by rfl) T.z_len (by decide +kernel) (da_cons (de_var 0) da_nil)) (de_globI (by rfl) T.c_LONGEST_NAME)))))) (db_one (ds_ret de_bl)) db_nil)
    (db_one (ds_ret (de_callB (ca_all rfl) (by rfl) T.z_all (by decide +kernel) (da_cons (de_lc rfl sc_is_name.nd (wi_seq (de_var 0)) (blkOk_by (own := [("sign", 1)]) (N := ["thing", "sign"]) (sc := defScope s_is_name) (by decide +kernel)) (fun _ _ _ _ _ => pg_name (i := 1) sc_is_name.nd rfl (Or.inl rfl)) (fun _ _ _ _ _ => dts_nil) (fun _ _ _ _ _ => (de_chain op_leD op_leD de_str (de_var 1) de_str))) da_nil)))))
/-! _row -/
theorem sc__row : FnScope ["event", "words", "word"] ["event"] (defScope s__row) := ⟨rfl, rfl, rfl, by decide +kernel, rfl, by decide +kernel, by decide +kernel⟩
def g__row : GS :=
    (gSeq (gNew 1 (nList (eSl (eVar 0) oNone (oSome (eC (.int 3))))))
    (gSeq (gIf (e2 eqD (e2 ixD (eVar 0) (eC (.int 0))) (eC (.str "sent"))) (gExtT 1 (e2 ixD (eVar 0) (eC (.int 3)))) gNil)
    (gRet (eBor (e2 joinD (eC (.str " ")) (eLc (iSeq (eVar 1)) 2 (eC (.bool true)) (eCB strTD (aCons (eVar 2) aNil))))))))
def F__row : List D → Option D := runG 3 1 g__row
theorem ok__row (T : TX K mg) : Fx P w K mg base "_row" ["event"] 1 F__row := by
  refine fx_of T.d__row sc__row rfl rfl (g := g__row) fun fa cdv A outer s H E hr => ?_
  exact (db_cons (ds_new (i := 1) sc__row.nd rfl (Or.inl rfl) (do_list (by rfl) T.z_list (de_slice (de_var 0) do_none (do_some de_int))))
    (db_cons (ds_if (dt_cmp (op_eqDD (hu64 hr)) (de_ix (de_var 0) de_int (fun _ _ => rfl)) de_str (by rfl)) (db_one (ds_extendT (i := 1) rfl (Or.inl rfl) (de_ix (de_var 0) de_int (fun _ _ => rfl)))) db_nil)
    (db_one (ds_ret (de_bor (de_join de_str (de_lc rfl sc__row.nd (wi_seq (de_var 1)) (blkOk_by (own := [("word", 2)]) (N := ["event", "words", "word"]) (sc := defScope s__row) (by decide +kernel)) (fun _ _ _ _ _ => pg_name (i := 2) sc__row.nd rfl (Or.inl rfl)) (fun _ _ _ _ _ => dts_nil) (fun _ _ _ _ _ => (de_callTy ca_strT (by rfl) T.z_str (by decide +kernel) (da_cons (de_var 2) da_nil))))))))))
/-! told -/
theorem sc_told : FnScope ["events", "event"] ["events"] (defScope s_told) := ⟨rfl, rfl, rfl, by decide +kernel, rfl, by decide +kernel, by decide +kernel⟩
def g_told : GS :=
    (gRet (e2 joinD (eC (.str "")) (eLc (iSeq (eVar 0)) 1 (eC (.bool true)) (e2 addD (eCall (F__row) (aCons (eVar 1) aNil)) (eC (.str "\n"))))))
def F_told : List D → Option D := runG 2 1 g_told
theorem ok_told (T : TX K mg) : Fx P w K mg base "told" ["events"] 2 F_told := by
  refine fx_of T.d_told sc_told rfl rfl (g := g_told) fun fa cdv A outer s H E hr => ?_
  exact (db_one (ds_ret (de_join de_str (de_lc rfl sc_told.nd (wi_seq (de_var 0)) (blkOk_by (own := [("event", 1)]) (N := ["events", "event"]) (sc := defScope s_told) (by decide +kernel)) (fun _ _ _ _ _ => pg_name (i := 1) sc_told.nd rfl (Or.inl rfl)) (fun _ _ _ _ _ => dts_nil) (fun _ _ _ _ _ => (de_bin op_addD (de_callx (ok__row T) hr (by omega) (by rfl) (da_cons (de_var 1) da_nil)) de_str))))))
/-! _are_figures -/
theorem sc__are_figures : FnScope ["word", "sign"] ["word"] (defScope s__are_figures) := ⟨rfl, rfl, rfl, by decide +kernel, rfl, by decide +kernel, by decide +kernel⟩
def g__are_figures : GS :=
    (gRet (eAnd (e2 neD (eVar 0) (eC (.str ""))) (eCB allD (aCons (eLc (iSeq (eVar 0)) 1 (eC (.bool true)) (eChain leD leD (eC (.str "0")) (eVar 1) (eC (.str "9")))) aNil))))
def F__are_figures : List D → Option D := runG 2 1 g__are_figures
theorem ok__are_figures (T : TX K mg) : Fx P w K mg base "_are_figures" ["word"] 1 F__are_figures := by
  refine fx_of T.d__are_figures sc__are_figures rfl rfl (g := g__are_figures) fun fa cdv A outer s H E hr => ?_
  exact (db_one (ds_ret (de_and (de_cmp (op_neDD (hu64 hr)) (de_var 0) de_str (by rfl)) (de_one (de_callB (ca_all rfl) (by rfl) T.z_all (by decide +kernel) (da_cons (de_lc rfl sc__are_figures.nd (wi_seq (de_var 0)) (blkOk_by (own := [("sign", 1)]) (N := ["word", "sign"]) (sc := defScope s__are_figures) (by decide +kernel)) (fun _ _ _ _ _ => pg_name (i := 1) sc__are_figures.nd rfl (Or.inl rfl)) (fun _ _ _ _ _ => dts_nil) (fun _ _ _ _ _ => (de_chain op_leD op_leD de_str (de_var 1) de_str))) da_nil))))))
/-! _number -/
theorem sc__number : FnScope ["word", "low", "figures", "number"] ["word", "low"] (defScope s__number) := ⟨rfl, rfl, rfl, by decide +kernel, rfl, by decide +kernel, by decide +kernel⟩
open Q in
def g__number : GQ :=
    (sSeq (sSet 2 (lift (e2 cutpD (eVar 0) (eC (.str "-")))))
    (sSeq (sIf (lT (eOr (e2 gtD (eCB lenD (aCons (eVar 2) aNil)) (eC (.int 10))) (eNot (eCall (F__are_figures) (aCons (eVar 2) aNil))))) (sRaise "BadText") sNil)
    (sSeq (sSet 3 (lift (eCB intTD (aCons (eVar 0) aNil))))
    (sSeq (sIf (lT (eOr (e2 neD (eCB strTD (aCons (eVar 3) aNil)) (eVar 0)) (eNot (eChain leD leD (eVar 1) (eVar 3) (eC (.int 1000000000)))))) (sRaise "BadText") sNil)
    (sRet (lift (eVar 3)))))))
open Q in
def F__number : FHF := runQ 4 2 g__number
open Q in
theorem ok__number (T : TX K mg) : Fq P w K mg base "_number" ["word", "low"] 2 F__number := by
  refine fq_of (k := 1) T.d__number sc__number rfl rfl (by decide) (g := g__number) fun fa cdv A outer s H E hr tk hp => ?_
  exact (hb_cons (hs_set (i := 2) sc__number.nd rfl (Or.inl rfl) (he_lift (de_removeprefix (de_var 0) de_str)))
    (hb_cons (hs_if (ht_lift (dw_pt (dw_or (dt_cmp op_gtD (de_callB ca_len (by rfl) T.z_len (by decide +kernel) (da_cons (de_var 2) da_nil)) (de_globI (by rfl) T.c_MOST_FIGURES) (by rfl)) (dw_or1 (dt_not (dt_of (de_callx (ok__are_figures T) hr (by omega) (by rfl) (da_cons (de_var 2) da_nil)))))))) (hb_one (hs_raise T.x_BadText rfl tk (by rfl))) hb_nil)
    (hb_cons (hs_set (i := 3) sc__number.nd rfl (Or.inl rfl) (he_lift (de_callTy ca_intT (by rfl) T.z_int (by decide +kernel) (da_cons (de_var 0) da_nil))))
    (hb_cons (hs_if (ht_lift (dw_pt (dw_or (dt_cmp (op_neDD (hu64 hr)) (de_callTy ca_strT (by rfl) T.z_str (by decide +kernel) (da_cons (de_var 3) da_nil)) (de_var 0) (by rfl)) (dw_or1 (dt_not (dt_chain op_leD op_leD (de_var 1) (de_var 3) (de_globI (by rfl) T.c_LARGEST))))))) (hb_one (hs_raise T.x_BadText rfl tk (by rfl))) hb_nil)
    (hb_one (hs_ret (he_lift (de_var 3))))))))
/-! _letter -/
theorem sc__letter : FnScope ["words", "letter"] ["words"] (defScope s__letter) := ⟨rfl, rfl, rfl, by decide +kernel, rfl, by decide +kernel, by decide +kernel⟩
open Q in
def g__letter : GQ :=
    (sSeq (sIf (lT (eAnd (e2 eqD (eCB lenD (aCons (eVar 0) aNil)) (eC (.int 2))) (e2 eqD (e2 ixD (eVar 0) (eC (.int 0))) (eC (.str "add"))))) (sRet (hTup (haCons (lift (eC (.str "add"))) (haCons (hCall F__number (haCons (lift (e2 ixD (eVar 0) (eC (.int 1)))) (haCons (lift (e1 negD (eC (.int 1000000000)))) haNil))) haNil)))) sNil)
    (sSeq (sSet 1 (lift (eCB tupD (aCons (eVar 0) aNil))))
    (sSeq (sIf (lT (e2 (inD true) (eVar 1) (eC (.tuple [(.tuple [(.str "fault")]), (.tuple [(.str "leave")])])))) (sRaise "BadText") sNil)
    (sRet (lift (eVar 1))))))
open Q in
def F__letter : FHF := runQ 2 1 g__letter
open Q in
theorem ok__letter (T : TX K mg) : Fq P w K mg base "_letter" ["words"] 3 F__letter := by
  refine fq_of (k := 2) T.d__letter sc__letter rfl rfl (by decide) (g := g__letter) fun fa cdv A outer s H E hr tk hp => ?_
  exact (hb_cons (hs_if (ht_lift (dw_pt (dw_and (dt_cmp (op_eqDD (hu64 hr)) (de_callB ca_len (by rfl) T.z_len (by decide +kernel) (da_cons (de_var 0) da_nil)) de_int (by rfl)) (dw_and1 (dt_cmp (op_eqDD (hu64 hr)) (de_ix (de_var 0) de_int (fun _ _ => rfl)) de_str (by rfl)))))) (hb_one (hs_ret (he_tup (ha_cons (he_lift de_str) (ha_cons (he_call (ok__number T) tk hr (by omega) (by rfl) (ha_cons (he_lift (de_ix (de_var 0) de_int (fun _ _ => rfl))) (ha_cons (he_lift (de_neg (de_globI (by rfl) T.c_LARGEST))) ha_nil))) ha_nil))))) hb_nil)
    (hb_cons (hs_set (i := 1) sc__letter.nd rfl (Or.inl rfl) (he_lift (de_callTy ca_tuple (by rfl) T.z_tuple (by decide +kernel) (da_cons (de_var 0) da_nil))))
    (hb_cons (hs_if (ht_lift (dt_cmp (op_notInDD (hu65 hr)) (de_var 1) (de_globTx (by rfl) T.c_PLAIN_LETTERS) (by rfl))) (hb_one (hs_raise T.x_BadText rfl tk (by rfl))) hb_nil)
    (hb_one (hs_ret (he_lift (de_var 1)))))))
/-! _event -/
theorem sc__event : FnScope ["words", "word", "name"] ["words"] (defScope s__event) := ⟨rfl, rfl, rfl, by decide +kernel, rfl, by decide +kernel, by decide +kernel⟩
open Q in
def g__event : GQ :=
    (sSeq (sIf (lT (eOr (e2 ltD (eCB lenD (aCons (eVar 0) aNil)) (eC (.int 2))) (eNot (eCall (F_is_name) (aCons (e2 ixD (eVar 0) (eC (.int 1))) aNil))))) (sRaise "BadText") sNil)
    (sSeq (sSet 1 (lift (e2 ixD (eVar 0) (eC (.int 0)))))
    (sSeq (sSet 2 (lift (e2 ixD (eVar 0) (eC (.int 1)))))
    (sSeq (sIf (lT (eAnd (e2 (inD false) (eVar 1) (eC (.tuple [(.str "begins"), (.str "ends"), (.str "leaves"), (.str "fails")]))) (e2 eqD (eCB lenD (aCons (eVar 0) aNil)) (eC (.int 2))))) (sRet (lift (eTup (aCons (eVar 1) (aCons (eVar 2) aNil))))) sNil)
    (sSeq (sIf (lT (eAnd (e2 (inD false) (eVar 1) (eC (.tuple [(.str "works"), (.str "lost")]))) (e2 eqD (eCB lenD (aCons (eVar 0) aNil)) (eC (.int 3))))) (sRet (hTup (haCons (lift (eVar 1)) (haCons (lift (eVar 2)) (haCons (hCall F__number (haCons (lift (e2 ixD (eVar 0) (eC (.int 2)))) (haCons (lift (eC (.int 1))) haNil))) haNil))))) sNil)
    (sSeq (sIf (lT (eAnd (e2 eqD (eVar 1) (eC (.str "sent"))) (e2 gtD (eCB lenD (aCons (eVar 0) aNil)) (eC (.int 3))))) (sRet (hTup (haCons (lift (eVar 1)) (haCons (lift (eVar 2)) (haCons (hCall F__number (haCons (lift (e2 ixD (eVar 0) (eC (.int 2)))) (haCons (lift (eC (.int 1))) haNil))) (haCons (hCall F__letter (haCons (lift (eSl (eVar 0) (oSome (eC (.int 3))) oNone)) haNil)) haNil)))))) sNil)
    (sRaise "BadText")))))))
open Q in
def F__event : FHF := runQ 3 1 g__event
open Q in
theorem ok__event (T : TX K mg) : Fq P w K mg base "_event" ["words"] 4 F__event := by
  refine fq_of (k := 3) T.d__event sc__event rfl rfl (by decide) (g := g__event) fun fa cdv A outer s H E hr tk hp => ?_
  exact (hb_cons (hs_if (ht_lift (dw_pt (dw_or (dt_cmp op_ltD (de_callB ca_len (by rfl) T.z_len (by decide +kernel) (da_cons (de_var 0) da_nil)) de_int (by rfl)) (dw_or1 (dt_not (dt_of (de_callx (ok_is_name T) hr (by omega) (by rfl) (da_cons (de_ix (de_var 0) de_int (fun _ _ => rfl)) da_nil)))))))) (hb_one (hs_raise T.x_BadText rfl tk (by rfl))) hb_nil)
    (hb_cons (hs_set (i := 1) sc__event.nd rfl (Or.inl rfl) (he_lift (de_ix (de_var 0) de_int (fun _ _ => rfl))))
    (hb_cons (hs_set (i := 2) sc__event.nd rfl (Or.inl rfl) (he_lift (de_ix (de_var 0) de_int (fun _ _ => rfl))))
    (hb_cons (hs_if (ht_lift (dw_pt (dw_and (dt_cmp (op_inDD (hu65 hr)) (de_var 1) (de_globTx (by rfl) T.c_NAMED) (by rfl)) (dw_and1 (dt_cmp (op_eqDD (hu64 hr)) (de_callB ca_len (by rfl) T.z_len (by decide +kernel) (da_cons (de_var 0) da_nil)) de_int (by rfl)))))) (hb_one (hs_ret (he_lift (de_tup (da_cons (de_var 1) (da_cons (de_var 2) da_nil)))))) hb_nil)
    (hb_cons (hs_if (ht_lift (dw_pt (dw_and (dt_cmp (op_inDD (hu65 hr)) (de_var 1) (de_globTx (by rfl) T.c_NUMBERED) (by rfl)) (dw_and1 (dt_cmp (op_eqDD (hu64 hr)) (de_callB ca_len (by rfl) T.z_len (by decide +kernel) (da_cons (de_var 0) da_nil)) de_int (by rfl)))))) (hb_one (hs_ret (he_tup (ha_cons (he_lift (de_var 1)) (ha_cons (he_lift (de_var 2)) (ha_cons (he_call (ok__number T) tk hr (by omega) (by rfl) (ha_cons (he_lift (de_ix (de_var 0) de_int (fun _ _ => rfl))) (ha_cons (he_lift de_int) ha_nil))) ha_nil)))))) hb_nil)
    (hb_cons (hs_if (ht_lift (dw_pt (dw_and (dt_cmp (op_eqDD (hu64 hr)) (de_var 1) de_str (by rfl)) (dw_and1 (dt_cmp op_gtD (de_callB ca_len (by rfl) T.z_len (by decide +kernel) (da_cons (de_var 0) da_nil)) de_int (by rfl)))))) (hb_one (hs_ret (he_tup (ha_cons (he_lift (de_var 1)) (ha_cons (he_lift (de_var 2)) (ha_cons (he_call (ok__number T) tk hr (by omega) (by rfl) (ha_cons (he_lift (de_ix (de_var 0) de_int (fun _ _ => rfl))) (ha_cons (he_lift de_int) ha_nil))) (ha_cons (he_call (ok__letter T) tk hr (by omega) (by rfl) (ha_cons (he_lift (de_slice (de_var 0) (do_some de_int) do_none)) ha_nil)) ha_nil))))))) hb_nil)
    (hb_one (hs_raise T.x_BadText rfl tk (by rfl)))))))))
/-! read -/
theorem sc_read : FnScope ["text", "rows", "row"] ["text"] (defScope s_read) := ⟨rfl, rfl, rfl, by decide +kernel, rfl, by decide +kernel, by decide +kernel⟩
open Q in
def g_read : GQ :=
    (sSeq (sIf (lT (eNot (eIs "str" (eVar 0)))) (sRaise "BadText") sNil)
    (sSeq (sSet 1 (lift (e2 splitD (eVar 0) (eC (.str "\n")))))
    (sSeq (sIf (lT (e2 neD (e2 ixD (eVar 1) (e1 negD (eC (.int 1)))) (eC (.str "")))) (sRaise "BadText") sNil)
    (sRet (hLc (srcD (iLift (iSeq (eSl (eVar 1) oNone (oSome (e1 negD (eC (.int 1)))))))) 2 (fun _ M => some (.ok true M)) (hCall F__event (haCons (lift (e2 splitD (eVar 2) (eC (.str " ")))) haNil)))))))
open Q in
def F_read : FHF := runQ 3 1 g_read
open Q in
theorem ok_read (T : TX K mg) : Fq P w K mg base "read" ["text"] 5 F_read := by
  refine fq_of (k := 4) T.d_read sc_read rfl rfl (by decide) (g := g_read) fun fa cdv A outer s H E hr tk hp => ?_
  exact (hb_cons (hs_if (ht_lift (dt_not (dt_of (de_isiB_str T.z_isinstance T.z_str (by rfl) (by rfl) (de_var 0))))) (hb_one (hs_raise T.x_BadText rfl tk (by rfl))) hb_nil)
    (hb_cons (hs_set (i := 1) sc_read.nd rfl (Or.inl rfl) (he_lift (de_split (de_var 0) de_str)))
    (hb_cons (hs_if (ht_lift (dt_cmp (op_neDD (hu64 hr)) (de_ix (de_var 1) (de_neg de_int) (fun _ _ => rfl)) de_str (by rfl))) (hb_one (hs_raise T.x_BadText rfl tk (by rfl))) hb_nil)
    (hb_one (hs_ret (he_lc rfl sc_read.nd (src_data (qi_lift (wi_seq (de_slice (de_var 1) do_none (do_some (de_neg de_int)))))) (blkOk_by (own := [("row", 2)]) (N := ["text", "rows", "row"]) (sc := defScope s_read) (by decide +kernel)) (fun _ _ _ _ _ => pg_name (i := 2) sc_read.nd rfl (Or.inl rfl)) (fun _ _ _ _ _ => hts_nil) (fun _ _ _ _ _ => (he_call (ok__event T) takes_no hr (by omega) (by rfl) (ha_cons (he_lift (de_split (de_var 2) de_str)) ha_nil)))))))))
/-! _law_cell_at -/
theorem sc__law_cell_at : FnScope ["_law_script", "_law_k"] ["_law_script", "_law_k"] (defScope s__law_cell_at) := ⟨rfl, rfl, rfl, by decide +kernel, rfl, by decide +kernel, by decide +kernel⟩
def g__law_cell_at : GS :=
    (gSeq (gIf (e2 ltD (eVar 1) (eCB lenD (aCons (eVar 0) aNil))) (gRet (e2 ixD (eVar 0) (eVar 1))) gNil)
    (gRet (eC (.int 0))))
def F__law_cell_at : List D → Option D := runG 2 2 g__law_cell_at
theorem ok__law_cell_at (T : TX K mg) : Fx P w K mg base "_law_cell_at" ["_law_script", "_law_k"] 1 F__law_cell_at := by
  refine fx_of T.d__law_cell_at sc__law_cell_at rfl rfl (g := g__law_cell_at) fun fa cdv A outer s H E hr => ?_
  exact (db_cons (ds_if (dt_cmp op_ltD (de_var 1) (de_callB ca_len (by rfl) T.z_len (by decide +kernel) (da_cons (de_var 0) da_nil)) (by rfl)) (db_one (ds_ret (de_ix (de_var 0) (de_var 1) (fun _ _ => rfl)))) db_nil)
    (db_one (ds_ret de_int)))
/-! _law_whole -/
theorem sc__law_whole : FnScope ["_law_found"] ["_law_found"] (defScope s__law_whole) := ⟨rfl, rfl, rfl, by decide +kernel, rfl, by decide +kernel, by decide +kernel⟩
def g__law_whole : GS :=
    (gRet (eAnd (eIs "int" (eVar 0)) (eNot (eIs "bool" (eVar 0)))))
def F__law_whole : List D → Option D := runG 1 1 g__law_whole
theorem ok__law_whole (T : TX K mg) : Fx P w K mg base "_law_whole" ["_law_found"] 1 F__law_whole := by
  refine fx_of T.d__law_whole sc__law_whole rfl rfl (g := g__law_whole) fun fa cdv A outer s H E hr => ?_
  exact (db_one (ds_ret (de_and (de_isiB_int T.z_isinstance T.z_int (by rfl) (by rfl) (de_var 0)) (de_one (de_not (de_isiB_bool T.z_isinstance T.z_bool (by rfl) (by rfl) (de_var 0)))))))
/-! _law_names -/
theorem sc__law_names : FnScope ["_law_cell", "_law_many", "_law_some", "_law_head", "_law_rest", "_law_k", "_law_way", "_law_left", "_law_right"] ["_law_cell", "_law_many"] (defScope s__law_names) := ⟨rfl, rfl, rfl, by decide +kernel, rfl, by decide +kernel, by decide +kernel⟩
def b__law_names_1 : GS :=
    (gSeq (gSet 3 (e2 addD (eVar 3) (e2 ixD (eVar 2) (e2 modD (eVar 4) (eC (.int 26))))))
    (gSet 4 (e2 divD (eVar 4) (eC (.int 26)))))
def g__law_names : GS :=
    (gSeq (gSet 2 (eC (.str "abcdefghijklmnopqrstuvwxyz")))
    (gSeq (gSet 3 (eC (.str "")))
    (gSeq (gSet 4 (e2 divD (eVar 0) (eC (.int 48))))
    (gSeq (gFor (iR1 (aCons (eC (.int 8)) aNil)) 5 b__law_names_1)
    (gSeq (gSet 6 (e2 modD (eVar 0) (eC (.int 6))))
    (gSeq (gIf (eAnd (e2 eqD (eVar 6) (eC (.int 0))) (e2 ltD (eVar 1) (eC (.int 9)))) (gRet (eLc (iR1 (aCons (eVar 1) aNil)) 5 (eC (.bool true)) (eSl (eVar 3) oNone (oSome (e2 addD (eVar 5) (eC (.int 1))))))) gNil)
    (gSeq (gIf (eAnd (e2 eqD (eVar 6) (eC (.int 1))) (e2 ltD (eVar 1) (eC (.int 9)))) (gRet (eLc (iR1 (aCons (eVar 1) aNil)) 5 (eC (.bool true)) (eSl (eVar 3) (oSome (e2 subD (eC (.int 7)) (eVar 5))) oNone))) gNil)
    (gSeq (gSet 3 (eSl (eVar 3) oNone (oSome (e2 modD (e2 divD (eVar 0) (eC (.int 6))) (eC (.int 7))))))
    (gSeq (gIf (eAnd (e2 ltD (eVar 6) (eC (.int 4))) (e2 ltD (eVar 1) (eC (.int 27)))) (gSeq (gSet 7 (eSl (eVar 3) oNone (oSome (e2 modD (e2 divD (eVar 0) (eC (.int 5))) (e2 addD (eCB lenD (aCons (eVar 3) aNil)) (eC (.int 1)))))))
    (gSeq (gSet 8 (eSl (eVar 3) (oSome (eCB lenD (aCons (eVar 7) aNil))) oNone))
    (gRet (eLc (iR1 (aCons (eVar 1) aNil)) 5 (eC (.bool true)) (e2 addD (e2 addD (eVar 7) (e2 ixD (eVar 2) (e2 modD (e2 addD (e2 divD (eVar 0) (eC (.int 7))) (e2 mulD (eC (.int 7)) (eVar 5))) (eC (.int 26))))) (eVar 8)))))) gNil)
    (gRet (eLc (iR1 (aCons (eVar 1) aNil)) 5 (eC (.bool true)) (e2 addD (e2 addD (eVar 3) (e2 ixD (eVar 2) (e2 divD (eVar 5) (eC (.int 26))))) (e2 ixD (eVar 2) (e2 modD (eVar 5) (eC (.int 26))))))))))))))))
def F__law_names : List D → Option D := runG 9 2 g__law_names
theorem ok__law_names (T : TX K mg) : Fx P w K mg base "_law_names" ["_law_cell", "_law_many"] 1 F__law_names := by
  refine fx_of T.d__law_names sc__law_names rfl rfl (g := g__law_names) fun fa cdv A outer s H E hr => ?_
  exact (db_cons (ds_set (i := 2) sc__law_names.nd rfl (Or.inr rfl) de_str)
    (db_cons (ds_set (i := 3) sc__law_names.nd rfl (Or.inr rfl) de_str)
    (db_cons (ds_set (i := 4) sc__law_names.nd rfl (Or.inl rfl) (de_bin op_divD (de_var 0) de_int))
    (db_cons (ds_for PassesOwn.never rfl (wi_range1 (by rfl) T.z_range (da_cons de_int da_nil)) (pg_name (i := 5) sc__law_names.nd rfl (Or.inl rfl)) (db_cons (ds_set (i := 3) sc__law_names.nd rfl (Or.inr rfl) (de_bin op_addD (de_var 3) (de_ix (de_var 2) (de_bin op_modD (de_var 4) de_int) (fun _ _ => rfl))))
    (db_one (ds_set (i := 4) sc__law_names.nd rfl (Or.inl rfl) (de_bin op_divD (de_var 4) de_int)))))
    (db_cons (ds_set (i := 6) sc__law_names.nd rfl (Or.inl rfl) (de_bin op_modD (de_var 0) de_int))
    (db_cons (ds_if (dw_pt (dw_and (dt_cmp (op_eqDD (hu64 hr)) (de_var 6) de_int (by rfl)) (dw_and1 (dt_cmp op_ltD (de_var 1) de_int (by rfl))))) (db_one (ds_ret (de_lc rfl sc__law_names.nd (wi_range1 (by rfl) T.z_range (da_cons (de_var 1) da_nil)) (blkOk_by (own := [("_law_k", 5)]) (N := ["_law_cell", "_law_many", "_law_some", "_law_head", "_law_rest", "_law_k", "_law_way", "_law_left", "_law_right"]) (sc := defScope s__law_names) (by decide +kernel)) (fun _ _ _ _ _ => pg_name (i := 5) sc__law_names.nd rfl (Or.inl rfl)) (fun _ _ _ _ _ => dts_nil) (fun _ _ _ _ _ => (de_slice (de_var 3) do_none (do_some (de_bin op_addD (de_var 5) de_int))))))) db_nil)
    (db_cons (ds_if (dw_pt (dw_and (dt_cmp (op_eqDD (hu64 hr)) (de_var 6) de_int (by rfl)) (dw_and1 (dt_cmp op_ltD (de_var 1) de_int (by rfl))))) (db_one (ds_ret (de_lc rfl sc__law_names.nd (wi_range1 (by rfl) T.z_range (da_cons (de_var 1) da_nil)) (blkOk_by (own := [("_law_k", 5)]) (N := ["_law_cell", "_law_many", "_law_some", "_law_head", "_law_rest", "_law_k", "_law_way", "_law_left", "_law_right"]) (sc := defScope s__law_names) (by decide +kernel)) (fun _ _ _ _ _ => pg_name (i := 5) sc__law_names.nd rfl (Or.inl rfl)) (fun _ _ _ _ _ => dts_nil) (fun _ _ _ _ _ => (de_slice (de_var 3) (do_some (de_bin op_subD de_int (de_var 5))) do_none))))) db_nil)
    (db_cons (ds_set (i := 3) sc__law_names.nd rfl (Or.inr rfl) (de_slice (de_var 3) do_none (do_some (de_bin op_modD (de_bin op_divD (de_var 0) de_int) de_int))))
    (db_cons (ds_if (dw_pt (dw_and (dt_cmp op_ltD (de_var 6) de_int (by rfl)) (dw_and1 (dt_cmp op_ltD (de_var 1) de_int (by rfl))))) (db_cons (ds_set (i := 7) sc__law_names.nd rfl (Or.inr rfl) (de_slice (de_var 3) do_none (do_some (de_bin op_modD (de_bin op_divD (de_var 0) de_int) (de_bin op_addD (de_callB ca_len (by rfl) T.z_len (by decide +kernel) (da_cons (de_var 3) da_nil)) de_int)))))
    (db_cons (ds_set (i := 8) sc__law_names.nd rfl (Or.inr rfl) (de_slice (de_var 3) (do_some (de_callB ca_len (by rfl) T.z_len (by decide +kernel) (da_cons (de_var 7) da_nil))) do_none))
    (db_one (ds_ret (de_lc rfl sc__law_names.nd (wi_range1 (by rfl) T.z_range (da_cons (de_var 1) da_nil)) (blkOk_by (own := [("_law_k", 5)]) (N := ["_law_cell", "_law_many", "_law_some", "_law_head", "_law_rest", "_law_k", "_law_way", "_law_left", "_law_right"]) (sc := defScope s__law_names) (by decide +kernel)) (fun _ _ _ _ _ => pg_name (i := 5) sc__law_names.nd rfl (Or.inl rfl)) (fun _ _ _ _ _ => dts_nil) (fun _ _ _ _ _ => (de_bin op_addD (de_bin op_addD (de_var 7) (de_ix (de_var 2) (de_bin op_modD (de_bin op_addD (de_bin op_divD (de_var 0) de_int) (de_bin op_mulD de_int (de_var 5))) de_int) (fun _ _ => rfl))) (de_var 8)))))))) db_nil)
    (db_one (ds_ret (de_lc rfl sc__law_names.nd (wi_range1 (by rfl) T.z_range (da_cons (de_var 1) da_nil)) (blkOk_by (own := [("_law_k", 5)]) (N := ["_law_cell", "_law_many", "_law_some", "_law_head", "_law_rest", "_law_k", "_law_way", "_law_left", "_law_right"]) (sc := defScope s__law_names) (by decide +kernel)) (fun _ _ _ _ _ => pg_name (i := 5) sc__law_names.nd rfl (Or.inl rfl)) (fun _ _ _ _ _ => dts_nil) (fun _ _ _ _ _ => (de_bin op_addD (de_bin op_addD (de_var 3) (de_ix (de_var 2) (de_bin op_divD (de_var 5) de_int) (fun _ _ => rfl))) (de_ix (de_var 2) (de_bin op_modD (de_var 5) de_int) (fun _ _ => rfl))))))))))))))))
/-! _law_letter_by -/
theorem sc__law_letter_by : FnScope ["_law_cell", "_law_number"] ["_law_cell"] (defScope s__law_letter_by) := ⟨rfl, rfl, rfl, by decide +kernel, rfl, by decide +kernel, by decide +kernel⟩
def g__law_letter_by : GS :=
    (gSeq (gIf (e2 gtD (e2 modD (eVar 0) (eC (.int 5))) (eC (.int 2))) (gRet (e2 ixD (eLst (aCons (eTup (aCons (eC (.str "fault")) aNil)) (aCons (eTup (aCons (eC (.str "leave")) aNil)) aNil))) (e2 subD (e2 modD (eVar 0) (eC (.int 5))) (eC (.int 3))))) gNil)
    (gSeq (gSet 1 (e2 ixD (eLst (aCons (e2 subD (e2 modD (e2 divD (eVar 0) (eC (.int 10))) (eC (.int 9))) (eC (.int 4))) (aCons (e2 subD (e2 modD (e2 divD (eVar 0) (eC (.int 10))) (e2 addD (e2 mulD (eC (.int 2)) (e2 powD (eC (.int 10)) (eC (.int 9)))) (eC (.int 1)))) (e2 powD (eC (.int 10)) (eC (.int 9)))) aNil))) (eCB intTD (aCons (e2 eqD (e2 modD (eVar 0) (eC (.int 5))) (eC (.int 2))) aNil))))
    (gRet (eTup (aCons (eC (.str "add")) (aCons (eVar 1) aNil))))))
def F__law_letter_by : List D → Option D := runG 2 1 g__law_letter_by
theorem ok__law_letter_by (T : TX K mg) : Fx P w K mg base "_law_letter_by" ["_law_cell"] 1 F__law_letter_by := by
  refine fx_of T.d__law_letter_by sc__law_letter_by rfl rfl (g := g__law_letter_by) fun fa cdv A outer s H E hr => ?_
  exact (db_cons (ds_if (dt_cmp op_gtD (de_bin op_modD (de_var 0) de_int) de_int (by rfl)) (db_one (ds_ret (de_ix (de_lst (da_cons (de_tup (da_cons de_str da_nil)) (da_cons (de_tup (da_cons de_str da_nil)) da_nil))) (de_bin op_subD (de_bin op_modD (de_var 0) de_int) de_int) (fun _ _ => rfl)))) db_nil)
    (db_cons (ds_set (i := 1) sc__law_letter_by.nd rfl (Or.inl rfl) (de_ix (de_lst (da_cons (de_bin op_subD (de_bin op_modD (de_bin op_divD (de_var 0) de_int) de_int) de_int) (da_cons (de_bin op_subD (de_bin op_modD (de_bin op_divD (de_var 0) de_int) (de_bin op_addD (de_bin op_mulD de_int (de_bin op_powD de_int de_int)) de_int)) (de_bin op_powD de_int de_int)) da_nil))) (de_callTy ca_intT (by rfl) T.z_int (by decide +kernel) (da_cons (de_cmp (op_eqDD (hu64 hr)) (de_bin op_modD (de_var 0) de_int) de_int (by rfl)) da_nil)) (fun _ _ => rfl)))
    (db_one (ds_ret (de_tup (da_cons de_str (da_cons (de_var 1) da_nil)))))))
/-! _law_events -/
theorem sc__law_events : FnScope ["_law_found", "_law_row"] ["_law_found"] (defScope s__law_events) := ⟨rfl, rfl, rfl, by decide +kernel, rfl, by decide +kernel, by decide +kernel⟩
def b__law_events_1 : GS :=
    (gSeq (gIf (eOr (eNot (eIs "tuple" (eVar 1))) (eOr (e2 ltD (eCB lenD (aCons (eVar 1) aNil)) (eC (.int 2))) (eOr (eNot (eIs "str" (e2 ixD (eVar 1) (eC (.int 0))))) (eNot (eIs "str" (e2 ixD (eVar 1) (eC (.int 1)))))))) (gRet (eC (.bool false))) gNil)
    (gSeq (gIf (eAnd (e2 gtD (eCB lenD (aCons (eVar 1) aNil)) (eC (.int 2))) (eNot (eCall (F__law_whole) (aCons (e2 ixD (eVar 1) (eC (.int 2))) aNil)))) (gRet (eC (.bool false))) gNil)
    (gIf (eAnd (e2 gtD (eCB lenD (aCons (eVar 1) aNil)) (eC (.int 3))) (eOr (e2 gtD (eCB lenD (aCons (eVar 1) aNil)) (eC (.int 4))) (eNot (eIs "tuple" (e2 ixD (eVar 1) (eC (.int 3))))))) (gRet (eC (.bool false))) gNil)))
def g__law_events : GS :=
    (gSeq (gIf (eNot (eIs "list" (eVar 0))) (gRet (eC (.bool false))) gNil)
    (gSeq (gFor (iSeq (eVar 0)) 1 b__law_events_1)
    (gRet (eC (.bool true)))))
def F__law_events : List D → Option D := runG 2 1 g__law_events
theorem ok__law_events (T : TX K mg) : Fx P w K mg base "_law_events" ["_law_found"] 2 F__law_events := by
  refine fx_of T.d__law_events sc__law_events rfl rfl (g := g__law_events) fun fa cdv A outer s H E hr => ?_
  exact (db_cons (ds_if (dt_not (dt_of (de_isiB_list T.z_isinstance T.z_list (by rfl) (by rfl) (de_var 0)))) (db_one (ds_ret de_bl)) db_nil)
    (db_cons (ds_for PassesOwn.never rfl (wi_seq (de_var 0)) (pg_name (i := 1) sc__law_events.nd rfl (Or.inl rfl)) (db_cons (ds_if (dw_pt (dw_or (dt_not (dt_of (de_isiB_tuple T.z_isinstance T.z_tuple (by rfl) (by rfl) (de_var 1)))) (dw_or (dt_cmp op_ltD (de_callB ca_len (by rfl) T.z_len (by decide +kernel) (da_cons (de_var 1) da_nil)) de_int (by rfl)) (dw_or (dt_not (dt_of (de_isiB_str T.z_isinstance T.z_str (by rfl) (by rfl) (de_ix (de_var 1) de_int (fun _ _ => rfl))))) (dw_or1 (dt_not (dt_of (de_isiB_str T.z_isinstance T.z_str (by rfl) (by rfl) (de_ix (de_var 1) de_int (fun _ _ => rfl)))))))))) (db_one (ds_ret de_bl)) db_nil)
    (db_cons (ds_if (dw_pt (dw_and (dt_cmp op_gtD (de_callB ca_len (by rfl) T.z_len (by decide +kernel) (da_cons (de_var 1) da_nil)) de_int (by rfl)) (dw_and1 (dt_not (dt_of (de_callx (ok__law_whole T) hr (by omega) (by rfl) (da_cons (de_ix (de_var 1) de_int (fun _ _ => rfl)) da_nil))))))) (db_one (ds_ret de_bl)) db_nil)
    (db_one (ds_if (dw_pt (dw_and (dt_cmp op_gtD (de_callB ca_len (by rfl) T.z_len (by decide +kernel) (da_cons (de_var 1) da_nil)) de_int (by rfl)) (dw_and1 (dw_pt (dw_or (dt_cmp op_gtD (de_callB ca_len (by rfl) T.z_len (by decide +kernel) (da_cons (de_var 1) da_nil)) de_int (by rfl)) (dw_or1 (dt_not (dt_of (de_isiB_tuple T.z_isinstance T.z_tuple (by rfl) (by rfl) (de_ix (de_var 1) de_int (fun _ _ => rfl))))))))))) (db_one (ds_ret de_bl)) db_nil)))))
    (db_one (ds_ret de_bl))))
/-! _law_row_by -/
theorem sc__law_row_by : FnScope ["_law_cell", "_law_names_here", "_law_word", "_law_name", "_law_number"] ["_law_cell", "_law_names_here"] (defScope s__law_row_by) := ⟨rfl, rfl, rfl, by decide +kernel, rfl, by decide +kernel, by decide +kernel⟩
def g__law_row_by : GS :=
    (gSeq (gSet 2 (e2 ixD (eLst (aCons (eC (.str "begins")) (aCons (eC (.str "ends")) (aCons (eC (.str "fails")) (aCons (eC (.str "leaves")) (aCons (eC (.str "works")) (aCons (eC (.str "lost")) (aCons (eC (.str "sent")) (aCons (eC (.str "sent")) aNil))))))))) (e2 modD (eVar 0) (eC (.int 8)))))
    (gSeq (gSet 3 (e2 ixD (eVar 1) (e2 modD (e2 divD (eVar 0) (eC (.int 8))) (eCB lenD (aCons (eVar 1) aNil)))))
    (gSeq (gSet 4 (e2 addD (eC (.int 1)) (e2 ixD (eLst (aCons (e2 modD (e2 divD (eVar 0) (eC (.int 50))) (eC (.int 12))) (aCons (e2 modD (e2 divD (eVar 0) (eC (.int 50))) (e2 powD (eC (.int 10)) (eC (.int 9)))) aNil))) (e2 modD (e2 divD (eVar 0) (eC (.int 8))) (eC (.int 2))))))
    (gSeq (gIf (e2 ltD (e2 modD (eVar 0) (eC (.int 8))) (eC (.int 4))) (gRet (eTup (aCons (eVar 2) (aCons (eVar 3) aNil)))) gNil)
    (gSeq (gIf (e2 eqD (eVar 2) (eC (.str "sent"))) (gRet (eTup (aCons (eVar 2) (aCons (eVar 3) (aCons (eVar 4) (aCons (eCall (F__law_letter_by) (aCons (e2 divD (eVar 0) (eC (.int 20))) aNil)) aNil)))))) gNil)
    (gRet (eTup (aCons (eVar 2) (aCons (eVar 3) (aCons (eVar 4) aNil))))))))))
def F__law_row_by : List D → Option D := runG 5 2 g__law_row_by
theorem ok__law_row_by (T : TX K mg) : Fx P w K mg base "_law_row_by" ["_law_cell", "_law_names_here"] 2 F__law_row_by := by
  refine fx_of T.d__law_row_by sc__law_row_by rfl rfl (g := g__law_row_by) fun fa cdv A outer s H E hr => ?_
  exact (db_cons (ds_set (i := 2) sc__law_row_by.nd rfl (Or.inl rfl) (de_ix (de_lst (da_cons de_str (da_cons de_str (da_cons de_str (da_cons de_str (da_cons de_str (da_cons de_str (da_cons de_str (da_cons de_str da_nil))))))))) (de_bin op_modD (de_var 0) de_int) (fun _ _ => rfl)))
    (db_cons (ds_set (i := 3) sc__law_row_by.nd rfl (Or.inl rfl) (de_ix (de_var 1) (de_bin op_modD (de_bin op_divD (de_var 0) de_int) (de_callB ca_len (by rfl) T.z_len (by decide +kernel) (da_cons (de_var 1) da_nil))) (fun _ _ => rfl)))
    (db_cons (ds_set (i := 4) sc__law_row_by.nd rfl (Or.inl rfl) (de_bin op_addD de_int (de_ix (de_lst (da_cons (de_bin op_modD (de_bin op_divD (de_var 0) de_int) de_int) (da_cons (de_bin op_modD (de_bin op_divD (de_var 0) de_int) (de_bin op_powD de_int de_int)) da_nil))) (de_bin op_modD (de_bin op_divD (de_var 0) de_int) de_int) (fun _ _ => rfl))))
    (db_cons (ds_if (dt_cmp op_ltD (de_bin op_modD (de_var 0) de_int) de_int (by rfl)) (db_one (ds_ret (de_tup (da_cons (de_var 2) (da_cons (de_var 3) da_nil))))) db_nil)
    (db_cons (ds_if (dt_cmp (op_eqDD (hu64 hr)) (de_var 2) de_str (by rfl)) (db_one (ds_ret (de_tup (da_cons (de_var 2) (da_cons (de_var 3) (da_cons (de_var 4) (da_cons (de_callx (ok__law_letter_by T) hr (by omega) (by rfl) (da_cons (de_bin op_divD (de_var 0) de_int) da_nil)) da_nil))))))) db_nil)
    (db_one (ds_ret (de_tup (da_cons (de_var 2) (da_cons (de_var 3) (da_cons (de_var 4) da_nil)))))))))))
/-! _law_words_of -/
theorem sc__law_words_of : FnScope ["_law_row", "_law_words"] ["_law_row"] (defScope s__law_words_of) := ⟨rfl, rfl, rfl, by decide +kernel, rfl, by decide +kernel, by decide +kernel⟩
def g__law_words_of : GS :=
    (gSeq (gOwn 1 (aCons (e2 ixD (eVar 0) (eC (.int 0))) (aCons (e2 ixD (eVar 0) (eC (.int 1))) aNil)))
    (gSeq (gIf (e2 gtD (eCB lenD (aCons (eVar 0) aNil)) (eC (.int 2))) (gApp 1 (eCB strTD (aCons (e2 ixD (eVar 0) (eC (.int 2))) aNil))) gNil)
    (gSeq (gIf (e2 gtD (eCB lenD (aCons (eVar 0) aNil)) (eC (.int 3))) (gSeq (gApp 1 (e2 ixD (e2 ixD (eVar 0) (eC (.int 3))) (eC (.int 0))))
    (gIf (e2 gtD (eCB lenD (aCons (e2 ixD (eVar 0) (eC (.int 3))) aNil)) (eC (.int 1))) (gApp 1 (eCB strTD (aCons (e2 ixD (e2 ixD (eVar 0) (eC (.int 3))) (eC (.int 1))) aNil))) gNil)) gNil)
    (gRet (eBor (e2 joinD (eC (.str " ")) (eVar 1)))))))
def F__law_words_of : List D → Option D := runG 2 1 g__law_words_of
theorem ok__law_words_of (T : TX K mg) : Fx P w K mg base "_law_words_of" ["_law_row"] 1 F__law_words_of := by
  refine fx_of T.d__law_words_of sc__law_words_of rfl rfl (g := g__law_words_of) fun fa cdv A outer s H E hr => ?_
  exact (db_cons (ds_own (i := 1) sc__law_words_of.nd rfl (Or.inl rfl) (da_cons (de_ix (de_var 0) de_int (fun _ _ => rfl)) (da_cons (de_ix (de_var 0) de_int (fun _ _ => rfl)) da_nil)))
    (db_cons (ds_if (dt_cmp op_gtD (de_callB ca_len (by rfl) T.z_len (by decide +kernel) (da_cons (de_var 0) da_nil)) de_int (by rfl)) (db_one (ds_append (i := 1) rfl (Or.inl rfl) (de_callTy ca_strT (by rfl) T.z_str (by decide +kernel) (da_cons (de_ix (de_var 0) de_int (fun _ _ => rfl)) da_nil)))) db_nil)
    (db_cons (ds_if (dt_cmp op_gtD (de_callB ca_len (by rfl) T.z_len (by decide +kernel) (da_cons (de_var 0) da_nil)) de_int (by rfl)) (db_cons (ds_append (i := 1) rfl (Or.inl rfl) (de_ix (de_ix (de_var 0) de_int (fun _ _ => rfl)) de_int (fun _ _ => rfl)))
    (db_one (ds_if (dt_cmp op_gtD (de_callB ca_len (by rfl) T.z_len (by decide +kernel) (da_cons (de_ix (de_var 0) de_int (fun _ _ => rfl)) da_nil)) de_int (by rfl)) (db_one (ds_append (i := 1) rfl (Or.inl rfl) (de_callTy ca_strT (by rfl) T.z_str (by decide +kernel) (da_cons (de_ix (de_ix (de_var 0) de_int (fun _ _ => rfl)) de_int (fun _ _ => rfl)) da_nil)))) db_nil))) db_nil)
    (db_one (ds_ret (de_bor (de_join de_str (de_var 1))))))))
/-! _law_rows_by -/
theorem sc__law_rows_by : FnScope ["_law_script", "_law_cell", "_law_many", "_law_names_here", "_law_k"] ["_law_script"] (defScope s__law_rows_by) := ⟨rfl, rfl, rfl, by decide +kernel, rfl, by decide +kernel, by decide +kernel⟩
def g__law_rows_by : GS :=
    (gSeq (gSet 1 (eCall (F__law_cell_at) (aCons (eVar 0) (aCons (eC (.int 0)) aNil))))
    (gSeq (gSet 2 (e2 modD (eVar 1) (eC (.int 9))))
    (gSeq (gIf (e2 eqD (e2 modD (e2 divD (eVar 1) (eC (.int 9))) (eC (.int 4))) (eC (.int 1))) (gSet 2 (e2 modD (e2 divD (eVar 1) (eC (.int 36))) (eC (.int 91)))) gNil)
    (gSeq (gIf (e2 eqD (e2 modD (e2 divD (eVar 1) (eC (.int 9))) (eC (.int 32))) (eC (.int 5))) (gSet 2 (eC (.int 400))) gNil)
    (gSeq (gSet 3 (eCall (F__law_names) (aCons (eCall (F__law_cell_at) (aCons (eVar 0) (aCons (eC (.int 1)) aNil))) (aCons (eC (.int 8)) aNil))))
    (gRet (eLc (iR1 (aCons (eVar 2) aNil)) 4 (eC (.bool true)) (eCall (F__law_row_by) (aCons (e2 addD (eCall (F__law_cell_at) (aCons (eVar 0) (aCons (e2 addD (eC (.int 2)) (e2 modD (eVar 4) (eC (.int 30)))) aNil))) (e2 mulD (eC (.int 13)) (e2 divD (eVar 4) (eC (.int 30))))) (aCons (eVar 3) aNil))))))))))
def F__law_rows_by : List D → Option D := runG 5 1 g__law_rows_by
theorem ok__law_rows_by (T : TX K mg) : Fx P w K mg base "_law_rows_by" ["_law_script"] 3 F__law_rows_by := by
  refine fx_of T.d__law_rows_by sc__law_rows_by rfl rfl (g := g__law_rows_by) fun fa cdv A outer s H E hr => ?_
  exact (db_cons (ds_set (i := 1) sc__law_rows_by.nd rfl (Or.inl rfl) (de_callx (ok__law_cell_at T) hr (by omega) (by rfl) (da_cons (de_var 0) (da_cons de_int da_nil))))
    (db_cons (ds_set (i := 2) sc__law_rows_by.nd rfl (Or.inl rfl) (de_bin op_modD (de_var 1) de_int))
    (db_cons (ds_if (dt_cmp (op_eqDD (hu64 hr)) (de_bin op_modD (de_bin op_divD (de_var 1) de_int) de_int) de_int (by rfl)) (db_one (ds_set (i := 2) sc__law_rows_by.nd rfl (Or.inl rfl) (de_bin op_modD (de_bin op_divD (de_var 1) de_int) de_int))) db_nil)
    (db_cons (ds_if (dt_cmp (op_eqDD (hu64 hr)) (de_bin op_modD (de_bin op_divD (de_var 1) de_int) de_int) de_int (by rfl)) (db_one (ds_set (i := 2) sc__law_rows_by.nd rfl (Or.inl rfl) de_int)) db_nil)
    (db_cons (ds_set (i := 3) sc__law_rows_by.nd rfl (Or.inr rfl) (de_callx (ok__law_names T) hr (by omega) (by rfl) (da_cons (de_callx (ok__law_cell_at T) hr (by omega) (by rfl) (da_cons (de_var 0) (da_cons de_int da_nil))) (da_cons de_int da_nil))))
    (db_one (ds_ret (de_lc rfl sc__law_rows_by.nd (wi_range1 (by rfl) T.z_range (da_cons (de_var 2) da_nil)) (blkOk_by (own := [("_law_k", 4)]) (N := ["_law_script", "_law_cell", "_law_many", "_law_names_here", "_law_k"]) (sc := defScope s__law_rows_by) (by decide +kernel)) (fun _ _ _ _ _ => pg_name (i := 4) sc__law_rows_by.nd rfl (Or.inl rfl)) (fun _ _ _ _ _ => dts_nil) (fun _ _ _ _ _ => (de_callx (ok__law_row_by T) hr (by omega) (by rfl) (da_cons (de_bin op_addD (de_callx (ok__law_cell_at T) hr (by omega) (by rfl) (da_cons (de_var 0) (da_cons (de_bin op_addD de_int (de_bin op_modD (de_var 4) de_int)) da_nil))) (de_bin op_mulD de_int (de_bin op_divD (de_var 4) de_int))) (da_cons (de_var 3) da_nil))))))))))))
/-! law -/
theorem sc_law : FnScope ["_law_script", "_law_rows", "_law_handed", "_law_due", "_law_found", "_law_first", "_law_row"] ["_law_script"] (defScope s_law) := ⟨rfl, rfl, rfl, by decide +kernel, rfl, by decide +kernel, by decide +kernel⟩
open Q in
def g_law : GQ :=
    (sSeq (sSet 1 (lift (eCall (F__law_rows_by) (aCons (eVar 0) aNil))))
    (sSeq (sSet 2 (hList (haCons (lift (eVar 1)) haNil)))
    (sSeq (sSet 3 (lift (e2 joinD (eC (.str "")) (eLc (iSeq (eVar 1)) 6 (eC (.bool true)) (e2 addD (eCall (F__law_words_of) (aCons (eVar 6) aNil)) (eC (.str "\n")))))))
    (sSeq (sSet 4 (hView (eCall (F_told) (aCons (eVar 2) aNil))))
    (sSeq (sIf (tOr (lT (eNot (eIs "str" (eVar 4)))) (tOr (lT (e2 neD (eVar 4) (eVar 3))) (vT (e2 neD (eVar 2) (eVar 1))))) (sRet (lift (eC (.bool false)))) sNil)
    (sSeq (sSet 5 (hCall F_read (haCons (lift (eVar 3)) haNil)))
    (sSeq (sIf (tOr (tNot (vT (eCall (F__law_events) (aCons (eVar 5) aNil)))) (vT (e2 neD (eVar 5) (eVar 1)))) (sRet (lift (eC (.bool false)))) sNil)
    (sSeq (sExpr (hApp (hVar 2) (lift (eTup (aCons (eC (.str "ends")) (aCons (eC (.str "a")) aNil))))))
    (sSeq (sIf (tOr (vT (e2 neD (eCall (F_told) (aCons (eVar 2) aNil)) (e2 addD (eVar 3) (eC (.str "ends a\n"))))) (vT (e2 neD (eVar 5) (eVar 1)))) (sRet (lift (eC (.bool false)))) sNil)
    (sSeq (sExpr (hApp (hVar 5) (lift (eTup (aCons (eC (.str "fails")) (aCons (eC (.str "b")) aNil))))))
    (sRet (hAnd (h2v eqD (hCall F_read (haCons (lift (eVar 3)) haNil)) (lift (eVar 1))) (lift (e2 eqD (eCall (F_told) (aCons (eVar 1) aNil)) (eVar 3)))))))))))))))
open Q in
def F_law : FHF := runQ 7 1 g_law
open Q in
theorem ok_law (T : TX K mg) : Fq P w K mg base "law" ["_law_script"] 6 F_law := by
  refine fq_of (k := 5) T.d_law sc_law rfl rfl (by decide) (g := g_law) fun fa cdv A outer s H E hr tk hp => ?_
  exact (hb_cons (hs_set (i := 1) sc_law.nd rfl (Or.inl rfl) (he_lift (de_callx (ok__law_rows_by T) hr (by omega) (by rfl) (da_cons (de_var 0) da_nil))))
    (hb_cons (hs_set (i := 2) sc_law.nd rfl (Or.inl rfl) (he_list (by rfl) T.z_list (ha_cons (he_lift (de_var 1)) ha_nil)))
    (hb_cons (hs_set (i := 3) sc_law.nd rfl (Or.inl rfl) (he_lift (de_join de_str (de_lc rfl sc_law.nd (wi_seq (de_var 1)) (blkOk_by (own := [("_law_row", 6)]) (N := ["_law_script", "_law_rows", "_law_handed", "_law_due", "_law_found", "_law_first", "_law_row"]) (sc := defScope s_law) (by decide +kernel)) (fun _ _ _ _ _ => pg_name (i := 6) sc_law.nd rfl (Or.inl rfl)) (fun _ _ _ _ _ => dts_nil) (fun _ _ _ _ _ => (de_bin op_addD (de_callx (ok__law_words_of T) hr (by omega) (by rfl) (da_cons (de_var 6) da_nil)) de_str))))))
    (hb_cons (hs_set (i := 4) sc_law.nd rfl (Or.inl rfl) (he_view (de_callx (ok_told T) hr (by omega) (by rfl) (da_cons (de_var 2) da_nil))))
    (hb_cons (hs_if (hw_pt (hw_or (ht_lift (dt_not (dt_of (de_isiB_str T.z_isinstance T.z_str (by rfl) (by rfl) (de_var 4))))) (hw_or (ht_lift (dt_cmp (op_neDD (hu64 hr)) (de_var 4) (de_var 3) (by rfl))) (hw_or1 (ht_view (dt_cmp (op_neDD (hu64 hr)) (de_var 2) (de_var 1) (by rfl))))))) (hb_one (hs_ret (he_lift de_bl))) hb_nil)
    (hb_cons (hs_set (i := 5) sc_law.nd rfl (Or.inl rfl) (he_call (ok_read T) tk hr (by omega) (by rfl) (ha_cons (he_lift (de_var 3)) ha_nil)))
    (hb_cons (hs_if (hw_pt (hw_or (ht_not (ht_view (dt_of (de_callx (ok__law_events T) hr (by omega) (by rfl) (da_cons (de_var 5) da_nil))))) (hw_or1 (ht_view (dt_cmp (op_neDD (hu64 hr)) (de_var 5) (de_var 1) (by rfl)))))) (hb_one (hs_ret (he_lift de_bl))) hb_nil)
    (hb_cons (hs_expr (he_append (he_var 2) (he_lift (de_tup (da_cons de_str (da_cons de_str da_nil))))))
    (hb_cons (hs_if (hw_pt (hw_or (ht_view (dt_cmp (op_neDD (hu64 hr)) (de_callx (ok_told T) hr (by omega) (by rfl) (da_cons (de_var 2) da_nil)) (de_bin op_addD (de_var 3) de_str) (by rfl))) (hw_or1 (ht_view (dt_cmp (op_neDD (hu64 hr)) (de_var 5) (de_var 1) (by rfl)))))) (hb_one (hs_ret (he_lift de_bl))) hb_nil)
    (hb_cons (hs_expr (he_append (he_var 5) (he_lift (de_tup (da_cons de_str (da_cons de_str da_nil))))))
    (hb_one (hs_ret (he_and (he_cmpv (op_eqDD (hu64 hr)) (he_call (ok_read T) tk hr (by omega) (by rfl) (ha_cons (he_lift (de_var 3)) ha_nil)) (he_lift (de_var 1))) (he_one (he_lift (de_cmp (op_eqDD (hu64 hr)) (de_callx (ok_told T) hr (by omega) (by rfl) (da_cons (de_var 1) da_nil)) (de_var 3) (by rfl)))))))))))))))))
end
end K10

set_option Elab.async false
set_option linter.all false
set_option maxRecDepth 100000
set_option maxHeartbeats 4000000
namespace K10
open PySem PySem.Spec L2 Pd Hd
theorem cell_eq (ns : List Int) (k : Nat) : F__law_cell_at [.list (ns.map PyData.int), .int k] = some (.int (cellZ ns k)) := by
  refine F1 rfl ?_
  unfold g__law_cell_at
  by_cases h : k < ns.length
  · simp [h, atI_n, cellZ]
  · simp [h, cellZ]
def sg (c : Nat) : Bool := decide (97 ≤ c) && decide (c ≤ 122)
def nameB : D → Bool
  | .str s => decide (1 ≤ s.length) && decide (s.length ≤ 8) && s.cps.toList.all sg
  | _ => false
def abc : Str := "abcdefghijklmnopqrstuvwxyz"
theorem nameB_cases {s : Str} {a b : Option D} (k : Bool) (h : nameB (.str s) = (decide (1 ≤ s.length) && decide (s.length ≤ 8) && k)) : (if (1 : Int) ≤ (s.length : Int) then if (8 : Int) < (s.length : Int) then some (PyData.bool false) else some (.bool k) else some (.bool false)) = some (.bool (nameB (.str s))) := by
  rw [h]
  by_cases h1 : 1 ≤ s.length
  · have h1' : (1 : Int) ≤ (s.length : Int) := by omega
    by_cases h2 : s.length ≤ 8
    · have h2' : ¬ (8 : Int) < (s.length : Int) := by omega
      simp [h1, h2, h1', h2']
    · have h2' : (8 : Int) < (s.length : Int) := by omega
      simp [h1, h2, h1', h2']
  · have h1' : ¬ (1 : Int) ≤ (s.length : Int) := by omega
    simp [h1, h1']
theorem is_name_str (s : Str) (h : SOk s) : F_is_name [.str s] = some (.bool (nameB (.str s))) := by
  refine F1 rfl ?_
  unfold g_is_name
  have e : lcQ 1 (eC (.bool true)) (eChain leD leD (eC (.str "a")) (eVar 1) (eC (.str "z"))) [.val (.str s), .un] (signs s) = some (.list ((s.cps.toList.map sg).map PyData.bool)) := by
    rw [lcQ_map (fun d => match d with
      | .str x => .bool (x.cps.toList.all sg)
      | _ => .none) (fun d hd => ?_) (by rw [signs_len]; exact h.lim)]
    · congr 2
      unfold signs
      rw [List.map_map, List.map_map]
      apply List.map_congr_left
      intro c _
      simp
    · obtain ⟨c, hc, rfl⟩ := mem_signs hd
      have e1 : (Str.ofString "a") = ⟨#[97]⟩ := by decide +kernel
      have e2 : (Str.ofString "z") = ⟨#[122]⟩ := by decide +kernel
      simp [e1, e2, leD_one, sg]
      by_cases hc : 97 ≤ c <;> simp [hc]
  simp [-List.map_map, lenD_str _ h.lim, e, allD_map]
  have q := nameB_cases (s := s) (a := none) (b := none) (s.cps.toList.all sg) rfl
  simpa using q
theorem is_name_no (d : D) (h : ∀ s, d ≠ .str s) : F_is_name [d] = some (.bool (nameB d)) := by
  refine F1 rfl ?_
  unfold g_is_name
  cases d <;> first | exact absurd rfl (h _) | simp [nameB]
theorem sok_lit (s : Str) (h : (decide (s.length ≤ 1000) && s.cps.toList.all fun c => decide (c < 128)) = true) : SOk s := by
  rw [Bool.and_eq_true, decide_eq_true_eq, List.all_eq_true] at h
  exact ⟨h.1, fun c hc => of_decide_eq_true (h.2 c hc)⟩
theorem cell_eq' (ns : List Int) (i : Int) (h : 0 ≤ i) : F__law_cell_at [.list (ns.map PyData.int), .int i] = some (.int (cellZ ns i.toNat)) := by
  have e : i = ((i.toNat : Nat) : Int) := by omega
  rw [e, cell_eq, Int.toNat_natCast]
@[simp] theorem cell_2 (ns : List Int) : F__law_cell_at [.list (ns.map PyData.int), .int 2] = some (.int (cellZ ns 2)) := cell_eq ns 2
theorem abc_ok : SOk abc := sok_lit _ (by decide +kernel)
inductive Gd : Nat → D → Prop where
  | non {n : Nat} : Gd n .none
  | bl {n : Nat} (b : Bool) : Gd n (.bool b)
  | int {n : Nat} (i : Int) : Gd n (.int i)
  | str {n : Nat} {s : Str} (h : SOk s) : Gd n (.str s)
  | lst {n : Nat} {ds : List D} (hl : ds.length ≤ 2000) (h : ∀ d ∈ ds, Gd n d) : Gd (n + 1) (.list ds)
  | tup {n : Nat} {ds : List D} (hl : ds.length ≤ 2000) (h : ∀ d ∈ ds, Gd n d) : Gd (n + 1) (.tuple ds)
theorem depthAll_le {n : Nat} : ∀ {ds : List D}, (∀ d ∈ ds, d.depth ≤ n) → PyData.depthAll ds ≤ n
  | [], _ => Nat.zero_le _
  | d :: r, h => by
    have h1 := h d (List.mem_cons_self ..)
    have h2 := depthAll_le fun x hx => h x (List.mem_cons_of_mem _ hx)
    simp only [PyData.depthAll]
    omega
theorem Gd.fit {n : Nat} {d : D} (g : Gd n d) : n ≤ 60 → fitD d = true ∧ d.depth ≤ n := by
  induction g with
  | non => exact fun _ => ⟨rfl, Nat.zero_le _⟩
  | bl b => exact fun _ => ⟨rfl, Nat.zero_le _⟩
  | int i => exact fun _ => ⟨rfl, Nat.zero_le _⟩
  | str h => exact fun _ => ⟨fitD_str h, Nat.zero_le _⟩
  | lst hl h ih =>
    intro hn
    refine ⟨fitD_list fun d hd => ⟨(ih d hd (by omega)).1, by have := (ih d hd (by omega)).2; omega⟩, ?_⟩
    have := depthAll_le fun d hd => (ih d hd (by omega)).2
    simp only [PyData.depth]
    omega
  | tup hl h ih =>
    intro hn
    refine ⟨fitD_tuple fun d hd => ⟨(ih d hd (by omega)).1, by have := (ih d hd (by omega)).2; omega⟩, ?_⟩
    have := depthAll_le fun d hd => (ih d hd (by omega)).2
    simp only [PyData.depth]
    omega
theorem Gd.mono {n m : Nat} {d : D} (g : Gd n d) : n ≤ m → Gd m d := by
  induction g generalizing m with
  | non => exact fun _ => .non
  | bl b => exact fun _ => .bl b
  | int i => exact fun _ => .int i
  | str h => exact fun _ => .str h
  | lst hl h ih =>
    intro hn
    cases m with
    | zero => omega
    | succ m => exact .lst hl fun d hd => ih d hd (by omega)
  | tup hl h ih =>
    intro hn
    cases m with
    | zero => omega
    | succ m => exact .tup hl fun d hd => ih d hd (by omega)
theorem Gd.items {n : Nat} {ds : List D} (g : Gd n (.tuple ds)) : ds.length ≤ 2000 ∧ ∀ d ∈ ds, Gd n d := by
  cases g with
  | tup hl h => exact ⟨hl, fun d hd => (h d hd).mono (by omega)⟩
def agL : List Str := ["always", "faulted", "never"]
def ruL : List Str := ["one", "rest", "all"]
def inS (l : List Str) : D → Bool
  | .str s => decide (s ∈ l)
  | _ => false
def isS (s : Str) : D → Bool
  | .str x => decide (x = s)
  | _ => false
theorem name_eq {n : Nat} {d : D} (g : Gd n d) : F_is_name [d] = some (.bool (nameB d)) := by
  cases g with
  | str h => exact is_name_str _ h
  | _ => exact is_name_no _ fun s h => by cases h
theorem sokA : SOk "worker" ∧ SOk "warden" := ⟨sok_lit _ (by decide +kernel), sok_lit _ (by decide +kernel)⟩
theorem hv (f : FE) (δ : Hd.Env) (M : List Cell) : hView f δ M = ((f (view M δ)).bind scalK).map (fun d => (W.d d, M)) := rfl
theorem lf (f : FE) (δ : Hd.Env) (M : List Cell) : lift f δ M = (f (pview δ)).map (fun d => (W.d d, M)) := rfl
def SL (l : List Str) : List D := l.map PyData.str
theorem cut1 {α : Type} (w : α) (r : List α) : cutD (w :: r) (some 1) none = r := by
  unfold cutD
  simp [HT.sIx]
theorem cut_ok {s : Str} (h : SOk s) (lo hi : Option Int) : SOk (cutS s lo hi) ∧ (cutS s lo hi).length ≤ s.length := by
  have hl : (cutS s lo hi).length ≤ s.length := by
    unfold cutS Str.length
    simp
    omega
  refine ⟨⟨Nat.le_trans hl h.1, fun c hc => ?_⟩, hl⟩
  unfold cutS at hc
  simp at hc
  have := List.mem_of_mem_drop (List.mem_of_mem_take hc)
  exact h.2 c this
theorem lc_range {i : Nat} {fe : FE} {δ : List Sl} {m : Nat} (f : Nat → Str) (h : ∀ k : Nat, k < m → fe ((δ.set i .un).set i (.val (.int (k : Int)))) = some (.str (f k))) (hm : m ≤ lim) : lcQ i (eC (.bool true)) fe δ (rangeD 0 m) = some (.list (SL ((List.range m).map f))) := by
  rw [lcQ_map (fun d => match d with | .int k => .str (f k.toNat) | _ => .none) (fun d hd => ?_) (by unfold rangeD; simpa using hm)]
  · congr 2
    unfold SL rangeD
    rw [List.map_map, List.map_map]
    apply List.map_congr_left
    intro k _
    show PyData.str (f ((0 : Int) + (k : Nat)).toNat) = _
    rw [Int.zero_add, Int.toNat_natCast]
    rfl
  · obtain ⟨k, hk, rfl⟩ := mem_rangeD hd
    rw [Int.zero_add, h k hk]
    show _ = some (PyData.str (f ((k : Nat) : Int).toNat))
    rw [Int.toNat_natCast]
theorem eqD_deep (k : Nat) : eqD (.int ((k : Nat) : Int)) (.int 0) = some (.bool (decide (k = 0))) := by
  show some (PyData.bool (((k : Nat) : Int) == 0)) = _
  congr 2
  rw [Bool.eq_iff_iff, beq_iff_eq, decide_eq_true_eq]
  omega
theorem mod_at (q : Int) {n : Nat} (h : 0 < n) : ∃ a : Nat, q % (n : Int) = (a : Int) ∧ a < n := by
  have h1 := Int.emod_nonneg q (show (n : Int) ≠ 0 by omega)
  have h2 := Int.emod_lt_of_pos q (show (0 : Int) < (n : Int) by omega)
  exact ⟨(q % (n : Int)).toNat, by omega, by omega⟩
theorem e2_of {g : D → D → Option D} {fa fb : FE} {δ : List Sl} {u v : D} (h1 : fa δ = some u) (h2 : fb δ = some v) : e2 g fa fb δ = g u v := by
  rw [e2_eq, h1, Option.bind_some, e2k_eq, h2]
  rfl
theorem gSet_of {i : Nat} {f : FE} {δ : List Sl} {u : D} (h : f δ = some u) : gSet i f δ = some (.nx (δ.set i (.val u))) := by
  rw [gSet_eq, h]
  rfl
theorem gSeq_of {g g' : GS} {δ δ' : List Sl} (h : g δ = some (.nx δ')) : gSeq g g' δ = g' δ' := by
  rw [gSeq_eq, h, Option.bind_some, seqK_nx]
end K10

set_option Elab.async false
set_option linter.all false
set_option maxRecDepth 100000
set_option maxHeartbeats 4000000
/-! The tree of nodes that a script tells: how it grows, what it keeps. -/
namespace Hall
open PySem PySem.Spec L2 Pd Hd
structure Nd where
  up : Int
  wd : Bool
  deep : Int
  inner : List Nat
  cell : Int
/-- a node more, beneath u -/
def kid (nds : List Nd) (u : Nat) (n : Nd) (w : Bool) (c : Int) : List Nd :=
  nds.set u { n with inner := n.inner ++ [nds.length] } ++ [⟨u, w, n.deep + 1, [], c⟩]
structure NOk (nds : List Nd) : Prop where
  top : ∃ n, nds[0]? = some n ∧ n.wd = true ∧ n.up = -1 ∧ n.deep = 1
  kid : ∀ (k : Nat) (n : Nd) (j : Nat), nds[k]? = some n → j ∈ n.inner → k < j ∧ ∃ m, nds[j]? = some m ∧ m.up = k ∧ m.deep = n.deep + 1
  par : ∀ (j : Nat) (m : Nd), 0 < j → nds[j]? = some m → ∃ (k : Nat) (n : Nd), nds[k]? = some n ∧ m.up = k ∧ j ∈ n.inner
  inc : ∀ (k : Nat) (n : Nd), nds[k]? = some n → n.inner.Pairwise (· < ·)
  wd : ∀ (k : Nat) (n : Nd), nds[k]? = some n → n.inner ≠ [] → n.wd = true
  few : ∀ (k : Nat) (n : Nd), nds[k]? = some n → n.inner.length ≤ 8
  deep : ∀ (k : Nat) (n : Nd), nds[k]? = some n → 1 ≤ n.deep ∧ (n.wd = true → n.deep ≤ 6) ∧ n.deep ≤ 7
theorem kid_len (nds : List Nd) (u : Nat) (n : Nd) (w : Bool) (c : Int) : (kid nds u n w c).length = nds.length + 1 := by
  unfold kid
  rw [List.length_append, List.length_set]
  rfl
theorem kid_at {nds : List Nd} {u : Nat} {n : Nd} {w : Bool} {c : Int} (hu : nds[u]? = some n) (k : Nat) (m : Nd) : (kid nds u n w c)[k]? = some m ↔ (k = u ∧ m = { n with inner := n.inner ++ [nds.length] }) ∨ (k ≠ u ∧ k < nds.length ∧ nds[k]? = some m) ∨ (k = nds.length ∧ m = ⟨u, w, n.deep + 1, [], c⟩) := by
  have hl : u < nds.length := (List.getElem?_eq_some_iff.mp hu).1
  unfold kid
  by_cases h1 : k < nds.length
  · rw [List.getElem?_append_left (by rw [List.length_set]; exact h1)]
    by_cases h2 : k = u
    · subst h2
      rw [List.getElem?_set_self hl]
      constructor
      · intro e; cases e; exact .inl ⟨rfl, rfl⟩
      · rintro (⟨_, rfl⟩ | ⟨h, _⟩ | ⟨h, _⟩)
        · rfl
        · exact absurd rfl h
        · omega
    · rw [List.getElem?_set_ne (Ne.symm h2)]
      constructor
      · intro e; exact .inr (.inl ⟨h2, h1, e⟩)
      · rintro (⟨h, _⟩ | ⟨_, _, e⟩ | ⟨h, _⟩)
        · exact absurd h h2
        · exact e
        · omega
  · rw [List.getElem?_append_right (by rw [List.length_set]; omega), List.length_set]
    constructor
    · intro e
      have hk : k - nds.length = 0 := by
        have := (List.getElem?_eq_some_iff.mp e).1
        simp at this
        omega
      rw [hk] at e
      cases e
      exact .inr (.inr ⟨by omega, rfl⟩)
    · rintro (⟨h, _⟩ | ⟨_, h, _⟩ | ⟨h, rfl⟩)
      · omega
      · exact absurd h h1
      · subst h
        rw [Nat.sub_self]
        rfl
theorem NOk.kid' {nds : List Nd} (o : NOk nds) {u : Nat} {n : Nd} {w : Bool} {c : Int} (hu : nds[u]? = some n) (hw : n.wd = true) (h8 : n.inner.length < 8) (hd : w = true → n.deep < 6) : NOk (Hall.kid nds u n w c) := by
  have hl : u < nds.length := (List.getElem?_eq_some_iff.mp hu).1
  have old : ∀ (j : Nat) (m : Nd), nds[j]? = some m → ∃ m', (Hall.kid nds u n w c)[j]? = some m' ∧ m'.up = m.up ∧ m'.deep = m.deep ∧ m'.wd = m.wd ∧ (∀ i ∈ m.inner, i ∈ m'.inner) := fun j m hm => by
    by_cases h : j = u
    · subst h
      rw [hu] at hm
      cases hm
      exact ⟨_, (kid_at hu j _).mpr (.inl ⟨rfl, rfl⟩), rfl, rfl, rfl, fun i hi => List.mem_append_left _ hi⟩
    · exact ⟨m, (kid_at hu j m).mpr (.inr (.inl ⟨h, (List.getElem?_eq_some_iff.mp hm).1, hm⟩)), rfl, rfl, rfl, fun i hi => hi⟩
  have lt : ∀ (k : Nat) (m : Nd) (j : Nat), nds[k]? = some m → j ∈ m.inner → j < nds.length := fun k m j hm hj => by
    obtain ⟨_, m', e, _⟩ := o.kid k m j hm hj
    exact (List.getElem?_eq_some_iff.mp e).1
  refine ⟨?_, fun k m j hm hj => ?_, fun j m hj hm => ?_, fun k m hm => ?_, fun k m hm hi => ?_, fun k m hm => ?_, fun k m hm => ?_⟩
  · obtain ⟨t, h1, h2, h3, h4⟩ := o.top
    obtain ⟨t', g1, g2, g3, g4, _⟩ := old 0 t h1
    exact ⟨t', g1, g4.trans h2, g2.trans h3, g3.trans h4⟩
  · rcases (kid_at hu k m).mp hm with ⟨rfl, rfl⟩ | ⟨h1, h2, h3⟩ | ⟨rfl, rfl⟩
    · rcases List.mem_append.mp hj with hj | hj
      · obtain ⟨g1, m', g2, g3, g4⟩ := o.kid k n j hu hj
        obtain ⟨m2, e1, e2, e3, _⟩ := old j m' g2
        exact ⟨g1, m2, e1, e2.trans g3, e3.trans g4⟩
      · have : j = nds.length := by simpa using hj
        subst this
        exact ⟨hl, _, (kid_at hu _ _).mpr (.inr (.inr ⟨rfl, rfl⟩)), rfl, rfl⟩
    · obtain ⟨g1, m', g2, g3, g4⟩ := o.kid k m j h3 hj
      obtain ⟨m2, e1, e2, e3, _⟩ := old j m' g2
      exact ⟨g1, m2, e1, e2.trans g3, e3.trans g4⟩
    · cases hj
  · rcases (kid_at hu j m).mp hm with ⟨rfl, rfl⟩ | ⟨h1, h2, h3⟩ | ⟨rfl, rfl⟩
    · obtain ⟨k, q, g1, g2, g3⟩ := o.par j n hj hu
      obtain ⟨q', e1, _, _, _, e5⟩ := old k q g1
      exact ⟨k, q', e1, g2, e5 _ g3⟩
    · obtain ⟨k, q, g1, g2, g3⟩ := o.par j m hj h3
      obtain ⟨q', e1, _, _, _, e5⟩ := old k q g1
      exact ⟨k, q', e1, g2, e5 _ g3⟩
    · exact ⟨u, _, (kid_at hu _ _).mpr (.inl ⟨rfl, rfl⟩), rfl, List.mem_append_right _ (List.mem_singleton.mpr rfl)⟩
  · rcases (kid_at hu k m).mp hm with ⟨rfl, rfl⟩ | ⟨h1, h2, h3⟩ | ⟨rfl, rfl⟩
    · refine List.pairwise_append.mpr ⟨o.inc k n hu, List.pairwise_singleton _ _, fun a ha b hb => ?_⟩
      have : b = nds.length := by simpa using hb
      subst this
      exact lt k n a hu ha
    · exact o.inc k m h3
    · exact List.Pairwise.nil
  · rcases (kid_at hu k m).mp hm with ⟨rfl, rfl⟩ | ⟨h1, h2, h3⟩ | ⟨rfl, rfl⟩
    · exact hw
    · exact o.wd k m h3 hi
    · exact absurd rfl hi
  · rcases (kid_at hu k m).mp hm with ⟨rfl, rfl⟩ | ⟨h1, h2, h3⟩ | ⟨rfl, rfl⟩
    · show (n.inner ++ [nds.length]).length ≤ 8
      rw [List.length_append, List.length_singleton]
      omega
    · exact o.few k m h3
    · exact Nat.zero_le _
  · rcases (kid_at hu k m).mp hm with ⟨rfl, rfl⟩ | ⟨h1, h2, h3⟩ | ⟨rfl, rfl⟩
    · exact o.deep k n hu
    · exact o.deep k m h3
    · obtain ⟨d1, d2, d3⟩ := o.deep u n hu
      have := d2 hw
      refine ⟨by show 1 ≤ n.deep + 1; omega, fun h => ?_, by show n.deep + 1 ≤ 7; omega⟩
      have := hd h
      show n.deep + 1 ≤ 6
      omega
/-- nodes as they lie in the store -/
def il (k : Nat) : Nat := if k = 0 then 0 else 2 * k + 1
def dl (k : Nat) : Nat := if k = 0 then 1 else 2 * k + 2
def IN (l : List Nat) : List D := l.map fun (j : Nat) => .int (j : Int)
def ndD (n : Nd) : D := .dict [(.str "up", .int n.up), (.str "warden", .bool n.wd), (.str "deep", .int n.deep), (.str "inner", .list (IN n.inner)), (.str "cell", .int n.cell)]
def ndC (k : Nat) (n : Nd) : Cell := .dct [("up", .d (.int n.up)), ("warden", .d (.bool n.wd)), ("deep", .d (.int n.deep)), ("inner", .l (il k)), ("cell", .d (.int n.cell))]
def WN (l : List Nat) : List W := l.map fun (j : Nat) => .d (.int (j : Int))
structure NSt (nds : List Nd) (M : List Cell) : Prop where
  len : M.length = 2 * nds.length + 1
  pos : 0 < nds.length
  top : M[2]? = some (.lst ((List.range nds.length).map fun k => .l (dl k)))
  inn : ∀ (k : Nat) (n : Nd), nds[k]? = some n → M[il k]? = some (.lst (WN n.inner))
  dct : ∀ (k : Nat) (n : Nd), nds[k]? = some n → M[dl k]? = some (ndC k n)
theorem oAll_map {α β : Type} (f : α → Option β) (h : α → β) : ∀ (l : List α), (∀ a ∈ l, f a = some (h a)) → oAll f l = some (l.map h)
  | [], _ => rfl
  | a :: r, q => by
    simp only [oAll, q a (List.mem_cons_self ..), Option.bind_some, oAll_map f h r fun x hx => q x (List.mem_cons_of_mem _ hx), List.map_cons]
theorem fz_lst {n : Nat} {M : List Cell} {k : Nat} {ws : List W} (h : M[k]? = some (.lst ws)) : fzW (n + 1) M (.l k) = (oAll (fzW n M) ws).map .list := by
  simp only [fzW, h]
theorem fz_dct {n : Nat} {M : List Cell} {k : Nat} {kvs : List (Str × W)} (h : M[k]? = some (.dct kvs)) : fzW (n + 1) M (.l k) = (oAll (fun kw => (fzW n M kw.2).map fun d => ((PyData.str kw.1, d) : D × D)) kvs).map .dict := by
  simp only [fzW, h]
theorem fz_d (n : Nat) (M : List Cell) (x : D) : fzW n M (.d x) = some x := by cases n <;> rfl
theorem fz_inner {nds : List Nd} {M : List Cell} (s : NSt nds M) {k : Nat} {n : Nd} (h : nds[k]? = some n) (m : Nat) : fzW (m + 1) M (.l (il k)) = some (.list (IN n.inner)) := by
  rw [fz_lst (s.inn k n h), oAll_map _ (fun w => match w with | .d x => x | _ => .none) _ fun w hw => by
    obtain ⟨j, _, rfl⟩ := List.mem_map.mp hw
    exact fz_d _ _ _]
  show some (PyData.list _) = _
  unfold IN WN
  rw [List.map_map]
  rfl
theorem fz_nd {nds : List Nd} {M : List Cell} (s : NSt nds M) {k : Nat} {n : Nd} (h : nds[k]? = some n) (m : Nat) : fzW (m + 2) M (.l (dl k)) = some (ndD n) := by
  rw [fz_dct (s.dct k n h)]
  simp only [oAll, fz_d, fz_inner s h, Option.map_some, Option.bind_some]
  rfl
theorem fz_top {nds : List Nd} {M : List Cell} (s : NSt nds M) : fzW 9 M (.l 2) = some (.list (nds.map ndD)) := by
  rw [fz_lst (n := 8) s.top, oAll_map (fzW 8 M) (fun w => match w with | .l k => (match nds[(if k = 1 then 0 else (k - 2) / 2)]? with | some n => ndD n | none => .none) | _ => .none) _ fun w hw => by
    obtain ⟨k, hk, rfl⟩ := List.mem_map.mp hw
    have hk := List.mem_range.mp hk
    have e := List.getElem?_eq_getElem hk
    rw [fz_nd s e 6]
    have e2 : (if dl k = 1 then 0 else (dl k - 2) / 2) = k := by unfold dl; split <;> split <;> omega
    show _ = some (match nds[(if dl k = 1 then 0 else (dl k - 2) / 2)]? with | some n => ndD n | none => .none)
    rw [e2, e]]
  show some (PyData.list _) = _
  congr 2
  rw [List.map_map]
  apply List.ext_getElem?
  intro k
  rw [List.getElem?_map, List.getElem?_map]
  by_cases hk : k < nds.length
  · rw [List.getElem?_range hk, List.getElem?_eq_getElem hk]
    have e2 : (if dl k = 1 then 0 else (dl k - 2) / 2) = k := by unfold dl; split <;> split <;> omega
    show some (match nds[(if dl k = 1 then 0 else (dl k - 2) / 2)]? with | some n => ndD n | none => .none) = _
    rw [e2, List.getElem?_eq_getElem hk]
    rfl
  · rw [List.getElem?_eq_none (by simpa using hk), List.getElem?_eq_none (by simpa using hk)]
    rfl
theorem il_dl {k : Nat} {n : Nat} (h : k < n) : il k < 2 * n + 1 ∧ dl k < 2 * n + 1 ∧ il k ≠ 2 ∧ dl k ≠ 2 := by
  unfold il dl
  split <;> omega
theorem il_inj {k j : Nat} (h : il k = il j) : k = j := by
  unfold il at h
  split at h <;> split at h <;> omega
theorem dl_inj {k j : Nat} (h : dl k = dl j) : k = j := by
  unfold dl at h
  split at h <;> split at h <;> omega
theorem il_ne_dl {k j : Nat} : il k ≠ dl j := by
  unfold il dl
  split <;> split <;> omega
/-- the store where a node was put beneath u -/
theorem NSt.kid {nds : List Nd} {M : List Cell} (s : NSt nds M) {u : Nat} {n : Nd} (hu : nds[u]? = some n) (w : Bool) (c : Int) :
    NSt (Hall.kid nds u n w c) ((M.set (il u) (.lst (WN n.inner ++ [.d (.int nds.length)])) ++ [.lst [], ndC nds.length ⟨u, w, n.deep + 1, [], c⟩]).set 2 (.lst ((List.range nds.length).map (fun k => W.l (dl k)) ++ [.l (2 * nds.length + 2)]))) := by
  have hl : u < nds.length := (List.getElem?_eq_some_iff.mp hu).1
  have hp := s.pos
  obtain ⟨u1, u2, u3, u4⟩ := il_dl hl
  have hL := s.len
  have dn : dl nds.length = 2 * nds.length + 2 := by unfold dl; rw [if_neg (by omega)]
  have inl : il nds.length = 2 * nds.length + 1 := by unfold il; rw [if_neg (by omega)]
  refine ⟨?_, by rw [kid_len]; omega, ?_, fun k m hm => ?_, fun k m hm => ?_⟩
  · rw [kid_len]; simp; omega
  · rw [List.getElem?_set_self (by simp; omega), kid_len, List.range_succ, List.map_append, List.map_singleton, dn]
  · rcases (kid_at hu k m).mp hm with ⟨rfl, rfl⟩ | ⟨h1, h2, h3⟩ | ⟨rfl, rfl⟩
    · rw [List.getElem?_set_ne (by omega), List.getElem?_append_left (by rw [List.length_set]; omega), List.getElem?_set_self (by omega)]
      unfold WN
      rw [List.map_append]
      rfl
    · obtain ⟨k1, k2, k3, k4⟩ := il_dl h2
      rw [List.getElem?_set_ne (by omega), List.getElem?_append_left (by rw [List.length_set]; omega), List.getElem?_set_ne (fun e => h1 (il_inj e).symm)]
      exact s.inn k m h3
    · rw [inl, List.getElem?_set_ne (by omega), List.getElem?_append_right (by rw [List.length_set]; omega), List.length_set, hL, Nat.sub_self]
      rfl
  · rcases (kid_at hu k m).mp hm with ⟨rfl, rfl⟩ | ⟨h1, h2, h3⟩ | ⟨rfl, rfl⟩
    · rw [List.getElem?_set_ne (by omega), List.getElem?_append_left (by rw [List.length_set]; omega), List.getElem?_set_ne il_ne_dl]
      exact s.dct k n hu
    · obtain ⟨k1, k2, k3, k4⟩ := il_dl h2
      rw [List.getElem?_set_ne (by omega), List.getElem?_append_left (by rw [List.length_set]; omega), List.getElem?_set_ne il_ne_dl]
      exact s.dct k m h3
    · rw [dn, List.getElem?_set_ne (by omega), List.getElem?_append_right (by rw [List.length_set]; omega), List.length_set, hL, show 2 * nds.length + 2 - (2 * nds.length + 1) = 1 by omega]
      rfl
theorem oAll_imp {α β : Type} {f g : α → Option β} : ∀ {l : List α} {r : List β}, (∀ a ∈ l, ∀ b, f a = some b → g a = some b) → oAll f l = some r → oAll g l = some r
  | [], _, _, e => e
  | a :: l, r, h, e => by
    simp only [oAll] at e ⊢
    obtain ⟨b, h1, e⟩ := Option.bind_eq_some_iff.mp e
    obtain ⟨bs, h2, e⟩ := Option.bind_eq_some_iff.mp e
    rw [h a (List.mem_cons_self ..) b h1, Option.bind_some, oAll_imp (fun x hx => h x (List.mem_cons_of_mem _ hx)) h2, Option.bind_some]
    exact e
/-- what is read stays where only new cells come -/
theorem fz_ext {M : List Cell} {t : List Cell} : ∀ {n : Nat} {w : W} {d : D}, fzW n M w = some d → fzW n (M ++ t) w = some d
  | 0, .d x, _, e => e
  | 0, .l _, _, e => by cases e
  | n + 1, .d x, _, e => e
  | n + 1, .l k, d, e => by
    have hk : k < M.length := by
      by_cases h : k < M.length
      · exact h
      · simp only [fzW, List.getElem?_eq_none (by omega : M.length ≤ k)] at e
        cases e
    simp only [fzW] at e ⊢
    rw [List.getElem?_append_left hk]
    cases hc : M[k]? with
    | none => rw [hc] at e; cases e
    | some c =>
      rw [hc] at e
      cases c with
      | lst ws =>
        obtain ⟨ds, h1, h2⟩ := Option.map_eq_some_iff.mp e
        show (oAll _ _).map _ = _
        rw [oAll_imp (fun a _ b h => fz_ext h) h1]
        exact congrArg some h2
      | dct kvs =>
        obtain ⟨ds, h1, h2⟩ := Option.map_eq_some_iff.mp e
        show (oAll _ _).map _ = _
        rw [oAll_imp (fun a _ b h => by
          obtain ⟨x, g1, g2⟩ := Option.map_eq_some_iff.mp h
          rw [fz_ext g1]
          exact congrArg some g2) h1]
        exact congrArg some h2
end Hall

set_option Elab.async false
set_option linter.all false
set_option maxRecDepth 100000
set_option maxHeartbeats 4000000
namespace K10
open PySem PySem.Spec L2 Pd Hd Hall
theorem abc_at {i : Int} (h0 : 0 ≤ i) (h1 : i < 26) : ixD (.str abc) (.int i) = some (.str ⟨#[97 + i.toNat]⟩) := by
  have e : abc.cps.toList = (List.range 26).map (97 + ·) := by decide +kernel
  rw [ixD_str _ _ abc_ok.lim, atI_of h0 (v := 97 + i.toNat) (by rw [e, List.getElem?_map, List.getElem?_range (by omega)]; rfl)]
  rfl
/-- a text of small letters -/
def Low (s : Str) : Prop := ∀ c ∈ s.cps.toList, sg c = true
theorem Low.sok {s : Str} (h : Low s) (hl : s.length ≤ 1000) : SOk s := ⟨hl, fun c hc => by
  have := h c hc
  unfold sg at this
  simp at this
  omega⟩
theorem Low.append {a b : Str} (ha : Low a) (hb : Low b) : Low (a ++ b) := fun c hc => by
  rw [cps_append, List.mem_append] at hc
  rcases hc with hc | hc
  · exact ha c hc
  · exact hb c hc
theorem Low.one {i : Nat} (h : i < 26) : Low ⟨#[97 + i]⟩ := fun c hc => by
  have : c = 97 + i := by simpa using hc
  unfold sg
  simp
  omega
theorem Low.cut {s : Str} (h : Low s) (lo hi : Option Int) : Low (cutS s lo hi) := fun c hc => by
  unfold cutS at hc
  simp at hc
  exact h c (List.mem_of_mem_drop (List.mem_of_mem_take hc))
theorem Low.name {s : Str} (h : Low s) (h1 : 1 ≤ s.length) (h8 : s.length ≤ 8) : nameB (.str s) = true := by
  show (decide (1 ≤ s.length) && decide (s.length ≤ 8) && s.cps.toList.all sg) = true
  rw [decide_eq_true h1, decide_eq_true h8, Bool.and_self, Bool.true_and, List.all_eq_true]
  exact h
theorem low0 : Low "" := fun c hc => by
  have e : (Str.ofString "").cps.toList = [] := by decide +kernel
  rw [e] at hc
  cases hc
theorem head_low (c m : Int) : ∃ (s : Str) (r : Int) (x : Sl), forG 5 b__law_names_1 (rangeD 0 8) [.val (.int c), .val (.int m), .val (.str abc), .val (.str ""), .val (.int (c / 48)), .un, .un, .un, .un] = some (.nx [.val (.int c), .val (.int m), .val (.str abc), .val (.str s), .val (.int r), x, .un, .un, .un]) ∧ Low s ∧ s.length = 8 := by
  let Inv : Nat → List Sl → Prop := fun j δ => ∃ (s : Str) (r : Int) (x : Sl), δ = [.val (.int c), .val (.int m), .val (.str abc), .val (.str s), .val (.int r), x, .un, .un, .un] ∧ Low s ∧ s.length = j
  obtain ⟨δ', e1, s, r, x, rfl, hs, hl⟩ := forG_inv (i := 5) (body := b__law_names_1) Inv (rangeD 0 8) 0 [.val (.int c), .val (.int m), .val (.str abc), .val (.str ""), .val (.int (c / 48)), .un, .un, .un, .un] ⟨"", _, _, rfl, low0, rfl⟩ (by
    rintro j d δ hj ⟨s, r, x, rfl, hs, hl⟩
    have hj8 : j < 8 := by
      have := (List.getElem?_eq_some_iff.mp hj).1
      unfold rangeD at this
      simpa using this
    have ea := abc_at (i := r % 26) (by omega) (by omega)
    have ea2 : addD (.str s) (.str ⟨#[97 + (r % 26).toNat]⟩) = some (.str (s ++ ⟨#[97 + (r % 26).toNat]⟩)) := addD_str _ _ (by rw [len_one, lim_eq]; omega)
    refine ⟨_, ?_, s ++ ⟨#[97 + (r % 26).toNat]⟩, r / 26, .val d, rfl, hs.append (Low.one (by omega)), by rw [len_append, len_one, hl]⟩
    unfold b__law_names_1
    simp [ea, ea2])
  exact ⟨s, r, x, e1, hs, hl⟩
/-- names: so many, all names, none twice -/
structure NmOk (N : List Str) (m : Int) : Prop where
  len : (N.length : Int) = m
  name : ∀ s ∈ N, SOk s ∧ nameB (.str s) = true
  nd : N.Nodup
theorem nmok_of {m : Int} (h0 : 0 ≤ m) {f : Nat → Str} (h : ∀ k : Nat, (k : Int) < m → Low (f k) ∧ 1 ≤ (f k).length ∧ (f k).length ≤ 8) (hi : ∀ a b : Nat, a < b → (b : Int) < m → f a ≠ f b) : NmOk ((List.range m.toNat).map f) m := by
  refine ⟨by simp; omega, fun s hs => ?_, ?_⟩
  · obtain ⟨k, hk, rfl⟩ := List.mem_map.mp hs
    have hk := List.mem_range.mp hk
    obtain ⟨h1, h2, h3⟩ := h k (by omega)
    exact ⟨h1.sok (by omega), h1.name h2 h3⟩
  · unfold List.Nodup
    rw [List.pairwise_map]
    refine List.Pairwise.imp_of_mem (R := fun a b => a < b) (fun {a b} ha hb hab => ?_) List.pairwise_lt_range
    have := List.mem_range.mp hb
    exact hi a b hab (by omega)
theorem cps_len (s : Str) : s.cps.toList.length = s.length := by simp [Str.length]
theorem cut_hi_len {s : Str} {k : Nat} (h : k ≤ s.length) : (cutS s none (some (k : Int))).length = k := by
  have e : (cutS s none (some (k : Int))).cps.toList = s.cps.toList.take k := by
    unfold cutS
    rw [HT.sIx_none, HT.sIx_nat, Nat.min_eq_left h]
    rfl
  rw [← cps_len, e, List.length_take, cps_len, Nat.min_eq_left h]
theorem cut_lo_len {s : Str} {k : Nat} (h : k ≤ s.length) : (cutS s (some (k : Int)) none).length = s.length - k := by
  have e : (cutS s (some (k : Int)) none).cps.toList = (s.cps.toList.drop k).take (s.length - k) := by
    unfold cutS
    rw [HT.sIx_none, HT.sIx_nat, Nat.min_eq_left h]
  rw [← cps_len, e, List.length_take, List.length_drop, cps_len, Nat.min_self]
theorem names_eq2 (c m : Int) (h0 : 0 ≤ m) (h1 : m ≤ 70) : ∃ N : List Str, F__law_names [.int c, .int m] = some (.list (SL N)) ∧ NmOk N m := by
  obtain ⟨s, r, x, e1, hs, hl⟩ := head_low c m
  have e0 : (Str.ofString "abcdefghijklmnopqrstuvwxyz") = abc := rfl
  have er : -(2 ^ 62) ≤ m ∧ m < 2 ^ 62 := by omega
  have lm : m.toNat ≤ lim := by rw [lim_eq]; omega
  have hsok := hs.sok (by omega)
  have run : ∀ N, (g__law_names (startD 9 [.int c, .int m])).bind rtK = some (.list (SL N)) → F__law_names [.int c, .int m] = some (.list (SL N)) := fun N h => F1 rfl h
  by_cases a0 : c % 6 = 0 ∧ m < 9
  · refine ⟨(List.range m.toNat).map fun k : Nat => cutS s none (some ((k : Int) + 1)), run _ ?_, nmok_of h0 (fun k hk => ?_) fun a b hab hb => ?_⟩
    · unfold g__law_names
      have e2 := lc_range (i := 5) (δ := [.val (.int c), .val (.int m), .val (.str abc), .val (.str s), .val (.int r), x, .val (.int (c % 6)), .un, .un]) (fe := eSl (eVar 3) oNone (oSome (e2 addD (eVar 5) (eC (.int 1))))) (m := m.toNat) (fun k : Nat => cutS s none (some ((k : Int) + 1))) (fun k hk => by
        simp [oNone, slK3_str _ _ _ hsok.lim]) lm
      simp [e0, r1K_eq _ (show -(2 ^ 62) ≤ (8 : Int) ∧ (8 : Int) < 2 ^ 62 by omega)]
      rw [e1]
      rw [a0.1] at e2
      simp [a0.1, a0.2, r1K_eq _ er, e2]
    · have := cut_hi_len (s := s) (k := k + 1) (by omega)
      rw [Int.natCast_add, Int.natCast_one] at this
      exact ⟨hs.cut _ _, by omega, by omega⟩
    · intro e
      have ea := cut_hi_len (s := s) (k := a + 1) (by omega)
      have eb := cut_hi_len (s := s) (k := b + 1) (by omega)
      rw [Int.natCast_add, Int.natCast_one] at ea eb
      rw [e, eb] at ea
      omega
  · by_cases a1 : c % 6 = 1 ∧ m < 9
    · refine ⟨(List.range m.toNat).map fun k : Nat => cutS s (some (7 - (k : Int))) none, run _ ?_, nmok_of h0 (fun k hk => ?_) fun a b hab hb => ?_⟩
      · unfold g__law_names
        have e2 := lc_range (i := 5) (δ := [.val (.int c), .val (.int m), .val (.str abc), .val (.str s), .val (.int r), x, .val (.int (c % 6)), .un, .un]) (fe := eSl (eVar 3) (oSome (e2 subD (eC (.int 7)) (eVar 5))) oNone) (m := m.toNat) (fun k : Nat => cutS s (some (7 - (k : Int))) none) (fun k hk => by
          simp [oNone, slK3_str _ _ _ hsok.lim]) lm
        simp [e0, r1K_eq _ (show -(2 ^ 62) ≤ (8 : Int) ∧ (8 : Int) < 2 ^ 62 by omega)]
        rw [e1]
        rw [a1.1] at e2
        simp [a1.1, a1.2, r1K_eq _ er, e2]
      · have := cut_lo_len (s := s) (k := 7 - k) (by omega)
        rw [show ((7 - k : Nat) : Int) = 7 - (k : Int) by omega] at this
        exact ⟨hs.cut _ _, by omega, by omega⟩
      · intro e
        have ea := cut_lo_len (s := s) (k := 7 - a) (by omega)
        have eb := cut_lo_len (s := s) (k := 7 - b) (by omega)
        rw [show ((7 - a : Nat) : Int) = 7 - (a : Int) by omega] at ea
        rw [show ((7 - b : Nat) : Int) = 7 - (b : Int) by omega] at eb
        rw [e, eb] at ea
        omega
    · have hs2 := hs.cut none (some (c / 6 % 7))
      have hl2 : (cutS s none (some (c / 6 % 7))).length ≤ 6 := by
        have := cut_hi_len (s := s) (k := (c / 6 % 7).toNat) (by omega)
        rw [show (((c / 6 % 7).toNat : Nat) : Int) = c / 6 % 7 by omega] at this
        omega
      generalize hh : cutS s none (some (c / 6 % 7)) = h at hs2 hl2
      have hsok2 := hs2.sok (by omega)
      have n0 : ¬ (c % 6 = 0) ∨ ¬ (m < 9) := by
        by_cases q : c % 6 = 0
        · exact .inr fun z => a0 ⟨q, z⟩
        · exact .inl q
      have n1 : ¬ (c % 6 = 1) ∨ ¬ (m < 9) := by
        by_cases q : c % 6 = 1
        · exact .inr fun z => a1 ⟨q, z⟩
        · exact .inl q
      have hm : (0 : Int) < (h.length : Int) + 1 := by omega
      have es : slK3 (.str s) none (some (c / 6 % 7)) = some (.str h) := by rw [slK3_str _ _ _ hsok.lim, hh]
      by_cases a2 : c % 6 < 4 ∧ m < 27
      · have ho1 := hs2.cut none (some (c / 5 % ((h.length : Int) + 1)))
        have hl3 : (cutS h none (some (c / 5 % ((h.length : Int) + 1)))).length ≤ h.length := (cut_ok hsok2 _ _).2
        generalize h3 : cutS h none (some (c / 5 % ((h.length : Int) + 1))) = lf at ho1 hl3
        have ho2 := hs2.cut (some (lf.length : Int)) none
        have hl4 := cut_lo_len (s := h) hl3
        generalize h4 : cutS h (some (lf.length : Int)) none = rt at ho2 hl4
        have hsokl := ho1.sok (by omega)
        let a : Nat → Nat := fun k => 97 + ((c / 7 + 7 * (k : Int)) % 26).toNat
        have ha : ∀ k : Nat, ixD (.str abc) (.int ((c / 7 + 7 * (k : Int)) % 26)) = some (.str ⟨#[a k]⟩) := fun k => abc_at (by omega) (by omega)
        have e2 := lc_range (i := 5) (δ := [.val (.int c), .val (.int m), .val (.str abc), .val (.str h), .val (.int r), x, .val (.int (c % 6)), .val (.str lf), .val (.str rt)]) (fe := (e2 addD (e2 addD (eVar 7) (e2 ixD (eVar 2) (e2 modD (e2 addD (e2 divD (eVar 0) (eC (.int 7))) (e2 mulD (eC (.int 7)) (eVar 5))) (eC (.int 26))))) (eVar 8))) (m := m.toNat) (fun k : Nat => (lf ++ ⟨#[a k]⟩) ++ rt) (fun k hk => by
          have em : mulD (.int 7) (.int (k : Int)) = some (.int (7 * (k : Int))) := by rw [mulD_int, if_pos (by simp)]
          have ea := ha k
          have ed1 : addD (.str lf) (.str ⟨#[a k]⟩) = some (.str (lf ++ ⟨#[a k]⟩)) := addD_str _ _ (by rw [len_one, lim_eq]; omega)
          have ed2 : addD (.str (lf ++ ⟨#[a k]⟩)) (.str rt) = some (.str (lf ++ ⟨#[a k]⟩ ++ rt)) := addD_str _ _ (by rw [len_append, len_one, lim_eq]; omega)
          simp [em, ea, ed1, ed2]) lm
        refine ⟨(List.range m.toNat).map fun k : Nat => (lf ++ ⟨#[a k]⟩) ++ rt, run _ ?_, nmok_of h0 (fun k hk => ?_) fun i j hij hj => ?_⟩
        · unfold g__law_names
          simp [e0, r1K_eq _ (show -(2 ^ 62) ≤ (8 : Int) ∧ (8 : Int) < 2 ^ 62 by omega)]
          rw [e1]
          rcases n0 with q0 | q0 <;> rcases n1 with q1 | q1 <;> simp [q0, q1, es, a2.1, a2.2, r1K_eq _ er, lenD_str _ hsok2.lim, lenD_str _ hsokl.lim, hm, slK3_str _ _ _ hsok2.lim, h3, h4, e2, oNone]
        · refine ⟨(ho1.append (Low.one (by omega))).append ho2, ?_, ?_⟩ <;> rw [len_append, len_append, len_one] <;> omega
        · intro e
          have e' := congrArg (fun z : Str => z.cps.toList) e
          simp only [cps_append, List.append_assoc, List.append_cancel_left_eq] at e'
          have e3 : a i = a j := by
            have := congrArg List.head? e'
            simpa using this
          have e4 : ((c / 7 + 7 * (i : Int)) % 26).toNat = ((c / 7 + 7 * (j : Int)) % 26).toNat := Nat.add_left_cancel e3
          omega
      · have n2 : ¬ (c % 6 < 4) ∨ ¬ (m < 27) := by
          by_cases q : c % 6 < 4
          · exact .inr fun z => a2 ⟨q, z⟩
          · exact .inl q
        let a : Nat → Nat := fun k => 97 + ((k : Int) / 26).toNat
        let b : Nat → Nat := fun k => 97 + ((k : Int) % 26).toNat
        have ha : ∀ k : Nat, (k : Int) < m → ixD (.str abc) (.int ((k : Int) / 26)) = some (.str ⟨#[a k]⟩) := fun k hk => abc_at (by omega) (by omega)
        have hb : ∀ k : Nat, ixD (.str abc) (.int ((k : Int) % 26)) = some (.str ⟨#[b k]⟩) := fun k => abc_at (by omega) (by omega)
        have e2 := lc_range (i := 5) (δ := [.val (.int c), .val (.int m), .val (.str abc), .val (.str h), .val (.int r), x, .val (.int (c % 6)), .un, .un]) (fe := (e2 addD (e2 addD (eVar 3) (e2 ixD (eVar 2) (e2 divD (eVar 5) (eC (.int 26))))) (e2 ixD (eVar 2) (e2 modD (eVar 5) (eC (.int 26)))))) (m := m.toNat) (fun k : Nat => (h ++ ⟨#[a k]⟩) ++ ⟨#[b k]⟩) (fun k hk => by
          have ea := ha k (by omega)
          have eb := hb k
          have ed1 : addD (.str h) (.str ⟨#[a k]⟩) = some (.str (h ++ ⟨#[a k]⟩)) := addD_str _ _ (by rw [len_one, lim_eq]; omega)
          have ed2 : addD (.str (h ++ ⟨#[a k]⟩)) (.str ⟨#[b k]⟩) = some (.str (h ++ ⟨#[a k]⟩ ++ ⟨#[b k]⟩)) := addD_str _ _ (by rw [len_append, len_one, len_one, lim_eq]; omega)
          simp [ea, eb, ed1, ed2]) lm
        refine ⟨(List.range m.toNat).map fun k : Nat => (h ++ ⟨#[a k]⟩) ++ ⟨#[b k]⟩, run _ ?_, nmok_of h0 (fun k hk => ?_) fun i j hij hj => ?_⟩
        · unfold g__law_names
          simp [e0, r1K_eq _ (show -(2 ^ 62) ≤ (8 : Int) ∧ (8 : Int) < 2 ^ 62 by omega)]
          rw [e1]
          rcases n0 with q0 | q0 <;> rcases n1 with q1 | q1 <;> rcases n2 with q2 | q2 <;> simp [q0, q1, q2, es, r1K_eq _ er, e2, oNone]
        · refine ⟨(hs2.append (Low.one (by omega))).append (Low.one (by omega)), ?_, ?_⟩ <;> rw [len_append, len_append, len_one, len_one] <;> omega
        · intro e
          have e' := congrArg (fun z : Str => z.cps.toList) e
          simp only [cps_append, List.append_assoc, List.append_cancel_left_eq] at e'
          have e3 : a i = a j ∧ b i = b j := by simpa using e'
          have e4 : ((i : Int) / 26).toNat = ((j : Int) / 26).toNat := Nat.add_left_cancel e3.1
          have e5 : ((i : Int) % 26).toNat = ((j : Int) % 26).toNat := Nat.add_left_cancel e3.2
          omega
end K10

set_option Elab.async false
set_option linter.all false
set_option maxRecDepth 100000
set_option maxHeartbeats 4000000
/-! A house as it stands in the store: its cells by tags. -/
namespace A
open PySem PySem.Spec PyProof.Rows L2 Pd Q
/-! ### dicts over indices -/
def dk (nm : Nat → Str) (is : List Nat) (f : Nat → W) : List (Str × W) := is.map fun i => (nm i, f i)
def addK (is : List Nat) (i : Nat) : List Nat := if i ∈ is then is else is ++ [i]
def set1 {α : Type} (f : Nat → α) (i : Nat) (a : α) : Nat → α := fun j => if j = i then a else f j
theorem set1_same {α : Type} {f : Nat → α} {i : Nat} {a : α} : set1 f i a i = a := if_pos rfl
theorem set1_ne {α : Type} {f : Nat → α} {i j : Nat} {a : α} (h : j ≠ i) : set1 f i a j = f j := if_neg h
def Inj (nm : Nat → Str) (n : Nat) : Prop := ∀ a, a < n → ∀ b, b < n → nm a = nm b → a = b
section
variable {nm : Nat → Str} {n : Nat} {f : Nat → W} {i : Nat}
theorem dk_get : ∀ {is : List Nat}, Inj nm n → (∀ a ∈ is, a < n) → i ∈ is → (dk nm is f).lookup (nm i) = some (f i)
  | a :: r, inj, hs, hi => by
    show ((nm a, f a) :: dk nm r f).lookup (nm i) = _
    rw [List.lookup_cons]
    by_cases e : i = a
    · subst e; simp
    · have ne : ¬ nm i = nm a := fun q => e (inj i (hs i hi) a (hs a (List.mem_cons_self ..)) q)
      have hb : (nm i == nm a) = false := by simpa using ne
      rw [hb]
      have hi' : i ∈ r := by
        rcases List.mem_cons.mp hi with q | q
        · exact absurd q e
        · exact q
      exact dk_get inj (fun a ha => hs a (List.mem_cons_of_mem _ ha)) hi'
theorem dk_no {s : Str} : ∀ {is : List Nat}, (∀ a ∈ is, nm a ≠ s) → (dk nm is f).lookup s = none
  | [], _ => rfl
  | a :: r, hs => by
    show ((nm a, f a) :: dk nm r f).lookup s = _
    rw [List.lookup_cons]
    have hb : (s == nm a) = false := by
      have := hs a (List.mem_cons_self ..)
      simpa using fun q => this (Eq.symm q)
    rw [hb]
    exact dk_no fun a ha => hs a (List.mem_cons_of_mem _ ha)
theorem dk_any (inj : Inj nm n) (hi : i < n) : ∀ {is : List Nat}, (∀ a ∈ is, a < n) → ((dk nm is f).any fun kv => decide (kv.1 = nm i)) = decide (i ∈ is)
  | [], _ => by simp [dk]
  | a :: r, hs => by
    have ih := dk_any (is := r) inj hi fun a ha => hs a (List.mem_cons_of_mem _ ha)
    show ((nm a, f a) :: dk nm r f).any _ = _
    rw [List.any_cons, ih]
    by_cases e : i = a
    · subst e; simp
    · have ne : ¬ nm a = nm i := fun q => e (inj i hi a (hs a (List.mem_cons_self ..)) q.symm)
      simp [ne, e]
theorem dk_put {w : W} {is : List Nat} (inj : Inj nm n) (hi : i < n) (hs : ∀ a ∈ is, a < n) : putD (nm i) w (dk nm is f) = dk nm (addK is i) (set1 f i w) := by
  unfold putD addK
  rw [dk_any inj hi hs]
  by_cases hm : i ∈ is
  · rw [if_pos (by simpa using hm), if_pos hm]
    unfold dk
    rw [List.map_map]
    refine List.map_congr_left fun a ha => ?_
    by_cases e : a = i
    · subst e; simp [set1]
    · have ne : ¬ nm a = nm i := fun q => e (inj a (hs a ha) i hi q)
      simp [ne, set1, e]
  · rw [if_neg (by simpa using hm), if_neg hm]
    unfold dk
    rw [List.map_append]
    congr 1
    · refine List.map_congr_left fun a ha => ?_
      rw [set1_ne (show a ≠ i from fun e => by subst e; exact hm ha)]
    · simp [set1]
theorem dk_len {is : List Nat} : (dk nm is f).length = is.length := by unfold dk; rw [List.length_map]
theorem addK_mem {is : List Nat} (h : i ∈ is) : addK is i = is := if_pos h
theorem mem_addK {is : List Nat} {j : Nat} : j ∈ addK is i ↔ j ∈ is ∨ j = i := by
  unfold addK
  split
  · constructor
    · exact .inl
    · rintro (h | rfl)
      · exact h
      · assumption
  · simp
theorem addK_len {is : List Nat} : (addK is i).length ≤ is.length + 1 := by
  unfold addK
  split
  · omega
  · simp
end
/-! ### the tree of parts, the state -/
inductive Ltr where
  | add (k : Int)
  | fault
  | leave
deriving DecidableEq
def Ltr.d : Ltr → D
  | .add k => .tuple [.str "add", .int k]
  | .fault => .tuple [.str "fault"]
  | .leave => .tuple [.str "leave"]
inductive Ev where
  | two (w : Str) (i : Nat)
  | three (w : Str) (i : Nat) (n : Int)
  | sent (i : Nat) (n : Int) (l : Ltr)
deriving DecidableEq
def Ev.d (nm : Nat → Str) : Ev → D
  | .two w i => .tuple [.str w, .str (nm i)]
  | .three w i n => .tuple [.str w, .str (nm i), .int n]
  | .sent i n l => .tuple [.str "sent", .str (nm i), .int n, l.d]
structure Tr where
  n : Nat
  wk : Nat → Bool
  again : Nat → Str
  rule : Nat → Str
  many : Nat → Int
  span : Nat → Int
  kids : Nat → List Nat
structure Tn extends Tr where
  nm : Nat → Str
  pd : Nat → D
instance : Coe Tn Tr := ⟨Tn.toTr⟩
structure TrOk (T : Tn) : Prop where
  inj : Inj T.nm T.n
  wkd : ∀ i, i < T.n → T.wk i = true → T.pd i = .tuple [.str "worker", .str (T.nm i), .str (T.again i)]
  wdd : ∀ i, i < T.n → T.wk i = false → T.pd i = .tuple [.str "warden", .str (T.nm i), .str (T.rule i), .int (T.many i), .int (T.span i), .tuple ((T.kids i).map T.pd)]
  kids : ∀ i, i < T.n → ∀ j ∈ T.kids i, j < T.n
  leaf : ∀ i, i < T.n → T.wk i = true → T.kids i = []
  few : ∀ i, i < T.n → (T.kids i).length ≤ 8
  fit : ∀ i, i < T.n → fitD (T.pd i) = true
  fitk : ∀ i, i < T.n → fitD (.tuple ((T.kids i).map T.pd)) = true
  top : 0 < T.n
structure Hst where
  kp : List Nat
  kd : List Nat
  kh : List Nat
  kw : List Nat
  ks : List Nat
  kk : List Nat
  up : Nat → Nat
  here : Nat → Bool
  wait : Nat → List (Int × Ltr)
  sum : Nat → Int
  kept : Nat → List Int
  hour : Int
  sent : Int
  hist : List Ev
inductive Tg where
  | no | self | parts | wardens | here | waiting | sums | kept | hist
  | w (i : Nat)
  | k (i : Nat)
deriving DecidableEq
structure Lo where
  parts : Nat
  wardens : Nat
  here : Nat
  waiting : Nat
  sums : Nat
  kept : Nat
  hist : Nat
  lw : Nat → Nat
  lk : Nat → Nat
  tg : Nat → Tg
def pairD (p : Int × Ltr) : D := .tuple [.int p.1, p.2.d]
def flds (T : Tn) (L : Lo) (S : Hst) : List (Str × W) := [("_top", .d (.str (T.nm 0))), ("_parts", .l L.parts), ("_wardens", .l L.wardens), ("_here", .l L.here), ("_waiting", .l L.waiting), ("_sums", .l L.sums), ("_kept", .l L.kept), ("_hour", .d (.int S.hour)), ("_sent", .d (.int S.sent)), ("_history", .l L.hist)]
def cellOf (T : Tn) (L : Lo) (S : Hst) : Tg → Cell
  | .no => .dead
  | .self => .ins "House" (flds T L S)
  | .parts => .dct (dk T.nm S.kp fun i => .d (T.pd i))
  | .wardens => .dct (dk T.nm S.kd fun i => .d (T.pd (S.up i)))
  | .here => .dct (dk T.nm S.kh fun i => .d (.bool (S.here i)))
  | .waiting => .dct (dk T.nm S.kw fun i => .l (L.lw i))
  | .sums => .dct (dk T.nm S.ks fun i => .d (.int (S.sum i)))
  | .kept => .dct (dk T.nm S.kk fun i => .l (L.lk i))
  | .hist => .lst (S.hist.map fun e => .d (e.d T.nm))
  | .w i => .lst ((S.wait i).map fun p => .d (pairD p))
  | .k i => .lst ((S.kept i).map fun n => .d (.int n))
structure Keys (T : Tn) (S : Hst) : Prop where
  p : ∀ i ∈ S.kp, i < T.n
  d : ∀ i ∈ S.kd, i < T.n
  h : ∀ i ∈ S.kh, i < T.n
  w : ∀ i ∈ S.kw, i < T.n
  s : ∀ i ∈ S.ks, i < T.n
  k : ∀ i ∈ S.kk, i < T.n
structure At (T : Tn) (h : Nat) (L : Lo) (M : List Cell) (S : Hst) : Prop where
  own : ∀ n, L.tg n ≠ .no → M[n]? = some (cellOf T L S (L.tg n))
  uniq : ∀ n m, L.tg n = L.tg m → L.tg n ≠ .no → n = m
  self : L.tg h = .self
  parts : L.tg L.parts = .parts
  wardens : L.tg L.wardens = .wardens
  here : L.tg L.here = .here
  waiting : L.tg L.waiting = .waiting
  sums : L.tg L.sums = .sums
  kept : L.tg L.kept = .kept
  hist : L.tg L.hist = .hist
  w : ∀ i ∈ S.kw, L.tg (L.lw i) = .w i
  k : ∀ i ∈ S.kk, L.tg (L.lk i) = .k i
  keys : Keys T S
/-- what stood and is not the house's stands; what was not the house's is not now -/
structure Fr (L : Lo) (M : List Cell) (L' : Lo) (M' : List Cell) : Prop where
  len : M.length ≤ M'.length
  keep : ∀ n, n < M.length → L.tg n = .no → M'[n]? = M[n]? ∧ L'.tg n = .no
theorem Fr.refl (L : Lo) (M : List Cell) : Fr L M L M := ⟨Nat.le_refl _, fun _ _ h => ⟨rfl, h⟩⟩
theorem Fr.trans {L L' L'' : Lo} {M M' M'' : List Cell} (a : Fr L M L' M') (b : Fr L' M' L'' M'') : Fr L M L'' M'' :=
  ⟨Nat.le_trans a.len b.len, fun n h1 h2 => let ⟨h3, h4⟩ := a.keep n h1 h2; let ⟨h5, h6⟩ := b.keep n (Nat.lt_of_lt_of_le h1 a.len) h4; ⟨h5.trans h3, h6⟩⟩
section
variable {T : Tn} {h : Nat} {L : Lo} {M : List Cell} {S : Hst}
theorem At.get (a : At T h L M S) {n : Nat} {t : Tg} (ht : L.tg n = t) (hn : t ≠ .no) : M[n]? = some (cellOf T L S t) := by
  subst ht
  exact a.own n hn
theorem At.lt (a : At T h L M S) {n : Nat} (hn : L.tg n ≠ .no) : n < M.length := (List.getElem?_eq_some_iff.mp (a.own n hn)).1
/-- one cell of the house is written -/
theorem At.put (a : At T h L M S) {p : Nat} {t : Tg} {c : Cell} {S' : Hst} (ht : L.tg p = t) (hn : t ≠ .no) (hc : cellOf T L S' t = c) (ho : ∀ t', t' ≠ t → t' ≠ .no → cellOf T L S' t' = cellOf T L S t')
    (kw : ∀ i ∈ S'.kw, L.tg (L.lw i) = .w i) (kk : ∀ i ∈ S'.kk, L.tg (L.lk i) = .k i) (ks : Keys T S') : At T h L (M.set p c) S' ∧ Fr L M L (M.set p c) := by
  have hp : p < M.length := a.lt (by rw [ht]; exact hn)
  refine ⟨⟨fun n hm => ?_, a.uniq, a.self, a.parts, a.wardens, a.here, a.waiting, a.sums, a.kept, a.hist, kw, kk, ks⟩, by simp, fun n h1 h2 => ⟨?_, h2⟩⟩
  · by_cases e : p = n
    · subst e
      rw [List.getElem?_set_self hp, ht, hc]
    · rw [List.getElem?_set_ne e, a.own n hm, ho _ (fun q => e (a.uniq p n (by rw [ht, q]) (by rw [ht]; exact hn))) hm]
  · rw [List.getElem?_set_ne (fun e => by subst e; rw [ht] at h2; exact hn h2)]
/-- a cell of no house -/
theorem At.more (a : At T h L M S) (c : Cell) : At T h L (M ++ [c]) S ∧ Fr L M L (M ++ [c]) := by
  refine ⟨⟨fun n hm => ?_, a.uniq, a.self, a.parts, a.wardens, a.here, a.waiting, a.sums, a.kept, a.hist, a.w, a.k, a.keys⟩, by simp, fun n h1 h2 => ⟨?_, h2⟩⟩
  · rw [List.getElem?_append_left (a.lt hm)]
    exact a.own n hm
  · rw [List.getElem?_append_left h1]
/-- a cell of no house is written -/
theorem At.free (a : At T h L M S) {p : Nat} (hp : L.tg p = .no) (c : Cell) : At T h L (M.set p c) S := by
  refine ⟨fun n hm => ?_, a.uniq, a.self, a.parts, a.wardens, a.here, a.waiting, a.sums, a.kept, a.hist, a.w, a.k, a.keys⟩
  rw [List.getElem?_set_ne (fun e => by subst e; exact hm hp)]
  exact a.own n hm
theorem At.no_len (a : At T h L M S) {n : Nat} (hn : M.length ≤ n) : L.tg n = .no := by
  by_cases e : L.tg n = .no
  · exact e
  · exact absurd (a.lt e) (by omega)
/-- a new list for waiting[i] -/
def Lo.newW (L : Lo) (i q : Nat) : Lo := { L with lw := set1 L.lw i q, tg := fun n => if n = q then .w i else if L.tg n = .w i then .no else L.tg n }
def Lo.newK (L : Lo) (i q : Nat) : Lo := { L with lk := set1 L.lk i q, tg := fun n => if n = q then .k i else if L.tg n = .k i then .no else L.tg n }
theorem At.newW (a : At T h L M S) (ok : TrOk T) {i : Nat} (hi : i < T.n) : let q := M.length
    At T h (L.newW i q) ((M ++ [Cell.lst []]).set L.waiting (.dct (dk T.nm (addK S.kw i) fun j => .l ((L.newW i q).lw j)))) { S with kw := addK S.kw i, wait := set1 S.wait i [] } ∧ Fr L M (L.newW i q) ((M ++ [Cell.lst []]).set L.waiting (.dct (dk T.nm (addK S.kw i) fun j => .l ((L.newW i q).lw j)))) := by
  intro q
  have hq : L.tg q = .no := a.no_len (Nat.le_refl _)
  have nq : ∀ n, L.tg n ≠ .no → n ≠ q := fun n h e => h (e ▸ hq)
  have tgo : ∀ n t, L.tg n = t → t ≠ .no → t ≠ .w i → (L.newW i q).tg n = t := fun n t h1 h2 h3 => by
    show (if n = q then Tg.w i else if L.tg n = .w i then .no else L.tg n) = t
    rw [if_neg (nq n (by rw [h1]; exact h2)), if_neg (by rw [h1]; exact h3)]
    exact h1
  have lwl : L.waiting < M.length := a.lt (by rw [a.waiting]; simp)
  refine ⟨⟨fun n hm => ?_, fun n m e hm => ?_, tgo _ _ a.self (by simp) (by simp), tgo _ _ a.parts (by simp) (by simp), tgo _ _ a.wardens (by simp) (by simp), tgo _ _ a.here (by simp) (by simp), tgo _ _ a.waiting (by simp) (by simp), tgo _ _ a.sums (by simp) (by simp), tgo _ _ a.kept (by simp) (by simp), tgo _ _ a.hist (by simp) (by simp), fun j hj => ?_, fun j hj => tgo _ _ (a.k j hj) (by simp) (by simp), ⟨a.keys.p, a.keys.d, a.keys.h, fun j hj => ?_, a.keys.s, a.keys.k⟩⟩, by simp, fun n h1 h2 => ⟨?_, ?_⟩⟩
  · have hm : (if n = q then Tg.w i else if L.tg n = .w i then .no else L.tg n) ≠ .no := hm
    show _ = some (cellOf T (L.newW i q) _ (if n = q then Tg.w i else if L.tg n = .w i then .no else L.tg n))
    by_cases e : n = q
    · subst e
      rw [if_pos rfl, List.getElem?_set_ne (show L.waiting ≠ q by have : q = M.length := rfl; omega), List.getElem?_append_right (Nat.le_refl _)]
      simp [cellOf, set1, q]
    · rw [if_neg e] at hm ⊢
      by_cases e2 : L.tg n = .w i
      · rw [if_pos e2] at hm; exact absurd rfl hm
      · rw [if_neg e2] at hm ⊢
        by_cases e3 : L.waiting = n
        · subst e3
          rw [List.getElem?_set_self (by simp; omega), a.waiting]
          rfl
        · rw [List.getElem?_set_ne e3, List.getElem?_append_left (a.lt hm), a.own n hm]
          cases ht : L.tg n with
          | waiting => exact absurd (a.uniq _ _ (a.waiting.trans ht.symm) (by rw [a.waiting]; simp)) e3
          | w j =>
            have : j ≠ i := fun e => e2 (by rw [ht, e])
            simp [cellOf, set1, this]
          | _ => rfl
  · have e' : (if n = q then Tg.w i else if L.tg n = .w i then .no else L.tg n) = (if m = q then Tg.w i else if L.tg m = .w i then .no else L.tg m) := e
    have hm : (if n = q then Tg.w i else if L.tg n = .w i then .no else L.tg n) ≠ .no := hm
    by_cases h1 : n = q
    · by_cases h2 : m = q
      · rw [h1, h2]
      · rw [if_pos h1, if_neg h2] at e'
        split at e'
        · cases e'
        · rename_i h3; exact absurd e'.symm h3
    · rw [if_neg h1] at e' hm
      by_cases h3 : L.tg n = .w i
      · rw [if_pos h3] at hm; exact absurd rfl hm
      · rw [if_neg h3] at e' hm
        by_cases h2 : m = q
        · rw [if_pos h2] at e'; exact absurd e' h3
        · rw [if_neg h2] at e'
          split at e'
          · exact absurd e' hm
          · exact a.uniq n m e' hm
  · show (if set1 L.lw i q j = q then Tg.w i else if L.tg (set1 L.lw i q j) = .w i then .no else L.tg (set1 L.lw i q j)) = .w j
    by_cases e : j = i
    · subst e; rw [set1_same, if_pos rfl]
    · have hj : j ∈ S.kw := by
        have hj : j ∈ addK S.kw i := hj
        rcases mem_addK.mp hj with h | h
        · exact h
        · exact absurd h e
      have := a.w j hj
      rw [set1_ne e, if_neg (nq _ (by rw [this]; simp)), this, if_neg (by simpa using e)]
  · have hj : j ∈ addK S.kw i := hj
    rcases mem_addK.mp hj with h | h
    · exact a.keys.w j h
    · rw [h]; exact hi
  · rw [List.getElem?_set_ne (fun e => by subst e; rw [a.waiting] at h2; cases h2), List.getElem?_append_left h1]
  · show (if n = q then Tg.w i else if L.tg n = .w i then .no else L.tg n) = .no
    rw [if_neg (show n ≠ q by have : q = M.length := rfl; omega), h2]
    rfl
theorem At.newK (a : At T h L M S) (ok : TrOk T) {i : Nat} (hi : i < T.n) : let q := M.length
    At T h (L.newK i q) ((M ++ [Cell.lst []]).set L.kept (.dct (dk T.nm (addK S.kk i) fun j => .l ((L.newK i q).lk j)))) { S with kk := addK S.kk i, kept := set1 S.kept i [] } ∧ Fr L M (L.newK i q) ((M ++ [Cell.lst []]).set L.kept (.dct (dk T.nm (addK S.kk i) fun j => .l ((L.newK i q).lk j)))) := by
  intro q
  have hq : L.tg q = .no := a.no_len (Nat.le_refl _)
  have nq : ∀ n, L.tg n ≠ .no → n ≠ q := fun n h e => h (e ▸ hq)
  have tgo : ∀ n t, L.tg n = t → t ≠ .no → t ≠ .k i → (L.newK i q).tg n = t := fun n t h1 h2 h3 => by
    show (if n = q then Tg.k i else if L.tg n = .k i then .no else L.tg n) = t
    rw [if_neg (nq n (by rw [h1]; exact h2)), if_neg (by rw [h1]; exact h3)]
    exact h1
  have lwl : L.kept < M.length := a.lt (by rw [a.kept]; simp)
  refine ⟨⟨fun n hm => ?_, fun n m e hm => ?_, tgo _ _ a.self (by simp) (by simp), tgo _ _ a.parts (by simp) (by simp), tgo _ _ a.wardens (by simp) (by simp), tgo _ _ a.here (by simp) (by simp), tgo _ _ a.waiting (by simp) (by simp), tgo _ _ a.sums (by simp) (by simp), tgo _ _ a.kept (by simp) (by simp), tgo _ _ a.hist (by simp) (by simp), fun j hj => tgo _ _ (a.w j hj) (by simp) (by simp), fun j hj => ?_, ⟨a.keys.p, a.keys.d, a.keys.h, a.keys.w, a.keys.s, fun j hj => ?_⟩⟩, by simp, fun n h1 h2 => ⟨?_, ?_⟩⟩
  · have hm : (if n = q then Tg.k i else if L.tg n = .k i then .no else L.tg n) ≠ .no := hm
    show _ = some (cellOf T (L.newK i q) _ (if n = q then Tg.k i else if L.tg n = .k i then .no else L.tg n))
    by_cases e : n = q
    · subst e
      rw [if_pos rfl, List.getElem?_set_ne (show L.kept ≠ q by have : q = M.length := rfl; omega), List.getElem?_append_right (Nat.le_refl _)]
      simp [cellOf, set1, q]
    · rw [if_neg e] at hm ⊢
      by_cases e2 : L.tg n = .k i
      · rw [if_pos e2] at hm; exact absurd rfl hm
      · rw [if_neg e2] at hm ⊢
        by_cases e3 : L.kept = n
        · subst e3
          rw [List.getElem?_set_self (by simp; omega), a.kept]
          rfl
        · rw [List.getElem?_set_ne e3, List.getElem?_append_left (a.lt hm), a.own n hm]
          cases ht : L.tg n with
          | kept => exact absurd (a.uniq _ _ (a.kept.trans ht.symm) (by rw [a.kept]; simp)) e3
          | k j =>
            have : j ≠ i := fun e => e2 (by rw [ht, e])
            simp [cellOf, set1, this]
          | _ => rfl
  · have e' : (if n = q then Tg.k i else if L.tg n = .k i then .no else L.tg n) = (if m = q then Tg.k i else if L.tg m = .k i then .no else L.tg m) := e
    have hm : (if n = q then Tg.k i else if L.tg n = .k i then .no else L.tg n) ≠ .no := hm
    by_cases h1 : n = q
    · by_cases h2 : m = q
      · rw [h1, h2]
      · rw [if_pos h1, if_neg h2] at e'
        split at e'
        · cases e'
        · rename_i h3; exact absurd e'.symm h3
    · rw [if_neg h1] at e' hm
      by_cases h3 : L.tg n = .k i
      · rw [if_pos h3] at hm; exact absurd rfl hm
      · rw [if_neg h3] at e' hm
        by_cases h2 : m = q
        · rw [if_pos h2] at e'; exact absurd e' h3
        · rw [if_neg h2] at e'
          split at e'
          · exact absurd e' hm
          · exact a.uniq n m e' hm
  · show (if set1 L.lk i q j = q then Tg.k i else if L.tg (set1 L.lk i q j) = .k i then .no else L.tg (set1 L.lk i q j)) = .k j
    by_cases e : j = i
    · subst e; rw [set1_same, if_pos rfl]
    · have hj : j ∈ S.kk := by
        have hj : j ∈ addK S.kk i := hj
        rcases mem_addK.mp hj with h | h
        · exact h
        · exact absurd h e
      have := a.k j hj
      rw [set1_ne e, if_neg (nq _ (by rw [this]; simp)), this, if_neg (by simpa using e)]
  · have hj : j ∈ addK S.kk i := hj
    rcases mem_addK.mp hj with h | h
    · exact a.keys.k j h
    · rw [h]; exact hi
  · rw [List.getElem?_set_ne (fun e => by subst e; rw [a.kept] at h2; cases h2), List.getElem?_append_left h1]
  · show (if n = q then Tg.k i else if L.tg n = .k i then .no else L.tg n) = .no
    rw [if_neg (show n ≠ q by have : q = M.length := rfl; omega), h2]
    rfl
end
end A

set_option Elab.async false
set_option linter.all false
set_option maxRecDepth 100000
set_option maxHeartbeats 4000000
/-! How the semantic functions run at a house. -/
namespace A
open PySem PySem.Spec PyProof.Rows L2 Pd Q
/-! ### steps -/
section
variable {δ : Q.Env} {M M1 M2 M3 : List Cell}
theorem lift_of {f : FE} {d : D} (h : f (pview δ) = some d) : lift f δ M = some (.ok (.d d) M) := by unfold lift ofO; rw [h]; rfl
theorem lT_of {f : FE} {b : Bool} (h : f (pview δ) = some (.bool b)) : lT f δ M = some (.ok b M) := by unfold lT ofO; rw [h]; rfl
theorem var_of {i : Nat} {w : W} (h : δ[i]? = some (some w)) : hVar i δ M = some (.ok w M) := by unfold hVar; rw [h]
theorem app_of {fo f : FH} {n : Nat} {ws : List W} {w : W} (ho : fo δ M = some (.ok (.l n) M)) (hf : f δ M = some (.ok w M)) (hm : M[n]? = some (.lst ws)) (hl : ws.length < lim) : hApp fo f δ M = some (.ok (.d .none) (M.set n (.lst (ws ++ [w])))) := by
  unfold hApp
  rw [ho, bnd_ok, if_pos (by unfold isLst; simp only [hm]), hf, bnd_ok]
  unfold appW
  simp only [hm, if_pos hl]
theorem key_of {fo fi : FH} {n : Nat} {k : Str} {kvs : List (Str × W)} {w : W} (ho : fo δ M = some (.ok (.l n) M)) (hi : fi δ M = some (.ok (.d (.str k)) M)) (hm : M[n]? = some (.dct kvs)) (hk : kvs.lookup k = some w) : hKey fo fi δ M = some (.ok w M) := by
  unfold hKey
  rw [ho, bnd_ok, hi, bnd_ok]
  unfold keyW getW
  simp only [hm, hk]
  rfl
theorem putK_of {fo fi fe : FH} {n : Nat} {k : Str} {kvs : List (Str × W)} {w : W} (he : fe δ M = some (.ok w M1)) (ho : fo δ M1 = some (.ok (.l n) M1)) (hi : fi δ M1 = some (.ok (.d (.str k)) M1)) (hm : M1[n]? = some (.dct kvs)) (hl : kvs.length < lim) : sPutK fo fi fe δ M = some (.nx δ (M1.set n (.dct (putD k w kvs)))) := by
  unfold sPutK
  rw [he, onE_ok, ho, onE_ok, hi, onE_ok]
  unfold putKW
  simp only [hm, if_pos hl]
  rfl
theorem expr_of {f : FH} {w : W} (h : f δ M = some (.ok w M1)) : sExpr f δ M = some (.nx δ M1) := by unfold sExpr; rw [h]; rfl
theorem seq_of {g g' : GQ} {δ' : Q.Env} (h : g δ M = some (.nx δ' M1)) : sSeq g g' δ M = g' δ' M1 := by unfold sSeq; rw [h]; rfl
theorem if_of {f : FT} {g g' : GQ} {b : Bool} (h : f δ M = some (.ok b M1)) : sIf f g g' δ M = if b then g δ M1 else g' δ M1 := by unfold sIf; rw [h]; rfl
theorem tE_of {f : FH} {b : Bool} (h : f δ M = some (.ok (.d (.bool b)) M1)) : tE f δ M = some (.ok b M1) := by unfold tE; rw [h]; rfl
theorem tNot_of {f : FT} {b : Bool} (h : f δ M = some (.ok b M1)) : Q.tNot f δ M = some (.ok (!b) M1) := by unfold Q.tNot; rw [h]; rfl
theorem set_of {f : FH} {i : Nat} {w : W} (h : f δ M = some (.ok w M1)) : sSet i f δ M = some (.nx (δ.set i (some w)) M1) := by unfold sSet; rw [h]; rfl
theorem ret_of {f : FH} {w : W} (h : f δ M = some (.ok w M1)) : sRet f δ M = some (.rt w M1) := by unfold sRet; rw [h]; rfl
theorem a0_of : haNil δ M = some (.ok [] M) := rfl
theorem a1_of {f : FH} {g : FHA} {w : W} {ws : List W} (h : f δ M = some (.ok w M1)) (t : g δ M1 = some (.ok ws M2)) : haCons f g δ M = some (.ok (w :: ws) M2) := by unfold haCons; rw [h, bnd_ok, t, bnd_ok]
end
/-! ### at a house -/
def Out (T : Tn) (h : Nat) (L : Lo) (M : List Cell) (r : Rr W) (w : Q.W) (S' : Hst) : Prop := ∃ L' M', r = some (.ok w M') ∧ At T h L' M' S' ∧ Fr L M L' M'
def OutS (T : Tn) (h : Nat) (L : Lo) (M : List Cell) (r : Option OutQ) (δ' : Q.Env) (S' : Hst) : Prop := ∃ L' M', r = some (.nx δ' M') ∧ At T h L' M' S' ∧ Fr L M L' M'
def Does (T : Tn) (h : Nat) (F : FHF) (ws : List W) (S : Hst) (w : W) (S' : Hst) : Prop := ∀ L M, At T h L M S → Out T h L M (F ws M) w S'
def DoesS (T : Tn) (h : Nat) (g : GQ) (δ : Q.Env) (S : Hst) (δ' : Q.Env) (S' : Hst) : Prop := ∀ L M, At T h L M S → OutS T h L M (g δ M) δ' S'
section
variable {T : Tn} {h : Nat} {L : Lo} {M : List Cell} {S S1 S2 : Hst} {δ δ1 δ2 : Q.Env}
theorem doesS_seq {g g' : GQ} (a : DoesS T h g δ S δ1 S1) (b : DoesS T h g' δ1 S1 δ2 S2) : DoesS T h (sSeq g g') δ S δ2 S2 := fun L M at0 => by
  obtain ⟨L1, M1, e1, a1, f1⟩ := a L M at0
  obtain ⟨L2, M2, e2', a2, f2⟩ := b L1 M1 a1
  exact ⟨L2, M2, by rw [seq_of e1, e2'], a2, f1.trans f2⟩
theorem doesS_nil : DoesS T h sNil δ S δ S := fun L M a => ⟨L, M, rfl, a, .refl L M⟩
theorem does_run {n np : Nat} {g : GQ} {ws : List W} {δ' : Q.Env} {S' : Hst} (hl : ws.length = np) (d : DoesS T h g (startQ n ws) S δ' S') : Does T h (runQ n np g) ws S (.d .none) S' := fun L M a => by
  obtain ⟨L', M', e, a', f⟩ := d L M a
  exact ⟨L', M', by unfold runQ; rw [if_pos hl, e], a', f⟩
theorem isIns_at (a : At T h L M S) {m : Str} (hm : ∀ T L S, (flds T L S).lookup m = none) : isIns "House" m (.l h) M = true := by
  unfold isIns
  simp only [a.get a.self (by simp), cellOf]
  rw [hm]
  rfl
theorem meth_of {m : Str} {F : FHF} {g : FHA} {ws : List W} (a : At T h L M S) (h0 : δ[0]? = some (some (.l h))) (hm : ∀ T L S, (flds T L S).lookup m = none) (hg : g δ M = some (.ok ws M)) : hMeth "House" m F (hVar 0) g δ M = F (.l h :: ws) M := by
  unfold hMeth
  rw [var_of h0, bnd_ok, if_pos (isIns_at a hm), hg, bnd_ok]
/-- a call of a method for what it does -/
theorem doesS_meth {m : Str} {F : FHF} {g : FHA} {ws : List W} {w : W} (h0 : δ[0]? = some (some (.l h))) (hm : ∀ T L S, (flds T L S).lookup m = none) (hg : ∀ M, g δ M = some (.ok ws M)) (d : Does T h F (.l h :: ws) S w S1) : DoesS T h (sExpr (hMeth "House" m F (hVar 0) g)) δ S δ S1 := fun L M a => by
  obtain ⟨L', M', e, a', f⟩ := d L M a
  exact ⟨L', M', expr_of (by rw [meth_of a h0 hm (hg M), e]), a', f⟩
theorem attr_of {f : Str} {w : W} (a : At T h L M S) (h0 : δ[0]? = some (some (.l h))) (hf : (flds T L S).lookup f = some w) : hAttr "House" (hVar 0) f δ M = some (.ok w M) := by
  unfold hAttr
  rw [var_of h0, bnd_ok]
  unfold attrW
  simp only [a.get a.self (by simp), cellOf, if_pos]
  rw [hf]
  rfl
theorem loop_inv {i : Nat} {body : GQ} {α : Type} {wt : α → D} (step : α → Hst → Option Hst) (hs : ∀ (x : α) (δ : Q.Env) (S S1 : Hst), δ[0]? = some (some (.l h)) → step x S = some S1 → ∃ δ', DoesS T h body (δ.set i (some (.d (wt x)))) S δ' S1 ∧ δ'[0]? = some (some (.l h)) ∧ δ'.length = δ.length) :
    ∀ (xs : List α) (δ : Q.Env) (S S1 : Hst), δ[0]? = some (some (.l h)) → xs.foldlM (fun S x => step x S) S = some S1 → ∃ δ', DoesS T h (forQ i body (xs.map wt)) δ S δ' S1 ∧ δ'[0]? = some (some (.l h)) ∧ δ'.length = δ.length
  | [], δ, S, S1, h0, e => by
    cases e
    exact ⟨δ, fun L M a => ⟨L, M, rfl, a, .refl L M⟩, h0, rfl⟩
  | x :: xs, δ, S, S1, h0, e => by
    rw [List.foldlM_cons] at e
    obtain ⟨S2, e1, e2'⟩ := Option.bind_eq_some_iff.mp e
    obtain ⟨δ1, d1, g1, l1⟩ := hs x δ S S2 h0 e1
    obtain ⟨δ2, d2, g2, l2⟩ := loop_inv step hs xs δ1 S2 S1 g1 e2'
    refine ⟨δ2, fun L M a => ?_, g2, l2.trans l1⟩
    obtain ⟨L1, M1, q1, a1, f1⟩ := d1 L M a
    obtain ⟨L2, M2, q2, a2, f2⟩ := d2 L1 M1 a1
    refine ⟨L2, M2, ?_, a2, f1.trans f2⟩
    show (body (δ.set i (some (.d (wt x)))) M).bind _ = _
    rw [q1]
    exact q2
end
/-! ### the machine -/
section
variable (T : Tr)
def pushH (d : Ev) (S : Hst) : Option Hst := if S.hist.length < lim then some { S with hist := S.hist ++ [d] } else none
def putHere (i : Nat) (b : Bool) (S : Hst) : Option Hst := if i < T.n ∧ S.kh.length < lim then some { S with kh := addK S.kh i, here := set1 S.here i b } else none
def goS (w : Str) (i : Nat) (S : Hst) : Option Hst := (pushH (.two w i) S).bind (putHere T i false)
def hereS (i : Nat) (S : Hst) : Option Bool := if i ∈ S.kh then some (S.here i) else none
def endS : Nat → Nat → Hst → Option Hst
  | n + 2, i, S => ((T.kids i).reverse.foldlM (fun S j => (hereS j S).bind fun b => if b then endS n j S else some S) S).bind (goS T "ends" i)
  | _, _, _ => none
def endOne (n : Nat) (j : Nat) (S : Hst) : Option Hst := (hereS j S).bind fun b => if b then endS T n j S else some S
def endAllS : Nat → List Nat → Hst → Option Hst
  | n + 1, is, S => is.reverse.foldlM (fun S j => endOne T n j S) S
  | _, _, _ => none
end
end A

set_option Elab.async false
set_option linter.all false
set_option maxRecDepth 100000
set_option maxHeartbeats 4000000
/-! The writes, one by one. -/
namespace A
open PySem PySem.Spec PyProof.Rows L2 Pd Q
theorem set1_comp {α β : Type} {g : α → β} {f : Nat → α} {i : Nat} {a : α} : set1 (fun j => g (f j)) i (g a) = fun j => g (set1 f i a j) := by
  funext j
  unfold set1
  split <;> rfl
section
variable {T : Tn} {h : Nat} {L : Lo} {M : List Cell} {S S1 S2 : Hst} {δ : Q.Env}
/-- o.append at the house's history -/
theorem At.pushH (a : At T h L M S) (d : Ev) : At T h L (M.set L.hist (.lst ((S.hist.map fun e => W.d (e.d T.nm)) ++ [.d (d.d T.nm)]))) { S with hist := S.hist ++ [d] } ∧ A.Fr L M L (M.set L.hist (.lst ((S.hist.map fun e => W.d (e.d T.nm)) ++ [.d (d.d T.nm)]))) := by
  rw [show (S.hist.map fun e => W.d (e.d T.nm)) ++ [.d (d.d T.nm)] = (S.hist ++ [d]).map fun e => W.d (e.d T.nm) by simp]
  exact a.put a.hist (by simp) rfl (fun t' h1 h2 => by cases t' <;> first | rfl | exact absurd rfl h1) a.w a.k ⟨a.keys.p, a.keys.d, a.keys.h, a.keys.w, a.keys.s, a.keys.k⟩
theorem keysA {T : Tn} {is : List Nat} {i : Nat} (hi : i < T.n) (hs : ∀ j ∈ is, j < T.n) : ∀ j ∈ addK is i, j < T.n := fun j hj => (mem_addK.mp hj).elim (hs j) (fun e => e ▸ hi)
theorem At.putHere (a : At T h L M S) (ok : TrOk T) {i : Nat} (hi : i < T.n) (b : Bool) :
    At T h L (M.set L.here (.dct (putD (T.nm i) (.d (.bool b)) (dk T.nm S.kh fun i => .d (.bool (S.here i)))))) { S with kh := addK S.kh i, here := set1 S.here i b } ∧ A.Fr L M L (M.set L.here (.dct (putD (T.nm i) (.d (.bool b)) (dk T.nm S.kh fun i => .d (.bool (S.here i)))))) := by
  rw [dk_put ok.inj hi a.keys.h, set1_comp (g := fun b => W.d (.bool b))]
  exact a.put a.here (by simp) rfl (fun t' h1 h2 => by cases t' <;> first | rfl | exact absurd rfl h1) a.w a.k ⟨a.keys.p, a.keys.d, keysA hi a.keys.h, a.keys.w, a.keys.s, a.keys.k⟩
theorem At.putParts (a : At T h L M S) (ok : TrOk T) {i : Nat} (hi : i < T.n) :
    At T h L (M.set L.parts (.dct (putD (T.nm i) (.d (T.pd i)) (dk T.nm S.kp fun i => .d (T.pd i))))) { S with kp := addK S.kp i } ∧ A.Fr L M L (M.set L.parts (.dct (putD (T.nm i) (.d (T.pd i)) (dk T.nm S.kp fun i => .d (T.pd i))))) := by
  rw [dk_put ok.inj hi a.keys.p, show set1 (fun i => W.d (T.pd i)) i (.d (T.pd i)) = (fun i => W.d (T.pd i)) from funext fun j => by unfold set1; split <;> simp_all]
  exact a.put a.parts (by simp) rfl (fun t' h1 h2 => by cases t' <;> first | rfl | exact absurd rfl h1) a.w a.k ⟨keysA hi a.keys.p, a.keys.d, a.keys.h, a.keys.w, a.keys.s, a.keys.k⟩
theorem At.putUp (a : At T h L M S) (ok : TrOk T) {i j : Nat} (hi : i < T.n) :
    At T h L (M.set L.wardens (.dct (putD (T.nm i) (.d (T.pd j)) (dk T.nm S.kd fun i => .d (T.pd (S.up i)))))) { S with kd := addK S.kd i, up := set1 S.up i j } ∧ A.Fr L M L (M.set L.wardens (.dct (putD (T.nm i) (.d (T.pd j)) (dk T.nm S.kd fun i => .d (T.pd (S.up i)))))) := by
  rw [dk_put ok.inj hi a.keys.d, set1_comp (g := fun b => W.d (T.pd b))]
  exact a.put a.wardens (by simp) rfl (fun t' h1 h2 => by cases t' <;> first | rfl | exact absurd rfl h1) a.w a.k ⟨a.keys.p, keysA hi a.keys.d, a.keys.h, a.keys.w, a.keys.s, a.keys.k⟩
theorem At.putSum (a : At T h L M S) (ok : TrOk T) {i : Nat} (hi : i < T.n) (b : Int) :
    At T h L (M.set L.sums (.dct (putD (T.nm i) (.d (.int b)) (dk T.nm S.ks fun i => .d (.int (S.sum i)))))) { S with ks := addK S.ks i, sum := set1 S.sum i b } ∧ A.Fr L M L (M.set L.sums (.dct (putD (T.nm i) (.d (.int b)) (dk T.nm S.ks fun i => .d (.int (S.sum i)))))) := by
  rw [dk_put ok.inj hi a.keys.s, set1_comp (g := fun b => W.d (.int b))]
  exact a.put a.sums (by simp) rfl (fun t' h1 h2 => by cases t' <;> first | rfl | exact absurd rfl h1) a.w a.k ⟨a.keys.p, a.keys.d, a.keys.h, a.keys.w, keysA hi a.keys.s, a.keys.k⟩
theorem At.setWait (a : At T h L M S) {i : Nat} (hi : i ∈ S.kw) (xs : List (Int × Ltr)) :
    At T h L (M.set (L.lw i) (.lst (xs.map fun p => .d (pairD p)))) { S with wait := set1 S.wait i xs } ∧ A.Fr L M L (M.set (L.lw i) (.lst (xs.map fun p => .d (pairD p)))) :=
  a.put (a.w i hi) (by simp) (by simp [cellOf, set1]) (fun t' h1 h2 => by
    cases t' with
    | w j => simp only [cellOf, set1_ne (show j ≠ i from fun e => h1 (by rw [e]))]
    | _ => rfl) a.w a.k ⟨a.keys.p, a.keys.d, a.keys.h, a.keys.w, a.keys.s, a.keys.k⟩
theorem At.setKept (a : At T h L M S) {i : Nat} (hi : i ∈ S.kk) (xs : List Int) :
    At T h L (M.set (L.lk i) (.lst (xs.map fun p => .d (.int p)))) { S with kept := set1 S.kept i xs } ∧ A.Fr L M L (M.set (L.lk i) (.lst (xs.map fun p => .d (.int p)))) :=
  a.put (a.k i hi) (by simp) (by simp [cellOf, set1]) (fun t' h1 h2 => by
    cases t' with
    | k j => simp only [cellOf, set1_ne (show j ≠ i from fun e => h1 (by rw [e]))]
    | _ => rfl) a.w a.k ⟨a.keys.p, a.keys.d, a.keys.h, a.keys.w, a.keys.s, a.keys.k⟩
theorem At.setHour (a : At T h L M S) (b : Int) :
    At T h L (M.set h (.ins "House" (putW "_hour" (.d (.int b)) (flds T L S)))) { S with hour := b } ∧ A.Fr L M L (M.set h (.ins "House" (putW "_hour" (.d (.int b)) (flds T L S)))) :=
  a.put a.self (by simp) rfl (fun t' h1 h2 => by cases t' <;> first | rfl | exact absurd rfl h1) a.w a.k ⟨a.keys.p, a.keys.d, a.keys.h, a.keys.w, a.keys.s, a.keys.k⟩
theorem At.setSent (a : At T h L M S) (b : Int) :
    At T h L (M.set h (.ins "House" (putW "_sent" (.d (.int b)) (flds T L S)))) { S with sent := b } ∧ A.Fr L M L (M.set h (.ins "House" (putW "_sent" (.d (.int b)) (flds T L S)))) :=
  a.put a.self (by simp) rfl (fun t' h1 h2 => by cases t' <;> first | rfl | exact absurd rfl h1) a.w a.k ⟨a.keys.p, a.keys.d, a.keys.h, a.keys.w, a.keys.s, a.keys.k⟩
/-- waiting[i] = [] as the store has it -/
theorem At.newW' (a : At T h L M S) (ok : TrOk T) {i : Nat} (hi : i < T.n) :
    At T h (L.newW i M.length) ((M ++ [Cell.lst []]).set L.waiting (.dct (putD (T.nm i) (.l M.length) (dk T.nm S.kw fun i => .l (L.lw i))))) { S with kw := addK S.kw i, wait := set1 S.wait i [] } ∧ A.Fr L M (L.newW i M.length) ((M ++ [Cell.lst []]).set L.waiting (.dct (putD (T.nm i) (.l M.length) (dk T.nm S.kw fun i => .l (L.lw i))))) := by
  rw [dk_put ok.inj hi a.keys.w, set1_comp (g := fun b => W.l b)]
  exact a.newW ok hi
theorem At.newK' (a : At T h L M S) (ok : TrOk T) {i : Nat} (hi : i < T.n) :
    At T h (L.newK i M.length) ((M ++ [Cell.lst []]).set L.kept (.dct (putD (T.nm i) (.l M.length) (dk T.nm S.kk fun i => .l (L.lk i))))) { S with kk := addK S.kk i, kept := set1 S.kept i [] } ∧ A.Fr L M (L.newK i M.length) ((M ++ [Cell.lst []]).set L.kept (.dct (putD (T.nm i) (.l M.length) (dk T.nm S.kk fun i => .l (L.lk i))))) := by
  rw [dk_put ok.inj hi a.keys.k, set1_comp (g := fun b => W.l b)]
  exact a.newK ok hi
/-! ### looks -/
theorem At.c_hist (a : At T h L M S) : M[L.hist]? = some (.lst (S.hist.map fun e => W.d (e.d T.nm))) := a.get a.hist (by simp)
theorem At.c_here (a : At T h L M S) : M[L.here]? = some (.dct (dk T.nm S.kh fun i => .d (.bool (S.here i)))) := a.get a.here (by simp)
theorem At.c_parts (a : At T h L M S) : M[L.parts]? = some (.dct (dk T.nm S.kp fun i => .d (T.pd i))) := a.get a.parts (by simp)
theorem At.c_wardens (a : At T h L M S) : M[L.wardens]? = some (.dct (dk T.nm S.kd fun i => .d (T.pd (S.up i)))) := a.get a.wardens (by simp)
theorem At.c_waiting (a : At T h L M S) : M[L.waiting]? = some (.dct (dk T.nm S.kw fun i => .l (L.lw i))) := a.get a.waiting (by simp)
theorem At.c_sums (a : At T h L M S) : M[L.sums]? = some (.dct (dk T.nm S.ks fun i => .d (.int (S.sum i)))) := a.get a.sums (by simp)
theorem At.c_kept (a : At T h L M S) : M[L.kept]? = some (.dct (dk T.nm S.kk fun i => .l (L.lk i))) := a.get a.kept (by simp)
theorem At.c_w (a : At T h L M S) {i : Nat} (hi : i ∈ S.kw) : M[L.lw i]? = some (.lst ((S.wait i).map fun p => .d (pairD p))) := a.get (a.w i hi) (by simp)
theorem At.c_k (a : At T h L M S) {i : Nat} (hi : i ∈ S.kk) : M[L.lk i]? = some (.lst ((S.kept i).map fun p => .d (.int p))) := a.get (a.k i hi) (by simp)
theorem k_here (a : At T h L M S) (ok : TrOk T) {i : Nat} (h0 : δ[0]? = some (some (.l h))) {fi : FH} (hf : fi δ M = some (.ok (.d (.str (T.nm i))) M)) (hi : i ∈ S.kh) : hKey (hAttr "House" (hVar 0) "_here") fi δ M = some (.ok (.d (.bool (S.here i))) M) :=
  key_of (attr_of a h0 rfl) hf a.c_here (dk_get ok.inj a.keys.h hi)
end
end A

set_option Elab.async false
set_option linter.all false
set_option maxRecDepth 100000
set_option maxHeartbeats 4000000
/-! The machine goes on: begin, take in; loops over parts. -/
namespace A
open PySem PySem.Spec PyProof.Rows L2 Pd Q
section
variable (T : Tr)
def putSum (i : Nat) (b : Int) (S : Hst) : Option Hst := if i < T.n ∧ S.ks.length < lim then some { S with ks := addK S.ks i, sum := set1 S.sum i b } else none
def freshK (i : Nat) (S : Hst) : Option Hst := if i < T.n ∧ S.kk.length < lim then some { S with kk := addK S.kk i, kept := set1 S.kept i [] } else none
def freshW (i : Nat) (S : Hst) : Option Hst := if i < T.n ∧ S.kw.length < lim then some { S with kw := addK S.kw i, wait := set1 S.wait i [] } else none
def putPart (i : Nat) (S : Hst) : Option Hst := if i < T.n ∧ S.kp.length < lim then some { S with kp := addK S.kp i } else none
def putUp (i j : Nat) (S : Hst) : Option Hst := if i < T.n ∧ S.kd.length < lim then some { S with kd := addK S.kd i, up := set1 S.up i j } else none
def beginS : Nat → Nat → Hst → Option Hst
  | 0, _, _ => none
  | n + 1, i, S => (pushH (.two "begins" i) S).bind fun S => (putHere T i true S).bind fun S => (if T.wk i then putSum T i 0 S else freshK T i S).bind fun S => (T.kids i).foldlM (fun S j => beginS n j S) S
def takeS : Nat → Nat → Hst → Option Hst
  | 0, _, _ => none
  | n + 1, i, S => (putPart T i S).bind fun S => (if T.wk i then freshW T i S else some S).bind fun S => (T.kids i).foldlM (fun S j => (putUp T j i S).bind (takeS n j)) S
end
section
variable {T : Tn} {h : Nat} {L : Lo} {M : List Cell} {S S1 S2 : Hst} {δ : Q.Env}
theorem loop_does {k : Nat} {body : GQ} (step : Nat → Hst → Option Hst) (P : Q.Env → Prop) (st : ∀ δ w, P δ → P (δ.set k w))
    (hs : ∀ j, j < T.n → ∀ (δ : Q.Env) (S S1 : Hst), P δ → (δ.set k (some (.d (T.pd j))))[k]? = some (some (.d (T.pd j))) → step j S = some S1 → DoesS T h body (δ.set k (some (.d (T.pd j)))) S (δ.set k (some (.d (T.pd j)))) S1) :
    ∀ (is : List Nat), (∀ i ∈ is, i < T.n) → ∀ (δ : Q.Env) (S S1 : Hst), P δ → k < δ.length → is.foldlM (fun S j => step j S) S = some S1 → ∃ δ', DoesS T h (forQ k body (is.map T.pd)) δ S δ' S1 ∧ P δ'
  | [], _, δ, S, S1, p, hl, e => by cases e; exact ⟨δ, fun L M a => ⟨L, M, rfl, a, .refl L M⟩, p⟩
  | j :: r, hi, δ, S, S1, p, hl, e => by
    rw [List.foldlM_cons] at e
    obtain ⟨S2, e1, e2'⟩ := Option.bind_eq_some_iff.mp e
    have d1 := hs j (hi j (List.mem_cons_self ..)) δ S S2 p (List.getElem?_set_self hl) e1
    obtain ⟨δ', d2, p2⟩ := loop_does step P st hs r (fun i h => hi i (List.mem_cons_of_mem _ h)) (δ.set k (some (.d (T.pd j)))) S2 S1 (st _ _ p) (by rw [List.length_set]; exact hl) e2'
    refine ⟨δ', fun L M a => ?_, p2⟩
    obtain ⟨L1, M1, q1, a1, f1⟩ := d1 L M a
    obtain ⟨L2, M2, q2, a2, f2⟩ := d2 L1 M1 a1
    refine ⟨L2, M2, ?_, a2, f1.trans f2⟩
    show (body (δ.set k (some (.d (T.pd j)))) M).bind _ = _
    rw [q1]
    exact q2
/-- a walk over data -/
theorem doesS_for {fi : FI} {k : Nat} {body : GQ} {is : List Nat} {δ' : Q.Env} (hf : fi (pview δ) = some (is.map T.pd)) (d : DoesS T h (forQ k body (is.map T.pd)) δ S δ' S1) : DoesS T h (sFor (iLift fi) k body) δ S δ' S1 := fun L M a => by
  obtain ⟨L', M', e, a', f⟩ := d L M a
  refine ⟨L', M', ?_, a', f⟩
  unfold sFor iLift
  rw [hf]
  exact e
theorem doesS_one {g : GQ} {M' : List Cell → Lo → List Cell} {L' : List Cell → Lo → Lo} (hd : ∀ L M, At T h L M S → g δ M = some (.nx δ (M' M L)) ∧ At T h (L' M L) (M' M L) S1 ∧ A.Fr L M (L' M L) (M' M L)) : DoesS T h g δ S δ S1 := fun L M a =>
  let ⟨h1, h2, h3⟩ := hd L M a
  ⟨_, _, h1, h2, h3⟩
theorem doesS_set {k : Nat} {f : FE} {d : D} (hf : f (pview δ) = some d) : DoesS T h (sSet k (lift f)) δ S (δ.set k (some (.d d))) S := fun L M a => ⟨L, M, set_of (lift_of hf), a, .refl L M⟩
theorem doesS_if {ft : FT} {g g' : GQ} {b : Bool} {δ' : Q.Env} (ht : ∀ L M, At T h L M S → ft δ M = some (.ok b M)) (h1 : b = true → DoesS T h g δ S δ' S1) (h2 : b = false → DoesS T h g' δ S δ' S1) : DoesS T h (sIf ft g g') δ S δ' S1 := fun L M a => by
  rw [if_of (ht L M a)]
  cases b with
  | true => exact h1 rfl L M a
  | false => exact h2 rfl L M a
/-- o._here[name] = b and the like -/
theorem doesS_here (ok : TrOk T) {fi fe : FH} {i : Nat} {b : Bool} (h0 : δ[0]? = some (some (.l h))) (hi : ∀ M, fi δ M = some (.ok (.d (.str (T.nm i))) M)) (he : ∀ M, fe δ M = some (.ok (.d (.bool b)) M)) (e : putHere T i b S = some S1) : DoesS T h (sPutK (hAttr "House" (hVar 0) "_here") fi fe) δ S δ S1 := fun L M a => by
  unfold putHere at e
  split at e
  · rename_i hk
    cases e
    obtain ⟨a1, f1⟩ := a.putHere ok hk.1 b
    exact ⟨L, _, putK_of (he M) (attr_of a h0 rfl) (hi M) a.c_here (by rw [dk_len]; exact hk.2), a1, f1⟩
  · cases e
theorem doesS_sum (ok : TrOk T) {fi fe : FH} {i : Nat} {b : Int} (h0 : δ[0]? = some (some (.l h))) (hi : ∀ M, fi δ M = some (.ok (.d (.str (T.nm i))) M)) (he : ∀ M, fe δ M = some (.ok (.d (.int b)) M)) (e : putSum T i b S = some S1) : DoesS T h (sPutK (hAttr "House" (hVar 0) "_sums") fi fe) δ S δ S1 := fun L M a => by
  unfold putSum at e
  split at e
  · rename_i hk
    cases e
    obtain ⟨a1, f1⟩ := a.putSum ok hk.1 b
    exact ⟨L, _, putK_of (he M) (attr_of a h0 rfl) (hi M) a.c_sums (by rw [dk_len]; exact hk.2), a1, f1⟩
  · cases e
theorem doesS_part (ok : TrOk T) {fi fe : FH} {i : Nat} (h0 : δ[0]? = some (some (.l h))) (hi : ∀ M, fi δ M = some (.ok (.d (.str (T.nm i))) M)) (he : ∀ M, fe δ M = some (.ok (.d (T.pd i)) M)) (e : putPart T i S = some S1) : DoesS T h (sPutK (hAttr "House" (hVar 0) "_parts") fi fe) δ S δ S1 := fun L M a => by
  unfold putPart at e
  split at e
  · rename_i hk
    cases e
    obtain ⟨a1, f1⟩ := a.putParts ok hk.1
    exact ⟨L, _, putK_of (he M) (attr_of a h0 rfl) (hi M) a.c_parts (by rw [dk_len]; exact hk.2), a1, f1⟩
  · cases e
theorem doesS_up (ok : TrOk T) {fi fe : FH} {i j : Nat} (h0 : δ[0]? = some (some (.l h))) (hi : ∀ M, fi δ M = some (.ok (.d (.str (T.nm i))) M)) (he : ∀ M, fe δ M = some (.ok (.d (T.pd j)) M)) (e : putUp T i j S = some S1) : DoesS T h (sPutK (hAttr "House" (hVar 0) "_wardens") fi fe) δ S δ S1 := fun L M a => by
  unfold putUp at e
  split at e
  · rename_i hk
    cases e
    obtain ⟨a1, f1⟩ := a.putUp ok hk.1 (j := j)
    exact ⟨L, _, putK_of (he M) (attr_of a h0 rfl) (hi M) a.c_wardens (by rw [dk_len]; exact hk.2), a1, f1⟩
  · cases e
theorem cell0_of : hCell haNil δ M = some (.ok (.l M.length) (M ++ [Cell.lst []])) := rfl
theorem doesS_freshW (ok : TrOk T) {fi : FH} {i : Nat} (h0 : δ[0]? = some (some (.l h))) (hi : ∀ M, fi δ M = some (.ok (.d (.str (T.nm i))) M)) (e : freshW T i S = some S1) : DoesS T h (sPutK (hAttr "House" (hVar 0) "_waiting") fi (hCell haNil)) δ S δ S1 := fun L M a => by
  unfold freshW at e
  split at e
  · rename_i hk
    cases e
    obtain ⟨a1, f1⟩ := a.newW' ok hk.1
    obtain ⟨a2, f2⟩ := a.more (Cell.lst [])
    exact ⟨_, _, putK_of cell0_of (attr_of a2 h0 rfl) (hi _) a2.c_waiting (by rw [dk_len]; exact hk.2), a1, f1⟩
  · cases e
theorem doesS_freshK (ok : TrOk T) {fi : FH} {i : Nat} (h0 : δ[0]? = some (some (.l h))) (hi : ∀ M, fi δ M = some (.ok (.d (.str (T.nm i))) M)) (e : freshK T i S = some S1) : DoesS T h (sPutK (hAttr "House" (hVar 0) "_kept") fi (hCell haNil)) δ S δ S1 := fun L M a => by
  unfold freshK at e
  split at e
  · rename_i hk
    cases e
    obtain ⟨a1, f1⟩ := a.newK' ok hk.1
    obtain ⟨a2, f2⟩ := a.more (Cell.lst [])
    exact ⟨_, _, putK_of cell0_of (attr_of a2 h0 rfl) (hi _) a2.c_kept (by rw [dk_len]; exact hk.2), a1, f1⟩
  · cases e
theorem doesS_push {f : FH} {d : Ev} (h0 : δ[0]? = some (some (.l h))) (he : ∀ L M, At T h L M S → f δ M = some (.ok (.d (d.d T.nm)) M)) (e : pushH d S = some S1) : DoesS T h (sExpr (hApp (hAttr "House" (hVar 0) "_history") f)) δ S δ S1 := fun L M a => by
  unfold pushH at e
  split at e
  · rename_i hl
    cases e
    obtain ⟨a1, f1⟩ := a.pushH d
    exact ⟨L, _, expr_of (app_of (attr_of a h0 rfl) (he L M a) a.c_hist (by simpa using hl)), a1, f1⟩
  · cases e
end
end A

set_option Elab.async false
set_option linter.all false
set_option maxRecDepth 100000
set_option maxHeartbeats 4000000
/-! Comprehensions at the store; reading methods. -/
namespace A
open PySem PySem.Spec PyProof.Rows L2 Pd Q
theorem set_id {α : Type} : ∀ (M : List α) (n : Nat) (c : α), M[n]? = some c → M.set n c = M
  | [], _, _, h => by simp at h
  | a :: r, 0, c, h => by simp at h; subst h; rfl
  | a :: r, n + 1, c, h => by rw [List.set_cons_succ, set_id r n c (by simpa using h)]
theorem lc_go {α : Type} {nxt : Nxt} {i : Nat} {ft : FT} {fe : FH} {n : Nat} {δ : Q.Env} {xs : List α} {wt : α → W} {p : α → Bool} {g : α → W} (P : List Cell → Prop) (hst : ∀ M c, P M → P (M.set n c)) (hn : ∀ k M, k ≤ xs.length → P M → nxt k M = some ((xs[k]?).map wt))
    (ht : ∀ x ∈ xs, ∀ M, P M → ft (δ.set i (some (wt x))) M = some (.ok (p x) M)) (he : ∀ x ∈ xs, p x = true → ∀ M, P M → fe (δ.set i (some (wt x))) M = some (.ok (g x) M)) :
    ∀ (r : List α) (k m : Nat) (M : List Cell) (acc : List W), xs.drop k = r → k ≤ xs.length → P M → M[n]? = some (.lst acc) → acc.length + r.length < lim → r.length < m → lcGo nxt i ft fe n δ m k M = some (.ok (.l n) (M.set n (.lst (acc ++ (r.filter p).map g))))
  | [], k, 0, M, acc, _, _, _, _, _, hm => by simp at hm
  | [], k, m + 1, M, acc, hr, hk, hP, hM, hl, hm => by
    have : xs[k]? = none := by
      have := congrArg List.length hr
      simp at this
      exact List.getElem?_eq_none (by omega)
    unfold lcGo
    rw [hn k M hk hP, this]
    simp [set_id M n _ hM]
  | w :: r, k, 0, M, acc, _, _, _, _, _, hm => by simp at hm
  | w :: r, k, m + 1, M, acc, hr, hk, hP, hM, hl, hm => by
    have h1 : xs[k]? = some w := by
      have := congrArg (fun l => l[0]?) hr
      simpa [List.getElem?_drop] using this
    have h2 : xs.drop (k + 1) = r := by
      have := congrArg (List.drop 1) hr
      simpa [List.drop_drop, Nat.add_comm] using this
    have hw : w ∈ xs := List.mem_of_getElem? h1
    have hk' : k + 1 ≤ xs.length := (List.getElem?_eq_some_iff.mp h1).1
    have hnl : n < M.length := (List.getElem?_eq_some_iff.mp hM).1
    simp only [List.length_cons] at hl hm
    unfold lcGo
    rw [hn k M hk hP, h1]
    simp only [Option.map_some]
    rw [ht w hw M hP, nr_ok, bnd_ok]
    cases hp : p w with
    | true =>
      simp only [if_true]
      rw [he w hw hp M hP, nr_ok, bnd_ok]
      have e1 : appW (.l n) (g w) M = some (.ok (.d .none) (M.set n (.lst (acc ++ [g w])))) := by
        unfold appW
        simp only [hM]
        rw [if_pos (by omega)]
      rw [e1, nr_ok, bnd_ok, lc_go P hst hn ht he r (k + 1) m (M.set n (.lst (acc ++ [g w]))) (acc ++ [g w]) h2 hk' (hst _ _ hP) (by rw [List.getElem?_set_self hnl]) (by simp only [List.length_append, List.length_singleton]; omega) (by omega), List.set_set]
      simp [List.filter_cons, hp]
    | false =>
      rw [if_neg (by decide), lc_go P hst hn ht he r (k + 1) m M acc h2 hk' hP hM (by omega) (by omega)]
      simp [List.filter_cons, hp]
theorem set_end {M : List Cell} {c c' : Cell} : (M ++ [c]).set M.length c' = M ++ [c'] := by simp [List.set_append]
/-- a comprehension over data -/
theorem lcD_of {α : Type} {fi : FI} {i : Nat} {ft : FT} {fe : FH} {δ : Q.Env} {M : List Cell} {xs : List α} {wt : α → D} {p : α → Bool} {g : α → W} (P : List Cell → Prop) (hst : ∀ M' c, P M' → M.length < M'.length → P (M'.set M.length c)) (hP : P (M ++ [.lst []])) (hl : xs.length < lim) (hf : fi (pview δ) = some (xs.map wt))
    (ht : ∀ d ∈ xs, ∀ M', P M' → ft ((δ.set i none).set i (some (.d (wt d)))) M' = some (.ok (p d) M')) (he : ∀ d ∈ xs, p d = true → ∀ M', P M' → fe ((δ.set i none).set i (some (.d (wt d)))) M' = some (.ok (g d) M')) :
    hLc (srcD (iLift fi)) i ft fe δ M = some (.ok (.l M.length) (M ++ [.lst ((xs.filter p).map g)])) := by
  unfold hLc srcD iLift
  rw [hf]
  show lcGo (nxtD (xs.map wt)) i ft fe M.length (δ.set i none) lim 0 (M ++ [.lst []]) = _
  refine (lc_go (xs := xs) (wt := fun x => .d (wt x)) (p := p) (g := g) (fun M' => P M' ∧ M.length < M'.length) (fun M' c h => ⟨hst M' c h.1 h.2, by simpa using h.2⟩) (fun k M' hk _ => ?_) (fun w hw M' h => ht w hw M' h.1) (fun w hw hp M' h => he w hw hp M' h.1) xs 0 lim (M ++ [.lst []]) [] rfl (Nat.zero_le _) ⟨hP, by simp⟩ (by simp) (by simpa only [List.length_nil, Nat.zero_add] using hl) hl).trans ?_
  · unfold nxtD
    by_cases e : k = xs.length
    · rw [if_pos (by simpa using e), List.getElem?_eq_none (by omega)]
      rfl
    · rw [if_neg (by simpa using e), List.getElem?_map, List.getElem?_eq_getElem (by omega)]
      rfl
  · rw [set_end]
    rfl
/-- a comprehension over a list that is a cell -/
theorem lcC_of {α : Type} {f : FH} {i n : Nat} {ft : FT} {fe : FH} {δ : Q.Env} {M : List Cell} {xs : List α} {wt : α → W} {p : α → Bool} {g : α → W} (hl : xs.length < lim) (hf : f δ M = some (.ok (.l n) M)) (hM : M[n]? = some (.lst (xs.map wt)))
    (ht : ∀ w ∈ xs, ∀ M', ft ((δ.set i none).set i (some (wt w))) M' = some (.ok (p w) M')) (he : ∀ w ∈ xs, p w = true → ∀ M', fe ((δ.set i none).set i (some (wt w))) M' = some (.ok (g w) M')) :
    hLc (srcC f) i ft fe δ M = some (.ok (.l M.length) (M ++ [.lst ((xs.filter p).map g)])) := by
  have hn : n < M.length := (List.getElem?_eq_some_iff.mp hM).1
  unfold hLc srcC
  rw [hf, bnd_ok, if_pos (by unfold isLst; simp only [hM])]
  show lcGo (nxtC n) i ft fe M.length (δ.set i none) lim 0 (M ++ [.lst []]) = _
  refine (lc_go (xs := xs) (wt := wt) (p := p) (g := g) (fun M' => M'[n]? = some (.lst (xs.map wt))) (fun M' c h => by rw [List.getElem?_set_ne (show M.length ≠ n by omega)]; exact h) (fun k M' hk h => ?_) (fun w hw M' h => ht w hw M') (fun w hw hp M' h => he w hw hp M') xs 0 lim (M ++ [.lst []]) [] rfl (Nat.zero_le _) (by rw [List.getElem?_append_left hn]; exact hM) (by simp) (by simpa only [List.length_nil, Nat.zero_add] using hl) hl).trans ?_
  · unfold nxtC
    simp only [h, List.getElem?_map]
  · rw [set_end]
    rfl
end A

set_option Elab.async false
set_option linter.all false
set_option maxRecDepth 100000
set_option maxHeartbeats 4000000
/-! The machine: hours kept, falls, work. -/
namespace A
open PySem PySem.Spec PyProof.Rows L2 Pd Q
section
variable (T : Tr)
def old (S : Hst) (w : Nat) (t : Int) : Bool := !decide (S.hour - T.span w < t)
def keepS (w : Nat) (S : Hst) : Option (Nat × Hst) := if w ∈ S.kk ∧ (S.kept w).length < 900 ∧ 0 < T.span w then
  some (((S.kept w ++ [S.hour]).dropWhile (old T S w)).length, { S with kept := set1 S.kept w ((S.kept w ++ [S.hour]).dropWhile (old T S w)) }) else none
def neverB (i : Nat) : Bool := T.wk i && decide (T.again i = ("never" : Str))
def dueS (S : Hst) (f p : Nat) : Bool := decide (p = f) || (S.here p && !neverB T p)
def chosenS (w f : Nat) : List Nat := if T.rule w = ("one" : Str) then [f] else if T.rule w = ("rest" : Str) then (T.kids w).drop ((T.kids w).idxOf f) else T.kids w
def anewS (w f : Nat) (S : Hst) : Option Hst := if (∀ i ∈ T.kids w, i ∈ S.kh) ∧ f ∈ T.kids w then (endAllS T 20 (chosenS T w f) S).bind fun S1 => ((chosenS T w f).filter (dueS T S f)).foldlM (fun S j => beginS T 10 j S) S1 else none
def fallStep (follow : Nat → Hst → Option Hst) (i : Nat) (S : Hst) : Option Hst := (goS T "fails" i S).bind fun S => (endAllS T 20 (T.kids i) S).bind fun S => if i ≠ 0 ∧ neverB T i = false then follow i S else some S
def followStep (fall : Nat → Hst → Option Hst) (i : Nat) (S : Hst) : Option Hst := if i ∈ S.kd ∧ S.up i < T.n ∧ T.wk (S.up i) = false then (keepS T (S.up i) S).bind fun p => if T.many (S.up i) < (p.1 : Int) then fall (S.up i) p.2 else anewS T (S.up i) i p.2 else none
def fallS : Nat → Nat → Hst → Option Hst
  | 0, _, _ => none
  | 1, _, _ => none
  | n + 2, i, S => fallStep T (followStep T (fallS n)) i S
def followS : Nat → Nat → Hst → Option Hst
  | 0, _, _ => none
  | n + 1, i, S => followStep T (fallS T n) i S
end
section
variable {δ : Q.Env} {M M1 : List Cell}
theorem pop_of {fo : FH} {n : Nat} {w : W} {ws : List W} (ho : fo δ M = some (.ok (.l n) M)) (hm : M[n]? = some (.lst (w :: ws))) : hPop fo (lift (eC (.int 0))) δ M = some (.ok w (M.set n (.lst ws))) := by
  unfold hPop
  rw [ho, bnd_ok, if_pos (by unfold isLst; simp only [hm]), lift_of (d := .int 0) rfl, bnd_ok]
  show (if -(2 ^ 63) ≤ (0 : Int) ∧ (0 : Int) < 2 ^ 63 then popW (.l n) 0 M else none) = _
  rw [if_pos (by decide)]
  unfold popW
  simp only [hm]
  have : seqIndex? 0 (w :: ws).length = some 0 := by
    unfold seqIndex?
    simp
  rw [this]
  rfl
theorem sl1_of {fa : FH} {n : Nat} {ws : List W} (ho : fa δ M = some (.ok (.l n) M)) (hm : M[n]? = some (.lst ws)) : hSl fa oN (oS (lift (eC (.int 1)))) δ M = some (.ok (.l M.length) (M ++ [.lst (ws.take 1)])) := by
  unfold hSl
  rw [ho, bnd_ok]
  show slW (.l n) none (some 1) M = _
  unfold slW
  simp only [hm]
  congr 4
  unfold cutW HT.sIx
  cases ws <;> simp
end
end A

set_option Elab.async false
set_option linter.all false
set_option maxRecDepth 100000
set_option maxHeartbeats 4000000
/-! Loops over a cell of no house. -/
namespace A
open PySem PySem.Spec PyProof.Rows L2 Pd Q
section
variable {T : Tn} {h : Nat} {α : Type}
theorem loopC_does {k : Nat} {body : GQ} {wt : α → W} (step : α → Hst → Option Hst) (P : Q.Env → Prop) (pl : ∀ δ, P δ → k < δ.length) (ok : α → Prop)
    (hs : ∀ j, ok j → ∀ (δ : Q.Env) (S S1 : Hst), P δ → (δ.set k (some (wt j)))[k]? = some (some (wt j)) → step j S = some S1 → ∃ δ', DoesS T h body (δ.set k (some (wt j))) S δ' S1 ∧ P δ') (ws : List W) :
    ∀ (r : List α) (i m : Nat) (δ : Q.Env) (S S1 : Hst), (∀ j ∈ r, ok j) → ws.drop i = r.map wt → r.length < m → P δ → r.foldlM (fun S j => step j S) S = some S1 →
      ∃ δ', P δ' ∧ ∀ (n : Nat) (L : Lo) (M : List Cell), At T h L M S → M[n]? = some (.lst ws) → L.tg n = .no → ∃ L' M', forC k n body m i δ M = some (.nx δ' M') ∧ At T h L' M' S1 ∧ Fr L M L' M'
  | [], i, 0, δ, S, S1, _, _, hm, _, _ => by simp at hm
  | [], i, m + 1, δ, S, S1, _, hd, hm, p, e => by
    cases e
    refine ⟨δ, p, fun n L M a hn ht => ⟨L, M, ?_, a, .refl L M⟩⟩
    have : ws[i]? = none := by
      have := congrArg List.length hd
      simp at this
      exact List.getElem?_eq_none (by omega)
    unfold forC
    simp only [hn, this]
  | j :: r, i, 0, δ, S, S1, _, _, hm, _, _ => by simp at hm
  | j :: r, i, m + 1, δ, S, S1, hok, hd, hm, p, e => by
    rw [List.foldlM_cons] at e
    obtain ⟨S2, e1, e2'⟩ := Option.bind_eq_some_iff.mp e
    have h1 : ws[i]? = some (wt j) := by
      have := congrArg (fun l => l[0]?) hd
      simpa [List.getElem?_drop] using this
    have h2 : ws.drop (i + 1) = r.map wt := by
      have := congrArg (List.drop 1) hd
      simpa [List.drop_drop, Nat.add_comm] using this
    obtain ⟨δ1, dd, p1⟩ := hs j (hok j (List.mem_cons_self ..)) δ S S2 p (List.getElem?_set_self (pl _ p)) e1
    obtain ⟨δ', p2, hr⟩ := loopC_does step P pl ok hs ws r (i + 1) m δ1 S2 S1 (fun j hj => hok j (List.mem_cons_of_mem _ hj)) h2 (by simp at hm; omega) p1 e2'
    refine ⟨δ', p2, fun n L M a hn ht => ?_⟩
    obtain ⟨L1, M1, q1, a1, f1⟩ := dd L M a
    have hnl : n < M.length := (List.getElem?_eq_some_iff.mp hn).1
    obtain ⟨k1, k2⟩ := f1.keep n hnl ht
    obtain ⟨L2, M2, q2, a2, f2⟩ := hr n L1 M1 a1 (k1.trans hn) k2
    refine ⟨L2, M2, ?_, a2, f1.trans f2⟩
    unfold forC
    simp only [hn, h1]
    rw [q1]
    exact q2
end
end A

set_option Elab.async false
set_option linter.all false
set_option maxRecDepth 100000
set_option maxHeartbeats 4000000
/-! The machine: work, send, fail. -/
namespace A
open PySem PySem.Spec PyProof.Rows L2 Pd Q
section
variable (T : Tr)
def workOnS (i : Nat) (l : Ltr) (S : Hst) : Option Hst := match l with
  | .add k => if i ∈ S.ks then putSum T i (S.sum i + k) S else none
  | .fault => fallS T 20 i S
  | .leave => (goS T "leaves" i S).bind fun S => if T.again i = ("always" : Str) then followS T 20 i S else some S
def loseOne (i : Nat) (S : Hst) : Option Hst := if i ∈ S.kw ∧ i ∈ S.kh ∧ (S.wait i).length < lim then (if S.here i then some S else ((S.wait i).foldlM (fun S p => pushH (.three "lost" i p.1) S) S).bind (freshW T i)) else none
def loseS (S : Hst) : Option Hst := if S.kw.length < lim then S.kw.foldlM (fun S i => loseOne T i S) S else none
def workS (i : Nat) (S : Hst) : Option Hst := if i ∈ S.kw ∧ i ∈ S.kp ∧ T.wk i = true then (match S.wait i with
  | [] => none
  | p :: r => (pushH (.three "works" i p.1) { S with hour := S.hour + 1, wait := set1 S.wait i r }).bind fun S => (workOnS T i p.2 S).bind (loseS T)) else none
def failS (i : Nat) (S : Hst) : Option Hst := if i ∈ S.kp then (fallS T 20 i { S with hour := S.hour + 1 }).bind (loseS T) else none
def sendS (i : Nat) (l : Ltr) (S : Hst) : Option Hst := if i ∈ S.kw ∧ (S.wait i).length < lim then pushH (.sent i (S.sent + 1) l) { S with sent := S.sent + 1, wait := set1 S.wait i (S.wait i ++ [(S.sent + 1, l)]) } else none
end
section
variable {δ : Q.Env} {M M1 : List Cell}
theorem sl_from {fa : FH} {n k : Nat} {ws : List W} {j : Nat} (ho : fa δ M = some (.ok (.l n) M)) (hj : lift (eVar j) δ M = some (.ok (.d (.int (k : Nat))) M)) (hm : M[n]? = some (.lst ws)) (hk : k ≤ ws.length) : hSl fa (oS (lift (eVar j))) oN δ M = some (.ok (.l M.length) (M ++ [.lst (ws.drop k)])) := by
  unfold hSl
  rw [ho, bnd_ok]
  have : oS (lift (eVar j)) δ M = some (.ok (some (k : Int)) M) := by
    unfold oS
    rw [hj]
    rfl
  rw [this, bnd_ok]
  show slW (.l n) (some (k : Int)) none M = _
  unfold slW
  simp only [hm]
  congr 4
  unfold cutW HT.sIx
  simp
  have : min (k : Int) (ws.length : Int) = k := by omega
  simp_all
  rw [if_neg (show ¬ ((k : Int) < 0) by omega)]
  exact List.take_of_length_le (by simp)
end
section
variable {T : Tn} {h : Nat} {L : Lo} {M : List Cell} {S S1 S2 : Hst} {δ : Q.Env}
theorem aug_hour (a : At T h L M S) (h0 : δ[0]? = some (some (.l h))) : sAugA "House" "_hour" (hVar 0) (lift (eC (.int 1))) δ M = some (.nx δ (M.set h (.ins "House" (putW "_hour" (.d (.int (S.hour + 1))) (flds T L S))))) := by
  unfold sAugA
  rw [var_of h0, onE_ok]
  have e1 : attrW "House" (.l h) "_hour" M = some (.ok (.d (.int S.hour)) M) := by
    unfold attrW
    simp only [a.get a.self (by simp), cellOf, if_pos]
    rfl
  rw [e1, onE_ok, lift_of (d := .int 1) rfl, onE_ok]
  show (putA "House" "_hour" (.l h) (.d (.int (S.hour + 1))) M).map _ = _
  unfold putA
  simp only [a.get a.self (by simp), cellOf]
  rw [if_pos ⟨trivial, (show 10 < 1000 by decide)⟩]
  rfl
theorem aug_sent (a : At T h L M S) (h0 : δ[0]? = some (some (.l h))) : sAugA "House" "_sent" (hVar 0) (lift (eC (.int 1))) δ M = some (.nx δ (M.set h (.ins "House" (putW "_sent" (.d (.int (S.sent + 1))) (flds T L S))))) := by
  unfold sAugA
  rw [var_of h0, onE_ok]
  have e1 : attrW "House" (.l h) "_sent" M = some (.ok (.d (.int S.sent)) M) := by
    unfold attrW
    simp only [a.get a.self (by simp), cellOf, if_pos]
    rfl
  rw [e1, onE_ok, lift_of (d := .int 1) rfl, onE_ok]
  show (putA "House" "_sent" (.l h) (.d (.int (S.sent + 1))) M).map _ = _
  unfold putA
  simp only [a.get a.self (by simp), cellOf]
  rw [if_pos ⟨trivial, (show 10 < 1000 by decide)⟩]
  rfl
end
end A

set_option Elab.async false
set_option linter.all false
set_option maxRecDepth 100000
set_option maxHeartbeats 4000000
/-! The machine never stops short: on any tree of parts, as long as the history is short. -/
namespace A
open PySem PySem.Spec PyProof.Rows L2 Pd Q
/-- a tree of parts -/
structure Tree (T : Tr) (par ht lv sz : Nat → Nat) : Prop where
  kid : ∀ i, i < T.n → ∀ j ∈ T.kids i, j < T.n ∧ 0 < j ∧ par j = i ∧ ht j < ht i
  ht7 : ∀ i, i < T.n → ht i ≤ 7
  dad : ∀ j, j < T.n → 0 < j → par j < T.n ∧ j ∈ T.kids (par j) ∧ T.wk (par j) = false ∧ lv j = lv (par j) + 1
  lv8 : ∀ i, i < T.n → lv i ≤ 8
  size : ∀ i, i < T.n → sz i = 1 + ((T.kids i).map sz).sum
  few : ∀ i, i < T.n → sz i ≤ 70
  span : ∀ i, i < T.n → T.wk i = false → 0 < T.span i
  top : 0 < T.n
structure Step (S S' : Hst) (k q : Nat) : Prop where
  kp : S'.kp = S.kp
  kd : S'.kd = S.kd
  kh : S'.kh = S.kh
  kw : S'.kw = S.kw
  ks : S'.ks = S.ks
  kk : S'.kk = S.kk
  up : S'.up = S.up
  hour : S'.hour = S.hour
  sent : S'.sent = S.sent
  wait : S'.wait = S.wait
  kept : ∀ i, (S'.kept i).length ≤ (S.kept i).length + q
  hist : ∃ t, S'.hist = S.hist ++ t ∧ t.length ≤ k
theorem Step.refl (S : Hst) : Step S S 0 0 := ⟨rfl, rfl, rfl, rfl, rfl, rfl, rfl, rfl, rfl, rfl, fun _ => Nat.le_refl _, [], by simp, Nat.le_refl _⟩
theorem Step.trans {S S1 S2 : Hst} {k q k' q' : Nat} (a : Step S S1 k q) (b : Step S1 S2 k' q') : Step S S2 (k + k') (q + q') := by
  obtain ⟨t, e, l⟩ := a.hist
  obtain ⟨t', e', l'⟩ := b.hist
  exact ⟨b.kp.trans a.kp, b.kd.trans a.kd, b.kh.trans a.kh, b.kw.trans a.kw, b.ks.trans a.ks, b.kk.trans a.kk, b.up.trans a.up, b.hour.trans a.hour, b.sent.trans a.sent, b.wait.trans a.wait, fun i => by have := a.kept i; have := b.kept i; omega, t ++ t', by rw [e', e, List.append_assoc], by rw [List.length_append]; omega⟩
theorem Step.le {S S1 : Hst} {k q k' q' : Nat} (a : Step S S1 k q) (hk : k ≤ k') (hq : q ≤ q') : Step S S1 k' q' := by
  obtain ⟨t, e, l⟩ := a.hist
  exact ⟨a.kp, a.kd, a.kh, a.kw, a.ks, a.kk, a.up, a.hour, a.sent, a.wait, fun i => by have := a.kept i; omega, t, e, by omega⟩
theorem Step.len {S S1 : Hst} {k q : Nat} (a : Step S S1 k q) : S1.hist.length ≤ S.hist.length + k := by
  obtain ⟨t, e, l⟩ := a.hist
  rw [e, List.length_append]; omega
/-- a house in full -/
structure Ful (T : Tr) (par : Nat → Nat) (S : Hst) : Prop where
  p : ∀ i, i < T.n → i ∈ S.kp
  d : ∀ i, i < T.n → 0 < i → i ∈ S.kd ∧ S.up i = par i
  h : ∀ i, i < T.n → i ∈ S.kh
  w : ∀ i, i < T.n → T.wk i = true → i ∈ S.kw ∧ i ∈ S.ks
  k : ∀ i, i < T.n → T.wk i = false → i ∈ S.kk
  sm : S.kp.length < 100 ∧ S.kd.length < 100 ∧ S.kh.length < 100 ∧ S.kw.length < 100 ∧ S.ks.length < 100 ∧ S.kk.length < 100
theorem Ful.step {T : Tr} {par : Nat → Nat} {S S' : Hst} {k q : Nat} (f : Ful T par S) (s : Step S S' k q) : Ful T par S' :=
  ⟨by rw [s.kp]; exact f.p, by rw [s.kd, s.up]; exact f.d, by rw [s.kh]; exact f.h, by rw [s.kw, s.ks]; exact f.w, by rw [s.kk]; exact f.k, by rw [s.kp, s.kd, s.kh, s.kw, s.ks, s.kk]; exact f.sm⟩
theorem lim_big : (100 : Nat) < lim := by decide
section
variable {T : Tr} {par ht lv sz : Nat → Nat} {S : Hst}
theorem push_tot {e : Ev} (hl : S.hist.length < lim) : ∃ S', pushH e S = some S' ∧ Step S S' 1 0 :=
  ⟨_, if_pos hl, rfl, rfl, rfl, rfl, rfl, rfl, rfl, rfl, rfl, rfl, fun _ => Nat.le_refl _, [e], rfl, Nat.le_refl _⟩
theorem here_tot (f : Ful T par S) {i : Nat} (hi : i < T.n) (b : Bool) : ∃ S', putHere T i b S = some S' ∧ Step S S' 0 0 := by
  refine ⟨_, if_pos ⟨hi, Nat.lt_trans f.sm.2.2.1 lim_big⟩, rfl, rfl, ?_, rfl, rfl, rfl, rfl, rfl, rfl, rfl, fun _ => Nat.le_refl _, [], by simp, Nat.le_refl _⟩
  exact addK_mem (f.h i hi)
theorem go_tot (f : Ful T par S) {i : Nat} (hi : i < T.n) (hl : S.hist.length < lim) (w : Str) : ∃ S', goS T w i S = some S' ∧ Step S S' 1 0 := by
  obtain ⟨S1, e1, s1⟩ := push_tot (e := .two w i) hl
  obtain ⟨S2, e2', s2⟩ := here_tot (f.step s1) hi false
  exact ⟨S2, by unfold goS; rw [e1]; exact e2', s1.trans s2⟩
/-- a walk whose steps never stop short -/
theorem fold_tot {step : Nat → Hst → Option Hst} {w : Nat → Nat} : ∀ (is : List Nat), (∀ j ∈ is, ∀ S, Ful T par S → S.hist.length + w j < lim → ∃ S', step j S = some S' ∧ Step S S' (w j) 0) → ∀ S, Ful T par S → S.hist.length + (is.map w).sum < lim →
    ∃ S', is.foldlM (fun S j => step j S) S = some S' ∧ Step S S' (is.map w).sum 0
  | [], _, S, _, _ => ⟨S, rfl, .refl S⟩
  | j :: r, h, S, f, hl => by
    rw [List.map_cons, List.sum_cons] at hl ⊢
    obtain ⟨S1, e1, s1⟩ := h j (List.mem_cons_self ..) S f (by omega)
    obtain ⟨S2, e2', s2⟩ := fold_tot r (fun j hj => h j (List.mem_cons_of_mem _ hj)) S1 (f.step s1) (by have := s1.len; omega)
    refine ⟨S2, ?_, s1.trans s2⟩
    rw [List.foldlM_cons, e1]
    exact e2'
theorem sum_rev (w : Nat → Nat) (is : List Nat) : (is.reverse.map w).sum = (is.map w).sum := by
  rw [List.map_reverse, List.sum_reverse]
theorem end_tot (t : Tree T par ht lv sz) : ∀ (n i : Nat) (S : Hst), i < T.n → 2 * ht i + 2 ≤ n → Ful T par S → S.hist.length + sz i < lim → ∃ S', endS T n i S = some S' ∧ Step S S' (sz i) 0
  | 0, i, S, hi, hn, f, hl => by omega
  | 1, i, S, hi, hn, f, hl => by omega
  | n + 2, i, S, hi, hn, f, hl => by
    have hs := t.size i hi
    obtain ⟨S1, e1, s1⟩ := fold_tot (T := T) (par := par) (step := fun j S => endOne T n j S) (w := sz) (T.kids i).reverse (fun j hj S f hl => by
      obtain ⟨k1, k2, k3, k4⟩ := t.kid i hi j (List.mem_reverse.mp hj)
      unfold endOne hereS
      rw [if_pos (f.h j k1), Option.bind_some]
      cases S.here j with
      | true =>
        rw [if_pos rfl]
        exact end_tot t n j S k1 (by omega) f hl
      | false =>
        rw [if_neg (by decide)]
        exact ⟨S, rfl, (Step.refl S).le (Nat.zero_le _) (Nat.le_refl _)⟩) S f (by rw [sum_rev]; omega)
    rw [sum_rev] at s1
    obtain ⟨S2, e2', s2⟩ := go_tot (f.step s1) hi (by have := s1.len; omega) "ends"
    refine ⟨S2, ?_, (s1.trans s2).le (by omega) (Nat.le_refl _)⟩
    show (((T.kids i).reverse.foldlM (fun S j => endOne T n j S) S).bind (goS T "ends" i)) = some S2
    rw [e1]
    exact e2'
theorem endAll_tot (t : Tree T par ht lv sz) {is : List Nat} (hi : ∀ i ∈ is, i < T.n) {n : Nat} (hn : 17 ≤ n) (f : Ful T par S) (hl : S.hist.length + (is.map sz).sum < lim) : ∃ S', endAllS T n is S = some S' ∧ Step S S' (is.map sz).sum 0 := by
  obtain ⟨m, rfl⟩ : ∃ m, n = m + 1 := ⟨n - 1, by omega⟩
  obtain ⟨S1, e1, s1⟩ := fold_tot (T := T) (par := par) (step := fun j S => endOne T m j S) (w := sz) is.reverse (fun j hj S f hl => by
    have k1 := hi j (List.mem_reverse.mp hj)
    have := t.ht7 j k1
    unfold endOne hereS
    rw [if_pos (f.h j k1), Option.bind_some]
    cases S.here j with
    | true =>
      rw [if_pos rfl]
      exact end_tot t m j S k1 (by omega) f hl
    | false =>
      rw [if_neg (by decide)]
      exact ⟨S, rfl, (Step.refl S).le (Nat.zero_le _) (Nat.le_refl _)⟩) S f (by rw [sum_rev]; omega)
  rw [sum_rev] at s1
  exact ⟨S1, e1, s1⟩
theorem sum_tot (f : Ful T par S) {i : Nat} (hi : i < T.n) (hw : T.wk i = true) (b : Int) : ∃ S', putSum T i b S = some S' ∧ Step S S' 0 0 := by
  refine ⟨_, if_pos ⟨hi, Nat.lt_trans f.sm.2.2.2.2.1 lim_big⟩, rfl, rfl, rfl, rfl, ?_, rfl, rfl, rfl, rfl, rfl, fun _ => Nat.le_refl _, [], by simp, Nat.le_refl _⟩
  exact addK_mem (f.w i hi hw).2
theorem freshK_tot (f : Ful T par S) {i : Nat} (hi : i < T.n) (hw : T.wk i = false) : ∃ S', freshK T i S = some S' ∧ Step S S' 0 0 := by
  refine ⟨_, if_pos ⟨hi, Nat.lt_trans f.sm.2.2.2.2.2 lim_big⟩, rfl, rfl, rfl, rfl, rfl, ?_, rfl, rfl, rfl, rfl, fun j => ?_, [], by simp, Nat.le_refl _⟩
  · exact addK_mem (f.k i hi hw)
  · show (set1 S.kept i [] j).length ≤ _
    unfold set1
    split
    · simp
    · omega
theorem begin_tot (t : Tree T par ht lv sz) : ∀ (n i : Nat) (S : Hst), i < T.n → ht i + 1 ≤ n → Ful T par S → S.hist.length + sz i < lim → ∃ S', beginS T n i S = some S' ∧ Step S S' (sz i) 0
  | 0, i, S, hi, hn, f, hl => by omega
  | n + 1, i, S, hi, hn, f, hl => by
    have hs := t.size i hi
    obtain ⟨S1, e1, s1⟩ := push_tot (S := S) (e := .two "begins" i) (by omega)
    have f1 := f.step s1
    obtain ⟨S2, e2', s2⟩ := here_tot f1 hi true
    have f2 := f1.step s2
    obtain ⟨S3, e3, s3⟩ : ∃ S', (if T.wk i then putSum T i 0 S2 else freshK T i S2) = some S' ∧ Step S2 S' 0 0 := by
      cases hw : T.wk i with
      | true => rw [if_pos rfl]; exact sum_tot f2 hi hw 0
      | false => rw [if_neg (by decide)]; exact freshK_tot f2 hi hw
    have f3 := f2.step s3
    have s13 := (s1.trans s2).trans s3
    obtain ⟨S4, e4, s4⟩ := fold_tot (T := T) (par := par) (step := fun j S => beginS T n j S) (w := sz) (T.kids i) (fun j hj S f hl => by
      obtain ⟨k1, k2, k3, k4⟩ := t.kid i hi j hj
      exact begin_tot t n j S k1 (by omega) f hl) S3 f3 (by have := s13.len; omega)
    refine ⟨S4, ?_, (s13.trans s4).le (by omega) (Nat.le_refl _)⟩
    unfold beginS
    rw [e1, Option.bind_some, e2', Option.bind_some, e3]
    exact e4
end
end A

set_option Elab.async false
set_option linter.all false
set_option maxRecDepth 100000
set_option maxHeartbeats 4000000
/-! Falls, deeds: the machine never stops short. -/
namespace A
open PySem PySem.Spec PyProof.Rows L2 Pd Q
section
variable {T : Tr} {par ht lv sz : Nat → Nat} {S : Hst}
theorem sum_sub (w : Nat → Nat) {a b : List Nat} (h : a.Sublist b) : (a.map w).sum ≤ (b.map w).sum := by
  induction h with
  | slnil => exact Nat.le_refl _
  | cons x _ ih => rw [List.map_cons, List.sum_cons]; omega
  | cons_cons x _ ih => rw [List.map_cons, List.map_cons, List.sum_cons, List.sum_cons]; omega
theorem chosen_sub {w f : Nat} (hf : f ∈ T.kids w) : (chosenS T w f).Sublist (T.kids w) := by
  unfold chosenS
  split
  · exact List.singleton_sublist.mpr hf
  · split
    · exact List.drop_sublist ..
    · exact List.Sublist.refl _
theorem keep_tot (t : Tree T par ht lv sz) (f : Ful T par S) {w : Nat} (hw : w < T.n) (ww : T.wk w = false) (hk : (S.kept w).length < 900) : ∃ k S', keepS T w S = some (k, S') ∧ Step S S' 0 1 := by
  refine ⟨_, _, if_pos ⟨f.k w hw ww, hk, t.span w hw ww⟩, rfl, rfl, rfl, rfl, rfl, rfl, rfl, rfl, rfl, rfl, fun j => ?_, [], by simp, Nat.le_refl _⟩
  show (set1 S.kept w ((S.kept w ++ [S.hour]).dropWhile (old T S w)) j).length ≤ _
  unfold set1
  split
  · rename_i e
    subst e
    have := (List.dropWhile_sublist (old T S j) (l := S.kept j ++ [S.hour])).length_le
    rw [List.length_append, List.length_singleton] at this
    exact this
  · omega
theorem anew_tot (t : Tree T par ht lv sz) (f : Ful T par S) {w i : Nat} (hw : w < T.n) (hi : i ∈ T.kids w) (hl : S.hist.length + 140 < lim) : ∃ S', anewS T w i S = some S' ∧ Step S S' 140 0 := by
  have hs := t.size w hw
  have h70 := t.few w hw
  have hc := chosen_sub (T := T) hi
  have c1 := sum_sub sz hc
  have hcn : ∀ j ∈ chosenS T w i, j < T.n := fun j hj => (t.kid w hw j (hc.subset hj)).1
  obtain ⟨S1, e1, s1⟩ := endAll_tot t hcn (n := 20) (by omega) f (by omega)
  have c2 := sum_sub sz (List.filter_sublist (p := dueS T S i) (l := chosenS T w i))
  obtain ⟨S2, e2', s2⟩ := fold_tot (T := T) (par := par) (step := fun j S => beginS T 10 j S) (w := sz) ((chosenS T w i).filter (dueS T S i)) (fun j hj S f hl => by
    have k1 := hcn j (List.mem_filter.mp hj).1
    have := t.ht7 j k1
    exact begin_tot t 10 j S k1 (by omega) f hl) S1 (f.step s1) (by have := s1.len; omega)
  refine ⟨S2, ?_, (s1.trans s2).le (by omega) (Nat.le_refl _)⟩
  unfold anewS
  rw [if_pos ⟨fun j hj => f.h j (t.kid w hw j hj).1, hi⟩, e1]
  exact e2'
theorem fall_tot (t : Tree T par ht lv sz) : ∀ (n i : Nat) (S : Hst), i < T.n → 2 * lv i + 2 ≤ n → Ful T par S → S.hist.length + (lv i + 1) * 300 < lim → (∀ j, (S.kept j).length + lv i < 900) → ∃ S', fallS T n i S = some S' ∧ Step S S' ((lv i + 1) * 300) (lv i)
  | 0, i, S, hi, hn, f, hl, hk => by omega
  | 1, i, S, hi, hn, f, hl, hk => by omega
  | n + 2, i, S, hi, hn, f, hl, hk => by
    have hs := t.size i hi
    have h70 := t.few i hi
    obtain ⟨S1, e1, s1⟩ := go_tot f hi (show S.hist.length < lim by omega) "fails"
    have f1 := f.step s1
    obtain ⟨S2, e2', s2⟩ := endAll_tot t (is := T.kids i) (fun j hj => (t.kid i hi j hj).1) (n := 20) (by omega) f1 (by have := s1.len; omega)
    have f2 := f1.step s2
    have s12 := (s1.trans s2).le (show 1 + ((T.kids i).map sz).sum ≤ 70 by omega) (Nat.le_refl _)
    by_cases hc : i ≠ 0 ∧ neverB T i = false
    · have i0 : 0 < i := by omega
      obtain ⟨d1, d2, d3, d4⟩ := t.dad i hi i0
      have hu : S2.up i = par i := (f2.d i hi i0).2
      obtain ⟨k, S3, e3, s3⟩ := keep_tot t f2 d1 d3 (by have := s12.kept (par i); have := hk (par i); omega)
      have f3 := f2.step s3
      have s13 := s12.trans s3
      have base : fallS T (n + 2) i S = (if T.many (par i) < (k : Int) then fallS T n (par i) S3 else anewS T (par i) i S3) := by
        show fallStep T (followStep T (fallS T n)) i S = _
        unfold fallStep
        rw [e1, Option.bind_some, e2', Option.bind_some, if_pos hc]
        unfold followStep
        rw [if_pos ⟨(f2.d i hi i0).1, by rw [hu]; exact d1, by rw [hu]; exact d3⟩, hu, e3]
        rfl
      rw [base]
      have hlv : lv i = lv (par i) + 1 := d4
      by_cases hm : T.many (par i) < (k : Int)
      · rw [if_pos hm]
        obtain ⟨S4, e4, s4⟩ := fall_tot t n (par i) S3 d1 (by omega) f3 (by have := s13.len; rw [hlv] at hl; omega) (fun j => by have := s13.kept j; have := hk j; omega)
        exact ⟨S4, e4, (s13.trans s4).le (by rw [hlv]; omega) (by omega)⟩
      · rw [if_neg hm]
        obtain ⟨S4, e4, s4⟩ := anew_tot t f3 d1 d2 (by have := s13.len; omega)
        exact ⟨S4, e4, (s13.trans s4).le (by omega) (by omega)⟩
    · refine ⟨S2, ?_, s12.le (by omega) (by omega)⟩
      show fallStep T (followStep T (fallS T n)) i S = _
      unfold fallStep
      rw [e1, Option.bind_some, e2', Option.bind_some, if_neg hc]
theorem follow_tot (t : Tree T par ht lv sz) {i : Nat} (hi : i < T.n) (i0 : 0 < i) (f : Ful T par S) (hl : S.hist.length + (lv i + 1) * 300 < lim) (hk : ∀ j, (S.kept j).length + lv i < 900) : ∃ S', followS T 20 i S = some S' ∧ Step S S' ((lv i + 1) * 300) (lv i) := by
  obtain ⟨d1, d2, d3, d4⟩ := t.dad i hi i0
  have l8 := t.lv8 i hi
  have hu : S.up i = par i := (f.d i hi i0).2
  obtain ⟨k, S3, e3, s3⟩ := keep_tot t f d1 d3 (by have := hk (par i); omega)
  have f3 := f.step s3
  have base : followS T 20 i S = (if T.many (par i) < (k : Int) then fallS T 19 (par i) S3 else anewS T (par i) i S3) := by
    show followStep T (fallS T 19) i S = _
    unfold followStep
    rw [if_pos ⟨(f.d i hi i0).1, by rw [hu]; exact d1, by rw [hu]; exact d3⟩, hu, e3]
    rfl
  rw [base]
  by_cases hm : T.many (par i) < (k : Int)
  · rw [if_pos hm]
    obtain ⟨S4, e4, s4⟩ := fall_tot t 19 (par i) S3 d1 (by omega) f3 (by have := s3.len; rw [d4] at hl; omega) (fun j => by have := s3.kept j; have := hk j; omega)
    exact ⟨S4, e4, (s3.trans s4).le (by rw [d4]; omega) (by omega)⟩
  · rw [if_neg hm]
    obtain ⟨S4, e4, s4⟩ := anew_tot t f3 d1 d2 (by have := s3.len; omega)
    exact ⟨S4, e4, (s3.trans s4).le (by omega) (by omega)⟩
end
end A

set_option Elab.async false
set_option linter.all false
set_option maxRecDepth 100000
set_option maxHeartbeats 4000000
/-! Deeds: the machine never stops short. -/
namespace A
open PySem PySem.Spec PyProof.Rows L2 Pd Q
structure StepD (S S' : Hst) (k q r : Nat) : Prop where
  kp : S'.kp = S.kp
  kd : S'.kd = S.kd
  kh : S'.kh = S.kh
  kw : S'.kw = S.kw
  ks : S'.ks = S.ks
  kk : S'.kk = S.kk
  up : S'.up = S.up
  wait : ∀ i, (S'.wait i).length ≤ (S.wait i).length + r
  kept : ∀ i, (S'.kept i).length ≤ (S.kept i).length + q
  hist : ∃ t, S'.hist = S.hist ++ t ∧ t.length ≤ k
theorem StepD.refl (S : Hst) : StepD S S 0 0 0 := ⟨rfl, rfl, rfl, rfl, rfl, rfl, rfl, fun _ => Nat.le_refl _, fun _ => Nat.le_refl _, [], by simp, Nat.le_refl _⟩
theorem Step.d {S S' : Hst} {k q : Nat} (s : Step S S' k q) : StepD S S' k q 0 := ⟨s.kp, s.kd, s.kh, s.kw, s.ks, s.kk, s.up, fun i => by rw [s.wait]; exact Nat.le_refl _, s.kept, s.hist⟩
theorem StepD.trans {S S1 S2 : Hst} {k q r k' q' r' : Nat} (a : StepD S S1 k q r) (b : StepD S1 S2 k' q' r') : StepD S S2 (k + k') (q + q') (r + r') := by
  obtain ⟨t, e, l⟩ := a.hist
  obtain ⟨t', e', l'⟩ := b.hist
  exact ⟨b.kp.trans a.kp, b.kd.trans a.kd, b.kh.trans a.kh, b.kw.trans a.kw, b.ks.trans a.ks, b.kk.trans a.kk, b.up.trans a.up, fun i => by have := a.wait i; have := b.wait i; omega, fun i => by have := a.kept i; have := b.kept i; omega, t ++ t', by rw [e', e, List.append_assoc], by rw [List.length_append]; omega⟩
theorem StepD.le {S S1 : Hst} {k q r k' q' r' : Nat} (a : StepD S S1 k q r) (hk : k ≤ k') (hq : q ≤ q') (hr : r ≤ r') : StepD S S1 k' q' r' := by
  obtain ⟨t, e, l⟩ := a.hist
  exact ⟨a.kp, a.kd, a.kh, a.kw, a.ks, a.kk, a.up, fun i => by have := a.wait i; omega, fun i => by have := a.kept i; omega, t, e, by omega⟩
theorem StepD.len {S S1 : Hst} {k q r : Nat} (a : StepD S S1 k q r) : S1.hist.length ≤ S.hist.length + k := by
  obtain ⟨t, e, l⟩ := a.hist
  rw [e, List.length_append]; omega
theorem StepD.grow {S S1 : Hst} {k q r : Nat} (a : StepD S S1 k q r) : S.hist.length ≤ S1.hist.length := by
  obtain ⟨t, e, l⟩ := a.hist
  rw [e, List.length_append]; omega
theorem Ful.stepD {T : Tr} {par : Nat → Nat} {S S' : Hst} {k q r : Nat} (f : Ful T par S) (s : StepD S S' k q r) : Ful T par S' :=
  ⟨by rw [s.kp]; exact f.p, by rw [s.kd, s.up]; exact f.d, by rw [s.kh]; exact f.h, by rw [s.kw, s.ks]; exact f.w, by rw [s.kk]; exact f.k, by rw [s.kp, s.kd, s.kh, s.kw, s.ks, s.kk]; exact f.sm⟩
section
variable {T : Tr} {par ht lv sz : Nat → Nat} {S : Hst}
theorem push_all {α : Type} (e : α → Ev) : ∀ (ps : List α) (S : Hst), S.hist.length + ps.length ≤ lim → ps.foldlM (fun S p => pushH (e p) S) S = some { S with hist := S.hist ++ ps.map e }
  | [], S, _ => by simp
  | p :: r, S, h => by
    rw [List.length_cons] at h
    rw [List.foldlM_cons]
    have : pushH (e p) S = some { S with hist := S.hist ++ [e p] } := if_pos (by omega)
    rw [this]
    show r.foldlM _ _ = _
    rw [push_all e r _ (by show (S.hist ++ [e p]).length + r.length ≤ lim; rw [List.length_append, List.length_singleton]; omega)]
    simp
/-- what one worker's lost letters make of the house -/
def lostS (i : Nat) (S : Hst) : Hst := if S.here i then S else { S with hist := S.hist ++ (S.wait i).map (fun p => .three "lost" i p.1), wait := set1 S.wait i [] }
theorem loseOne_eq (f : Ful T par S) {i : Nat} (hi : i < T.n) (hw : T.wk i = true) (hl : S.hist.length + (S.wait i).length < lim) : loseOne T i S = some (lostS i S) := by
  unfold loseOne lostS
  rw [if_pos ⟨(f.w i hi hw).1, f.h i hi, by omega⟩]
  cases S.here i with
  | true => rfl
  | false =>
    rw [if_neg (by decide), if_neg (by decide), push_all _ _ _ (by omega), Option.bind_some]
    unfold freshW
    rw [if_pos ⟨hi, Nat.lt_trans f.sm.2.2.2.1 lim_big⟩]
    rw [addK_mem (show i ∈ S.kw from (f.w i hi hw).1)]
theorem lostS_step (i : Nat) : StepD S (lostS i S) (S.wait i).length 0 0 := by
  unfold lostS
  split
  · exact (StepD.refl S).le (Nat.zero_le _) (Nat.le_refl _) (Nat.le_refl _)
  · refine ⟨rfl, rfl, rfl, rfl, rfl, rfl, rfl, fun j => ?_, fun _ => Nat.le_refl _, _, rfl, by simp⟩
    show (set1 S.wait i [] j).length ≤ _
    unfold set1
    split
    · simp
    · omega
theorem lose_fold (c : Nat) : ∀ (is : List Nat), (∀ i ∈ is, i < T.n ∧ T.wk i = true) → ∀ S, Ful T par S → (∀ j, (S.wait j).length ≤ c) → S.hist.length + is.length * c < lim →
    is.foldlM (fun S i => loseOne T i S) S = some (is.foldl (fun S i => lostS i S) S) ∧ StepD S (is.foldl (fun S i => lostS i S) S) (is.length * c) 0 0
  | [], _, S, _, _, _ => ⟨rfl, by simpa using StepD.refl S⟩
  | i :: r, h, S, f, hc, hl => by
    obtain ⟨hi, hw⟩ := h i (List.mem_cons_self ..)
    have hci := hc i
    rw [List.length_cons, Nat.succ_mul] at hl ⊢
    have e1 := loseOne_eq f hi hw (by omega)
    have s1 := (lostS_step (S := S) i)
    have s1' := s1.le hci (Nat.le_refl _) (Nat.le_refl _)
    obtain ⟨e2', s2⟩ := lose_fold c r (fun j hj => h j (List.mem_cons_of_mem _ hj)) (lostS i S) (f.stepD s1) (fun j => by have := s1.wait j; have := hc j; omega) (by have := s1'.len; omega)
    refine ⟨?_, (s1'.trans s2).le (by omega) (by omega) (by omega)⟩
    rw [List.foldlM_cons, e1]
    exact e2'
def lostAll (S : Hst) : Hst := S.kw.foldl (fun S i => lostS i S) S
theorem lose_tot (f : Ful T par S) (hkw : ∀ i ∈ S.kw, i < T.n ∧ T.wk i = true) {c : Nat} (hc : ∀ j, (S.wait j).length ≤ c) (hl : S.hist.length + 100 * c < lim) : loseS T S = some (lostAll S) ∧ StepD S (lostAll S) (100 * c) 0 0 := by
  have h100 := f.sm.2.2.2.1
  have hm : S.kw.length * c ≤ 100 * c := Nat.mul_le_mul_right c (by omega)
  obtain ⟨e, s⟩ := lose_fold (T := T) (par := par) c S.kw hkw S f hc (by omega)
  refine ⟨?_, s.le hm (Nat.le_refl _) (Nat.le_refl _)⟩
  unfold loseS
  rw [if_pos (Nat.lt_trans h100 lim_big)]
  exact e
/-- only workers' letters are kept -/
def Wkw (T : Tr) (S : Hst) : Prop := ∀ i ∈ S.kw, i < T.n ∧ T.wk i = true
theorem send_tot (f : Ful T par S) {i : Nat} (hi : i < T.n) (hw : T.wk i = true) (l : Ltr) (hc : (S.wait i).length < 1000) (hl : S.hist.length + 1 < lim) : ∃ S', sendS i l S = some S' ∧ StepD S S' 1 0 1 ∧ S' = { S with sent := S.sent + 1, wait := set1 S.wait i (S.wait i ++ [(S.sent + 1, l)]), hist := S.hist ++ [.sent i (S.sent + 1) l] } := by
  have : (1000 : Nat) < lim := by decide
  refine ⟨_, ?_, ?_, rfl⟩
  · unfold sendS
    rw [if_pos ⟨(f.w i hi hw).1, by omega⟩]
    exact if_pos (show S.hist.length < lim by omega)
  · refine ⟨rfl, rfl, rfl, rfl, rfl, rfl, rfl, fun j => ?_, fun _ => Nat.le_refl _, [.sent i (S.sent + 1) l], rfl, Nat.le_refl _⟩
    show (set1 S.wait i _ j).length ≤ _
    unfold set1
    split
    · rename_i e; subst e; simp
    · omega
theorem fail_tot (t : Tree T par ht lv sz) (f : Ful T par S) (hkw : Wkw T S) {i c : Nat} (hi : i < T.n) (hc : ∀ j, (S.wait j).length ≤ c) (hk : ∀ j, (S.kept j).length + 8 < 900) (hl : S.hist.length + 2700 + 100 * c < lim) :
    ∃ S1, fallS T 20 i { S with hour := S.hour + 1 } = some S1 ∧ failS T i S = some (lostAll S1) ∧ StepD S (lostAll S1) (2700 + 100 * c) 8 0 := by
  have l8 := t.lv8 i hi
  have f0 : Ful T par { S with hour := S.hour + 1 } := ⟨f.p, f.d, f.h, f.w, f.k, f.sm⟩
  obtain ⟨S1, e1, s1⟩ := fall_tot t 20 i { S with hour := S.hour + 1 } hi (by omega) f0 (show S.hist.length + (lv i + 1) * 300 < lim by omega) (fun j => by have := hk j; show (S.kept j).length + lv i < 900; omega)
  have s1d : StepD S S1 2700 8 0 := by
    have := s1.d.le (show (lv i + 1) * 300 ≤ 2700 by omega) l8 (Nat.le_refl 0)
    exact ⟨this.kp, this.kd, this.kh, this.kw, this.ks, this.kk, this.up, this.wait, this.kept, this.hist⟩
  obtain ⟨e2', s2⟩ := lose_tot (f0.step s1) (by rw [s1.kw]; exact hkw) (c := c) (fun j => by rw [s1.wait]; exact hc j) (by have := s1d.len; omega)
  refine ⟨S1, e1, ?_, (s1d.trans s2).le (by omega) (by omega) (by omega)⟩
  unfold failS
  rw [if_pos (f.p i hi), e1]
  exact e2'
theorem workOn_tot (t : Tree T par ht lv sz) (f : Ful T par S) {i : Nat} (hi : i < T.n) (hw : T.wk i = true) (i0 : 0 < i) (l : Ltr) (hk : ∀ j, (S.kept j).length + 8 < 900) (hl : S.hist.length + 2701 < lim) : ∃ S1, workOnS T i l S = some S1 ∧ Step S S1 2701 8 := by
  have l8 := t.lv8 i hi
  cases l with
  | add k =>
    obtain ⟨S1, e1, s1⟩ := sum_tot f hi hw (S.sum i + k)
    refine ⟨S1, ?_, s1.le (Nat.zero_le _) (Nat.zero_le _)⟩
    show (if i ∈ S.ks then putSum T i (S.sum i + k) S else none) = _
    rw [if_pos (f.w i hi hw).2]
    exact e1
  | fault =>
    obtain ⟨S1, e1, s1⟩ := fall_tot t 20 i S hi (by omega) f (by omega) (fun j => by have := hk j; omega)
    exact ⟨S1, e1, s1.le (by omega) l8⟩
  | leave =>
    obtain ⟨S1, e1, s1⟩ := go_tot f hi (show S.hist.length < lim by omega) "leaves"
    by_cases ha : T.again i = ("always" : Str)
    · obtain ⟨S2, e2', s2⟩ := follow_tot t hi i0 (f.step s1) (by have := s1.len; omega) (fun j => by have := s1.kept j; have := hk j; omega)
      refine ⟨S2, ?_, (s1.trans s2).le (by omega) (by omega)⟩
      show (goS T "leaves" i S).bind _ = _
      rw [e1, Option.bind_some, if_pos ha]
      exact e2'
    · refine ⟨S1, ?_, s1.le (by omega) (Nat.zero_le _)⟩
      show (goS T "leaves" i S).bind _ = _
      rw [e1, Option.bind_some, if_neg ha]
theorem work_tot (t : Tree T par ht lv sz) (f : Ful T par S) (hkw : Wkw T S) {i c : Nat} {p : Int × Ltr} {r : List (Int × Ltr)} (hi : i < T.n) (hw : T.wk i = true) (i0 : 0 < i) (hp : S.wait i = p :: r) (hc : ∀ j, (S.wait j).length ≤ c) (hk : ∀ j, (S.kept j).length + 8 < 900) (hl : S.hist.length + 2703 + 100 * c < lim) :
    ∃ S1, workOnS T i p.2 { S with hour := S.hour + 1, wait := set1 S.wait i r, hist := S.hist ++ [.three "works" i p.1] } = some S1 ∧ workS T i S = some (lostAll S1) ∧ StepD S (lostAll S1) (2703 + 100 * c) 8 0 := by
  have f0 : Ful T par { S with hour := S.hour + 1, wait := set1 S.wait i r, hist := S.hist ++ [.three "works" i p.1] } := ⟨f.p, f.d, f.h, f.w, f.k, f.sm⟩
  have w0 : ∀ j, (set1 S.wait i r j).length ≤ (S.wait j).length := fun j => by
    unfold set1
    split
    · rename_i e; subst e; rw [hp, List.length_cons]; omega
    · omega
  obtain ⟨S1, e1, s1⟩ := workOn_tot t f0 hi hw i0 p.2 hk (by show (S.hist ++ [Ev.three "works" i p.1]).length + 2701 < lim; rw [List.length_append, List.length_singleton]; omega)
  have s1d : StepD S S1 2702 8 0 := by
    obtain ⟨tt, e, l⟩ := s1.hist
    exact ⟨s1.kp, s1.kd, s1.kh, s1.kw, s1.ks, s1.kk, s1.up, fun j => by rw [s1.wait]; exact w0 j, s1.kept, [Ev.three "works" i p.1] ++ tt, by rw [e, List.append_assoc], by rw [List.length_append, List.length_singleton]; omega⟩
  obtain ⟨e2', s2⟩ := lose_tot (f0.step s1) (by rw [s1.kw]; exact hkw) (c := c) (fun j => by rw [s1.wait]; exact Nat.le_trans (w0 j) (hc j)) (by have := s1d.len; omega)
  refine ⟨S1, e1, ?_, (s1d.trans s2).le (by omega) (by omega) (by omega)⟩
  unfold workS
  rw [if_pos ⟨(f.w i hi hw).1, f.p i hi, hw⟩, hp]
  show (pushH (.three "works" i p.1) { S with hour := S.hour + 1, wait := set1 S.wait i r }).bind _ = _
  have : pushH (.three "works" i p.1) { S with hour := S.hour + 1, wait := set1 S.wait i r } = some { S with hour := S.hour + 1, wait := set1 S.wait i r, hist := S.hist ++ [.three "works" i p.1] } := if_pos (show S.hist.length < lim by omega)
  rw [this, Option.bind_some, e1]
  exact e2'
end
end A

set_option Elab.async false
set_option linter.all false
set_option maxRecDepth 100000
set_option maxHeartbeats 4000000
/-! The house made: what stands behind taking in and beginning. -/
namespace A
open PySem PySem.Spec PyProof.Rows L2 Pd Q
/-- the parts in the order of the plan -/
structure Pre (T : Tr) (par ht : Nat → Nat) (pre : Nat → List Nat) : Prop where
  eq : ∀ i, i < T.n → pre i = i :: (T.kids i).flatMap pre
  lt : ∀ i, i < T.n → ∀ j ∈ pre i, j < T.n
  kid : ∀ i, i < T.n → ∀ j ∈ T.kids i, j < T.n ∧ par j = i ∧ ht j < ht i
theorem addK_new {is : List Nat} {i : Nat} (h : i ∉ is) : addK is i = is ++ [i] := if_neg h
structure Took (T : Tr) (par : Nat → Nat) (S S' : Hst) (p d : List Nat) : Prop where
  kp : S'.kp = S.kp ++ p
  kd : S'.kd = S.kd ++ d
  kw : S'.kw = S.kw ++ p.filter T.wk
  wait : S'.wait = fun _ => []
  up : ∀ j, S'.up j = if j ∈ d then par j else S.up j
  kh : S'.kh = S.kh
  ks : S'.ks = S.ks
  kk : S'.kk = S.kk
  here : S'.here = S.here
  sum : S'.sum = S.sum
  kept : S'.kept = S.kept
  hour : S'.hour = S.hour
  sent : S'.sent = S.sent
  hist : S'.hist = S.hist
section
variable {T : Tr} {par ht : Nat → Nat} {pre : Nat → List Nat}
theorem Took.trans {S S1 S2 : Hst} {p d p' d' : List Nat} (a : Took T par S S1 p d) (b : Took T par S1 S2 p' d') : Took T par S S2 (p ++ p') (d ++ d') :=
  ⟨by rw [b.kp, a.kp, List.append_assoc], by rw [b.kd, a.kd, List.append_assoc], by rw [b.kw, a.kw, List.filter_append, List.append_assoc], b.wait, fun j => by
    rw [b.up, a.up]
    by_cases h1 : j ∈ d' <;> by_cases h2 : j ∈ d <;> simp [h1, h2],
    b.kh.trans a.kh, b.ks.trans a.ks, b.kk.trans a.kk, b.here.trans a.here, b.sum.trans a.sum, b.kept.trans a.kept, b.hour.trans a.hour, b.sent.trans a.sent, b.hist.trans a.hist⟩
theorem take_ok (r : Pre T par ht pre) : ∀ (n i : Nat) (S : Hst), i < T.n → ht i + 1 ≤ n → (pre i).Nodup → (∀ j ∈ pre i, j ∉ S.kp ∧ j ∉ S.kw) → (∀ j ∈ (pre i).tail, j ∉ S.kd) → S.wait = (fun _ => []) → S.kp.length + (pre i).length < lim → S.kd.length + (pre i).tail.length < lim → S.kw.length + (pre i).length < lim →
    ∃ S', takeS T n i S = some S' ∧ Took T par S S' (pre i) (pre i).tail
  | 0, i, S, hi, hn, nd, hk, hd, hw, l1, l2, l3 => by omega
  | n + 1, i, S, hi, hn, nd, hk, hd, hw, l1, l2, l3 => by
    have he := r.eq i hi
    rw [he] at nd hk hd l1 l2 l3 ⊢
    rw [List.tail_cons] at hd l2 ⊢
    rw [List.length_cons] at l1 l3
    obtain ⟨nd1, nd2⟩ := List.nodup_cons.mp nd
    have hi0 := hk i (List.mem_cons_self ..)
    -- the part itself
    obtain ⟨S1, e1, k1⟩ : ∃ S1, ((putPart T i S).bind fun S => if T.wk i then freshW T i S else some S) = some S1 ∧ Took T par S S1 [i] [] := by
      unfold putPart
      rw [if_pos ⟨hi, by omega⟩, Option.bind_some]
      cases hwk : T.wk i with
      | true =>
        rw [if_pos rfl]
        unfold freshW
        refine ⟨_, if_pos ⟨hi, by show S.kw.length < lim; omega⟩, addK_new hi0.1, by simp, ?_, ?_, fun j => by simp, rfl, rfl, rfl, rfl, rfl, rfl, rfl, rfl, rfl⟩
        · show addK S.kw i = _
          rw [addK_new hi0.2, List.filter_cons, hwk, if_pos rfl]
          rfl
        · show set1 S.wait i [] = _
          rw [hw]
          funext j
          unfold set1
          split <;> rfl
      | false =>
        rw [if_neg (by decide)]
        refine ⟨_, rfl, addK_new hi0.1, by simp, ?_, hw, fun j => by simp, rfl, rfl, rfl, rfl, rfl, rfl, rfl, rfl, rfl⟩
        show S.kw = _
        simp [List.filter_cons, hwk]
    -- what is in it
    have key : ∀ (js : List Nat), (∀ j ∈ js, j ∈ T.kids i) → ∀ S : Hst, (js.flatMap pre).Nodup → (∀ j ∈ js.flatMap pre, j ∉ S.kp ∧ j ∉ S.kw ∧ j ∉ S.kd) → S.wait = (fun _ => []) → S.kp.length + (js.flatMap pre).length < lim → S.kd.length + (js.flatMap pre).length < lim → S.kw.length + (js.flatMap pre).length < lim →
        ∃ S', js.foldlM (fun S j => (putUp T j i S).bind (takeS T n j)) S = some S' ∧ Took T par S S' (js.flatMap pre) (js.flatMap pre) := by
      intro js
      induction js with
      | nil => intro _ S _ _ hw _ _ _; exact ⟨S, rfl, by simp, by simp, by simp, hw, fun j => by simp, rfl, rfl, rfl, rfl, rfl, rfl, rfl, rfl, rfl⟩
      | cons j js ih =>
        intro hjs S nd hk hw l1 l2 l3
        obtain ⟨q1, q2, q3⟩ := r.kid i hi j (hjs j (List.mem_cons_self ..))
        rw [List.flatMap_cons] at nd hk l1 l2 l3 ⊢
        rw [List.length_append] at l1 l2 l3
        obtain ⟨na, nb, nc⟩ := List.nodup_append.mp nd
        have hej := r.eq j q1
        have hjm : j ∈ pre j := by rw [hej]; exact List.mem_cons_self ..
        have hj0 := hk j (List.mem_append_left _ hjm)
        have lj : 1 ≤ (pre j).length := by rw [hej]; simp
        have e0 : putUp T j i S = some { S with kd := S.kd ++ [j], up := set1 S.up j i } := by
          unfold putUp
          rw [if_pos ⟨q1, by omega⟩, addK_new hj0.2.2]
        obtain ⟨S2, e2', k2⟩ := take_ok r n j { S with kd := S.kd ++ [j], up := set1 S.up j i } q1 (by omega) na (fun x hx => ⟨(hk x (List.mem_append_left _ hx)).1, (hk x (List.mem_append_left _ hx)).2.1⟩)
          (fun x hx => by
            have hx' : x ∈ pre j := List.mem_of_mem_tail hx
            show x ∉ S.kd ++ [j]
            rw [List.mem_append, List.mem_singleton]
            rintro (h | h)
            · exact (hk x (List.mem_append_left _ hx')).2.2 h
            · subst h
              rw [hej] at na hx
              exact (List.nodup_cons.mp na).1 (by simpa using hx)) hw (show S.kp.length + (pre j).length < lim by omega)
          (by
            show (S.kd ++ [j]).length + (pre j).tail.length < lim
            rw [List.length_append, List.length_singleton, List.length_tail]
            omega) (show S.kw.length + (pre j).length < lim by omega)
        have k02 : Took T par S S2 (pre j) (pre j) := by
          refine ⟨k2.kp, ?_, k2.kw, k2.wait, fun x => ?_, k2.kh, k2.ks, k2.kk, k2.here, k2.sum, k2.kept, k2.hour, k2.sent, k2.hist⟩
          · rw [k2.kd]
            show S.kd ++ [j] ++ (pre j).tail = S.kd ++ pre j
            rw [hej]; simp
          · rw [k2.up]
            show (if x ∈ (pre j).tail then par x else set1 S.up j i x) = _
            rw [hej, List.tail_cons]
            by_cases hx : x = j
            · subst hx
              have : x ∉ (T.kids x).flatMap pre := by rw [hej] at na; exact (List.nodup_cons.mp na).1
              simp [this, set1, q2]
            · by_cases h2 : x ∈ (T.kids j).flatMap pre <;> simp [h2, hx, set1]
        obtain ⟨S3, e3, k3⟩ := ih (fun x hx => hjs x (List.mem_cons_of_mem _ hx)) S2 nb (fun x hx => by
          have hx0 := hk x (List.mem_append_right _ hx)
          have hxp : x ∉ pre j := fun h => nc x h x hx rfl
          rw [k02.kp, k02.kw, k02.kd]
          refine ⟨?_, ?_, ?_⟩ <;> rw [List.mem_append]
          · exact fun h => h.elim hx0.1 hxp
          · exact fun h => h.elim hx0.2.1 fun h => hxp (List.mem_filter.mp h).1
          · exact fun h => h.elim hx0.2.2 hxp) k02.wait (by rw [k02.kp, List.length_append]; omega) (by rw [k02.kd, List.length_append]; omega) (by rw [k02.kw, List.length_append]; have := List.length_filter_le T.wk (pre j); omega)
        refine ⟨S3, ?_, k02.trans k3⟩
        rw [List.foldlM_cons, e0, Option.bind_some]
        rw [e2']
        exact e3
    obtain ⟨S2, e2', k2⟩ := key (T.kids i) (fun _ h => h) S1 nd2 (fun j hj => by
      have h0 := hk j (List.mem_cons_of_mem _ hj)
      have hd0 := hd j hj
      have hji : j ≠ i := fun e => nd1 (e ▸ hj)
      rw [k1.kp, k1.kw, k1.kd]
      refine ⟨?_, ?_, by simpa using hd0⟩ <;> rw [List.mem_append]
      · rintro (h | h)
        · exact h0.1 h
        · exact hji (List.mem_singleton.mp h)
      · rintro (h | h)
        · exact h0.2 h
        · exact hji (List.mem_singleton.mp (List.mem_filter.mp h).1)) k1.wait (by rw [k1.kp, List.length_append, List.length_singleton]; omega) (by rw [k1.kd, List.append_nil]; exact l2) (by rw [k1.kw, List.length_append]; have := List.length_filter_le T.wk [i]; rw [List.length_singleton] at this; omega)
    refine ⟨S2, ?_, by simpa using k1.trans k2⟩
    have : takeS T (n + 1) i S = ((putPart T i S).bind fun S => if T.wk i then freshW T i S else some S).bind fun S => (T.kids i).foldlM (fun S j => (putUp T j i S).bind (takeS T n j)) S := by
      show (putPart T i S).bind _ = _
      rw [Option.bind_assoc]
    rw [this, e1]
    exact e2'
end
end A

set_option Elab.async false
set_option linter.all false
set_option maxRecDepth 100000
set_option maxHeartbeats 4000000
/-! The house made: begun. -/
namespace A
open PySem PySem.Spec PyProof.Rows L2 Pd Q
structure Begun (T : Tr) (S S' : Hst) (p : List Nat) : Prop where
  kh : S'.kh = S.kh ++ p
  ks : S'.ks = S.ks ++ p.filter T.wk
  kk : S'.kk = S.kk ++ p.filter (fun i => !T.wk i)
  here : ∀ j, S'.here j = if j ∈ p then true else S.here j
  sum : S'.sum = fun _ => 0
  kept : S'.kept = fun _ => []
  hist : S'.hist = S.hist ++ p.map fun i => .two "begins" i
  kp : S'.kp = S.kp
  kd : S'.kd = S.kd
  kw : S'.kw = S.kw
  wait : S'.wait = S.wait
  up : S'.up = S.up
  hour : S'.hour = S.hour
  sent : S'.sent = S.sent
section
variable {T : Tr} {par ht : Nat → Nat} {pre : Nat → List Nat}
theorem Begun.trans {S S1 S2 : Hst} {p p' : List Nat} (a : Begun T S S1 p) (b : Begun T S1 S2 p') : Begun T S S2 (p ++ p') :=
  ⟨by rw [b.kh, a.kh, List.append_assoc], by rw [b.ks, a.ks, List.filter_append, List.append_assoc], by rw [b.kk, a.kk, List.filter_append, List.append_assoc], fun j => by
    rw [b.here, a.here]
    by_cases h1 : j ∈ p' <;> by_cases h2 : j ∈ p <;> simp [h1, h2],
    b.sum, b.kept, by rw [b.hist, a.hist, List.map_append, List.append_assoc], b.kp.trans a.kp, b.kd.trans a.kd, b.kw.trans a.kw, b.wait.trans a.wait, b.up.trans a.up, b.hour.trans a.hour, b.sent.trans a.sent⟩
theorem begin_ok (r : Pre T par ht pre) : ∀ (n i : Nat) (S : Hst), i < T.n → ht i + 1 ≤ n → (pre i).Nodup → (∀ j ∈ pre i, j ∉ S.kh ∧ j ∉ S.ks ∧ j ∉ S.kk) → S.sum = (fun _ => 0) → S.kept = (fun _ => []) → S.hist.length + (pre i).length < lim → S.kh.length + (pre i).length < lim → S.ks.length + (pre i).length < lim → S.kk.length + (pre i).length < lim →
    ∃ S', beginS T n i S = some S' ∧ Begun T S S' (pre i)
  | 0, i, S, hi, hn, nd, hk, hs, hp, l1, l2, l3, l4 => by omega
  | n + 1, i, S, hi, hn, nd, hk, hs, hp, l1, l2, l3, l4 => by
    have he := r.eq i hi
    rw [he] at nd hk l1 l2 l3 l4 ⊢
    rw [List.length_cons] at l1 l2 l3 l4
    obtain ⟨nd1, nd2⟩ := List.nodup_cons.mp nd
    obtain ⟨hi0, hi1, hi2⟩ := hk i (List.mem_cons_self ..)
    obtain ⟨S1, e1, k1⟩ : ∃ S1, ((pushH (.two "begins" i) S).bind fun S => (putHere T i true S).bind fun S => if T.wk i then putSum T i 0 S else freshK T i S) = some S1 ∧ Begun T S S1 [i] := by
      unfold pushH
      rw [if_pos (by omega), Option.bind_some]
      unfold putHere
      rw [if_pos ⟨hi, by show S.kh.length < lim; omega⟩, Option.bind_some]
      cases hwk : T.wk i with
      | true =>
        rw [if_pos rfl]
        unfold putSum
        refine ⟨_, if_pos ⟨hi, by show S.ks.length < lim; omega⟩, addK_new hi0, ?_, ?_, fun j => ?_, ?_, hp, rfl, rfl, rfl, rfl, rfl, rfl, rfl, rfl⟩
        · show addK S.ks i = _
          rw [addK_new hi1, List.filter_cons, hwk, if_pos rfl]
          rfl
        · show S.kk = _
          simp [List.filter_cons, hwk]
        · show set1 S.here i true j = _
          unfold set1
          by_cases e : j = i <;> simp [e]
        · show set1 S.sum i 0 = _
          rw [hs]
          funext j
          unfold set1
          split <;> rfl
      | false =>
        rw [if_neg (by decide)]
        unfold freshK
        refine ⟨_, if_pos ⟨hi, by show S.kk.length < lim; omega⟩, addK_new hi0, ?_, ?_, fun j => ?_, hs, ?_, rfl, rfl, rfl, rfl, rfl, rfl, rfl, rfl⟩
        · show S.ks = _
          simp [List.filter_cons, hwk]
        · show addK S.kk i = _
          rw [addK_new hi2, List.filter_cons, hwk]
          rfl
        · show set1 S.here i true j = _
          unfold set1
          by_cases e : j = i <;> simp [e]
        · show set1 S.kept i [] = _
          rw [hp]
          funext j
          unfold set1
          split <;> rfl
    have key : ∀ (js : List Nat), (∀ j ∈ js, j ∈ T.kids i) → ∀ S : Hst, (js.flatMap pre).Nodup → (∀ j ∈ js.flatMap pre, j ∉ S.kh ∧ j ∉ S.ks ∧ j ∉ S.kk) → S.sum = (fun _ => 0) → S.kept = (fun _ => []) → S.hist.length + (js.flatMap pre).length < lim → S.kh.length + (js.flatMap pre).length < lim → S.ks.length + (js.flatMap pre).length < lim → S.kk.length + (js.flatMap pre).length < lim →
        ∃ S', js.foldlM (fun S j => beginS T n j S) S = some S' ∧ Begun T S S' (js.flatMap pre) := by
      intro js
      induction js with
      | nil => intro _ S _ _ hs hp _ _ _ _; exact ⟨S, rfl, by simp, by simp, by simp, fun j => by simp, hs, hp, by simp, rfl, rfl, rfl, rfl, rfl, rfl, rfl⟩
      | cons j js ih =>
        intro hjs S nd hk hs hp l1 l2 l3 l4
        obtain ⟨q1, q2, q3⟩ := r.kid i hi j (hjs j (List.mem_cons_self ..))
        rw [List.flatMap_cons] at nd hk l1 l2 l3 l4 ⊢
        rw [List.length_append] at l1 l2 l3 l4
        obtain ⟨na, nb, nc⟩ := List.nodup_append.mp nd
        obtain ⟨S2, e2', k2⟩ := begin_ok r n j S q1 (by omega) na (fun x hx => hk x (List.mem_append_left _ hx)) hs hp (by omega) (by omega) (by omega) (by omega)
        have f1 := List.length_filter_le T.wk (pre j)
        have f2 := List.length_filter_le (fun i => !T.wk i) (pre j)
        obtain ⟨S3, e3, k3⟩ := ih (fun x hx => hjs x (List.mem_cons_of_mem _ hx)) S2 nb (fun x hx => by
          have hx0 := hk x (List.mem_append_right _ hx)
          have hxp : x ∉ pre j := fun h => nc x h x hx rfl
          rw [k2.kh, k2.ks, k2.kk]
          refine ⟨?_, ?_, ?_⟩ <;> rw [List.mem_append]
          · exact fun h => h.elim hx0.1 hxp
          · exact fun h => h.elim hx0.2.1 fun h => hxp (List.mem_filter.mp h).1
          · exact fun h => h.elim hx0.2.2 fun h => hxp (List.mem_filter.mp h).1) k2.sum k2.kept (by rw [k2.hist, List.length_append, List.length_map]; omega) (by rw [k2.kh, List.length_append]; omega) (by rw [k2.ks, List.length_append]; omega) (by rw [k2.kk, List.length_append]; omega)
        refine ⟨S3, ?_, k2.trans k3⟩
        rw [List.foldlM_cons, e2']
        exact e3
    have f1 := List.length_filter_le T.wk [i]
    have f2 := List.length_filter_le (fun i => !T.wk i) [i]
    rw [List.length_singleton] at f1 f2
    obtain ⟨S2, e2', k2⟩ := key (T.kids i) (fun _ h => h) S1 nd2 (fun j hj => by
      have h0 := hk j (List.mem_cons_of_mem _ hj)
      have hji : j ≠ i := fun e => nd1 (e ▸ hj)
      rw [k1.kh, k1.ks, k1.kk]
      refine ⟨?_, ?_, ?_⟩ <;> rw [List.mem_append]
      · exact fun h => h.elim h0.1 fun h => hji (List.mem_singleton.mp h)
      · exact fun h => h.elim h0.2.1 fun h => hji (List.mem_singleton.mp (List.mem_filter.mp h).1)
      · exact fun h => h.elim h0.2.2 fun h => hji (List.mem_singleton.mp (List.mem_filter.mp h).1)) k1.sum k1.kept (by rw [k1.hist, List.length_append, List.length_map, List.length_singleton]; omega) (by rw [k1.kh, List.length_append, List.length_singleton]; omega) (by rw [k1.ks, List.length_append]; omega) (by rw [k1.kk, List.length_append]; omega)
    refine ⟨S2, ?_, by simpa using k1.trans k2⟩
    have : beginS T (n + 1) i S = ((pushH (.two "begins" i) S).bind fun S => (putHere T i true S).bind fun S => if T.wk i then putSum T i 0 S else freshK T i S).bind fun S => (T.kids i).foldlM (fun S j => beginS T n j S) S := by
      show (pushH _ S).bind _ = _
      rw [Option.bind_assoc]
      congr 1
      funext S'
      rw [Option.bind_assoc]
    rw [this, e1]
    exact e2'
end
end A

set_option Elab.async false
set_option linter.all false
set_option maxRecDepth 100000
set_option maxHeartbeats 4000000
/-! The house made, in full. -/
namespace A
open PySem PySem.Spec PyProof.Rows L2 Pd Q
def nilS : Hst := ⟨[], [], [], [], [], [], fun _ => 0, fun _ => false, fun _ => [], fun _ => 0, fun _ => [], 0, 0, []⟩
/-- the house as it is made -/
structure Born (T : Tr) (par : Nat → Nat) (all : List Nat) (S : Hst) : Prop where
  kp : S.kp = all
  kd : S.kd = all.tail
  kh : S.kh = all
  kw : S.kw = all.filter T.wk
  ks : S.ks = all.filter T.wk
  kk : S.kk = all.filter fun i => !T.wk i
  up : ∀ j ∈ all.tail, S.up j = par j
  here : ∀ j, S.here j = decide (j ∈ all)
  wait : S.wait = fun _ => []
  sum : S.sum = fun _ => 0
  kept : S.kept = fun _ => []
  hour : S.hour = 0
  sent : S.sent = 0
  hist : S.hist = all.map fun i => .two "begins" i
section
variable {T : Tr} {par ht : Nat → Nat} {pre : Nat → List Nat}
theorem born (r : Pre T par ht pre) (t0 : 0 < T.n) (h9 : ht 0 + 1 ≤ 10) (nd : (pre 0).Nodup) (hl : (pre 0).length < 100) : ∃ S1 S2, takeS T 10 0 nilS = some S1 ∧ beginS T 10 0 S1 = some S2 ∧ Born T par (pre 0) S2 := by
  have lb := lim_big
  have tl : (pre 0).tail.length ≤ (pre 0).length := by rw [List.length_tail]; omega
  obtain ⟨S1, e1, k1⟩ := take_ok r 10 0 nilS t0 h9 nd (fun j _ => ⟨by simp [nilS], by simp [nilS]⟩) (fun j _ => by simp [nilS]) rfl (by show 0 + _ < lim; omega) (by show 0 + _ < lim; omega) (by show 0 + _ < lim; omega)
  obtain ⟨S2, e2', k2⟩ := begin_ok r 10 0 S1 t0 h9 nd (fun j _ => by rw [k1.kh, k1.ks, k1.kk]; exact ⟨by simp [nilS], by simp [nilS], by simp [nilS]⟩) k1.sum k1.kept (by rw [k1.hist]; show 0 + _ < lim; omega) (by rw [k1.kh]; show 0 + _ < lim; omega) (by rw [k1.ks]; show 0 + _ < lim; omega) (by rw [k1.kk]; show 0 + _ < lim; omega)
  refine ⟨S1, S2, e1, e2', by rw [k2.kp, k1.kp]; rfl, by rw [k2.kd, k1.kd]; rfl, by rw [k2.kh, k1.kh]; rfl, by rw [k2.kw, k1.kw]; rfl, by rw [k2.ks, k1.ks]; rfl, by rw [k2.kk, k1.kk]; rfl, fun j hj => by rw [k2.up, k1.up, if_pos hj], fun j => ?_, by rw [k2.wait, k1.wait], k2.sum, k2.kept, by rw [k2.hour, k1.hour]; rfl, by rw [k2.sent, k1.sent]; rfl, by rw [k2.hist, k1.hist]; rfl⟩
  rw [k2.here, k1.here]
  show (if j ∈ pre 0 then true else false) = _
  by_cases h : j ∈ pre 0 <;> simp [h]
theorem Born.ful {all : List Nat} {S : Hst} (b : Born T par all S) (hall : ∀ i, i < T.n → i ∈ all) (h0 : ∀ i, i < T.n → 0 < i → i ∈ all.tail) (hl : all.length < 100) : Ful T par S := by
  have f1 := List.length_filter_le T.wk all
  have f2 := List.length_filter_le (fun i => !T.wk i) all
  have f3 : all.tail.length ≤ all.length := by rw [List.length_tail]; omega
  refine ⟨fun i hi => by rw [b.kp]; exact hall i hi, fun i hi i0 => ⟨by rw [b.kd]; exact h0 i hi i0, b.up i (h0 i hi i0)⟩, fun i hi => by rw [b.kh]; exact hall i hi, fun i hi hw => ?_, fun i hi hw => ?_, ?_⟩
  · rw [b.kw, b.ks]
    have : i ∈ all.filter T.wk := List.mem_filter.mpr ⟨hall i hi, hw⟩
    exact ⟨this, this⟩
  · rw [b.kk]
    exact List.mem_filter.mpr ⟨hall i hi, by rw [hw]; rfl⟩
  · rw [b.kp, b.kd, b.kh, b.kw, b.ks, b.kk]
    omega
end
end A

set_option Elab.async false
set_option linter.all false
set_option maxRecDepth 100000
set_option maxHeartbeats 4000000
/-! What the basic steps keep, every deed keeps. -/
namespace A
open PySem PySem.Spec PyProof.Rows L2 Pd Q
structure Closed (T : Tr) (Q : Hst → Prop) : Prop where
  go : ∀ (w : Str) (i : Nat) (S S' : Hst), (w = "ends" ∨ w = "fails" ∨ w = "leaves") → Q S → goS T w i S = some S' → Q S'
  beg : ∀ (i : Nat) (S S1 S2 : Hst), Q S → pushH (.two "begins" i) S = some S1 → putHere T i true S1 = some S2 → Q S2
  sum : ∀ (i : Nat) (b : Int) (S S' : Hst), Q S → putSum T i b S = some S' → Q S'
  frk : ∀ (i : Nat) (S S' : Hst), Q S → freshK T i S = some S' → Q S'
  keep : ∀ (w k : Nat) (S S' : Hst), Q S → keepS T w S = some (k, S') → Q S'
section
variable {T : Tr} {Q : Hst → Prop}
theorem fold_keeps {α : Type} {step : α → Hst → Option Hst} : ∀ (is : List α), (∀ j ∈ is, ∀ S S', Q S → step j S = some S' → Q S') → ∀ S S', Q S → is.foldlM (fun S j => step j S) S = some S' → Q S'
  | [], _, S, S', q, e => by cases e; exact q
  | j :: r, h, S, S', q, e => by
    rw [List.foldlM_cons] at e
    obtain ⟨S1, e1, e2'⟩ := Option.bind_eq_some_iff.mp e
    exact fold_keeps r (fun j hj => h j (List.mem_cons_of_mem _ hj)) S1 S' (h j (List.mem_cons_self ..) S S1 q e1) e2'
theorem end_keeps (c : Closed T Q) : ∀ (n i : Nat) (S S' : Hst), Q S → endS T n i S = some S' → Q S'
  | 0, i, S, S', q, e => by cases e
  | 1, i, S, S', q, e => by cases e
  | n + 2, i, S, S', q, e => by
    have e : ((T.kids i).reverse.foldlM (fun S j => endOne T n j S) S).bind (goS T "ends" i) = some S' := e
    obtain ⟨S1, e1, e2'⟩ := Option.bind_eq_some_iff.mp e
    refine c.go _ i S1 S' (.inl rfl) (fold_keeps _ (fun j _ S S' q e => ?_) S S1 q e1) e2'
    obtain ⟨b, _, e⟩ := Option.bind_eq_some_iff.mp (show (hereS j S).bind (fun b => if b then endS T n j S else some S) = some S' from e)
    cases b with
    | true => exact end_keeps c n j S S' q e
    | false => cases e; exact q
theorem endAll_keeps (c : Closed T Q) {n : Nat} {is : List Nat} {S S' : Hst} (q : Q S) (e : endAllS T n is S = some S') : Q S' := by
  cases n with
  | zero => cases e
  | succ n =>
    refine fold_keeps (step := fun j S => endOne T n j S) is.reverse (fun j _ S S' q e => ?_) S S' q e
    obtain ⟨b, _, e⟩ := Option.bind_eq_some_iff.mp (show (hereS j S).bind (fun b => if b then endS T n j S else some S) = some S' from e)
    cases b with
    | true => exact end_keeps c n j S S' q e
    | false => cases e; exact q
theorem begin_keeps (c : Closed T Q) : ∀ (n i : Nat) (S S' : Hst), Q S → beginS T n i S = some S' → Q S'
  | 0, i, S, S', q, e => by cases e
  | n + 1, i, S, S', q, e => by
    unfold beginS at e
    obtain ⟨S1, e1, e⟩ := Option.bind_eq_some_iff.mp e
    obtain ⟨S2, e2', e⟩ := Option.bind_eq_some_iff.mp e
    obtain ⟨S3, e3, e⟩ := Option.bind_eq_some_iff.mp e
    have q2 := c.beg i S S1 S2 q e1 e2'
    have q3 : Q S3 := by
      split at e3
      · exact c.sum i 0 S2 S3 q2 e3
      · exact c.frk i S2 S3 q2 e3
    exact fold_keeps (T.kids i) (fun j _ S S' q e => begin_keeps c n j S S' q e) S3 S' q3 e
theorem anew_keeps (c : Closed T Q) {w f : Nat} {S S' : Hst} (q : Q S) (e : anewS T w f S = some S') : Q S' := by
  unfold anewS at e
  split at e
  · obtain ⟨S1, e1, e⟩ := Option.bind_eq_some_iff.mp e
    exact fold_keeps _ (fun j _ S S' q e => begin_keeps c 10 j S S' q e) S1 S' (endAll_keeps c q e1) e
  · cases e
theorem followStep_keeps (c : Closed T Q) {fall : Nat → Hst → Option Hst} (hf : ∀ i S S', Q S → fall i S = some S' → Q S') {i : Nat} {S S' : Hst} (q : Q S) (e : followStep T fall i S = some S') : Q S' := by
  unfold followStep at e
  split at e
  · obtain ⟨⟨k, S1⟩, e1, e⟩ := Option.bind_eq_some_iff.mp e
    have q1 := c.keep _ k S S1 q e1
    split at e
    · exact hf _ S1 S' q1 e
    · exact anew_keeps c q1 e
  · cases e
theorem fall_keeps (c : Closed T Q) : ∀ (n i : Nat) (S S' : Hst), Q S → fallS T n i S = some S' → Q S'
  | 0, i, S, S', q, e => by cases e
  | 1, i, S, S', q, e => by cases e
  | n + 2, i, S, S', q, e => by
    have e : fallStep T (followStep T (fallS T n)) i S = some S' := e
    unfold fallStep at e
    obtain ⟨S1, e1, e⟩ := Option.bind_eq_some_iff.mp e
    obtain ⟨S2, e2', e⟩ := Option.bind_eq_some_iff.mp e
    have q2 := endAll_keeps c (c.go _ i S S1 (.inr (.inl rfl)) q e1) e2'
    split at e
    · exact followStep_keeps c (fun i S S' q e => fall_keeps c n i S S' q e) q2 e
    · cases e; exact q2
theorem workOn_keeps (c : Closed T Q) {i : Nat} {l : Ltr} {S S' : Hst} (q : Q S) (e : workOnS T i l S = some S') : Q S' := by
  cases l with
  | add k =>
    have e : (if i ∈ S.ks then putSum T i (S.sum i + k) S else none) = some S' := e
    split at e
    · exact c.sum i _ S S' q e
    · cases e
  | fault => exact fall_keeps c 20 i S S' q e
  | leave =>
    obtain ⟨S1, e1, e⟩ := Option.bind_eq_some_iff.mp (show (goS T "leaves" i S).bind (fun S => if T.again i = ("always" : Str) then followS T 20 i S else some S) = some S' from e)
    have q1 := c.go _ i S S1 (.inr (.inr rfl)) q e1
    split at e
    · exact followStep_keeps c (fun i S S' q e => fall_keeps c 19 i S S' q e) q1 e
    · cases e; exact q1
/-! ### letters once: the history replayed -/
structure Rp where
  here : Nat → Bool
  mail : Nat → List Int
  cnt : Int
def rstep (r : Rp) : Ev → Option Rp
  | .two w i => if w = ("begins" : Str) then some { r with here := set1 r.here i true } else some { r with here := set1 r.here i false }
  | .sent i n _ => if r.here i = true ∧ n = r.cnt + 1 then some { r with mail := set1 r.mail i (r.mail i ++ [n]), cnt := n } else none
  | .three w i n => match r.mail i with
    | [] => none
    | m :: t => if r.here i = decide (w = ("works" : Str)) ∧ m = n then some { r with mail := set1 r.mail i t } else none
def replay (h : List Ev) : Option Rp := h.foldlM rstep ⟨fun _ => false, fun _ => [], 0⟩
theorem replay_snoc {h : List Ev} {e : Ev} {r : Rp} (hr : replay h = some r) : replay (h ++ [e]) = rstep r e := by
  unfold replay at hr ⊢
  rw [List.foldlM_append, hr]
  show ([e].foldlM rstep r) = _
  rw [List.foldlM_cons]
  cases rstep r e <;> rfl
def J (S : Hst) : Prop := replay S.hist = some ⟨S.here, fun i => (S.wait i).map (·.1), S.sent⟩
theorem J.closed : Closed T J where
  go := fun w i S S' hw q e => by
    unfold goS pushH at e
    split at e
    · have e : putHere T i false { S with hist := S.hist ++ [.two w i] } = some S' := e
      unfold putHere at e
      split at e
      · cases e
        show replay (S.hist ++ [.two w i]) = _
        rw [replay_snoc q]
        have : w ≠ ("begins" : Str) := by rcases hw with rfl | rfl | rfl <;> decide
        show (if w = ("begins" : Str) then _ else _) = _
        rw [if_neg this]
      · cases e
    · cases e
  beg := fun i S S1 S2 q e1 e2' => by
    unfold pushH at e1
    split at e1
    · cases e1
      unfold putHere at e2'
      split at e2'
      · cases e2'
        show replay (S.hist ++ [.two "begins" i]) = _
        rw [replay_snoc q]
        rfl
      · cases e2'
    · cases e1
  sum := fun i b S S' q e => by
    unfold putSum at e
    split at e
    · cases e; exact q
    · cases e
  frk := fun i S S' q e => by
    unfold freshK at e
    split at e
    · cases e; exact q
    · cases e
  keep := fun w k S S' q e => by
    unfold keepS at e
    split at e
    · cases e; exact q
    · cases e
end
end A

set_option Elab.async false
set_option linter.all false
set_option maxRecDepth 100000
set_option maxHeartbeats 4000000
/-! Letters once: every deed keeps the replay. -/
namespace A
open PySem PySem.Spec PyProof.Rows L2 Pd Q
section
variable {T : Tr} {S S' : Hst}
theorem mail_set {w : Nat → List (Int × Ltr)} {i : Nat} {xs : List (Int × Ltr)} : (fun j => (set1 w i xs j).map (·.1)) = set1 (fun j => (w j).map (·.1)) i (xs.map (·.1)) := by
  funext j
  unfold set1
  split <;> rfl
theorem J.send {i : Nat} {l : Ltr} (q : J S) (hh : S.here i = true) (e : sendS i l S = some S') : J S' := by
  unfold sendS at e
  split at e
  · unfold pushH at e
    split at e
    · cases e
      show replay (S.hist ++ [.sent i (S.sent + 1) l]) = some ⟨S.here, fun j => (set1 S.wait i (S.wait i ++ [(S.sent + 1, l)]) j).map (·.1), S.sent + 1⟩
      rw [replay_snoc q, mail_set]
      show (if S.here i = true ∧ S.sent + 1 = S.sent + 1 then _ else _) = _
      rw [if_pos ⟨hh, rfl⟩]
      simp
    · cases e
  · cases e
theorem lost_run (i : Nat) : ∀ (ps : List (Int × Ltr)) (r : Rp), r.here i = false → r.mail i = ps.map (·.1) → (ps.map fun p => Ev.three "lost" i p.1).foldlM rstep r = some { r with mail := set1 r.mail i [] }
  | [], r, _, hm => by
    have : set1 r.mail i [] = r.mail := by
      funext j
      unfold set1
      split
      · rename_i e; rw [e, hm]; rfl
      · rfl
    rw [this]
    rfl
  | p :: ps, r, hh, hm => by
    rw [List.map_cons, List.foldlM_cons]
    have e1 : rstep r (.three "lost" i p.1) = some { r with mail := set1 r.mail i (ps.map (·.1)) } := by
      unfold rstep
      simp only [hm, List.map_cons]
      rw [if_pos ⟨by rw [hh]; decide, trivial⟩]
    rw [e1]
    have := lost_run i ps { r with mail := set1 r.mail i (ps.map (·.1)) } hh set1_same
    show (ps.map fun p => Ev.three "lost" i p.1).foldlM rstep _ = _
    rw [this]
    congr 2
    funext j
    unfold set1
    by_cases e : j = i
    · rw [if_pos e, if_pos e]
    · rw [if_neg e, if_neg e]
      show (if j = i then _ else _) = _
      rw [if_neg e]
theorem J.lostS (q : J S) (i : Nat) : J (A.lostS i S) := by
  unfold A.lostS
  cases hh : S.here i with
  | true => rw [if_pos rfl]; exact q
  | false =>
    rw [if_neg (by decide)]
    show replay (S.hist ++ (S.wait i).map fun p => .three "lost" i p.1) = some ⟨S.here, fun j => (set1 S.wait i [] j).map (·.1), S.sent⟩
    unfold J replay at q
    unfold replay
    rw [List.foldlM_append, q]
    show ((S.wait i).map fun p => Ev.three "lost" i p.1).foldlM rstep _ = _
    rw [lost_run i (S.wait i) _ hh rfl, mail_set]
    rfl
theorem lost_fold_keeps {Q : Hst → Prop} (h : ∀ i S, Q S → Q (A.lostS i S)) : ∀ (is : List Nat) (S : Hst), Q S → Q (is.foldl (fun S i => A.lostS i S) S)
  | [], S, q => q
  | i :: r, S, q => lost_fold_keeps h r (A.lostS i S) (h i S q)
theorem J.lostAll (q : J S) : J (A.lostAll S) := lost_fold_keeps (fun i _ q => q.lostS i) _ _ q
theorem lost_fold_eq : ∀ (is : List Nat) (S : Hst), (is.foldl (fun S i => A.lostS i S) S).here = S.here ∧ (∀ j, (is.foldl (fun S i => A.lostS i S) S).wait j = if j ∈ is ∧ S.here j = false then [] else S.wait j) ∧ (is.foldl (fun S i => A.lostS i S) S).sent = S.sent ∧ (is.foldl (fun S i => A.lostS i S) S).kw = S.kw
  | [], S => ⟨rfl, fun j => by simp, rfl, rfl⟩
  | i :: r, S => by
    obtain ⟨h1, h2, h3, h4⟩ := lost_fold_eq r (A.lostS i S)
    have a1 : (A.lostS i S).here = S.here := by unfold A.lostS; split <;> rfl
    have a2 : ∀ j, (A.lostS i S).wait j = if j = i ∧ S.here j = false then [] else S.wait j := fun j => by
      unfold A.lostS
      cases hh : S.here i with
      | true =>
        rw [if_pos rfl]
        by_cases e : j = i
        · subst e; simp [hh]
        · simp [e]
      | false =>
        rw [if_neg (by decide)]
        show set1 S.wait i [] j = _
        unfold set1
        by_cases e : j = i
        · subst e; simp [hh]
        · simp [e]
    refine ⟨h1.trans a1, fun j => ?_, h3.trans (by unfold A.lostS; split <;> rfl), h4.trans (by unfold A.lostS; split <;> rfl)⟩
    show (r.foldl (fun S i => A.lostS i S) (A.lostS i S)).wait j = _
    rw [h2, a1, a2]
    by_cases e : j = i <;> by_cases e2 : j ∈ r <;> by_cases e3 : S.here j = false <;> simp [e, e2, e3] <;> simp_all
/-- between deeds no letter waits for one who is not here -/
def Clear (S : Hst) : Prop := ∀ i ∈ S.kw, S.here i = false → S.wait i = []
theorem lostAll_clear : Clear (A.lostAll S) := fun i hi hh => by
  obtain ⟨h1, h2, h3, h4⟩ := lost_fold_eq S.kw S
  have hi : i ∈ S.kw := by
    have hi : i ∈ (S.kw.foldl (fun S i => A.lostS i S) S).kw := hi
    rw [h4] at hi; exact hi
  have hh : (S.kw.foldl (fun S i => A.lostS i S) S).here i = false := hh
  rw [h1] at hh
  show (S.kw.foldl (fun S i => A.lostS i S) S).wait i = []
  rw [h2, if_pos ⟨hi, hh⟩]
theorem J.fail {i : Nat} {S1 : Hst} (q : J S) (e : fallS T 20 i { S with hour := S.hour + 1 } = some S1) : J (A.lostAll S1) := (fall_keeps J.closed 20 i { S with hour := S.hour + 1 } S1 q e).lostAll
theorem J.work {i : Nat} {p : Int × Ltr} {r : List (Int × Ltr)} {S1 : Hst} (q : J S) (hh : S.here i = true) (hw : S.wait i = p :: r) (e : workOnS T i p.2 { S with hour := S.hour + 1, wait := set1 S.wait i r, hist := S.hist ++ [.three "works" i p.1] } = some S1) : J (A.lostAll S1) := by
  have q1 : J { S with hour := S.hour + 1, wait := set1 S.wait i r, hist := S.hist ++ [.three "works" i p.1] } := by
    show replay (S.hist ++ [.three "works" i p.1]) = some ⟨S.here, fun j => (set1 S.wait i r j).map (·.1), S.sent⟩
    rw [replay_snoc q, mail_set]
    unfold rstep
    simp only [hw, List.map_cons]
    rw [if_pos ⟨by rw [hh]; decide, trivial⟩]
  exact (workOn_keeps J.closed q1 e).lostAll
theorem begins_run : ∀ (is : List Nat) (r : Rp), (is.map fun i => Ev.two "begins" i).foldlM rstep r = some { r with here := fun j => if j ∈ is then true else r.here j }
  | [], r => by simp
  | i :: is, r => by
    rw [List.map_cons, List.foldlM_cons]
    show (is.map fun i => Ev.two "begins" i).foldlM rstep { r with here := set1 r.here i true } = _
    rw [begins_run is]
    congr 2
    funext j
    by_cases e : j = i <;> by_cases e2 : j ∈ is <;> simp [e, e2, set1]
theorem J.born {par : Nat → Nat} {all : List Nat} (b : Born T par all S) : J S := by
  unfold J replay
  rw [b.hist, begins_run, b.wait, b.sent]
  congr 2
  funext j
  rw [b.here]
  by_cases h : j ∈ all <;> simp [h]
theorem Clear.born {par : Nat → Nat} {all : List Nat} (b : Born T par all S) : Clear S := fun i _ _ => by rw [b.wait]
end
end A

set_option Elab.async false
set_option linter.all false
set_option maxRecDepth 100000
set_option maxHeartbeats 4000000
/-! The deeds of a play, one by one: each can be done, or is refused; what lives on. -/
namespace A
open PySem PySem.Spec PyProof.Rows L2 Pd Q
inductive Dd where
  | send (i : Nat) (l : Ltr)
  | work (i : Nat)
  | fail (i : Nat)
def Dd.d (nm : Nat → Str) : Dd → D
  | .send i l => .tuple [.str "send", .str (nm i), l.d]
  | .work i => .tuple [.str "work", .str (nm i)]
  | .fail i => .tuple [.str "fail", .str (nm i)]
def LtrOk : Ltr → Prop
  | .add k => -1000000000 ≤ k ∧ k ≤ 1000000000
  | _ => True
def DdOk (T : Tr) : Dd → Prop
  | .send i l => i < T.n ∧ T.wk i = true ∧ LtrOk l
  | .work i => i < T.n ∧ T.wk i = true
  | .fail i => i < T.n
def doD (T : Tr) (d : Dd) (S : Hst) : Option Hst := match d with
  | .send i l => if S.here 0 = true ∧ S.here i = true then sendS i l S else some S
  | .work i => if S.here 0 = true ∧ S.here i = true ∧ S.wait i ≠ [] then workS T i S else some S
  | .fail i => if S.here 0 = true ∧ S.here i = true then failS T i S else some S
structure Live (T : Tr) (par : Nat → Nat) (S : Hst) (k : Nat) : Prop where
  ful : Ful T par S
  wkw : Wkw T S
  kept : ∀ j, (S.kept j).length ≤ 8 * k
  wait : ∀ j, (S.wait j).length ≤ k
  hist : S.hist.length ≤ 100 + 13200 * k
inductive Done (T : Tr) (S : Hst) : Dd → Hst → Prop where
  | no (d : Dd) : Done T S d S
  | send {i : Nat} {l : Ltr} : S.here 0 = true → S.here i = true → i < T.n → T.wk i = true → Done T S (.send i l) { S with sent := S.sent + 1, wait := set1 S.wait i (S.wait i ++ [(S.sent + 1, l)]), hist := S.hist ++ [.sent i (S.sent + 1) l] }
  | work {i : Nat} {p : Int × Ltr} {r : List (Int × Ltr)} {S1 : Hst} : S.here 0 = true → S.here i = true → i < T.n → T.wk i = true → S.wait i = p :: r →
      workOnS T i p.2 { S with hour := S.hour + 1, wait := set1 S.wait i r, hist := S.hist ++ [.three "works" i p.1] } = some S1 → Done T S (.work i) (lostAll S1)
  | fail {i : Nat} {S1 : Hst} : S.here 0 = true → S.here i = true → i < T.n → fallS T 20 i { S with hour := S.hour + 1 } = some S1 → Done T S (.fail i) (lostAll S1)
section
variable {T : Tr} {par ht lv sz : Nat → Nat} {S S' : Hst} {k : Nat}
theorem Live.mono {k' : Nat} (v : Live T par S k) (h : k ≤ k') : Live T par S k' :=
  ⟨v.ful, v.wkw, fun j => by have := v.kept j; omega, fun j => by have := v.wait j; omega, by have := v.hist; omega⟩
theorem Live.step {a b c : Nat} (v : Live T par S k) (s : StepD S S' a b c) (ha : a ≤ 13200) (hb : b ≤ 8) (hc : c ≤ 1) : Live T par S' (k + 1) :=
  ⟨v.ful.stepD s, by have := v.wkw; unfold Wkw at this ⊢; rw [s.kw]; exact this, fun j => by have := v.kept j; have := s.kept j; omega, fun j => by have := v.wait j; have := s.wait j; omega, by have := v.hist; have := s.len; omega⟩
theorem lim_eq2 : (2000000 : Nat) < lim := by decide
theorem do_tot (t : Tree T par ht lv sz) (w0 : T.wk 0 = false) {d : Dd} (v : Live T par S k) (hk : k ≤ 103) (hd : DdOk T d) :
    ∃ S', doD T d S = some S' ∧ Done T S d S' ∧ Live T par S' (k + 1) ∧ ∃ tl, S'.hist = S.hist ++ tl := by
  have lb := lim_eq2
  have hh := v.hist
  cases d with
  | send i l =>
    obtain ⟨hi, hw, hl⟩ := hd
    by_cases c : S.here 0 = true ∧ S.here i = true
    · obtain ⟨S1, e1, s1, q1⟩ := send_tot v.ful hi hw l (by have := v.wait i; omega) (by omega)
      refine ⟨S1, by unfold doD; simp only []; rw [if_pos c]; exact e1, ?_, v.step s1 (by omega) (by omega) (by omega), ?_⟩
      · rw [q1]; exact .send c.1 c.2 hi hw
      · obtain ⟨tl, e, _⟩ := s1.hist; exact ⟨tl, e⟩
    · exact ⟨S, by unfold doD; simp only []; rw [if_neg c], .no _, v.mono (by omega), [], by simp⟩
  | work i =>
    obtain ⟨hi, hw⟩ := hd
    have i0 : 0 < i := by
      rcases Nat.eq_zero_or_pos i with e | e
      · rw [e, w0] at hw; cases hw
      · exact e
    by_cases c : S.here 0 = true ∧ S.here i = true ∧ S.wait i ≠ []
    · obtain ⟨p, r, hp⟩ : ∃ p r, S.wait i = p :: r := by
        cases hq : S.wait i with
        | nil => exact absurd hq c.2.2
        | cons p r => exact ⟨p, r, rfl⟩
      obtain ⟨S1, e1, e2', s1⟩ := work_tot t v.ful v.wkw hi hw i0 hp v.wait (fun j => by have := v.kept j; omega) (by omega)
      refine ⟨lostAll S1, by unfold doD; simp only []; rw [if_pos c]; exact e2', .work c.1 c.2.1 hi hw hp e1, v.step s1 (by omega) (by omega) (by omega), ?_⟩
      obtain ⟨tl, e, _⟩ := s1.hist; exact ⟨tl, e⟩
    · exact ⟨S, by unfold doD; simp only []; rw [if_neg c], .no _, v.mono (by omega), [], by simp⟩
  | fail i =>
    have hi : i < T.n := hd
    by_cases c : S.here 0 = true ∧ S.here i = true
    · obtain ⟨S1, e1, e2', s1⟩ := fail_tot t v.ful v.wkw hi v.wait (fun j => by have := v.kept j; omega) (by omega)
      refine ⟨lostAll S1, by unfold doD; simp only []; rw [if_pos c]; exact e2', .fail c.1 c.2 hi e1, v.step s1 (by omega) (by omega) (by omega), ?_⟩
      obtain ⟨tl, e, _⟩ := s1.hist; exact ⟨tl, e⟩
    · exact ⟨S, by unfold doD; simp only []; rw [if_neg c], .no _, v.mono (by omega), [], by simp⟩
theorem Done.J {d : Dd} (e : Done T S d S') (q : J S) (c : Clear S) : A.J S' ∧ Clear S' := by
  cases e with
  | no => exact ⟨q, c⟩
  | send h0 hh hi hw =>
    rename_i i l
    refine ⟨?_, fun j hj hf => ?_⟩
    · show replay (S.hist ++ [.sent i (S.sent + 1) l]) = some ⟨S.here, fun j => (set1 S.wait i (S.wait i ++ [(S.sent + 1, l)]) j).map (·.1), S.sent + 1⟩
      rw [replay_snoc q, mail_set]
      unfold rstep
      simp only []
      rw [if_pos ⟨hh, trivial⟩]
      simp
    · have hf : S.here j = false := hf
      show set1 S.wait i _ j = []
      have : j ≠ i := fun e => by rw [e, hh] at hf; cases hf
      rw [set1_ne this]
      exact c j hj hf
  | work h0 hh hi hw hp e1 => exact ⟨q.work hh hp e1, lostAll_clear⟩
  | fail h0 hh hi e1 => exact ⟨q.fail e1, lostAll_clear⟩
end
/-- a play: deeds one behind the other -/
inductive Runs (T : Tr) (par : Nat → Nat) : Hst → Hst → Prop where
  | refl (S : Hst) : Runs T par S S
  | step {S S1 S2 : Hst} {d : Dd} {k : Nat} : Runs T par S S1 → Live T par S1 k → k ≤ 103 → DdOk T d → Done T S1 d S2 → (∃ tl, S2.hist = S1.hist ++ tl) → Runs T par S S2
theorem Runs.trans {T : Tr} {par : Nat → Nat} {S S1 S2 : Hst} (a : Runs T par S S1) (b : Runs T par S1 S2) : Runs T par S S2 := by
  induction b with
  | refl => exact a
  | step _ v hk hd dn g ih => exact .step ih v hk hd dn g
theorem Runs.grow {T : Tr} {par : Nat → Nat} {S S2 : Hst} (a : Runs T par S S2) : ∃ tl, S2.hist = S.hist ++ tl := by
  induction a with
  | refl => exact ⟨[], by simp⟩
  | step _ _ _ _ _ g ih =>
    obtain ⟨t1, e1⟩ := ih
    obtain ⟨t2, e2'⟩ := g
    exact ⟨t1 ++ t2, by rw [e2', e1, List.append_assoc]⟩
theorem Runs.keeps {T : Tr} {par : Nat → Nat} {S S2 : Hst} (Q : Hst → Prop) (h : ∀ S1 d S2 k, Q S1 → Live T par S1 k → k ≤ 103 → DdOk T d → Done T S1 d S2 → Q S2) (a : Runs T par S S2) (q : Q S) : Q S2 := by
  induction a with
  | refl => exact q
  | step _ v hk hd dn g ih => exact h _ _ _ _ ih v hk hd dn
end A

set_option Elab.async false
set_option linter.all false
set_option maxRecDepth 100000
set_option maxHeartbeats 4000000
/-! Comprehensions whose test makes cells. -/
namespace A
open PySem PySem.Spec PyProof.Rows L2 Pd Q
theorem lc_gen {α : Type} {nxt : Nxt} {i : Nat} {ft : FT} {fe : FH} {n : Nat} {δ : Q.Env} {xs : List α} {wt : α → W} {p : α → Bool} {g : α → W} (P : List Cell → Prop) (hst : ∀ M c, P M → n < M.length → P (M.set n c)) (hn : ∀ k M, k ≤ xs.length → P M → nxt k M = some ((xs[k]?).map wt))
    (ht : ∀ x ∈ xs, ∀ M, P M → n < M.length → ∃ t, ft (δ.set i (some (wt x))) M = some (.ok (p x) (M ++ t)) ∧ P (M ++ t)) (he : ∀ x ∈ xs, p x = true → ∀ M, P M → fe (δ.set i (some (wt x))) M = some (.ok (g x) M)) :
    ∀ (r : List α) (k m : Nat) (M : List Cell) (acc : List W), xs.drop k = r → k ≤ xs.length → P M → M[n]? = some (.lst acc) → acc.length + r.length < lim → r.length < m → ∃ M', lcGo nxt i ft fe n δ m k M = some (.ok (.l n) M') ∧ P M' ∧ M'[n]? = some (.lst (acc ++ (r.filter p).map g))
  | [], k, 0, M, acc, _, _, _, _, _, hm => by simp at hm
  | [], k, m + 1, M, acc, hr, hk, hP, hM, hl, hm => by
    have : xs[k]? = none := by
      have := congrArg List.length hr
      simp at this
      exact List.getElem?_eq_none (by omega)
    refine ⟨M, ?_, hP, by simpa using hM⟩
    unfold lcGo
    rw [hn k M hk hP, this]
    rfl
  | w :: r, k, 0, M, acc, _, _, _, _, _, hm => by simp at hm
  | w :: r, k, m + 1, M, acc, hr, hk, hP, hM, hl, hm => by
    have h1 : xs[k]? = some w := by
      have := congrArg (fun l => l[0]?) hr
      simpa [List.getElem?_drop] using this
    have h2 : xs.drop (k + 1) = r := by
      have := congrArg (List.drop 1) hr
      simpa [List.drop_drop, Nat.add_comm] using this
    have hw : w ∈ xs := List.mem_of_getElem? h1
    have hk' : k + 1 ≤ xs.length := (List.getElem?_eq_some_iff.mp h1).1
    have hnl : n < M.length := (List.getElem?_eq_some_iff.mp hM).1
    simp only [List.length_cons] at hl hm
    obtain ⟨t, et, hPt⟩ := ht w hw M hP hnl
    have hMt : (M ++ t)[n]? = some (.lst acc) := by rw [List.getElem?_append_left hnl]; exact hM
    have hnt : n < (M ++ t).length := by rw [List.length_append]; omega
    unfold lcGo
    rw [hn k M hk hP, h1]
    simp only [Option.map_some]
    rw [et, nr_ok, bnd_ok]
    cases hp : p w with
    | true =>
      simp only [if_true]
      rw [he w hw hp _ hPt, nr_ok, bnd_ok]
      have e1 : appW (.l n) (g w) (M ++ t) = some (.ok (.d .none) ((M ++ t).set n (.lst (acc ++ [g w])))) := by
        unfold appW
        simp only [hMt]
        rw [if_pos (by omega)]
      rw [e1, nr_ok, bnd_ok]
      obtain ⟨M', q1, q2, q3⟩ := lc_gen P hst hn ht he r (k + 1) m ((M ++ t).set n (.lst (acc ++ [g w]))) (acc ++ [g w]) h2 hk' (hst _ _ hPt hnt) (by rw [List.getElem?_set_self hnt]) (by simp only [List.length_append, List.length_singleton]; omega) (by omega)
      exact ⟨M', q1, q2, by rw [q3]; simp [List.filter_cons, hp]⟩
    | false =>
      rw [if_neg (by decide)]
      obtain ⟨M', q1, q2, q3⟩ := lc_gen P hst hn ht he r (k + 1) m (M ++ t) acc h2 hk' hPt hMt (by omega) (by omega)
      exact ⟨M', q1, q2, by rw [q3]; simp [List.filter_cons, hp]⟩
/-- a comprehension over data, whose test makes cells -/
theorem lcG_of {α : Type} {fi : FI} {i : Nat} {ft : FT} {fe : FH} {δ : Q.Env} {M : List Cell} {xs : List α} {wt : α → D} {p : α → Bool} {g : α → W} (P : List Cell → Prop) (hst : ∀ M' c, P M' → M.length < M'.length → P (M'.set M.length c)) (hP : P (M ++ [.lst []])) (hl : xs.length < lim) (hf : fi (pview δ) = some (xs.map wt))
    (ht : ∀ d ∈ xs, ∀ M', P M' → M.length < M'.length → ∃ t, ft ((δ.set i none).set i (some (.d (wt d)))) M' = some (.ok (p d) (M' ++ t)) ∧ P (M' ++ t)) (he : ∀ d ∈ xs, p d = true → ∀ M', P M' → fe ((δ.set i none).set i (some (.d (wt d)))) M' = some (.ok (g d) M')) :
    ∃ M', hLc (srcD (iLift fi)) i ft fe δ M = some (.ok (.l M.length) M') ∧ P M' ∧ M'[M.length]? = some (.lst ((xs.filter p).map g)) := by
  unfold hLc srcD iLift
  rw [hf]
  show ∃ M', lcGo (nxtD (xs.map wt)) i ft fe M.length (δ.set i none) lim 0 (M ++ [.lst []]) = _ ∧ _
  obtain ⟨M', q1, q2, q3⟩ := lc_gen (nxt := nxtD (xs.map wt)) (i := i) (ft := ft) (fe := fe) (n := M.length) (δ := δ.set i none) (xs := xs) (wt := fun x => .d (wt x)) (p := p) (g := g) P hst (fun k M' hk _ => by
    unfold nxtD
    by_cases e : k = xs.length
    · rw [if_pos (by simpa using e), List.getElem?_eq_none (by omega)]
      rfl
    · rw [if_neg (by simpa using e), List.getElem?_map, List.getElem?_eq_getElem (by omega)]
      rfl) ht he xs 0 lim (M ++ [.lst []]) [] rfl (Nat.zero_le _) hP (by simp) (by simpa only [List.length_nil, Nat.zero_add] using hl) hl
  exact ⟨M', q1, q2, by simpa using q3⟩
end A

set_option Elab.async false
set_option linter.all false
set_option maxRecDepth 100000
set_option maxHeartbeats 4000000
namespace H10
open K10
open PySem PySem.Spec PyProof.Rows L2 Pd Q A
section
variable {δ : Q.Env} {M M1 : List Cell}
theorem gIf_of {ft : FE} {g g' : GS} {δ : List Sl} {b : Bool} (h : ft δ = some (.bool b)) : gIf ft g g' δ = if b then g δ else g' δ := by
  rw [gIf_eq, h, Option.bind_some, ifK_eq]
theorem gSeq_rt {g g' : GS} {δ : List Sl} {d : D} (h : g δ = some (.rt d)) : gSeq g g' δ = some (.rt d) := by
  rw [gSeq_eq, h, Option.bind_some, seqK_rt]
theorem gRet_of {f : FE} {δ : List Sl} {u : D} (h : f δ = some u) : gRet f δ = some (.rt u) := by
  rw [gRet_eq, h]
  rfl
theorem run_nx {n np : Nat} {g : GQ} {ws : List W} {δ' : Q.Env} {M' : List Cell} (hl : ws.length = np) (e : g (startQ n ws) M = some (.nx δ' M')) : runQ n np g ws M = some (.ok (.d .none) M') := by
  unfold runQ
  rw [if_pos hl, e]
theorem run_rt {n np : Nat} {g : GQ} {ws : List W} {w : W} {M' : List Cell} (hl : ws.length = np) (e : g (startQ n ws) M = some (.rt w M')) : runQ n np g ws M = some (.ok w M') := by
  unfold runQ
  rw [if_pos hl, e]
theorem run_rz {n np : Nat} {g : GQ} {ws : List W} {c : Str} {δ' : Q.Env} {M' : List Cell} (hl : ws.length = np) (e : g (startQ n ws) M = some (.rz c δ' M')) : runQ n np g ws M = some (.rz c M') := by
  unfold runQ
  rw [if_pos hl, e]
theorem seq_rz {g g' : GQ} {c : Str} {δ' : Q.Env} {M1 : List Cell} (e : g δ M = some (.rz c δ' M1)) : sSeq g g' δ M = some (.rz c δ' M1) := by unfold sSeq; rw [e]; rfl
theorem seq_rt {g g' : GQ} {w : W} (e : g δ M = some (.rt w M1)) : sSeq g g' δ M = some (.rt w M1) := by unfold sSeq; rw [e]; rfl
theorem fzd (n : Nat) (M : List Cell) (x : D) : fzW n M (.d x) = some x := by cases n <;> rfl
theorem oAll_d (n : Nat) (M : List Cell) : ∀ ds : List D, oAll (fzW n M) (ds.map .d) = some ds
  | [] => rfl
  | d :: r => by
    show (fzW n M (.d d)).bind (fun b => (oAll (fzW n M) (r.map .d)).bind fun bs => some (b :: bs)) = _
    rw [fzd, oAll_d n M r]
    rfl
theorem fz_cell {n m : Nat} {M : List Cell} {ds : List D} (h : M[n]? = some (.lst (ds.map .d))) : fzW (m + 1) M (.l n) = some (.list ds) := by
  unfold fzW
  simp only [h]
  rw [oAll_d]
  rfl
theorem vw_at {δ : Q.Env} {M : List Cell} {k : Nat} {w : W} {d : D} (h1 : δ[k]? = some (some w)) (h2 : fzW 9 M w = some d) : eVar k (view M δ) = some d := by
  have : (view M δ)[k]? = some (.val d) := by
    unfold view
    rw [List.getElem?_map, h1]
    simp only [Option.map_some, vw1, h2]
  rw [eVar_eq, this]
  rfl
theorem pv_at {k : Nat} {d : D} (h1 : δ[k]? = some (some (.d d))) : (pview δ)[k]? = some (.val d) := by unfold pview; rw [List.getElem?_map, h1]; rfl
theorem pw_at {δ : Q.Env} {k : Nat} {d : D} (h1 : δ[k]? = some (some (.d d))) : eVar k (pview δ) = some d := by
  rw [eVar_eq, pv_at h1]
  rfl
theorem cell_of {g : FHA} {δ : Q.Env} {M M1 : List Cell} {ws : List W} (h : g δ M = some (.ok ws M1)) (hl : ws.length ≤ 1000) : hCell g δ M = some (.ok (.l M1.length) (M1 ++ [.lst ws])) := by
  unfold hCell cellL
  rw [h, bnd_ok, if_pos (Nat.le_trans hl (by decide))]
theorem call_of {F : FHF} {g : FHA} {ws : List W} (hg : g δ M = some (.ok ws M1)) : hCall F g δ M = F ws M1 := by
  unfold hCall
  rw [hg, bnd_ok]
theorem if_no {f : FT} {g : GQ} (e : f δ M = some (.ok false M)) : sIf f g sNil δ M = some (.nx δ M) := by rw [if_of e]; rfl
theorem if_yes {f : FT} {g g' : GQ} (e : f δ M = some (.ok true M)) : sIf f g g' δ M = g δ M := by rw [if_of e]; rfl
theorem if_not {f : FT} {g g' : GQ} (e : f δ M = some (.ok false M)) : sIf f g g' δ M = g' δ M := by rw [if_of e]; rfl
theorem and_no {f g : FT} (e : f δ M = some (.ok false M)) : Q.tAnd f g δ M = some (.ok false M) := by
  unfold Q.tAnd
  rw [e, bnd_ok]
  rfl
theorem and_yes {f g : FT} (e : f δ M = some (.ok true M)) : Q.tAnd f g δ M = g δ M := by
  unfold Q.tAnd
  rw [e, bnd_ok]
  rfl
theorem aCons_of {f : FE} {g : FA} {σ : List Sl} {d : D} {ds : List D} (ha : f σ = some d) (hb : g σ = some ds) : aCons f g σ = some (d :: ds) := by simp [ha, hb]
theorem aNil_of {σ : List Sl} : aNil σ = some [] := rfl
theorem eCall_of {F : List D → Option D} {g : FA} {σ : List Sl} {ds : List D} {d : D} (hg : g σ = some ds) (hF : F ds = some d) : eCall F g σ = some d := by rw [eCall_eq, hg]; exact hF
theorem eTup_of {g : FA} {σ : List Sl} {ds : List D} (hg : g σ = some ds) (hl : ds.length ≤ 100 := by simp) : eTup g σ = some (.tuple ds) := by
  rw [eTup_eq, hg, Option.bind_some, tupK_eq _ (by have := lim_big; omega)]
theorem eLst_of {g : FA} {σ : List Sl} {ds : List D} (hg : g σ = some ds) (hl : ds.length ≤ 100 := by simp) : eLst g σ = some (.list ds) := by
  rw [eLst_eq, hg, Option.bind_some, lstK_eq _ (by have := lim_big; omega)]
theorem lc_step {nxt : Nxt} {i : Nat} {fe : FH} {n k m : Nat} {M2 : List Cell} {acc : List W} {w y : W} (h1 : nxt k M = some (some w)) (h2 : fe (δ.set i (some w)) M = some (.ok y M2)) (h3 : M2[n]? = some (.lst acc)) (h4 : acc.length < lim) :
    lcGo nxt i (fun _ M => some (.ok true M)) fe n δ (m + 1) k M = lcGo nxt i (fun _ M => some (.ok true M)) fe n δ m (k + 1) (M2.set n (.lst (acc ++ [y]))) := by
  have e1 : appW (.l n) y M2 = some (.ok (.d .none) (M2.set n (.lst (acc ++ [y])))) := by
    unfold appW
    simp only [h3]
    rw [if_pos h4]
  unfold lcGo
  rw [h1]
  simp only []
  rw [nr_ok, bnd_ok, if_pos rfl, h2, nr_ok, bnd_ok, e1, nr_ok, bnd_ok]
  cases m <;> rfl
theorem lc_end {nxt : Nxt} {i : Nat} {fe : FH} {n k m : Nat} (h1 : nxt k M = some none) : lcGo nxt i (fun _ M => some (.ok true M)) fe n δ (m + 1) k M = some (.ok (.l n) M) := by
  unfold lcGo
  rw [h1]
theorem mod_at2 (q : Int) {n : Nat} (h : 0 < n) : ∃ a : Nat, q % (n : Int) = (a : Int) ∧ a < n := by
  have h1 := Int.emod_nonneg q (show (n : Int) ≠ 0 by omega)
  have h2 := Int.emod_lt_of_pos q (show (0 : Int) < (n : Int) by omega)
  exact ⟨(q % (n : Int)).toNat, by omega, by omega⟩
theorem hAnd_t {f g : FH} {b : Bool} {M2 : List Cell} (e : f δ M = some (.ok (.d (.bool true)) M1)) (e2 : g δ M1 = some (.ok (.d (.bool b)) M2)) : Q.hAnd f g δ M = some (.ok (.d (.bool b)) M2) := by
  unfold Q.hAnd
  rw [e, bnd_ok]
  exact e2
theorem h2v_of {g : D → D → Option D} {fa fb : FH} {x y : W} {M2 : List Cell} {dx dy : D} {b : Bool} (ha : fa δ M = some (.ok x M1)) (hb : fb δ M1 = some (.ok y M2)) (hx : fzW 9 M2 x = some dx) (hy : fzW 9 M2 y = some dy) (hg : g dx dy = some (.bool b)) : h2v g fa fb δ M = some (.ok (.d (.bool b)) M2) := by
  unfold h2v
  rw [ha, bnd_ok, hb, bnd_ok]
  unfold op2v ofO
  rw [hx, hy, Option.bind_some, Option.bind_some, hg]
  rfl
theorem fit_refl {d : D} (h : fitD d = true) : neD d d = some (.bool false) := by
  rw [neD_of d d h h, PySem.SeqAt.eqv_refl _ (SeqAt.canLay_of_shaped (fit_parts h).2)]
  rfl
theorem tup_of {g : FHA} {ws : List W} {ds : List D} (hg : g δ M = some (.ok ws M)) (hd : datL ws = some ds) (hl : ds.length ≤ 1000) : hTup g δ M = some (.ok (.d (.tuple ds)) M) := by
  unfold hTup
  rw [hg, bnd_ok]
  unfold Q.tupD ofO
  have : (1000 : Nat) ≤ lim := by decide
  simp only [hd, Option.bind_some, if_pos (show ds.length ≤ lim by omega)]
  rfl
end
end H10

set_option Elab.async false
set_option linter.all false
set_option maxRecDepth 100000
set_option maxHeartbeats 4000000
namespace H10
open K10
open PySem PySem.Spec PyProof.Rows L2 Pd Q TL
/-! ### numbers as texts -/
def numT (i : Int) : Str := Str.ofString (toString i)
theorem tl_str (s : String) : tl (Str.ofString s) = s.toList.map Char.toNat := signs_ofString s
theorem tl_nat (n : Nat) : tl (numT (n : Nat)) = numL n := tl_num n
theorem tl_neg (n : Nat) : tl (numT (-((n + 1 : Nat) : Int))) = 45 :: numL (n + 1) := by
  have e : (-((n + 1 : Nat) : Int)) = Int.negSucc n := rfl
  unfold numT
  rw [e, tl_str, show toString (Int.negSucc n) = "-" ++ Nat.repr (n + 1) from rfl, String.toList_append, List.map_append, Nat.toList_repr]
  rfl
theorem numT_inj {i j : Int} (h : numT i = numT j) (hi : i.natAbs < 10 ^ 10) (hj : j.natAbs < 10 ^ 10) : i = j := by
  have h := congrArg tl h
  have no : ∀ n, (45 : Nat) ∉ numL n := fun n => numL_free (.inl (by decide))
  rcases Int.eq_nat_or_neg i with ⟨a, rfl | rfl⟩ <;> rcases Int.eq_nat_or_neg j with ⟨b, rfl | rfl⟩
  · rw [tl_nat, tl_nat] at h
    rw [numL_inj h]
  · cases b with
    | zero => rw [tl_nat] at h; have := numL_inj (h.trans (tl_nat 0)); rw [this]; rfl
    | succ b =>
      rw [tl_nat, tl_neg] at h
      exact absurd (h ▸ List.mem_cons_self) (no a)
  · cases a with
    | zero => rw [tl_nat] at h; have := numL_inj ((tl_nat 0).symm.trans h); rw [← this]; rfl
    | succ a =>
      rw [tl_nat, tl_neg] at h
      exact absurd (h ▸ List.mem_cons_self) (no b)
  · cases a with
    | zero =>
      cases b with
      | zero => rfl
      | succ b =>
        rw [tl_neg] at h
        have h : numL 0 = 45 :: numL (b + 1) := (tl_nat 0).symm.trans h
        exact absurd (h ▸ List.mem_cons_self) (no 0)
    | succ a =>
      cases b with
      | zero =>
        rw [tl_neg] at h
        have h : 45 :: numL (a + 1) = numL 0 := h.trans (tl_nat 0)
        exact absurd (h ▸ List.mem_cons_self) (no 0)
      | succ b =>
        rw [tl_neg, tl_neg] at h
        have := numL_inj (List.cons.inj h).2
        rw [this]
/-- the figures of a number, without its sign -/
def figT (i : Int) : Str := ⟨(numL i.natAbs).toArray⟩
theorem tl_fig (i : Int) : tl (figT i) = numL i.natAbs := rfl
theorem minus_tl : tl ("-" : Str) = [45] := by decide +kernel
theorem cut_minus (i : Int) : Txt.removeprefix (numT i) "-" = figT i := by
  have l1 : ("-" : Str).length = 1 := by decide +kernel
  have no : ∀ n, (45 : Nat) ∉ numL n := fun n => numL_free (.inl (by decide))
  have sub : Builtin.Str.subAt (numT i) "-" 0 = decide ((tl (numT i)).take 1 = [45]) := by
    unfold Builtin.Str.subAt
    rw [Bool.eq_iff_iff]
    simp only [beq_iff_eq, decide_eq_true_eq]
    rw [← Array.toList_inj]
    simp only [Array.toList_extract, List.extract_eq_take_drop, List.drop_zero, Nat.zero_add, Nat.sub_zero]
    rw [l1, show ("-" : Str).cps.toList = [45] from minus_tl]
  rw [StrLaws.removeprefix_eq, sub, l1]
  have pos : ∀ n : Nat, i = (n : Int) → (if (decide (0 + 1 ≤ (numT i).length) && decide ((tl (numT i)).take 1 = [45])) = true then (⟨(((numT i).cps.toList.drop 1).take ((numT i).length - 1)).toArray⟩ : Str) else numT i) = figT i := fun n hn => by
    rw [hn, if_neg]
    · refine ext_tl ?_
      rw [tl_nat, tl_fig]
      rfl
    · simp only [Bool.and_eq_true, decide_eq_true_eq]
      intro h
      have h2 := h.2
      rw [tl_nat] at h2
      exact no n (List.mem_of_mem_take (i := 1) (by rw [h2]; exact List.mem_cons_self))
  rcases Int.eq_nat_or_neg i with ⟨n, e | e⟩
  · exact pos n e
  · cases n with
    | zero => exact pos 0 (by rw [e]; rfl)
    | succ n =>
      have t : tl (numT i) = 45 :: numL (n + 1) := by rw [e]; exact tl_neg n
      have ln : (numT i).length = (numL (n + 1)).length + 1 := by rw [len_tl, t]; rfl
      rw [if_pos]
      · refine ext_tl ?_
        show (((tl (numT i)).drop 1).take ((numT i).length - 1)) = tl (figT i)
        rw [t, ln, tl_fig, e]
        have : (-((n + 1 : Nat) : Int)).natAbs = n + 1 := by omega
        rw [this]
        simp
      · rw [t, ln]
        simp
theorem fig_len {i : Int} (h : i.natAbs < 10 ^ 10) : (figT i).length ≤ 10 := by
  rw [len_tl, tl_fig]
  exact numL_len (by decide) h
theorem num_len {i : Int} (h : i.natAbs < 10 ^ 10) : (numT i).length ≤ 11 := by
  have f := numL_len (k := 10) (by decide) h
  rcases Int.eq_nat_or_neg i with ⟨n, e | e⟩
  · rw [e] at f ⊢
    rw [len_tl, tl_nat]
    exact Nat.le_succ_of_le f
  · cases n with
    | zero =>
      rw [e] at f ⊢
      show (numT ((0 : Nat) : Int)).length ≤ 11
      rw [len_tl, tl_nat]
      exact Nat.le_succ_of_le f
    | succ n =>
      rw [e] at f ⊢
      rw [len_tl, tl_neg, List.length_cons]
      have : (-((n + 1 : Nat) : Int)).natAbs = n + 1 := by omega
      rw [this] at f
      omega
theorem num_reads (i : Int) (h : i.natAbs < 10 ^ 10) : intText? (numT i) = some i := by
  rcases Int.eq_nat_or_neg i with ⟨n, e | e⟩
  · rw [e] at h ⊢
    exact int_num (by have := numL_len (k := 10) (by decide) h; have : (numL n).length ≤ 10 := this; omega)
  · cases n with
    | zero => rw [e]; exact int_num (n := 0) (by decide)
    | succ n =>
      have hl := num_len h
      rw [e] at hl ⊢
      have := intText_neg (x := numT (-((n + 1 : Nat) : Int))) (tl_neg n) (numL_digits _) (numL_ne _) (by omega)
      rw [this, numL_val]
/-! ### _number -/
theorem fig_sok {i : Int} (h : i.natAbs < 10 ^ 10) : SOk (figT i) :=
  ⟨by have := fig_len h; omega, fun c hc => by have := numL_digits i.natAbs c hc; omega⟩
theorem figures_ok (i : Int) (h : i.natAbs < 10 ^ 10) : F__are_figures [.str (figT i)] = some (.bool true) := by
  refine F1 rfl ?_
  unfold g__are_figures
  have hl := fig_len h
  have hs := fig_sok h
  have ne : e2 neD (eVar 0) (eC (.str "")) (startD 2 [.str (figT i)]) = some (.bool true) := by
    refine (e2_of (u := .str (figT i)) rfl (eC_eq _ _)).trans ?_
    have : ¬ figT i = "" := fun e => by
      have := congrArg tl e
      rw [tl_fig] at this
      exact numL_ne _ (this.trans (by decide +kernel))
    rw [neD_ss]
    simp [this]
  have e : lcQ 1 (eC (.bool true)) (eChain leD leD (eC (.str "0")) (eVar 1) (eC (.str "9"))) [.val (.str (figT i)), .un] (Pd.signs (figT i)) = some (.list (((figT i).cps.toList.map fun _ => true).map PyData.bool)) := by
    rw [lcQ_map (fun d => .bool true) (fun d hd => ?_) (by rw [signs_len]; exact hs.lim)]
    · congr 2
      unfold Pd.signs
      rw [List.map_map, List.map_map]
      apply List.map_congr_left
      intro c _
      rfl
    · obtain ⟨c, hc, rfl⟩ := mem_signs hd
      have dg := numL_digits i.natAbs c hc
      have e1 : (Str.ofString "0") = ⟨#[48]⟩ := by decide +kernel
      have e2 : (Str.ofString "9") = ⟨#[57]⟩ := by decide +kernel
      simp [e1, e2, leD_one, dg.1, dg.2]
  have e' : eLc (iSeq (eVar 0)) 1 (eC (.bool true)) (eChain leD leD (eC (.str "0")) (eVar 1) (eC (.str "9"))) (startD 2 [.str (figT i)]) = some (.list (((figT i).cps.toList.map fun _ => true).map PyData.bool)) := by
    show eLc _ 1 _ _ [.val (.str (figT i)), .un] = _
    rw [eLc_eq, iSeq_eq]
    exact e
  have al : eCB allD (aCons (eLc (iSeq (eVar 0)) 1 (eC (.bool true)) (eChain leD leD (eC (.str "0")) (eVar 1) (eC (.str "9")))) aNil) (startD 2 [.str (figT i)]) = some (.bool true) := by
    rw [eCB_eq, aCons_eq, e']
    show allD [.list _] = _
    rw [allD_map]
    simp
  have : eAnd (e2 neD (eVar 0) (eC (.str ""))) (eCB allD (aCons (eLc (iSeq (eVar 0)) 1 (eC (.bool true)) (eChain leD leD (eC (.str "0")) (eVar 1) (eC (.str "9")))) aNil)) (startD 2 [.str (figT i)]) = some (.bool true) := by
    rw [eAnd_eq, ne, Option.bind_some]
    exact al
  rw [gRet_of this]
  rfl
end H10

set_option Elab.async false
set_option linter.all false
set_option maxRecDepth 100000
set_option maxHeartbeats 4000000
namespace H10
open K10
open PySem PySem.Spec PyProof.Rows L2 Pd Q A TL
/-! ### events as they are written -/
inductive TE where
  | two (w n : Str)
  | three (w n : Str) (k : Int)
  | sent (n : Str) (k : Int) (l : Ltr)
def TE.d : TE → D
  | .two w n => .tuple [.str w, .str n]
  | .three w n k => .tuple [.str w, .str n, .int k]
  | .sent n k l => .tuple [.str "sent", .str n, .int k, l.d]
def lw : Ltr → List Str
  | .add k => ["add", numT k]
  | .fault => ["fault"]
  | .leave => ["leave"]
def TE.ws : TE → List Str
  | .two w n => [w, n]
  | .three w n k => [w, n, numT k]
  | .sent n k l => "sent" :: n :: numT k :: lw l
def NmE (n : Str) : Prop := SOk n ∧ nameB (.str n) = true
def TE.Ok : TE → Prop
  | .two w n => w ∈ (["begins", "ends", "fails", "leaves"] : List Str) ∧ NmE n
  | .three w n k => w ∈ (["works", "lost"] : List Str) ∧ NmE n ∧ 1 ≤ k ∧ k ≤ 1000000000
  | .sent n k l => NmE n ∧ 1 ≤ k ∧ k ≤ 1000000000 ∧ LtrOk l
def rowT (e : TE) : Str := Txt.join " " e.ws
section
variable {δ : Q.Env} {M : List Cell}
theorem lenD_lst' (ds : List D) (h : ds.length ≤ 100) : lenD [.list ds] = some (.int (ds.length : Nat)) := by simp
/-! ### numbers -/
theorem number_ok {i low : Int} (h1 : low ≤ i) (h2 : i ≤ 1000000000) (h0 : -1000000000 ≤ low) : F__number [.d (.str (numT i)), .d (.int low)] M = some (.ok (.d (.int i)) M) := by
  have ha : i.natAbs < 10 ^ 10 := by omega
  have hl := fig_len ha
  have hn := num_len ha
  have lb := lim_eq2
  obtain ⟨δ0, hδ0⟩ : ∃ δ0 : Q.Env, δ0 = startQ 4 [.d (.str (numT i)), .d (.int low)] := ⟨_, rfl⟩
  obtain ⟨δ1, hδ1⟩ : ∃ δ1 : Q.Env, δ1 = δ0.set 2 (some (.d (.str (figT i)))) := ⟨_, rfl⟩
  obtain ⟨δ2, hδ2⟩ : ∃ δ2 : Q.Env, δ2 = δ1.set 3 (some (.d (.int i))) := ⟨_, rfl⟩
  have s1 : sSet 2 (lift (e2 cutpD (eVar 0) (eC (.str "-")))) δ0 M = some (.nx δ1 M) := by
    rw [hδ1]
    refine set_of (lift_of ((e2_of (pw_at (d := .str (numT i)) (by rw [hδ0]; rfl)) (eC_eq _ _)).trans ?_))
    show (if _ then _ else _) = _
    rw [if_pos (by omega), cut_minus]
  have v2 : eVar 2 (pview δ1) = some (.str (figT i)) := pw_at (by rw [hδ1, hδ0]; rfl)
  have s2 : sIf (lT (eOr (e2 gtD (eCB lenD (aCons (eVar 2) aNil)) (eC (.int 10))) (eNot (eCall (F__are_figures) (aCons (eVar 2) aNil))))) (sRaise "BadText") sNil δ1 M = some (.nx δ1 M) := by
    refine if_no (lT_of ?_)
    have e1 : e2 gtD (eCB lenD (aCons (eVar 2) aNil)) (eC (.int 10)) (pview δ1) = some (.bool false) := by
      refine (e2_of (u := .int (figT i).length) ?_ (eC_eq _ _)).trans ?_
      · rw [eCB_eq, aCons_of v2 aNil_of, Option.bind_some, lenD_str _ (fig_sok ha).lim]
      · rw [gtD_int, decide_eq_false (by omega)]
    rw [eOr_eq, e1, Option.bind_some]
    show eNot _ _ = _
    rw [eNot_eq, eCall_of (aCons_of v2 aNil_of) (figures_ok i ha)]
    rfl
  have s3 : sSet 3 (lift (eCB intTD (aCons (eVar 0) aNil))) δ1 M = some (.nx δ2 M) := by
    rw [hδ2]
    refine set_of (lift_of ?_)
    rw [eCB_eq, aCons_of (pw_at (d := .str (numT i)) (by rw [hδ1, hδ0]; rfl)) aNil_of, Option.bind_some]
    show (if _ then _ else _) = _
    rw [if_pos (by omega), num_reads i ha]
    rfl
  have v0 : eVar 0 (pview δ2) = some (.str (numT i)) := pw_at (by rw [hδ2, hδ1, hδ0]; rfl)
  have v1 : eVar 1 (pview δ2) = some (.int low) := pw_at (by rw [hδ2, hδ1, hδ0]; rfl)
  have v3 : eVar 3 (pview δ2) = some (.int i) := pw_at (by rw [hδ2, hδ1, hδ0]; rfl)
  have s4 : sIf (lT (eOr (e2 neD (eCB strTD (aCons (eVar 3) aNil)) (eVar 0)) (eNot (eChain leD leD (eVar 1) (eVar 3) (eC (.int 1000000000)))))) (sRaise "BadText") sNil δ2 M = some (.nx δ2 M) := by
    refine if_no (lT_of ?_)
    have st : eCB strTD (aCons (eVar 3) aNil) (pview δ2) = some (.str (numT i)) := by
      rw [eCB_eq, aCons_of v3 aNil_of, Option.bind_some]
      show (if _ then _ else _) = _
      rw [if_pos]
      · rfl
      · have : i.natAbs.log2 < 40 := by
          by_cases z : i.natAbs = 0
          · rw [z]; decide
          · exact (Nat.log2_lt z).mpr (by omega)
        omega
    have e1 : e2 neD (eCB strTD (aCons (eVar 3) aNil)) (eVar 0) (pview δ2) = some (.bool false) := by
      refine (e2_of st v0).trans ?_
      rw [neD_ss]
      simp
    have e2' : eChain leD leD (eVar 1) (eVar 3) (eC (.int 1000000000)) (pview δ2) = some (.bool true) := by
      have a1 : decide (low ≤ i) = true := decide_eq_true h1
      have a2 : decide (i ≤ 1000000000) = true := decide_eq_true h2
      have v9 : eC (.int 1000000000) (pview δ2) = some (.int 1000000000) := eC_eq _ _
      rw [eChain_eq, v1, Option.bind_some, chK_eq, v3, Option.bind_some, chK2_eq, show leD (.int low) (.int i) = some (.bool (decide (low ≤ i))) from rfl, a1, Option.bind_some, chK3_eq, if_pos rfl, v9, Option.bind_some, show leD (.int i) (.int 1000000000) = some (.bool (decide (i ≤ 1000000000))) from rfl, a2]
    rw [eOr_eq, e1, Option.bind_some]
    show eNot _ _ = _
    rw [eNot_eq, e2']
    rfl
  refine run_rt (n := 4) rfl ?_
  rw [← hδ0]
  unfold g__number
  rw [seq_of s1, seq_of s2, seq_of s3, seq_of s4]
  exact ret_of (lift_of v3)
/-! ### letters -/
theorem or_no' {f g : FE} {σ : List Sl} {b : Bool} (h : f σ = some (.bool false)) (h2 : g σ = some (.bool b)) : eOr f g σ = some (.bool b) := by
  rw [eOr_eq, h, Option.bind_some]
  exact h2
theorem and_yes' {f g : FE} {σ : List Sl} {b : Bool} (h : f σ = some (.bool true)) (h2 : g σ = some (.bool b)) : eAnd f g σ = some (.bool b) := by
  rw [eAnd_eq, h, Option.bind_some]
  exact h2
theorem and_no' {f g : FE} {σ : List Sl} (h : f σ = some (.bool false)) : eAnd f g σ = some (.bool false) := by
  rw [eAnd_eq, h, Option.bind_some]
  rfl
theorem not_of' {f : FE} {σ : List Sl} {b : Bool} (h : f σ = some (.bool b)) : eNot f σ = some (.bool (!b)) := by
  rw [eNot_eq, h]
  rfl
theorem len_of' {f : FE} {σ : List Sl} {ds : List D} (h : f σ = some (.list ds)) (hl : ds.length ≤ 100) : eCB lenD (aCons f aNil) σ = some (.int (ds.length : Nat)) := by
  rw [eCB_eq, aCons_of h aNil_of, Option.bind_some, lenD_lst' _ hl]
theorem letter_ok {l : Ltr} (h : LtrOk l) : F__letter [.d (.list ((lw l).map .str))] M = some (.ok (.d l.d) M) := by
  obtain ⟨δ0, hδ0⟩ : ∃ δ0 : Q.Env, δ0 = startQ 2 [.d (.list ((lw l).map .str))] := ⟨_, rfl⟩
  have v0 : eVar 0 (pview δ0) = some (.list ((lw l).map .str)) := pw_at (by rw [hδ0]; rfl)
  refine run_rt (n := 2) rfl ?_
  rw [← hδ0]
  unfold g__letter
  cases l with
  | add k =>
    refine seq_rt ?_
    have t : lT (eAnd (e2 eqD (eCB lenD (aCons (eVar 0) aNil)) (eC (.int 2))) (e2 eqD (e2 ixD (eVar 0) (eC (.int 0))) (eC (.str "add")))) δ0 M = some (.ok true M) :=
      lT_of (and_yes' ((e2_of (len_of' v0 (by simp [lw])) (eC_eq _ _)).trans rfl) ((e2_of ((e2_of v0 (eC_eq _ _)).trans rfl) (eC_eq _ _)).trans ((eqD_ss _ _).trans (by simp))))
    rw [if_yes t]
    refine ret_of (tup_of (ds := [.str "add", .int k]) (a1_of (lift_of (eC_eq _ _)) (a1_of ((call_of (a1_of (lift_of ((e2_of v0 (eC_eq _ _)).trans rfl)) (a1_of (lift_of rfl) a0_of))).trans (number_ok (i := k) (low := -1000000000) h.1 h.2 (by decide))) a0_of)) rfl (by simp))
  | fault =>
    have t : lT (eAnd (e2 eqD (eCB lenD (aCons (eVar 0) aNil)) (eC (.int 2))) (e2 eqD (e2 ixD (eVar 0) (eC (.int 0))) (eC (.str "add")))) δ0 M = some (.ok false M) :=
      lT_of (and_no' ((e2_of (len_of' v0 (by simp [lw])) (eC_eq _ _)).trans rfl))
    obtain ⟨δ1, hδ1⟩ : ∃ δ1 : Q.Env, δ1 = δ0.set 1 (some (.d (.tuple [.str "fault"]))) := ⟨_, rfl⟩
    have s1 : sSet 1 (lift (eCB tupD (aCons (eVar 0) aNil))) δ0 M = some (.nx δ1 M) := by
      rw [hδ1]
      refine set_of (lift_of ?_)
      rw [eCB_eq, aCons_of v0 aNil_of]
      rfl
    have v1 : eVar 1 (pview δ1) = some (.tuple [.str "fault"]) := pw_at (by rw [hδ1, hδ0]; rfl)
    have t2 : lT (e2 (inD true) (eVar 1) (eC (.tuple [(.tuple [(.str "fault")]), (.tuple [(.str "leave")])]))) δ1 M = some (.ok false M) :=
      lT_of ((e2_of v1 (eC_eq _ _)).trans (show inD true (.tuple [.str "fault"]) (.tuple [(.tuple [(.str "fault")]), (.tuple [(.str "leave")])]) = some (.bool false) by kernel_rfl))
    rw [seq_of (if_no t), seq_of s1, seq_of (if_no t2)]
    exact ret_of (lift_of v1)
  | leave =>
    have t : lT (eAnd (e2 eqD (eCB lenD (aCons (eVar 0) aNil)) (eC (.int 2))) (e2 eqD (e2 ixD (eVar 0) (eC (.int 0))) (eC (.str "add")))) δ0 M = some (.ok false M) :=
      lT_of (and_no' ((e2_of (len_of' v0 (by simp [lw])) (eC_eq _ _)).trans rfl))
    obtain ⟨δ1, hδ1⟩ : ∃ δ1 : Q.Env, δ1 = δ0.set 1 (some (.d (.tuple [.str "leave"]))) := ⟨_, rfl⟩
    have s1 : sSet 1 (lift (eCB tupD (aCons (eVar 0) aNil))) δ0 M = some (.nx δ1 M) := by
      rw [hδ1]
      refine set_of (lift_of ?_)
      rw [eCB_eq, aCons_of v0 aNil_of]
      rfl
    have v1 : eVar 1 (pview δ1) = some (.tuple [.str "leave"]) := pw_at (by rw [hδ1, hδ0]; rfl)
    have t2 : lT (e2 (inD true) (eVar 1) (eC (.tuple [(.tuple [(.str "fault")]), (.tuple [(.str "leave")])]))) δ1 M = some (.ok false M) :=
      lT_of ((e2_of v1 (eC_eq _ _)).trans (show inD true (.tuple [.str "leave"]) (.tuple [(.tuple [(.str "fault")]), (.tuple [(.str "leave")])]) = some (.bool false) by kernel_rfl))
    rw [seq_of (if_no t), seq_of s1, seq_of (if_no t2)]
    exact ret_of (lift_of v1)
/-! ### events -/
theorem in_named : ∀ w ∈ (["begins", "ends", "fails", "leaves"] : List Str), inD false (.str w) (.tuple [(.str "begins"), (.str "ends"), (.str "leaves"), (.str "fails")]) = some (.bool true) := by
  intro w hw
  simp only [List.mem_cons, List.not_mem_nil, or_false] at hw
  rcases hw with rfl | rfl | rfl | rfl <;> kernel_rfl
theorem in_named_no : ∀ w ∈ (["works", "lost", "sent"] : List Str), inD false (.str w) (.tuple [(.str "begins"), (.str "ends"), (.str "leaves"), (.str "fails")]) = some (.bool false) := by
  intro w hw
  simp only [List.mem_cons, List.not_mem_nil, or_false] at hw
  rcases hw with rfl | rfl | rfl <;> kernel_rfl
theorem in_numb : ∀ w ∈ (["works", "lost"] : List Str), inD false (.str w) (.tuple [(.str "works"), (.str "lost")]) = some (.bool true) := by
  intro w hw
  simp only [List.mem_cons, List.not_mem_nil, or_false] at hw
  rcases hw with rfl | rfl <;> kernel_rfl
theorem in_numb_no : inD false (.str "sent") (.tuple [(.str "works"), (.str "lost")]) = some (.bool false) := by kernel_rfl
theorem lw_len (l : Ltr) : 1 ≤ (lw l).length ∧ (lw l).length ≤ 2 := by cases l <;> simp [lw]
theorem ix_n (ds : List D) (k : Nat) : ixD (.list ds) (.int (k : Nat)) = ds[k]? := by rw [ixD_list, atI_n]
theorem event_ok {e : TE} (h : e.Ok) : F__event [.d (.list (e.ws.map .str))] M = some (.ok (.d e.d) M) := by
  obtain ⟨δ0, hδ0⟩ : ∃ δ0 : Q.Env, δ0 = startQ 3 [.d (.list (e.ws.map .str))] := ⟨_, rfl⟩
  obtain ⟨w, hw⟩ : ∃ w, w = (match e with | .two w _ => w | .three w _ _ => w | .sent _ _ _ => ("sent" : Str)) := ⟨_, rfl⟩
  obtain ⟨n, hn⟩ : ∃ n, n = (match e with | .two _ n => n | .three _ n _ => n | .sent n _ _ => n) := ⟨_, rfl⟩
  obtain ⟨r, hr⟩ : ∃ r : List Str, r = (match e with | .two _ _ => [] | .three _ _ k => [numT k] | .sent _ k l => numT k :: lw l) := ⟨_, rfl⟩
  have ew : e.ws = w :: n :: r := by rw [hw, hn, hr]; cases e <;> rfl
  have hne : NmE n := by
    rw [hn]
    cases e with
    | two w n => exact h.2
    | three w n k => exact h.2.1
    | sent n k l => exact h.1
  have hrl : r.length ≤ 3 := by
    rw [hr]
    cases e with
    | two w n => exact Nat.zero_le _
    | three w n k => exact Nat.le_of_ble_eq_true rfl
    | sent n k l => have := lw_len l; simp; omega
  have v0 : eVar 0 (pview δ0) = some (.list (.str w :: .str n :: r.map .str)) := pw_at (by rw [hδ0, ew]; rfl)
  have lenv : ∀ δ : Q.Env, eVar 0 (pview δ) = some (.list (.str w :: .str n :: r.map .str)) → eCB lenD (aCons (eVar 0) aNil) (pview δ) = some (.int ((r.length + 2 : Nat) : Int)) := fun δ hv => by
    have := len_of' hv (by simp; omega)
    rw [this]
    simp
    omega
  obtain ⟨δ1, hδ1⟩ : ∃ δ1 : Q.Env, δ1 = δ0.set 1 (some (.d (.str w))) := ⟨_, rfl⟩
  obtain ⟨δ2, hδ2⟩ : ∃ δ2 : Q.Env, δ2 = δ1.set 2 (some (.d (.str n))) := ⟨_, rfl⟩
  have s0 : sIf (lT (eOr (e2 ltD (eCB lenD (aCons (eVar 0) aNil)) (eC (.int 2))) (eNot (eCall (F_is_name) (aCons (e2 ixD (eVar 0) (eC (.int 1))) aNil))))) (sRaise "BadText") sNil δ0 M = some (.nx δ0 M) := by
    refine if_no (lT_of (or_no' ((e2_of (lenv δ0 v0) (eC_eq _ _)).trans ?_) (not_of' (b := true) (eCall_of (aCons_of ((e2_of v0 (eC_eq _ _)).trans ((ix_n _ 1).trans rfl)) aNil_of) ?_))))
    · show some (PyData.bool (decide _)) = _
      rw [decide_eq_false (by omega)]
    · rw [is_name_str n hne.1, hne.2]
  have s1 : sSet 1 (lift (e2 ixD (eVar 0) (eC (.int 0)))) δ0 M = some (.nx δ1 M) := by
    rw [hδ1]
    exact set_of (lift_of ((e2_of v0 (eC_eq _ _)).trans ((ix_n _ 0).trans rfl)))
  have s2 : sSet 2 (lift (e2 ixD (eVar 0) (eC (.int 1)))) δ1 M = some (.nx δ2 M) := by
    rw [hδ2]
    exact set_of (lift_of ((e2_of (pw_at (d := .list (.str w :: .str n :: r.map .str)) (by rw [hδ1, hδ0, ew]; rfl)) (eC_eq _ _)).trans ((ix_n _ 1).trans rfl)))
  have u0 : eVar 0 (pview δ2) = some (.list (.str w :: .str n :: r.map .str)) := pw_at (by rw [hδ2, hδ1, hδ0, ew]; rfl)
  have u1 : eVar 1 (pview δ2) = some (.str w) := pw_at (by rw [hδ2, hδ1, hδ0]; rfl)
  have u2 : eVar 2 (pview δ2) = some (.str n) := pw_at (by rw [hδ2, hδ1, hδ0]; rfl)
  have le : ∀ j : Int, e2 eqD (eCB lenD (aCons (eVar 0) aNil)) (eC (.int j)) (pview δ2) = some (.bool (((r.length + 2 : Nat) : Int) == j)) := fun j => (e2_of (lenv δ2 u0) (eC_eq _ _)).trans (eqD_ii _ _)
  refine run_rt (n := 3) rfl ?_
  rw [← hδ0]
  unfold g__event
  rw [seq_of s0, seq_of s1, seq_of s2]
  cases e with
  | two w' n' =>
    have e1 : w = w' := hw
    have e2' : n = n' := hn
    have e3 : r = [] := hr
    refine seq_rt ?_
    have t : lT (eAnd (e2 (inD false) (eVar 1) (eC (.tuple [(.str "begins"), (.str "ends"), (.str "leaves"), (.str "fails")]))) (e2 eqD (eCB lenD (aCons (eVar 0) aNil)) (eC (.int 2)))) δ2 M = some (.ok true M) := by
      refine lT_of (and_yes' ((e2_of u1 (eC_eq _ _)).trans (in_named w (by rw [e1]; exact h.1))) ((le 2).trans ?_))
      rw [e3]
      rfl
    rw [if_yes t]
    have q := ret_of (δ := δ2) (M := M) (lift_of (eTup_of (aCons_of u1 (aCons_of u2 aNil_of))))
    rw [q, e1, e2']
    rfl
  | three w' n' k =>
    have e1 : w = w' := hw
    have e2' : n = n' := hn
    have e3 : r = [numT k] := hr
    obtain ⟨hw', _, k1, k2⟩ := h
    have t1 : lT (eAnd (e2 (inD false) (eVar 1) (eC (.tuple [(.str "begins"), (.str "ends"), (.str "leaves"), (.str "fails")]))) (e2 eqD (eCB lenD (aCons (eVar 0) aNil)) (eC (.int 2)))) δ2 M = some (.ok false M) :=
      lT_of (and_no' ((e2_of u1 (eC_eq _ _)).trans (in_named_no w (by rw [e1]; simp only [List.mem_cons, List.not_mem_nil, or_false] at hw' ⊢; rcases hw' with z | z <;> simp [z]))))
    have t2 : lT (eAnd (e2 (inD false) (eVar 1) (eC (.tuple [(.str "works"), (.str "lost")]))) (e2 eqD (eCB lenD (aCons (eVar 0) aNil)) (eC (.int 3)))) δ2 M = some (.ok true M) := by
      refine lT_of (and_yes' ((e2_of u1 (eC_eq _ _)).trans (in_numb w (by rw [e1]; exact hw'))) ((le 3).trans ?_))
      rw [e3]
      rfl
    rw [seq_of (if_no t1)]
    refine seq_rt ?_
    rw [if_yes t2]
    have x2 : e2 ixD (eVar 0) (eC (.int 2)) (pview δ2) = some (.str (numT k)) := (e2_of u0 (eC_eq _ _)).trans ((ix_n _ 2).trans (by rw [e3]; rfl))
    have q := ret_of (tup_of (δ := δ2) (M := M) (ds := [.str w, .str n, .int k]) (a1_of (lift_of u1) (a1_of (lift_of u2) (a1_of ((call_of (a1_of (lift_of x2) (a1_of (lift_of (eC_eq (.int 1) _)) a0_of))).trans (number_ok (i := k) (low := 1) k1 k2 (by decide))) a0_of))) rfl (by simp))
    rw [q, e1, e2']
    rfl
  | sent n' k l =>
    have e1 : w = "sent" := hw
    have e2' : n = n' := hn
    have e3 : r = numT k :: lw l := hr
    obtain ⟨_, k1, k2, hl⟩ := h
    have t1 : lT (eAnd (e2 (inD false) (eVar 1) (eC (.tuple [(.str "begins"), (.str "ends"), (.str "leaves"), (.str "fails")]))) (e2 eqD (eCB lenD (aCons (eVar 0) aNil)) (eC (.int 2)))) δ2 M = some (.ok false M) :=
      lT_of (and_no' ((e2_of u1 (eC_eq _ _)).trans (in_named_no w (by rw [e1]; simp))))
    have t2 : lT (eAnd (e2 (inD false) (eVar 1) (eC (.tuple [(.str "works"), (.str "lost")]))) (e2 eqD (eCB lenD (aCons (eVar 0) aNil)) (eC (.int 3)))) δ2 M = some (.ok false M) :=
      lT_of (and_no' ((e2_of u1 (eC_eq _ _)).trans (by rw [e1]; exact in_numb_no)))
    have t3 : lT (eAnd (e2 eqD (eVar 1) (eC (.str "sent"))) (e2 gtD (eCB lenD (aCons (eVar 0) aNil)) (eC (.int 3)))) δ2 M = some (.ok true M) := by
      refine lT_of (and_yes' ((e2_of u1 (eC_eq _ _)).trans ((eqD_ss _ _).trans (by rw [e1]; simp))) ((e2_of (lenv δ2 u0) (eC_eq _ _)).trans ?_))
      rw [gtD_int, decide_eq_true (by rw [e3]; have := lw_len l; simp; omega)]
    rw [seq_of (if_no t1), seq_of (if_no t2)]
    refine seq_rt ?_
    rw [if_yes t3]
    have x2 : e2 ixD (eVar 0) (eC (.int 2)) (pview δ2) = some (.str (numT k)) := (e2_of u0 (eC_eq _ _)).trans ((ix_n _ 2).trans (by rw [e3]; rfl))
    have x3 : eSl (eVar 0) (oSome (eC (.int 3))) oNone (pview δ2) = some (.list ((lw l).map .str)) := by
      rw [eSl_eq, u0, Option.bind_some, slK1_eq, oSome_eq, eC_eq, Option.bind_some, oK_int, Option.bind_some, slK2_eq, oNone_eq, Option.bind_some, slK3_lst, show (3 : Int) = ((3 : Nat) : Int) from rfl]
      have : Pd.cutD (PyData.str w :: PyData.str n :: r.map PyData.str) (some ((3 : Nat) : Int)) none = (lw l).map .str := by
        rw [e3]
        unfold Pd.cutD
        rw [HT.sIx_none, HT.sIx_nat, Nat.min_eq_left (by have := lw_len l; simp)]
        simp [List.take_of_length_le]
      rw [this]
    have q := ret_of (tup_of (δ := δ2) (M := M) (ds := [.str w, .str n, .int k, l.d]) (a1_of (lift_of u1) (a1_of (lift_of u2) (a1_of ((call_of (a1_of (lift_of x2) (a1_of (lift_of (eC_eq (.int 1) _)) a0_of))).trans (number_ok (i := k) (low := 1) k1 k2 (by decide))) (a1_of ((call_of (a1_of (lift_of x3) a0_of)).trans (letter_ok hl)) a0_of)))) rfl (by simp))
    rw [q, e1, e2']
    rfl
end
end H10

set_option Elab.async false
set_option linter.all false
set_option maxRecDepth 100000
set_option maxHeartbeats 4000000
namespace H10
open K10
open PySem PySem.Spec PyProof.Rows L2 Pd Q A TL
theorem st_int {k : Int} (h : k.natAbs < 10 ^ 10) : strTD [.int k] = some (.str (numT k)) := by
  show (if _ then _ else _) = _
  rw [if_pos]
  · rfl
  · have : k.natAbs.log2 < 40 := by
      by_cases z : k.natAbs = 0
      · rw [z]; decide
      · exact (Nat.log2_lt z).mpr (by omega)
    omega
theorem st_str (s : Str) : strTD [.str s] = some (.str s) := rfl
/-- the words of an event are short -/
theorem ws_short {e : TE} (h : e.Ok) : e.ws.length ≤ 5 ∧ ∀ w ∈ e.ws, w.length ≤ 11 := by
  have nm : ∀ {n : Str}, NmE n → n.length ≤ 11 := fun {n} hn => by
    have := hn.2
    unfold nameB at this
    simp only [Bool.and_eq_true, decide_eq_true_eq] at this
    omega
  have nb : ∀ {k : Int}, -1000000000 ≤ k → k ≤ 1000000000 → (numT k).length ≤ 11 := fun {k} h1 h2 => num_len (by omega)
  cases e with
  | two w n =>
    refine ⟨by simp [TE.ws], fun x hx => ?_⟩
    simp only [TE.ws, List.mem_cons, List.not_mem_nil, or_false] at hx
    rcases hx with rfl | rfl
    · have := h.1
      simp only [List.mem_cons, List.not_mem_nil, or_false] at this
      rcases this with rfl | rfl | rfl | rfl <;> decide +kernel
    · exact nm h.2
  | three w n k =>
    refine ⟨by simp [TE.ws], fun x hx => ?_⟩
    simp only [TE.ws, List.mem_cons, List.not_mem_nil, or_false] at hx
    obtain ⟨h1, h2, h3, h4⟩ := h
    rcases hx with rfl | rfl | rfl
    · simp only [List.mem_cons, List.not_mem_nil, or_false] at h1
      rcases h1 with rfl | rfl <;> decide +kernel
    · exact nm h2
    · exact nb (by omega) h4
  | sent n k l =>
    obtain ⟨h2, h3, h4, hl⟩ := h
    have hlw := lw_len l
    refine ⟨by simp [TE.ws]; omega, fun x hx => ?_⟩
    simp only [TE.ws, List.mem_cons] at hx
    rcases hx with rfl | rfl | rfl | hx
    · decide +kernel
    · exact nm h2
    · exact nb (by omega) h4
    · cases l with
      | add i =>
        simp only [lw, List.mem_cons, List.not_mem_nil, or_false] at hx
        rcases hx with rfl | rfl
        · decide +kernel
        · exact nb hl.1 hl.2
      | fault => simp only [lw, List.mem_cons, List.not_mem_nil, or_false] at hx; rw [hx]; decide +kernel
      | leave => simp only [lw, List.mem_cons, List.not_mem_nil, or_false] at hx; rw [hx]; decide +kernel
theorem sum_le {l : List Str} {k : Nat} (h : ∀ w ∈ l, w.length ≤ k) : (l.map (·.length)).sum ≤ l.length * k := by
  induction l with
  | nil => simp
  | cons a l ih =>
    have h1 := h a (List.mem_cons_self ..)
    have h2 := ih fun w hw => h w (List.mem_cons_of_mem _ hw)
    simp only [List.map_cons, List.sum_cons, List.length_cons]
    rw [Nat.succ_mul]
    omega
theorem join_row {e : TE} (h : e.Ok) : joinD (.str " ") (.list (e.ws.map .str)) = some (.str (rowT e)) := by
  obtain ⟨h1, h2⟩ := ws_short h
  have := sum_le h2
  show (strsD (e.ws.map .str)).bind _ = _
  rw [strsD_map, Option.bind_some, if_pos]
  · rfl
  · have l1 : (" " : Str).length = 1 := by decide +kernel
    rw [l1]
    have : e.ws.length * 11 ≤ 55 := by omega
    omega
theorem words_ok {e : TE} (h : e.Ok) : F__law_words_of [e.d] = some (.str (rowT e)) := by
  refine F1 rfl ?_
  unfold g__law_words_of
  have j := join_row h
  cases e with
  | two w n => simp [TE.d, TE.ws] at j ⊢; simp [j]
  | three w n k =>
    have sk := st_int (k := k) (by have := h.2.2; omega)
    simp [TE.d, TE.ws, sk] at j ⊢; simp [j]
  | sent n k l =>
    have sk := st_int (k := k) (by have := h.2; omega)
    cases l with
    | add i =>
      have si := st_int (k := i) (by have := h.2.2.2; unfold LtrOk at this; omega)
      simp [TE.d, TE.ws, sk, si, lw, Ltr.d] at j ⊢; simp [j]
    | fault => simp [TE.d, TE.ws, sk, lw, Ltr.d] at j ⊢; simp [j]
    | leave => simp [TE.d, TE.ws, sk, lw, Ltr.d] at j ⊢; simp [j]
end H10

set_option Elab.async false
set_option linter.all false
set_option maxRecDepth 100000
set_option maxHeartbeats 4000000
namespace H10
open K10
open PySem PySem.Spec PyProof.Rows L2 Pd Q A TL
theorem gSeq_of' {g g' : GS} {σ σ' : List Sl} (h : g σ = some (.nx σ')) : gSeq g g' σ = g' σ' := by
  rw [gSeq_eq, h, Option.bind_some]
  rfl
/-- the items of an event, its letter's among them -/
def TE.its : TE → List D
  | .two w n => [.str w, .str n]
  | .three w n k => [.str w, .str n, .int k]
  | .sent n k l => .str "sent" :: .str n :: .int k :: (match l with | .add i => [.str "add", .int i] | .fault => [.str "fault"] | .leave => [.str "leave"])
theorem its_str {e : TE} (h : e.Ok) : ∀ d ∈ e.its, ∃ s, strTD [d] = some (.str s) := by
  have si : ∀ {k : Int}, -1000000000 ≤ k → k ≤ 1000000000 → ∃ s, strTD [.int k] = some (.str s) := fun {k} h1 h2 => ⟨_, st_int (by omega)⟩
  intro d hd
  cases e with
  | two w n =>
    simp only [TE.its, List.mem_cons, List.not_mem_nil, or_false] at hd
    rcases hd with rfl | rfl <;> exact ⟨_, rfl⟩
  | three w n k =>
    simp only [TE.its, List.mem_cons, List.not_mem_nil, or_false] at hd
    rcases hd with rfl | rfl | rfl
    · exact ⟨_, rfl⟩
    · exact ⟨_, rfl⟩
    · exact si (by have := h.2.2.1; omega) h.2.2.2
  | sent n k l =>
    obtain ⟨_, h1, h2, hl⟩ := h
    cases l with
    | add i =>
      simp only [TE.its, List.mem_cons, List.not_mem_nil, or_false] at hd
      rcases hd with rfl | rfl | rfl | rfl | rfl
      · exact ⟨_, rfl⟩
      · exact ⟨_, rfl⟩
      · exact si (by omega) h2
      · exact ⟨_, rfl⟩
      · exact si hl.1 hl.2
    | fault =>
      simp only [TE.its, List.mem_cons, List.not_mem_nil, or_false] at hd
      rcases hd with rfl | rfl | rfl | rfl
      · exact ⟨_, rfl⟩
      · exact ⟨_, rfl⟩
      · exact si (by omega) h2
      · exact ⟨_, rfl⟩
    | leave =>
      simp only [TE.its, List.mem_cons, List.not_mem_nil, or_false] at hd
      rcases hd with rfl | rfl | rfl | rfl
      · exact ⟨_, rfl⟩
      · exact ⟨_, rfl⟩
      · exact si (by omega) h2
      · exact ⟨_, rfl⟩
def strOf (d : D) : D := (strTD [d]).getD .none
theorem its_ws {e : TE} (h : e.Ok) : e.its.map strOf = e.ws.map .str := by
  have si : ∀ {k : Int}, -1000000000 ≤ k → k ≤ 1000000000 → strOf (.int k) = .str (numT k) := fun {k} h1 h2 => by
    unfold strOf
    rw [st_int (by omega)]
    rfl
  cases e with
  | two w n => rfl
  | three w n k =>
    have := si (k := k) (by have := h.2.2.1; omega) h.2.2.2
    simp only [TE.its, TE.ws, List.map_cons, List.map_nil, this]
    rfl
  | sent n k l =>
    obtain ⟨_, h1, h2, hl⟩ := h
    have sk := si (k := k) (by omega) h2
    cases l with
    | add i =>
      have sl := si hl.1 hl.2
      simp only [TE.its, TE.ws, lw, List.map_cons, List.map_nil, sk, sl]
      rfl
    | fault => simp only [TE.its, TE.ws, lw, List.map_cons, List.map_nil, sk]; rfl
    | leave => simp only [TE.its, TE.ws, lw, List.map_cons, List.map_nil, sk]; rfl
theorem its_len {e : TE} : e.its.length ≤ 5 := by
  cases e with
  | two => simp [TE.its]
  | three => simp [TE.its]
  | sent n k l => cases l <;> simp [TE.its]
theorem row_ok {e : TE} (h : e.Ok) : F__row [e.d] = some (.str (rowT e)) := by
  have lb := lim_eq2
  refine F1 rfl ?_
  unfold g__row
  have s12 : ∃ σ, (gNew 1 (nList (eSl (eVar 0) oNone (oSome (eC (.int 3)))))) (startD 3 [e.d]) = some (.nx σ) ∧ (gIf (e2 eqD (e2 ixD (eVar 0) (eC (.int 0))) (eC (.str "sent"))) (gExtT 1 (e2 ixD (eVar 0) (eC (.int 3)))) gNil) σ = some (.nx [.val e.d, .own e.its, .un]) := by
    cases e with
    | two w n =>
      refine ⟨[.val (.tuple [.str w, .str n]), .own [.str w, .str n], .un], rfl, ?_⟩
      rw [gIf_of (b := false)]
      · rfl
      · refine (e2_of (u := .str w) rfl (eC_eq _ _)).trans ((eqD_ss _ _).trans ?_)
        have := h.1
        simp only [List.mem_cons, List.not_mem_nil, or_false] at this
        rcases this with rfl | rfl | rfl | rfl <;> kernel_rfl
    | three w n k =>
      refine ⟨[.val (.tuple [.str w, .str n, .int k]), .own [.str w, .str n, .int k], .un], rfl, ?_⟩
      rw [gIf_of (b := false)]
      · rfl
      · refine (e2_of (u := .str w) rfl (eC_eq _ _)).trans ((eqD_ss _ _).trans ?_)
        have := h.1
        simp only [List.mem_cons, List.not_mem_nil, or_false] at this
        rcases this with rfl | rfl <;> kernel_rfl
    | sent n k l =>
      refine ⟨[.val (.tuple [.str "sent", .str n, .int k, l.d]), .own [.str "sent", .str n, .int k], .un], rfl, ?_⟩
      rw [gIf_of (b := true)]
      · cases l <;> rfl
      · exact (e2_of (u := .str "sent") rfl (eC_eq _ _)).trans ((eqD_ss _ _).trans (by simp))
  obtain ⟨σ, s1, s2⟩ := s12
  rw [gSeq_of' s1, gSeq_of' s2]
  have lc : eLc (iSeq (eVar 1)) 2 (eC (.bool true)) (eCB strTD (aCons (eVar 2) aNil)) [.val e.d, .val (.list e.its), .un] = some (.list (e.ws.map .str)) := by
    rw [eLc_eq, iSeq_eq]
    show lcQ 2 _ _ _ e.its = _
    rw [lcQ_of (fun _ => true) strOf (fun d hd => rfl) (fun d hd _ => ?_) (by have := its_len (e := e); omega), List.filter_eq_self.mpr fun _ _ => rfl, its_ws h]
    obtain ⟨s, hs⟩ := its_str h d hd
    show eCB strTD (aCons (eVar 2) aNil) [.val e.d, .val (.list e.its), .val d] = _
    rw [eCB_eq, aCons_of (d := d) rfl aNil_of, Option.bind_some]
    unfold strOf
    rw [hs]
    rfl
  have bor : eBor (e2 joinD (eC (.str " ")) (eLc (iSeq (eVar 1)) 2 (eC (.bool true)) (eCB strTD (aCons (eVar 2) aNil)))) [.val e.d, .own e.its, .un] = some (.str (rowT e)) := by
    unfold eBor
    have : borrow [.val e.d, .own e.its, .un] = [.val e.d, .val (.list e.its), .un] := rfl
    rw [this, (e2_of (eC_eq (.str " ") _) lc).trans (join_row h)]
    rfl
  rw [gRet_of bor]
  rfl
/-! ### the text -/
def text (es : List TE) : Str := Txt.join "" (es.map fun e => rowT e ++ "\n")
theorem row_len {e : TE} (h : e.Ok) : (rowT e).length ≤ 60 := by
  obtain ⟨h1, h2⟩ := ws_short h
  have key : ∀ l : List Str, l.length ≤ 5 → (∀ w ∈ l, w.length ≤ 11) → (tl (Str.join " " l)).length ≤ 12 * l.length := fun l => by
    induction l with
    | nil => intro _ _; decide
    | cons a l ih =>
      intro hl hw
      have ha := hw a (List.mem_cons_self ..)
      rw [len_tl] at ha
      cases l with
      | nil =>
        show (tl a).length ≤ 12 * 1
        omega
      | cons b l =>
        have := ih (by simp at hl ⊢; omega) fun w hw' => hw w (List.mem_cons_of_mem _ hw')
        show (tl (a ++ " " ++ Str.join " " (b :: l))).length ≤ _
        rw [tl_append, tl_append, List.length_append, List.length_append]
        have l1 : (tl (" " : Str)).length = 1 := by decide +kernel
        simp only [List.length_cons] at this ⊢
        omega
  unfold rowT
  rw [join_eq, len_tl]
  have := key e.ws h1 h2
  omega
theorem told_ok {es : List TE} (h : ∀ e ∈ es, e.Ok) (hl : es.length ≤ 1000) : F_told [.list (es.map TE.d)] = some (.str (text es)) := by
  have lb := lim_eq2
  refine F1 rfl ?_
  unfold g_told
  have lc : eLc (iSeq (eVar 0)) 1 (eC (.bool true)) (e2 addD (eCall (F__row) (aCons (eVar 1) aNil)) (eC (.str "\n"))) (startD 2 [.list (es.map TE.d)]) = some (.list ((es.map fun e => rowT e ++ "\n").map .str)) := by
    show eLc _ 1 _ _ [.val (.list (es.map TE.d)), .un] = _
    rw [eLc_eq, show iSeq (eVar 0) [.val (.list (es.map TE.d)), .un] = some (es.map TE.d) from rfl]
    show lcQ 1 _ _ _ (es.map TE.d) = _
    rw [lcQ_of (fun _ => true) (fun d => .str ((match F__row [d] with | some (.str s) => s | _ => "") ++ "\n")) (fun d hd => rfl) (fun d hd _ => ?_) (by rw [List.length_map]; omega), List.filter_eq_self.mpr fun _ _ => rfl]
    · rw [List.map_map, List.map_map]
      congr 2
      refine List.map_congr_left fun e he => ?_
      show PyData.str ((match F__row [e.d] with | some (.str s) => s | _ => "") ++ "\n") = _
      rw [row_ok (h e he)]
      rfl
    · obtain ⟨e, he, rfl⟩ := List.mem_map.mp hd
      show e2 addD (eCall (F__row) (aCons (eVar 1) aNil)) (eC (.str "\n")) [.val (.list (es.map TE.d)), .val e.d] = _
      refine (e2_of (eCall_of (aCons_of (d := e.d) rfl aNil_of) (row_ok (h e he))) (eC_eq _ _)).trans ?_
      have l1 : ("\n" : Str).length = 1 := by decide +kernel
      rw [addD_str _ _ (by have := row_len (h e he); omega), row_ok (h e he)]
  have : e2 joinD (eC (.str "")) (eLc (iSeq (eVar 0)) 1 (eC (.bool true)) (e2 addD (eCall (F__row) (aCons (eVar 1) aNil)) (eC (.str "\n")))) (startD 2 [.list (es.map TE.d)]) = some (.str (text es)) := by
    refine (e2_of (eC_eq _ _) lc).trans ?_
    show (strsD _).bind _ = _
    rw [strsD_map, Option.bind_some, if_pos]
    · rfl
    · have s := sum_le (l := es.map fun e => rowT e ++ "\n") (k := 61) fun w hw => by
        obtain ⟨e, he, rfl⟩ := List.mem_map.mp hw
        have := row_len (h e he)
        rw [len_append]
        have l1 : ("\n" : Str).length = 1 := by decide +kernel
        omega
      have l0 : ("" : Str).length = 0 := by decide +kernel
      rw [l0, List.length_map] at *
      omega
  rw [gRet_of this]
  rfl
end H10

set_option Elab.async false
set_option linter.all false
set_option maxRecDepth 100000
set_option maxHeartbeats 4000000
namespace H10
open K10
open PySem PySem.Spec PyProof.Rows L2 Pd Q A TL
/-! ### signs -/
theorem ws_signs {e : TE} (h : e.Ok) : ∀ w ∈ e.ws, ∀ c ∈ tl w, 33 ≤ c := by
  have nm : ∀ {n : Str}, NmE n → ∀ c ∈ tl n, 33 ≤ c := fun {n} hn c hc => by
    have := hn.2
    unfold nameB at this
    simp only [Bool.and_eq_true, List.all_eq_true] at this
    have := this.2 c hc
    unfold sg at this
    simp only [Bool.and_eq_true, decide_eq_true_eq] at this
    omega
  have fg : ∀ n : Nat, ∀ c ∈ numL n, 33 ≤ c := fun n c hc => by have := numL_digits n c hc; omega
  have nb : ∀ k : Int, ∀ c ∈ tl (numT k), 33 ≤ c := fun k c hc => by
    rcases Int.eq_nat_or_neg k with ⟨n, e | e⟩
    · rw [e, tl_nat] at hc
      exact fg n c hc
    · cases n with
      | zero =>
        have hc : c ∈ tl (numT ((0 : Nat) : Int)) := by rw [e] at hc; exact hc
        rw [tl_nat] at hc
        exact fg 0 c hc
      | succ n =>
        rw [e, tl_neg] at hc
        rcases List.mem_cons.mp hc with rfl | hc
        · decide
        · exact fg _ c hc
  have lit : ∀ s : Str, ((tl s).all fun c => decide (33 ≤ c)) = true → ∀ c ∈ tl s, 33 ≤ c := fun s hs c hc => of_decide_eq_true (List.all_eq_true.mp hs c hc)
  intro w hw
  cases e with
  | two w' n =>
    simp only [TE.ws, List.mem_cons, List.not_mem_nil, or_false] at hw
    rcases hw with rfl | rfl
    · have := h.1
      simp only [List.mem_cons, List.not_mem_nil, or_false] at this
      rcases this with rfl | rfl | rfl | rfl <;> exact lit _ (by decide +kernel)
    · exact nm h.2
  | three w' n k =>
    simp only [TE.ws, List.mem_cons, List.not_mem_nil, or_false] at hw
    obtain ⟨h1, h2, h3, h4⟩ := h
    rcases hw with rfl | rfl | rfl
    · simp only [List.mem_cons, List.not_mem_nil, or_false] at h1
      rcases h1 with rfl | rfl <;> exact lit _ (by decide +kernel)
    · exact nm h2
    · exact nb k
  | sent n k l =>
    obtain ⟨h2, h3, h4, hl⟩ := h
    simp only [TE.ws, List.mem_cons] at hw
    rcases hw with rfl | rfl | rfl | hw
    · exact lit _ (by decide +kernel)
    · exact nm h2
    · exact nb k
    · cases l with
      | add i =>
        simp only [lw, List.mem_cons, List.not_mem_nil, or_false] at hw
        rcases hw with rfl | rfl
        · exact lit _ (by decide +kernel)
        · exact nb i
      | fault => simp only [lw, List.mem_cons, List.not_mem_nil, or_false] at hw; rw [hw]; exact lit _ (by decide +kernel)
      | leave => simp only [lw, List.mem_cons, List.not_mem_nil, or_false] at hw; rw [hw]; exact lit _ (by decide +kernel)
theorem mem_join {y : Str} : ∀ {l : List Str} {c : Nat}, c ∈ tl (Str.join y l) → c ∈ tl y ∨ ∃ w ∈ l, c ∈ tl w
  | [], c, h => absurd h (by have : tl (Str.join y []) = [] := rfl; rw [this]; simp)
  | [a], c, h => .inr ⟨a, List.mem_singleton.mpr rfl, h⟩
  | a :: b :: l, c, h => by
    have h : c ∈ tl (a ++ y ++ Str.join y (b :: l)) := h
    rw [tl_append, tl_append, List.mem_append, List.mem_append] at h
    rcases h with (h | h) | h
    · exact .inr ⟨a, List.mem_cons_self .., h⟩
    · exact .inl h
    · rcases mem_join h with h | ⟨w, hw, h⟩
      · exact .inl h
      · exact .inr ⟨w, List.mem_cons_of_mem _ hw, h⟩
theorem blank_tl : tl (" " : Str) = [32] := by decide +kernel
theorem end_tl : tl ("\n" : Str) = [10] := by decide +kernel
theorem row_signs {e : TE} (h : e.Ok) : 10 ∉ tl (rowT e) := fun hc => by
  unfold rowT at hc
  rw [join_eq] at hc
  rcases mem_join hc with q | ⟨w, hw, q⟩
  · rw [blank_tl] at q
    simp at q
  · have := ws_signs h w hw 10 q
    omega
theorem row_split {e : TE} (h : e.Ok) : Txt.split (rowT e) " " = e.ws := by
  refine split_join (s := 32) (S := []) blank_tl (by decide +kernel) (by cases e <;> simp [TE.ws]) fun p hp q => ?_
  have := ws_signs h p hp 32 q
  omega
/-! ### the text, row by row -/
theorem text_cons (e : TE) (es : List TE) : tl (text (e :: es)) = tl (rowT e) ++ 10 :: tl (text es) := by
  unfold text
  rw [join_eq, join_eq]
  have l1 : tl (rowT e ++ "\n") = tl (rowT e) ++ [10] := by rw [tl_append, end_tl]
  cases es with
  | nil =>
    show tl (rowT e ++ "\n") = _
    rw [l1]
    rfl
  | cons b es =>
    show tl (rowT e ++ "\n" ++ "" ++ Str.join "" ((b :: es).map fun e => rowT e ++ "\n")) = _
    rw [tl_append, tl_append, l1, show tl ("" : Str) = [] by decide +kernel]
    simp
theorem text_rows : ∀ es : List TE, text es = Txt.join "\n" (es.map rowT ++ [("" : Str)])
  | [] => by decide +kernel
  | e :: es => by
    refine ext_tl ?_
    rw [text_cons, text_rows es, join_eq, join_eq]
    have : ∃ b r, es.map rowT ++ [("" : Str)] = b :: r := by cases es with
      | nil => exact ⟨_, _, rfl⟩
      | cons a es => exact ⟨_, _, rfl⟩
    obtain ⟨b, r, hb⟩ := this
    rw [List.map_cons, List.cons_append, hb]
    show _ = tl (rowT e ++ "\n" ++ Str.join "\n" (b :: r))
    rw [tl_append, tl_append, end_tl]
    simp
theorem text_split {es : List TE} (h : ∀ e ∈ es, e.Ok) : Txt.split (text es) "\n" = es.map rowT ++ [("" : Str)] := by
  rw [text_rows]
  refine split_join (s := 10) (S := []) end_tl (by decide +kernel) (by simp) fun p hp q => ?_
  rcases List.mem_append.mp hp with hp | hp
  · obtain ⟨e, he, rfl⟩ := List.mem_map.mp hp
    exact row_signs (h e he) q
  · rw [List.mem_singleton.mp hp] at q
    exact absurd q (by rw [show tl ("" : Str) = [] by decide +kernel]; simp)
theorem text_len {es : List TE} (h : ∀ e ∈ es, e.Ok) : (text es).length ≤ 61 * es.length := by
  rw [len_tl]
  induction es with
  | nil => decide +kernel
  | cons e es ih =>
    have h1 := row_len (h e (List.mem_cons_self ..))
    have h2 := ih fun x hx => h x (List.mem_cons_of_mem _ hx)
    rw [len_tl] at h1
    rw [text_cons, List.length_append, List.length_cons, List.length_cons]
    omega
/-! ### read -/
section
variable {M : List Cell}
theorem ix_last (l : List D) (d : D) : ixD (.list (l ++ [d])) (.int (-1)) = some d := by
  rw [ixD_list]
  unfold atI ixN
  rw [if_neg (by decide), if_pos (by rw [List.length_append, List.length_singleton]; omega), Option.bind_some]
  have : ((-1 : Int) + ((l ++ [d]).length : Int)).toNat = l.length := by rw [List.length_append, List.length_singleton]; omega
  rw [this]
  simp
theorem cut_last (l : List D) (d : D) : Pd.cutD (l ++ [d]) none (some (-1)) = l := by
  unfold Pd.cutD
  rw [HT.sIx_none, List.drop_zero]
  have : HT.sIx (l ++ [d]).length (l ++ [d]).length (some (-1)) = l.length := by
    show (if (-1 : Int) < 0 then ((-1 : Int) + ((l ++ [d]).length : Int)).toNat else min (-1 : Int).toNat (l ++ [d]).length) = _
    rw [if_pos (by decide), List.length_append, List.length_singleton]
    omega
  rw [this]
  simp
theorem read_ok {es : List TE} (h : ∀ e ∈ es, e.Ok) (hl : es.length ≤ 1000) : F_read [.d (.str (text es))] M = some (.ok (.l M.length) (M ++ [.lst ((es.map TE.d).map .d)])) := by
  have lb := lim_eq2
  have tl' := text_len h
  obtain ⟨δ0, hδ0⟩ : ∃ δ0 : Q.Env, δ0 = startQ 3 [.d (.str (text es))] := ⟨_, rfl⟩
  have v0 : eVar 0 (pview δ0) = some (.str (text es)) := pw_at (by rw [hδ0]; rfl)
  obtain ⟨rs, hrs⟩ : ∃ rs : List D, rs = (es.map rowT).map .str := ⟨_, rfl⟩
  obtain ⟨δ1, hδ1⟩ : ∃ δ1 : Q.Env, δ1 = δ0.set 1 (some (.d (.list (rs ++ [.str ""])))) := ⟨_, rfl⟩
  have s0 : sIf (lT (eNot (eIs "str" (eVar 0)))) (sRaise "BadText") sNil δ0 M = some (.nx δ0 M) := by
    refine if_no (lT_of (not_of' (b := true) ?_))
    rw [eIs_eq, v0]
    rfl
  have s1 : sSet 1 (lift (e2 splitD (eVar 0) (eC (.str "\n")))) δ0 M = some (.nx δ1 M) := by
    rw [hδ1, hrs]
    refine set_of (lift_of ((e2_of v0 (eC_eq _ _)).trans ?_))
    show (if _ then _ else _) = _
    rw [if_pos ⟨by decide +kernel, by omega⟩, text_split h, List.map_append]
    rfl
  have v1 : eVar 1 (pview δ1) = some (.list (rs ++ [.str ""])) := pw_at (by rw [hδ1, hδ0]; rfl)
  have s2 : sIf (lT (e2 neD (e2 ixD (eVar 1) (e1 negD (eC (.int 1)))) (eC (.str "")))) (sRaise "BadText") sNil δ1 M = some (.nx δ1 M) := by
    refine if_no (lT_of ((e2_of ((e2_of v1 (v := .int (-1)) rfl).trans (ix_last _ _)) (eC_eq _ _)).trans ?_))
    rw [neD_ss]
    simp
  have hf : iSeq (eSl (eVar 1) oNone (oSome (e1 negD (eC (.int 1))))) (pview δ1) = some (es.map fun e => .str (rowT e)) := by
    rw [iSeq_eq, eSl_eq, v1, Option.bind_some, slK1_eq, oNone_eq, Option.bind_some, slK2_eq, oSome_eq, show e1 negD (eC (.int 1)) (pview δ1) = some (.int (-1)) from rfl, Option.bind_some, oK_int, Option.bind_some, slK3_lst, cut_last, Option.bind_some, hrs, List.map_map]
    rfl
  obtain ⟨M', q1, ⟨c, q2⟩, q3⟩ := lcG_of (i := 2) (ft := fun _ M => some (.ok true M)) (fe := hCall F__event (haCons (lift (e2 splitD (eVar 2) (eC (.str " ")))) haNil)) (δ := δ1) (M := M) (xs := es) (wt := fun e => .str (rowT e)) (p := fun _ => true) (g := fun e => .d e.d) (fun M' => ∃ c, M' = M ++ [c])
    (fun M' c' hP _ => by obtain ⟨c, rfl⟩ := hP; exact ⟨c', by rw [List.set_append_right _ _ (Nat.le_refl _), Nat.sub_self]; rfl⟩) ⟨_, rfl⟩ (by omega) hf (fun e he M' hP _ => ⟨[], by rw [List.append_nil], by rw [List.append_nil]; exact hP⟩) (fun e he _ M' hP => by
      have v2 : eVar 2 (pview ((δ1.set 2 none).set 2 (some (.d (.str (rowT e)))))) = some (.str (rowT e)) := pw_at (by rw [hδ1, hδ0]; rfl)
      refine (call_of (a1_of (lift_of (d := .list (e.ws.map .str)) ?_) a0_of)).trans (event_ok (h e he))
      refine (e2_of v2 (eC_eq _ _)).trans ?_
      show (if _ then _ else _) = _
      have := row_len (h e he)
      rw [if_pos ⟨by decide +kernel, by omega⟩, row_split (h e he)])
  have q4 : M' = M ++ [.lst ((es.map TE.d).map .d)] := by
    rw [q2] at q3 ⊢
    have : some c = some (Cell.lst ((es.filter fun _ => true).map fun e => W.d e.d)) := by
      rw [← q3]
      simp
    rw [Option.some.inj this, List.filter_eq_self.mpr fun _ _ => rfl, List.map_map]
    rfl
  rw [q4] at q1
  refine run_rt (n := 3) rfl ?_
  rw [← hδ0]
  unfold g_read
  rw [seq_of s0, seq_of s1, seq_of s2]
  exact ret_of q1
end
end H10

set_option Elab.async false
set_option linter.all false
set_option maxRecDepth 100000
set_option maxHeartbeats 4000000
namespace H10
open K10
open PySem PySem.Spec PyProof.Rows L2 Pd Q A TL
theorem itb (b : Bool) : intTD [.bool b] = some (.int (if b then 1 else 0)) := rfl
theorem letter_by (c : Int) : ∃ l : Ltr, F__law_letter_by [.int c] = some l.d ∧ LtrOk l := by
  have hr : c % 5 = 0 ∨ c % 5 = 1 ∨ c % 5 = 2 ∨ c % 5 = 3 ∨ c % 5 = 4 := by omega
  rcases hr with h | h | h | h | h
  · refine ⟨.add (c / 10 % 9 - 4), F1 rfl ?_, by unfold LtrOk; omega⟩
    unfold g__law_letter_by
    simp [h, Ltr.d, itb]
  · refine ⟨.add (c / 10 % 9 - 4), F1 rfl ?_, by unfold LtrOk; omega⟩
    unfold g__law_letter_by
    simp [h, Ltr.d, itb]
  · refine ⟨.add (c / 10 % 2000000001 - 1000000000), F1 rfl ?_, by unfold LtrOk; omega⟩
    unfold g__law_letter_by
    simp [h, Ltr.d, itb]
  · refine ⟨.fault, F1 rfl ?_, trivial⟩
    unfold g__law_letter_by
    simp [h, Ltr.d, itb]
  · refine ⟨.leave, F1 rfl ?_, trivial⟩
    unfold g__law_letter_by
    simp [h, Ltr.d, itb]
theorem list_at {σ : List Sl} {f g : FE} {ds : List D} {k : Nat} {d : D} (hf : f σ = some (.list ds)) (hg : g σ = some (.int (k : Nat))) (hk : ds[k]? = some d) : e2 ixD f g σ = some d := (e2_of hf hg).trans ((ix_n ds k).trans hk)
/-- a drawn event -/
theorem row_by {N : List Str} (hN : NmOk N 8) (c : Int) : ∃ e : TE, F__law_row_by [.int c, .list (SL N)] = some e.d ∧ e.Ok := by
  have nl : N.length = 8 := by have := hN.len; omega
  obtain ⟨a, ha, ha8⟩ : ∃ a : Nat, c % 8 = (a : Int) ∧ a < 8 := mod_at2 _ (by decide)
  obtain ⟨b, hb, hb8⟩ : ∃ b : Nat, c / 8 % 8 = (b : Int) ∧ b < 8 := mod_at2 _ (by decide)
  obtain ⟨z, hz, hz2⟩ : ∃ z : Nat, c / 8 % 2 = (z : Int) ∧ z < 2 := mod_at2 _ (by decide)
  obtain ⟨l, el, hl⟩ := letter_by (c / 20)
  have hbN : b < N.length := by omega
  obtain ⟨n, hn⟩ : ∃ n, n = N[b] := ⟨_, rfl⟩
  have nok : NmE n := by rw [hn]; exact hN.name _ (List.getElem_mem hbN)
  obtain ⟨W, hW⟩ : ∃ W : List Str, W = (["begins", "ends", "fails", "leaves", "works", "lost", "sent", "sent"] : List Str) := ⟨_, rfl⟩
  have haW : a < W.length := by rw [hW]; exact ha8
  obtain ⟨w, hw⟩ : ∃ w, w = W[a] := ⟨_, rfl⟩
  obtain ⟨k, hk⟩ : ∃ k : Int, k = 1 + (if z = 0 then c / 50 % 12 else c / 50 % 1000000000) := ⟨_, rfl⟩
  have k1 : 1 ≤ k := by rw [hk]; split <;> omega
  have k2 : k ≤ 1000000000 := by rw [hk]; split <;> omega
  obtain ⟨σ, hσ⟩ : ∃ σ : List Sl, σ = [.val (.int c), .val (.list (SL N)), .val (.str w), .val (.str n), .val (.int k)] := ⟨_, rfl⟩
  have run : F__law_row_by [.int c, .list (SL N)] = ((gSeq (gIf (e2 ltD (e2 modD (eVar 0) (eC (.int 8))) (eC (.int 4))) (gRet (eTup (aCons (eVar 2) (aCons (eVar 3) aNil)))) gNil)
    (gSeq (gIf (e2 eqD (eVar 2) (eC (.str "sent"))) (gRet (eTup (aCons (eVar 2) (aCons (eVar 3) (aCons (eVar 4) (aCons (eCall (F__law_letter_by) (aCons (e2 divD (eVar 0) (eC (.int 20))) aNil)) aNil)))))) gNil)
    (gRet (eTup (aCons (eVar 2) (aCons (eVar 3) (aCons (eVar 4) aNil))))))) σ).bind rtK := by
    have s1 : gSet 2 (e2 ixD (eLst (aCons (eC (.str "begins")) (aCons (eC (.str "ends")) (aCons (eC (.str "fails")) (aCons (eC (.str "leaves")) (aCons (eC (.str "works")) (aCons (eC (.str "lost")) (aCons (eC (.str "sent")) (aCons (eC (.str "sent")) aNil))))))))) (e2 modD (eVar 0) (eC (.int 8)))) [.val (.int c), .val (.list (SL N)), .un, .un, .un] = some (.nx [.val (.int c), .val (.list (SL N)), .val (.str w), .un, .un]) := by
      refine gSet_of (list_at (ds := W.map .str) (k := a) (by rw [hW]; exact eLst_of (aCons_of (eC_eq _ _) (aCons_of (eC_eq _ _) (aCons_of (eC_eq _ _) (aCons_of (eC_eq _ _) (aCons_of (eC_eq _ _) (aCons_of (eC_eq _ _) (aCons_of (eC_eq _ _) (aCons_of (eC_eq _ _) aNil_of))))))))) ?_ ?_)
      · rw [← ha]
        exact (e2_of (u := .int c) rfl (eC_eq _ _)).trans (modD_int _ _ (by decide))
      · rw [List.getElem?_map, List.getElem?_eq_getElem haW, hw]
        rfl
    have s2 : gSet 3 (e2 ixD (eVar 1) (e2 modD (e2 divD (eVar 0) (eC (.int 8))) (eCB lenD (aCons (eVar 1) aNil)))) [.val (.int c), .val (.list (SL N)), .val (.str w), .un, .un] = some (.nx [.val (.int c), .val (.list (SL N)), .val (.str w), .val (.str n), .un]) := by
      refine gSet_of (list_at (ds := SL N) (k := b) rfl ?_ ?_)
      · rw [← hb]
        have ln : eCB lenD (aCons (eVar 1) aNil) [.val (.int c), .val (.list (SL N)), .val (.str w), .un, .un] = some (.int 8) := by
          have := len_of' (f := eVar 1) (σ := [.val (.int c), .val (.list (SL N)), .val (.str w), .un, .un]) (ds := SL N) rfl (by unfold SL; rw [List.length_map]; omega)
          rw [this]
          unfold SL
          rw [List.length_map, nl]
          rfl
        exact (e2_of ((e2_of (u := .int c) rfl (eC_eq _ _)).trans (divD_int _ _ ⟨by decide, by decide⟩)) ln).trans (modD_int _ _ (by decide))
      · unfold SL
        rw [List.getElem?_map, List.getElem?_eq_getElem hbN, hn]
        rfl
    have s3 : gSet 4 (e2 addD (eC (.int 1)) (e2 ixD (eLst (aCons (e2 modD (e2 divD (eVar 0) (eC (.int 50))) (eC (.int 12))) (aCons (e2 modD (e2 divD (eVar 0) (eC (.int 50))) (e2 powD (eC (.int 10)) (eC (.int 9)))) aNil))) (e2 modD (e2 divD (eVar 0) (eC (.int 8))) (eC (.int 2))))) [.val (.int c), .val (.list (SL N)), .val (.str w), .val (.str n), .un] = some (.nx σ) := by
      rw [hσ]
      refine gSet_of ?_
      have d50 : e2 divD (eVar 0) (eC (.int 50)) [.val (.int c), .val (.list (SL N)), .val (.str w), .val (.str n), .un] = some (.int (c / 50)) := (e2_of (u := .int c) rfl (eC_eq _ _)).trans (divD_int _ _ ⟨by decide, by decide⟩)
      refine (e2_of (eC_eq _ _) (v := .int (if z = 0 then c / 50 % 12 else c / 50 % 1000000000)) (list_at (ds := [.int (c / 50 % 12), .int (c / 50 % 1000000000)]) (k := z) (eLst_of (aCons_of ((e2_of d50 (eC_eq _ _)).trans (modD_int _ _ (by decide))) (aCons_of ((e2_of d50 ((e2_of (eC_eq _ _) (eC_eq _ _)).trans powD_9)).trans (modD_int _ _ (by decide))) aNil_of))) ?_ ?_)).trans ?_
      · rw [← hz]
        exact (e2_of ((e2_of (u := .int c) rfl (eC_eq _ _)).trans (divD_int _ _ ⟨by decide, by decide⟩)) (eC_eq _ _)).trans (modD_int _ _ (by decide))
      · match z, hz2 with
        | 0, _ => rfl
        | 1, _ => rfl
      · rw [addD_int, hk]
    refine F1 rfl ?_
    show (g__law_row_by [.val (.int c), .val (.list (SL N)), .un, .un, .un]).bind rtK = _
    unfold g__law_row_by
    rw [gSeq_of' s1, gSeq_of' s2, gSeq_of' s3]
  have v0 : eVar 0 σ = some (.int c) := by rw [hσ]; rfl
  have v2 : eVar 2 σ = some (.str w) := by rw [hσ]; rfl
  have v3 : eVar 3 σ = some (.str n) := by rw [hσ]; rfl
  have v4 : eVar 4 σ = some (.int k) := by rw [hσ]; rfl
  have t1 : e2 ltD (e2 modD (eVar 0) (eC (.int 8))) (eC (.int 4)) σ = some (.bool (decide (a < 4))) := by
    refine (e2_of ((e2_of v0 (eC_eq _ _)).trans (modD_int _ _ (by decide))) (eC_eq _ _)).trans ?_
    rw [ha]
    show some (PyData.bool (decide ((a : Int) < 4))) = _
    congr 2
    by_cases q : a < 4
    · rw [decide_eq_true q, decide_eq_true (by omega)]
    · rw [decide_eq_false q, decide_eq_false (by omega)]
  have t2 : e2 eqD (eVar 2) (eC (.str "sent")) σ = some (.bool (w == "sent")) := (e2_of v2 (eC_eq _ _)).trans (eqD_ss _ _)
  rw [run]
  have wlt : ∀ a (h : a < 8), a < 4 → (["begins", "ends", "fails", "leaves", "works", "lost", "sent", "sent"] : List Str)[a] ∈ (["begins", "ends", "fails", "leaves"] : List Str) := by decide +kernel
  have wge : ∀ a (h : a < 8), ¬ a < 4 → (["begins", "ends", "fails", "leaves", "works", "lost", "sent", "sent"] : List Str)[a] ∈ (["works", "lost"] : List Str) ∨ (["begins", "ends", "fails", "leaves", "works", "lost", "sent", "sent"] : List Str)[a] = "sent" := by decide +kernel
  subst hW
  by_cases q : a < 4
  · refine ⟨.two w n, ?_, by rw [hw]; exact wlt a ha8 q, nok⟩
    have : gIf (e2 ltD (e2 modD (eVar 0) (eC (.int 8))) (eC (.int 4))) (gRet (eTup (aCons (eVar 2) (aCons (eVar 3) aNil)))) gNil σ = some (.rt (TE.two w n).d) := by
      rw [gIf_of t1, decide_eq_true q, if_pos rfl]
      exact gRet_of (eTup_of (aCons_of v2 (aCons_of v3 aNil_of)))
    rw [gSeq_rt this]
    rfl
  · have n1 : gIf (e2 ltD (e2 modD (eVar 0) (eC (.int 8))) (eC (.int 4))) (gRet (eTup (aCons (eVar 2) (aCons (eVar 3) aNil)))) gNil σ = some (.nx σ) := by
      rw [gIf_of t1, decide_eq_false q, if_neg (by decide)]
      rfl
    rw [gSeq_of' n1]
    rcases wge a ha8 q with m | m
    · have hne : (w == "sent") = false := by
        rw [hw]
        simp only [List.mem_cons, List.not_mem_nil, or_false] at m
        rcases m with m | m <;> rw [m] <;> decide +kernel
      refine ⟨.three w n k, ?_, by rw [hw]; exact m, nok, k1, k2⟩
      have n2 : gIf (e2 eqD (eVar 2) (eC (.str "sent"))) (gRet (eTup (aCons (eVar 2) (aCons (eVar 3) (aCons (eVar 4) (aCons (eCall (F__law_letter_by) (aCons (e2 divD (eVar 0) (eC (.int 20))) aNil)) aNil)))))) gNil σ = some (.nx σ) := by
        rw [gIf_of t2, hne, if_neg (by decide)]
        rfl
      rw [gSeq_of' n2, gRet_of (eTup_of (aCons_of v2 (aCons_of v3 (aCons_of v4 aNil_of))))]
      rfl
    · have hw2 : w = "sent" := by rw [hw]; exact m
      have heq : (w == "sent") = true := by rw [hw2]; decide +kernel
      refine ⟨.sent n k l, ?_, nok, k1, k2, hl⟩
      have : gIf (e2 eqD (eVar 2) (eC (.str "sent"))) (gRet (eTup (aCons (eVar 2) (aCons (eVar 3) (aCons (eVar 4) (aCons (eCall (F__law_letter_by) (aCons (e2 divD (eVar 0) (eC (.int 20))) aNil)) aNil)))))) gNil σ = some (.rt (TE.sent n k l).d) := by
        rw [gIf_of t2, heq, if_pos rfl]
        have d20 : e2 divD (eVar 0) (eC (.int 20)) σ = some (.int (c / 20)) := (e2_of v0 (eC_eq _ _)).trans (divD_int _ _ ⟨by decide, by decide⟩)
        have := gRet_of (eTup_of (aCons_of v2 (aCons_of v3 (aCons_of v4 (aCons_of (eCall_of (aCons_of d20 aNil_of) el) aNil_of)))))
        rw [this, hw2]
        rfl
      rw [gSeq_rt this]
      rfl
end H10

set_option Elab.async false
set_option linter.all false
set_option maxRecDepth 100000
set_option maxHeartbeats 4000000
namespace H10
open K10
open PySem PySem.Spec PyProof.Rows L2 Pd Q A TL
theorem whole_int (n : Int) : F__law_whole [.int n] = some (.bool true) := by
  refine F1 rfl ?_
  unfold g__law_whole
  simp
theorem events_ok (es : List TE) : F__law_events [.list (es.map TE.d)] = some (.bool true) := by
  refine F1 rfl ?_
  unfold g__law_events
  obtain ⟨δ', e, hI⟩ := forG_all (i := 1) (body := b__law_events_1) (fun δ => ∃ x, δ = [.val (.list (es.map TE.d)), x]) (es.map TE.d) (startD 2 [.list (es.map TE.d)]) ⟨_, rfl⟩ (fun d hd δ hδ => by
    obtain ⟨x, rfl⟩ := hδ
    obtain ⟨ev, _, rfl⟩ := List.mem_map.mp hd
    refine ⟨[.val (.list (es.map TE.d)), .val ev.d], ?_, _, rfl⟩
    show b__law_events_1 [.val (.list (es.map TE.d)), .val ev.d] = _
    unfold b__law_events_1
    cases ev with
    | two w i => simp [TE.d]
    | three w i n => simp [TE.d, whole_int]
    | sent i n l => cases l <;> simp [TE.d, Ltr.d, whole_int])
  have s1 : gIf (eNot (eIs "list" (eVar 0))) (gRet (eC (.bool false))) gNil (startD 2 [.list (es.map TE.d)]) = some (.nx (startD 2 [.list (es.map TE.d)])) := by simp [startD]
  have s2 : gFor (iSeq (eVar 0)) 1 b__law_events_1 (startD 2 [.list (es.map TE.d)]) = some (.nx δ') := by
    unfold gFor
    rw [show iSeq (eVar 0) (startD 2 [.list (es.map TE.d)]) = some (es.map TE.d) from rfl, Option.bind_some]
    exact e
  rw [gSeq_of s1, gSeq_of s2]
  rfl
theorem lc_rangeD {i : Nat} {fe : FE} {δ : List Sl} {m : Nat} (f : Nat → D) (h : ∀ k : Nat, k < m → fe ((δ.set i .un).set i (.val (.int (k : Int)))) = some (f k)) (hm : m ≤ lim) : lcQ i (eC (.bool true)) fe δ (rangeD 0 m) = some (.list ((List.range m).map f)) := by
  rw [lcQ_map (fun d => match d with | .int k => f k.toNat | _ => .none) (fun d hd => ?_) (by unfold rangeD; simpa using hm)]
  · congr 2
    unfold rangeD
    rw [List.map_map]
    apply List.map_congr_left
    intro k _
    show f ((0 : Int) + (k : Nat)).toNat = _
    rw [Int.zero_add, Int.toNat_natCast]
  · obtain ⟨k, hk, rfl⟩ := mem_rangeD hd
    rw [Int.zero_add, h k hk]
    show _ = some (f ((k : Nat) : Int).toNat)
    rw [Int.toNat_natCast]
theorem eqD_ii (a b : Int) : eqD (.int a) (.int b) = some (.bool (decide (a = b))) := by
  show some (PyData.bool (a == b)) = _
  congr 2
theorem rows_by (ns : List Int) : ∃ es : List TE, F__law_rows_by [.list (ns.map PyData.int)] = some (.list (es.map TE.d)) ∧ (∀ e ∈ es, e.Ok) ∧ es.length ≤ 400 := by
  have lb := lim_eq2
  obtain ⟨sc, hsc⟩ : ∃ sc : D, sc = .list (ns.map PyData.int) := ⟨_, rfl⟩
  obtain ⟨c, hc⟩ : ∃ c : Int, c = cellZ ns 0 := ⟨_, rfl⟩
  obtain ⟨N, eN, hN⟩ := names_eq2 (cellZ ns 1) 8 (by decide) (by decide)
  have ce : ∀ i : Int, 0 ≤ i → F__law_cell_at [sc, .int i] = some (.int (cellZ ns i.toNat)) := fun i hi => by rw [hsc]; exact cell_eq' ns i hi
  have c0 : F__law_cell_at [sc, .int 0] = some (.int c) := by rw [ce 0 (by decide), hc]; rfl
  obtain ⟨R, hR⟩ : ∃ R : GS, R = (gSeq (gSet 3 (eCall (F__law_names) (aCons (eCall (F__law_cell_at) (aCons (eVar 0) (aCons (eC (.int 1)) aNil))) (aCons (eC (.int 8)) aNil))))
    (gRet (eLc (iR1 (aCons (eVar 2) aNil)) 4 (eC (.bool true)) (eCall (F__law_row_by) (aCons (e2 addD (eCall (F__law_cell_at) (aCons (eVar 0) (aCons (e2 addD (eC (.int 2)) (e2 modD (eVar 4) (eC (.int 30)))) aNil))) (e2 mulD (eC (.int 13)) (e2 divD (eVar 4) (eC (.int 30))))) (aCons (eVar 3) aNil)))))) := ⟨_, rfl⟩
  have key : ∃ m : Nat, m ≤ 400 ∧ F__law_rows_by [sc] = (R [.val sc, .val (.int c), .val (.int (m : Nat)), .un, .un]).bind rtK := by
    have s1 : gSet 1 (eCall (F__law_cell_at) (aCons (eVar 0) (aCons (eC (.int 0)) aNil))) [.val sc, .un, .un, .un, .un] = some (.nx [.val sc, .val (.int c), .un, .un, .un]) :=
      gSet_of (eCall_of (aCons_of (d := sc) rfl (aCons_of (eC_eq _ _) aNil_of)) c0)
    have s2 : gSet 2 (e2 modD (eVar 1) (eC (.int 9))) [.val sc, .val (.int c), .un, .un, .un] = some (.nx [.val sc, .val (.int c), .val (.int (c % 9)), .un, .un]) :=
      gSet_of ((e2_of (u := .int c) rfl (eC_eq _ _)).trans (modD_int _ _ (by decide)))
    have dv : ∀ (k : Int) (σ : List Sl), 0 < k → k ≤ 1000000 → eVar 1 σ = some (.int c) → e2 divD (eVar 1) (eC (.int k)) σ = some (.int (c / k)) := fun k σ h1 h2 h => (e2_of h (eC_eq _ _)).trans (divD_int _ _ ⟨by omega, by omega⟩)
    have t1 : ∀ x : D, e2 eqD (e2 modD (e2 divD (eVar 1) (eC (.int 9))) (eC (.int 4))) (eC (.int 1)) [.val sc, .val (.int c), .val x, .un, .un] = some (.bool (decide (c / 9 % 4 = 1))) := fun x =>
      (e2_of ((e2_of (dv 9 _ (by decide) (by decide) rfl) (eC_eq _ _)).trans (modD_int _ _ (by decide))) (eC_eq _ _)).trans (eqD_ii _ _)
    have t2 : ∀ x : D, e2 eqD (e2 modD (e2 divD (eVar 1) (eC (.int 9))) (eC (.int 32))) (eC (.int 5)) [.val sc, .val (.int c), .val x, .un, .un] = some (.bool (decide (c / 9 % 32 = 5))) := fun x =>
      (e2_of ((e2_of (dv 9 _ (by decide) (by decide) rfl) (eC_eq _ _)).trans (modD_int _ _ (by decide))) (eC_eq _ _)).trans (eqD_ii _ _)
    obtain ⟨m1, h1, s3⟩ : ∃ m1 : Int, (0 ≤ m1 ∧ m1 ≤ 400) ∧ gIf (e2 eqD (e2 modD (e2 divD (eVar 1) (eC (.int 9))) (eC (.int 4))) (eC (.int 1))) (gSet 2 (e2 modD (e2 divD (eVar 1) (eC (.int 36))) (eC (.int 91)))) gNil [.val sc, .val (.int c), .val (.int (c % 9)), .un, .un] = some (.nx [.val sc, .val (.int c), .val (.int m1), .un, .un]) := by
      by_cases q : c / 9 % 4 = 1
      · refine ⟨c / 36 % 91, by omega, ?_⟩
        rw [gIf_of (t1 _), decide_eq_true q, if_pos rfl]
        exact gSet_of ((e2_of (dv 36 _ (by decide) (by decide) rfl) (eC_eq _ _)).trans (modD_int _ _ (by decide)))
      · refine ⟨c % 9, by omega, ?_⟩
        rw [gIf_of (t1 _), decide_eq_false q, if_neg (by decide)]
        rfl
    obtain ⟨m2, h2, s4⟩ : ∃ m2 : Int, (0 ≤ m2 ∧ m2 ≤ 400) ∧ gIf (e2 eqD (e2 modD (e2 divD (eVar 1) (eC (.int 9))) (eC (.int 32))) (eC (.int 5))) (gSet 2 (eC (.int 400))) gNil [.val sc, .val (.int c), .val (.int m1), .un, .un] = some (.nx [.val sc, .val (.int c), .val (.int m2), .un, .un]) := by
      by_cases q : c / 9 % 32 = 5
      · refine ⟨400, by omega, ?_⟩
        rw [gIf_of (t2 _), decide_eq_true q, if_pos rfl]
        exact gSet_of (eC_eq _ _)
      · refine ⟨m1, h1, ?_⟩
        rw [gIf_of (t2 _), decide_eq_false q, if_neg (by decide)]
        rfl
    refine ⟨m2.toNat, by omega, ?_⟩
    have : ((m2.toNat : Nat) : Int) = m2 := by omega
    rw [this]
    refine F1 rfl ?_
    show (g__law_rows_by [.val sc, .un, .un, .un, .un]).bind rtK = _
    unfold g__law_rows_by
    rw [gSeq_of' s1, gSeq_of' s2, gSeq_of' s3, gSeq_of' s4, hR]
  obtain ⟨m, hm, run⟩ := key
  have ex : ∀ k : Nat, ∃ e : TE, F__law_row_by [.int (cellZ ns (2 + k % 30) + 13 * ((k / 30 : Nat) : Int)), .list (SL N)] = some e.d ∧ e.Ok := fun k => row_by hN _
  let f : Nat → TE := fun k => (ex k).choose
  have hf : ∀ k, F__law_row_by [.int (cellZ ns (2 + k % 30) + 13 * ((k / 30 : Nat) : Int)), .list (SL N)] = some (f k).d ∧ (f k).Ok := fun k => (ex k).choose_spec
  refine ⟨(List.range m).map f, ?_, fun e he => ?_, by rw [List.length_map, List.length_range]; exact hm⟩
  · rw [← hsc, run, hR]
    have s5 : gSet 3 (eCall (F__law_names) (aCons (eCall (F__law_cell_at) (aCons (eVar 0) (aCons (eC (.int 1)) aNil))) (aCons (eC (.int 8)) aNil))) [.val sc, .val (.int c), .val (.int (m : Nat)), .un, .un] = some (.nx [.val sc, .val (.int c), .val (.int (m : Nat)), .val (.list (SL N)), .un]) :=
      gSet_of (eCall_of (aCons_of (eCall_of (aCons_of (d := sc) rfl (aCons_of (eC_eq (.int 1) _) aNil_of)) (ce 1 (by decide))) (aCons_of (eC_eq (.int 8) _) aNil_of)) eN)
    rw [gSeq_of' s5]
    have lc : eLc (iR1 (aCons (eVar 2) aNil)) 4 (eC (.bool true)) (eCall (F__law_row_by) (aCons (e2 addD (eCall (F__law_cell_at) (aCons (eVar 0) (aCons (e2 addD (eC (.int 2)) (e2 modD (eVar 4) (eC (.int 30)))) aNil))) (e2 mulD (eC (.int 13)) (e2 divD (eVar 4) (eC (.int 30))))) (aCons (eVar 3) aNil))) [.val sc, .val (.int c), .val (.int (m : Nat)), .val (.list (SL N)), .un] = some (.list ((List.range m).map fun k => (f k).d)) := by
      rw [eLc_eq, iR1_eq, aCons_of (d := .int (m : Nat)) rfl aNil_of, Option.bind_some, r1K_eq _ (by omega), Option.bind_some, Int.toNat_natCast]
      refine lc_rangeD (fun k => (f k).d) (fun k hk => ?_) (by omega)
      obtain ⟨σ, hσ⟩ : ∃ σ : List Sl, σ = [.val sc, .val (.int c), .val (.int (m : Nat)), .val (.list (SL N)), .val (.int (k : Nat))] := ⟨_, rfl⟩
      have v0 : eVar 0 σ = some sc := by rw [hσ]; rfl
      have v3 : eVar 3 σ = some (.list (SL N)) := by rw [hσ]; rfl
      have v4 : eVar 4 σ = some (.int (k : Nat)) := by rw [hσ]; rfl
      show eCall (F__law_row_by) _ [.val sc, .val (.int c), .val (.int (m : Nat)), .val (.list (SL N)), .val (.int (k : Nat))] = _
      rw [← hσ]
      have m30 : e2 addD (eC (.int 2)) (e2 modD (eVar 4) (eC (.int 30))) σ = some (.int (2 + (k : Int) % 30)) := (e2_of (eC_eq _ _) ((e2_of v4 (eC_eq _ _)).trans (modD_int _ _ (by decide)))).trans (addD_int _ _)
      have d30 : e2 mulD (eC (.int 13)) (e2 divD (eVar 4) (eC (.int 30))) σ = some (.int (13 * ((k : Int) / 30))) := (e2_of (eC_eq _ _) ((e2_of v4 (eC_eq _ _)).trans (divD_int _ _ ⟨by decide, by decide⟩))).trans ((mulD_int _ _).trans (if_pos (by rw [decide_eq_true (show -(2 ^ 64) < (13 : Int) ∧ (13 : Int) < 2 ^ 64 by omega)]; rfl)))
      have ca := ce (2 + (k : Int) % 30) (by omega)
      have tn : (2 + (k : Int) % 30).toNat = 2 + k % 30 := by omega
      rw [tn] at ca
      have q := (hf k).1
      rw [Int.natCast_ediv] at q
      exact eCall_of (aCons_of ((e2_of (eCall_of (aCons_of v0 (aCons_of m30 aNil_of)) ca) d30).trans (addD_int _ _)) (aCons_of v3 aNil_of)) q
    rw [gRet_of lc, List.map_map]
    rfl
  · obtain ⟨k, _, rfl⟩ := List.mem_map.mp he
    exact (hf k).2
end H10

set_option Elab.async false
set_option linter.all false
set_option maxRecDepth 100000
set_option maxHeartbeats 4000000
namespace H10
open K10
open PySem PySem.Spec PyProof.Rows L2 Pd Q A TL
theorem due_ok {es : List TE} (h : ∀ e ∈ es, e.Ok) (hl : es.length ≤ 1000) {a0 a2 a3 a4 a5 a6 : Sl} : e2 joinD (eC (.str "")) (eLc (iSeq (eVar 1)) 6 (eC (.bool true)) (e2 addD (eCall (F__law_words_of) (aCons (eVar 6) aNil)) (eC (.str "\n")))) [a0, .val (.list (es.map TE.d)), a2, a3, a4, a5, a6] = some (.str (text es)) := by
  have lb := lim_eq2
  have lc : eLc (iSeq (eVar 1)) 6 (eC (.bool true)) (e2 addD (eCall (F__law_words_of) (aCons (eVar 6) aNil)) (eC (.str "\n"))) [a0, .val (.list (es.map TE.d)), a2, a3, a4, a5, a6] = some (.list ((es.map fun e => rowT e ++ "\n").map .str)) := by
    rw [eLc_eq, show iSeq (eVar 1) [a0, .val (.list (es.map TE.d)), a2, a3, a4, a5, a6] = some (es.map TE.d) from rfl]
    show lcQ 6 _ _ _ (es.map TE.d) = _
    rw [lcQ_of (fun _ => true) (fun d => .str ((match F__law_words_of [d] with | some (.str s) => s | _ => "") ++ "\n")) (fun d hd => rfl) (fun d hd _ => ?_) (by rw [List.length_map]; omega), List.filter_eq_self.mpr fun _ _ => rfl]
    · rw [List.map_map, List.map_map]
      congr 2
      refine List.map_congr_left fun e he => ?_
      show PyData.str ((match F__law_words_of [e.d] with | some (.str s) => s | _ => "") ++ "\n") = _
      rw [words_ok (h e he)]
      rfl
    · obtain ⟨e, he, rfl⟩ := List.mem_map.mp hd
      show e2 addD (eCall (F__law_words_of) (aCons (eVar 6) aNil)) (eC (.str "\n")) [a0, .val (.list (es.map TE.d)), a2, a3, a4, a5, .val e.d] = _
      refine (e2_of (eCall_of (aCons_of (d := e.d) rfl aNil_of) (words_ok (h e he))) (eC_eq _ _)).trans ?_
      have l1 : ("\n" : Str).length = 1 := by decide +kernel
      rw [addD_str _ _ (by have := row_len (h e he); omega), words_ok (h e he)]
  refine (e2_of (eC_eq _ _) lc).trans ?_
  show (strsD _).bind _ = _
  rw [strsD_map, Option.bind_some, if_pos]
  · rfl
  · have s := sum_le (l := es.map fun e => rowT e ++ "\n") (k := 61) fun w hw => by
      obtain ⟨e, he, rfl⟩ := List.mem_map.mp hw
      have := row_len (h e he)
      rw [len_append]
      have l1 : ("\n" : Str).length = 1 := by decide +kernel
      omega
    have l0 : ("" : Str).length = 0 := by decide +kernel
    rw [l0, List.length_map] at *
    omega
theorem text_snoc (e : TE) : ∀ es : List TE, tl (text (es ++ [e])) = tl (text es) ++ (tl (rowT e) ++ [10])
  | [] => by
    rw [List.nil_append, text_cons]
    have : tl (text []) = [] := by decide +kernel
    rw [this]
    rfl
  | a :: es => by rw [List.cons_append, text_cons, text_cons, text_snoc e es]; simp
def eA : TE := .two "ends" "a"
theorem eA_ok : eA.Ok := ⟨by decide +kernel, sok_lit _ (by decide +kernel), by decide +kernel⟩
theorem text_eA (es : List TE) : text (es ++ [eA]) = text es ++ "ends a\n" := by
  refine ext_tl ?_
  rw [text_snoc, tl_append]
  congr 1
theorem ltr_fit {l : Ltr} : fitD l.d = true ∧ l.d.depth ≤ 3 := by
  have f1 : fitD (.str "add") = true := fitD_str (sok_lit _ (by decide +kernel))
  have f2 : fitD (.str "fault") = true := fitD_str (sok_lit _ (by decide +kernel))
  have f3 : fitD (.str "leave") = true := fitD_str (sok_lit _ (by decide +kernel))
  cases l with
  | add k =>
    refine ⟨fitD_tuple fun d hd => ?_, by simp [Ltr.d, PyData.depth, PyData.depthAll]⟩
    simp only [List.mem_cons, List.not_mem_nil, or_false] at hd
    rcases hd with rfl | rfl
    · exact ⟨f1, by simp [PyData.depth]⟩
    · exact ⟨rfl, by simp [PyData.depth]⟩
  | fault =>
    refine ⟨fitD_tuple fun d hd => ?_, by simp [Ltr.d, PyData.depth, PyData.depthAll]⟩
    simp only [List.mem_cons, List.not_mem_nil, or_false] at hd
    rw [hd]
    exact ⟨f2, by simp [PyData.depth]⟩
  | leave =>
    refine ⟨fitD_tuple fun d hd => ?_, by simp [Ltr.d, PyData.depth, PyData.depthAll]⟩
    simp only [List.mem_cons, List.not_mem_nil, or_false] at hd
    rw [hd]
    exact ⟨f3, by simp [PyData.depth]⟩
theorem te_fit {e : TE} (h : e.Ok) : fitD e.d = true ∧ e.d.depth ≤ 60 := by
  have ds : ∀ s : Str, (PyData.str s).depth ≤ 60 := fun s => by simp [PyData.depth]
  have di : ∀ s : Int, (PyData.int s).depth ≤ 60 := fun s => by simp [PyData.depth]
  have fw : ∀ w ∈ (["begins", "ends", "fails", "leaves", "works", "lost", "sent"] : List Str), fitD (.str w) = true := fun w hw => by
    simp only [List.mem_cons, List.not_mem_nil, or_false] at hw
    rcases hw with rfl | rfl | rfl | rfl | rfl | rfl | rfl <;> exact fitD_str (sok_lit _ (by decide +kernel))
  cases e with
  | two w n =>
    refine ⟨fitD_tuple fun d hd => ?_, by simp [TE.d, PyData.depth, PyData.depthAll]⟩
    simp only [List.mem_cons, List.not_mem_nil, or_false] at hd
    rcases hd with rfl | rfl
    · exact ⟨fw _ (by have := h.1; simp only [List.mem_cons, List.not_mem_nil, or_false] at this ⊢; rcases this with q | q | q | q <;> simp [q]), ds _⟩
    · exact ⟨fitD_str h.2.1, ds _⟩
  | three w n k =>
    refine ⟨fitD_tuple fun d hd => ?_, by simp [TE.d, PyData.depth, PyData.depthAll]⟩
    simp only [List.mem_cons, List.not_mem_nil, or_false] at hd
    rcases hd with rfl | rfl | rfl
    · exact ⟨fw _ (by have := h.1; simp only [List.mem_cons, List.not_mem_nil, or_false] at this ⊢; rcases this with q | q <;> simp [q]), ds _⟩
    · exact ⟨fitD_str h.2.1.1, ds _⟩
    · exact ⟨rfl, di _⟩
  | sent n k l =>
    have lf := ltr_fit (l := l)
    have ld := lf.2
    refine ⟨fitD_tuple fun d hd => ?_, by simp [TE.d, PyData.depth, PyData.depthAll]; omega⟩
    simp only [List.mem_cons, List.not_mem_nil, or_false] at hd
    rcases hd with rfl | rfl | rfl | rfl
    · exact ⟨fw _ (by simp), ds _⟩
    · exact ⟨fitD_str h.1.1, ds _⟩
    · exact ⟨rfl, di _⟩
    · exact ⟨lf.1, by omega⟩
theorem rows_fit {es : List TE} (h : ∀ e ∈ es, e.Ok) : fitD (.list (es.map TE.d)) = true := fitD_list fun d hd => by
  obtain ⟨e, he, rfl⟩ := List.mem_map.mp hd
  exact te_fit (h e he)
theorem tOr_no {f g : FT} {δ : Q.Env} {M : List Cell} {b : Bool} (h1 : f δ M = some (.ok false M)) (h2 : g δ M = some (.ok b M)) : Q.tOr f g δ M = some (.ok b M) := by
  unfold Q.tOr
  rw [h1, bnd_ok]
  exact h2
theorem vT_of {f : FE} {δ : Q.Env} {M : List Cell} {b : Bool} (h : f (view M δ) = some (.bool b)) : vT f δ M = some (.ok b M) := by unfold vT ofO; rw [h]; rfl
theorem hV_of {f : FE} {δ : Q.Env} {M : List Cell} {s : Str} (h : f (view M δ) = some (.str s)) : hView f δ M = some (.ok (.d (.str s)) M) := by unfold hView ofO; rw [h]; rfl
theorem list_of {f : FH} {δ : Q.Env} {M : List Cell} {ds : List D} (h : f δ M = some (.ok (.d (.list ds)) M)) : hList (haCons f haNil) δ M = some (.ok (.l M.length) (M ++ [.lst (ds.map .d)])) := by
  unfold hList
  rw [a1_of h a0_of, bnd_ok]
  rfl
theorem law_true (ns : List Int) : ∃ M', F_law [.d (.list (ns.map PyData.int))] [] = some (.ok (.d (.bool true)) M') := by
  have lb := lim_eq2
  obtain ⟨es, eR, hes, hl⟩ := rows_by ns
  obtain ⟨sc, hsc⟩ : ∃ sc : D, sc = .list (ns.map PyData.int) := ⟨_, rfl⟩
  rw [← hsc] at eR
  obtain ⟨ds, hds⟩ : ∃ ds : List D, ds = es.map TE.d := ⟨_, rfl⟩
  obtain ⟨du, hdu⟩ : ∃ du : Str, du = text es := ⟨_, rfl⟩
  have dl : du.length ≤ 61 * es.length := by rw [hdu]; exact text_len hes
  have fd : fitD (.list ds) = true := by rw [hds]; exact rows_fit hes
  have tds : F_told [.list ds] = some (.str du) := by rw [hds, hdu]; exact told_ok hes (by omega)
  obtain ⟨M1, hM1⟩ : ∃ M1 : List Cell, M1 = [.lst (ds.map .d)] := ⟨_, rfl⟩
  obtain ⟨M2, hM2⟩ : ∃ M2 : List Cell, M2 = [.lst (ds.map .d), .lst (ds.map .d)] := ⟨_, rfl⟩
  obtain ⟨M3, hM3⟩ : ∃ M3 : List Cell, M3 = [.lst ((ds ++ [eA.d]).map .d), .lst (ds.map .d)] := ⟨_, rfl⟩
  obtain ⟨M4, hM4⟩ : ∃ M4 : List Cell, M4 = [.lst ((ds ++ [eA.d]).map .d), .lst ((ds ++ [PyData.tuple [.str "fails", .str "b"]]).map .d)] := ⟨_, rfl⟩
  obtain ⟨δ0, hδ0⟩ : ∃ δ0 : Q.Env, δ0 = startQ 7 [.d sc] := ⟨_, rfl⟩
  obtain ⟨δ1, hδ1⟩ : ∃ δ1 : Q.Env, δ1 = δ0.set 1 (some (.d (.list ds))) := ⟨_, rfl⟩
  obtain ⟨δ2, hδ2⟩ : ∃ δ2 : Q.Env, δ2 = δ1.set 2 (some (.l 0)) := ⟨_, rfl⟩
  obtain ⟨δ3, hδ3⟩ : ∃ δ3 : Q.Env, δ3 = δ2.set 3 (some (.d (.str du))) := ⟨_, rfl⟩
  obtain ⟨δ4, hδ4⟩ : ∃ δ4 : Q.Env, δ4 = δ3.set 4 (some (.d (.str du))) := ⟨_, rfl⟩
  obtain ⟨δ5, hδ5⟩ : ∃ δ5 : Q.Env, δ5 = δ4.set 5 (some (.l 1)) := ⟨_, rfl⟩
  have dlen : ds.length < lim := by rw [hds, List.length_map]; omega
  have s1 : sSet 1 (lift (eCall (F__law_rows_by) (aCons (eVar 0) aNil))) δ0 [] = some (.nx δ1 []) := by
    rw [hδ1]
    exact set_of (lift_of (eCall_of (aCons_of (pw_at (d := sc) (by rw [hδ0]; rfl)) aNil_of) (by rw [hds]; exact eR)))
  have s2 : sSet 2 (hList (haCons (lift (eVar 1)) haNil)) δ1 [] = some (.nx δ2 M1) := by
    rw [hδ2, hM1]
    exact set_of (list_of (lift_of (pw_at (d := .list ds) (by rw [hδ1, hδ0]; rfl))))
  have s3 : sSet 3 (lift (e2 joinD (eC (.str "")) (eLc (iSeq (eVar 1)) 6 (eC (.bool true)) (e2 addD (eCall (F__law_words_of) (aCons (eVar 6) aNil)) (eC (.str "\n")))))) δ2 M1 = some (.nx δ3 M1) := by
    rw [hδ3]
    refine set_of (lift_of ?_)
    rw [hδ2, hδ1, hδ0, hds, hdu]
    exact due_ok hes (by omega)
  have v2 : ∀ δ : Q.Env, ∀ M : List Cell, ∀ xs : List D, δ[2]? = some (some (.l 0)) → M[0]? = some (.lst (xs.map .d)) → eVar 2 (view M δ) = some (.list xs) := fun δ M xs h1 h2 => vw_at h1 (fz_cell h2)
  have v5 : ∀ δ : Q.Env, ∀ M : List Cell, ∀ xs : List D, δ[5]? = some (some (.l 1)) → M[1]? = some (.lst (xs.map .d)) → eVar 5 (view M δ) = some (.list xs) := fun δ M xs h1 h2 => vw_at h1 (fz_cell h2)
  have vd : ∀ δ : Q.Env, ∀ M : List Cell, ∀ k d, δ[k]? = some (some (.d d)) → eVar k (view M δ) = some d := fun δ M k d h1 => vw_at h1 (fzd 9 M d)
  have s4 : sSet 4 (hView (eCall (F_told) (aCons (eVar 2) aNil))) δ3 M1 = some (.nx δ4 M1) := by
    rw [hδ4]
    exact set_of (hV_of (eCall_of (aCons_of (v2 _ _ ds (by rw [hδ3, hδ2, hδ1, hδ0]; rfl) (by rw [hM1]; rfl)) aNil_of) tds))
  have w4 : ∀ δ : Q.Env, δ[4]? = some (some (.d (.str du))) → eVar 4 (pview δ) = some (.str du) := fun δ h => pw_at h
  have s5 : sIf (tOr (lT (eNot (eIs "str" (eVar 4)))) (tOr (lT (e2 neD (eVar 4) (eVar 3))) (vT (e2 neD (eVar 2) (eVar 1))))) (sRet (lift (eC (.bool false)))) sNil δ4 M1 = some (.nx δ4 M1) := by
    refine if_no (tOr_no (lT_of (not_of' (b := true) ?_)) (tOr_no (lT_of ?_) (vT_of ?_)))
    · rw [eIs_eq, w4 δ4 (by rw [hδ4, hδ3, hδ2, hδ1, hδ0]; rfl)]
      rfl
    · refine (e2_of (w4 δ4 (by rw [hδ4, hδ3, hδ2, hδ1, hδ0]; rfl)) (pw_at (d := .str du) (by rw [hδ4, hδ3, hδ2, hδ1, hδ0]; rfl))).trans ?_
      rw [neD_ss]
      simp
    · exact (e2_of (v2 _ _ ds (by rw [hδ4, hδ3, hδ2, hδ1, hδ0]; rfl) (by rw [hM1]; rfl)) (vd _ _ 1 (.list ds) (by rw [hδ4, hδ3, hδ2, hδ1, hδ0]; rfl))).trans (fit_refl fd)
  have rd : ∀ M, F_read [.d (.str du)] M = some (.ok (.l M.length) (M ++ [.lst (ds.map .d)])) := fun M => by rw [hdu, hds]; exact read_ok hes (by omega)
  have s6 : sSet 5 (hCall F_read (haCons (lift (eVar 3)) haNil)) δ4 M1 = some (.nx δ5 M2) := by
    rw [hδ5, hM2]
    have := (call_of (F := F_read) (a1_of (lift_of (pw_at (d := .str du) (k := 3) (δ := δ4) (by rw [hδ4, hδ3, hδ2, hδ1, hδ0]; rfl))) a0_of)).trans (rd M1)
    rw [hM1] at this ⊢
    exact set_of this
  have d5 : δ5[5]? = some (some (.l 1)) := by rw [hδ5, hδ4, hδ3, hδ2, hδ1, hδ0]; rfl
  have d2 : δ5[2]? = some (some (.l 0)) := by rw [hδ5, hδ4, hδ3, hδ2, hδ1, hδ0]; rfl
  have d1 : δ5[1]? = some (some (.d (.list ds))) := by rw [hδ5, hδ4, hδ3, hδ2, hδ1, hδ0]; rfl
  have d3 : δ5[3]? = some (some (.d (.str du))) := by rw [hδ5, hδ4, hδ3, hδ2, hδ1, hδ0]; rfl
  have s7 : sIf (tOr (tNot (vT (eCall (F__law_events) (aCons (eVar 5) aNil)))) (vT (e2 neD (eVar 5) (eVar 1)))) (sRet (lift (eC (.bool false)))) sNil δ5 M2 = some (.nx δ5 M2) := by
    refine if_no (tOr_no (tNot_of (b := true) (vT_of ?_)) (vT_of ?_))
    · exact eCall_of (aCons_of (v5 _ _ ds d5 (by rw [hM2]; rfl)) aNil_of) (by rw [hds]; exact events_ok es)
    · exact (e2_of (v5 _ _ ds d5 (by rw [hM2]; rfl)) (vd _ _ 1 (.list ds) d1)).trans (fit_refl fd)
  have s8 : sExpr (hApp (hVar 2) (lift (eTup (aCons (eC (.str "ends")) (aCons (eC (.str "a")) aNil))))) δ5 M2 = some (.nx δ5 M3) := by
    have := expr_of (app_of (var_of (M := M2) d2) (lift_of (eTup_of (aCons_of (eC_eq (.str "ends") (pview δ5)) (aCons_of (eC_eq (.str "a") _) aNil_of)))) (by rw [hM2]; rfl) (by rw [List.length_map]; exact dlen))
    rw [this, hM3, hM2, List.map_append]
    rfl
  have es' : ∀ e ∈ es ++ [eA], e.Ok := fun e he => by
    rcases List.mem_append.mp he with he | he
    · exact hes e he
    · rw [List.mem_singleton.mp he]; exact eA_ok
  have t2 : F_told [.list (ds ++ [eA.d])] = some (.str (du ++ "ends a\n")) := by
    have := told_ok es' (by rw [List.length_append]; simp; omega)
    rw [List.map_append, text_eA] at this
    rw [hds, hdu]
    exact this
  have s9 : sIf (tOr (vT (e2 neD (eCall (F_told) (aCons (eVar 2) aNil)) (e2 addD (eVar 3) (eC (.str "ends a\n"))))) (vT (e2 neD (eVar 5) (eVar 1)))) (sRet (lift (eC (.bool false)))) sNil δ5 M3 = some (.nx δ5 M3) := by
    refine if_no (tOr_no (vT_of ?_) (vT_of ?_))
    · have l1 : ("ends a\n" : Str).length = 7 := by decide +kernel
      refine (e2_of (eCall_of (aCons_of (v2 _ _ (ds ++ [eA.d]) d2 (by rw [hM3]; rfl)) aNil_of) t2) ((e2_of (vd _ _ 3 (.str du) d3) (eC_eq _ _)).trans (addD_str _ _ (by omega)))).trans ?_
      rw [neD_ss]
      simp
    · exact (e2_of (v5 _ _ ds d5 (by rw [hM3]; rfl)) (vd _ _ 1 (.list ds) d1)).trans (fit_refl fd)
  have s10 : sExpr (hApp (hVar 5) (lift (eTup (aCons (eC (.str "fails")) (aCons (eC (.str "b")) aNil))))) δ5 M3 = some (.nx δ5 M4) := by
    have := expr_of (app_of (var_of (M := M3) d5) (lift_of (eTup_of (aCons_of (eC_eq (.str "fails") (pview δ5)) (aCons_of (eC_eq (.str "b") _) aNil_of)))) (by rw [hM3]; rfl) (by rw [List.length_map]; exact dlen))
    rw [this, hM4, hM3, List.map_append (l₁ := ds) (l₂ := [PyData.tuple [.str "fails", .str "b"]])]
    rfl
  refine ⟨M4 ++ [.lst (ds.map .d)], ?_⟩
  rw [← hsc]
  refine run_rt (n := 7) rfl ?_
  rw [← hδ0]
  unfold g_law
  rw [seq_of s1, seq_of s2, seq_of s3, seq_of s4, seq_of s5, seq_of s6, seq_of s7, seq_of s8, seq_of s9, seq_of s10]
  have c1 := (call_of (F := F_read) (a1_of (lift_of (M := M4) (pw_at d3)) a0_of)).trans (rd M4)
  have q : eqD (.list ds) (.list ds) = some (.bool true) := by
    rw [eqD_of _ _ fd fd, PySem.SeqAt.eqv_refl _ (SeqAt.canLay_of_shaped (fit_parts fd).2)]
  refine ret_of (hAnd_t (h2v_of c1 (lift_of (pw_at d1)) (fz_cell (ds := ds) (by rw [List.getElem?_append_right (Nat.le_refl _), Nat.sub_self]; rfl)) (fzd 9 _ _) q) (lift_of ?_))
  refine (e2_of (eCall_of (aCons_of (pw_at d1) aNil_of) tds) (pw_at d3)).trans ?_
  rw [eqD_ss]
  simp
end H10

set_option Elab.async false
set_option linter.all false
set_option maxRecDepth 100000
set_option maxHeartbeats 4000000
/-! The end of a law that runs over a store. -/
namespace Q
open PySem PySem.Spec PyProof.Rows L2 Pd
theorem fq_at {P : Program} {w : World} {K : PySem.W.Frag} {mg : Str → Option Value} {base : Heap} {x : Str} {ps : List Str} {k : Nat} {F : FHF} {fa : Addr} {fd : FuncData} {oc : Value} {od : Option Addr} {osl : Array (Option Value)}
    (c : Fq P w K mg base x ps k F) (hm : mg x = some (.ref fa)) (lk : K.lookup fa = some ⟨oc, od, .func fd, osl⟩) : FnOk P w K mg base (L2.CX P w) k fa fd ps (spQ ⟨K, mg, none⟩ F) := by
  obtain ⟨fa', fd', G, hm', _, _, oc', od', osl', lk'⟩ := c
  rw [hm] at hm'
  cases hm'
  rw [lk] at lk'
  cases lk'
  exact G
end Q

set_option Elab.async false
set_option linter.all false
set_option maxRecDepth 100000
set_option maxHeartbeats 4000000
namespace K10
open PySem PySem.Spec PyProof.Rows L2 Pd
theorem all_mk {K : PySem.W.Frag} {h : Heap} {mg : Str → Option Value} (X : K.In h) (G : h.Ns mainGlobals mg) {f0 f1 f2 f3 f4 f5 f6 f7 f8 f9 f10 f11 f12 f13 f14 f15 f16 p_NAMED p_NUMBERED p_PLAIN_LETTERS E_BadText : Addr}
    {od0 an0 od1 an1 od2 an2 od3 an3 od4 an4 od5 an5 od6 an6 od7 an7 od8 an8 od9 an9 od10 an10 od11 an11 od12 an12 od13 an13 od14 an14 od15 an15 od16 an16 : Option Addr} {sl0 sl1 sl2 sl3 sl4 sl5 sl6 sl7 sl8 sl9 sl10 sl11 sl12 sl13 sl14 sl15 sl16 : Array (Option Value)} {oc0 kV0 dc0 pm0 cd0 ct0 oc1 kV1 dc1 pm1 cd1 ct1 oc2 kV2 dc2 pm2 cd2 ct2 oc3 kV3 dc3 pm3 cd3 ct3 oc4 kV4 dc4 pm4 cd4 ct4 oc5 kV5 dc5 pm5 cd5 ct5 oc6 kV6 dc6 pm6 cd6 ct6 oc7 kV7 dc7 pm7 cd7 ct7 oc8 kV8 dc8 pm8 cd8 ct8 oc9 kV9 dc9 pm9 cd9 ct9 oc10 kV10 dc10 pm10 cd10 ct10 oc11 kV11 dc11 pm11 cd11 ct11 oc12 kV12 dc12 pm12 cd12 ct12 oc13 kV13 dc13 pm13 cd13 ct13 oc14 kV14 dc14 pm14 cd14 ct14 oc15 kV15 dc15 pm15 cd15 ct15 oc16 kV16 dc16 pm16 cd16 ct16 : Value}
    (ge_BadText : PySem.W.nsIn K mainGlobals "BadText" = some (some (.ref E_BadText)))
    (a0 : PySem.W.nsIn K mainGlobals "is_name" = some (some (.ref f0)))
    (l0 : K.lookup f0 = some ⟨oc0, od0, .func (PySem.W.fnOf "is_name" "is_name" (defArgs s_is_name) (defBody s_is_name) (defScope s_is_name) .none kV0 dc0 pm0 an0 cd0 ct0), sl0⟩)
    (c0 : PySem.W.codeIn K cd0 "is_name" = true)
    (k0 : PySem.W.keepIn K (.ref f0) = true)
    (a1 : PySem.W.nsIn K mainGlobals "told" = some (some (.ref f1)))
    (l1 : K.lookup f1 = some ⟨oc1, od1, .func (PySem.W.fnOf "told" "told" (defArgs s_told) (defBody s_told) (defScope s_told) .none kV1 dc1 pm1 an1 cd1 ct1), sl1⟩)
    (c1 : PySem.W.codeIn K cd1 "told" = true)
    (k1 : PySem.W.keepIn K (.ref f1) = true)
    (a2 : PySem.W.nsIn K mainGlobals "read" = some (some (.ref f2)))
    (l2 : K.lookup f2 = some ⟨oc2, od2, .func (PySem.W.fnOf "read" "read" (defArgs s_read) (defBody s_read) (defScope s_read) .none kV2 dc2 pm2 an2 cd2 ct2), sl2⟩)
    (c2 : PySem.W.codeIn K cd2 "read" = true)
    (k2 : PySem.W.keepIn K (.ref f2) = true)
    (a3 : PySem.W.nsIn K mainGlobals "_row" = some (some (.ref f3)))
    (l3 : K.lookup f3 = some ⟨oc3, od3, .func (PySem.W.fnOf "_row" "_row" (defArgs s__row) (defBody s__row) (defScope s__row) .none kV3 dc3 pm3 an3 cd3 ct3), sl3⟩)
    (c3 : PySem.W.codeIn K cd3 "_row" = true)
    (k3 : PySem.W.keepIn K (.ref f3) = true)
    (a4 : PySem.W.nsIn K mainGlobals "_event" = some (some (.ref f4)))
    (l4 : K.lookup f4 = some ⟨oc4, od4, .func (PySem.W.fnOf "_event" "_event" (defArgs s__event) (defBody s__event) (defScope s__event) .none kV4 dc4 pm4 an4 cd4 ct4), sl4⟩)
    (c4 : PySem.W.codeIn K cd4 "_event" = true)
    (k4 : PySem.W.keepIn K (.ref f4) = true)
    (a5 : PySem.W.nsIn K mainGlobals "_letter" = some (some (.ref f5)))
    (l5 : K.lookup f5 = some ⟨oc5, od5, .func (PySem.W.fnOf "_letter" "_letter" (defArgs s__letter) (defBody s__letter) (defScope s__letter) .none kV5 dc5 pm5 an5 cd5 ct5), sl5⟩)
    (c5 : PySem.W.codeIn K cd5 "_letter" = true)
    (k5 : PySem.W.keepIn K (.ref f5) = true)
    (a6 : PySem.W.nsIn K mainGlobals "_number" = some (some (.ref f6)))
    (l6 : K.lookup f6 = some ⟨oc6, od6, .func (PySem.W.fnOf "_number" "_number" (defArgs s__number) (defBody s__number) (defScope s__number) .none kV6 dc6 pm6 an6 cd6 ct6), sl6⟩)
    (c6 : PySem.W.codeIn K cd6 "_number" = true)
    (k6 : PySem.W.keepIn K (.ref f6) = true)
    (a7 : PySem.W.nsIn K mainGlobals "_are_figures" = some (some (.ref f7)))
    (l7 : K.lookup f7 = some ⟨oc7, od7, .func (PySem.W.fnOf "_are_figures" "_are_figures" (defArgs s__are_figures) (defBody s__are_figures) (defScope s__are_figures) .none kV7 dc7 pm7 an7 cd7 ct7), sl7⟩)
    (c7 : PySem.W.codeIn K cd7 "_are_figures" = true)
    (k7 : PySem.W.keepIn K (.ref f7) = true)
    (a8 : PySem.W.nsIn K mainGlobals "_law_cell_at" = some (some (.ref f8)))
    (l8 : K.lookup f8 = some ⟨oc8, od8, .func (PySem.W.fnOf "_law_cell_at" "_law_cell_at" (defArgs s__law_cell_at) (defBody s__law_cell_at) (defScope s__law_cell_at) .none kV8 dc8 pm8 an8 cd8 ct8), sl8⟩)
    (c8 : PySem.W.codeIn K cd8 "_law_cell_at" = true)
    (k8 : PySem.W.keepIn K (.ref f8) = true)
    (a9 : PySem.W.nsIn K mainGlobals "_law_whole" = some (some (.ref f9)))
    (l9 : K.lookup f9 = some ⟨oc9, od9, .func (PySem.W.fnOf "_law_whole" "_law_whole" (defArgs s__law_whole) (defBody s__law_whole) (defScope s__law_whole) .none kV9 dc9 pm9 an9 cd9 ct9), sl9⟩)
    (c9 : PySem.W.codeIn K cd9 "_law_whole" = true)
    (k9 : PySem.W.keepIn K (.ref f9) = true)
    (a10 : PySem.W.nsIn K mainGlobals "_law_names" = some (some (.ref f10)))
    (l10 : K.lookup f10 = some ⟨oc10, od10, .func (PySem.W.fnOf "_law_names" "_law_names" (defArgs s__law_names) (defBody s__law_names) (defScope s__law_names) .none kV10 dc10 pm10 an10 cd10 ct10), sl10⟩)
    (c10 : PySem.W.codeIn K cd10 "_law_names" = true)
    (k10 : PySem.W.keepIn K (.ref f10) = true)
    (a11 : PySem.W.nsIn K mainGlobals "_law_letter_by" = some (some (.ref f11)))
    (l11 : K.lookup f11 = some ⟨oc11, od11, .func (PySem.W.fnOf "_law_letter_by" "_law_letter_by" (defArgs s__law_letter_by) (defBody s__law_letter_by) (defScope s__law_letter_by) .none kV11 dc11 pm11 an11 cd11 ct11), sl11⟩)
    (c11 : PySem.W.codeIn K cd11 "_law_letter_by" = true)
    (k11 : PySem.W.keepIn K (.ref f11) = true)
    (a12 : PySem.W.nsIn K mainGlobals "_law_events" = some (some (.ref f12)))
    (l12 : K.lookup f12 = some ⟨oc12, od12, .func (PySem.W.fnOf "_law_events" "_law_events" (defArgs s__law_events) (defBody s__law_events) (defScope s__law_events) .none kV12 dc12 pm12 an12 cd12 ct12), sl12⟩)
    (c12 : PySem.W.codeIn K cd12 "_law_events" = true)
    (k12 : PySem.W.keepIn K (.ref f12) = true)
    (a13 : PySem.W.nsIn K mainGlobals "_law_row_by" = some (some (.ref f13)))
    (l13 : K.lookup f13 = some ⟨oc13, od13, .func (PySem.W.fnOf "_law_row_by" "_law_row_by" (defArgs s__law_row_by) (defBody s__law_row_by) (defScope s__law_row_by) .none kV13 dc13 pm13 an13 cd13 ct13), sl13⟩)
    (c13 : PySem.W.codeIn K cd13 "_law_row_by" = true)
    (k13 : PySem.W.keepIn K (.ref f13) = true)
    (a14 : PySem.W.nsIn K mainGlobals "_law_words_of" = some (some (.ref f14)))
    (l14 : K.lookup f14 = some ⟨oc14, od14, .func (PySem.W.fnOf "_law_words_of" "_law_words_of" (defArgs s__law_words_of) (defBody s__law_words_of) (defScope s__law_words_of) .none kV14 dc14 pm14 an14 cd14 ct14), sl14⟩)
    (c14 : PySem.W.codeIn K cd14 "_law_words_of" = true)
    (k14 : PySem.W.keepIn K (.ref f14) = true)
    (a15 : PySem.W.nsIn K mainGlobals "_law_rows_by" = some (some (.ref f15)))
    (l15 : K.lookup f15 = some ⟨oc15, od15, .func (PySem.W.fnOf "_law_rows_by" "_law_rows_by" (defArgs s__law_rows_by) (defBody s__law_rows_by) (defScope s__law_rows_by) .none kV15 dc15 pm15 an15 cd15 ct15), sl15⟩)
    (c15 : PySem.W.codeIn K cd15 "_law_rows_by" = true)
    (k15 : PySem.W.keepIn K (.ref f15) = true)
    (a16 : PySem.W.nsIn K mainGlobals "law" = some (some (.ref f16)))
    (l16 : K.lookup f16 = some ⟨oc16, od16, .func (PySem.W.fnOf "law" "law" (defArgs s_law) (defBody s_law) (defScope s_law) .none kV16 dc16 pm16 an16 cd16 ct16), sl16⟩)
    (c16 : PySem.W.codeIn K cd16 "law" = true)
    (k16 : PySem.W.keepIn K (.ref f16) = true)
    (x_BadText : PySem.W.excIn K E_BadText [.type "ValueError", .type "Exception", .type "BaseException", .type "object"] "ValueError.__new__" = true)
    (ke_BadText : PySem.W.keepIn K (.ref E_BadText) = true)
    (be_BadText : PySem.W.subIn K (.ref E_BadText) (.type "BaseException") = some true)
    (te_BadText : PySem.W.typeIn K (.ref E_BadText) = some (.type "type"))
    (z_all : PySem.W.nsIn K mainGlobals "all" = some none)
    (z_bool : PySem.W.nsIn K mainGlobals "bool" = some none)
    (z_int : PySem.W.nsIn K mainGlobals "int" = some none)
    (z_isinstance : PySem.W.nsIn K mainGlobals "isinstance" = some none)
    (z_len : PySem.W.nsIn K mainGlobals "len" = some none)
    (z_list : PySem.W.nsIn K mainGlobals "list" = some none)
    (z_range : PySem.W.nsIn K mainGlobals "range" = some none)
    (z_str : PySem.W.nsIn K mainGlobals "str" = some none)
    (z_tuple : PySem.W.nsIn K mainGlobals "tuple" = some none)
    {t_LARGEST : Tok}
    (c_LARGEST : PySem.W.nsIn K mainGlobals "LARGEST" = some (some (.int 1000000000 t_LARGEST)))
    {t_LONGEST_NAME : Tok}
    (c_LONGEST_NAME : PySem.W.nsIn K mainGlobals "LONGEST_NAME" = some (some (.int 8 t_LONGEST_NAME)))
    {t_MOST_FIGURES : Tok}
    (c_MOST_FIGURES : PySem.W.nsIn K mainGlobals "MOST_FIGURES" = some (some (.int 10 t_MOST_FIGURES)))
    (c_NAMED : PySem.W.nsIn K mainGlobals "NAMED" = some (some (.ref p_NAMED)))
    (q_NAMED : KTup K p_NAMED [(.str "begins"), (.str "ends"), (.str "leaves"), (.str "fails")])
    (c_NUMBERED : PySem.W.nsIn K mainGlobals "NUMBERED" = some (some (.ref p_NUMBERED)))
    (q_NUMBERED : KTup K p_NUMBERED [(.str "works"), (.str "lost")])
    (c_PLAIN_LETTERS : PySem.W.nsIn K mainGlobals "PLAIN_LETTERS" = some (some (.ref p_PLAIN_LETTERS)))
    (q_PLAIN_LETTERS : KTup K p_PLAIN_LETTERS [(.tuple [(.str "fault")]), (.tuple [(.str "leave")])])
    : TX K mg where
  d_is_name := ⟨f0, _, fun_mk (st := s_is_name) l0 c0 k0, PySem.W.mg_of X G a0, (fun_mk (st := s_is_name) l0 c0 k0).binds (ps := ["thing"]) fun _ _ _ _ _ _ us hl => match us, hl with | [_], _ => rfl⟩
  d_told := ⟨f1, _, fun_mk (st := s_told) l1 c1 k1, PySem.W.mg_of X G a1, (fun_mk (st := s_told) l1 c1 k1).binds (ps := ["events"]) fun _ _ _ _ _ _ us hl => match us, hl with | [_], _ => rfl⟩
  d_read := ⟨f2, _, fun_mk (st := s_read) l2 c2 k2, PySem.W.mg_of X G a2, (fun_mk (st := s_read) l2 c2 k2).binds (ps := ["text"]) fun _ _ _ _ _ _ us hl => match us, hl with | [_], _ => rfl⟩
  d__row := ⟨f3, _, fun_mk (st := s__row) l3 c3 k3, PySem.W.mg_of X G a3, (fun_mk (st := s__row) l3 c3 k3).binds (ps := ["event"]) fun _ _ _ _ _ _ us hl => match us, hl with | [_], _ => rfl⟩
  d__event := ⟨f4, _, fun_mk (st := s__event) l4 c4 k4, PySem.W.mg_of X G a4, (fun_mk (st := s__event) l4 c4 k4).binds (ps := ["words"]) fun _ _ _ _ _ _ us hl => match us, hl with | [_], _ => rfl⟩
  d__letter := ⟨f5, _, fun_mk (st := s__letter) l5 c5 k5, PySem.W.mg_of X G a5, (fun_mk (st := s__letter) l5 c5 k5).binds (ps := ["words"]) fun _ _ _ _ _ _ us hl => match us, hl with | [_], _ => rfl⟩
  d__number := ⟨f6, _, fun_mk (st := s__number) l6 c6 k6, PySem.W.mg_of X G a6, (fun_mk (st := s__number) l6 c6 k6).binds (ps := ["word", "low"]) fun _ _ _ _ _ _ us hl => match us, hl with | [_, _], _ => rfl⟩
  d__are_figures := ⟨f7, _, fun_mk (st := s__are_figures) l7 c7 k7, PySem.W.mg_of X G a7, (fun_mk (st := s__are_figures) l7 c7 k7).binds (ps := ["word"]) fun _ _ _ _ _ _ us hl => match us, hl with | [_], _ => rfl⟩
  d__law_cell_at := ⟨f8, _, fun_mk (st := s__law_cell_at) l8 c8 k8, PySem.W.mg_of X G a8, (fun_mk (st := s__law_cell_at) l8 c8 k8).binds (ps := ["_law_script", "_law_k"]) fun _ _ _ _ _ _ us hl => match us, hl with | [_, _], _ => rfl⟩
  d__law_whole := ⟨f9, _, fun_mk (st := s__law_whole) l9 c9 k9, PySem.W.mg_of X G a9, (fun_mk (st := s__law_whole) l9 c9 k9).binds (ps := ["_law_found"]) fun _ _ _ _ _ _ us hl => match us, hl with | [_], _ => rfl⟩
  d__law_names := ⟨f10, _, fun_mk (st := s__law_names) l10 c10 k10, PySem.W.mg_of X G a10, (fun_mk (st := s__law_names) l10 c10 k10).binds (ps := ["_law_cell", "_law_many"]) fun _ _ _ _ _ _ us hl => match us, hl with | [_, _], _ => rfl⟩
  d__law_letter_by := ⟨f11, _, fun_mk (st := s__law_letter_by) l11 c11 k11, PySem.W.mg_of X G a11, (fun_mk (st := s__law_letter_by) l11 c11 k11).binds (ps := ["_law_cell"]) fun _ _ _ _ _ _ us hl => match us, hl with | [_], _ => rfl⟩
  d__law_events := ⟨f12, _, fun_mk (st := s__law_events) l12 c12 k12, PySem.W.mg_of X G a12, (fun_mk (st := s__law_events) l12 c12 k12).binds (ps := ["_law_found"]) fun _ _ _ _ _ _ us hl => match us, hl with | [_], _ => rfl⟩
  d__law_row_by := ⟨f13, _, fun_mk (st := s__law_row_by) l13 c13 k13, PySem.W.mg_of X G a13, (fun_mk (st := s__law_row_by) l13 c13 k13).binds (ps := ["_law_cell", "_law_names_here"]) fun _ _ _ _ _ _ us hl => match us, hl with | [_, _], _ => rfl⟩
  d__law_words_of := ⟨f14, _, fun_mk (st := s__law_words_of) l14 c14 k14, PySem.W.mg_of X G a14, (fun_mk (st := s__law_words_of) l14 c14 k14).binds (ps := ["_law_row"]) fun _ _ _ _ _ _ us hl => match us, hl with | [_], _ => rfl⟩
  d__law_rows_by := ⟨f15, _, fun_mk (st := s__law_rows_by) l15 c15 k15, PySem.W.mg_of X G a15, (fun_mk (st := s__law_rows_by) l15 c15 k15).binds (ps := ["_law_script"]) fun _ _ _ _ _ _ us hl => match us, hl with | [_], _ => rfl⟩
  d_law := ⟨f16, _, fun_mk (st := s_law) l16 c16 k16, PySem.W.mg_of X G a16, (fun_mk (st := s_law) l16 c16 k16).binds (ps := ["_law_script"]) fun _ _ _ _ _ _ us hl => match us, hl with | [_], _ => rfl⟩
  x_BadText := ⟨E_BadText, PySem.W.mg_of X G ge_BadText, x_BadText, ke_BadText, be_BadText, te_BadText⟩
  z_all := PySem.W.mg_none_of X G z_all
  z_bool := PySem.W.mg_none_of X G z_bool
  z_int := PySem.W.mg_none_of X G z_int
  z_isinstance := PySem.W.mg_none_of X G z_isinstance
  z_len := PySem.W.mg_none_of X G z_len
  z_list := PySem.W.mg_none_of X G z_list
  z_range := PySem.W.mg_none_of X G z_range
  z_str := PySem.W.mg_none_of X G z_str
  z_tuple := PySem.W.mg_none_of X G z_tuple
  c_LARGEST := ⟨_, PySem.W.mg_of X G c_LARGEST⟩
  c_LONGEST_NAME := ⟨_, PySem.W.mg_of X G c_LONGEST_NAME⟩
  c_MOST_FIGURES := ⟨_, PySem.W.mg_of X G c_MOST_FIGURES⟩
  c_NAMED := ⟨_, PySem.W.mg_of X G c_NAMED, q_NAMED⟩
  c_NUMBERED := ⟨_, PySem.W.mg_of X G c_NUMBERED, q_NUMBERED⟩
  c_PLAIN_LETTERS := ⟨_, PySem.W.mg_of X G c_PLAIN_LETTERS, q_PLAIN_LETTERS⟩
theorem end_F {l : PySem.W.OpenLaw} {w : World} {K : PySem.W.Frag} {fa : Addr} {h : Heap} {mg : Str → Option Value} (X : K.In h) (G : h.Ns mainGlobals mg) {f0 f1 f2 f3 f4 f5 f6 f7 f8 f9 f10 f11 f12 f13 f14 f15 f16 p_NAMED p_NUMBERED p_PLAIN_LETTERS E_BadText : Addr}
    {od0 an0 od1 an1 od2 an2 od3 an3 od4 an4 od5 an5 od6 an6 od7 an7 od8 an8 od9 an9 od10 an10 od11 an11 od12 an12 od13 an13 od14 an14 od15 an15 od16 an16 : Option Addr} {sl0 sl1 sl2 sl3 sl4 sl5 sl6 sl7 sl8 sl9 sl10 sl11 sl12 sl13 sl14 sl15 sl16 : Array (Option Value)} {oc0 kV0 dc0 pm0 cd0 ct0 oc1 kV1 dc1 pm1 cd1 ct1 oc2 kV2 dc2 pm2 cd2 ct2 oc3 kV3 dc3 pm3 cd3 ct3 oc4 kV4 dc4 pm4 cd4 ct4 oc5 kV5 dc5 pm5 cd5 ct5 oc6 kV6 dc6 pm6 cd6 ct6 oc7 kV7 dc7 pm7 cd7 ct7 oc8 kV8 dc8 pm8 cd8 ct8 oc9 kV9 dc9 pm9 cd9 ct9 oc10 kV10 dc10 pm10 cd10 ct10 oc11 kV11 dc11 pm11 cd11 ct11 oc12 kV12 dc12 pm12 cd12 ct12 oc13 kV13 dc13 pm13 cd13 ct13 oc14 kV14 dc14 pm14 cd14 ct14 oc15 kV15 dc15 pm15 cd15 ct15 oc16 kV16 dc16 pm16 cd16 ct16 : Value}
    (ge_BadText : PySem.W.nsIn K mainGlobals "BadText" = some (some (.ref E_BadText)))
    (a0 : PySem.W.nsIn K mainGlobals "is_name" = some (some (.ref f0)))
    (l0 : K.lookup f0 = some ⟨oc0, od0, .func (PySem.W.fnOf "is_name" "is_name" (defArgs s_is_name) (defBody s_is_name) (defScope s_is_name) .none kV0 dc0 pm0 an0 cd0 ct0), sl0⟩)
    (c0 : PySem.W.codeIn K cd0 "is_name" = true)
    (k0 : PySem.W.keepIn K (.ref f0) = true)
    (a1 : PySem.W.nsIn K mainGlobals "told" = some (some (.ref f1)))
    (l1 : K.lookup f1 = some ⟨oc1, od1, .func (PySem.W.fnOf "told" "told" (defArgs s_told) (defBody s_told) (defScope s_told) .none kV1 dc1 pm1 an1 cd1 ct1), sl1⟩)
    (c1 : PySem.W.codeIn K cd1 "told" = true)
    (k1 : PySem.W.keepIn K (.ref f1) = true)
    (a2 : PySem.W.nsIn K mainGlobals "read" = some (some (.ref f2)))
    (l2 : K.lookup f2 = some ⟨oc2, od2, .func (PySem.W.fnOf "read" "read" (defArgs s_read) (defBody s_read) (defScope s_read) .none kV2 dc2 pm2 an2 cd2 ct2), sl2⟩)
    (c2 : PySem.W.codeIn K cd2 "read" = true)
    (k2 : PySem.W.keepIn K (.ref f2) = true)
    (a3 : PySem.W.nsIn K mainGlobals "_row" = some (some (.ref f3)))
    (l3 : K.lookup f3 = some ⟨oc3, od3, .func (PySem.W.fnOf "_row" "_row" (defArgs s__row) (defBody s__row) (defScope s__row) .none kV3 dc3 pm3 an3 cd3 ct3), sl3⟩)
    (c3 : PySem.W.codeIn K cd3 "_row" = true)
    (k3 : PySem.W.keepIn K (.ref f3) = true)
    (a4 : PySem.W.nsIn K mainGlobals "_event" = some (some (.ref f4)))
    (l4 : K.lookup f4 = some ⟨oc4, od4, .func (PySem.W.fnOf "_event" "_event" (defArgs s__event) (defBody s__event) (defScope s__event) .none kV4 dc4 pm4 an4 cd4 ct4), sl4⟩)
    (c4 : PySem.W.codeIn K cd4 "_event" = true)
    (k4 : PySem.W.keepIn K (.ref f4) = true)
    (a5 : PySem.W.nsIn K mainGlobals "_letter" = some (some (.ref f5)))
    (l5 : K.lookup f5 = some ⟨oc5, od5, .func (PySem.W.fnOf "_letter" "_letter" (defArgs s__letter) (defBody s__letter) (defScope s__letter) .none kV5 dc5 pm5 an5 cd5 ct5), sl5⟩)
    (c5 : PySem.W.codeIn K cd5 "_letter" = true)
    (k5 : PySem.W.keepIn K (.ref f5) = true)
    (a6 : PySem.W.nsIn K mainGlobals "_number" = some (some (.ref f6)))
    (l6 : K.lookup f6 = some ⟨oc6, od6, .func (PySem.W.fnOf "_number" "_number" (defArgs s__number) (defBody s__number) (defScope s__number) .none kV6 dc6 pm6 an6 cd6 ct6), sl6⟩)
    (c6 : PySem.W.codeIn K cd6 "_number" = true)
    (k6 : PySem.W.keepIn K (.ref f6) = true)
    (a7 : PySem.W.nsIn K mainGlobals "_are_figures" = some (some (.ref f7)))
    (l7 : K.lookup f7 = some ⟨oc7, od7, .func (PySem.W.fnOf "_are_figures" "_are_figures" (defArgs s__are_figures) (defBody s__are_figures) (defScope s__are_figures) .none kV7 dc7 pm7 an7 cd7 ct7), sl7⟩)
    (c7 : PySem.W.codeIn K cd7 "_are_figures" = true)
    (k7 : PySem.W.keepIn K (.ref f7) = true)
    (a8 : PySem.W.nsIn K mainGlobals "_law_cell_at" = some (some (.ref f8)))
    (l8 : K.lookup f8 = some ⟨oc8, od8, .func (PySem.W.fnOf "_law_cell_at" "_law_cell_at" (defArgs s__law_cell_at) (defBody s__law_cell_at) (defScope s__law_cell_at) .none kV8 dc8 pm8 an8 cd8 ct8), sl8⟩)
    (c8 : PySem.W.codeIn K cd8 "_law_cell_at" = true)
    (k8 : PySem.W.keepIn K (.ref f8) = true)
    (a9 : PySem.W.nsIn K mainGlobals "_law_whole" = some (some (.ref f9)))
    (l9 : K.lookup f9 = some ⟨oc9, od9, .func (PySem.W.fnOf "_law_whole" "_law_whole" (defArgs s__law_whole) (defBody s__law_whole) (defScope s__law_whole) .none kV9 dc9 pm9 an9 cd9 ct9), sl9⟩)
    (c9 : PySem.W.codeIn K cd9 "_law_whole" = true)
    (k9 : PySem.W.keepIn K (.ref f9) = true)
    (a10 : PySem.W.nsIn K mainGlobals "_law_names" = some (some (.ref f10)))
    (l10 : K.lookup f10 = some ⟨oc10, od10, .func (PySem.W.fnOf "_law_names" "_law_names" (defArgs s__law_names) (defBody s__law_names) (defScope s__law_names) .none kV10 dc10 pm10 an10 cd10 ct10), sl10⟩)
    (c10 : PySem.W.codeIn K cd10 "_law_names" = true)
    (k10 : PySem.W.keepIn K (.ref f10) = true)
    (a11 : PySem.W.nsIn K mainGlobals "_law_letter_by" = some (some (.ref f11)))
    (l11 : K.lookup f11 = some ⟨oc11, od11, .func (PySem.W.fnOf "_law_letter_by" "_law_letter_by" (defArgs s__law_letter_by) (defBody s__law_letter_by) (defScope s__law_letter_by) .none kV11 dc11 pm11 an11 cd11 ct11), sl11⟩)
    (c11 : PySem.W.codeIn K cd11 "_law_letter_by" = true)
    (k11 : PySem.W.keepIn K (.ref f11) = true)
    (a12 : PySem.W.nsIn K mainGlobals "_law_events" = some (some (.ref f12)))
    (l12 : K.lookup f12 = some ⟨oc12, od12, .func (PySem.W.fnOf "_law_events" "_law_events" (defArgs s__law_events) (defBody s__law_events) (defScope s__law_events) .none kV12 dc12 pm12 an12 cd12 ct12), sl12⟩)
    (c12 : PySem.W.codeIn K cd12 "_law_events" = true)
    (k12 : PySem.W.keepIn K (.ref f12) = true)
    (a13 : PySem.W.nsIn K mainGlobals "_law_row_by" = some (some (.ref f13)))
    (l13 : K.lookup f13 = some ⟨oc13, od13, .func (PySem.W.fnOf "_law_row_by" "_law_row_by" (defArgs s__law_row_by) (defBody s__law_row_by) (defScope s__law_row_by) .none kV13 dc13 pm13 an13 cd13 ct13), sl13⟩)
    (c13 : PySem.W.codeIn K cd13 "_law_row_by" = true)
    (k13 : PySem.W.keepIn K (.ref f13) = true)
    (a14 : PySem.W.nsIn K mainGlobals "_law_words_of" = some (some (.ref f14)))
    (l14 : K.lookup f14 = some ⟨oc14, od14, .func (PySem.W.fnOf "_law_words_of" "_law_words_of" (defArgs s__law_words_of) (defBody s__law_words_of) (defScope s__law_words_of) .none kV14 dc14 pm14 an14 cd14 ct14), sl14⟩)
    (c14 : PySem.W.codeIn K cd14 "_law_words_of" = true)
    (k14 : PySem.W.keepIn K (.ref f14) = true)
    (a15 : PySem.W.nsIn K mainGlobals "_law_rows_by" = some (some (.ref f15)))
    (l15 : K.lookup f15 = some ⟨oc15, od15, .func (PySem.W.fnOf "_law_rows_by" "_law_rows_by" (defArgs s__law_rows_by) (defBody s__law_rows_by) (defScope s__law_rows_by) .none kV15 dc15 pm15 an15 cd15 ct15), sl15⟩)
    (c15 : PySem.W.codeIn K cd15 "_law_rows_by" = true)
    (k15 : PySem.W.keepIn K (.ref f15) = true)
    (a16 : PySem.W.nsIn K mainGlobals "law" = some (some (.ref f16)))
    (l16 : K.lookup f16 = some ⟨oc16, od16, .func (PySem.W.fnOf "law" "law" (defArgs s_law) (defBody s_law) (defScope s_law) .none kV16 dc16 pm16 an16 cd16 ct16), sl16⟩)
    (c16 : PySem.W.codeIn K cd16 "law" = true)
    (k16 : PySem.W.keepIn K (.ref f16) = true)
    (x_BadText : PySem.W.excIn K E_BadText [.type "ValueError", .type "Exception", .type "BaseException", .type "object"] "ValueError.__new__" = true)
    (ke_BadText : PySem.W.keepIn K (.ref E_BadText) = true)
    (be_BadText : PySem.W.subIn K (.ref E_BadText) (.type "BaseException") = some true)
    (te_BadText : PySem.W.typeIn K (.ref E_BadText) = some (.type "type"))
    (z_all : PySem.W.nsIn K mainGlobals "all" = some none)
    (z_bool : PySem.W.nsIn K mainGlobals "bool" = some none)
    (z_int : PySem.W.nsIn K mainGlobals "int" = some none)
    (z_isinstance : PySem.W.nsIn K mainGlobals "isinstance" = some none)
    (z_len : PySem.W.nsIn K mainGlobals "len" = some none)
    (z_list : PySem.W.nsIn K mainGlobals "list" = some none)
    (z_range : PySem.W.nsIn K mainGlobals "range" = some none)
    (z_str : PySem.W.nsIn K mainGlobals "str" = some none)
    (z_tuple : PySem.W.nsIn K mainGlobals "tuple" = some none)
    {t_LARGEST : Tok}
    (c_LARGEST : PySem.W.nsIn K mainGlobals "LARGEST" = some (some (.int 1000000000 t_LARGEST)))
    {t_LONGEST_NAME : Tok}
    (c_LONGEST_NAME : PySem.W.nsIn K mainGlobals "LONGEST_NAME" = some (some (.int 8 t_LONGEST_NAME)))
    {t_MOST_FIGURES : Tok}
    (c_MOST_FIGURES : PySem.W.nsIn K mainGlobals "MOST_FIGURES" = some (some (.int 10 t_MOST_FIGURES)))
    (c_NAMED : PySem.W.nsIn K mainGlobals "NAMED" = some (some (.ref p_NAMED)))
    (q_NAMED : KTup K p_NAMED [(.str "begins"), (.str "ends"), (.str "leaves"), (.str "fails")])
    (c_NUMBERED : PySem.W.nsIn K mainGlobals "NUMBERED" = some (some (.ref p_NUMBERED)))
    (q_NUMBERED : KTup K p_NUMBERED [(.str "works"), (.str "lost")])
    (c_PLAIN_LETTERS : PySem.W.nsIn K mainGlobals "PLAIN_LETTERS" = some (some (.ref p_PLAIN_LETTERS)))
    (q_PLAIN_LETTERS : KTup K p_PLAIN_LETTERS [(.tuple [(.str "fault")]), (.tuple [(.str "leave")])])
    (hfa : mg "law" = some (.ref fa)) :
    ∃ fd : FuncData, (∀ (s : Shared) (v : Value), BindsTo s fd ⟨[v], []⟩ [("_law_script", v)]) ∧ ∀ base : Heap, K.In base → base.Ns mainGlobals mg → FnOk l.prog w K mg base CX0 6 fa fd ["_law_script"] (spLaw K) := by
  have e := hfa.symm.trans (PySem.W.mg_of X G a16)
  cases e
  have T : TX K mg := all_mk X G ge_BadText a0 l0 c0 k0 a1 l1 c1 k1 a2 l2 c2 k2 a3 l3 c3 k3 a4 l4 c4 k4 a5 l5 c5 k5 a6 l6 c6 k6 a7 l7 c7 k7 a8 l8 c8 k8 a9 l9 c9 k9 a10 l10 c10 k10 a11 l11 c11 k11 a12 l12 c12 k12 a13 l13 c13 k13 a14 l14 c14 k14 a15 l15 c15 k15 a16 l16 c16 k16 x_BadText ke_BadText be_BadText te_BadText z_all z_bool z_int z_isinstance z_len z_list z_range z_str z_tuple c_LARGEST c_LONGEST_NAME c_MOST_FIGURES c_NAMED q_NAMED c_NUMBERED q_NUMBERED c_PLAIN_LETTERS q_PLAIN_LETTERS
  exact ⟨_, fun s v => .of_eq rfl, fun base _ _ => Q.fn_calm (Q.fq_at (P := l.prog) (w := w) (base := base) (ok_law T) (PySem.W.mg_of X G a16) l16) (Q.lawq_imp fun ns hl => H10.law_true ns)⟩
end K10
open PySem PySem.W PyProof.Rows
set_option maxRecDepth 100000 in
set_option maxHeartbeats 0 in
theorem PySem.Challenge.cw_wardhouse_k10_told_and_read_holds : PySem.Challenge.rw_wardhouse_k10_told_and_read.Holds := by
  w_on; o_law; k_head; (case hw => w_witness2)
  k_fill
  refine L2.walk_of (l := PySem.Challenge.rw_wardhouse_k10_told_and_read) (n := 63) (k := 6) (x := "_law_script") (CX := fun _ => L2.CX0) (sp := fun w => Pd.spLaw _) rfl (by decide) rfl ⟨rfl, by decide, by decide⟩ (fun w h Y => PySem.W.kIn_of Y) ?F (fun _ _ a ns hl _ hS => ⟨a, ns, rfl, hS, hl, fun _ => rfl⟩) (fun _ _ _ _ _ h => h)
  case F =>
    intro w mg fa h KX G hmg
    refine' K10.end_F KX G ?ge_BadText ?a0 ?l0 ?c0 ?k0 ?a1 ?l1 ?c1 ?k1 ?a2 ?l2 ?c2 ?k2 ?a3 ?l3 ?c3 ?k3 ?a4 ?l4 ?c4 ?k4 ?a5 ?l5 ?c5 ?k5 ?a6 ?l6 ?c6 ?k6 ?a7 ?l7 ?c7 ?k7 ?a8 ?l8 ?c8 ?k8 ?a9 ?l9 ?c9 ?k9 ?a10 ?l10 ?c10 ?k10 ?a11 ?l11 ?c11 ?k11 ?a12 ?l12 ?c12 ?k12 ?a13 ?l13 ?c13 ?k13 ?a14 ?l14 ?c14 ?k14 ?a15 ?l15 ?c15 ?k15 ?a16 ?l16 ?c16 ?k16 ?x_BadText ?ke_BadText ?be_BadText ?te_BadText ?z_all ?z_bool ?z_int ?z_isinstance ?z_len ?z_list ?z_range ?z_str ?z_tuple ?c_LARGEST ?c_LONGEST_NAME ?c_MOST_FIGURES ?c_NAMED ?q_NAMED ?c_NUMBERED ?q_NUMBERED ?c_PLAIN_LETTERS ?q_PLAIN_LETTERS hmg
    (case ge_BadText => k_is)
    (case a0 => k_is)
    (case l0 => k_is)
    (case c0 => k_is)
    (case k0 => k_is)
    (case a1 => k_is)
    (case l1 => k_is)
    (case c1 => k_is)
    (case k1 => k_is)
    (case a2 => k_is)
    (case l2 => k_is)
    (case c2 => k_is)
    (case k2 => k_is)
    (case a3 => k_is)
    (case l3 => k_is)
    (case c3 => k_is)
    (case k3 => k_is)
    (case a4 => k_is)
    (case l4 => k_is)
    (case c4 => k_is)
    (case k4 => k_is)
    (case a5 => k_is)
    (case l5 => k_is)
    (case c5 => k_is)
    (case k5 => k_is)
    (case a6 => k_is)
    (case l6 => k_is)
    (case c6 => k_is)
    (case k6 => k_is)
    (case a7 => k_is)
    (case l7 => k_is)
    (case c7 => k_is)
    (case k7 => k_is)
    (case a8 => k_is)
    (case l8 => k_is)
    (case c8 => k_is)
    (case k8 => k_is)
    (case a9 => k_is)
    (case l9 => k_is)
    (case c9 => k_is)
    (case k9 => k_is)
    (case a10 => k_is)
    (case l10 => k_is)
    (case c10 => k_is)
    (case k10 => k_is)
    (case a11 => k_is)
    (case l11 => k_is)
    (case c11 => k_is)
    (case k11 => k_is)
    (case a12 => k_is)
    (case l12 => k_is)
    (case c12 => k_is)
    (case k12 => k_is)
    (case a13 => k_is)
    (case l13 => k_is)
    (case c13 => k_is)
    (case k13 => k_is)
    (case a14 => k_is)
    (case l14 => k_is)
    (case c14 => k_is)
    (case k14 => k_is)
    (case a15 => k_is)
    (case l15 => k_is)
    (case c15 => k_is)
    (case k15 => k_is)
    (case a16 => k_is)
    (case l16 => k_is)
    (case c16 => k_is)
    (case k16 => k_is)
    (case x_BadText => k_exc)
    (case ke_BadText => k_is)
    (case be_BadText => k_is)
    (case te_BadText => k_is)
    (case z_all => k_is)
    (case z_bool => k_is)
    (case z_int => k_is)
    (case z_isinstance => k_is)
    (case z_len => k_is)
    (case z_list => k_is)
    (case z_range => k_is)
    (case z_str => k_is)
    (case z_tuple => k_is)
    (case c_LARGEST => k_is)
    (case c_LONGEST_NAME => k_is)
    (case c_MOST_FIGURES => k_is)
    (case c_NAMED => k_is)
    (case q_NAMED => (refine' Pd.ktup_of ?l ?z ?v ?r; (case l => k_is); (case z => decide); (case v => exact (.cons (Pd.rel_str _ _) (.cons (Pd.rel_str _ _) (.cons (Pd.rel_str _ _) (.cons (Pd.rel_str _ _) .nil))))); (case r => exact fun H => (.cons (.str _) (.cons (.str _) (.cons (.str _) (.cons (.str _) .nil)))))))
    (case c_NUMBERED => k_is)
    (case q_NUMBERED => (refine' Pd.ktup_of ?l ?z ?v ?r; (case l => k_is); (case z => decide); (case v => exact (.cons (Pd.rel_str _ _) (.cons (Pd.rel_str _ _) .nil))); (case r => exact fun H => (.cons (.str _) (.cons (.str _) .nil)))))
    (case c_PLAIN_LETTERS => k_is)
    (case q_PLAIN_LETTERS => (refine' Pd.ktup_of ?l ?z ?v ?r; (case l => k_is); (case z => decide); (case v => exact (.cons (Pd.rel_ref _) (.cons (Pd.rel_ref _) .nil))); (case r => exact fun H => (.cons (Pd.ktup_rv (by (refine' Pd.ktup_of ?l ?z ?v ?r; (case l => k_is); (case z => decide); (case v => exact (.cons (Pd.rel_str _ _) .nil)); (case r => exact fun H => (.cons (.str _) .nil)))) H) (.cons (Pd.ktup_rv (by (refine' Pd.ktup_of ?l ?z ?v ?r; (case l => k_is); (case z => decide); (case v => exact (.cons (Pd.rel_str _ _) .nil)); (case r => exact fun H => (.cons (.str _) .nil)))) H) .nil)))))
