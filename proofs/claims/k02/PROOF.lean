import PyProof.Rows.All
import Wide.All
import OpenK.AllK
import Wide.FinOn
import HandS.ForMost
import HandS.IsInst
import HandS.Deep
import HandS.TupAny
import HandS.Conv
import PyProof.TupleOps
import HandS.Style
import PySem.Challenge.RW_wardhouse_k02_plans
set_option Elab.async false
set_option linter.all false
set_option maxRecDepth 100000
set_option maxHeartbeats 4000000
/-! Pure defs over data: a def's body read as a function over PyData (lists, tuples, dicts by value; lists that a def itself fills are its own). -/
namespace Pd
open PySem PySem.Spec PyProof.Rows L2
abbrev D := PyData
def keyD : Key → D
  | .inl i => .int i
  | .inr x => .str x
theorem keyD_inj : ∀ {a b : Key}, keyD a = keyD b → a = b
  | .inl _, .inl _, h => by injection h with h; rw [h]
  | .inr _, .inr _, h => by injection h with h; rw [h]
  | .inl _, .inr _, h => by cases h
  | .inr _, .inl _, h => by cases h
/-! ### data in a heap -/
mutual
inductive Rv (K : PySem.W.Frag) (H : Hp) : D → V → Prop
  | non : Rv K H .none .non
  | bl (b : Bool) : Rv K H (.bool b) (.bl b)
  | int (i : Int) : Rv K H (.int i) (.int i)
  | str (x : Str) : Rv K H (.str x) (.str x)
  | lst {a : Addr} {xs : List V} {ds : List D} : SqL K H a xs → RvL K H ds xs → Rv K H (.list ds) (.ref a)
  | tup {a : Addr} {xs : List V} {ds : List D} : SqT K H a xs → RvL K H ds xs → Rv K H (.tuple ds) (.ref a)
  | dic {a : Addr} {xs : List (Key × V)} {ds : List (D × D)} : H a = some (.dK xs) → RvK K H ds xs → Rv K H (.dict ds) (.ref a)
inductive RvL (K : PySem.W.Frag) (H : Hp) : List D → List V → Prop
  | nil : RvL K H [] []
  | cons {v : V} {vs : List V} {d : D} {ds : List D} : Rv K H d v → RvL K H ds vs → RvL K H (d :: ds) (v :: vs)
inductive RvK (K : PySem.W.Frag) (H : Hp) : List (D × D) → List (Key × V) → Prop
  | nil : RvK K H [] []
  | cons {k : Key} {v : V} {vs : List (Key × V)} {d : D} {ds : List (D × D)} : Rv K H d v → RvK K H ds vs → RvK K H ((keyD k, d) :: ds) ((k, v) :: vs)
end
theorem sqt_mono {K : PySem.W.Frag} {H H' : Hp} {a : Addr} {xs : List V} (e : Same H H') (h : SqT K H a xs) : SqT K H' a xs := by
  rcases h with (h | ⟨o, h⟩) | h
  · exact .inl (.inl (e _ _ h))
  · exact .inl (.inr ⟨o, e _ _ h⟩)
  · exact .inr h
section
variable {K : PySem.W.Frag} {H H' : Hp}
mutual
theorem Rv.mono (s : Same H H') : ∀ (d : D) {v : V}, Rv K H d v → Rv K H' d v
  | .none, _, h => by cases h; exact .non
  | .bool b, _, h => by cases h; exact .bl b
  | .int i, _, h => by cases h; exact .int i
  | .str x, _, h => by cases h; exact .str x
  | .list ds, _, h => by cases h with | lst a b => exact .lst (s.seq a) (RvL.mono s ds b)
  | .tuple ds, _, h => by cases h with | tup a b => exact .tup (sqt_mono s a) (RvL.mono s ds b)
  | .dict ds, _, h => by cases h with | dic a b => exact .dic (s _ _ a) (RvK.mono s ds b)
theorem RvL.mono (s : Same H H') : ∀ (ds : List D) {vs : List V}, RvL K H ds vs → RvL K H' ds vs
  | [], _, h => by cases h; exact .nil
  | d :: ds, _, h => by cases h with | cons a b => exact .cons (Rv.mono s d a) (RvL.mono s ds b)
theorem RvK.mono (s : Same H H') : ∀ (ds : List (D × D)) {vs : List (Key × V)}, RvK K H ds vs → RvK K H' ds vs
  | [], _, h => by cases h; exact .nil
  | (_, d) :: ds, _, h => by cases h with | cons a b => exact .cons (Rv.mono s d a) (RvK.mono s ds b)
end
theorem RvL.length : ∀ {ds : List D} {vs : List V}, RvL K H ds vs → vs.length = ds.length
  | [], _, h => by cases h; rfl
  | d :: ds, _, h => by cases h with | cons a b => rw [List.length_cons, List.length_cons, RvL.length b]
theorem RvL.get : ∀ {ds : List D} {vs : List V} {i : Nat} {d : D}, RvL K H ds vs → ds[i]? = some d → ∃ v, vs[i]? = some v ∧ Rv K H d v
  | [], _, _, _, _, e => by simp at e
  | d :: ds, _, 0, _, h, e => by cases h with | cons a b => simp at e; subst e; exact ⟨_, rfl, a⟩
  | d :: ds, _, i + 1, _, h, e => by
    cases h with
    | cons a b => obtain ⟨v, h1, h2⟩ := RvL.get (i := i) b (by simpa using e); exact ⟨v, by simpa using h1, h2⟩
theorem RvL.got : ∀ {ds : List D} {vs : List V} {i : Nat} {v : V}, RvL K H ds vs → vs[i]? = some v → ∃ d, ds[i]? = some d ∧ Rv K H d v := fun {ds vs i v} h e => by
  have hl := h.length
  have hi : i < vs.length := (List.getElem?_eq_some_iff.mp e).1
  have e2 : ds[i]? = some ds[i] := List.getElem?_eq_getElem (by omega)
  obtain ⟨v', h1, h2⟩ := h.get e2
  rw [e] at h1
  cases h1
  exact ⟨_, e2, h2⟩
theorem RvL.append : ∀ {ds es : List D} {vs ws : List V}, RvL K H ds vs → RvL K H es ws → RvL K H (ds ++ es) (vs ++ ws)
  | [], _, _, _, h, g => by cases h; exact g
  | d :: ds, _, _, _, h, g => by cases h with | cons a b => exact .cons a (RvL.append b g)
theorem RvL.take : ∀ {ds : List D} {vs : List V} (n : Nat), RvL K H ds vs → RvL K H (ds.take n) (vs.take n)
  | _, _, 0, _ => .nil
  | [], _, _ + 1, h => by cases h; exact .nil
  | d :: ds, _, n + 1, h => by cases h with | cons a b => exact .cons a (RvL.take n b)
theorem RvL.drop : ∀ {ds : List D} {vs : List V} (n : Nat), RvL K H ds vs → RvL K H (ds.drop n) (vs.drop n)
  | _, _, 0, h => h
  | [], _, _ + 1, h => by cases h; exact .nil
  | d :: ds, _, n + 1, h => by cases h with | cons a b => exact RvL.drop n b
theorem RvL.reverse : ∀ {ds : List D} {vs : List V}, RvL K H ds vs → RvL K H ds.reverse vs.reverse
  | [], _, h => by cases h; exact .nil
  | d :: ds, _, h => by
    cases h with
    | cons a b => rw [List.reverse_cons, List.reverse_cons]; exact (RvL.reverse b).append (.cons a .nil)
theorem RvL.ints : ∀ (ns : List Int), RvL K H (ns.map PyData.int) (ns.map V.int)
  | [] => .nil
  | n :: r => .cons (.int n) (RvL.ints r)
/-- data without dicts -/
theorem dp_none {d : D} {v : V} (h : Rv K H d v) : d = .none → v = .non := by intro e; subst e; cases h; rfl
mutual
def flatD : D → Bool
  | .none => true
  | .bool _ => true
  | .int _ => true
  | .str _ => true
  | .list ds => flatDs ds
  | .tuple ds => flatDs ds
  | .dict _ => false
def flatDs : List D → Bool
  | [] => true
  | d :: ds => flatD d && flatDs ds
end
mutual
theorem Rv.dp : ∀ (d : D) {v : V}, flatD d = true → Rv K H d v → Dp K H v d
  | .none, _, _, h => by cases h; exact .non
  | .bool b, _, _, h => by cases h; exact .bl b
  | .int i, _, _, h => by cases h; exact .int i
  | .str x, _, _, h => by cases h; exact .str x
  | .list ds, _, f, h => by cases h with | lst a b => exact .lst a (RvL.dp ds (by simpa [flatD] using f) b)
  | .tuple ds, _, f, h => by cases h with | tup a b => exact .tup a (RvL.dp ds (by simpa [flatD] using f) b)
  | .dict ds, _, f, h => by simp [flatD] at f
theorem RvL.dp : ∀ (ds : List D) {vs : List V}, flatDs ds = true → RvL K H ds vs → DpAll K H vs ds
  | [], _, _, h => by cases h; exact .nil
  | d :: ds, _, f, h => by
    simp only [flatDs, Bool.and_eq_true] at f
    cases h with | cons a b => exact .cons (Rv.dp d f.1 a) (RvL.dp ds f.2 b)
end
end
/-! ### the frozen part of a heap, and the heap -/
structure Stt where
  Z : Hp
  H : Hp
  ok : Same Z H
structure Ex (S S' : Stt) : Prop where
  z : Same S.Z S'.Z
  h : Same S.H S'.H
  c : ∀ b, S.Z b = none → S.H b ≠ none → S'.Z b = none
theorem Ex.refl (S : Stt) : Ex S S := ⟨Same.refl _, Same.refl _, fun _ h _ => h⟩
theorem same_some {H H' : Hp} (s : Same H H') {b : Addr} (h : H b ≠ none) : H' b ≠ none := by
  cases e : H b with
  | none => exact absurd e h
  | some o => rw [s _ _ e]; simp
theorem Ex.trans {S T U : Stt} (a : Ex S T) (b : Ex T U) : Ex S U := ⟨a.z.trans b.z, a.h.trans b.h, fun c h1 h2 => b.c c (a.c c h1 h2) (same_some a.h h2)⟩
theorem same_upd {H : Hp} {p : Addr} (h : H p = none) (o : HO) : Same H (upd H p o) := fun b u q => by rw [upd_ne (ne_of_none q h)]; exact q
theorem same_upd2 {Z H : Hp} (s : Same Z H) {p : Addr} (o : HO) : Same (upd Z p o) (upd H p o) := fun b u q => by
  by_cases e : b = p
  · subst e; rw [upd_same] at q ⊢; exact q
  · rw [upd_ne e] at q ⊢; exact s _ _ q
/-- a new frozen object -/
def Stt.lay (S : Stt) (p : Addr) (o : HO) : Stt := ⟨upd S.Z p o, upd S.H p o, same_upd2 S.ok o⟩
theorem Stt.lay_ex {S : Stt} {p : Addr} {o : HO} (h : S.H p = none) : Ex S (S.lay p o) := ⟨same_upd (S.ok.free h) o, same_upd h o, fun b h1 h2 => by
  show upd S.Z p o b = none
  rw [upd_ne (show b ≠ p from fun e => by subst e; exact h2 h)]; exact h1⟩
theorem Stt.lay_at {S : Stt} {p : Addr} {o : HO} : (S.lay p o).Z p = some o := upd_same
/-- a new object of the def's own, not frozen -/
def Stt.put (S : Stt) (p : Addr) (o : HO) (h : S.Z p = none) : Stt := ⟨S.Z, upd S.H p o, fun b u q => by rw [upd_ne (ne_of_none q h)]; exact S.ok _ _ q⟩
/-! ### the slots -/
inductive Sl where
  | un
  | val (d : D)
  | own (ds : List D)
def RS (K : PySem.W.Frag) (E : Hp) (S : Stt) (v : Option V) : Sl → Prop
  | .un => True
  | .val d => ∃ x, v = some x ∧ Rv K S.Z d x
  | .own ds => ∃ a vs, v = some (.ref a) ∧ S.H a = some (.lst vs) ∧ S.Z a = none ∧ E a = none ∧ RvL K S.Z ds vs
structure R (K : PySem.W.Frag) (E : Hp) (S : Stt) (σ : L2.St) (δ : List Sl) : Prop where
  at_ : ∀ (i : Nat) (s : Sl), δ[i]? = some s → ∃ v, σ[i]? = some v ∧ RS K E S v s
  dis : ∀ (i j : Nat) (a : Addr) (ds es : List D), δ[i]? = some (.own ds) → δ[j]? = some (.own es) → σ[i]? = some (some (.ref a)) → σ[j]? = some (some (.ref a)) → i = j
section
variable {K : PySem.W.Frag} {E : Hp} {S S' : Stt} {σ : L2.St} {δ : List Sl}
theorem RS.mono (x : Ex S S') {v : Option V} {s : Sl} (h : RS K E S v s) : RS K E S' v s := by
  cases s with
  | un => exact trivial
  | val d => obtain ⟨y, h1, h2⟩ := h; exact ⟨y, h1, Rv.mono x.z d h2⟩
  | own ds => obtain ⟨a, vs, h1, h2, h3, h4, h5⟩ := h; exact ⟨a, vs, h1, x.h _ _ h2, x.c _ h3 (by rw [h2]; simp), h4, RvL.mono x.z ds h5⟩
theorem R.mono (x : Ex S S') (r : R K E S σ δ) : R K E S' σ δ := ⟨fun i s h => let ⟨v, h1, h2⟩ := r.at_ i s h; ⟨v, h1, h2.mono x⟩, r.dis⟩
/-- a value is stored -/
theorem R.set (r : R K E S σ δ) {i : Nat} {v : V} {s : Sl} (h : RS K E S (some v) s) (hd : ∀ (ds : List D) (j : Nat) (a : Addr) (es : List D), s = .own ds → v = .ref a → δ[j]? = some (.own es) → σ[j]? = some (some (.ref a)) → j = i) : R K E S (σ.set i (some v)) (δ.set i s) := by
  refine ⟨fun j t e => ?_, fun j k a ds es e1 e2 f1 f2 => ?_⟩
  · by_cases hj : j = i
    · subst hj
      have hl : j < δ.length := by
        have := (List.getElem?_eq_some_iff.mp e).1
        simpa using this
      rw [List.getElem?_set_self hl] at e
      cases e
      obtain ⟨w, hw, _⟩ := r.at_ j δ[j] (List.getElem?_eq_getElem hl)
      have hs : j < σ.length := (List.getElem?_eq_some_iff.mp hw).1
      exact ⟨some v, List.getElem?_set_self hs, h⟩
    · rw [List.getElem?_set_ne (Ne.symm hj)] at e ⊢
      exact r.at_ j t e
  · have lens : ∀ {m : Nat} {t : Sl}, (δ.set i s)[m]? = some t → m < δ.length := fun q => by
      have := (List.getElem?_eq_some_iff.mp q).1
      simpa using this
    have at_i : ∀ {m : Nat} {es' : List D}, m = i → (δ.set i s)[m]? = some (.own es') → (σ.set i (some v))[m]? = some (some (.ref a)) → s = .own es' ∧ v = .ref a := by
      intro m es' hm q1 q2
      subst hm
      have hl := lens q1
      rw [List.getElem?_set_self hl] at q1
      have hs : m < σ.length := by
        have := (List.getElem?_eq_some_iff.mp q2).1
        simpa using this
      rw [List.getElem?_set_self hs] at q2
      cases q1
      cases q2
      exact ⟨rfl, rfl⟩
    by_cases hj : j = i
    · obtain ⟨q1, q2⟩ := at_i hj e1 f1
      by_cases hk : k = i
      · rw [hj, hk]
      · rw [List.getElem?_set_ne (Ne.symm hk)] at e2 f2
        exact absurd (hd ds k a es q1 q2 e2 f2) hk
    · by_cases hk : k = i
      · obtain ⟨q1, q2⟩ := at_i hk e2 f2
        rw [List.getElem?_set_ne (Ne.symm hj)] at e1 f1
        exact absurd (hd es j a ds q1 q2 e1 f1) hj
      · rw [List.getElem?_set_ne (Ne.symm hj)] at e1 f1
        rw [List.getElem?_set_ne (Ne.symm hk)] at e2 f2
        exact r.dis j k a ds es e1 e2 f1 f2
theorem R.setv (r : R K E S σ δ) {i : Nat} {v : V} {d : D} (h : Rv K S.Z d v) : R K E S (σ.set i (some v)) (δ.set i (.val d)) :=
  r.set ⟨v, rfl, h⟩ fun ds j a es e => by cases e
end
/-! ### readings of expressions -/
abbrev FE := List Sl → Option D
def tD (K : PySem.W.Frag) (f : FE) : TE := fun σ H Q => ∃ (E : Hp) (S : Stt) (δ : List Sl) (d : D), S.H = H ∧ R K E S σ δ ∧ f δ = some d ∧ ∀ v S', Ex S S' → Rv K S'.Z d v → Q v S'.H
abbrev DE (X : Cx) (e : Expr) (f : FE) : Prop := PE X e (tD X.K f)
abbrev FA := List Sl → Option (List D)
def tDA (K : PySem.W.Frag) (f : FA) : TA := fun σ H Q => ∃ (E : Hp) (S : Stt) (δ : List Sl) (ds : List D), S.H = H ∧ R K E S σ δ ∧ f δ = some ds ∧ ∀ vs S', Ex S S' → RvL K S'.Z ds vs → Q vs S'.H
abbrev DA (X : Cx) (es : List Expr) (f : FA) : Prop := PA X es (tDA X.K f)
def rD2 (K : PySem.W.Frag) (f : D → D → Option D) : R2 := fun x y H Q => ∃ (S : Stt) (d1 d2 d : D), S.H = H ∧ Rv K S.Z d1 x ∧ Rv K S.Z d2 y ∧ f d1 d2 = some d ∧ ∀ v S', Ex S S' → Rv K S'.Z d v → Q v S'.H
abbrev OpD (X : Cx) (op : Value → Value → Sem Value) (f : D → D → Option D) : Prop := OpR X op (rD2 X.K f)
theorem pe_conseq {X : Cx} {e : Expr} {t t' : TE} (h : PE X e t) (q : ∀ σ H Q, t' σ H Q → t σ H Q) : PE X e t' := ⟨fun pins s σ H Q I hw => h.run pins s σ H Q I (q _ _ _ hw)⟩
theorem pa_conseq {X : Cx} {e : List Expr} {t t' : TA} (h : PA X e t) (q : ∀ σ H Q, t' σ H Q → t σ H Q) : PA X e t' := ⟨fun pos pins s σ H Q I hw => h.run pos pins s σ H Q I (q _ _ _ hw)⟩
theorem ps_conseq {X : Cx} {e : Stmt} {t t' : TS} (h : PS X e t) (q : ∀ Dn σ H, t' Dn σ H → t Dn σ H) : PS X e t' := ⟨fun pins s σ H Dn I hw => h.run pins s σ H Dn I (q _ _ _ hw)⟩
theorem pss_conseq {X : Cx} {e : List Stmt} {t t' : TS} (h : PSs X e t) (q : ∀ Dn σ H, t' Dn σ H → t Dn σ H) : PSs X e t' := ⟨fun pins s σ H Dn I hw => h.run pins s σ H Dn I (q _ _ _ hw)⟩
theorem pt_conseq {X : Cx} {e : Expr} {t t' : TT} (h : PT X e t) (q : ∀ σ H Q, t' σ H Q → t σ H Q) : PT X e t' := ⟨fun pins s σ H Q I hw => h.run pins s σ H Q I (q _ _ _ hw)⟩
theorem opr_conseq {X : Cx} {op : Value → Value → Sem Value} {r r' : R2} (h : OpR X op r) (q : ∀ x y H Q, r' x y H Q → r x y H Q) : OpR X op r' := fun pins s σ H x y v u Q I rx ry hw => h pins s σ H x y v u Q I rx ry (q _ _ _ _ hw)
section
variable {X : Cx} {a b c e : Expr} {fa fb fc f : FE} {pos : Pos}
def eC (d : D) : FE := fun _ => some d
def eVar (i : Nat) : FE := fun δ => match δ[i]? with
  | some (.val d) => some d
  | _ => none
def e1 (g : D → Option D) (fa : FE) : FE := fun δ => (fa δ).bind g
def e2 (g : D → D → Option D) (fa fb : FE) : FE := fun δ => (fa δ).bind fun x => (fb δ).bind fun y => g x y
theorem de_var (i : Nat) {x : Str} (hN : X.N[i]? = some x := by rfl) (hv : Vis X.env.scope x := by first | exact Or.inl rfl | exact Or.inr (Or.inl rfl) | exact Or.inr (Or.inr rfl)) (hd : (x == ("__debug__" : Str)) = false := by decide)
    (hcd : (x == ("__classdict__" : Str)) = false := by decide) : DE X (.Name x pos) (eVar i) := by
  refine pe_conseq (pe_var hN hv hd hcd) fun σ H Q h => ?_
  obtain ⟨E, S, δ, d, rfl, r, hf, q⟩ := h
  unfold eVar at hf
  cases es : δ[i]? with
  | none => rw [es] at hf; cases hf
  | some s =>
    rw [es] at hf
    cases s with
    | un => cases hf
    | own ds => cases hf
    | val d' =>
      cases hf
      obtain ⟨v, h1, y, rfl, h3⟩ := r.at_ i _ es
      exact ⟨y, h1, q y S (.refl S) h3⟩
theorem de_const {t : TE} {v : V} {d : D} (h : PE X e (tC v)) (hr : ∀ H, Rv X.K H d v) : DE X e (eC d) := pe_conseq h fun σ H Q h => by
  obtain ⟨E, S, δ, d', rfl, r, hf, q⟩ := h
  cases hf
  exact q v S (.refl S) (hr _)
theorem de_int {i : Int} {j : Nat} : DE X (.Constant (.int i) j pos) (eC (.int i)) := de_const (t := tC (.int i)) pe_int fun _ => .int i
theorem de_str {i : Str} {j : Nat} : DE X (.Constant (.str i) j pos) (eC (.str i)) := de_const (t := tC (.str i)) pe_str fun _ => .str i
theorem de_bl {i : Bool} {j : Nat} : DE X (.Constant (.bool i) j pos) (eC (.bool i)) := de_const (t := tC (.bl i)) pe_bl fun _ => .bl i
theorem de_non {j : Nat} : DE X (.Constant .none j pos) (eC .none) := de_const (t := tC .non) pe_non fun _ => .non
theorem de_globI {x : Str} {i : Int} (hg : Gl X x) (hm : ∃ t, X.mg x = some (.int i t)) (hd : (x == ("__debug__" : Str)) = false := by decide) : DE X (.Name x pos) (eC (.int i)) :=
  let ⟨t, hm⟩ := hm
  de_const (t := tC (.int i)) (pe_glob (v := V.int i) hg hm (show ∃ u, Value.int i t = Value.int i u from ⟨t, rfl⟩) hd) fun _ => .int i
/-- a module's tuple -/
theorem de_globT {x : Str} {p : Addr} {ds : List D} {vs : List V} (hg : Gl X x) (hm : X.mg x = some (.ref p)) (hs : ∀ H, SqT X.K H p vs) (hr : ∀ H, RvL X.K H ds vs) (hd : (x == ("__debug__" : Str)) = false := by decide) : DE X (.Name x pos) (eC (.tuple ds)) :=
  de_const (t := tC (.ref p)) (pe_glob (v := V.ref p) hg hm (show Value.ref p = Value.ref p from rfl) hd) fun H => .tup (hs H) (hr H)
theorem tD_bin {K : PySem.W.Frag} {g : D → D → Option D} {σ : L2.St} {H : Hp} {Q : VK} (h : tD K (e2 g fa fb) σ H Q) : tOp (rD2 K g) (tD K fa) (tD K fb) σ H Q := by
  obtain ⟨E, S, δ, d, rfl, r, hf, q⟩ := h
  unfold e2 at hf
  obtain ⟨x, hx, hf⟩ := Option.bind_eq_some_iff.mp hf
  obtain ⟨y, hy, hf⟩ := Option.bind_eq_some_iff.mp hf
  refine ⟨E, S, δ, x, rfl, r, hx, fun v S1 x1 r1 => ⟨E, S1, δ, y, rfl, r.mono x1, hy, fun u S2 x2 r2 => ⟨S2, x, y, d, rfl, Rv.mono x2.z x r1, r2, hf, fun w S3 x3 r3 => q w S3 ((x1.trans x2).trans x3) r3⟩⟩⟩
theorem de_bin {op : Operator} {g : D → D → Option D} (ho : OpD X (binaryOp op) g) (ha : DE X a fa) (hb : DE X b fb) : DE X (.BinOp a op b pos) (e2 g fa fb) :=
  pe_conseq (pe_op ho ha hb) fun σ H Q h => tD_bin h
theorem de_cmp {op : CmpOp} {g : D → D → Option D} (ho : OpD X (compareOp op) g) (ha : DE X a fa) (hb : DE X b fb) (hm : behindInMarks op b = false) : DE X (.Compare a [op] [b] pos) (e2 g fa fb) :=
  pe_conseq (pe_cmpR ho ha hb hm) fun σ H Q h => tD_bin h
/-- a < b < c -/
def eChain (g g' : D → D → Option D) (fa fb fc : FE) : FE := fun δ => (fa δ).bind fun x => (fb δ).bind fun y => (g x y).bind fun z => match z with
  | .bool true => (fc δ).bind fun w => g' y w
  | .bool false => some (.bool false)
  | _ => none
theorem chain_run {K : PySem.W.Frag} {g g' : D → D → Option D} {σ : L2.St} {H : Hp} {Q : VK} (h : tD K (eChain g g' fa fb fc) σ H Q) : tChain (rD2 K g) (rD2 K g') (tD K fa) (tD K fb) (tD K fc) σ H Q := by
  obtain ⟨E, S, δ, d, rfl, r, hf, q⟩ := h
  unfold eChain at hf
  obtain ⟨x, hx, hf⟩ := Option.bind_eq_some_iff.mp hf
  obtain ⟨y, hy, hf⟩ := Option.bind_eq_some_iff.mp hf
  obtain ⟨z, hz, hf⟩ := Option.bind_eq_some_iff.mp hf
  refine ⟨E, S, δ, x, rfl, r, hx, fun v S1 x1 r1 => ⟨E, S1, δ, y, rfl, r.mono x1, hy, fun u S2 x2 r2 => ⟨S2, x, y, z, rfl, Rv.mono x2.z x r1, r2, hz, fun w S3 x3 r3 => ?_⟩⟩⟩
  cases z with
  | bool k =>
    cases r3
    refine ⟨k, rfl, ?_⟩
    cases k with
    | true =>
      rw [if_pos rfl]
      obtain ⟨w2, hw2, hf⟩ := Option.bind_eq_some_iff.mp hf
      exact ⟨E, S3, δ, w2, rfl, r.mono ((x1.trans x2).trans x3), hw2, fun v4 S4 x4 r4 => ⟨S4, y, w2, d, rfl, Rv.mono (x3.z.trans x4.z) y r2, r4, hf, fun v5 S5 x5 r5 => q v5 S5 ((((x1.trans x2).trans x3).trans x4).trans x5) r5⟩⟩
    | false =>
      rw [if_neg Bool.false_ne_true]
      have hf : some (PyData.bool false) = some d := hf
      cases hf
      exact q _ S3 ((x1.trans x2).trans x3) (.bl false)
  | _ => cases hf
theorem de_chain {op op' : CmpOp} {g g' : D → D → Option D} (ho : OpD X (compareOp op) g) (ho' : OpD X (compareOp op') g') (ha : DE X a fa) (hb : DE X b fb) (hc : DE X c fc) (hm : lastMarks [op, op'] [b, c] = false := by with_unfolding_all rfl) :
    DE X (.Compare a [op, op'] [b, c] pos) (eChain g g' fa fb fc) := pe_conseq (pe_chain ho ho' ha hb hc hm) fun σ H Q h => chain_run h
def asB : D → Option Bool
  | .bool k => some k
  | _ => none
def eAnd (fa fb : FE) : FE := fun δ => (fa δ).bind fun x => match x with
  | .bool true => fb δ
  | .bool false => some (.bool false)
  | _ => none
def eOr (fa fb : FE) : FE := fun δ => (fa δ).bind fun x => match x with
  | .bool true => some (.bool true)
  | .bool false => fb δ
  | _ => none
def eNot (fa : FE) : FE := fun δ => (fa δ).bind fun x => match x with
  | .bool k => some (.bool (!k))
  | _ => none
def eIf (ft fa fb : FE) : FE := fun δ => (ft δ).bind fun x => match x with
  | .bool true => fa δ
  | .bool false => fb δ
  | _ => none
theorem de_one {op : BoolOp} (h : DE X a fa) : DE X (.BoolOp op [a] pos) fa := pe_one h
theorem de_and {rest : List Expr} (ha : DE X a fa) (hb : DE X (.BoolOp .And (b :: rest) pos) fb) : DE X (.BoolOp .And (a :: b :: rest) pos) (eAnd fa fb) := by
  refine pe_conseq (pe_and ha hb) fun σ H Q h => ?_
  obtain ⟨E, S, δ, d, rfl, r, hf, q⟩ := h
  unfold eAnd at hf
  obtain ⟨x, hx, hf⟩ := Option.bind_eq_some_iff.mp hf
  refine ⟨E, S, δ, x, rfl, r, hx, fun v S1 x1 r1 => ?_⟩
  cases x with
  | bool k =>
    cases r1
    refine ⟨k, rfl, ?_⟩
    cases k with
    | true => rw [if_pos rfl]; exact ⟨E, S1, δ, d, rfl, r.mono x1, hf, fun v S2 x2 r2 => q v S2 (x1.trans x2) r2⟩
    | false =>
      rw [if_neg Bool.false_ne_true]
      have hf : some (PyData.bool false) = some d := hf
      cases hf
      exact q _ S1 x1 (.bl false)
  | _ => cases hf
theorem de_or {rest : List Expr} (ha : DE X a fa) (hb : DE X (.BoolOp .Or (b :: rest) pos) fb) : DE X (.BoolOp .Or (a :: b :: rest) pos) (eOr fa fb) := by
  refine pe_conseq (pe_or ha hb) fun σ H Q h => ?_
  obtain ⟨E, S, δ, d, rfl, r, hf, q⟩ := h
  unfold eOr at hf
  obtain ⟨x, hx, hf⟩ := Option.bind_eq_some_iff.mp hf
  refine ⟨E, S, δ, x, rfl, r, hx, fun v S1 x1 r1 => ?_⟩
  cases x with
  | bool k =>
    cases r1
    refine ⟨k, rfl, ?_⟩
    cases k with
    | false => rw [if_neg Bool.false_ne_true]; exact ⟨E, S1, δ, d, rfl, r.mono x1, hf, fun v S2 x2 r2 => q v S2 (x1.trans x2) r2⟩
    | true =>
      rw [if_pos rfl]
      have hf : some (PyData.bool true) = some d := hf
      cases hf
      exact q _ S1 x1 (.bl true)
  | _ => cases hf
theorem de_not (ha : DE X a fa) : DE X (.UnaryOp .Not a pos) (eNot fa) := by
  refine pe_conseq (pe_not ha) fun σ H Q h => ?_
  obtain ⟨E, S, δ, d, rfl, r, hf, q⟩ := h
  unfold eNot at hf
  obtain ⟨x, hx, hf⟩ := Option.bind_eq_some_iff.mp hf
  refine ⟨E, S, δ, x, rfl, r, hx, fun v S1 x1 r1 => ?_⟩
  cases x with
  | bool k =>
    cases r1
    have hf : some (PyData.bool (!k)) = some d := hf
    cases hf
    exact ⟨k, rfl, q _ S1 x1 (.bl _)⟩
  | _ => cases hf
/-- a test that gives True or False -/
def tDT (K : PySem.W.Frag) (f : FE) : TT := fun σ H Q => ∃ (E : Hp) (S : Stt) (δ : List Sl) (k : Bool), S.H = H ∧ R K E S σ δ ∧ f δ = some (.bool k) ∧ ∀ S', Ex S S' → Q k S'.H
theorem dt_of (h : DE X e f) (he : ∀ whole, isTrue e X.env whole = (do let v ← whole; standAt e.pos; holding [v] (truthy v)) := by intro _; rfl) : PT X e (tDT X.K f) := by
  refine pt_conseq (pt_val h he) fun σ H Q q => ?_
  obtain ⟨E, S, δ, k, rfl, r, hf, q⟩ := q
  exact ⟨E, S, δ, _, rfl, r, hf, fun v S' x rv => by cases rv; exact ⟨k, rfl, q S' x⟩⟩
theorem dt_not {ft : FE} (h : PT X e (tDT X.K ft)) : PT X (.UnaryOp .Not e pos) (tDT X.K (eNot ft)) := by
  refine pt_conseq (pt_not h) fun σ H Q q => ?_
  obtain ⟨E, S, δ, k, rfl, r, hf, q⟩ := q
  unfold eNot at hf
  obtain ⟨x, hx, hf⟩ := Option.bind_eq_some_iff.mp hf
  cases x with
  | bool k' =>
    have hf : some (PyData.bool (!k')) = some (PyData.bool k) := hf
    cases hf
    exact ⟨E, S, δ, k', rfl, r, hx, fun S' x => q S' x⟩
  | _ => cases hf
theorem dw_and1 {ft : FE} (h : PT X a (tDT X.K ft)) : PW X (.BoolOp .And [a] pos) (tDT X.K ft) := pw_and1 h
theorem dw_or1 {ft : FE} (h : PT X a (tDT X.K ft)) : PW X (.BoolOp .Or [a] pos) (tDT X.K ft) := pw_or1 h
theorem pw_conseq {e : Expr} {t t' : TT} (h : PW X e t) (q : ∀ σ H Q, t' σ H Q → t σ H Q) : PW X e t' := ⟨fun whole pins s σ H Q I hw => h.run whole pins s σ H Q I (q _ _ _ hw)⟩
theorem dw_and {rest : List Expr} {fa fb : FE} (ha : PT X a (tDT X.K fa)) (hb : PW X (.BoolOp .And (b :: rest) pos) (tDT X.K fb)) : PW X (.BoolOp .And (a :: b :: rest) pos) (tDT X.K (eAnd fa fb)) := by
  refine pw_conseq (pw_and ha hb) fun σ H Q q => ?_
  obtain ⟨E, S, δ, k, rfl, r, hf, q⟩ := q
  unfold eAnd at hf
  obtain ⟨x, hx, hf⟩ := Option.bind_eq_some_iff.mp hf
  cases x with
  | bool k' =>
    refine ⟨E, S, δ, k', rfl, r, hx, fun S1 x1 => ?_⟩
    cases k' with
    | true => rw [if_pos rfl]; exact ⟨E, S1, δ, k, rfl, r.mono x1, hf, fun S2 x2 => q S2 (x1.trans x2)⟩
    | false =>
      rw [if_neg Bool.false_ne_true]
      have hf : some (PyData.bool false) = some (PyData.bool k) := hf
      cases hf
      exact q S1 x1
  | _ => cases hf
theorem dw_or {rest : List Expr} {fa fb : FE} (ha : PT X a (tDT X.K fa)) (hb : PW X (.BoolOp .Or (b :: rest) pos) (tDT X.K fb)) : PW X (.BoolOp .Or (a :: b :: rest) pos) (tDT X.K (eOr fa fb)) := by
  refine pw_conseq (pw_or ha hb) fun σ H Q q => ?_
  obtain ⟨E, S, δ, k, rfl, r, hf, q⟩ := q
  unfold eOr at hf
  obtain ⟨x, hx, hf⟩ := Option.bind_eq_some_iff.mp hf
  cases x with
  | bool k' =>
    refine ⟨E, S, δ, k', rfl, r, hx, fun S1 x1 => ?_⟩
    cases k' with
    | false => rw [if_neg Bool.false_ne_true]; exact ⟨E, S1, δ, k, rfl, r.mono x1, hf, fun S2 x2 => q S2 (x1.trans x2)⟩
    | true =>
      rw [if_pos rfl]
      have hf : some (PyData.bool true) = some (PyData.bool k) := hf
      cases hf
      exact q S1 x1
  | _ => cases hf
theorem dw_pt {ft : FE} (h : PW X e (tDT X.K ft)) : PT X e (tDT X.K ft) := h.pt
theorem de_ifExp {ft : FE} (ht : PT X c (tDT X.K ft)) (ha : DE X a fa) (hb : DE X b fb) : DE X (.IfExp c a b pos) (eIf ft fa fb) := by
  refine pe_conseq (pe_ifExp ht ha hb) fun σ H Q h => ?_
  obtain ⟨E, S, δ, d, rfl, r, hf, q⟩ := h
  unfold eIf at hf
  obtain ⟨x, hx, hf⟩ := Option.bind_eq_some_iff.mp hf
  cases x with
  | bool k =>
    refine ⟨E, S, δ, k, rfl, r, hx, fun S1 x1 => ?_⟩
    cases k with
    | true => rw [if_pos rfl]; exact ⟨E, S1, δ, d, rfl, r.mono x1, hf, fun v S2 x2 r2 => q v S2 (x1.trans x2) r2⟩
    | false => rw [if_neg Bool.false_ne_true]; exact ⟨E, S1, δ, d, rfl, r.mono x1, hf, fun v S2 x2 r2 => q v S2 (x1.trans x2) r2⟩
  | _ => cases hf
/-! ### argument lists, displays -/
def aNil : FA := fun _ => some []
def aCons (f : FE) (g : FA) : FA := fun δ => (f δ).bind fun d => (g δ).bind fun ds => some (d :: ds)
theorem da_nil : DA X [] aNil := pa_conseq pa_nil fun σ H Q h => by
  obtain ⟨E, S, δ, ds, rfl, r, hf, q⟩ := h
  cases hf
  exact q [] S (.refl S) .nil
theorem da_cons {es : List Expr} {g : FA} (h : DE X e f) (t : DA X es g) (hs : starEach (e :: es) X.env = (false, eval e X.env) :: starEach es X.env := by rfl) : DA X (e :: es) (aCons f g) := pa_conseq (pa_cons h t hs) fun σ H Q h => by
  obtain ⟨E, S, δ, ds, rfl, r, hf, q⟩ := h
  unfold aCons at hf
  obtain ⟨x, hx, hf⟩ := Option.bind_eq_some_iff.mp hf
  obtain ⟨y, hy, hf⟩ := Option.bind_eq_some_iff.mp hf
  cases hf
  exact ⟨E, S, δ, x, rfl, r, hx, fun v S1 x1 r1 => ⟨E, S1, δ, y, rfl, r.mono x1, hy, fun vs S2 x2 r2 => q _ S2 (x1.trans x2) (.cons (Rv.mono x2.z x r1) r2)⟩⟩
/-- lists no longer than this are made -/
def lim : Nat := 16777216
theorem lim_line : lim ≤ sizeLine := by decide
def eTup (g : FA) : FE := fun δ => (g δ).bind fun ds => if ds.length ≤ lim then some (.tuple ds) else none
def eLst (g : FA) : FE := fun δ => (g δ).bind fun ds => if ds.length ≤ lim then some (.list ds) else none
theorem lay_tup {K : PySem.W.Frag} {S : Stt} {ds : List D} {vs : List V} {p : Addr} (hp : S.H p = none) (r : RvL K S.Z ds vs) : Rv K (S.lay p (.tup vs)).Z (.tuple ds) (.ref p) :=
  .tup (.inl (.inl Stt.lay_at)) (RvL.mono (S.lay_ex (o := .tup vs) hp).z ds r)
theorem lay_lst {K : PySem.W.Frag} {S : Stt} {ds : List D} {vs : List V} {p : Addr} (hp : S.H p = none) (r : RvL K S.Z ds vs) : Rv K (S.lay p (.lst vs)).Z (.list ds) (.ref p) :=
  .lst (.inl (.inl Stt.lay_at)) (RvL.mono (S.lay_ex (o := .lst vs) hp).z ds r)
theorem de_tup {es : List Expr} {g : FA} {k : Nat} (h : DA X es g) : DE X (.Tuple es k pos) (eTup g) := pe_conseq (pe_tup h) fun σ H Q h => by
  obtain ⟨E, S, δ, d, rfl, r, hf, q⟩ := h
  unfold eTup at hf
  obtain ⟨ds, hx, hf⟩ := Option.bind_eq_some_iff.mp hf
  split at hf
  · rename_i hz
    cases hf
    refine ⟨E, S, δ, ds, rfl, r, hx, fun vs S1 x1 r1 => ⟨by rw [r1.length]; exact Nat.le_trans hz lim_line, fun p hp => ?_⟩⟩
    exact q _ (S1.lay p (.tup vs)) (x1.trans (S1.lay_ex hp)) (lay_tup hp r1)
  · cases hf
theorem de_lst {es : List Expr} {g : FA} (h : DA X es g) : DE X (.List es pos) (eLst g) := pe_conseq (pe_lst h) fun σ H Q h => by
  obtain ⟨E, S, δ, d, rfl, r, hf, q⟩ := h
  unfold eLst at hf
  obtain ⟨ds, hx, hf⟩ := Option.bind_eq_some_iff.mp hf
  split at hf
  · rename_i hz
    cases hf
    refine ⟨E, S, δ, ds, rfl, r, hx, fun vs S1 x1 r1 => ⟨by rw [r1.length]; exact Nat.le_trans hz lim_line, fun p hp => ?_⟩⟩
    exact q _ (S1.lay p (.lst vs)) (x1.trans (S1.lay_ex hp)) (lay_lst hp r1)
  · cases hf
end
end Pd

set_option Elab.async false
set_option linter.all false
set_option maxRecDepth 100000
set_option maxHeartbeats 4000000
namespace PySem
theorem list_extendW (l : Addr) (items : Array Value) (n : Nat) (b : Addr) (items2 : Array Value) (n2 : Nat) (dd2 : Option Addr) (sl2 : Array (Option Value)) (hc0 : ¬(!items.isEmpty && Builtin.List.listTooLong (items.size + items2.size)) = true) (hc1 : items.size ≤ sizeLine) (hs2 : items.size + items2.size ≤ sizeLine + 1) :
    Meets (Builtin.«list.extend» ⟨[.ref l, .ref b], []⟩) (fun _ R s => s.heap.get? l = some { cls := .type "list", dict := none, data := .seq items n, slots := #[] } ∧ s.heap.get? b = some { cls := .type "list", dict := dd2, data := .seq items2 n2, slots := sl2 } ∧ R (.ok (.ret .none)) { s with heap := s.heap.update l (Obj.mapSeq fun x => x ++ items2) }) :=
  .of_wp fun prog w A R s h => by
    obtain ⟨hp, g, d, tk, os⟩ := s; obtain ⟨hl, hb, h⟩ := h; have f1 := AutoSeq1.idx_int; have f2 := AutoSeq1.sub_tuple_tuple; have f3 := AutoSeq1.sub_list_list; have f4 := AutoSeq1.sub_tuple_list; have f5 := AutoSeq1.sub_list_tuple;
    have hz' : (items ++ items2).size ≤ sizeLine + 1 := by rw [Array.size_append]; exact hs2
    wp_walk using (wpAny_updateSeq hl rfl (hz := hc1) (_hz' := hz')), wpAny_loadPart' hl, wpAny_loadPart' hb; exact ⟨_, rfl, h⟩
end PySem
namespace Pd
open PySem PySem.Spec PyProof.Rows L2
section
variable {X : Cx} {a b c e : Expr} {fa fb fc f : FE} {pos : Pos}
/-! ### operators -/
def addD : D → D → Option D
  | .int i, .int j => some (.int (i + j))
  | .str x, .str y => if x.length + y.length ≤ lim then some (.str (x ++ y)) else none
  | .list x, .list y => if x.length + y.length ≤ lim then some (.list (x ++ y)) else none
  | .tuple x, .tuple y => if x.length + y.length ≤ lim then some (.tuple (x ++ y)) else none
  | _, _ => none
theorem I_list {pins : List (Addr × Obj)} {s : Shared} {σ : L2.St} {H : Hp} (I : Inv X pins σ H s) {a : Addr} {xs : List V} (h : SqL X.K H a xs) :
    ∃ (its : List Value) (o : Obj) (n : Nat), Vals xs its ∧ s.heap.get? a = some o ∧ o.cls = .type "list" ∧ o.dict = none ∧ o.data = .seq its.toArray n ∧ xs.length ≤ sizeLine := by
  obtain ⟨its, rv, ⟨o, n, ho, hc, hdn, hd⟩, hlen⟩ := I.list h
  exact ⟨its, o, n, rv, ho, hc, hdn, hd, hlen⟩
theorem add_list_gen {pins : List (Addr × Obj)} {s : Shared} {σ : L2.St} {H : Hp} {p q : Addr} {xs zs : List V} {Q : VK} (I : Inv X pins σ H s) (h1 : SqL X.K H p xs) (h2 : SqL X.K H q zs) (hz : xs.length + zs.length ≤ sizeLine)
    (k : ∀ l, H l = none → Q (.ref l) (upd H l (.lst (xs ++ zs)))) : wpAny (model X.prog X.w) X.A (binaryOp .Add (.ref p) (.ref q)) (EP X pins σ Q) X.xe s := by
  obtain ⟨its, ⟨cls, dd, data, sl⟩, n, r, e, hc, hdn, hd, hl⟩ := I_list I h1
  obtain ⟨its2, ⟨cls2, dd2, data2, sl2⟩, n2, r2, e2, hc2, hdn2, hd2, hl2⟩ := I_list I h2
  simp only at hc hdn hd hc2 hdn2 hd2
  subst hc hdn hd hc2 hdn2 hd2
  have z1 := r.length
  have z2 := r2.length
  refine concat_meets ⟨_, e, rfl⟩ ⟨_, e2, rfl⟩ noFill_list_add seq_list_add PySem.F.slot_list_add PySem.F.entry_list_add (PySem.F.args_list_add_2 _ _) (list_addW p q its.toArray its2.toArray n n2 none none sl sl2 (by rw [List.size_toArray, List.size_toArray]; omega)) ⟨e, e2, ?_⟩
  have ea : its.toArray ++ its2.toArray = (its ++ its2).toArray := by simp
  rw [ea]
  exact ⟨.ref _, _, I.lnew (t' := s.toks) (r.append r2) (by rw [List.length_append]; omega), rfl, k _ I.fresh⟩
theorem op_addD : OpD X (binaryOp .Add) addD := by
  intro pins s σ H x y v u Q I rx ry h
  obtain ⟨S, d1, d2, d, rfl, r1, r2, hf, q⟩ := h
  cases d1 with
  | int i =>
    cases d2 with
    | int j => cases r1; cases r2; cases hf; exact op_add pins s σ S.H _ _ v u Q I rx ry ⟨i, j, rfl, rfl, q _ S (.refl S) (.int _)⟩
    | _ => cases hf
  | str i =>
    cases d2 with
    | str j =>
      cases r1; cases r2
      simp only [addD] at hf
      split at hf
      · rename_i hz
        cases hf
        exact op_add_str pins s σ S.H _ _ v u Q I rx ry ⟨i, j, rfl, rfl, Nat.le_trans hz lim_line, q _ S (.refl S) (.str _)⟩
      · cases hf
    | _ => cases hf
  | list ds =>
    cases d2 with
    | list es =>
      simp only [addD] at hf
      split at hf
      · rename_i hz
        cases hf
        cases r1 with
        | lst a1 b1 =>
          cases r2 with
          | lst a2 b2 =>
            cases (show v = Value.ref _ from rx)
            cases (show u = Value.ref _ from ry)
            refine add_list_gen I (S.ok.seq a1) (S.ok.seq a2) (by rw [b1.length, b2.length]; exact Nat.le_trans hz lim_line) fun l hl => ?_
            exact q _ (S.lay l (.lst _)) (S.lay_ex hl) (lay_lst hl (b1.append b2))
      · cases hf
    | _ => cases hf
  | tuple ds =>
    cases d2 with
    | tuple es =>
      simp only [addD] at hf
      split at hf
      · rename_i hz
        cases hf
        cases r1 with
        | tup a1 b1 =>
          cases r2 with
          | tup a2 b2 =>
            rename_i p1 xs p2 ys
            refine op_catA pins s σ S.H _ _ v u Q I rx ry ⟨p1, p2, xs, ys, rfl, rfl, sqt_mono S.ok a1, sqt_mono S.ok a2, by rw [b1.length, b2.length]; exact Nat.le_trans hz lim_line, fun e => ?_, fun e e' => ?_, fun e e' p hp => ?_⟩
            · subst e
              cases b1
              exact q _ S (.refl S) (.tup a2 b2)
            · subst e'
              cases b2
              rw [List.append_nil] at q
              exact q _ S (.refl S) (.tup a1 b1)
            · exact q _ (S.lay p (.tup _)) (S.lay_ex hp) (lay_tup hp (b1.append b2))
      · cases hf
    | _ => cases hf
  | _ => cases hf
/-- operators on two ints -/
def intD (c : Int → Int → Bool) (g : Int → Int → D) : D → D → Option D
  | .int i, .int j => if c i j then some (g i j) else none
  | _, _ => none
theorem op_intD {op : Value → Value → Sem Value} {C : Int → Int → Prop} {c : Int → Int → Bool} {g : Int → Int → Int} (h : OpR X op (rI C fun i j => .int (g i j))) (hc : ∀ i j, c i j = true → C i j) : OpD X op (intD c fun i j => .int (g i j)) := by
  refine opr_conseq h fun x y H Q h => ?_
  obtain ⟨S, d1, d2, d, rfl, r1, r2, hf, q⟩ := h
  cases d1 with
  | int i =>
    cases d2 with
    | int j =>
      cases r1; cases r2
      simp only [intD] at hf
      split at hf
      · rename_i hz
        cases hf
        exact ⟨i, j, rfl, rfl, hc i j hz, q _ S (.refl S) (.int _)⟩
      · cases hf
    | _ => cases hf
  | _ => cases hf
def subD : D → D → Option D := intD (fun _ _ => true) fun i j => .int (i - j)
def mulD : D → D → Option D := intD (fun i j => decide (-(2 ^ 64) < i ∧ i < 2 ^ 64) || decide (-(2 ^ 64) < j ∧ j < 2 ^ 64)) fun i j => .int (i * j)
def divD : D → D → Option D := intD (fun _ j => decide (0 < j ∧ j < 1073741824)) fun i j => .int (i / j)
def modD : D → D → Option D := intD (fun _ j => decide (0 < j)) fun i j => .int (i % j)
def powD : D → D → Option D := intD (fun i j => decide (0 ≤ j ∧ j ≤ 1000000 ∧ i.natAbs < 2 ^ 64)) fun i j => .int (i ^ j.toNat)
theorem op_subD : OpD X (binaryOp .Sub) subD := op_intD (C := fun _ _ => True) (g := fun i j => i - j) (opr_conseq op_sub fun x y H Q h => by obtain ⟨i, j, e1, e2, _, q⟩ := h; exact ⟨i, j, e1, e2, q⟩) fun _ _ _ => trivial
theorem op_mulD : OpD X (binaryOp .Mult) mulD := op_intD op_mul fun i j h => by
  rw [Bool.or_eq_true, decide_eq_true_eq, decide_eq_true_eq] at h
  exact h
theorem op_divD : OpD X (binaryOp .FloorDiv) divD := op_intD op_fdiv fun i j h => (of_decide_eq_true h : 0 < j ∧ j < 1073741824)
theorem op_modD : OpD X (binaryOp .Mod) modD := op_intD op_mod fun i j h => of_decide_eq_true h
theorem op_powD : OpD X (binaryOp .Pow) powD := op_intD op_pow fun i j h => (of_decide_eq_true h : 0 ≤ j ∧ j ≤ 1000000 ∧ i.natAbs < 2 ^ 64)
/-- comparisons of order: ints, texts -/
def ordD (g : Int → Int → Bool) (h : List Nat → List Nat → Bool) : D → D → Option D
  | .int i, .int j => some (.bool (g i j))
  | .str x, .str y => some (.bool (h x.cps.toList y.cps.toList))
  | _, _ => none
theorem op_ordD {op : Value → Value → Sem Value} {g : Int → Int → Bool} {k : List Nat → List Nat → Bool} (h1 : OpR X op (rI0 fun i j => .bl (g i j))) (h2 : OpR X op (fun x y H Q => ∃ i j, x = .str i ∧ y = .str j ∧ Q (.bl (k i.cps.toList j.cps.toList)) H)) : OpD X op (ordD g k) := by
  intro pins s σ H x y v u Q I rx ry h
  obtain ⟨S, d1, d2, d, rfl, r1, r2, hf, q⟩ := h
  cases d1 with
  | int i =>
    cases d2 with
    | int j => cases r1; cases r2; cases hf; exact h1 pins s σ S.H _ _ v u Q I rx ry ⟨i, j, rfl, rfl, q _ S (.refl S) (.bl _)⟩
    | _ => cases hf
  | str i =>
    cases d2 with
    | str j => cases r1; cases r2; cases hf; exact h2 pins s σ S.H _ _ v u Q I rx ry ⟨i, j, rfl, rfl, q _ S (.refl S) (.bl _)⟩
    | _ => cases hf
  | _ => cases hf
def ltD : D → D → Option D := ordD (fun i j => decide (i < j)) fun x y => decide (x < y)
def leD : D → D → Option D := ordD (fun i j => decide (i ≤ j)) fun x y => !decide (y < x)
def gtD : D → D → Option D := ordD (fun i j => decide (j < i)) fun x y => decide (y < x)
def geD : D → D → Option D := ordD (fun i j => decide (j ≤ i)) fun x y => !decide (x < y)
theorem op_ltD : OpD X (compareOp .Lt) ltD := op_ordD op_lt op_lt_str
theorem op_leD : OpD X (compareOp .LtE) leD := op_ordD op_le op_le_str
theorem op_gtD : OpD X (compareOp .Gt) gtD := op_ordD op_gt op_gt_str
theorem op_geD : OpD X (compareOp .GtE) geD := op_ordD op_ge op_ge_str
/-- == and != of data -/
def fitD (d : D) : Bool := flatD d && SeqAt.shaped d
/-- two plain values that == compares without a look at their signs -/
def sc2 : D → D → Bool
  | .none, .none => true
  | .none, .int _ => true
  | .int _, .none => true
  | .none, .bool _ => true
  | .bool _, .none => true
  | .none, .str _ => true
  | .str _, .none => true
  | .int _, .int _ => true
  | .bool _, .bool _ => true
  | .str _, .str _ => true
  | .int _, .str _ => true
  | .str _, .int _ => true
  | .bool _, .str _ => true
  | .str _, .bool _ => true
  | _, _ => false
theorem sc2_run {K : PySem.W.Frag} {H : Hp} {d1 d2 : D} {x y : V} (h : sc2 d1 d2 = true) (r1 : Rv K H d1 x) (r2 : Rv K H d2 y) : scal x y = true ∧ decide (x = y) = PyData.eqv d1 d2 := by
  cases d1 <;> cases d2 <;> first | (cases h; done) | (cases r1; cases r2; first | exact ⟨rfl, rfl⟩ | skip)
  · rename_i a b
    refine ⟨rfl, ?_⟩
    show decide (V.bl a = V.bl b) = (a == b)
    cases a <;> cases b <;> rfl
  · rename_i a b
    refine ⟨rfl, ?_⟩
    show decide (V.int a = V.int b) = (a == b)
    by_cases e : a = b
    · subst e; simp
    · rw [decide_eq_false (fun q => e (V.int.inj q))]; exact (beq_eq_false_iff_ne.mpr e).symm
  · rename_i a b
    refine ⟨rfl, ?_⟩
    show decide (V.str a = V.str b) = (a == b)
    by_cases e : a = b
    · subst e; simp
    · rw [decide_eq_false (fun q => e (V.str.inj q))]; exact (beq_eq_false_iff_ne.mpr e).symm
def eqD (x y : D) : Option D := if sc2 x y || (fitD x && fitD y) then some (.bool (PyData.eqv x y)) else none
def neD (x y : D) : Option D := if sc2 x y || (fitD x && fitD y) then some (.bool (!PyData.eqv x y)) else none
theorem op_eqDD (hu : X.A.units + 64 < cLine) : OpD X (compareOp .Eq) eqD := by
  refine opr_conseq (op_eq.or (op_eqD hu)) fun x y H Q h => ?_
  obtain ⟨S, d1, d2, d, rfl, r1, r2, hf, q⟩ := h
  unfold eqD at hf
  split at hf
  · rename_i hz
    cases hf
    rw [Bool.or_eq_true] at hz
    rcases hz with hz | hz
    · obtain ⟨h1, h2⟩ := sc2_run hz r1 r2
      exact .inl ⟨h1, by rw [h2]; exact q _ S (.refl S) (.bl _)⟩
    · simp only [fitD, Bool.and_eq_true] at hz
      exact .inr ⟨d1, d2, (Rv.mono S.ok d1 r1).dp d1 hz.1.1, (Rv.mono S.ok d2 r2).dp d2 hz.2.1, hz.1.2, hz.2.2, q _ S (.refl S) (.bl _)⟩
  · cases hf
theorem op_neDD (hu : X.A.units + 64 < cLine) : OpD X (compareOp .NotEq) neD := by
  refine opr_conseq (op_ne.or (op_neD hu)) fun x y H Q h => ?_
  obtain ⟨S, d1, d2, d, rfl, r1, r2, hf, q⟩ := h
  unfold neD at hf
  split at hf
  · rename_i hz
    cases hf
    rw [Bool.or_eq_true] at hz
    rcases hz with hz | hz
    · obtain ⟨h1, h2⟩ := sc2_run hz r1 r2
      exact .inl ⟨h1, by rw [h2]; exact q _ S (.refl S) (.bl _)⟩
    · simp only [fitD, Bool.and_eq_true] at hz
      exact .inr ⟨d1, d2, (Rv.mono S.ok d1 r1).dp d1 hz.1.1, (Rv.mono S.ok d2 r2).dp d2 hz.2.1, hz.1.2, hz.2.2, q _ S (.refl S) (.bl _)⟩
  · cases hf
/-- in -/
def inD (neg : Bool) : D → D → Option D
  | .str x, .str z => match x.cps.toList with
    | [c] => some (.bool (if neg then !decide (c ∈ z.cps.toList) else decide (c ∈ z.cps.toList)))
    | _ => none
  | x, .list ds => if fitD x && fitD (.list ds) then some (.bool (if neg then !ds.any fun z => PyData.eqv z x else ds.any fun z => PyData.eqv z x)) else none
  | x, .tuple ds => if fitD x && fitD (.tuple ds) then some (.bool (if neg then !ds.any fun z => PyData.eqv z x else ds.any fun z => PyData.eqv z x)) else none
  | _, _ => none
theorem in_seq {neg : Bool} {pins : List (Addr × Obj)} {s : Shared} {σ : L2.St} {S : Stt} {x y : V} {v u : Value} {Q : VK} {d1 : D} {ds : List D} {tup : Bool} (hu : X.A.units + 65 < cLine) (I : Inv X pins σ S.H s) (rx : RelV x v) (ry : RelV y u)
    (r1 : Rv X.K S.Z d1 x) (r2 : Rv X.K S.Z (if tup then .tuple ds else .list ds) y) (hf : (fitD d1 && fitD (if tup then .tuple ds else .list ds)) = true) (q : Q (.bl (if neg then !ds.any fun z => PyData.eqv z d1 else ds.any fun z => PyData.eqv z d1)) S.H) :
    wpAny (model X.prog X.w) X.A (compareOp (if neg then .NotIn else .In) v u) (EP X pins σ Q) X.xe s := by
  simp only [fitD, Bool.and_eq_true] at hf
  obtain ⟨as, h1⟩ := Dp.reads I d1 x v ((Rv.mono S.ok _ r1).dp _ hf.1.1) rx
  have h2 := Dp.reads I _ y u ((Rv.mono S.ok _ r2).dp _ hf.2.1) ry
  obtain ⟨bs, h2⟩ := h2
  have l1 := SeqAt.canLay_of_shaped hf.1.2
  have l2 := SeqAt.canLay_of_shaped hf.2.2
  have rm := room_in_shaped (A := X.A) (xs := ds) hf.1.2 hu
  cases tup with
  | true =>
    cases neg with
    | true => exact SeqAt.notIn_tuple_reads h2 h1 (by simpa [PyData.canLay0] using l2) l1 rm ⟨.bl _, S.H, I, rfl, q⟩
    | false => exact SeqAt.in_tuple_reads h2 h1 (by simpa [PyData.canLay0] using l2) l1 rm ⟨.bl _, S.H, I, rfl, q⟩
  | false =>
    cases neg with
    | true => exact SeqAt.notIn_list_reads h2 h1 (by simpa [PyData.canLay0] using l2) l1 rm ⟨.bl _, S.H, I, rfl, q⟩
    | false => exact SeqAt.in_list_reads h2 h1 (by simpa [PyData.canLay0] using l2) l1 rm ⟨.bl _, S.H, I, rfl, q⟩
theorem op_inDn (neg : Bool) (hu : X.A.units + 65 < cLine) : OpD X (compareOp (if neg then .NotIn else .In)) (inD neg) := by
  intro pins s σ H x y v u Q I rx ry h
  obtain ⟨S, d1, d2, d, rfl, r1, r2, hf, q⟩ := h
  have seqL : ∀ ds, d2 = .list ds → wpAny (model X.prog X.w) X.A (compareOp (if neg then .NotIn else .In) v u) (EP X pins σ Q) X.xe s := by
    intro ds e
    subst e
    have hf' : (if fitD d1 && fitD (.list ds) then some (PyData.bool (if neg then !ds.any fun z => PyData.eqv z d1 else ds.any fun z => PyData.eqv z d1)) else none) = some d := by
      cases d1 <;> exact hf
    split at hf'
    · rename_i hz
      cases hf'
      exact in_seq (tup := false) hu I rx ry r1 r2 hz (q _ S (.refl S) (.bl _))
    · cases hf'
  have seqT : ∀ ds, d2 = .tuple ds → wpAny (model X.prog X.w) X.A (compareOp (if neg then .NotIn else .In) v u) (EP X pins σ Q) X.xe s := by
    intro ds e
    subst e
    have hf' : (if fitD d1 && fitD (.tuple ds) then some (PyData.bool (if neg then !ds.any fun z => PyData.eqv z d1 else ds.any fun z => PyData.eqv z d1)) else none) = some d := by
      cases d1 <;> exact hf
    split at hf'
    · rename_i hz
      cases hf'
      exact in_seq (tup := true) hu I rx ry r1 r2 hz (q _ S (.refl S) (.bl _))
    · cases hf'
  cases d2 with
  | list ds => exact seqL ds rfl
  | tuple ds => exact seqT ds rfl
  | str z =>
    cases d1 with
    | str w =>
      cases r1; cases r2
      simp only [inD] at hf
      split at hf
      · rename_i c hc
        cases hf
        have hw : w = ⟨#[c]⟩ := by
          obtain ⟨a⟩ := w
          simp only at hc
          have : a = #[c] := by
            apply Array.ext'
            simpa using hc
          rw [this]
        subst hw
        cases neg with
        | true => exact op_notIn_sign pins s σ S.H _ _ v u Q I rx ry ⟨c, z, rfl, rfl, q _ S (.refl S) (.bl _)⟩
        | false => exact op_in_sign pins s σ S.H _ _ v u Q I rx ry ⟨c, z, rfl, rfl, q _ S (.refl S) (.bl _)⟩
      · cases hf
    | _ => cases hf
  | _ => cases d1 <;> cases hf
theorem op_inDD (hu : X.A.units + 65 < cLine) : OpD X (compareOp .In) (inD false) := op_inDn false hu
theorem op_notInDD (hu : X.A.units + 65 < cLine) : OpD X (compareOp .NotIn) (inD true) := op_inDn true hu
/-- -n -/
def negD : D → Option D
  | .int i => some (.int (-i))
  | _ => none
theorem de_neg (ha : DE X a fa) : DE X (.UnaryOp .USub a pos) (e1 negD fa) := by
  refine pe_conseq (pe_un un_neg ha) fun σ H Q h => ?_
  obtain ⟨E, S, δ, d, rfl, r, hf, q⟩ := h
  unfold e1 at hf
  obtain ⟨x, hx, hf⟩ := Option.bind_eq_some_iff.mp hf
  refine ⟨E, S, δ, x, rfl, r, hx, fun v S1 x1 r1 => ?_⟩
  cases x with
  | int i => cases r1; cases hf; exact ⟨i, rfl, q _ S1 x1 (.int _)⟩
  | _ => cases hf
/-! ### built-ins by values -/
def rD1 (K : PySem.W.Frag) (g : D → Option D) : V → Hp → VK → Prop := fun x H Q => ∃ (S : Stt) (d1 d : D), S.H = H ∧ Rv K S.Z d1 x ∧ g d1 = some d ∧ ∀ v S', Ex S S' → Rv K S'.Z d v → Q v S'.H
/-- a call of a built-in function or class with data -/
def CaD (X : Cx) (f : Value) (g : List D → Option D) : Prop := CallR X f fun xs H Q => ∃ (S : Stt) (ds : List D) (d : D), S.H = H ∧ RvL X.K S.Z ds xs ∧ g ds = some d ∧ ∀ v S', Ex S S' → Rv X.K S'.Z d v → Q v S'.H
def eCB (g : List D → Option D) (fs : FA) : FE := fun δ => (fs δ).bind g
theorem de_callB {x : Str} {id : String} {es : List Expr} {p : Pos} {g : List D → Option D} {fs : FA} (hc : CaD X (.builtin id) g) (hg : Gl X x) (hm : X.mg x = none) (hv : bootBuiltins x = some (.builtin id)) (ha : DA X (e :: es) fs) (hn : x ≠ "__name__" := by decide) (hdb : (x == ("__debug__" : Str)) = false := by decide)
    (he : starEach (e :: es) X.env = (false, eval e X.env) :: starEach es X.env := by rfl) (hpl : (backTo pos (starEach es X.env)).any (·.1) = false := by rfl) : DE X (.Call (.Name x p) (e :: es) [] pos) (eCB g fs) := by
  refine pe_conseq (pe_callB hc hg hm hv ha hn hdb he hpl) fun σ H Q h => ?_
  obtain ⟨E, S, δ, d, rfl, r, hf, q⟩ := h
  obtain ⟨ds, hx, hf⟩ := Option.bind_eq_some_iff.mp hf
  exact ⟨E, S, δ, ds, rfl, r, hx, fun vs S1 x1 r1 => ⟨S1, ds, d, rfl, r1, hf, fun v S2 x2 r2 => q v S2 (x1.trans x2) r2⟩⟩
theorem de_callTy {x : Str} {T : String} {es : List Expr} {p : Pos} {g : List D → Option D} {fs : FA} (hc : CaD X (.type T) g) (hg : Gl X x) (hm : X.mg x = none) (hv : bootBuiltins x = some (.type T)) (ha : DA X (e :: es) fs) (hn : x ≠ "__name__" := by decide) (hdb : (x == ("__debug__" : Str)) = false := by decide)
    (he : starEach (e :: es) X.env = (false, eval e X.env) :: starEach es X.env := by rfl) (hpl : (backTo pos (starEach es X.env)).any (·.1) = false := by rfl) : DE X (.Call (.Name x p) (e :: es) [] pos) (eCB g fs) := by
  refine pe_conseq (pe_callTy hc hg hm hv ha hn hdb he hpl) fun σ H Q h => ?_
  obtain ⟨E, S, δ, d, rfl, r, hf, q⟩ := h
  obtain ⟨ds, hx, hf⟩ := Option.bind_eq_some_iff.mp hf
  exact ⟨E, S, δ, ds, rfl, r, hx, fun vs S1 x1 r1 => ⟨S1, ds, d, rfl, r1, hf, fun v S2 x2 r2 => q v S2 (x1.trans x2) r2⟩⟩
def lenD : List D → Option D
  | [.str x] => if x.length ≤ lim then some (.int x.length) else none
  | [.list ds] => some (.int ds.length)
  | [.tuple ds] => some (.int ds.length)
  | _ => none
theorem ca_len : CaD X (.builtin "len") lenD := by
  intro pins s σ H xs us Q I rx h
  obtain ⟨S, ds, d, rfl, rl, hf, q⟩ := h
  unfold lenD at hf
  split at hf
  · split at hf
    · rename_i x hz
      cases hf
      cases rl with
      | cons r1 rt =>
        cases rt; cases r1
        exact call_len_str pins s σ S.H _ us Q I rx ⟨x, rfl, Nat.le_trans hz lim_line, q _ S (.refl S) (.int _)⟩
    · cases hf
  · cases hf
    cases rl with
    | cons r1 rt =>
      cases rt
      cases r1 with
      | lst a1 b1 => exact call_len_seq pins s σ S.H _ us Q I rx ⟨_, _, rfl, .inl (S.ok.seq a1), by rw [b1.length]; exact q _ S (.refl S) (.int _)⟩
  · cases hf
    cases rl with
    | cons r1 rt =>
      cases rt
      cases r1 with
      | tup a1 b1 => exact call_len_seq pins s σ S.H _ us Q I rx ⟨_, _, rfl, .inr (sqt_mono S.ok a1), by rw [b1.length]; exact q _ S (.refl S) (.int _)⟩
  · cases hf
def listD : List D → Option D
  | [.list ds] => some (.list ds)
  | [.tuple ds] => some (.list ds)
  | _ => none
theorem ca_list : CaD X (.type "list") listD := by
  intro pins s σ H xs us Q I rx h
  obtain ⟨S, ds, d, rfl, rl, hf, q⟩ := h
  unfold listD at hf
  split at hf
  · cases hf
    cases rl with
    | cons r1 rt =>
      cases rt
      cases r1 with
      | lst a1 b1 => exact call_list_of pins s σ S.H _ us Q I rx ⟨_, _, rfl, .inl (S.ok.seq a1), fun l hl => q _ (S.lay l (.lst _)) (S.lay_ex hl) (lay_lst hl b1)⟩
  · cases hf
    cases rl with
    | cons r1 rt =>
      cases rt
      cases r1 with
      | tup a1 b1 => exact call_list_of pins s σ S.H _ us Q I rx ⟨_, _, rfl, .inr (sqt_mono S.ok a1), fun l hl => q _ (S.lay l (.lst _)) (S.lay_ex hl) (lay_lst hl b1)⟩
  · cases hf
def tupD : List D → Option D
  | [.list ds] => some (.tuple ds)
  | [.tuple ds] => some (.tuple ds)
  | _ => none
theorem ca_tuple : CaD X (.type "tuple") tupD := by
  intro pins s σ H xs us Q I rx h
  obtain ⟨S, ds, d, rfl, rl, hf, q⟩ := h
  unfold tupD at hf
  split at hf
  · cases hf
    cases rl with
    | cons r1 rt =>
      cases rt
      cases r1 with
      | lst a1 b1 => exact call_tuple_of pins s σ S.H _ us Q I rx ⟨_, _, rfl, .inl ⟨S.ok.seq a1, fun l hl => q _ (S.lay l (.tup _)) (S.lay_ex hl) (lay_tup hl b1)⟩⟩
  · cases hf
    cases rl with
    | cons r1 rt =>
      cases rt
      cases r1 with
      | tup a1 b1 => exact call_tuple_of pins s σ S.H _ us Q I rx ⟨_, _, rfl, .inr ⟨sqt_mono S.ok a1, q _ S (.refl S) (.tup a1 b1)⟩⟩
  · cases hf
def strD : List D → Option D
  | [.int i] => if i.natAbs.log2 < 1920 then some (.str (toString i)) else none
  | _ => none
theorem ca_str : CaD X (.type "str") strD := by
  intro pins s σ H xs us Q I rx h
  obtain ⟨S, ds, d, rfl, rl, hf, q⟩ := h
  unfold strD at hf
  split at hf
  · split at hf
    · rename_i i hz
      cases hf
      cases rl with
      | cons r1 rt =>
        cases rt; cases r1
        exact call_str_int pins s σ S.H _ us Q I rx ⟨i, rfl, hz, q _ S (.refl S) (.str _)⟩
    · cases hf
  · cases hf
def toIntD : List D → Option D
  | [.int i] => some (.int i)
  | [.bool k] => some (.int (if k then 1 else 0))
  | _ => none
theorem ca_int : CaD X (.type "int") toIntD := by
  intro pins s σ H xs us Q I rx h
  obtain ⟨S, ds, d, rfl, rl, hf, q⟩ := h
  unfold toIntD at hf
  split at hf
  · cases hf
    cases rl with
    | cons r1 rt => cases rt; cases r1; exact call_int1 pins s σ S.H _ us Q I rx (.inl ⟨_, rfl, q _ S (.refl S) (.int _)⟩)
  · cases hf
    cases rl with
    | cons r1 rt => cases rt; cases r1; exact call_int1 pins s σ S.H _ us Q I rx (.inr ⟨_, rfl, q _ S (.refl S) (.int _)⟩)
  · cases hf
def maxD : List D → Option D
  | [.int i, .int j] => some (.int (if j > i then j else i))
  | _ => none
def minD : List D → Option D
  | [.int i, .int j] => some (.int (if j < i then j else i))
  | _ => none
theorem ca_max (hc : X.calm = true) : CaD X (.builtin "max") maxD := by
  intro pins s σ H xs us Q I rx h
  obtain ⟨S, ds, d, rfl, rl, hf, q⟩ := h
  unfold maxD at hf
  split at hf
  · cases hf
    cases rl with
    | cons r1 rt => cases rt with | cons r2 rt => cases rt; cases r1; cases r2; exact call_max2 hc pins s σ S.H _ us Q I rx ⟨_, _, rfl, q _ S (.refl S) (.int _)⟩
  · cases hf
theorem ca_min (hc : X.calm = true) : CaD X (.builtin "min") minD := by
  intro pins s σ H xs us Q I rx h
  obtain ⟨S, ds, d, rfl, rl, hf, q⟩ := h
  unfold minD at hf
  split at hf
  · cases hf
    cases rl with
    | cons r1 rt => cases rt with | cons r2 rt => cases rt; cases r1; cases r2; exact call_min2 hc pins s σ S.H _ us Q I rx ⟨_, _, rfl, q _ S (.refl S) (.int _)⟩
  · cases hf
/-- all, any of truth values -/
def blsD : List D → Option (List Bool)
  | [] => some []
  | .bool k :: r => (blsD r).map (k :: ·)
  | _ => none
theorem blsD_rv {K : PySem.W.Frag} {H : Hp} : ∀ {ds : List D} {vs : List V} {bs : List Bool}, RvL K H ds vs → blsD ds = some bs → vs = bs.map V.bl
  | [], _, _, h, e => by cases h; cases e; rfl
  | d :: r, _, bs, h, e => by
    cases h with
    | cons a b =>
      cases d with
      | bool k =>
        cases a
        simp only [blsD, Option.map_eq_some_iff] at e
        obtain ⟨bs', h1, rfl⟩ := e
        rw [blsD_rv b h1]
        rfl
      | _ => cases e
def allD : List D → Option D
  | [.list ds] => (blsD ds).map fun bs => .bool (bs.all id)
  | _ => none
def anyD : List D → Option D
  | [.list ds] => (blsD ds).map fun bs => .bool (bs.any id)
  | _ => none
theorem ca_all (hc : X.calm = true) : CaD X (.builtin "all") allD := by
  intro pins s σ H xs us Q I rx h
  obtain ⟨S, ds, d, rfl, rl, hf, q⟩ := h
  unfold allD at hf
  split at hf
  · obtain ⟨bs, h1, rfl⟩ := Option.map_eq_some_iff.mp hf
    cases rl with
    | cons r1 rt =>
      cases rt
      cases r1 with
      | lst a1 b1 =>
        have e := blsD_rv b1 h1
        subst e
        exact cr_all hc pins s σ S.H _ us Q I rx ⟨_, bs, rfl, S.ok.seq a1, q _ S (.refl S) (.bl _)⟩
  · cases hf
/-! ### isinstance -/
def tyD : D → String
  | .none => "NoneType"
  | .bool _ => "bool"
  | .int _ => "int"
  | .str _ => "str"
  | .list _ => "list"
  | .tuple _ => "tuple"
  | .dict _ => "dict"
theorem Rv.ty {K : PySem.W.Frag} {H : Hp} {d : D} {v : V} (r : Rv K H d v) : TyX K H v (.type (tyD d)) := by
  cases r with
  | non => exact .base .non
  | bl b => exact .base (.bl b)
  | int i => exact .base (.int i)
  | str x => exact .base (.str x)
  | lst a b =>
    rcases a with (a | ⟨o, a⟩) | ⟨o, its, n, hk, hc, _⟩
    · exact .base (.lst a)
    · exact .base (.frz a)
    · exact .kList hk hc
  | tup a b =>
    rcases a with (a | ⟨o, a⟩) | ⟨o, its, n, hk, hc, _⟩
    · exact .base (.tup a)
    · exact .fTuple a
    · exact .kTuple hk hc
  | dic a b => exact .base (.dK a)
def isTy (T : String) (d : D) : Bool := (kitB (tyD d) T).getD false
def eIs (T : String) (f : FE) : FE := fun δ => (f δ).map fun d => .bool (isTy T d)
/-- the classes asked about -/
theorem kit6 (d : D) : (kitB (tyD d) "int").isSome = true ∧ (kitB (tyD d) "str").isSome = true ∧ (kitB (tyD d) "bool").isSome = true ∧ (kitB (tyD d) "list").isSome = true ∧ (kitB (tyD d) "tuple").isSome = true ∧ (kitB (tyD d) "dict").isSome = true := by
  cases d <;> (simp only [tyD]; decide +kernel)
theorem de_isi {x : Expr} {p : Pos} {T : String} (hT : ∀ d : D, (kitB (tyD d) T).isSome = true) (hg : Gl X "isinstance") (hm : X.mg "isinstance" = none) (ht : PE X x (tC (.ty T))) (ha : DE X e f)
    (he : starEach [e, x] X.env = (false, eval e X.env) :: starEach [x] X.env := by rfl) (he2 : starEach [x] X.env = (false, eval x X.env) :: starEach [] X.env := by rfl) (hpl : (backTo pos (starEach [x] X.env)).any (·.1) = false := by rfl) : DE X (.Call (.Name "isinstance" p) [e, x] [] pos) (eIs T f) := by
  refine pe_conseq (pe_callB call_isi hg hm (by decide +kernel) (pa_cons ha (pa_cons ht pa_nil he2) he) (he := he) (hpl := hpl)) fun σ H Q h => ?_
  obtain ⟨E, S, δ, d, rfl, r, hf, q⟩ := h
  obtain ⟨d1, hx, hf⟩ := Option.map_eq_some_iff.mp hf
  cases hf
  refine ⟨E, S, δ, d1, rfl, r, hx, fun v S1 x1 r1 => ?_⟩
  have hk := hT d1
  refine ⟨v, .ty T, .type (tyD d1), .type T, isTy T d1, rfl, .ty T, (Rv.mono S1.ok d1 r1).ty, kit_ty ?_, q _ S1 x1 (.bl _)⟩
  unfold isTy
  cases e : kitB (tyD d1) T with
  | none => rw [e] at hk; cases hk
  | some b => rfl
/-! ### subscripts -/
def ixD : D → D → Option D
  | .list ds, .int i => atI ds i
  | .tuple ds, .int i => atI ds i
  | .str x, .int i => if x.length ≤ lim then (atI x.cps.toList i).map fun c => .str ⟨#[c]⟩ else none
  | _, _ => none
theorem atI_rv {K : PySem.W.Frag} {H : Hp} {ds : List D} {vs : List V} {i : Int} {d : D} (h : RvL K H ds vs) (e : atI ds i = some d) : ∃ v, atI vs i = some v ∧ Rv K H d v := by
  unfold atI at e ⊢
  rw [h.length]
  cases ei : ixN ds.length i with
  | none => rw [ei] at e; cases e
  | some j =>
    rw [ei] at e
    obtain ⟨v, h1, h2⟩ := h.get (show ds[j]? = some d from e)
    exact ⟨v, h1, h2⟩
theorem de_ix (ha : DE X a fa) (hb : DE X b fb) (hs : PlainIx b) : DE X (.Subscript a b pos) (e2 ixD fa fb) := by
  refine pe_conseq (pe_ix ix_seq ha hb hs) fun σ H Q h => ?_
  obtain ⟨E, S, δ, d, rfl, r, hf, q⟩ := h
  unfold e2 at hf
  obtain ⟨x, hx, hf⟩ := Option.bind_eq_some_iff.mp hf
  obtain ⟨y, hy, hf⟩ := Option.bind_eq_some_iff.mp hf
  refine ⟨E, S, δ, x, rfl, r, hx, fun v S1 x1 r1 => ⟨E, S1, δ, y, rfl, r.mono x1, hy, fun u S2 x2 r2 => ?_⟩⟩
  have r1' := Rv.mono x2.z x r1
  have x12 := x1.trans x2
  cases y with
  | int i =>
    cases r2
    cases x with
    | list ds =>
      cases r1' with
      | lst a1 b1 =>
        obtain ⟨w, e1, e2⟩ := atI_rv b1 hf
        exact .inl ⟨_, _, i, w, rfl, rfl, S2.ok.seq a1, e1, q w S2 x12 e2⟩
    | tuple ds =>
      cases r1' with
      | tup a1 b1 =>
        obtain ⟨w, e1, e2⟩ := atI_rv b1 hf
        exact .inr (.inl ⟨_, _, i, w, rfl, rfl, sqt_mono S2.ok a1, e1, q w S2 x12 e2⟩)
    | str z =>
      cases r1'
      simp only [ixD] at hf
      split at hf
      · rename_i hz
        obtain ⟨c, h1, rfl⟩ := Option.map_eq_some_iff.mp hf
        exact .inr (.inr ⟨z, i, c, rfl, rfl, Nat.le_trans hz lim_line, h1, q _ S2 x12 (.str _)⟩)
      · cases hf
    | _ => cases hf
  | _ => cases x <;> cases hf
/-- d['key'] -/
def lookD : List (D × D) → Str → Option D
  | [], _ => none
  | (.str k, d) :: r, x => if k = x then some d else lookD r x
  | _ :: r, x => lookD r x
def getD : D → D → Option D
  | .dict kvs, .str x => lookD kvs x
  | _, _ => none
theorem lookD_rv {K : PySem.W.Frag} {H : Hp} : ∀ {ds : List (D × D)} {vs : List (Key × V)} {x : Str} {d : D}, RvK K H ds vs → lookD ds x = some d → ∃ v, valV vs (Sum.inr x : Key) = some v ∧ Rv K H d v
  | [], _, _, _, _, e => by cases e
  | (k, d') :: r, _, x, d, h, e => by
    cases h with
    | cons a b =>
      rename_i kk v vs
      cases kk with
      | inl i =>
        have e' : lookD r x = some d := e
        obtain ⟨w, h1, h2⟩ := lookD_rv b e'
        refine ⟨w, ?_, h2⟩
        unfold valV at h1 ⊢
        rw [List.find?_cons_of_neg (by simp)]
        exact h1
      | inr y =>
        have e' : (if y = x then some d' else lookD r x) = some d := e
        split at e'
        · rename_i hy
          cases e'
          subst hy
          exact ⟨v, by unfold valV; rw [List.find?_cons_of_pos (by simp)]; rfl, a⟩
        · rename_i hy
          obtain ⟨w, h1, h2⟩ := lookD_rv b e'
          refine ⟨w, ?_, h2⟩
          unfold valV at h1 ⊢
          rw [List.find?_cons_of_neg (by simpa using hy)]
          exact h1
theorem de_get (hu : X.A.units + 1 < cLine) (ha : DE X a fa) (hb : DE X b fb) (hs : NoSl b) : DE X (.Subscript a b pos) (e2 getD fa fb) := by
  refine pe_conseq (pe_dget hu ha hb hs) fun σ H Q h => ?_
  obtain ⟨E, S, δ, d, rfl, r, hf, q⟩ := h
  unfold e2 at hf
  obtain ⟨x, hx, hf⟩ := Option.bind_eq_some_iff.mp hf
  obtain ⟨y, hy, hf⟩ := Option.bind_eq_some_iff.mp hf
  refine ⟨E, S, δ, x, rfl, r, hx, fun v S1 x1 r1 => ⟨E, S1, δ, y, rfl, r.mono x1, hy, fun u S2 x2 r2 => ?_⟩⟩
  have r1' := Rv.mono x2.z x r1
  cases x with
  | dict kvs =>
    cases y with
    | str z =>
      cases r2
      cases r1' with
      | dic a1 b1 =>
        obtain ⟨w, h1, h2⟩ := lookD_rv b1 hf
        exact ⟨_, w, rfl, by rw [← h1]; exact DGet.k (k := Sum.inr z) (S2.ok _ _ a1), q w S2 (x1.trans x2) h2⟩
    | _ => cases hf
  | _ => cases hf
end
end Pd

set_option Elab.async false
set_option linter.all false
set_option maxRecDepth 100000
set_option maxHeartbeats 4000000
namespace Pd
open PySem PySem.Spec PyProof.Rows L2
section
variable {X : Cx} {a b c e : Expr} {fa fb fc f : FE} {pos : Pos}
/-! ### slices -/
abbrev FO := List Sl → Option (Option Int)
def tDO (K : PySem.W.Frag) (f : FO) : TO := fun σ H Q => ∃ (E : Hp) (S : Stt) (δ : List Sl) (o : Option Int), S.H = H ∧ R K E S σ δ ∧ f δ = some o ∧ ∀ S', Ex S S' → Q o S'.H
abbrev DO' (X : Cx) (e : Option Expr) (f : FO) : Prop := PO X e (tDO X.K f)
theorem po_conseq {e : Option Expr} {t t' : TO} (h : PO X e t) (q : ∀ σ H Q, t' σ H Q → t σ H Q) : PO X e t' := ⟨fun pins s σ H Q I hw => h.run pins s σ H Q I (q _ _ _ hw)⟩
def oNone : FO := fun _ => some none
def oSome (f : FE) : FO := fun δ => (f δ).bind fun d => match d with
  | .int i => some (some i)
  | _ => none
theorem do_none : DO' X none oNone := po_conseq po_none fun σ H Q h => by
  obtain ⟨E, S, δ, o, rfl, r, hf, q⟩ := h
  cases hf
  exact q S (.refl S)
theorem do_some (h : DE X e f) : DO' X (some e) (oSome f) := po_conseq (po_some h) fun σ H Q h => by
  obtain ⟨E, S, δ, o, rfl, r, hf, q⟩ := h
  obtain ⟨d, hx, hf⟩ := Option.bind_eq_some_iff.mp hf
  refine ⟨E, S, δ, d, rfl, r, hx, fun v S1 x1 r1 => ?_⟩
  cases d with
  | int i => cases r1; cases hf; exact ⟨i, rfl, q S1 x1⟩
  | _ => cases hf
def cutD {α : Type} (ds : List α) (lo hi : Option Int) : List α := (ds.drop (HT.sIx ds.length 0 lo)).take (HT.sIx ds.length ds.length hi - HT.sIx ds.length 0 lo)
def slD (lo hi : Option Int) : D → Option D
  | .list ds => some (.list (cutD ds lo hi))
  | .tuple ds => some (.tuple (cutD ds lo hi))
  | .str z => if z.length ≤ lim then some (.str (cutS z lo hi)) else none
  | _ => none
def eSl (fa : FE) (fl fh : FO) : FE := fun δ => (fa δ).bind fun d => (fl δ).bind fun lo => (fh δ).bind fun hi => slD lo hi d
theorem cut_rv {K : PySem.W.Frag} {H : Hp} {ds : List D} {vs : List V} (h : RvL K H ds vs) (lo hi : Option Int) : RvL K H (cutD ds lo hi) (cutV vs lo hi) := by
  unfold cutD cutV
  rw [h.length]
  exact (h.drop _).take _
theorem cut_whole {α : Type} {ds : List α} {lo hi : Option Int} (h : HT.sIx ds.length 0 lo = 0 ∧ HT.sIx ds.length ds.length hi = ds.length) : cutD ds lo hi = ds := by
  unfold cutD
  rw [h.1, h.2, List.drop_zero, Nat.sub_zero, List.take_length]
theorem de_slice {lo hi : Option Expr} {fl fh : FO} {p2 : Pos} (ha : DE X e f) (hl : DO' X lo fl) (hh : DO' X hi fh) : DE X (.Subscript e (.Slice lo hi none p2) pos) (eSl f fl fh) := by
  refine pe_conseq (pe_slice (sl_list.or (sl_tupA.or sl_str)) ha hl hh) fun σ H Q h => ?_
  obtain ⟨E, S, δ, d, rfl, r, hf, q⟩ := h
  obtain ⟨x, hx, hf⟩ := Option.bind_eq_some_iff.mp hf
  obtain ⟨l, hl, hf⟩ := Option.bind_eq_some_iff.mp hf
  obtain ⟨u, hu, hf⟩ := Option.bind_eq_some_iff.mp hf
  refine ⟨E, S, δ, x, rfl, r, hx, fun v S1 x1 r1 => ⟨E, S1, δ, l, rfl, r.mono x1, hl, fun S2 x2 => ⟨E, S2, δ, u, rfl, (r.mono x1).mono x2, hu, fun S3 x3 => ?_⟩⟩⟩
  have r1' := Rv.mono (x2.trans x3).z x r1
  have x13 := (x1.trans x2).trans x3
  cases x with
  | list ds =>
    cases hf
    cases r1' with
    | lst a1 b1 => exact .inl ⟨_, _, rfl, S3.ok.seq a1, fun p hp => q _ (S3.lay p (.lst _)) (x13.trans (S3.lay_ex hp)) (lay_lst hp (cut_rv b1 l u))⟩
  | tuple ds =>
    cases hf
    cases r1' with
    | tup a1 b1 =>
      refine .inr (.inl ⟨_, _, rfl, sqt_mono S3.ok a1, fun hw => ?_, fun hw p hp => ?_⟩)
      · rw [b1.length] at hw
        rw [cut_whole hw] at q
        exact q _ S3 x13 (.tup a1 b1)
      · exact q _ (S3.lay p (.tup _)) (x13.trans (S3.lay_ex hp)) (lay_tup hp (cut_rv b1 l u))
  | str z =>
    cases r1'
    simp only [slD] at hf
    split at hf
    · rename_i hz
      cases hf
      exact .inr (.inr ⟨z, rfl, Nat.le_trans hz lim_line, q _ S3 x13 (.str _)⟩)
    · cases hf
  | _ => cases hf
/-! ### a dict written out -/
def mapF : List (Str × FE) → List Sl → Option (List (D × D))
  | [], _ => some []
  | (k, f) :: r, δ => (f δ).bind fun d => (mapF r δ).bind fun ds => some ((.str k, d) :: ds)
def eDict (kfs : List (Str × FE)) : FE := fun δ => (mapF kfs δ).bind fun ds => if kfs.length ≤ 15 && decide (kfs.map (·.1)).Nodup then some (.dict ds) else none
def trsOf (K : PySem.W.Frag) (kfs : List (Str × FE)) : List (TE × TE) := kfs.map fun kf => (tC (.str kf.1), tD K kf.2)
theorem pairs_run {K : PySem.W.Frag} {E : Hp} {σ : L2.St} : ∀ {kfs : List (Str × FE)} {S : Stt} {δ : List Sl} {ds : List (D × D)} {Q : List (V × V) → Hp → Prop}, R K E S σ δ → mapF kfs δ = some ds →
    (∀ (kvs : List (Key × V)) S', Ex S S' → RvK K S'.Z ds kvs → kvs.map (·.1) = kfs.map (fun kf => Sum.inr kf.1) → Q (kvs.map fun kv => (kV kv.1, kv.2)) S'.H) → tPairs (trsOf K kfs) σ S.H Q
  | [], S, δ, ds, Q, r, hf, q => by cases hf; exact q [] S (.refl S) .nil rfl
  | (k, f) :: rest, S, δ, ds, Q, r, hf, q => by
    simp only [mapF] at hf
    obtain ⟨d, hd, hf⟩ := Option.bind_eq_some_iff.mp hf
    obtain ⟨es, he, hf⟩ := Option.bind_eq_some_iff.mp hf
    cases hf
    refine ⟨E, S, δ, d, rfl, r, hd, fun v S1 x1 r1 => ?_⟩
    refine pairs_run (kfs := rest) (r.mono x1) he fun kvs S2 x2 r2 ek => ?_
    have := q ((Sum.inr k, v) :: kvs) S2 (x1.trans x2) (RvK.cons (k := Sum.inr k) (Rv.mono x2.z d r1) r2) (by rw [List.map_cons, List.map_cons, ek])
    exact this
theorem putK_fresh : ∀ {kvs : List (Key × V)} {k : Key} {v : V}, k ∉ kvs.map (·.1) → putK kvs k v = kvs ++ [(k, v)] := fun {kvs k v} h => by
  unfold putK
  rw [if_neg]
  intro hc
  rw [List.any_eq_true] at hc
  obtain ⟨p, hp, e⟩ := hc
  exact h (List.mem_map.mpr ⟨p, hp, of_decide_eq_true e⟩)
theorem mergeK_fresh : ∀ {more kvs : List (Key × V)}, ((kvs ++ more).map (·.1)).Nodup → mergeK kvs more = kvs ++ more
  | [], kvs, _ => by rw [List.append_nil]; rfl
  | (k, v) :: r, kvs, h => by
    have e : mergeK kvs ((k, v) :: r) = mergeK (putK kvs k v) r := rfl
    have hk : k ∉ kvs.map (·.1) := by
      rw [List.map_append, List.map_cons] at h
      intro hm
      exact (List.nodup_append.mp h).2.2 k hm k (List.mem_cons_self ..) rfl
    rw [e, putK_fresh hk, mergeK_fresh]
    · rw [List.append_assoc]; rfl
    · rw [List.append_assoc]; exact h
theorem de_dict {keys : List (Option Expr)} {values : List Expr} {kfs : List (Str × FE)} (h : PPs X pos keys values (trsOf X.K kfs)) (hall : keys.all (·.isSome) = true := by rfl) (hl : keys.length = values.length := by rfl) (h0 : keys ≠ [] := by (intro z; cases z)) (h15 : keys.length ≤ 15 := by decide) : DE X (.Dict keys values pos) (eDict kfs) := by
  refine pe_conseq (pe_disp h hall hl h0 h15) fun σ H Q h => ?_
  obtain ⟨E, S, δ, d, rfl, r, hf, q⟩ := h
  unfold eDict at hf
  obtain ⟨ds, hx, hf⟩ := Option.bind_eq_some_iff.mp hf
  split at hf
  · rename_i hz
    cases hf
    rw [Bool.and_eq_true, decide_eq_true_eq, decide_eq_true_eq] at hz
    intro p hp
    have zp : S.Z p = none := S.ok.free hp
    have x0 : Ex S (S.put p (.dK []) zp) := ⟨Same.refl _, same_upd hp _, fun _ h _ => h⟩
    have rr : R X.K E (S.put p (.dK []) zp) σ δ := r.mono x0
    refine pairs_run (S := S.put p (.dK []) zp) rr hx fun kvs S2 x2 rk ek => ?_
    have hp2 : S2.H p = some (.dK []) := x2.h _ _ upd_same
    have zp2 : S2.Z p = none := x2.c p zp (by show upd S.H p _ p ≠ none; rw [upd_same]; simp)
    have nd : (kvs.map (·.1)).Nodup := by
      rw [ek]
      have e3 : kfs.map (fun kf => (Sum.inr kf.1 : Key)) = (kfs.map (·.1)).map Sum.inr := by rw [List.map_map]; rfl
      rw [e3]
      exact List.Pairwise.map _ (fun a b hab hc => hab (Sum.inr.inj hc)) hz.2
    have lk : kvs.length = kfs.length := by
      have := congrArg List.length ek
      simpa using this
    refine ⟨hp2, kvs, rfl, by omega, ?_⟩
    have em : mergeK [] kvs = kvs := by rw [mergeK_fresh (by simpa using nd)]; rfl
    rw [em]
    have x02 : Ex S S2 := x0.trans x2
    let S3 : Stt := ⟨upd S2.Z p (.dK kvs), upd S2.H p (.dK kvs), same_upd2 S2.ok _⟩
    have x3 : Ex S S3 := ⟨fun b o e => by show upd S2.Z p _ b = _; rw [upd_ne (ne_of_none e zp)]; exact x02.z _ _ e, fun b o e => by show upd S2.H p _ b = _; rw [upd_ne (ne_of_none e hp)]; exact x02.h _ _ e, fun b h1 h2 => by
      show upd S2.Z p _ b = none
      rw [upd_ne (show b ≠ p from fun e => by subst e; exact h2 hp)]
      exact x02.c b h1 h2⟩
    refine q (.ref p) S3 x3 (.dic (xs := kvs) upd_same (RvK.mono (same_upd zp2 _) ds rk))
  · cases hf
/-! ### what a for walks -/
abbrev FI := List Sl → Option (List D)
structure ItD (K : PySem.W.Frag) (J : It) (S : Stt) (ds : List D) : Prop where
  go : ∀ i (S' : Stt), Same S.Z S'.Z → i < ds.length → J.go i S'.H
  yld : ∀ i (S' : Stt) x H', Same S.Z S'.Z → i < ds.length → J.yld i S'.H x H' → ∃ d S2, ds[i]? = some d ∧ Ex S' S2 ∧ S2.H = H' ∧ Rv K S2.Z d x
  stop : ∀ (S' : Stt), Same S.Z S'.Z → J.stop ds.length S'.H
def tWI (K : PySem.W.Frag) (f : FI) : TI := fun σ H Rk => ∃ (E : Hp) (S : Stt) (δ : List Sl) (ds : List D), S.H = H ∧ R K E S σ δ ∧ f δ = some ds ∧ ∀ J S', Ex S S' → ItD K J S' ds → Rk J S'.H
abbrev WI (X : Cx) (tg e : Expr) (f : FI) : Prop := PI X tg e (tWI X.K f)
theorem pi_conseq {tg e : Expr} {t t' : TI} (h : PI X tg e t) (q : ∀ σ H Q, t' σ H Q → t σ H Q) : PI X tg e t' := ⟨fun pins s σ H Q I hw => h.run pins s σ H Q I (q _ _ _ hw)⟩
theorem itd_list {K : PySem.W.Frag} {S : Stt} {a : Addr} {vs : List V} {ds : List D} (hs : SqL K S.Z a vs) (hr : RvL K S.Z ds vs) : ItD K (Itl K a) S ds := by
  refine ⟨fun i S' x hi => ?_, fun i S' v H' x hi h => ?_, fun S' x => ?_⟩
  · obtain ⟨v, h1, _⟩ := hr.get (List.getElem?_eq_getElem hi)
    exact ⟨vs, v, (x.trans S'.ok).seq hs, h1⟩
  · obtain ⟨rfl, h⟩ := h
    have h1 := h vs ((x.trans S'.ok).seq hs)
    obtain ⟨d, h2, h3⟩ := hr.got h1
    exact ⟨d, S', h2, .refl S', rfl, Rv.mono x d h3⟩
  · exact ⟨vs, (x.trans S'.ok).seq hs, by rw [hr.length]; exact Nat.le_refl _⟩
theorem itd_tup {K : PySem.W.Frag} {S : Stt} {a : Addr} {vs : List V} {ds : List D} (hs : SqT K S.Z a vs) (hr : RvL K S.Z ds vs) : ItD K (Itt K a) S ds := by
  refine ⟨fun i S' x hi => ?_, fun i S' v H' x hi h => ?_, fun S' x => ?_⟩
  · obtain ⟨v, h1, _⟩ := hr.get (List.getElem?_eq_getElem hi)
    exact ⟨vs, v, sqt_mono (x.trans S'.ok) hs, h1⟩
  · obtain ⟨rfl, h⟩ := h
    have h1 := h vs (sqt_mono (x.trans S'.ok) hs)
    obtain ⟨d, h2, h3⟩ := hr.got h1
    exact ⟨d, S', h2, .refl S', rfl, Rv.mono x d h3⟩
  · exact ⟨vs, sqt_mono (x.trans S'.ok) hs, by rw [hr.length]; exact Nat.le_refl _⟩
def signs (x : Str) : List D := x.cps.toList.map fun c => .str ⟨#[c]⟩
theorem itd_str {K : PySem.W.Frag} {S : Stt} {x : Str} : ItD K (Its x) S (signs x) := by
  have hl : (signs x).length = x.cps.size := by unfold signs; rw [List.length_map, Array.length_toList]
  refine ⟨fun i S' _ hi => ?_, fun i S' v H' _ hi h => ?_, fun S' _ => ?_⟩
  · rw [hl] at hi; exact hi
  · obtain ⟨rfl, c, h1, rfl⟩ := h
    refine ⟨.str ⟨#[c]⟩, S', ?_, .refl S', rfl, .str _⟩
    unfold signs
    rw [List.getElem?_map, Array.getElem?_toList, h1]
    rfl
  · show x.cps.size ≤ _
    rw [hl]
    exact Nat.le_refl _
def rangeD (lo : Int) (n : Nat) : List D := (List.range n).map fun k => .int (lo + (k : Nat))
theorem itd_range {K : PySem.W.Frag} {S : Stt} {lo : Int} {n : Nat} : ItD K (Itr lo n) S (rangeD lo n) := by
  have hl : (rangeD lo n).length = n := by unfold rangeD; rw [List.length_map, List.length_range]
  refine ⟨fun i S' _ hi => ?_, fun i S' v H' _ hi h => ?_, fun S' _ => ?_⟩
  · rw [hl] at hi; exact hi
  · obtain ⟨rfl, rfl⟩ := h
    rw [hl] at hi
    refine ⟨.int (lo + i), S', ?_, .refl S', rfl, .int _⟩
    unfold rangeD
    rw [List.getElem?_map, List.getElem?_range hi]
    rfl
  · show n ≤ _
    rw [hl]
    exact Nat.le_refl _
def seqD : D → Option (List D)
  | .list ds => some ds
  | .tuple ds => some ds
  | .str x => some (signs x)
  | _ => none
def iSeq (f : FE) : FI := fun δ => (f δ).bind seqD
theorem wi_seq {tg : Expr} (h : DE X e f) : WI X tg e (iSeq f) := by
  refine ⟨fun pins s σ H Rk I hw => ?_⟩
  obtain ⟨E, S, δ, ds, rfl, r, hf, q⟩ := hw
  obtain ⟨d, hx, hf⟩ := Option.bind_eq_some_iff.mp hf
  refine thn (h.run pins s σ S.H (fun v H1 => ∃ S1, Ex S S1 ∧ S1.H = H1 ∧ Rv X.K S1.Z d v) I ⟨E, S, δ, d, rfl, r, hx, fun v S1 x1 r1 => ⟨S1, x1, rfl, r1⟩⟩) fun v s1 ⟨x, H1, I1, r1, S1, x1, e1, rv⟩ => ?_
  subst e1
  cases d with
  | list es =>
    cases hf
    cases rv with
    | lst a1 b1 =>
      cases r1
      obtain ⟨its, rv, p, hz⟩ := I1.list (S1.ok.seq a1)
      refine wpAny_pyIter_list p.isList ?_
      refine ⟨s1.heap.objs.size, [s1.heap.objs.size], _, _, S1.H, rfl, I1.kept (t' := s1.toks) fun b o e => Heap.get?_push_of_some _ e, turn_list _ _, ⟨_, Heap.get?_push_size _ rfl, rfl, rfl⟩, fun b hb => ?_, q _ S1 x1 (itd_list a1 b1)⟩
      have e : b = s1.heap.objs.size := by simpa using hb
      subst e
      exact I1.fpOk (Nat.le_refl _) (I1.hok.fresh (Nat.le_refl _))
  | tuple es =>
    cases hf
    cases rv with
    | tup a1 b1 =>
      rename_i p0 xs0
      cases r1
      obtain ⟨its, rv, p, hz⟩ := I1.tuple (sqt_mono S1.ok a1)
      refine wpAny_pyIter_tuple (show s1.heap.IsTuple p0 its.toArray from p) ?_
      refine ⟨s1.heap.objs.size, [s1.heap.objs.size], _, _, S1.H, rfl, I1.kept (t' := s1.toks) fun b o e => Heap.get?_push_of_some _ e, turn_tuple p0 _, ⟨_, Heap.get?_push_size _ rfl, rfl, rfl⟩, fun b hb => ?_, q _ S1 x1 (itd_tup a1 b1)⟩
      have e : b = s1.heap.objs.size := by simpa using hb
      subst e
      exact I1.fpOk (Nat.le_refl _) (I1.hok.fresh (Nat.le_refl _))
  | str x =>
    cases hf
    cases rv
    obtain ⟨t, rfl⟩ := r1
    have q' := q (Its x) S1 x1 itd_str
    cases ha : x.cps.all (· < 128)
    · exact wpAny_pyIter_wide ha (pi_one (tk := s1.toks) I1 _ (turn_str _ x t "str_iterator" (.inr rfl)) ⟨_, Heap.get?_push_size _ rfl, rfl, rfl⟩ q')
    · exact wpAny_pyIter_ascii ha (pi_one (tk := s1.toks) I1 _ (turn_str _ x t "str_ascii_iterator" (.inl rfl)) ⟨_, Heap.get?_push_size _ rfl, rfl, rfl⟩ q')
  | _ => cases hf
def iR1 (g : FA) : FI := fun δ => (g δ).bind fun ds => match ds with
  | [.int j] => if -(2 ^ 62) ≤ j ∧ j < 2 ^ 62 then some (rangeD 0 j.toNat) else none
  | _ => none
def iR2 (g : FA) : FI := fun δ => (g δ).bind fun ds => match ds with
  | [.int i, .int j] => if -(2 ^ 62) ≤ i ∧ i < 2 ^ 62 ∧ -(2 ^ 62) ≤ j ∧ j < 2 ^ 62 then some (rangeD i (j - i).toNat) else none
  | _ => none
theorem wi_range1 {tg : Expr} {p : Pos} {g : FA} (hg : Gl X "range") (hm : X.mg "range" = none) (ha : DA X [a] g) (hs : starEach [a] X.env = [(false, eval a X.env)] := by rfl) : WI X tg (.Call (.Name "range" p) [a] [] pos) (iR1 g) := by
  refine pi_conseq (pi_range1 hg hm ha hs) fun σ H Rk h => ?_
  obtain ⟨E, S, δ, ds, rfl, r, hf, q⟩ := h
  obtain ⟨es, hx, hf⟩ := Option.bind_eq_some_iff.mp hf
  refine ⟨E, S, δ, es, rfl, r, hx, fun vs S1 x1 r1 => ?_⟩
  split at hf
  · split at hf
    · rename_i j hz
      cases hf
      cases r1 with
      | cons a1 b1 => cases b1; cases a1; exact ⟨j, rfl, hz.1, hz.2, q _ S1 x1 itd_range⟩
    · cases hf
  · cases hf
theorem wi_range2 {tg : Expr} {p : Pos} {g : FA} (hg : Gl X "range") (hm : X.mg "range" = none) (ha : DA X [a, b] g) (hs : starEach [a, b] X.env = [(false, eval a X.env), (false, eval b X.env)] := by rfl) (hs2 : starEach [b] X.env = [(false, eval b X.env)] := by rfl) : WI X tg (.Call (.Name "range" p) [a, b] [] pos) (iR2 g) := by
  refine pi_conseq (pi_range2 hg hm ha hs hs2) fun σ H Rk h => ?_
  obtain ⟨E, S, δ, ds, rfl, r, hf, q⟩ := h
  obtain ⟨es, hx, hf⟩ := Option.bind_eq_some_iff.mp hf
  refine ⟨E, S, δ, es, rfl, r, hx, fun vs S1 x1 r1 => ?_⟩
  split at hf
  · split at hf
    · rename_i i j hz
      cases hf
      cases r1 with
      | cons a1 b1 => cases b1 with | cons a2 b2 => cases b2; cases a1; cases a2; exact ⟨i, j, rfl, hz, q _ S1 x1 itd_range⟩
    · cases hf
  · cases hf
/-! ### comprehensions -/
theorem R.un {K : PySem.W.Frag} {E : Hp} {S : Stt} {σ : L2.St} {δ : List Sl} (r : R K E S σ δ) (i : Nat) (v : Option V) : R K E S (σ.set i v) (δ.set i .un) := by
  refine ⟨fun j t e => ?_, fun j k a ds es e1 e2 f1 f2 => ?_⟩
  · have hl : j < δ.length := by
      have := (List.getElem?_eq_some_iff.mp e).1
      simpa using this
    obtain ⟨w, hw, hr⟩ := r.at_ j δ[j] (List.getElem?_eq_getElem hl)
    have hs : j < σ.length := (List.getElem?_eq_some_iff.mp hw).1
    by_cases hj : j = i
    · subst hj
      rw [List.getElem?_set_self hl] at e
      cases e
      exact ⟨v, List.getElem?_set_self hs, trivial⟩
    · rw [List.getElem?_set_ne (Ne.symm hj)] at e ⊢
      exact r.at_ j t e
  · have ne : ∀ {m : Nat} {es' : List D}, (δ.set i Sl.un)[m]? = some (.own es') → m ≠ i := fun {m es'} q hm => by
      subst hm
      have hl : m < δ.length := by
        have := (List.getElem?_eq_some_iff.mp q).1
        simpa using this
      rw [List.getElem?_set_self hl] at q
      cases q
    have n1 := ne e1
    have n2 := ne e2
    rw [List.getElem?_set_ne (Ne.symm n1)] at e1 f1
    rw [List.getElem?_set_ne (Ne.symm n2)] at e2 f2
    exact r.dis j k a ds es e1 e2 f1 f2
def lcD (i : Nat) (δ : List Sl) (ft fe : FE) : List D → Option (List D)
  | [] => some []
  | d :: r => match ft (δ.set i (.val d)) with
    | some (.bool true) => (fe (δ.set i (.val d))).bind fun y => (lcD i δ ft fe r).bind fun ys => some (y :: ys)
    | some (.bool false) => lcD i δ ft fe r
    | _ => none
def eLc (fi : FI) (i : Nat) (ft fe : FE) : FE := fun δ => (fi δ).bind fun ds => (lcD i (δ.set i .un) ft fe ds).bind fun ys => if ys.length ≤ lim then some (.list ys) else none
theorem lc_runO {K : PySem.W.Frag} {fi : FI} {i : Nat} {ft fe : FE} {E : Hp} {S : Stt} {σ : L2.St} {δ : List Sl} {ds ys : List D} {Q : VK} (r : R K E S σ δ) (hx : fi δ = some ds) (hy : lcD i (δ.set i .un) ft fe ds = some ys) (hz : ys.length ≤ lim)
    (q : ∀ p ws S', Ex S S' → S.H p = none → S'.Z p = none → S'.H p = some (.lst ws) → RvL K S'.Z ys ws → Q (.ref p) S'.H) : tLc (tWI K fi) (gName i) (tDT K ft) (tD K fe) [i] σ S.H Q := by
  refine ⟨E, S, δ, ds, rfl, r, hx, fun J S1 x1 it => ?_⟩
  intro Da hD
  let Pv : Nat → Hp → Prop := fun k H => ∃ (S' : Stt) (acc : List V) (done rest : List D), S'.H = H ∧ Ex S1 S' ∧ S'.Z Da = none ∧ S'.H Da = some (.lst acc) ∧ RvL K S'.Z done acc ∧ lcD i (δ.set i .un) ft fe (ds.drop k) = some rest ∧ done ++ rest = ys
  have zD : S1.Z Da = none := S1.ok.free hD
  refine ⟨fun k m H => m = ds.length - k ∧ k ≤ ds.length ∧ Pv k H, ⟨ds.length, by simp, Nat.zero_le _, S1.put Da (.lst []) zD, [], [], ys, rfl, ⟨Same.refl _, same_upd hD _, fun _ h _ => h⟩, zD, upd_same, .nil, hy, rfl⟩, ?_⟩
  rintro k m H ⟨rfl, hk, S', acc, done, rest, rfl, x', zD', hD', racc, hl, he⟩
  by_cases hlt : k < ds.length
  · refine .inr ⟨it.go k S' x'.z hlt, Pv (k + 1), fun H' p => ⟨ds.length - (k + 1), by omega, rfl, hlt, p⟩, fun v H' hyld => ?_⟩
    obtain ⟨d, S2, hd, x2, rfl, rd⟩ := it.yld k S' v H' x'.z hlt hyld
    rw [List.drop_eq_getElem_cons hlt] at hl
    have ed : ds[k] = d := by rw [List.getElem?_eq_getElem hlt] at hd; exact Option.some.inj hd
    rw [ed] at hl
    have rr : R K E S2 ((σ.set i none).set i (some v)) ((δ.set i .un).set i (.val d)) := (((r.mono x1).mono x').mono x2 |>.un i none).setv rd
    refine ⟨?_, ?_⟩
    · show ((σ.set i none).set i (some v)).set i none = σ.set i none
      rw [List.set_set, List.set_set]
    simp only [lcD] at hl
    have zD2 : S2.Z Da = none := x2.c Da zD' (by rw [hD']; simp)
    have hD2 : S2.H Da = some (.lst acc) := x2.h _ _ hD'
    split at hl
    · rename_i ht
      obtain ⟨y, hy1, hl⟩ := Option.bind_eq_some_iff.mp hl
      obtain ⟨rest', hy2, hl⟩ := Option.bind_eq_some_iff.mp hl
      cases hl
      refine ⟨E, S2, _, true, rfl, rr, ht, fun S3 x3 => ?_⟩
      refine iteT ?_
      refine ⟨E, S3, _, y, rfl, rr.mono x3, hy1, fun w S4 x4 r4 => ?_⟩
      have x24 := x3.trans x4
      have zD4 : S4.Z Da = none := x24.c Da zD2 (by rw [hD2]; simp)
      have hD4 : S4.H Da = some (.lst acc) := x24.h _ _ hD2
      have hlen : acc.length = done.length := racc.length
      have hys : done.length < lim := by
        have e4 := congrArg List.length he
        rw [List.length_append, List.length_cons] at e4
        omega
      refine ⟨acc, hD4, by rw [hlen]; exact Nat.lt_of_lt_of_le hys lim_line, S4.put Da (.lst (acc ++ [w])) zD4, acc ++ [w], done ++ [y], rest', rfl, ?_, zD4, upd_same, ?_, hy2, by rw [List.append_assoc]; exact he⟩
      · have xx := (x'.trans x2).trans x24
        exact ⟨xx.z, fun b o e => by show upd S4.H Da _ b = _; rw [upd_ne (ne_of_none e hD)]; exact xx.h _ _ e, xx.c⟩
      · exact (RvL.mono (x2.z.trans x24.z) done racc).append (.cons r4 .nil)
    · rename_i ht
      refine ⟨E, S2, _, false, rfl, rr, ht, fun S3 x3 => ?_⟩
      refine iteF ?_
      exact ⟨S3, acc, done, rest, rfl, (x'.trans x2).trans x3, x3.c Da zD2 (by rw [hD2]; simp), x3.h _ _ hD2, RvL.mono (x2.z.trans x3.z) done racc, hl, he⟩
    · cases hl
  · have ek : k = ds.length := by omega
    subst ek
    refine .inl ⟨it.stop S' x'.z, ?_⟩
    rw [List.drop_length] at hl
    cases hl
    rw [List.append_nil] at he
    subst he
    exact q Da acc S' (x1.trans x') (x1.h.free hD) zD' hD' racc
theorem own_frz {K : PySem.W.Frag} {S S' : Stt} {p : Addr} {ws : List V} {ys : List D} (x : Ex S S') (h0 : S.H p = none) (h1 : S'.Z p = none) (h2 : S'.H p = some (.lst ws)) (h3 : RvL K S'.Z ys ws) : ∃ S3 : Stt, Ex S S3 ∧ S3.H = S'.H ∧ Rv K S3.Z (.list ys) (.ref p) := by
  refine ⟨⟨upd S'.Z p (.lst ws), S'.H, fun b o e => ?_⟩, ⟨x.z.trans (same_upd h1 _), x.h, fun b g1 g2 => ?_⟩, rfl, .lst (.inl (.inl upd_same)) (RvL.mono (same_upd h1 _) ys h3)⟩
  · by_cases hb : b = p
    · subst hb; rw [upd_same] at e; cases e; exact h2
    · rw [upd_ne hb] at e; exact S'.ok _ _ e
  · show upd S'.Z p _ b = none
    rw [upd_ne (show b ≠ p from fun e => by subst e; exact g2 h0)]
    exact x.c b g1 g2
theorem lc_run {K : PySem.W.Frag} {fi : FI} {i : Nat} {ft fe : FE} {σ : L2.St} {H : Hp} {Q : VK} (h : tD K (eLc fi i ft fe) σ H Q) : tLc (tWI K fi) (gName i) (tDT K ft) (tD K fe) [i] σ H Q := by
  obtain ⟨E, S, δ, d, rfl, r, hf, q⟩ := h
  obtain ⟨ds, hx, hf⟩ := Option.bind_eq_some_iff.mp hf
  obtain ⟨ys, hy, hf⟩ := Option.bind_eq_some_iff.mp hf
  split at hf
  · rename_i hz
    cases hf
    refine lc_runO r hx hy hz fun p ws S' x h0 h1 h2 h3 => ?_
    obtain ⟨S3, x3, e3, r3⟩ := own_frz x h0 h1 h2 h3
    rw [← e3]
    exact q _ S3 x3 r3
  · cases hf
theorem dts_nil : PTs X [] (tDT X.K (eC (.bool true))) := by
  have h : PTs X [] tYes := pts_nil
  refine ⟨fun pins s σ H Q I hw => h.run pins s σ H Q I ?_⟩
  obtain ⟨E, S, δ, k, rfl, r, hf, q⟩ := hw
  cases hf
  exact q S (.refl S)
theorem dts_one {ft : FE} (h : PT X c (tDT X.K ft)) : PTs X [c] (tDT X.K ft) := pts_one h
theorem de_lc {elt tg iter : Expr} {ifs : List Expr} {scope : Scope} {x : Str} {i : Nat} {fi : FI} {ft fe : FE} (hc : X.calm = true) (hN : X.N.Nodup) (hi : WI X tg iter fi) (ok : BlkOk X.N X.env.scope scope [(x, i)])
    (hg : ∀ (s : Shared) (H : Hp) (C : Addr) (cl : List (Str × Addr)) (fp : List Addr), PG (X.blk s H scope (compEnvC scope cl C X.env) fp) tg (gName i)) (ht : ∀ (s : Shared) (H : Hp) (C : Addr) (cl : List (Str × Addr)) (fp : List Addr), PTs (X.blk s H scope (compEnvC scope cl C X.env) fp) ifs (tDT X.K ft))
    (he : ∀ (s : Shared) (H : Hp) (C : Addr) (cl : List (Str × Addr)) (fp : List Addr), PE (X.blk s H scope (compEnvC scope cl C X.env) fp) elt (tD X.K fe)) (hs : ∀ x, foldedSetIterable iter X.env x = pure x := by intro _; rfl) :
    DE X (.ListComp elt [⟨tg, iter, ifs, 0⟩] scope pos) (eLc fi i ft fe) :=
  pe_conseq (pe_lc (own := [(x, i)]) hc hN hi ok hg ht he hs) fun σ H Q h => lc_run h
/-! ### statements -/
inductive Out where
  | nx (δ : List Sl)
  | rt (d : D)
  | bk (δ : List Sl)
  | ct (δ : List Sl)
abbrev GS := List Sl → Option Out
def fits (K : PySem.W.Frag) (Se : Stt) (Dn : Ends) : Out → Prop
  | .nx δ => ∀ σ S, Ex Se S → R K Se.H S σ δ → Dn.nx σ S.H
  | .rt d => ∀ v S, Ex Se S → Rv K S.Z d v → Dn.rt v S.H
  | .bk δ => ∀ σ S, Ex Se S → R K Se.H S σ δ → Dn.bk σ S.H
  | .ct δ => ∀ σ S, Ex Se S → R K Se.H S σ δ → Dn.ct σ S.H
def tG (K : PySem.W.Frag) (g : GS) : TS := fun Dn σ H => ∃ (Se S : Stt) (δ : List Sl) (o : Out), S.H = H ∧ Ex Se S ∧ R K Se.H S σ δ ∧ g δ = some o ∧ fits K Se Dn o
abbrev DS (X : Cx) (st : Stmt) (g : GS) : Prop := PS X st (tG X.K g)
abbrev DB (X : Cx) (sts : List Stmt) (g : GS) : Prop := PSs X sts (tG X.K g)
def gSeq (g g' : GS) : GS := fun δ => (g δ).bind fun o => match o with
  | .nx δ' => g' δ'
  | o => some o
def gNil : GS := fun δ => some (.nx δ)
theorem db_nil : DB X [] gNil := pss_conseq pss_nil fun Dn σ H h => by
  obtain ⟨Se, S, δ, o, rfl, x, r, hf, q⟩ := h
  cases hf
  exact q σ S x r
theorem db_cons {st : Stmt} {rest : List Stmt} {g g' : GS} (h : DS X st g) (t : DB X rest g') : DB X (st :: rest) (gSeq g g') := pss_conseq (pss_cons h t) fun Dn σ H h => by
  obtain ⟨Se, S, δ, o, rfl, x, r, hf, q⟩ := h
  obtain ⟨o1, h1, hf⟩ := Option.bind_eq_some_iff.mp hf
  refine ⟨Se, S, δ, o1, rfl, x, r, h1, ?_⟩
  cases o1 with
  | nx δ' => exact fun σ' S' x' r' => ⟨Se, S', δ', o, rfl, x', r', hf, q⟩
  | rt d => cases hf; exact q
  | bk δ' => cases hf; exact q
  | ct δ' => cases hf; exact q
theorem db_one {st : Stmt} {g : GS} (h : DS X st g) : DB X [st] g := pss_one h
def gIf (ft : FE) (g g' : GS) : GS := fun δ => match ft δ with
  | some (.bool true) => g δ
  | some (.bool false) => g' δ
  | _ => none
theorem ds_if {ft : FE} {s1 s2 : List Stmt} {g g' : GS} (h : PT X c (tDT X.K ft)) (h1 : DB X s1 g) (h2 : DB X s2 g') : DS X (.If c s1 s2 pos) (gIf ft g g') := ps_conseq (ps_if h h1 h2) fun Dn σ H h => by
  obtain ⟨Se, S, δ, o, rfl, x, r, hf, q⟩ := h
  unfold gIf at hf
  split at hf
  · rename_i ht
    refine ⟨Se.H, S, δ, true, rfl, r, ht, fun S1 x1 => ?_⟩
    refine iteT ?_
    exact ⟨Se, S1, δ, o, rfl, x.trans x1, r.mono x1, hf, q⟩
  · rename_i ht
    refine ⟨Se.H, S, δ, false, rfl, r, ht, fun S1 x1 => ?_⟩
    refine iteF ?_
    exact ⟨Se, S1, δ, o, rfl, x.trans x1, r.mono x1, hf, q⟩
  · cases hf
def gRet (f : FE) : GS := fun δ => (f δ).map .rt
theorem ds_ret (h : DE X e f) : DS X (.Return (some e) pos) (gRet f) := ps_conseq (ps_ret h) fun Dn σ H h => by
  obtain ⟨Se, S, δ, o, rfl, x, r, hf, q⟩ := h
  obtain ⟨d, hx, rfl⟩ := Option.map_eq_some_iff.mp hf
  exact ⟨Se.H, S, δ, d, rfl, r, hx, fun v S1 x1 r1 => q v S1 (x.trans x1) r1⟩
def gRetN : GS := fun _ => some (.rt .none)
theorem ds_retN : DS X (.Return none pos) gRetN := ps_conseq ps_retN fun Dn σ H h => by
  obtain ⟨Se, S, δ, o, rfl, x, r, hf, q⟩ := h
  cases hf
  exact q _ S x .non
def gBk : GS := fun δ => some (.bk δ)
def gCt : GS := fun δ => some (.ct δ)
theorem ds_break : DS X (.Break pos) gBk := ps_conseq ps_break fun Dn σ H h => by
  obtain ⟨Se, S, δ, o, rfl, x, r, hf, q⟩ := h
  cases hf
  exact q σ S x r
theorem ds_continue : DS X (.Continue pos) gCt := ps_conseq ps_continue fun Dn σ H h => by
  obtain ⟨Se, S, δ, o, rfl, x, r, hf, q⟩ := h
  cases hf
  exact q σ S x r
theorem ds_pass : DS X (.Pass pos) gNil := ps_conseq ps_pass fun Dn σ H h => by
  obtain ⟨Se, S, δ, o, rfl, x, r, hf, q⟩ := h
  cases hf
  exact q σ S x r
/-- x = e -/
def gSet (i : Nat) (f : FE) : GS := fun δ => (f δ).map fun d => .nx (δ.set i (.val d))
theorem set_run {K : PySem.W.Frag} {i : Nat} {Dn : Ends} {σ : L2.St} {H : Hp} (h : tG K (gSet i f) Dn σ H) : tAsg (tD K f) (gName i) Dn σ H := by
  obtain ⟨Se, S, δ, o, rfl, x, r, hf, q⟩ := h
  obtain ⟨d, hx, rfl⟩ := Option.map_eq_some_iff.mp hf
  exact ⟨Se.H, S, δ, d, rfl, r, hx, fun v S1 x1 r1 => q _ S1 (x.trans x1) ((r.mono x1).setv r1)⟩
theorem ds_set {i : Nat} {x : Str} {pos' : Pos} (hN : X.N.Nodup) (hi : X.N[i]? = some x) (hx : Loc X.env.scope x) (h : DE X e f)
    (hf : X.fn x = true ∨ X.env.scope.names.lookup x = some .local := by first | exact .inl rfl | exact .inr rfl | assumption) (hs : swapsWith e (some (.Name x pos')) pos.line X.env = pure false := by rfl) : DS X (.Assign [.Name x pos'] e pos) (gSet i f) :=
  ps_conseq (ps_set (i := i) hN hi hx h hs hf) fun Dn σ H h => set_run h
end
end Pd

set_option Elab.async false
set_option linter.all false
set_option maxRecDepth 100000
set_option maxHeartbeats 4000000
namespace Pd
open PySem PySem.Spec PyProof.Rows L2
section
variable {X : Cx} {a b c e : Expr} {fa fb fc f : FE} {pos : Pos}
theorem ds_setLc {i j : Nat} {y x : Str} {py spos : Pos} {elt tg iter : Expr} {ifs : List Expr} {scope : Scope} {fi : FI} {ft fe : FE} (hc : X.calm = true) (hN : X.N.Nodup) (hy : X.N[j]? = some y) (hyl : X.env.scope.names.lookup y = some .local)
    (hsw : swapsWith (.ListComp elt [⟨tg, iter, ifs, 0⟩] scope pos) (some (.Name y py)) spos.line X.env = pure true) (hi : WI X tg iter fi) (ok : BlkOk X.N X.env.scope scope [(x, i)])
    (hg : ∀ (s : Shared) (H : Hp) (C : Addr) (cl : List (Str × Addr)) (fp : List Addr), PG (X.blk s H scope (compEnvC scope cl C X.env) fp) tg (gName i)) (ht : ∀ (s : Shared) (H : Hp) (C : Addr) (cl : List (Str × Addr)) (fp : List Addr), PTs (X.blk s H scope (compEnvC scope cl C X.env) fp) ifs (tDT X.K ft))
    (he : ∀ (s : Shared) (H : Hp) (C : Addr) (cl : List (Str × Addr)) (fp : List Addr), PE (X.blk s H scope (compEnvC scope cl C X.env) fp) elt (tD X.K fe)) (hs : ∀ x, foldedSetIterable iter X.env x = pure x := by intro _; rfl) :
    DS X (.Assign [.Name y py] (.ListComp elt [⟨tg, iter, ifs, 0⟩] scope pos) spos) (gSet j (eLc fi i ft fe)) := by
  refine ps_conseq (ps_setLc (own := [(x, i)]) (i := j) hc hN hy hyl hsw hi ok hg ht he hs) fun Dn σ H h => ?_
  have h' := set_run h
  exact lc_run (Q := fun x H1 => gName j x σ H1 Dn.nx) h'
/-- a, b, .. = e (e a tuple) -/
def setAll : List Nat → List D → List Sl → List Sl
  | i :: is, d :: ds, δ => setAll is ds (δ.set i (.val d))
  | _, _, δ => δ
def gUnp (is : List Nat) (f : FE) : GS := fun δ => (f δ).bind fun d => match d with
  | .tuple ds => if ds.length = is.length then some (.nx (setAll is ds δ)) else none
  | _ => none
def namesG : List Nat → TGs
  | [] => gNil'
  | i :: is => gCons (gName i) (namesG is)
where gNil' : TGs := L2.gNil
theorem names_run {K : PySem.W.Frag} {E : Hp} {S : Stt} {Q : L2.St → Hp → Prop} : ∀ {is : List Nat} {vs : List V} {ds : List D} {σ : L2.St} {δ : List Sl}, R K E S σ δ → RvL K S.Z ds vs → ds.length = is.length → (∀ σ', R K E S σ' (setAll is ds δ) → Q σ' S.H) → namesG is vs σ S.H Q
  | [], vs, ds, σ, δ, r, rv, hl, q => by
    cases ds with
    | nil => cases rv; exact ⟨rfl, q σ r⟩
    | cons d ds => cases hl
  | i :: is, vs, ds, σ, δ, r, rv, hl, q => by
    cases ds with
    | nil => cases hl
    | cons d ds =>
      cases rv with
      | cons a b => exact ⟨_, _, rfl, names_run (is := is) (r.setv a) b (by simpa using hl) q⟩
theorem ds_unp {tgs : List Expr} {k n : Nat} {pos' : Pos} {is : List Nat} (hl : n = is.length) (hps : PS X (.Assign [.Tuple tgs k pos'] e pos) (tAsg (tD X.K f) (gTup X.K n (namesG is)))) : DS X (.Assign [.Tuple tgs k pos'] e pos) (gUnp is f) :=
  ps_conseq hps fun Dn σ H h => by
    obtain ⟨Se, S, δ, o, rfl, x, r, hf, q⟩ := h
    obtain ⟨d, hx, hf⟩ := Option.bind_eq_some_iff.mp hf
    refine ⟨Se.H, S, δ, d, rfl, r, hx, fun v S1 x1 r1 => ?_⟩
    cases d with
    | tuple ds =>
      have hf' : (if ds.length = is.length then some (Out.nx (setAll is ds δ)) else none) = some o := hf
      split at hf'
      · rename_i hz
        cases hf'
        cases r1 with
        | tup a1 b1 =>
          refine ⟨_, _, rfl, sqt_mono S1.ok a1, by rw [b1.length, hz, hl], ?_⟩
          exact names_run (r.mono x1) b1 hz fun σ' r' => q σ' S1 (x.trans x1) r'
      · cases hf'
    | _ => cases hf
/-- for x in .. -/
def forG (i : Nat) (body : GS) : List D → GS
  | [], δ => some (.nx δ)
  | d :: r, δ => match body (δ.set i (.val d)) with
    | some (.nx δ') => forG i body r δ'
    | some (.ct δ') => forG i body r δ'
    | some (.bk δ') => some (.nx δ')
    | some (.rt d') => some (.rt d')
    | none => none
def gFor (fi : FI) (i : Nat) (body : GS) : GS := fun δ => (fi δ).bind fun ds => forG i body ds δ
/-- the entry of a loop's body: what stood frozen or was there at the def's entry -/
def Stt.mid (Se S : Stt) (x : Ex Se S) : Stt := ⟨S.Z, fun b => if (Se.H b).isSome || (S.Z b).isSome then S.H b else none, fun b o e => by
  show (if _ then _ else _) = some o
  rw [e]
  simp only [Option.isSome_some, Bool.or_true, if_true]
  exact S.ok _ _ e⟩
theorem mid_none {Se S : Stt} {x : Ex Se S} {b : Addr} (h : (Se.mid S x).H b = none) : Se.H b = none := by
  have h' : (if (Se.H b).isSome || (S.Z b).isSome then S.H b else none) = none := h
  cases e : Se.H b with
  | none => rfl
  | some o =>
    rw [e] at h'
    simp only [Option.isSome_some, Bool.true_or, if_true] at h'
    rw [x.h _ _ e] at h'
    cases h'
theorem mid_out {Se S : Stt} {x : Ex Se S} {b : Addr} (h : Se.H b = none) (h2 : S.Z b = none) : (Se.mid S x).H b = none := by
  show (if (Se.H b).isSome || (S.Z b).isSome then S.H b else none) = none
  rw [h, h2]
  rfl
theorem mid_ex {Se S : Stt} (x : Ex Se S) : Ex (Se.mid S x) S := ⟨Same.refl _, fun b o e => by
  have e' : (if (Se.H b).isSome || (S.Z b).isSome then S.H b else none) = some o := e
  split at e'
  · exact e'
  · (cases e'), fun b h1 _ => h1⟩
theorem ex_mid {Se S : Stt} (x : Ex Se S) : Ex Se (Se.mid S x) := ⟨x.z, fun b o e => by
  show (if (Se.H b).isSome || (S.Z b).isSome then S.H b else none) = some o
  rw [e]
  simp only [Option.isSome_some, Bool.true_or, if_true]
  exact x.h _ _ e, fun b h1 h2 => x.c b h1 h2⟩
theorem R.mid {K : PySem.W.Frag} {Se S : Stt} {σ : L2.St} {δ : List Sl} (x : Ex Se S) (r : R K Se.H S σ δ) : R K (Se.mid S x).H S σ δ := by
  refine ⟨fun i s h => ?_, r.dis⟩
  obtain ⟨v, h1, h2⟩ := r.at_ i s h
  refine ⟨v, h1, ?_⟩
  cases s with
  | un => exact trivial
  | val d => exact h2
  | own ds => obtain ⟨a, vs, e1, e2, e3, e4, e5⟩ := h2; exact ⟨a, vs, e1, e2, e3, mid_out e4 e3, e5⟩
theorem R.unmid {K : PySem.W.Frag} {Se S T : Stt} {σ : L2.St} {δ : List Sl} (x : Ex Se S) (r : R K (Se.mid S x).H T σ δ) : R K Se.H T σ δ := by
  refine ⟨fun i s h => ?_, r.dis⟩
  obtain ⟨v, h1, h2⟩ := r.at_ i s h
  refine ⟨v, h1, ?_⟩
  cases s with
  | un => exact trivial
  | val d => exact h2
  | own ds => obtain ⟨a, vs, e1, e2, e3, e4, e5⟩ := h2; exact ⟨a, vs, e1, e2, e3, mid_none e4, e5⟩
theorem ds_for {tg iter : Expr} {body : List Stmt} {fi : FI} {i : Nat} {g : GS} (hp : PassesOwn (model X.prog X.w) X.A X.env X.xe) (hc : X.calm = true) (hi : WI X tg iter fi) (hg : PG X tg (gName i)) (hb : DB X body g) (hs : ∀ x, foldedSetIterable iter X.env x = pure x := by intro _; rfl) : DS X (.For tg iter body [] pos) (gFor fi i g) :=
  ps_conseq (ps_for hp hc hi hg hb (hs := hs)) fun Dn σ H h => by
    obtain ⟨Se, S, δ, o, rfl, x, r, hf, q⟩ := h
    obtain ⟨ds, hx, hf⟩ := Option.bind_eq_some_iff.mp hf
    refine ⟨Se.H, S, δ, ds, rfl, r, hx, fun J S1 x1 it => ?_⟩
    have xe : Ex Se S1 := x.trans x1
    let Sm := Se.mid S1 xe
    let Pv : Nat → L2.St → Hp → Prop := fun k σ H => ∃ (S' : Stt) (δ' : List Sl), S'.H = H ∧ Ex Sm S' ∧ R X.K Sm.H S' σ δ' ∧ forG i g (ds.drop k) δ' = some o
    refine ⟨fun k m σ H => m = ds.length - k ∧ k ≤ ds.length ∧ Pv k σ H, ⟨ds.length, by simp, Nat.zero_le _, S1, δ, rfl, mid_ex xe, R.mid xe (r.mono x1), hf⟩, ?_⟩
    rintro k m σ H ⟨rfl, hk, S', δ', rfl, x', r', hl⟩
    by_cases hlt : k < ds.length
    · refine .inr ⟨it.go k S' x'.z hlt, Pv (k + 1), fun σ' H' p => ⟨ds.length - (k + 1), by omega, rfl, hlt, p⟩, fun v H' hyld => ?_⟩
      obtain ⟨d, S2, hd, x2, rfl, rd⟩ := it.yld k S' v H' x'.z hlt hyld
      rw [List.drop_eq_getElem_cons hlt] at hl
      have ed : ds[k] = d := by rw [List.getElem?_eq_getElem hlt] at hd; exact Option.some.inj hd
      rw [ed] at hl
      simp only [forG] at hl
      have rr := (r'.mono x2).setv (i := i) rd
      have x2' := x'.trans x2
      split at hl
      · rename_i hb1
        exact ⟨Sm, S2, _, _, rfl, x2', rr, hb1, fun σ3 S3 x3 r3 => ⟨S3, _, rfl, x3, r3, hl⟩⟩
      · rename_i hb1
        exact ⟨Sm, S2, _, _, rfl, x2', rr, hb1, fun σ3 S3 x3 r3 => ⟨S3, _, rfl, x3, r3, hl⟩⟩
      · rename_i hb1
        cases hl
        exact ⟨Sm, S2, _, _, rfl, x2', rr, hb1, fun σ3 S3 x3 r3 => q σ3 S3 ((ex_mid xe).trans x3) (R.unmid xe r3)⟩
      · rename_i hb1
        cases hl
        exact ⟨Sm, S2, _, _, rfl, x2', rr, hb1, fun v3 S3 x3 r3 => q v3 S3 ((ex_mid xe).trans x3) r3⟩
      · cases hl
    · have ek : k = ds.length := by omega
      subst ek
      rw [List.drop_length] at hl
      cases hl
      exact .inl ⟨it.stop S' x'.z, q σ S' ((ex_mid xe).trans x') (R.unmid xe r')⟩
/-- while, at most n turns -/
def whileG (ft : FE) (body : GS) : Nat → GS
  | 0, _ => none
  | n + 1, δ => match ft δ with
    | some (.bool true) => match body δ with
      | some (.nx δ') => whileG ft body n δ'
      | some (.ct δ') => whileG ft body n δ'
      | some (.bk δ') => some (.nx δ')
      | some (.rt d') => some (.rt d')
      | none => none
    | some (.bool false) => some (.nx δ)
    | _ => none
theorem ds_while (n : Nat) {body : List Stmt} {ft : FE} {g : GS} (hp : PassesOwn (model X.prog X.w) X.A X.env X.xe) (ht : PT X c (tDT X.K ft)) (hb : DB X body g) : DS X (.While c body [] pos) (whileG ft g n) :=
  ps_conseq (ps_while hp ht hb) fun Dn σ H h => by
    obtain ⟨Se, S, δ, o, rfl, x, r, hf, q⟩ := h
    refine ⟨fun m σ H => ∃ (S' : Stt) (δ' : List Sl), S'.H = H ∧ Ex Se S' ∧ R X.K Se.H S' σ δ' ∧ whileG ft g m δ' = some o, ⟨n, S, δ, rfl, x, r, hf⟩, ?_⟩
    rintro m σ H ⟨S', δ', rfl, x', r', hl⟩
    cases m with
    | zero => cases hl
    | succ m =>
      simp only [whileG] at hl
      split at hl
      · rename_i ht1
        refine ⟨Se.H, S', δ', true, rfl, r', ht1, fun S1 x1 => ?_⟩
        refine iteT ?_
        refine ⟨fun σ2 H2 => ∃ (S2 : Stt) (δ2 : List Sl), S2.H = H2 ∧ Ex Se S2 ∧ R X.K Se.H S2 σ2 δ2 ∧ whileG ft g m δ2 = some o, fun σ2 H2 p => ⟨m, Nat.lt_succ_self _, p⟩, ?_⟩
        split at hl
        · rename_i hb1
          exact ⟨Se, S1, _, _, rfl, x'.trans x1, r'.mono x1, hb1, fun σ3 S3 x3 r3 => ⟨S3, _, rfl, x3, r3, hl⟩⟩
        · rename_i hb1
          exact ⟨Se, S1, _, _, rfl, x'.trans x1, r'.mono x1, hb1, fun σ3 S3 x3 r3 => ⟨S3, _, rfl, x3, r3, hl⟩⟩
        · rename_i hb1
          cases hl
          exact ⟨Se, S1, _, _, rfl, x'.trans x1, r'.mono x1, hb1, fun σ3 S3 x3 r3 => q σ3 S3 x3 r3⟩
        · rename_i hb1
          cases hl
          exact ⟨Se, S1, _, _, rfl, x'.trans x1, r'.mono x1, hb1, fun v3 S3 x3 r3 => q v3 S3 x3 r3⟩
        · cases hl
      · rename_i ht1
        cases hl
        refine ⟨Se.H, S', δ', false, rfl, r', ht1, fun S1 x1 => ?_⟩
        refine iteF ?_
        exact q σ S1 (x'.trans x1) (r'.mono x1)
      · cases hl
/-! ### lists of the def's own -/
/-- x = [..], x filled later -/
def gOwn (i : Nat) (g : FA) : GS := fun δ => (g δ).bind fun ds => if ds.length ≤ lim then some (.nx (δ.set i (.own ds))) else none
theorem ds_own {i : Nat} {x : Str} {pos' epos : Pos} {es : List Expr} {g : FA} (hN : X.N.Nodup) (hi : X.N[i]? = some x) (hx : Loc X.env.scope x) (h : DA X es g)
    (hf : X.fn x = true ∨ X.env.scope.names.lookup x = some .local := by first | exact .inl rfl | exact .inr rfl | assumption) (hs : swapsWith (.List es epos) (some (.Name x pos')) pos.line X.env = pure false := by rfl) : DS X (.Assign [.Name x pos'] (.List es epos) pos) (gOwn i g) :=
  ps_conseq (ps_set (i := i) hN hi hx (pe_lst h) hs hf) fun Dn σ H h => by
    obtain ⟨Se, S, δ, o, rfl, x, r, hf, q⟩ := h
    obtain ⟨ds, hx, hf⟩ := Option.bind_eq_some_iff.mp hf
    split at hf
    · rename_i hz
      cases hf
      refine ⟨Se.H, S, δ, ds, rfl, r, hx, fun vs S1 x1 r1 => ⟨by rw [r1.length]; exact Nat.le_trans hz lim_line, fun p hp => ?_⟩⟩
      have zp : S1.Z p = none := S1.ok.free hp
      have xe := x.trans x1
      have x2 : Ex S1 (S1.put p (.lst vs) zp) := ⟨Same.refl _, same_upd hp _, fun _ h _ => h⟩
      refine q _ (S1.put p (.lst vs) zp) (xe.trans x2) (((r.mono x1).mono x2).set ⟨p, vs, rfl, upd_same, zp, xe.h.free hp, r1⟩ ?_)
      intro es' j a' fs e1 e2 e3 e4
      cases e2
      obtain ⟨w, hw, a2, vs2, f1, f2, _⟩ := (r.mono x1).at_ j _ e3
      rw [e4] at hw
      cases hw
      cases f1
      rw [hp] at f2
      cases f2
    · cases hf
theorem own_write {K : PySem.W.Frag} {Se S : Stt} {σ : L2.St} {δ : List Sl} {i : Nat} {ds ds' : List D} {a : Addr} {vs vs' : List V} (x : Ex Se S) (r : R K Se.H S σ δ) (hi : δ[i]? = some (.own ds)) (ha : σ[i]? = some (some (.ref a))) (hz : S.Z a = none) (he : Se.H a = none) (hv : RvL K S.Z ds' vs') :
    Ex Se (S.put a (.lst vs') hz) ∧ R K Se.H (S.put a (.lst vs') hz) σ (δ.set i (.own ds')) := by
  refine ⟨⟨x.z, fun b o e => by show upd S.H a _ b = _; rw [upd_ne (ne_of_none e he)]; exact x.h _ _ e, x.c⟩, fun j t e => ?_, fun j k b es fs e1 e2 f1 f2 => ?_⟩
  · by_cases hj : j = i
    · subst hj
      rw [List.getElem?_set_self (List.getElem?_eq_some_iff.mp hi).1] at e
      cases e
      exact ⟨_, ha, a, vs', rfl, upd_same, hz, he, hv⟩
    · rw [List.getElem?_set_ne (Ne.symm hj)] at e
      obtain ⟨v, h1, h2⟩ := r.at_ j t e
      refine ⟨v, h1, ?_⟩
      cases t with
      | un => exact trivial
      | val d => exact h2
      | own es =>
        obtain ⟨b, ws, g1, g2, g3, g4, g5⟩ := h2
        subst g1
        have hb : b ≠ a := fun eb => by subst eb; exact hj (r.dis j i b es ds e hi h1 ha)
        exact ⟨b, ws, rfl, by show upd S.H a _ b = _; rw [upd_ne hb]; exact g2, g3, g4, g5⟩
  · have own_of : ∀ {m : Nat} {es' : List D}, (δ.set i (.own ds'))[m]? = some (.own es') → ∃ es'', δ[m]? = some (.own es'') := fun {m es'} q => by
      by_cases hm : m = i
      · subst hm; exact ⟨ds, hi⟩
      · rw [List.getElem?_set_ne (Ne.symm hm)] at q; exact ⟨_, q⟩
    obtain ⟨es1, q1⟩ := own_of e1
    obtain ⟨es2, q2⟩ := own_of e2
    exact r.dis j k b es1 es2 q1 q2 f1 f2
/-- x.append(e) -/
def gApp (i : Nat) (f : FE) : GS := fun δ => (f δ).bind fun d => match δ[i]? with
  | some (.own ds) => if ds.length < lim then some (.nx (δ.set i (.own (ds ++ [d])))) else none
  | _ => none
theorem ds_append {i : Nat} {x : Str} {npos apos cpos epos : Pos} (hN : X.N[i]? = some x) (hv : Vis X.env.scope x) (h : DE X e f)
    (hbase : attributeBase (.Name x npos) "append" X.env (eval (.Name x npos) X.env) = eval (.Name x npos) X.env := by rfl)
    (hfew : ((backTo cpos (starEach [e] X.env)).all (fun x => !x.1) && (backToKw cpos (keywordEach [] X.env)).all (fun x => x.1.isSome) && decide ([e].length + ([] : List Keyword).length + (if ([] : List Keyword).isEmpty then 0 else 1) < 30)) = true := by rfl)
    (hline : (apos.endLine == cpos.line) = true := by rfl) (hs : starEach [e] X.env = (false, eval e X.env) :: starEach [] X.env := by rfl) (hplain : (backTo cpos (starEach [] X.env)).any (·.1) = false := by rfl)
    (hd : (x == ("__debug__" : Str)) = false := by decide) (hcd : (x == ("__classdict__" : Str)) = false := by decide)
    : DS X (.Expr (.Call (.Attribute (.Name x npos) "append" apos) [e] [] cpos) epos) (gApp i f) :=
  ps_conseq (ps_expr (pe_bm PySem.F.plainAttrs_list PySem.F.slot_list_append PySem.F.type_list_append mt_append (pe_var hN hv hd hcd) (pa_cons h pa_nil hs) hbase hfew hline hs hplain)) fun Dn σ H h => by
    obtain ⟨Se, S, δ, o, rfl, xe, r, hf, q⟩ := h
    obtain ⟨d, hx, hf⟩ := Option.bind_eq_some_iff.mp hf
    split at hf
    · rename_i ds hds
      split at hf
      · rename_i hz
        cases hf
        obtain ⟨v, h1, a, vs, rfl, h3, h4, h5, h6⟩ := r.at_ i _ hds
        refine ⟨.ref a, h1, .inl ⟨rfl, vs, .inl (.inl h3)⟩, Se.H, S, δ, d, rfl, r, hx, fun w S1 x1 r1 => ?_⟩
        have h3' : S1.H a = some (.lst vs) := x1.h _ _ h3
        have h4' : S1.Z a = none := x1.c a h4 (by rw [h3]; simp)
        refine ⟨a, vs, w, rfl, rfl, h3', by rw [h6.length]; exact Nat.lt_of_lt_of_le hz lim_line, ?_⟩
        obtain ⟨x3, r3⟩ := own_write (vs := vs) (vs' := vs ++ [w]) (xe.trans x1) (r.mono x1) hds h1 h4' h5 ((RvL.mono x1.z ds h6).append (.cons r1 .nil))
        exact q σ _ x3 r3
      · cases hf
    · cases hf
/-- return x, x a list of the def's own -/
def eOwn (i : Nat) : FE := fun δ => match δ[i]? with
  | some (.own ds) => some (.list ds)
  | _ => none
theorem ds_retOwn {i : Nat} {x : Str} {npos : Pos} (hN : X.N[i]? = some x := by rfl) (hv : Vis X.env.scope x := by first | exact Or.inl rfl | exact Or.inr (Or.inl rfl) | exact Or.inr (Or.inr rfl)) (hd : (x == ("__debug__" : Str)) = false := by decide) (hcd : (x == ("__classdict__" : Str)) = false := by decide) : DS X (.Return (some (.Name x npos)) pos) (gRet (eOwn i)) :=
  ps_conseq (ps_ret (pe_var hN hv hd hcd)) fun Dn σ H h => by
    obtain ⟨Se, S, δ, o, rfl, xe, r, hf, q⟩ := h
    obtain ⟨d, hx, rfl⟩ := Option.map_eq_some_iff.mp hf
    unfold eOwn at hx
    split at hx
    · rename_i ds hds
      cases hx
      obtain ⟨v, h1, a, vs, rfl, h3, h4, h5, h6⟩ := r.at_ i _ hds
      refine ⟨.ref a, h1, ?_⟩
      let S3 : Stt := ⟨upd S.Z a (.lst vs), S.H, fun b o e => by
        by_cases hb : b = a
        · subst hb; rw [upd_same] at e; cases e; exact h3
        · rw [upd_ne hb] at e; exact S.ok _ _ e⟩
      have x3 : Ex Se S3 := ⟨xe.z.trans (same_upd h4 _), xe.h, fun b g1 g2 => by
        show upd S.Z a _ b = none
        rw [upd_ne (show b ≠ a from fun e => by subst e; exact g2 h5)]
        exact xe.c b g1 g2⟩
      exact q _ S3 x3 (.lst (.inl (.inl upd_same)) (RvL.mono (same_upd h4 _) ds h6))
    · cases hx
/-! ### calls of pure defs; a def from its body -/
def spP (K : PySem.W.Frag) (F : List D → Option D) : Sp := fun vs H Q _ => ∃ (S : Stt) (ds : List D) (d : D), S.H = H ∧ RvL K S.Z ds vs ∧ F ds = some d ∧ ∀ v S', Ex S S' → Rv K S'.Z d v → Q v S'.H
def eCall (F : List D → Option D) (g : FA) : FE := fun δ => (g δ).bind F
theorem de_call {x : Str} {fa : Addr} {fd : FuncData} {ps : List Str} {k : Nat} {es : List Expr} {p : Pos} {F : List D → Option D} {g : FA} (G : FnOk X.prog X.w X.K X.mg X.base CX0 k fa fd ps (spP X.K F)) (hr : Room k X.A) (hg : Gl X x) (hm : X.mg x = some (.ref fa)) (hk : PySem.W.keepIn X.K (.ref fa) = true) (hb : Binds X.K fd ps [])
    (ha : DA X (e :: es) g) (hdb : (x == ("__debug__" : Str)) = false := by decide) (he : starEach (e :: es) X.env = (false, eval e X.env) :: starEach es X.env := by rfl) (hpl : (backTo pos (starEach es X.env)).any (·.1) = false := by rfl) : DE X (.Call (.Name x p) (e :: es) [] pos) (eCall F g) :=
  pe_conseq (pe_call G hr hg hm hk hb .nil pass0 ha hdb he hpl) fun σ H Q h => by
    obtain ⟨E, S, δ, d, rfl, r, hf, q⟩ := h
    obtain ⟨ds, hx, hf⟩ := Option.bind_eq_some_iff.mp hf
    exact ⟨E, S, δ, ds, rfl, r, hx, fun vs S1 x1 r1 => ⟨S1, ds, d, rfl, by rw [List.append_nil]; exact r1, hf, fun v S2 x2 r2 => q v S2 (x1.trans x2) r2⟩⟩
end
/-- the slots at a def's entry -/
def startD (n : Nat) (ds : List D) : List Sl := ds.map .val ++ List.replicate (n - ds.length) .un
/-- what a body gives: n slots, np parameters -/
def runG (n np : Nat) (g : GS) : List D → Option D := fun ds => if ds.length = np then match g (startD n ds) with
  | some (.rt d) => some d
  | some (.nx _) => some .none
  | _ => none
  else none
theorem start_rv {K : PySem.W.Frag} {S : Stt} {N : List Str} {vs : List V} {ds : List D} (h : RvL K S.Z ds vs) : R K S.H S (L2.start N vs) (startD N.length ds) := by
  have hl := h.length
  refine ⟨fun i s e => ?_, fun i j a es fs e1 e2 _ _ => ?_⟩
  · unfold startD at e
    unfold L2.start
    by_cases hi : i < ds.length
    · rw [List.getElem?_append_left (by simpa using hi), List.getElem?_map, List.getElem?_eq_getElem hi] at e
      cases e
      obtain ⟨v, h1, h2⟩ := h.get (List.getElem?_eq_getElem hi)
      exact ⟨some v, by rw [List.getElem?_append_left (by simp; omega), List.getElem?_map, h1]; rfl, v, rfl, h2⟩
    · rw [List.getElem?_append_right (by simp; omega), List.length_map, List.getElem?_replicate] at e
      split at e
      · rename_i hk
        cases e
        exact ⟨none, by rw [List.getElem?_append_right (by simp; omega), List.length_map, List.getElem?_replicate, if_pos (by omega)], trivial⟩
      · cases e
  · have no : ∀ {m : Nat} {es' : List D}, (startD N.length ds)[m]? ≠ some (.own es') := fun {m es'} q => by
      unfold startD at q
      by_cases hm : m < ds.length
      · rw [List.getElem?_append_left (by simpa using hm), List.getElem?_map, List.getElem?_eq_getElem hm] at q
        cases q
      · rw [List.getElem?_append_right (by simp; omega), List.length_map, List.getElem?_replicate] at q
        split at q <;> cases q
    exact absurd e1 no
theorem fn_pure {P : Program} {w : World} {K : PySem.W.Frag} {mg : Str → Option Value} {base : Heap} {x qual : Str} {st : Stmt} {fa : Addr} {fd : FuncData} {N ps : List Str} {k : Nat} {g : GS} (F : Fun K x qual st fa fd) (Sc : FnScope N ps (defScope st))
    (hbody : ∀ (cdv : Value) (A : Around) (outer : List Env) (s : Shared) (H : Hp) (E : XK), Room k (A.deeper (envOfC qual (defScope st) s.heap.objs.size fa cdv)) → DB (cxOf CX0 P w K mg base N qual (defScope st) fa cdv A outer s H E).nox (defBody st) g) :
    FnOk P w K mg base CX0 (k + 1) fa fd ps (spP K (runG N.length ps.length g)) := by
  refine F.ok Sc (fun vs H Q E h => ?_) (fun cdv A outer s H vs Q E hr h => ?_)
  · obtain ⟨S, ds, d, rfl, rl, hf, q⟩ := h
    unfold runG at hf
    split at hf
    · rename_i hz
      rw [rl.length, hz]
    · cases hf
  · refine ⟨_, hbody cdv A outer s H E hr, ?_⟩
    obtain ⟨S, ds, d, rfl, rl, hf, q⟩ := h
    unfold runG at hf
    split at hf
    · split at hf
      · rename_i d' hg
        cases hf
        exact ⟨S, S, _, _, rfl, .refl S, start_rv rl, hg, fun v S' x' r' => q v S' x' r'⟩
      · rename_i δ' hg
        cases hf
        exact ⟨S, S, _, _, rfl, .refl S, start_rv rl, hg, fun σ' S' x' _ => q .non S' x' .non⟩
      · cases hf
    · cases hf
/-- nothing is promised -/
theorem fn_none {P : Program} {w : World} {K : PySem.W.Frag} {mg : Str → Option Value} {base : Heap} {k : Nat} {fa : Addr} {fd : FuncData} {ps : List Str} : FnOk P w K mg base CX0 k fa fd ps (spP K fun _ => none) := by
  have no : ∀ vs H Q E, ¬ spP K (fun _ => none) vs H Q E := fun vs H Q E h => by
    obtain ⟨_, _, _, _, _, e, _⟩ := h
    cases e
  exact ⟨fun vs H Q E h => absurd h (no vs H Q E), fun A outer s H args us vs Q E _ _ _ _ h => absurd h (no vs H Q E)⟩
end Pd

set_option Elab.async false
set_option linter.all false
set_option maxRecDepth 100000
set_option maxHeartbeats 4000000
namespace Pd
open PySem PySem.Spec PyProof.Rows L2
theorem hu65 {k : Nat} {A : Around} (hr : Room k A) : A.units + 65 < cLine := by have := hr.un; omega
theorem hu64 {k : Nat} {A : Around} (hr : Room k A) : A.units + 64 < cLine := by have := hr.un; omega
theorem hu1 {k : Nat} {A : Around} (hr : Room k A) : A.units + 1 < cLine := by have := hr.un; omega
/-- a def of the text, bound to its name -/
def Df (K : PySem.W.Frag) (mg : Str → Option Value) (x : Str) (st : Stmt) (ps : List Str) : Prop :=
  ∃ (fa : Addr) (fd : FuncData), Fun K x x st fa fd ∧ mg x = some (.ref fa) ∧ Binds K fd ps []
/-- a def that keeps a pure promise -/
def Fx (P : Program) (w : World) (K : PySem.W.Frag) (mg : Str → Option Value) (base : Heap) (x : Str) (ps : List Str) (lv : Nat) (F : List D → Option D) : Prop :=
  ∃ (fa : Addr) (fd : FuncData), FnOk P w K mg base CX0 lv fa fd ps (spP K F) ∧ mg x = some (.ref fa) ∧ PySem.W.keepIn K (.ref fa) = true ∧ Binds K fd ps [] ∧ ∃ oc od osl, K.lookup fa = some ⟨oc, od, .func fd, osl⟩
section
variable {P : Program} {w : World} {K : PySem.W.Frag} {mg : Str → Option Value} {base : Heap} {x : Str} {st : Stmt} {N ps : List Str}
theorem fun_look {fa : Addr} {fd : FuncData} (F : Fun K x x st fa fd) : ∃ oc od osl, K.lookup fa = some ⟨oc, od, .func fd, osl⟩ := by
  obtain ⟨oc, od, kV, doc, pm, an, cdv, ct, osl, e, lk, _⟩ := F.ex
  exact ⟨oc, od, osl, lk⟩
theorem fx_of {k n np : Nat} {g : GS} (d : Df K mg x st ps) (Sc : FnScope N ps (defScope st)) (hn : N.length = n) (hp : ps.length = np)
    (hbody : ∀ (fa : Addr) (cdv : Value) (A : Around) (outer : List Env) (s : Shared) (H : Hp) (E : XK), Room k (A.deeper (envOfC x (defScope st) s.heap.objs.size fa cdv)) → DB (cxOf CX0 P w K mg base N x (defScope st) fa cdv A outer s H E).nox (defBody st) g) :
    Fx P w K mg base x ps (k + 1) (runG n np g) := by
  subst hn hp
  exact let ⟨fa, fd, F, hm, hb⟩ := d
  ⟨fa, fd, fn_pure F Sc fun cdv A outer s H E hr => hbody fa cdv A outer s H E hr, hm, F.kp, hb, fun_look F⟩
theorem fx_none {k : Nat} (d : Df K mg x st ps) : Fx P w K mg base x ps k fun _ => none :=
  let ⟨fa, fd, F, hm, hb⟩ := d
  ⟨fa, fd, fn_none, hm, F.kp, hb, fun_look F⟩
end
/-- the def as the text has it -/
theorem fx_at {P : Program} {w : World} {K : PySem.W.Frag} {mg : Str → Option Value} {base : Heap} {x : Str} {ps : List Str} {k : Nat} {F : List D → Option D} {fa : Addr} {fd : FuncData} {oc : Value} {od : Option Addr} {osl : Array (Option Value)}
    (c : Fx P w K mg base x ps k F) (hm : mg x = some (.ref fa)) (lk : K.lookup fa = some ⟨oc, od, .func fd, osl⟩) : FnOk P w K mg base CX0 k fa fd ps (spP K F) := by
  obtain ⟨fa', fd', G, hm', _, _, oc', od', osl', lk'⟩ := c
  rw [hm] at hm'
  cases hm'
  rw [lk] at lk'
  cases lk'
  exact G
/-- law's promise -/
def spLaw (K : PySem.W.Frag) : Sp := fun vs H Q _ => ∃ (a : Addr) (ns : List Int), vs = [.ref a] ∧ SqL K H a (ns.map V.int) ∧ ns.length ≤ 63 ∧ ∀ H', Q (.bl true) H'
theorem law_imp {K : PySem.W.Frag} {F : List D → Option D} (hF : ∀ ns : List Int, ns.length ≤ 63 → F [.list (ns.map PyData.int)] = some (.bool true)) : ∀ vs H Q E, spLaw K vs H Q E → spP K F vs H Q E := by
  rintro vs H Q E ⟨a, ns, rfl, hs, hl, q⟩
  exact ⟨⟨H, H, Same.refl H⟩, [.list (ns.map PyData.int)], .bool true, rfl, .cons (.lst hs (RvL.ints ns)) .nil, hF ns hl, fun v S' _ r => by cases r; exact q _⟩
/-- a module's tuple of data -/
def KTup (K : PySem.W.Frag) (p : Addr) (ds : List D) : Prop := ∃ vs : List V, (∀ H, SqT K H p vs) ∧ ∀ H, RvL K H ds vs
theorem rel_ref (a : Addr) : RelV (V.ref a) (Value.ref a) := rfl
theorem rel_str (x : Str) (t : Tok) : RelV (V.str x) (Value.str x t) := ⟨t, rfl⟩
theorem rel_int (x : Int) (t : Tok) : RelV (V.int x) (Value.int x t) := ⟨t, rfl⟩
theorem ktup_of {K : PySem.W.Frag} {p : Addr} {od : Option Addr} {n : Nat} {sl : Array (Option Value)} {its : Array Value} {ds : List D} {vs : List V} (l : K.lookup p = some ⟨.type "tuple", od, .seq its n, sl⟩) (hz : its.size ≤ sizeLine) (hv : Vals vs its.toList) (hr : ∀ H, RvL K H ds vs) : KTup K p ds :=
  ⟨vs, fun _ => .inr ⟨_, its, n, l, rfl, rfl, hz, hv⟩, hr⟩
theorem ktup_rv {K : PySem.W.Frag} {p : Addr} {ds : List D} (h : KTup K p ds) : ∀ H, Rv K H (.tuple ds) (.ref p) := fun H => let ⟨_, h1, h2⟩ := h; .tup (h1 H) (h2 H)
def GlT (K : PySem.W.Frag) (mg : Str → Option Value) (x : Str) (ds : List D) : Prop := ∃ p, mg x = some (.ref p) ∧ KTup K p ds
section
variable {X : Cx} {a b c e : Expr} {fa fb fc f : FE} {pos : Pos}
theorem de_globTx {x : Str} {ds : List D} (hg : Gl X x) (h : GlT X.K X.mg x ds) (hd : (x == ("__debug__" : Str)) = false := by decide) : DE X (.Name x pos) (eC (.tuple ds)) :=
  let ⟨p, hm, vs, h1, h2⟩ := h
  de_globT hg hm h1 h2 hd
theorem de_callx {x : Str} {ps : List Str} {k j : Nat} {es : List Expr} {p : Pos} {F : List D → Option D} {g : FA} (c : Fx X.prog X.w X.K X.mg X.base x ps k F) (hr : Room j X.A) (hk : k ≤ j) (hg : Gl X x)
    (ha : DA X (e :: es) g) (hdb : (x == ("__debug__" : Str)) = false := by decide) (he : starEach (e :: es) X.env = (false, eval e X.env) :: starEach es X.env := by rfl) (hpl : (backTo pos (starEach es X.env)).any (·.1) = false := by rfl) : DE X (.Call (.Name x p) (e :: es) [] pos) (eCall F g) :=
  let ⟨_, _, G, hm, kp, hb, _⟩ := c
  de_call G (hr.mono hk) hg hm kp hb ha hdb he hpl
theorem de_dict0 : DE X (.Dict [] [] pos) (eC (.dict [])) := pe_conseq pe_dnewK fun σ H Q h => by
  obtain ⟨E, S, δ, d, rfl, r, hf, q⟩ := h
  cases hf
  intro p hp
  exact q _ (S.lay p (.dK [])) (S.lay_ex hp) (.dic Stt.lay_at .nil)
theorem dt_cmp {op : CmpOp} {g : D → D → Option D} (ho : OpD X (compareOp op) g) (ha : DE X a fa) (hb : DE X b fb) (hm : behindInMarks op b = false) : PT X (.Compare a [op] [b] pos) (tDT X.K (e2 g fa fb)) :=
  pt_conseq (pt_cmpR ho ha hb hm) fun σ H Q h => by
    obtain ⟨E, S, δ, k, rfl, r, hf, q⟩ := h
    exact tD_bin (Q := fun x H' => ∃ k, x = .bl k ∧ Q k H') ⟨E, S, δ, .bool k, rfl, r, hf, fun v S' x rv => by cases rv; exact ⟨k, rfl, q S' x⟩⟩
theorem dt_chain {op op' : CmpOp} {g g' : D → D → Option D} (ho : OpD X (compareOp op) g) (ho' : OpD X (compareOp op') g') (ha : DE X a fa) (hb : DE X b fb) (hc : DE X c fc) (hm : lastMarks [op, op'] [b, c] = false := by with_unfolding_all rfl) :
    PT X (.Compare a [op, op'] [b, c] pos) (tDT X.K (eChain g g' fa fb fc)) :=
  pt_conseq (pt_chain ho ho' ha hb hc hm) fun σ H Q h => by
    obtain ⟨E, S, δ, k, rfl, r, hf, q⟩ := h
    exact chain_run (Q := fun x H' => ∃ k, x = .bl k ∧ Q k H') ⟨E, S, δ, .bool k, rfl, r, hf, fun v S' x rv => by cases rv; exact ⟨k, rfl, q S' x⟩⟩
/-- a list of the def's own, read where the answer keeps nothing of it -/
def eOwnR (i : Nat) : FE := fun δ => match δ[i]? with
  | some (.own ds) => some (.list ds)
  | some (.val d) => some d
  | _ => none
theorem de_isiB {T : String} (hT : ∀ d : D, (kitB (tyD d) T).isSome = true) {p p2 : Pos} (hm : X.mg "isinstance" = none) (hm2 : X.mg (Str.ofString T) = none) (hg : Gl X "isinstance") (hg2 : Gl X (Str.ofString T)) (hb : bootBuiltins (Str.ofString T) = some (.type T)) (ha : DE X e f)
    (hn : Str.ofString T ≠ "__name__") (hd : (Str.ofString T == ("__debug__" : Str)) = false)
    (he : starEach [e, .Name (Str.ofString T) p2] X.env = (false, eval e X.env) :: starEach [.Name (Str.ofString T) p2] X.env) (he2 : starEach [.Name (Str.ofString T) p2] X.env = (false, eval (.Name (Str.ofString T) p2) X.env) :: starEach [] X.env) (hpl : (backTo pos (starEach [.Name (Str.ofString T) p2] X.env)).any (·.1) = false) :
    DE X (.Call (.Name "isinstance" p) [e, .Name (Str.ofString T) p2] [] pos) (eIs T f) :=
  de_isi hT hg hm (pe_bltn (v := .ty T) hg2 hm2 hb (show Value.type T = Value.type T from rfl) hn hd) ha he he2 hpl
section
variable {p p2 : Pos}
theorem de_isiB_str (hm : X.mg "isinstance" = none) (hm2 : X.mg "str" = none) (hg : Gl X "isinstance") (hg2 : Gl X "str") (ha : DE X e f)
    (he : starEach [e, .Name "str" p2] X.env = (false, eval e X.env) :: starEach [.Name "str" p2] X.env := by rfl) (he2 : starEach [.Name "str" p2] X.env = (false, eval (.Name "str" p2) X.env) :: starEach [] X.env := by rfl) (hpl : (backTo pos (starEach [.Name "str" p2] X.env)).any (·.1) = false := by rfl) : DE X (.Call (.Name "isinstance" p) [e, .Name "str" p2] [] pos) (eIs "str" f) :=
  de_isiB (fun d => (kit6 d).2.1) hm hm2 hg hg2 (by decide +kernel) ha (by decide) (by decide) he he2 hpl
theorem de_isiB_int (hm : X.mg "isinstance" = none) (hm2 : X.mg "int" = none) (hg : Gl X "isinstance") (hg2 : Gl X "int") (ha : DE X e f)
    (he : starEach [e, .Name "int" p2] X.env = (false, eval e X.env) :: starEach [.Name "int" p2] X.env := by rfl) (he2 : starEach [.Name "int" p2] X.env = (false, eval (.Name "int" p2) X.env) :: starEach [] X.env := by rfl) (hpl : (backTo pos (starEach [.Name "int" p2] X.env)).any (·.1) = false := by rfl) : DE X (.Call (.Name "isinstance" p) [e, .Name "int" p2] [] pos) (eIs "int" f) :=
  de_isiB (fun d => (kit6 d).1) hm hm2 hg hg2 (by decide +kernel) ha (by decide) (by decide) he he2 hpl
theorem de_isiB_bool (hm : X.mg "isinstance" = none) (hm2 : X.mg "bool" = none) (hg : Gl X "isinstance") (hg2 : Gl X "bool") (ha : DE X e f)
    (he : starEach [e, .Name "bool" p2] X.env = (false, eval e X.env) :: starEach [.Name "bool" p2] X.env := by rfl) (he2 : starEach [.Name "bool" p2] X.env = (false, eval (.Name "bool" p2) X.env) :: starEach [] X.env := by rfl) (hpl : (backTo pos (starEach [.Name "bool" p2] X.env)).any (·.1) = false := by rfl) : DE X (.Call (.Name "isinstance" p) [e, .Name "bool" p2] [] pos) (eIs "bool" f) :=
  de_isiB (fun d => (kit6 d).2.2.1) hm hm2 hg hg2 (by decide +kernel) ha (by decide) (by decide) he he2 hpl
theorem de_isiB_list (hm : X.mg "isinstance" = none) (hm2 : X.mg "list" = none) (hg : Gl X "isinstance") (hg2 : Gl X "list") (ha : DE X e f)
    (he : starEach [e, .Name "list" p2] X.env = (false, eval e X.env) :: starEach [.Name "list" p2] X.env := by rfl) (he2 : starEach [.Name "list" p2] X.env = (false, eval (.Name "list" p2) X.env) :: starEach [] X.env := by rfl) (hpl : (backTo pos (starEach [.Name "list" p2] X.env)).any (·.1) = false := by rfl) : DE X (.Call (.Name "isinstance" p) [e, .Name "list" p2] [] pos) (eIs "list" f) :=
  de_isiB (fun d => (kit6 d).2.2.2.1) hm hm2 hg hg2 (by decide +kernel) ha (by decide) (by decide) he he2 hpl
theorem de_isiB_tuple (hm : X.mg "isinstance" = none) (hm2 : X.mg "tuple" = none) (hg : Gl X "isinstance") (hg2 : Gl X "tuple") (ha : DE X e f)
    (he : starEach [e, .Name "tuple" p2] X.env = (false, eval e X.env) :: starEach [.Name "tuple" p2] X.env := by rfl) (he2 : starEach [.Name "tuple" p2] X.env = (false, eval (.Name "tuple" p2) X.env) :: starEach [] X.env := by rfl) (hpl : (backTo pos (starEach [.Name "tuple" p2] X.env)).any (·.1) = false := by rfl) : DE X (.Call (.Name "isinstance" p) [e, .Name "tuple" p2] [] pos) (eIs "tuple" f) :=
  de_isiB (fun d => (kit6 d).2.2.2.2.1) hm hm2 hg hg2 (by decide +kernel) ha (by decide) (by decide) he he2 hpl
theorem de_isiB_dict (hm : X.mg "isinstance" = none) (hm2 : X.mg "dict" = none) (hg : Gl X "isinstance") (hg2 : Gl X "dict") (ha : DE X e f)
    (he : starEach [e, .Name "dict" p2] X.env = (false, eval e X.env) :: starEach [.Name "dict" p2] X.env := by rfl) (he2 : starEach [.Name "dict" p2] X.env = (false, eval (.Name "dict" p2) X.env) :: starEach [] X.env := by rfl) (hpl : (backTo pos (starEach [.Name "dict" p2] X.env)).any (·.1) = false := by rfl) : DE X (.Call (.Name "isinstance" p) [e, .Name "dict" p2] [] pos) (eIs "dict" f) :=
  de_isiB (fun d => (kit6 d).2.2.2.2.2) hm hm2 hg hg2 (by decide +kernel) ha (by decide) (by decide) he he2 hpl
end
end
end Pd

set_option Elab.async false
set_option linter.all false
set_option maxRecDepth 100000
set_option maxHeartbeats 4000000
/-! Lists of a def's own: frozen, read, popped, extended, made by calls. -/
namespace Pd
open PySem PySem.Spec PyProof.Rows L2
section
variable {X : Cx} {a b c e : Expr} {fa fb fc f : FE} {pos : Pos}
/-! ### frozen ahead of a statement -/
def gFrz (i : Nat) : GS := fun δ => match δ[i]? with
  | some (.own ds) => some (.nx (δ.set i (.val (.list ds))))
  | _ => none
theorem frz_run {K : PySem.W.Frag} {i : Nat} {g : GS} {Dn : Ends} {σ : L2.St} {H : Hp} (h : tG K (gSeq (gFrz i) g) Dn σ H) : tG K g Dn σ H := by
  obtain ⟨Se, S, δ, o, rfl, xe, r, hf, q⟩ := h
  obtain ⟨o1, h1, hf⟩ := Option.bind_eq_some_iff.mp hf
  unfold gFrz at h1
  split at h1
  · rename_i ds hds
    cases h1
    obtain ⟨v, e1, a, vs, rfl, h3, h4, h5, h6⟩ := r.at_ i _ hds
    let S3 : Stt := ⟨upd S.Z a (.lst vs), S.H, fun b o e => by
      by_cases hb : b = a
      · subst hb; rw [upd_same] at e; cases e; exact h3
      · rw [upd_ne hb] at e; exact S.ok _ _ e⟩
    have zz : Same S.Z S3.Z := same_upd h4 _
    have x3 : Ex Se S3 := ⟨xe.z.trans zz, xe.h, fun b g1 g2 => by
      show upd S.Z a _ b = none
      rw [upd_ne (show b ≠ a from fun e => by subst e; exact g2 h5)]
      exact xe.c b g1 g2⟩
    refine ⟨Se, S3, δ.set i (.val (.list ds)), o, rfl, x3, ⟨fun j t e => ?_, fun j k b es fs e1' e2 f1 f2 => ?_⟩, hf, q⟩
    · by_cases hj : j = i
      · subst hj
        rw [List.getElem?_set_self (List.getElem?_eq_some_iff.mp hds).1] at e
        cases e
        exact ⟨_, e1, _, rfl, .lst (.inl (.inl upd_same)) (RvL.mono zz ds h6)⟩
      · rw [List.getElem?_set_ne (Ne.symm hj)] at e
        obtain ⟨w, w1, w2⟩ := r.at_ j t e
        refine ⟨w, w1, ?_⟩
        cases t with
        | un => exact trivial
        | val d => obtain ⟨y, y1, y2⟩ := w2; exact ⟨y, y1, Rv.mono zz d y2⟩
        | own es =>
          obtain ⟨b, ws, g1, g2, g3, g4, g5⟩ := w2
          subst g1
          have hb : b ≠ a := fun eb => by subst eb; exact hj (r.dis j i b es ds e hds w1 e1)
          exact ⟨b, ws, rfl, g2, by show upd S.Z a _ b = none; rw [upd_ne hb]; exact g3, g4, RvL.mono zz es g5⟩
    · have own_of : ∀ {m : Nat} {es' : List D}, (δ.set i (.val (.list ds)))[m]? = some (.own es') → δ[m]? = some (.own es') := fun {m es'} q => by
        by_cases hm : m = i
        · subst hm
          rw [List.getElem?_set_self (List.getElem?_eq_some_iff.mp hds).1] at q
          cases q
        · rw [List.getElem?_set_ne (Ne.symm hm)] at q; exact q
      exact r.dis j k b es fs (own_of e1') (own_of e2) f1 f2
  · cases h1
theorem ds_frz (i : Nat) {st : Stmt} {g : GS} (h : DS X st g) : DS X st (gSeq (gFrz i) g) := ps_conseq h fun Dn σ H q => frz_run q
theorem db_frz (i : Nat) {sts : List Stmt} {g : GS} (h : DB X sts g) : DB X sts (gSeq (gFrz i) g) := pss_conseq h fun Dn σ H q => frz_run q
/-! ### read where the answer keeps nothing of it -/
def bor1 : Sl → Sl
  | .own ds => .val (.list ds)
  | s => s
def borrow (δ : List Sl) : List Sl := δ.map bor1
def scalK : D → Option D
  | .none => some .none
  | .bool b => some (.bool b)
  | .int i => some (.int i)
  | .str x => some (.str x)
  | _ => none
noncomputable def borZ (S : Stt) (σ : L2.St) (δ : List Sl) : Hp := fun b => open Classical in if S.Z b = none ∧ ∃ (i : Nat) (ds : List D), δ[i]? = some (.own ds) ∧ σ[i]? = some (some (.ref b)) then S.H b else S.Z b
theorem borZ_same {S : Stt} {σ : L2.St} {δ : List Sl} : Same S.Z (borZ S σ δ) := fun b o e => by
  unfold borZ
  rw [if_neg (by rintro ⟨h, _⟩; rw [e] at h; cases h)]
  exact e
theorem borZ_ok {S : Stt} {σ : L2.St} {δ : List Sl} : Same (borZ S σ δ) S.H := fun b o e => by
  unfold borZ at e
  split at e
  · exact e
  · exact S.ok _ _ e
theorem R.borrow {K : PySem.W.Frag} {E : Hp} {S : Stt} {σ : L2.St} {δ : List Sl} (r : R K E S σ δ) : R K E ⟨borZ S σ δ, S.H, borZ_ok⟩ σ (borrow δ) := by
  refine ⟨fun i s h => ?_, fun i j a ds es e1 _ _ _ => ?_⟩
  · unfold Pd.borrow at h
    rw [List.getElem?_map] at h
    obtain ⟨t, ht, rfl⟩ := Option.map_eq_some_iff.mp h
    obtain ⟨v, h1, h2⟩ := r.at_ i t ht
    refine ⟨v, h1, ?_⟩
    cases t with
    | un => exact trivial
    | val d => obtain ⟨y, y1, y2⟩ := h2; exact ⟨y, y1, Rv.mono borZ_same d y2⟩
    | own ds =>
      obtain ⟨a, vs, rfl, g2, g3, g4, g5⟩ := h2
      refine ⟨.ref a, rfl, .lst (.inl (.inl ?_)) (RvL.mono borZ_same ds g5)⟩
      show borZ S σ δ a = _
      unfold borZ
      rw [if_pos ⟨g3, i, ds, ht, h1⟩]
      exact g2
  · unfold Pd.borrow at e1
    rw [List.getElem?_map] at e1
    obtain ⟨t, ht, e⟩ := Option.map_eq_some_iff.mp e1
    cases t <;> cases e
theorem unborrow {S : Stt} {σ : L2.St} {δ : List Sl} {S' : Stt} (x : Ex ⟨borZ S σ δ, S.H, borZ_ok⟩ S') : ∃ S'' : Stt, Ex S S'' ∧ S''.H = S'.H ∧ S''.Z = S.Z :=
  ⟨⟨S.Z, S'.H, S.ok.trans x.h⟩, ⟨Same.refl _, x.h, fun _ h _ => h⟩, rfl, rfl⟩
theorem scal_rv {K : PySem.W.Frag} {H H' : Hp} {d d' : D} {v : V} (h : scalK d = some d') (r : Rv K H d v) : Rv K H' d' v := by
  cases d <;> cases h <;> cases r
  · exact .non
  · exact .bl _
  · exact .int _
  · exact .str _
def eBor (f : FE) : FE := fun δ => (f (borrow δ)).bind scalK
theorem de_bor (h : DE X e f) : DE X e (eBor f) := pe_conseq h fun σ H Q q => by
  obtain ⟨E, S, δ, d, rfl, r, hf, q⟩ := q
  obtain ⟨d1, h1, h2⟩ := Option.bind_eq_some_iff.mp hf
  refine ⟨E, ⟨borZ S σ δ, S.H, borZ_ok⟩, borrow δ, d1, rfl, r.borrow, h1, fun v S' x rv => ?_⟩
  obtain ⟨S2, x2, e2, e3⟩ := unborrow x
  rw [← e2]
  exact q v S2 x2 (scal_rv h2 rv)
theorem dt_bor {ft : FE} (h : PT X e (tDT X.K ft)) : PT X e (tDT X.K (eBor ft)) := pt_conseq h fun σ H Q q => by
  obtain ⟨E, S, δ, k, rfl, r, hf, q⟩ := q
  obtain ⟨d1, h1, h2⟩ := Option.bind_eq_some_iff.mp hf
  have e : d1 = .bool k := by cases d1 <;> cases h2; rfl
  subst e
  refine ⟨E, ⟨borZ S σ δ, S.H, borZ_ok⟩, borrow δ, k, rfl, r.borrow, h1, fun S' x => ?_⟩
  obtain ⟨S2, x2, e2, e3⟩ := unborrow x
  rw [← e2]
  exact q S2 x2
/-! ### x.pop() as a statement; x.extend(e) -/
def gPop (i : Nat) : GS := fun δ => match δ[i]? with
  | some (.own ds) => if ds = [] then none else some (.nx (δ.set i (.own ds.dropLast)))
  | _ => none
theorem RvL.dropLast {K : PySem.W.Frag} {H : Hp} {ds : List D} {vs : List V} (h : RvL K H ds vs) : RvL K H ds.dropLast vs.dropLast := by
  rw [List.dropLast_eq_take, List.dropLast_eq_take, h.length]
  exact h.take _
theorem ds_pop {i : Nat} {x : Str} {npos apos cpos epos : Pos} (hN : X.N[i]? = some x) (hv : Vis X.env.scope x)
    (hbase : attributeBase (.Name x npos) "pop" X.env (eval (.Name x npos) X.env) = eval (.Name x npos) X.env := by rfl) (hline : (apos.endLine == cpos.line) = true := by rfl)
    (hd : (x == ("__debug__" : Str)) = false := by decide) (hcd : (x == ("__classdict__" : Str)) = false := by decide) : DS X (.Expr (.Call (.Attribute (.Name x npos) "pop" apos) [] [] cpos) epos) (gPop i) :=
  ps_conseq (ps_expr (pe_bm0 PySem.F.plainAttrs_list PySem.F.slot_list_pop PySem.F.type_list_pop mt_pop (pe_var hN hv hd hcd) hbase hline)) fun Dn σ H h => by
    obtain ⟨Se, S, δ, o, rfl, xe, r, hf, q⟩ := h
    unfold gPop at hf
    split at hf
    · rename_i ds hds
      split at hf
      · cases hf
      · rename_i hne
        cases hf
        obtain ⟨v, h1, a, vs, rfl, h3, h4, h5, h6⟩ := r.at_ i _ hds
        have hl := h6.length
        have hp : 0 < ds.length := List.length_pos_iff.mpr hne
        obtain ⟨y, hy, _⟩ := h6.get (List.getElem?_eq_getElem (show ds.length - 1 < ds.length by omega))
        refine ⟨.ref a, h1, .inl ⟨rfl, vs, .inl (.inl h3)⟩, a, vs, y, rfl, rfl, h3, by rw [hl]; exact hy, ?_⟩
        obtain ⟨x3, r3⟩ := own_write (vs := vs) (vs' := vs.dropLast) xe r hds h1 h4 h5 h6.dropLast
        exact q σ _ x3 r3
    · cases hf
def gExt (i : Nat) (f : FE) : GS := fun δ => (f δ).bind fun d => match δ[i]?, d with
  | some (.own ds), .list es => if ds.length + es.length ≤ lim then some (.nx (δ.set i (.own (ds ++ es)))) else none
  | _, _ => none
def rExtS (K : PySem.W.Frag) : V → List V → Hp → VK → Prop := fun x vs H Q => ∃ l b xs zs, x = .ref l ∧ vs = [.ref b] ∧ H l = some (.lst xs) ∧ SqL K H b zs ∧ xs.length + zs.length ≤ sizeLine ∧ Q .non (upd H l (.lst (xs ++ zs)))
theorem mt_extS : MtM X "list.extend" (rExtS X.K) := by
  intro pins s σ H x vs v us Q I rx rv h
  obtain ⟨l, b, xs, zs, rfl, rfl, hH, hB, hz, q⟩ := h
  cases rx
  obtain ⟨u, rfl, ru⟩ := rv.one
  cases ru
  obtain ⟨z, its, n, r, hl, e⟩ := I.lstM hH
  obtain ⟨its2, ⟨cls2, dd2, data2, sl2⟩, n2, r2, e2, hc2, hdn2, hd2, hl2⟩ := I_list I hB
  simp only at hc2 hdn2 hd2
  subst hc2 hdn2 hd2
  have z1 := r.length
  have z2 := r2.length
  have hsz : its.toArray.size + its2.toArray.size ≤ sizeLine := by rw [List.size_toArray, List.size_toArray]; omega
  have hlong : ¬ (!its.toArray.isEmpty && Builtin.List.listTooLong (its.toArray.size + its2.toArray.size)) = true := by
    rw [notLongL hsz, Bool.and_false]
    exact Bool.false_ne_true
  refine call_meets F.slot_list_extend ⟨_, e, rfl⟩ F.entry_list_extend (F.args_list_extend_2 _ _)
    (list_extendW l its.toArray n b its2.toArray n2 none sl2 hlong (by rw [List.size_toArray]; omega) (by omega)) ⟨e, e2, ?_⟩
  refine ⟨.non, _, I.lset (its' := its ++ its2) hH e (by simp) (r.append r2) ?_, rfl, q⟩
  rw [List.length_append]
  omega
theorem ds_extend {i : Nat} {x : Str} {npos apos cpos epos : Pos} (hN : X.N[i]? = some x) (hv : Vis X.env.scope x) (h : DE X e f)
    (hbase : attributeBase (.Name x npos) "extend" X.env (eval (.Name x npos) X.env) = eval (.Name x npos) X.env := by rfl)
    (hfew : ((backTo cpos (starEach [e] X.env)).all (fun x => !x.1) && (backToKw cpos (keywordEach [] X.env)).all (fun x => x.1.isSome) && decide ([e].length + ([] : List Keyword).length + (if ([] : List Keyword).isEmpty then 0 else 1) < 30)) = true := by rfl)
    (hline : (apos.endLine == cpos.line) = true := by rfl) (hs : starEach [e] X.env = (false, eval e X.env) :: starEach [] X.env := by rfl) (hplain : (backTo cpos (starEach [] X.env)).any (·.1) = false := by rfl)
    (hd : (x == ("__debug__" : Str)) = false := by decide) (hcd : (x == ("__classdict__" : Str)) = false := by decide) : DS X (.Expr (.Call (.Attribute (.Name x npos) "extend" apos) [e] [] cpos) epos) (gExt i f) :=
  ps_conseq (ps_expr (pe_bm PySem.F.plainAttrs_list PySem.F.slot_list_extend PySem.F.type_list_extend mt_extS (pe_var hN hv hd hcd) (pa_cons h pa_nil hs) hbase hfew hline hs hplain)) fun Dn σ H h => by
    obtain ⟨Se, S, δ, o, rfl, xe, r, hf, q⟩ := h
    obtain ⟨d, hx, hf⟩ := Option.bind_eq_some_iff.mp hf
    split at hf
    · rename_i ds es hds
      split at hf
      · rename_i hz
        cases hf
        obtain ⟨v, h1, a, vs, rfl, h3, h4, h5, h6⟩ := r.at_ i _ hds
        refine ⟨.ref a, h1, .inl ⟨rfl, vs, .inl (.inl h3)⟩, Se.H, S, δ, .list es, rfl, r, hx, fun w S1 x1 r1 => ?_⟩
        have h3' : S1.H a = some (.lst vs) := x1.h _ _ h3
        have h4' : S1.Z a = none := x1.c a h4 (by rw [h3]; simp)
        cases r1 with
        | lst s1 b1 =>
          rename_i ws
          refine ⟨a, _, vs, ws, rfl, rfl, h3', S1.ok.seq s1, by rw [h6.length, b1.length]; exact Nat.le_trans hz lim_line, ?_⟩
          obtain ⟨x3, r3⟩ := own_write (vs := vs) (vs' := vs ++ ws) (xe.trans x1) (r.mono x1) hds h1 h4' h5 ((RvL.mono x1.z ds h6).append b1)
          exact q σ _ x3 r3
      · cases hf
    · cases hf
/-! ### a list of the def's own out of a call -/
/-- what gives a new list (of the caller's own), its items frozen -/
def tDO2 (K : PySem.W.Frag) (f : List Sl → Option (List D)) : TE := fun σ H Q => ∃ (E : Hp) (S : Stt) (δ : List Sl) (ys : List D), S.H = H ∧ R K E S σ δ ∧ f δ = some ys ∧ ∀ p ws S', Ex S S' → S.H p = none → S'.Z p = none → S'.H p = some (.lst ws) → RvL K S'.Z ys ws → Q (.ref p) S'.H
def gNew (i : Nat) (f : List Sl → Option (List D)) : GS := fun δ => (f δ).map fun ys => .nx (δ.set i (.own ys))
theorem new_run {K : PySem.W.Frag} {i : Nat} {f : List Sl → Option (List D)} {Dn : Ends} {σ : L2.St} {H : Hp} (h : tG K (gNew i f) Dn σ H) : tAsg (tDO2 K f) (gName i) Dn σ H := by
  obtain ⟨Se, S, δ, o, rfl, xe, r, hf, q⟩ := h
  obtain ⟨ys, hx, rfl⟩ := Option.map_eq_some_iff.mp hf
  refine ⟨Se.H, S, δ, ys, rfl, r, hx, fun p ws S1 x1 h0 h1 h2 h3 => ?_⟩
  refine q _ S1 (xe.trans x1) ((r.mono x1).set ⟨p, ws, rfl, h2, h1, xe.h.free h0, h3⟩ ?_)
  intro es' j a' fs e1 e2 e3 e4
  cases e2
  obtain ⟨w, hw, a2, vs2, f1, f2, _⟩ := r.at_ j _ e3
  rw [e4] at hw
  cases hw
  cases f1
  rw [h0] at f2
  cases f2
theorem ds_new {i : Nat} {x : Str} {pos' : Pos} {g : List Sl → Option (List D)} (hN : X.N.Nodup) (hi : X.N[i]? = some x) (hx : Loc X.env.scope x) (h : PE X e (tDO2 X.K g))
    (hf : X.fn x = true ∨ X.env.scope.names.lookup x = some .local := by first | exact .inl rfl | exact .inr rfl | assumption) (hs : swapsWith e (some (.Name x pos')) pos.line X.env = pure false := by rfl) : DS X (.Assign [.Name x pos'] e pos) (gNew i g) :=
  ps_conseq (ps_set (i := i) hN hi hx h hs hf) fun Dn σ H h => new_run h
/-- list(e) -/
def nList (f : FE) : List Sl → Option (List D) := fun δ => (f δ).bind fun d => match d with
  | .list ds => some ds
  | .tuple ds => some ds
  | _ => none
theorem do_list {p : Pos} (hg : Gl X "list") (hm : X.mg "list" = none) (ha : DE X e f) (he : starEach [e] X.env = (false, eval e X.env) :: starEach [] X.env := by rfl) (hpl : (backTo pos (starEach [] X.env)).any (·.1) = false := by rfl) : PE X (.Call (.Name "list" p) [e] [] pos) (tDO2 X.K (nList f)) :=
  pe_conseq (pe_callTy call_list_of hg hm (by decide +kernel) (pa_cons ha pa_nil he) (he := he) (hpl := hpl)) fun σ H Q h => by
    obtain ⟨E, S, δ, ys, rfl, r, hf, q⟩ := h
    obtain ⟨d, hx, hf⟩ := Option.bind_eq_some_iff.mp hf
    refine ⟨E, S, δ, d, rfl, r, hx, fun v S1 x1 r1 => ?_⟩
    cases d with
    | list ds =>
      cases hf
      cases r1 with
      | lst a1 b1 =>
        refine ⟨_, _, rfl, .inl (S1.ok.seq a1), fun l hl => ?_⟩
        have zl : S1.Z l = none := S1.ok.free hl
        exact q l _ (S1.put l (.lst _) zl) (x1.trans ⟨Same.refl _, same_upd hl _, fun _ h _ => h⟩) (x1.h.free hl) zl upd_same b1
    | tuple ds =>
      cases hf
      cases r1 with
      | tup a1 b1 =>
        refine ⟨_, _, rfl, .inr (sqt_mono S1.ok a1), fun l hl => ?_⟩
        have zl : S1.Z l = none := S1.ok.free hl
        exact q l _ (S1.put l (.lst _) zl) (x1.trans ⟨Same.refl _, same_upd hl _, fun _ h _ => h⟩) (x1.h.free hl) zl upd_same b1
    | _ => cases hf
/-- a def that gives a new list of plain items -/
def spFr (K : PySem.W.Frag) (F : List D → Option (List D)) : Sp := fun vs H Q _ => ∃ (S : Stt) (ds ys : List D), S.H = H ∧ RvL K S.Z ds vs ∧ F ds = some ys ∧ ∀ p ws S', Ex S S' → S.H p = none → S'.Z p = none → S'.H p = some (.lst ws) → RvL K S'.Z ys ws → Q (.ref p) S'.H
def allInts : List D → Bool
  | [] => true
  | .int _ :: r => allInts r
  | _ => false
theorem ints_rv {K : PySem.W.Frag} {H H' : Hp} : ∀ {ds : List D} {vs : List V}, allInts ds = true → RvL K H ds vs → RvL K H' ds vs
  | [], _, _, h => by cases h; exact .nil
  | d :: r, _, hd, h => by
    cases h with
    | cons a b =>
      cases d with
      | int i => cases a; exact .cons (.int i) (ints_rv hd b)
      | _ => cases hd
def nCall (F : List D → Option (List D)) (g : FA) : List Sl → Option (List D) := fun δ => (g (borrow δ)).bind fun ds => (F ds).bind fun ys => if allInts ys then some ys else none
theorem do_call {x : Str} {fa : Addr} {fd : FuncData} {ps : List Str} {k j : Nat} {es : List Expr} {p : Pos} {F : List D → Option (List D)} {g : FA} (G : FnOk X.prog X.w X.K X.mg X.base CX0 k fa fd ps (spFr X.K F)) (hr : Room j X.A) (hkj : k ≤ j) (hg : Gl X x) (hm : X.mg x = some (.ref fa)) (hk : PySem.W.keepIn X.K (.ref fa) = true) (hb : Binds X.K fd ps [])
    (ha : DA X (e :: es) g) (hdb : (x == ("__debug__" : Str)) = false := by decide) (he : starEach (e :: es) X.env = (false, eval e X.env) :: starEach es X.env := by rfl) (hpl : (backTo pos (starEach es X.env)).any (·.1) = false := by rfl) : PE X (.Call (.Name x p) (e :: es) [] pos) (tDO2 X.K (nCall F g)) :=
  pe_conseq (pe_call G (hr.mono hkj) hg hm hk hb .nil pass0 ha hdb he hpl) fun σ H Q h => by
    obtain ⟨E, S, δ, ys, rfl, r, hf, q⟩ := h
    obtain ⟨ds, hx, hf⟩ := Option.bind_eq_some_iff.mp hf
    obtain ⟨ys', hy, hf⟩ := Option.bind_eq_some_iff.mp hf
    split at hf
    · rename_i hi
      cases hf
      refine ⟨E, ⟨borZ S σ δ, S.H, borZ_ok⟩, borrow δ, ds, rfl, r.borrow, hx, fun vs S1 x1 r1 => ⟨S1, ds, ys, rfl, by rw [List.append_nil]; exact r1, hy, fun p ws S2 x2 h0 h1 h2 h3 => ?_⟩⟩
      obtain ⟨S3, x3, e3, e4⟩ := unborrow (x1.trans x2)
      have hp : S.H p = none := x1.h.free h0
      have := q p ws S3 x3 hp (by rw [e4]; exact S.ok.free hp) (by rw [e3]; exact h2) (ints_rv hi h3)
      rw [e3] at this
      exact this
    · cases hf
/-! ### list(range(..)) -/
def eLr1 (f : FE) : FE := fun δ => (f δ).bind fun d => match d with
  | .int n => if 0 ≤ n ∧ n ≤ 16777216 then some (.list (rangeD 0 n.toNat)) else none
  | _ => none
def eLr2 (f g : FE) : FE := fun δ => (f δ).bind fun d => (g δ).bind fun d' => match d, d' with
  | .int i, .int n => if 0 ≤ i ∧ i ≤ 16777216 ∧ 0 ≤ n ∧ n ≤ 16777216 then some (.list (rangeD i (n - i).toNat)) else none
  | _, _ => none
theorem rv_range {K : PySem.W.Frag} {H : Hp} (lo : Int) (n : Nat) : RvL K H (rangeD lo n) ((List.range n).map fun i => V.int (lo + (i : Nat))) := by
  unfold rangeD
  induction List.range n with
  | nil => exact .nil
  | cons a r ih => exact .cons (.int _) ih
theorem de_lr1 {p p2 pos2 : Pos} (hc : X.calm = true) (hg : Gl X "list") (hm : X.mg "list" = none) (hg2 : Gl X "range") (hm2 : X.mg "range" = none) (ha : DE X e f)
    (na : starEach [e] X.env = (false, eval e X.env) :: starEach [] X.env := by rfl) (na2 : starEach [.Call (.Name "range" p2) [e] [] pos2] X.env = (false, eval (.Call (.Name "range" p2) [e] [] pos2) X.env) :: starEach [] X.env := by rfl) : DE X (.Call (.Name "list" p) [.Call (.Name "range" p2) [e] [] pos2] [] pos) (eLr1 f) :=
  pe_conseq (pe_listRg hc hg hm (prg_1 hg2 hm2 ha na) na2) fun σ H Q h => by
    obtain ⟨E, S, δ, d, rfl, r, hf, q⟩ := h
    obtain ⟨x, hx, hf⟩ := Option.bind_eq_some_iff.mp hf
    refine ⟨E, S, δ, x, rfl, r, hx, fun v S1 x1 r1 => ?_⟩
    cases x with
    | int n =>
      cases r1
      have hf : (if 0 ≤ n ∧ n ≤ 16777216 then some (PyData.list (rangeD 0 n.toNat)) else none) = some d := hf
      split at hf
      · rename_i hz
        cases hf
        refine ⟨n, rfl, .of_le (by omega) (by omega) (by omega) (by omega), fun l hl => ?_⟩
        refine q _ (S1.lay l (.lst _)) (x1.trans (S1.lay_ex hl)) (lay_lst hl ?_)
        have := rv_range (K := X.K) (H := S1.Z) 0 n.toNat
        unfold rgV
        rw [show (n - 0).toNat = n.toNat by omega]
        exact this
      · cases hf
    | _ => cases hf
theorem de_lr2 {p p2 pos2 : Pos} (hc : X.calm = true) (hg : Gl X "list") (hm : X.mg "list" = none) (hg2 : Gl X "range") (hm2 : X.mg "range" = none) (ha : DE X a fa) (hb : DE X b fb)
    (na : starEach [a, b] X.env = (false, eval a X.env) :: starEach [b] X.env := by rfl) (nb : starEach [b] X.env = (false, eval b X.env) :: starEach [] X.env := by rfl) (hp : (backTo pos2 (starEach [b] X.env)).any (·.1) = false := by rfl) (na2 : starEach [.Call (.Name "range" p2) [a, b] [] pos2] X.env = (false, eval (.Call (.Name "range" p2) [a, b] [] pos2) X.env) :: starEach [] X.env := by rfl) : DE X (.Call (.Name "list" p) [.Call (.Name "range" p2) [a, b] [] pos2] [] pos) (eLr2 fa fb) :=
  pe_conseq (pe_listRg hc hg hm (prg_2 hg2 hm2 ha hb na nb hp) na2) fun σ H Q h => by
    obtain ⟨E, S, δ, d, rfl, r, hf, q⟩ := h
    obtain ⟨x, hx, hf⟩ := Option.bind_eq_some_iff.mp hf
    obtain ⟨y, hy, hf⟩ := Option.bind_eq_some_iff.mp hf
    refine ⟨E, S, δ, x, rfl, r, hx, fun v S1 x1 r1 => ⟨E, S1, δ, y, rfl, r.mono x1, hy, fun u S2 x2 r2 => ?_⟩⟩
    cases x with
    | int i =>
      cases y with
      | int n =>
        cases r1
        cases r2
        have hf : (if 0 ≤ i ∧ i ≤ 16777216 ∧ 0 ≤ n ∧ n ≤ 16777216 then some (PyData.list (rangeD i (n - i).toNat)) else none) = some d := hf
        split at hf
        · rename_i hz
          cases hf
          refine ⟨i, n, rfl, rfl, .of_le (by omega) (by omega) (by omega) (by omega), fun l hl => ?_⟩
          exact q _ (S2.lay l (.lst _)) ((x1.trans x2).trans (S2.lay_ex hl)) (lay_lst hl (rv_range i (n - i).toNat))
        · cases hf
      | _ => cases hf
    | _ => cases hf
/-- a comprehension that gives a new list of the caller's own -/
def nLc (fi : FI) (i : Nat) (ft fe : FE) : List Sl → Option (List D) := fun δ => (fi δ).bind fun ds => (lcD i (δ.set i .un) ft fe ds).bind fun ys => if ys.length ≤ lim then some ys else none
theorem do_lc {elt tg iter : Expr} {ifs : List Expr} {scope : Scope} {x : Str} {i : Nat} {fi : FI} {ft fe : FE} (hc : X.calm = true) (hN : X.N.Nodup) (hi : WI X tg iter fi) (ok : BlkOk X.N X.env.scope scope [(x, i)])
    (hg : ∀ (s : Shared) (H : Hp) (C : Addr) (cl : List (Str × Addr)) (fp : List Addr), PG (X.blk s H scope (compEnvC scope cl C X.env) fp) tg (gName i)) (ht : ∀ (s : Shared) (H : Hp) (C : Addr) (cl : List (Str × Addr)) (fp : List Addr), PTs (X.blk s H scope (compEnvC scope cl C X.env) fp) ifs (tDT X.K ft))
    (he : ∀ (s : Shared) (H : Hp) (C : Addr) (cl : List (Str × Addr)) (fp : List Addr), PE (X.blk s H scope (compEnvC scope cl C X.env) fp) elt (tD X.K fe)) (hs : ∀ x, foldedSetIterable iter X.env x = pure x := by intro _; rfl) :
    PE X (.ListComp elt [⟨tg, iter, ifs, 0⟩] scope pos) (tDO2 X.K (nLc fi i ft fe)) :=
  pe_conseq (pe_lc (own := [(x, i)]) hc hN hi ok hg ht he hs) fun σ H Q h => by
    obtain ⟨E, S, δ, ys, rfl, r, hf, q⟩ := h
    obtain ⟨ds, hx, hf⟩ := Option.bind_eq_some_iff.mp hf
    obtain ⟨ys', hy, hf⟩ := Option.bind_eq_some_iff.mp hf
    split at hf
    · rename_i hz
      cases hf
      exact lc_runO r hx hy hz q
    · cases hf
end
def Fxr (P : Program) (w : World) (K : PySem.W.Frag) (mg : Str → Option Value) (base : Heap) (x : Str) (ps : List Str) (lv : Nat) (F : List D → Option (List D)) : Prop :=
  ∃ (fa : Addr) (fd : FuncData), FnOk P w K mg base CX0 lv fa fd ps (spFr K F) ∧ mg x = some (.ref fa) ∧ PySem.W.keepIn K (.ref fa) = true ∧ Binds K fd ps []
def runR (n np : Nat) (f : List Sl → Option (List D)) : List D → Option (List D) := fun ds => if ds.length = np then f (startD n ds) else none
theorem fxr_of {P : Program} {w : World} {K : PySem.W.Frag} {mg : Str → Option Value} {base : Heap} {x : Str} {st : Stmt} {N ps : List Str} {k n np : Nat} {f : List Sl → Option (List D)} (d : Df K mg x st ps) (Sc : FnScope N ps (defScope st)) (hn : N.length = n) (hp : ps.length = np)
    (hbody : ∀ (fa : Addr) (cdv : Value) (A : Around) (outer : List Env) (s : Shared) (H : Hp) (E : XK), Room k (A.deeper (envOfC x (defScope st) s.heap.objs.size fa cdv)) → PSs (cxOf CX0 P w K mg base N x (defScope st) fa cdv A outer s H E).nox (defBody st) (tRet (tDO2 K f))) :
    Fxr P w K mg base x ps (k + 1) (runR n np f) := by
  subst hn hp
  obtain ⟨fa, fd, F, hm, hb⟩ := d
  refine ⟨fa, fd, F.ok Sc (fun vs H Q E h => ?_) (fun cdv A outer s H vs Q E hr h => ?_), hm, F.kp, hb⟩
  · obtain ⟨S, ds, ys, rfl, rl, hf, q⟩ := h
    unfold runR at hf
    split at hf
    · rename_i hz
      rw [rl.length, hz]
    · cases hf
  · refine ⟨_, hbody fa cdv A outer s H E hr, ?_⟩
    obtain ⟨S, ds, ys, rfl, rl, hf, q⟩ := h
    unfold runR at hf
    split at hf
    · exact ⟨S.H, S, _, ys, rfl, start_rv rl, hf, q⟩
    · cases hf
section
variable {X : Cx} {e : Expr} {pos : Pos}
theorem do_callx {x : Str} {ps : List Str} {k j : Nat} {es : List Expr} {p : Pos} {F : List D → Option (List D)} {g : FA} (c : Fxr X.prog X.w X.K X.mg X.base x ps k F) (hr : Room j X.A) (hk : k ≤ j) (hg : Gl X x)
    (ha : DA X (e :: es) g) (hdb : (x == ("__debug__" : Str)) = false := by decide) (he : starEach (e :: es) X.env = (false, eval e X.env) :: starEach es X.env := by rfl) (hpl : (backTo pos (starEach es X.env)).any (·.1) = false := by rfl) : PE X (.Call (.Name x p) (e :: es) [] pos) (tDO2 X.K (nCall F g)) :=
  let ⟨_, _, G, hm, kp, hb⟩ := c
  do_call G hr hk hg hm kp hb ha hdb he hpl
end
end Pd

set_option Elab.async false
set_option linter.all false
set_option maxRecDepth 100000
set_option maxHeartbeats 4000000
/-! t[::-1] of a tuple; upper, count of data. -/
namespace Pd
open PySem PySem.Spec PyProof.Rows L2 HT PySem.W
section
variable {prog : Program} {w : World} {A : Around} {E : Value → Shared → Prop} {s : Shared}
theorem pick_all {α : Type} : ∀ m : List α, (List.range m.length).filterMap (fun k => m[k]?) = m
  | [] => rfl
  | a :: r => by
    rw [List.length_cons, List.range_succ_eq_map, List.filterMap_cons, List.filterMap_map]
    show a :: List.filterMap ((fun k => (a :: r)[k]?) ∘ Nat.succ) (List.range r.length) = a :: r
    congr 1
    exact pick_all r
theorem adjust_rev (n : Nat) : Builtin.Slice.sliceAdjust none none (-1) (n : Int) = ((n : Int) - 1, -1) := by
  unfold Builtin.Slice.sliceAdjust
  simp
theorem places_rev (n : Nat) : Builtin.Slice.slicePlaces ((n : Int) - 1) (-1) (-1) = n := by
  unfold Builtin.Slice.slicePlaces
  rw [if_neg (by decide)]
  split
  · simp
  · simp
    omega
theorem fm_congr {α β : Type} {f g : α → Option β} : ∀ {l : List α}, (∀ x ∈ l, f x = g x) → l.filterMap f = l.filterMap g
  | [], _ => rfl
  | a :: r, h => by
    rw [List.filterMap_cons, List.filterMap_cons, h a (List.mem_cons_self ..), fm_congr fun x hx => h x (List.mem_cons_of_mem _ hx)]
theorem pick_rev (l : List Value) : (List.range l.length).filterMap (fun (k : Nat) => l.toArray[((l.length : Int) - 1 + (k : Int) * (-1)).toNat]?) = l.reverse := by
  have h := pick_all l.reverse
  rw [List.length_reverse] at h
  rw [← h]
  apply fm_congr
  intro k hk
  have hk := List.mem_range.mp hk
  rw [List.getElem?_reverse hk, List.getElem?_toArray]
  congr 1
  omega
theorem getItem_tuple_rev {t sl : Addr} {items : Array Value} {Q : Value → Shared → Prop} {vl vu vs : Value} {one : Option Int} (ht : IsTup s.heap t items) (hs : s.heap.IsSliceOf sl vl vu vs) (pl : IsPart vl none) (pu : IsPart vu none) (ps : IsPart vs (some (-1)))
    (h : Q (.ref s.heap.objs.size) { s with heap := s.heap.push { cls := .type "tuple", data := .seq items.toList.reverse.toArray } }) (hsz : items.size ≤ sizeLine) : wpAny (model prog w) A (getItem (.ref t) (.ref sl)) Q E s := by
  obtain ⟨os, hos, hcs, hds⟩ := id hs
  have hTs : s.TypeIs (.ref sl) "slice" := ⟨os, hos, hcs⟩
  unfold getItem
  try with_reducible refine wpAny_holding ?_
  first | refine wpAny_bind (wpAny_pure ?_) | skip
  refine wpAny_bind (wpAny_sequenceKey ht.typeIs (by decide) ?_)
  refine wpAny_bind (wpAny_callSpecial?_slot (name := Str.ofString "__getitem__") ht.typeIs PyProof.Rows.slot_tuple_getitem
    (wpAny_call_entry PyProof.Rows.slot_tuple_getitem ht.typeIs entry_tuple_getitem ?_ (args_tuple_getitem _ _)))
  show wpAny _ _ (Builtin.Tuple.tupleItemsOf (.ref t) >>= _) _ _ s
  refine wpAny_bind (tupleItemsOf_ ht ?_)
  refine wpAny_bind (wpAny_typeOf hTs ?_)
  rw [if_pos (by decide)]
  refine wpAny_bind ?_
  unfold Builtin.Slice.sliceApplied Builtin.Slice.sliceFields
  refine wpAny_bind (wpAny_bind (wpAny_field hos hds (x := vl) rfl (wpAny_bind (wpAny_field hos hds (x := vu) rfl (wpAny_bind (wpAny_field hos hds (x := vs) rfl (wpAny_pure ?_)))))))
  refine wpAny_bind (slicePart_ ps ?_)
  show wpAny _ _ (if ((-1 : Int) == 0) = true then _ else _) _ _ s
  rw [if_neg (by decide)]
  refine wpAny_bind (slicePart_ pl (wpAny_bind (slicePart_ pu (wpAny_bind (wpAny_pure ?_)))))
  have htake : sizeOk (.seq items.toList.reverse.toArray) := by
    show items.toList.reverse.toArray.size ≤ sizeLine
    rw [List.size_toArray, List.length_reverse, Array.length_toList]
    exact hsz
  show wpAny _ _ (match Builtin.Slice.sliceAdjust none none (-1) (items.size : Int) with | (lo, hi) => pure (lo, (-1 : Int), Builtin.Slice.slicePlaces lo hi (-1))) _ _ s
  rw [adjust_rev]
  show wpAny _ _ (pure (((items.size : Int) - 1), (-1 : Int), Builtin.Slice.slicePlaces ((items.size : Int) - 1) (-1) (-1))) _ _ s
  rw [places_rev]
  refine wpAny_pure ?_
  have hno : ¬ ((((items.size : Int) - 1 == 0) && ((-1 : Int) == 1) && (items.size == items.size)) = true) := by
    intro q
    rw [Bool.and_eq_true, Bool.and_eq_true] at q
    exact absurd q.1.2 (by decide)
  have hpick : (List.filterMap (fun (k : Nat) => items[((items.size : Int) - 1 + (k : Int) * (-1)).toNat]?) (List.range items.size)) = items.toList.reverse := by
    have := pick_rev items.toList
    simpa using this
  show wpAny _ _ (if (((items.size : Int) - 1 == 0) && ((-1 : Int) == 1) && (items.size == items.size)) = true then _ else _) _ _ s
  rw [if_neg hno, hpick]
  first
    | exact wpAny_bind (m := Builtin.Tuple.tupleExact _) (wpAny_newObj_type (wpAny_pure ⟨_, rfl, wpAny_pure h⟩) htake)
    | exact wpAny_bind (m := Builtin.Tuple.tupleExact _) (wpAny_newObj_type (wpAny_bind (wpAny_pure (wpAny_pure ⟨_, rfl, wpAny_pure h⟩))) htake)
    | exact wpAny_bind (wpAny_bind (m := Builtin.Tuple.tupleExact _) (wpAny_newObj_type (wpAny_pure (wpAny_pure ⟨_, rfl, wpAny_pure h⟩)) htake))
    | exact wpAny_bind (wpAny_bind (m := Builtin.Tuple.tupleExact _) (wpAny_newObj_type (wpAny_pure ⟨_, rfl, wpAny_pure h⟩) htake))
end
section
variable {X : Cx} {a b c e : Expr} {fa fb fc f : FE} {pos : Pos}
def tRevT (K : PySem.W.Frag) (te : TE) : TE := fun σ H Q => te σ H fun x H1 => ∃ a xs, x = .ref a ∧ SqT K H1 a xs ∧ ∀ p, H1 p = none → Q (.ref p) (upd H1 p (.tup xs.reverse))
theorem pe_revT {e : Expr} {te : TE} {k : Nat} {p1 p2 p3 pos : Pos} (he : PE X e te) : PE X (.Subscript e (.Slice none none (some (.UnaryOp .USub (.Constant (.int 1) k p1) p2)) p3) pos) (tRevT X.K te) := by
  refine ⟨fun pins s σ H Q I h => ?_⟩
  refine Subscript_ (thn (he.run pins s σ H _ I h) fun v s1 ⟨x, H1, I1, r1, q1⟩ => ?_)
  obtain ⟨a, xs, ex, hx, q⟩ := q1
  subst ex
  cases r1
  have hst : PO X (some (.UnaryOp .USub (.Constant (.int 1) k p1) p2)) (tPart (tUn (rU fun i => .int (-i)) (tC (.int 1)))) := po_some (pe_un un_neg pe_int)
  refine wpAny_Slice (thn (po_none.run pins s1 σ H1 (fun o H2 => o = none ∧ H2 = H1) I1 ⟨rfl, rfl⟩) fun vl s2 ⟨l, H2, I2, pl, el, e2⟩ => ?_)
  subst el e2
  refine thn (po_none.run pins s2 σ H2 (fun o H3 => o = none ∧ H3 = H2) I2 ⟨rfl, rfl⟩) fun vu s3 ⟨u, H3, I3, pu, eu, e3⟩ => ?_
  subst eu e3
  refine thn (hst.run pins s3 σ H3 (fun o H4 => o = some (-1) ∧ H4 = H3) I3 ⟨1, rfl, -1, rfl, rfl, rfl⟩) fun vs s4 ⟨o, H4, I4, ps, eo, e4⟩ => ?_
  subst eo e4
  have I5 : Inv X pins σ H4 { s4 with heap := s4.heap.push { cls := .type "slice", data := .fields #[vl, vu, vs] } } := I4.kept (t' := s4.toks) fun b ob q => Heap.get?_push_of_some _ q
  obtain ⟨its, r, ht, hz⟩ := I5.tuple hx
  have hlen := r.length
  show wpAny (model X.prog X.w) X.A (subscriptTail e (.Slice none none (some (.UnaryOp .USub (.Constant (.int 1) k p1) p2)) p3) (.ref a) (.ref s4.heap.objs.size)) (EP X pins σ Q) X.xe { s4 with heap := s4.heap.push { cls := .type "slice", data := .fields #[vl, vu, vs] } }
  refine tail_any (ops := [.ref a, .ref s4.heap.objs.size]) ht.typeIs (PyProof.Rows.slot_tuple_getitem.lookup) ?_ (by with_unfolding_all rfl)
  refine getItem_tuple_rev (one := none) ht (Heap.IsSliceOf.new _ vl vu vs) pl pu ps ?_ (by rw [List.size_toArray]; omega)
  have er : its.toArray.toList.reverse.toArray = its.reverse.toArray := by simp
  rw [er]
  refine ⟨.ref _, _, I5.laid (t' := s4.toks) (o := .tup xs.reverse) (fun b ob q => Heap.get?_push_of_some _ q) (Nat.le_refl _) ?_, rfl, q _ (I5.hok.fresh (Nat.le_refl _))⟩
  exact ⟨by rw [List.length_reverse]; exact hz, _, r.reverse, ⟨_, Heap.get?_push_size _ rfl, rfl, 0, rfl⟩⟩
def revT : D → Option D
  | .tuple ds => some (.tuple ds.reverse)
  | _ => none
def revL : D → Option D
  | .list ds => some (.list ds.reverse)
  | _ => none
theorem de_revT {k : Nat} {p1 p2 p3 : Pos} (he : DE X e f) : DE X (.Subscript e (.Slice none none (some (.UnaryOp .USub (.Constant (.int 1) k p1) p2)) p3) pos) (e1 revT f) :=
  pe_conseq (pe_revT he) fun σ H Q h => by
    obtain ⟨E, S, δ, d, rfl, r, hf, q⟩ := h
    obtain ⟨x, hx, hf⟩ := Option.bind_eq_some_iff.mp hf
    refine ⟨E, S, δ, x, rfl, r, hx, fun v S1 x1 r1 => ?_⟩
    cases x with
    | tuple ds =>
      cases hf
      cases r1 with
      | tup a1 b1 => exact ⟨_, _, rfl, sqt_mono S1.ok a1, fun p hp => q _ (S1.lay p (.tup _)) (x1.trans (S1.lay_ex hp)) (lay_tup hp b1.reverse)⟩
    | _ => cases hf
theorem de_revL {k : Nat} {p1 p2 p3 : Pos} (he : DE X e f) : DE X (.Subscript e (.Slice none none (some (.UnaryOp .USub (.Constant (.int 1) k p1) p2)) p3) pos) (e1 revL f) :=
  pe_conseq (pe_revL he) fun σ H Q h => by
    obtain ⟨E, S, δ, d, rfl, r, hf, q⟩ := h
    obtain ⟨x, hx, hf⟩ := Option.bind_eq_some_iff.mp hf
    refine ⟨E, S, δ, x, rfl, r, hx, fun v S1 x1 r1 => ?_⟩
    cases x with
    | list ds =>
      cases hf
      cases r1 with
      | lst a1 b1 => exact ⟨_, _, rfl, S1.ok.seq a1, fun p hp => q _ (S1.lay p (.lst _)) (x1.trans (S1.lay_ex hp)) (lay_lst hp b1.reverse)⟩
    | _ => cases hf
/-- s.upper() -/
def upperD : D → Option D
  | .str x => if x.length ≤ 5592405 then some (.str (Txt.upper x)) else none
  | _ => none
theorem de_upper {apos : Pos} (he : DE X e f) (hbase : attributeBase e "upper" X.env (eval e X.env) = eval e X.env := by rfl) (hline : (apos.endLine == pos.line) = true := by rfl) : DE X (.Call (.Attribute e "upper" apos) [] [] pos) (e1 upperD f) :=
  pe_conseq (pe_upper he (hbase := hbase) (hline := hline)) fun σ H Q h => by
    obtain ⟨E, S, δ, d, rfl, r, hf, q⟩ := h
    obtain ⟨x, hx, hf⟩ := Option.bind_eq_some_iff.mp hf
    refine ⟨E, S, δ, x, rfl, r, hx, fun v S1 x1 r1 => ?_⟩
    cases x with
    | str z =>
      cases r1
      simp only [upperD] at hf
      split at hf
      · rename_i hz
        cases hf
        exact ⟨⟨z, rfl⟩, z, rfl, rfl, hz, q _ S1 x1 (.str _)⟩
      · cases hf
    | _ => cases hf
/-- xs.count(x) -/
def countD : D → D → Option D
  | .list ds, x => if fitD x && fitD (.list ds) then some (.int (ds.countP fun z => PyData.eqv z x : Nat)) else none
  | _, _ => none
def rCntD (K : PySem.W.Frag) : V → List V → Hp → VK → Prop := fun x xs H Q => ∃ p ds y d, x = .ref p ∧ xs = [y] ∧ Dp K H (.ref p) (.list ds) ∧ Dp K H y d ∧ SeqAt.shaped (.list ds) = true ∧ SeqAt.shaped d = true ∧ Q (.int (ds.countP fun z => PyData.eqv z d : Nat)) H
theorem countP_readOf {h : Heap} {d : PyData} : ∀ {its : List Value} {ds : List PyData}, its.map (SeqAt.readOf h) = ds → its.countP (fun u => PyData.eqv (SeqAt.readOf h u) d) = ds.countP fun z => PyData.eqv z d := fun {its ds} e => by
  rw [← e, List.countP_map]
  rfl
theorem mt_countD (hu : X.A.units + 65 < cLine) : MtR X "list.count" (rCntD X.K) := by
  intro pins s σ H x xs v us Q I rx rxs h
  obtain ⟨a, ds, y, d, rfl, rfl, hl, hy, sl, sd, q⟩ := h
  cases rx
  cases rxs with
  | cons ry rt =>
    rename_i uy ut
    cases rt
    obtain ⟨bs, r1⟩ := Dp.reads I d y uy hy ry
    have hxs : PyData.canLayAll0 ds = true := SeqAt.canLay_of_shaped sl
    have hroom : X.A.units + 1 + min (PyData.depthAll ds) d.depth < cLine := room_in_shaped sd hu
    cases hl with
    | lst hs ha =>
      obtain ⟨its, rv, ⟨⟨cls, dd, data, sls⟩, n, ho, hc, hdn, hdt⟩, hlen⟩ := I.list hs
      simp only at hc hdt
      subst hc hdt
      obtain ⟨as, h4⟩ := Dp.readsAll I ds _ its ha rv
      have hmap : its.map (SeqAt.readOf s.heap) = ds := SeqAt.readsAll_map ds its as hxs h4
      refine call_meets PySem.F.slot_list_count ⟨_, ho, rfl⟩ PySem.F.entry_list_count (PySem.F.args_list_count_2 _ _)
        (SeqAt.list_countAt a its.toArray n dd sls uy (fun u => PyData.eqv (SeqAt.readOf s.heap u) d)) ⟨ho, SeqAt.items_eqAt (vs := its.toArray) (show ReadsAll s.heap its.toArray.toList ds as from h4) r1 hxs (SeqAt.canLay_of_shaped sd) hroom, ?_⟩
      refine ⟨.int ((ds.countP fun z => PyData.eqv z d : Nat) : Int), H, I.tok _, ⟨s.toks, ?_⟩, q⟩
      show Value.int ((its.toArray.toList.countP _ : Nat) : Int) s.toks = Value.int _ s.toks
      rw [show its.toArray.toList = its by simp, countP_readOf hmap]
theorem de_count {apos : Pos} (hu : X.A.units + 65 < cLine) (ha : DE X a fa) (hb : DE X b fb)
    (hbase : attributeBase a "count" X.env (eval a X.env) = eval a X.env := by rfl)
    (hfew : ((backTo pos (starEach [b] X.env)).all (fun x => !x.1) && (backToKw pos (keywordEach [] X.env)).all (fun x => x.1.isSome) && decide ([b].length + ([] : List Keyword).length + (if ([] : List Keyword).isEmpty then 0 else 1) < 30)) = true := by rfl)
    (hline : (apos.endLine == pos.line) = true := by rfl) (hs : starEach [b] X.env = (false, eval b X.env) :: starEach [] X.env := by rfl) (hplain : (backTo pos (starEach [] X.env)).any (·.1) = false := by rfl) : DE X (.Call (.Attribute a "count" apos) [b] [] pos) (e2 countD fa fb) :=
  pe_conseq (pe_bm PySem.F.plainAttrs_list PySem.F.slot_list_count PySem.F.type_list_count (mt_countD hu) ha (pa_cons hb pa_nil hs) hbase hfew hline hs hplain) fun σ H Q h => by
    obtain ⟨E, S, δ, d, rfl, r, hf, q⟩ := h
    obtain ⟨x, hx, hf⟩ := Option.bind_eq_some_iff.mp hf
    obtain ⟨y, hy, hf⟩ := Option.bind_eq_some_iff.mp hf
    refine ⟨E, S, δ, x, rfl, r, hx, fun v S1 x1 r1 => ?_⟩
    cases x with
    | list ds =>
      cases r1 with
      | lst a1 b1 =>
        refine ⟨.inl ⟨rfl, _, S1.ok.seq a1⟩, E, S1, δ, y, rfl, r.mono x1, hy, fun u S2 x2 r2 => ?_⟩
        simp only [countD] at hf
        split at hf
        · rename_i hz
          cases hf
          simp only [fitD, Bool.and_eq_true] at hz
          refine ⟨_, ds, u, y, rfl, rfl, ?_, (Rv.mono S2.ok y r2).dp y hz.1.1, hz.2.2, hz.1.2, q _ S2 (x1.trans x2) (.int _)⟩
          exact (Rv.mono S2.ok (.list ds) (Rv.mono x2.z (.list ds) (.lst a1 b1))).dp _ hz.2.1
        · cases hf
    | _ => cases hf
end
end Pd

set_option Elab.async false
set_option linter.all false
set_option maxRecDepth 100000
set_option maxHeartbeats 4000000
/-! Equations by which simp runs a semantic function, a step at a time (what comes behind stays a name). -/
namespace Pd
open PySem PySem.Spec L2
@[simp] theorem lim_eq : lim = 16777216 := by decide
def slK : Option Sl → Option D
  | some (.val d) => some d
  | _ => none
@[simp] theorem slK_val (d : D) : slK (some (.val d)) = some d := rfl
@[simp] theorem eVar_eq (i : Nat) (δ : List Sl) : eVar i δ = slK δ[i]? := by unfold eVar slK; rfl
@[simp] theorem eC_eq (d : D) (δ : List Sl) : eC d δ = some d := rfl
@[simp] theorem e1_eq (g : D → Option D) (fa : FE) (δ : List Sl) : e1 g fa δ = (fa δ).bind g := rfl
def e2k (g : D → D → Option D) (fb : FE) (δ : List Sl) : D → Option D := fun x => (fb δ).bind (g x)
@[simp] theorem e2_eq (g : D → D → Option D) (fa fb : FE) (δ : List Sl) : e2 g fa fb δ = (fa δ).bind (e2k g fb δ) := rfl
@[simp] theorem e2k_eq (g : D → D → Option D) (fb : FE) (δ : List Sl) (x : D) : e2k g fb δ x = (fb δ).bind (g x) := rfl
def chK (g g' : D → D → Option D) (fb fc : FE) (δ : List Sl) (x : D) : Option D := (fb δ).bind fun y => (g x y).bind fun z => match z with
  | .bool true => (fc δ).bind (g' y)
  | .bool false => some (.bool false)
  | _ => none
def chK2 (g g' : D → D → Option D) (fc : FE) (δ : List Sl) (x y : D) : Option D := (g x y).bind fun z => match z with
  | .bool true => (fc δ).bind (g' y)
  | .bool false => some (.bool false)
  | _ => none
def chK3 (g' : D → D → Option D) (fc : FE) (δ : List Sl) (y : D) : D → Option D
  | .bool true => (fc δ).bind (g' y)
  | .bool false => some (.bool false)
  | _ => none
@[simp] theorem eChain_eq (g g' : D → D → Option D) (fa fb fc : FE) (δ : List Sl) : eChain g g' fa fb fc δ = (fa δ).bind (chK g g' fb fc δ) := by unfold eChain chK; rfl
@[simp] theorem chK_eq (g g' : D → D → Option D) (fb fc : FE) (δ : List Sl) (x : D) : chK g g' fb fc δ x = (fb δ).bind (chK2 g g' fc δ x) := by unfold chK chK2; rfl
@[simp] theorem chK2_eq (g g' : D → D → Option D) (fc : FE) (δ : List Sl) (x y : D) : chK2 g g' fc δ x y = (g x y).bind (chK3 g' fc δ y) := by unfold chK2 chK3; rfl
@[simp] theorem chK3_eq (g' : D → D → Option D) (fc : FE) (δ : List Sl) (y : D) (b : Bool) : chK3 g' fc δ y (.bool b) = if b then (fc δ).bind (g' y) else some (.bool false) := by cases b <;> rfl
def andK (fb : FE) (δ : List Sl) : D → Option D
  | .bool true => fb δ
  | .bool false => some (.bool false)
  | _ => none
def orK (fb : FE) (δ : List Sl) : D → Option D
  | .bool true => some (.bool true)
  | .bool false => fb δ
  | _ => none
def notK : D → Option D
  | .bool k => some (.bool (!k))
  | _ => none
def ifEK (fa fb : FE) (δ : List Sl) : D → Option D
  | .bool true => fa δ
  | .bool false => fb δ
  | _ => none
@[simp] theorem eAnd_eq (fa fb : FE) (δ : List Sl) : eAnd fa fb δ = (fa δ).bind (andK fb δ) := by unfold eAnd andK; rfl
@[simp] theorem eOr_eq (fa fb : FE) (δ : List Sl) : eOr fa fb δ = (fa δ).bind (orK fb δ) := by unfold eOr orK; rfl
@[simp] theorem eNot_eq (fa : FE) (δ : List Sl) : eNot fa δ = (fa δ).bind notK := by unfold eNot notK; rfl
@[simp] theorem eIf_eq (ft fa fb : FE) (δ : List Sl) : eIf ft fa fb δ = (ft δ).bind (ifEK fa fb δ) := by unfold eIf ifEK; rfl
@[simp] theorem andK_eq (fb : FE) (δ : List Sl) (b : Bool) : andK fb δ (.bool b) = if b then fb δ else some (.bool false) := by cases b <;> rfl
@[simp] theorem orK_eq (fb : FE) (δ : List Sl) (b : Bool) : orK fb δ (.bool b) = if b then some (.bool true) else fb δ := by cases b <;> rfl
@[simp] theorem notK_eq (b : Bool) : notK (.bool b) = some (.bool (!b)) := rfl
@[simp] theorem ifEK_eq (fa fb : FE) (δ : List Sl) (b : Bool) : ifEK fa fb δ (.bool b) = if b then fa δ else fb δ := by cases b <;> rfl
@[simp] theorem aNil_eq (δ : List Sl) : aNil δ = some [] := rfl
def consK (d : D) : List D → Option (List D) := fun ds => some (d :: ds)
@[simp] theorem consK_eq (d : D) (ds : List D) : consK d ds = some (d :: ds) := rfl
def aK (g : FA) (δ : List Sl) : D → Option (List D) := fun d => (g δ).bind (consK d)
@[simp] theorem aCons_eq (f : FE) (g : FA) (δ : List Sl) : aCons f g δ = (f δ).bind (aK g δ) := by
  unfold aCons aK consK
  rfl
@[simp] theorem aK_eq (g : FA) (δ : List Sl) (d : D) : aK g δ d = (g δ).bind (consK d) := rfl
@[simp] theorem bind_ite {α β : Type} {c : Prop} [Decidable c] (a b : Option α) (k : α → Option β) : (if c then a else b).bind k = if c then a.bind k else b.bind k := by split <;> rfl
def tupK (ds : List D) : Option D := if ds.length ≤ lim then some (.tuple ds) else none
def lstK (ds : List D) : Option D := if ds.length ≤ lim then some (.list ds) else none
@[simp] theorem eTup_eq (g : FA) (δ : List Sl) : eTup g δ = (g δ).bind tupK := rfl
@[simp] theorem eLst_eq (g : FA) (δ : List Sl) : eLst g δ = (g δ).bind lstK := rfl
@[simp] theorem tupK_eq (ds : List D) (h : ds.length ≤ lim) : tupK ds = some (.tuple ds) := if_pos h
@[simp] theorem lstK_eq (ds : List D) (h : ds.length ≤ lim) : lstK ds = some (.list ds) := if_pos h
@[simp] theorem tupK_nil : tupK [] = some (.tuple []) := rfl
@[simp] theorem tupK_1 (a : D) : tupK [a] = some (.tuple [a]) := rfl
@[simp] theorem tupK_2 (a b : D) : tupK [a, b] = some (.tuple [a, b]) := rfl
@[simp] theorem tupK_3 (a b c : D) : tupK [a, b, c] = some (.tuple [a, b, c]) := rfl
@[simp] theorem tupK_4 (a b c d : D) : tupK [a, b, c, d] = some (.tuple [a, b, c, d]) := rfl
@[simp] theorem tupK_6 (a b c d e f : D) : tupK [a, b, c, d, e, f] = some (.tuple [a, b, c, d, e, f]) := rfl
@[simp] theorem lstK_nil : lstK [] = some (.list []) := rfl
@[simp] theorem lstK_1 (a : D) : lstK [a] = some (.list [a]) := rfl
@[simp] theorem lstK_2 (a b : D) : lstK [a, b] = some (.list [a, b]) := rfl
@[simp] theorem lstK_3 (a b c : D) : lstK [a, b, c] = some (.list [a, b, c]) := rfl
@[simp] theorem lstK_4 (a b c d : D) : lstK [a, b, c, d] = some (.list [a, b, c, d]) := rfl
@[simp] theorem lstK_5 (x0 x1 x2 x3 x4 : D) : lstK [x0, x1, x2, x3, x4] = some (.list [x0, x1, x2, x3, x4]) := rfl
@[simp] theorem tupK_5 (x0 x1 x2 x3 x4 : D) : tupK [x0, x1, x2, x3, x4] = some (.tuple [x0, x1, x2, x3, x4]) := rfl
@[simp] theorem lstK_6 (x0 x1 x2 x3 x4 x5 : D) : lstK [x0, x1, x2, x3, x4, x5] = some (.list [x0, x1, x2, x3, x4, x5]) := rfl
@[simp] theorem lstK_7 (x0 x1 x2 x3 x4 x5 x6 : D) : lstK [x0, x1, x2, x3, x4, x5, x6] = some (.list [x0, x1, x2, x3, x4, x5, x6]) := rfl
@[simp] theorem tupK_7 (x0 x1 x2 x3 x4 x5 x6 : D) : tupK [x0, x1, x2, x3, x4, x5, x6] = some (.tuple [x0, x1, x2, x3, x4, x5, x6]) := rfl
@[simp] theorem lstK_8 (x0 x1 x2 x3 x4 x5 x6 x7 : D) : lstK [x0, x1, x2, x3, x4, x5, x6, x7] = some (.list [x0, x1, x2, x3, x4, x5, x6, x7]) := rfl
@[simp] theorem tupK_8 (x0 x1 x2 x3 x4 x5 x6 x7 : D) : tupK [x0, x1, x2, x3, x4, x5, x6, x7] = some (.tuple [x0, x1, x2, x3, x4, x5, x6, x7]) := rfl
@[simp] theorem lstK_9 (x0 x1 x2 x3 x4 x5 x6 x7 x8 : D) : lstK [x0, x1, x2, x3, x4, x5, x6, x7, x8] = some (.list [x0, x1, x2, x3, x4, x5, x6, x7, x8]) := rfl
@[simp] theorem lstK_10 (x0 x1 x2 x3 x4 x5 x6 x7 x8 x9 : D) : lstK [x0, x1, x2, x3, x4, x5, x6, x7, x8, x9] = some (.list [x0, x1, x2, x3, x4, x5, x6, x7, x8, x9]) := rfl
@[simp] theorem lstK_11 (x0 x1 x2 x3 x4 x5 x6 x7 x8 x9 x10 : D) : lstK [x0, x1, x2, x3, x4, x5, x6, x7, x8, x9, x10] = some (.list [x0, x1, x2, x3, x4, x5, x6, x7, x8, x9, x10]) := rfl
@[simp] theorem lstK_12 (x0 x1 x2 x3 x4 x5 x6 x7 x8 x9 x10 x11 : D) : lstK [x0, x1, x2, x3, x4, x5, x6, x7, x8, x9, x10, x11] = some (.list [x0, x1, x2, x3, x4, x5, x6, x7, x8, x9, x10, x11]) := rfl
@[simp] theorem lstK_13 (x0 x1 x2 x3 x4 x5 x6 x7 x8 x9 x10 x11 x12 : D) : lstK [x0, x1, x2, x3, x4, x5, x6, x7, x8, x9, x10, x11, x12] = some (.list [x0, x1, x2, x3, x4, x5, x6, x7, x8, x9, x10, x11, x12]) := rfl
@[simp] theorem lstK_14 (x0 x1 x2 x3 x4 x5 x6 x7 x8 x9 x10 x11 x12 x13 : D) : lstK [x0, x1, x2, x3, x4, x5, x6, x7, x8, x9, x10, x11, x12, x13] = some (.list [x0, x1, x2, x3, x4, x5, x6, x7, x8, x9, x10, x11, x12, x13]) := rfl
@[simp] theorem lstK_15 (x0 x1 x2 x3 x4 x5 x6 x7 x8 x9 x10 x11 x12 x13 x14 : D) : lstK [x0, x1, x2, x3, x4, x5, x6, x7, x8, x9, x10, x11, x12, x13, x14] = some (.list [x0, x1, x2, x3, x4, x5, x6, x7, x8, x9, x10, x11, x12, x13, x14]) := rfl
@[simp] theorem lstK_16 (x0 x1 x2 x3 x4 x5 x6 x7 x8 x9 x10 x11 x12 x13 x14 x15 : D) : lstK [x0, x1, x2, x3, x4, x5, x6, x7, x8, x9, x10, x11, x12, x13, x14, x15] = some (.list [x0, x1, x2, x3, x4, x5, x6, x7, x8, x9, x10, x11, x12, x13, x14, x15]) := rfl
@[simp] theorem lstK_17 (x0 x1 x2 x3 x4 x5 x6 x7 x8 x9 x10 x11 x12 x13 x14 x15 x16 : D) : lstK [x0, x1, x2, x3, x4, x5, x6, x7, x8, x9, x10, x11, x12, x13, x14, x15, x16] = some (.list [x0, x1, x2, x3, x4, x5, x6, x7, x8, x9, x10, x11, x12, x13, x14, x15, x16]) := rfl
@[simp] theorem lstK_18 (x0 x1 x2 x3 x4 x5 x6 x7 x8 x9 x10 x11 x12 x13 x14 x15 x16 x17 : D) : lstK [x0, x1, x2, x3, x4, x5, x6, x7, x8, x9, x10, x11, x12, x13, x14, x15, x16, x17] = some (.list [x0, x1, x2, x3, x4, x5, x6, x7, x8, x9, x10, x11, x12, x13, x14, x15, x16, x17]) := rfl
@[simp] theorem lstK_19 (x0 x1 x2 x3 x4 x5 x6 x7 x8 x9 x10 x11 x12 x13 x14 x15 x16 x17 x18 : D) : lstK [x0, x1, x2, x3, x4, x5, x6, x7, x8, x9, x10, x11, x12, x13, x14, x15, x16, x17, x18] = some (.list [x0, x1, x2, x3, x4, x5, x6, x7, x8, x9, x10, x11, x12, x13, x14, x15, x16, x17, x18]) := rfl
@[simp] theorem lstK_20 (x0 x1 x2 x3 x4 x5 x6 x7 x8 x9 x10 x11 x12 x13 x14 x15 x16 x17 x18 x19 : D) : lstK [x0, x1, x2, x3, x4, x5, x6, x7, x8, x9, x10, x11, x12, x13, x14, x15, x16, x17, x18, x19] = some (.list [x0, x1, x2, x3, x4, x5, x6, x7, x8, x9, x10, x11, x12, x13, x14, x15, x16, x17, x18, x19]) := rfl
theorem mapF_nil (δ : List Sl) : mapF [] δ = some [] := rfl
def mapK (k : Str) (d : D) : List (D × D) → Option (List (D × D)) := fun ds => some ((.str k, d) :: ds)
@[simp] theorem mapK_eq (k : Str) (d : D) (ds : List (D × D)) : mapK k d ds = some ((.str k, d) :: ds) := rfl
def mapK1 (k : Str) (r : List (Str × FE)) (δ : List Sl) : D → Option (List (D × D)) := fun d => (mapF r δ).bind (mapK k d)
@[simp] theorem mapK1_eq (k : Str) (r : List (Str × FE)) (δ : List Sl) (d : D) : mapK1 k r δ d = (mapF r δ).bind (mapK k d) := rfl
theorem mapF_cons (k : Str) (f : FE) (r : List (Str × FE)) (δ : List Sl) : mapF ((k, f) :: r) δ = (f δ).bind (mapK1 k r δ) := rfl
theorem eDict_eq (kfs : List (Str × FE)) (δ : List Sl) (h : (decide (kfs.length ≤ 15) && decide (kfs.map (·.1)).Nodup) = true) : eDict kfs δ = (mapF kfs δ).bind fun ds => some (.dict ds) := by
  unfold eDict
  rw [h]
  rfl
@[simp] theorem eCall_eq (F : List D → Option D) (g : FA) (δ : List Sl) : eCall F g δ = (g δ).bind F := rfl
@[simp] theorem eCB_eq (F : List D → Option D) (g : FA) (δ : List Sl) : eCB F g δ = (g δ).bind F := rfl
def isK (T : String) : D → Option D := fun d => some (.bool (isTy T d))
@[simp] theorem eIs_eq (T : String) (f : FE) (δ : List Sl) : eIs T f δ = (f δ).bind (isK T) := by
  unfold eIs isK
  cases f δ <;> rfl
@[simp] theorem isK_int (T : String) (i : Int) : isK T (.int i) = some (.bool ((kitB "int" T).getD false)) := rfl
@[simp] theorem isK_str (T : String) (i : Str) : isK T (.str i) = some (.bool ((kitB "str" T).getD false)) := rfl
@[simp] theorem isK_bool (T : String) (i : Bool) : isK T (.bool i) = some (.bool ((kitB "bool" T).getD false)) := rfl
@[simp] theorem isK_none (T : String) : isK T .none = some (.bool ((kitB "NoneType" T).getD false)) := rfl
@[simp] theorem isK_list (T : String) (i : List D) : isK T (.list i) = some (.bool ((kitB "list" T).getD false)) := rfl
@[simp] theorem isK_tuple (T : String) (i : List D) : isK T (.tuple i) = some (.bool ((kitB "tuple" T).getD false)) := rfl
@[simp] theorem isK_dict (T : String) (i : List (D × D)) : isK T (.dict i) = some (.bool ((kitB "dict" T).getD false)) := rfl
@[simp] theorem kit_NoneType_bool : (kitB "NoneType" "bool").getD false = false := by decide +kernel
@[simp] theorem kit_NoneType_int : (kitB "NoneType" "int").getD false = false := by decide +kernel
@[simp] theorem kit_NoneType_str : (kitB "NoneType" "str").getD false = false := by decide +kernel
@[simp] theorem kit_NoneType_list : (kitB "NoneType" "list").getD false = false := by decide +kernel
@[simp] theorem kit_NoneType_tuple : (kitB "NoneType" "tuple").getD false = false := by decide +kernel
@[simp] theorem kit_NoneType_dict : (kitB "NoneType" "dict").getD false = false := by decide +kernel
@[simp] theorem kit_bool_bool : (kitB "bool" "bool").getD false = true := by decide +kernel
@[simp] theorem kit_bool_int : (kitB "bool" "int").getD false = true := by decide +kernel
@[simp] theorem kit_bool_str : (kitB "bool" "str").getD false = false := by decide +kernel
@[simp] theorem kit_bool_list : (kitB "bool" "list").getD false = false := by decide +kernel
@[simp] theorem kit_bool_tuple : (kitB "bool" "tuple").getD false = false := by decide +kernel
@[simp] theorem kit_bool_dict : (kitB "bool" "dict").getD false = false := by decide +kernel
@[simp] theorem kit_int_bool : (kitB "int" "bool").getD false = false := by decide +kernel
@[simp] theorem kit_int_int : (kitB "int" "int").getD false = true := by decide +kernel
@[simp] theorem kit_int_str : (kitB "int" "str").getD false = false := by decide +kernel
@[simp] theorem kit_int_list : (kitB "int" "list").getD false = false := by decide +kernel
@[simp] theorem kit_int_tuple : (kitB "int" "tuple").getD false = false := by decide +kernel
@[simp] theorem kit_int_dict : (kitB "int" "dict").getD false = false := by decide +kernel
@[simp] theorem kit_str_bool : (kitB "str" "bool").getD false = false := by decide +kernel
@[simp] theorem kit_str_int : (kitB "str" "int").getD false = false := by decide +kernel
@[simp] theorem kit_str_str : (kitB "str" "str").getD false = true := by decide +kernel
@[simp] theorem kit_str_list : (kitB "str" "list").getD false = false := by decide +kernel
@[simp] theorem kit_str_tuple : (kitB "str" "tuple").getD false = false := by decide +kernel
@[simp] theorem kit_str_dict : (kitB "str" "dict").getD false = false := by decide +kernel
@[simp] theorem kit_list_bool : (kitB "list" "bool").getD false = false := by decide +kernel
@[simp] theorem kit_list_int : (kitB "list" "int").getD false = false := by decide +kernel
@[simp] theorem kit_list_str : (kitB "list" "str").getD false = false := by decide +kernel
@[simp] theorem kit_list_list : (kitB "list" "list").getD false = true := by decide +kernel
@[simp] theorem kit_list_tuple : (kitB "list" "tuple").getD false = false := by decide +kernel
@[simp] theorem kit_list_dict : (kitB "list" "dict").getD false = false := by decide +kernel
@[simp] theorem kit_tuple_bool : (kitB "tuple" "bool").getD false = false := by decide +kernel
@[simp] theorem kit_tuple_int : (kitB "tuple" "int").getD false = false := by decide +kernel
@[simp] theorem kit_tuple_str : (kitB "tuple" "str").getD false = false := by decide +kernel
@[simp] theorem kit_tuple_list : (kitB "tuple" "list").getD false = false := by decide +kernel
@[simp] theorem kit_tuple_tuple : (kitB "tuple" "tuple").getD false = true := by decide +kernel
@[simp] theorem kit_tuple_dict : (kitB "tuple" "dict").getD false = false := by decide +kernel
@[simp] theorem kit_dict_bool : (kitB "dict" "bool").getD false = false := by decide +kernel
@[simp] theorem kit_dict_int : (kitB "dict" "int").getD false = false := by decide +kernel
@[simp] theorem kit_dict_str : (kitB "dict" "str").getD false = false := by decide +kernel
@[simp] theorem kit_dict_list : (kitB "dict" "list").getD false = false := by decide +kernel
@[simp] theorem kit_dict_tuple : (kitB "dict" "tuple").getD false = false := by decide +kernel
@[simp] theorem kit_dict_dict : (kitB "dict" "dict").getD false = true := by decide +kernel
/-! statements -/
def seqK (g' : GS) : Out → Option Out
  | .nx δ' => g' δ'
  | o => some o
@[simp] theorem gSeq_eq (g g' : GS) (δ : List Sl) : gSeq g g' δ = (g δ).bind (seqK g') := by
  unfold gSeq seqK
  congr
@[simp] theorem seqK_nx (g' : GS) (δ : List Sl) : seqK g' (.nx δ) = g' δ := rfl
@[simp] theorem seqK_rt (g' : GS) (d : D) : seqK g' (.rt d) = some (.rt d) := rfl
@[simp] theorem seqK_bk (g' : GS) (δ : List Sl) : seqK g' (.bk δ) = some (.bk δ) := rfl
@[simp] theorem seqK_ct (g' : GS) (δ : List Sl) : seqK g' (.ct δ) = some (.ct δ) := rfl
@[simp] theorem gNil_eq (δ : List Sl) : Pd.gNil δ = some (.nx δ) := rfl
def ifK (g g' : GS) (δ : List Sl) : D → Option Out
  | .bool true => g δ
  | .bool false => g' δ
  | _ => none
@[simp] theorem gIf_eq (ft : FE) (g g' : GS) (δ : List Sl) : gIf ft g g' δ = (ft δ).bind (ifK g g' δ) := by
  unfold gIf ifK
  cases ft δ with
  | none => rfl
  | some d => cases d <;> first | rfl | (rename_i b; cases b <;> rfl)
@[simp] theorem ifK_eq (g g' : GS) (δ : List Sl) (b : Bool) : ifK g g' δ (.bool b) = if b then g δ else g' δ := by cases b <;> rfl
def rtO (d : D) : Option Out := some (.rt d)
@[simp] theorem rtO_eq (d : D) : rtO d = some (.rt d) := rfl
@[simp] theorem gRet_eq (f : FE) (δ : List Sl) : gRet f δ = (f δ).bind rtO := by
  unfold gRet rtO
  cases f δ <;> rfl
@[simp] theorem gRetN_eq (δ : List Sl) : gRetN δ = some (.rt .none) := rfl
@[simp] theorem gBk_eq (δ : List Sl) : gBk δ = some (.bk δ) := rfl
@[simp] theorem gCt_eq (δ : List Sl) : gCt δ = some (.ct δ) := rfl
def setK (i : Nat) (δ : List Sl) (d : D) : Option Out := some (.nx (δ.set i (.val d)))
@[simp] theorem gSet_eq (i : Nat) (f : FE) (δ : List Sl) : gSet i f δ = (f δ).bind (setK i δ) := by
  unfold gSet setK
  cases f δ <;> rfl
@[simp] theorem setK_eq (i : Nat) (δ : List Sl) (d : D) : setK i δ d = some (.nx (δ.set i (.val d))) := rfl
def forK (i : Nat) (body : GS) (r : List D) : Out → Option Out
  | .nx δ' => forG i body r δ'
  | .ct δ' => forG i body r δ'
  | .bk δ' => some (.nx δ')
  | .rt d' => some (.rt d')
theorem forG_nil (i : Nat) (body : GS) (δ : List Sl) : forG i body [] δ = some (.nx δ) := rfl
theorem forG_cons (i : Nat) (body : GS) (d : D) (r : List D) (δ : List Sl) : forG i body (d :: r) δ = (body (δ.set i (.val d))).bind (forK i body r) := by
  rw [forG]
  cases body (δ.set i (.val d)) with
  | none => rfl
  | some o => cases o <;> rfl
@[simp] theorem forK_nx (i : Nat) (body : GS) (r : List D) (δ : List Sl) : forK i body r (.nx δ) = forG i body r δ := rfl
@[simp] theorem forK_ct (i : Nat) (body : GS) (r : List D) (δ : List Sl) : forK i body r (.ct δ) = forG i body r δ := rfl
@[simp] theorem forK_bk (i : Nat) (body : GS) (r : List D) (δ : List Sl) : forK i body r (.bk δ) = some (.nx δ) := rfl
@[simp] theorem forK_rt (i : Nat) (body : GS) (r : List D) (d : D) : forK i body r (.rt d) = some (.rt d) := rfl
def forS (i : Nat) (body : GS) (δ : List Sl) (ds : List D) : Option Out := forG i body ds δ
@[simp] theorem gFor_eq (fi : FI) (i : Nat) (body : GS) (δ : List Sl) : gFor fi i body δ = (fi δ).bind (forS i body δ) := rfl
@[simp] theorem forS_eq (i : Nat) (body : GS) (δ : List Sl) (ds : List D) : forS i body δ ds = forG i body ds δ := rfl
def whB (ft : FE) (body : GS) (n : Nat) : Out → Option Out
  | .nx δ' => whileG ft body n δ'
  | .ct δ' => whileG ft body n δ'
  | .bk δ' => some (.nx δ')
  | .rt d' => some (.rt d')
def whK (ft : FE) (body : GS) (n : Nat) (δ : List Sl) : D → Option Out
  | .bool true => (body δ).bind (whB ft body n)
  | .bool false => some (.nx δ)
  | _ => none
theorem whileG_succ (ft : FE) (body : GS) (n : Nat) (δ : List Sl) : whileG ft body (n + 1) δ = (ft δ).bind (whK ft body n δ) := by
  rw [whileG]
  cases ft δ with
  | none => rfl
  | some d =>
    cases d <;> first | rfl | skip
    rename_i b
    cases b
    · rfl
    · show _ = (body δ).bind (whB ft body n)
      cases body δ with
      | none => rfl
      | some o => cases o <;> rfl
@[simp] theorem whK_eq (ft : FE) (body : GS) (n : Nat) (δ : List Sl) (b : Bool) : whK ft body n δ (.bool b) = if b then (body δ).bind (whB ft body n) else some (.nx δ) := by cases b <;> rfl
@[simp] theorem whB_nx (ft : FE) (body : GS) (n : Nat) (δ : List Sl) : whB ft body n (.nx δ) = whileG ft body n δ := rfl
@[simp] theorem whB_ct (ft : FE) (body : GS) (n : Nat) (δ : List Sl) : whB ft body n (.ct δ) = whileG ft body n δ := rfl
@[simp] theorem whB_bk (ft : FE) (body : GS) (n : Nat) (δ : List Sl) : whB ft body n (.bk δ) = some (.nx δ) := rfl
@[simp] theorem whB_rt (ft : FE) (body : GS) (n : Nat) (d : D) : whB ft body n (.rt d) = some (.rt d) := rfl
def rtK : Out → Option D
  | .rt d => some d
  | .nx _ => some .none
  | _ => none
@[simp] theorem rtK_rt (d : D) : rtK (.rt d) = some d := rfl
@[simp] theorem rtK_nx (δ : List Sl) : rtK (.nx δ) = some .none := rfl
@[simp] theorem bind_rt (o : Option D) : (o.bind rtO).bind rtK = o := by cases o <;> rfl
theorem runG_eq (n np : Nat) (g : GS) (ds : List D) (h : ds.length = np) : runG n np g ds = (g (startD n ds)).bind rtK := by
  unfold runG
  rw [if_pos h]
  cases g (startD n ds) with
  | none => rfl
  | some o => cases o <;> rfl
/-! comprehensions -/
def lcK2 (i : Nat) (δ : List Sl) (ft fe : FE) (r : List D) (y : D) : Option (List D) := (lcD i δ ft fe r).bind (consK y)
def lcK (i : Nat) (δ : List Sl) (ft fe : FE) (d : D) (r : List D) : D → Option (List D)
  | .bool true => (fe (δ.set i (.val d))).bind (lcK2 i δ ft fe r)
  | .bool false => lcD i δ ft fe r
  | _ => none
theorem lcD_nil (i : Nat) (δ : List Sl) (ft fe : FE) : lcD i δ ft fe [] = some [] := rfl
theorem lcD_cons (i : Nat) (δ : List Sl) (ft fe : FE) (d : D) (r : List D) : lcD i δ ft fe (d :: r) = (ft (δ.set i (.val d))).bind (lcK i δ ft fe d r) := by
  rw [lcD]
  cases ft (δ.set i (.val d)) with
  | none => rfl
  | some b =>
    cases b <;> first | rfl | skip
    rename_i b
    cases b
    · rfl
    · show ((fe (δ.set i (.val d))).bind fun y => (lcD i δ ft fe r).bind fun ys => some (y :: ys)) = (fe (δ.set i (.val d))).bind (lcK2 i δ ft fe r)
      rfl
@[simp] theorem lcK_eq (i : Nat) (δ : List Sl) (ft fe : FE) (d : D) (r : List D) (b : Bool) : lcK i δ ft fe d r (.bool b) = if b then (fe (δ.set i (.val d))).bind (lcK2 i δ ft fe r) else lcD i δ ft fe r := by cases b <;> rfl
@[simp] theorem lcK2_eq (i : Nat) (δ : List Sl) (ft fe : FE) (r : List D) (y : D) : lcK2 i δ ft fe r y = (lcD i δ ft fe r).bind (consK y) := rfl
/-- a comprehension whose parts give values -/
theorem lcD_eq (i : Nat) (δ : List Sl) (ft fe : FE) (p : D → Bool) (h : D → D) : ∀ ds : List D, (∀ d ∈ ds, ft (δ.set i (.val d)) = some (.bool (p d))) → (∀ d ∈ ds, p d = true → fe (δ.set i (.val d)) = some (h d)) → lcD i δ ft fe ds = some ((ds.filter p).map h)
  | [], _, _ => rfl
  | d :: r, h1, h2 => by
    rw [lcD_cons, h1 d (List.mem_cons_self ..), Option.bind_some, lcK_eq, lcD_eq i δ ft fe p h r (fun x hx => h1 x (List.mem_cons_of_mem _ hx)) fun x hx => h2 x (List.mem_cons_of_mem _ hx)]
    cases hp : p d with
    | true => rw [if_pos rfl, h2 d (List.mem_cons_self ..) hp, Option.bind_some, lcK2_eq, lcD_eq i δ ft fe p h r (fun x hx => h1 x (List.mem_cons_of_mem _ hx)) fun x hx => h2 x (List.mem_cons_of_mem _ hx), List.filter_cons_of_pos hp]; rfl
    | false => rw [if_neg Bool.false_ne_true, List.filter_cons_of_neg (by rw [hp]; exact Bool.false_ne_true)]
def lcQ (i : Nat) (ft fe : FE) (δ : List Sl) (ds : List D) : Option D := (lcD i (δ.set i .un) ft fe ds).bind lstK
@[simp] theorem eLc_eq (fi : FI) (i : Nat) (ft fe : FE) (δ : List Sl) : eLc fi i ft fe δ = (fi δ).bind (lcQ i ft fe δ) := rfl
theorem lcQ_eq (i : Nat) (ft fe : FE) (δ : List Sl) (ds : List D) : lcQ i ft fe δ ds = (lcD i (δ.set i .un) ft fe ds).bind lstK := rfl
@[simp] theorem iSeq_eq (f : FE) (δ : List Sl) : iSeq f δ = (f δ).bind seqD := rfl
@[simp] theorem seqD_list (ds : List D) : seqD (.list ds) = some ds := rfl
@[simp] theorem seqD_tuple (ds : List D) : seqD (.tuple ds) = some ds := rfl
@[simp] theorem seqD_str (x : Str) : seqD (.str x) = some (signs x) := rfl
def r1K : List D → Option (List D)
  | [.int j] => if -(2 ^ 62) ≤ j ∧ j < 2 ^ 62 then some (rangeD 0 j.toNat) else none
  | _ => none
def r2K : List D → Option (List D)
  | [.int i, .int j] => if -(2 ^ 62) ≤ i ∧ i < 2 ^ 62 ∧ -(2 ^ 62) ≤ j ∧ j < 2 ^ 62 then some (rangeD i (j - i).toNat) else none
  | _ => none
@[simp] theorem iR1_eq (g : FA) (δ : List Sl) : iR1 g δ = (g δ).bind r1K := by unfold iR1 r1K; rfl
@[simp] theorem iR2_eq (g : FA) (δ : List Sl) : iR2 g δ = (g δ).bind r2K := by unfold iR2 r2K; rfl
theorem r1K_eq (j : Int) (h : -(2 ^ 62) ≤ j ∧ j < 2 ^ 62) : r1K [.int j] = some (rangeD 0 j.toNat) := if_pos h
/-! operators -/
@[simp] theorem addD_int (i j : Int) : addD (.int i) (.int j) = some (.int (i + j)) := rfl
@[simp] theorem addD_str (x y : Str) (h : x.length + y.length ≤ lim) : addD (.str x) (.str y) = some (.str (x ++ y)) := if_pos h
@[simp] theorem addD_list (x y : List D) (h : x.length + y.length ≤ lim) : addD (.list x) (.list y) = some (.list (x ++ y)) := if_pos h
@[simp] theorem addD_tuple (x y : List D) (h : x.length + y.length ≤ lim) : addD (.tuple x) (.tuple y) = some (.tuple (x ++ y)) := if_pos h
@[simp] theorem subD_int (i j : Int) : subD (.int i) (.int j) = some (.int (i - j)) := rfl
theorem mulD_int (i j : Int) : mulD (.int i) (.int j) = if (decide (-(2 ^ 64) < i ∧ i < 2 ^ 64) || decide (-(2 ^ 64) < j ∧ j < 2 ^ 64)) = true then some (.int (i * j)) else none := rfl
@[simp] theorem divD_int (i j : Int) (h : 0 < j ∧ j < 1073741824) : divD (.int i) (.int j) = some (.int (i / j)) := if_pos (decide_eq_true h)
@[simp] theorem modD_int (i j : Int) (h : 0 < j) : modD (.int i) (.int j) = some (.int (i % j)) := if_pos (decide_eq_true h)
@[simp] theorem negD_int (i : Int) : negD (.int i) = some (.int (-i)) := rfl
@[simp] theorem ltD_int (i j : Int) : ltD (.int i) (.int j) = some (.bool (decide (i < j))) := rfl
@[simp] theorem leD_int (i j : Int) : leD (.int i) (.int j) = some (.bool (decide (i ≤ j))) := rfl
@[simp] theorem gtD_int (i j : Int) : gtD (.int i) (.int j) = some (.bool (decide (j < i))) := rfl
@[simp] theorem geD_int (i j : Int) : geD (.int i) (.int j) = some (.bool (decide (j ≤ i))) := rfl
theorem eqD_of (x y : D) (hx : fitD x = true) (hy : fitD y = true) : eqD x y = some (.bool (PyData.eqv x y)) := by
  unfold eqD
  rw [hx, hy, Bool.and_self, Bool.or_true]
  rfl
theorem neD_of (x y : D) (hx : fitD x = true) (hy : fitD y = true) : neD x y = some (.bool (!PyData.eqv x y)) := by
  unfold neD
  rw [hx, hy, Bool.and_self, Bool.or_true]
  rfl
@[simp] theorem fitD_int (i : Int) : fitD (.int i) = true := rfl
@[simp] theorem fitD_bool (i : Bool) : fitD (.bool i) = true := rfl
@[simp] theorem fitD_none : fitD .none = true := rfl
@[simp] theorem eqD_ii (i j : Int) : eqD (.int i) (.int j) = some (.bool (i == j)) := rfl
@[simp] theorem eqD_ss (i j : Str) : eqD (.str i) (.str j) = some (.bool (i == j)) := rfl
@[simp] theorem eqD_bb (i j : Bool) : eqD (.bool i) (.bool j) = some (.bool (i == j)) := rfl
@[simp] theorem neD_ii (i j : Int) : neD (.int i) (.int j) = some (.bool (!(i == j))) := rfl
@[simp] theorem neD_ss (i j : Str) : neD (.str i) (.str j) = some (.bool (!(i == j))) := rfl
@[simp] theorem neD_bb (i j : Bool) : neD (.bool i) (.bool j) = some (.bool (!(i == j))) := rfl
@[simp] theorem eqD_is (i : Int) (j : Str) : eqD (.int i) (.str j) = some (.bool false) := rfl
@[simp] theorem eqD_si (i : Str) (j : Int) : eqD (.str i) (.int j) = some (.bool false) := rfl
@[simp] theorem eqD_ns (j : Str) : eqD .none (.str j) = some (.bool false) := rfl
@[simp] theorem eqD_bs (i : Bool) (j : Str) : eqD (.bool i) (.str j) = some (.bool false) := rfl
@[simp] theorem neD_is (i : Int) (j : Str) : neD (.int i) (.str j) = some (.bool true) := rfl
@[simp] theorem neD_ns (j : Str) : neD .none (.str j) = some (.bool true) := rfl
@[simp] theorem neD_bs (i : Bool) (j : Str) : neD (.bool i) (.str j) = some (.bool true) := rfl
@[simp] theorem lenD_list (ds : List D) : lenD [.list ds] = some (.int ds.length) := rfl
@[simp] theorem lenD_tuple (ds : List D) : lenD [.tuple ds] = some (.int ds.length) := rfl
theorem lenD_str (x : Str) (h : x.length ≤ lim) : lenD [.str x] = some (.int x.length) := if_pos h
@[simp] theorem ixD_list (ds : List D) (i : Int) : ixD (.list ds) (.int i) = atI ds i := rfl
@[simp] theorem ixD_tuple (ds : List D) (i : Int) : ixD (.tuple ds) (.int i) = atI ds i := rfl
theorem ixD_str (x : Str) (i : Int) (h : x.length ≤ lim) : ixD (.str x) (.int i) = (atI x.cps.toList i).map fun c => .str ⟨#[c]⟩ := if_pos h
@[simp] theorem toIntD_int (i : Int) : toIntD [.int i] = some (.int i) := rfl
@[simp] theorem toIntD_bool (i : Bool) : toIntD [.bool i] = some (.int (if i then 1 else 0)) := rfl
@[simp] theorem minD_int (i j : Int) : minD [.int i, .int j] = some (.int (if j < i then j else i)) := rfl
@[simp] theorem maxD_int (i j : Int) : maxD [.int i, .int j] = some (.int (if j > i then j else i)) := rfl
@[simp] theorem listD_list (ds : List D) : listD [.list ds] = some (.list ds) := rfl
@[simp] theorem listD_tuple (ds : List D) : listD [.tuple ds] = some (.list ds) := rfl
@[simp] theorem tupD_list (ds : List D) : tupD [.list ds] = some (.tuple ds) := rfl
@[simp] theorem tupD_tuple (ds : List D) : tupD [.tuple ds] = some (.tuple ds) := rfl
/-- an item by its place -/
theorem atI_of {α : Type} {xs : List α} {i : Int} {v : α} (h0 : 0 ≤ i) (h : xs[i.toNat]? = some v) : atI xs i = some v := by
  have e : i = ((i.toNat : Nat) : Int) := by omega
  rw [e]
  exact atI_nat h
@[simp] theorem atI_zero {α : Type} (xs : List α) : atI xs 0 = xs[0]? := by
  unfold atI ixN
  cases xs with
  | nil => rfl
  | cons x r => rw [if_pos (by decide), if_pos (by rw [List.length_cons]; omega)]; rfl
theorem atI_n {α : Type} (xs : List α) (n : Nat) : atI xs (n : Int) = xs[n]? := by
  unfold atI ixN
  rw [if_pos (by omega)]
  by_cases h : n < xs.length
  · rw [if_pos (by omega)]
    rfl
  · rw [if_neg (by omega), List.getElem?_eq_none (by omega)]
    rfl
@[simp] theorem atI_1 {α : Type} (xs : List α) : atI xs 1 = xs[1]? := atI_n xs 1
@[simp] theorem atI_2 {α : Type} (xs : List α) : atI xs 2 = xs[2]? := atI_n xs 2
@[simp] theorem atI_3 {α : Type} (xs : List α) : atI xs 3 = xs[3]? := atI_n xs 3
@[simp] theorem atI_4 {α : Type} (xs : List α) : atI xs 4 = xs[4]? := atI_n xs 4
@[simp] theorem atI_5 {α : Type} (xs : List α) : atI xs 5 = xs[5]? := atI_n xs 5
@[simp] theorem atI_6 {α : Type} (xs : List α) : atI xs 6 = xs[6]? := atI_n xs 6
@[simp] theorem atI_7 {α : Type} (xs : List α) : atI xs 7 = xs[7]? := atI_n xs 7
@[simp] theorem atI_8 {α : Type} (xs : List α) : atI xs 8 = xs[8]? := atI_n xs 8
@[simp] theorem atI_9 {α : Type} (xs : List α) : atI xs 9 = xs[9]? := atI_n xs 9
@[simp] theorem atI_10 {α : Type} (xs : List α) : atI xs 10 = xs[10]? := atI_n xs 10
@[simp] theorem atI_11 {α : Type} (xs : List α) : atI xs 11 = xs[11]? := atI_n xs 11
@[simp] theorem atI_12 {α : Type} (xs : List α) : atI xs 12 = xs[12]? := atI_n xs 12
@[simp] theorem atI_13 {α : Type} (xs : List α) : atI xs 13 = xs[13]? := atI_n xs 13
@[simp] theorem atI_14 {α : Type} (xs : List α) : atI xs 14 = xs[14]? := atI_n xs 14
@[simp] theorem atI_15 {α : Type} (xs : List α) : atI xs 15 = xs[15]? := atI_n xs 15
@[simp] theorem atI_16 {α : Type} (xs : List α) : atI xs 16 = xs[16]? := atI_n xs 16
@[simp] theorem atI_17 {α : Type} (xs : List α) : atI xs 17 = xs[17]? := atI_n xs 17
@[simp] theorem atI_18 {α : Type} (xs : List α) : atI xs 18 = xs[18]? := atI_n xs 18
@[simp] theorem atI_19 {α : Type} (xs : List α) : atI xs 19 = xs[19]? := atI_n xs 19
@[simp] theorem atI_20 {α : Type} (xs : List α) : atI xs 20 = xs[20]? := atI_n xs 20
@[simp] theorem atI_21 {α : Type} (xs : List α) : atI xs 21 = xs[21]? := atI_n xs 21
@[simp] theorem atI_22 {α : Type} (xs : List α) : atI xs 22 = xs[22]? := atI_n xs 22
@[simp] theorem atI_23 {α : Type} (xs : List α) : atI xs 23 = xs[23]? := atI_n xs 23
@[simp] theorem atI_24 {α : Type} (xs : List α) : atI xs 24 = xs[24]? := atI_n xs 24
@[simp] theorem atI_25 {α : Type} (xs : List α) : atI xs 25 = xs[25]? := atI_n xs 25
@[simp] theorem atI_26 {α : Type} (xs : List α) : atI xs 26 = xs[26]? := atI_n xs 26
@[simp] theorem atI_27 {α : Type} (xs : List α) : atI xs 27 = xs[27]? := atI_n xs 27
@[simp] theorem atI_28 {α : Type} (xs : List α) : atI xs 28 = xs[28]? := atI_n xs 28
@[simp] theorem atI_29 {α : Type} (xs : List α) : atI xs 29 = xs[29]? := atI_n xs 29
@[simp] theorem atI_30 {α : Type} (xs : List α) : atI xs 30 = xs[30]? := atI_n xs 30
@[simp] theorem powD_9 : powD (.int 10) (.int 9) = some (.int 1000000000) := by rfl
@[simp] theorem powD_30 : powD (.int 10) (.int 30) = some (.int 1000000000000000000000000000000) := by rfl
@[simp] theorem powD_18 : powD (.int 10) (.int 18) = some (.int 1000000000000000000) := by rfl
@[simp] theorem mulD_2 : mulD (.int 2) (.int 1000000000) = some (.int 2000000000) := by rfl
theorem F1 {n np : Nat} {g : GS} {ds : List D} {r : Option D} (h : ds.length = np) (e : (g (startD n ds)).bind rtK = r) : runG n np g ds = r := (runG_eq n np g ds h).trans e
/-- the slots at the entry -/
@[simp] theorem startD_eq (n : Nat) (ds : List D) : startD n ds = ds.map .val ++ List.replicate (n - ds.length) .un := rfl
/-! lists of the def's own -/
def frzK (i : Nat) (δ : List Sl) : Option Sl → Option Out
  | some (.own ds) => some (.nx (δ.set i (.val (.list ds))))
  | _ => none
@[simp] theorem gFrz_eq (i : Nat) (δ : List Sl) : gFrz i δ = frzK i δ δ[i]? := by unfold gFrz frzK; rfl
@[simp] theorem frzK_own (i : Nat) (δ : List Sl) (ds : List D) : frzK i δ (some (.own ds)) = some (.nx (δ.set i (.val (.list ds)))) := rfl
@[simp] theorem borrow_nil : borrow [] = [] := rfl
@[simp] theorem borrow_cons (s : Sl) (δ : List Sl) : borrow (s :: δ) = bor1 s :: borrow δ := rfl
@[simp] theorem bor1_un : bor1 .un = .un := rfl
@[simp] theorem bor1_val (d : D) : bor1 (.val d) = .val d := rfl
@[simp] theorem bor1_own (ds : List D) : bor1 (.own ds) = .val (.list ds) := rfl
@[simp] theorem eBor_eq (f : FE) (δ : List Sl) : eBor f δ = (f (borrow δ)).bind scalK := rfl
@[simp] theorem scalK_bool (b : Bool) : scalK (.bool b) = some (.bool b) := rfl
@[simp] theorem scalK_int (b : Int) : scalK (.int b) = some (.int b) := rfl
@[simp] theorem scalK_str (b : Str) : scalK (.str b) = some (.str b) := rfl
@[simp] theorem scalK_none : scalK .none = some .none := rfl
def popK (i : Nat) (δ : List Sl) : Option Sl → Option Out
  | some (.own ds) => if ds = [] then none else some (.nx (δ.set i (.own ds.dropLast)))
  | _ => none
@[simp] theorem gPop_eq (i : Nat) (δ : List Sl) : gPop i δ = popK i δ δ[i]? := by unfold gPop popK; rfl
theorem popK_own (i : Nat) (δ : List Sl) (ds : List D) (h : ds ≠ []) : popK i δ (some (.own ds)) = some (.nx (δ.set i (.own ds.dropLast))) := if_neg h
def appK (i : Nat) (δ : List Sl) (d : D) : Option Sl → Option Out
  | some (.own ds) => if ds.length < lim then some (.nx (δ.set i (.own (ds ++ [d])))) else none
  | _ => none
def appK1 (i : Nat) (δ : List Sl) : D → Option Out := fun d => appK i δ d δ[i]?
@[simp] theorem gApp_eq (i : Nat) (f : FE) (δ : List Sl) : gApp i f δ = (f δ).bind (appK1 i δ) := by unfold gApp appK1 appK; rfl
@[simp] theorem appK1_eq (i : Nat) (δ : List Sl) (d : D) : appK1 i δ d = appK i δ d δ[i]? := rfl
@[simp] theorem appK_own (i : Nat) (δ : List Sl) (d : D) (ds : List D) (h : ds.length < lim) : appK i δ d (some (.own ds)) = some (.nx (δ.set i (.own (ds ++ [d])))) := if_pos h
def extK (i : Nat) (δ : List Sl) : Option Sl → D → Option Out
  | some (.own ds), .list es => if ds.length + es.length ≤ lim then some (.nx (δ.set i (.own (ds ++ es)))) else none
  | _, _ => none
@[simp] theorem gExt_eq (i : Nat) (f : FE) (δ : List Sl) : gExt i f δ = (f δ).bind (extK i δ δ[i]?) := by unfold gExt extK; rfl
@[simp] theorem extK_own (i : Nat) (δ : List Sl) (ds es : List D) (h : ds.length + es.length ≤ lim) : extK i δ (some (.own ds)) (.list es) = some (.nx (δ.set i (.own (ds ++ es)))) := if_pos h
def ownK (i : Nat) (δ : List Sl) (ds : List D) : Option Out := if ds.length ≤ lim then some (.nx (δ.set i (.own ds))) else none
@[simp] theorem gOwn_eq (i : Nat) (g : FA) (δ : List Sl) : gOwn i g δ = (g δ).bind (ownK i δ) := rfl
@[simp] theorem ownK_eq (i : Nat) (δ : List Sl) (ds : List D) (h : ds.length ≤ lim) : ownK i δ ds = some (.nx (δ.set i (.own ds))) := if_pos h
def newK (i : Nat) (δ : List Sl) (ds : List D) : Option Out := some (.nx (δ.set i (.own ds)))
@[simp] theorem gNew_eq (i : Nat) (f : List Sl → Option (List D)) (δ : List Sl) : gNew i f δ = (f δ).bind (newK i δ) := by
  unfold gNew newK
  cases f δ <;> rfl
@[simp] theorem newK_eq (i : Nat) (δ : List Sl) (ds : List D) : newK i δ ds = some (.nx (δ.set i (.own ds))) := rfl
@[simp] theorem nList_eq (f : FE) (δ : List Sl) : nList f δ = (f δ).bind fun d => match d with
  | .list ds => some ds
  | .tuple ds => some ds
  | _ => none := rfl
def intsK (ys : List D) : Option (List D) := if allInts ys then some ys else none
def nFK (F : List D → Option (List D)) (ds : List D) : Option (List D) := (F ds).bind intsK
@[simp] theorem nCall_eq (F : List D → Option (List D)) (g : FA) (δ : List Sl) : nCall F g δ = (g (borrow δ)).bind (nFK F) := rfl
@[simp] theorem nFK_eq (F : List D → Option (List D)) (ds : List D) : nFK F ds = (F ds).bind intsK := rfl
theorem allInts_map (ns : List Int) : allInts (ns.map PyData.int) = true := by
  induction ns with
  | nil => rfl
  | cons n r ih => exact ih
@[simp] theorem intsK_map (ns : List Int) : intsK (ns.map PyData.int) = some (ns.map PyData.int) := by
  unfold intsK
  rw [allInts_map]
  rfl
theorem eLr1_eq (f : FE) (δ : List Sl) (n : Int) (h : f δ = some (.int n)) (h0 : 0 ≤ n) (h1 : n ≤ 16777216) : eLr1 f δ = some (.list (rangeD 0 n.toNat)) := by
  unfold eLr1
  rw [h, Option.bind_some]
  exact if_pos ⟨h0, h1⟩
theorem eLr2_eq (f g : FE) (δ : List Sl) (i n : Int) (h : f δ = some (.int i)) (h' : g δ = some (.int n)) (h0 : 0 ≤ i ∧ i ≤ 16777216 ∧ 0 ≤ n ∧ n ≤ 16777216) : eLr2 f g δ = some (.list (rangeD i (n - i).toNat)) := by
  unfold eLr2
  rw [h, h', Option.bind_some, Option.bind_some]
  exact if_pos h0
def lcN (i : Nat) (ft fe : FE) (δ : List Sl) (ds : List D) : Option (List D) := (lcD i (δ.set i .un) ft fe ds).bind fun ys => if ys.length ≤ lim then some ys else none
@[simp] theorem nLc_eq (fi : FI) (i : Nat) (ft fe : FE) (δ : List Sl) : nLc fi i ft fe δ = (fi δ).bind (lcN i ft fe δ) := rfl
theorem runR_eq (n np : Nat) (f : List Sl → Option (List D)) (ds : List D) (h : ds.length = np) : runR n np f ds = f (startD n ds) := if_pos h
@[simp] theorem revT_eq (ds : List D) : revT (.tuple ds) = some (.tuple ds.reverse) := rfl
@[simp] theorem revL_eq (ds : List D) : revL (.list ds) = some (.list ds.reverse) := rfl
theorem upperD_eq (x : Str) (h : x.length ≤ 5592405) : upperD (.str x) = some (.str (Txt.upper x)) := if_pos h
@[simp] theorem oNone_eq (δ : List Sl) : oNone δ = some none := rfl
def oK : D → Option (Option Int)
  | .int i => some (some i)
  | _ => none
@[simp] theorem oSome_eq (f : FE) (δ : List Sl) : oSome f δ = (f δ).bind oK := rfl
@[simp] theorem oK_int (i : Int) : oK (.int i) = some (some i) := rfl
def slK1 (fl fh : FO) (δ : List Sl) (d : D) : Option D := (fl δ).bind fun lo => (fh δ).bind fun hi => slD lo hi d
def slK2 (fh : FO) (δ : List Sl) (d : D) (lo : Option Int) : Option D := (fh δ).bind fun hi => slD lo hi d
def slK3 (d : D) (lo hi : Option Int) : Option D := slD lo hi d
@[simp] theorem eSl_eq (fa : FE) (fl fh : FO) (δ : List Sl) : eSl fa fl fh δ = (fa δ).bind (slK1 fl fh δ) := rfl
@[simp] theorem slK1_eq (fl fh : FO) (δ : List Sl) (d : D) : slK1 fl fh δ d = (fl δ).bind (slK2 fh δ d) := rfl
@[simp] theorem slK2_eq (fh : FO) (δ : List Sl) (d : D) (lo : Option Int) : slK2 fh δ d lo = (fh δ).bind (slK3 d lo) := rfl
@[simp] theorem slK3_tup (ds : List D) (lo hi : Option Int) : slK3 (.tuple ds) lo hi = some (.tuple (cutD ds lo hi)) := rfl
@[simp] theorem slK3_lst (ds : List D) (lo hi : Option Int) : slK3 (.list ds) lo hi = some (.list (cutD ds lo hi)) := rfl
theorem slK3_str (x : Str) (lo hi : Option Int) (h : x.length ≤ lim) : slK3 (.str x) lo hi = some (.str (cutS x lo hi)) := if_pos h
def unpK (is : List Nat) (δ : List Sl) : D → Option Out
  | .tuple ds => if ds.length = is.length then some (.nx (setAll is ds δ)) else none
  | _ => none
@[simp] theorem gUnp_eq (is : List Nat) (f : FE) (δ : List Sl) : gUnp is f δ = (f δ).bind (unpK is δ) := by unfold gUnp unpK; rfl
theorem unpK_eq (is : List Nat) (δ : List Sl) (ds : List D) (h : ds.length = is.length) : unpK is δ (.tuple ds) = some (.nx (setAll is ds δ)) := if_pos h
end Pd

set_option Elab.async false
set_option linter.all false
set_option maxRecDepth 100000
set_option maxHeartbeats 4000000
/-! General facts about semantic functions. -/
namespace Pd
open PySem PySem.Spec L2
/-- a loop that neither leaves nor fails, by its invariant -/
theorem forG_inv {i : Nat} {body : GS} (I : Nat → List Sl → Prop) : ∀ (ds : List D) (k : Nat) (δ : List Sl), I k δ → (∀ (j : Nat) (d : D) (δ : List Sl), ds[j]? = some d → I (k + j) δ → ∃ δ', body (δ.set i (.val d)) = some (.nx δ') ∧ I (k + j + 1) δ') → ∃ δ', forG i body ds δ = some (.nx δ') ∧ I (k + ds.length) δ'
  | [], k, δ, h, _ => ⟨δ, rfl, h⟩
  | d :: r, k, δ, h, hs => by
    obtain ⟨δ1, e1, h1⟩ := hs 0 d δ rfl h
    obtain ⟨δ2, e2, h2⟩ := forG_inv I r (k + 1) δ1 h1 fun j d' δ' hj hI => by
      have := hs (j + 1) d' δ' (by simpa using hj) (by rw [show k + (j + 1) = k + 1 + j by omega]; exact hI)
      rw [show k + (j + 1) + 1 = k + 1 + j + 1 by omega] at this
      exact this
    refine ⟨δ2, ?_, by rw [List.length_cons, show k + (r.length + 1) = k + 1 + r.length by omega]; exact h2⟩
    rw [forG_cons, e1, Option.bind_some, forK_nx, e2]
/-- the same, by the items themselves -/
theorem forG_all {i : Nat} {body : GS} (I : List Sl → Prop) (ds : List D) (δ : List Sl) (h : I δ) (hs : ∀ d ∈ ds, ∀ δ, I δ → ∃ δ', body (δ.set i (.val d)) = some (.nx δ') ∧ I δ') : ∃ δ', forG i body ds δ = some (.nx δ') ∧ I δ' := by
  obtain ⟨δ', e, h'⟩ := forG_inv (i := i) (body := body) (fun _ δ => I δ) ds 0 δ h fun j d δ hj hI => hs d (List.mem_of_getElem? hj) δ hI
  exact ⟨δ', e, h'⟩
theorem mem_rangeD {d : D} {lo : Int} {n : Nat} (h : d ∈ rangeD lo n) : ∃ k : Nat, k < n ∧ d = .int (lo + k) := by
  unfold rangeD at h
  obtain ⟨k, hk, e⟩ := List.mem_map.mp h
  exact ⟨k, List.mem_range.mp hk, e.symm⟩
/-- a text whose signs are signs -/
def SOk (s : Str) : Prop := s.length ≤ 1000 ∧ ∀ c ∈ s.cps.toList, c < 128
theorem SOk.strOk {s : Str} (h : SOk s) : PyData.strOk s = true := by
  unfold PyData.strOk
  rw [Array.all_eq_true]
  intro i hi
  have := h.2 s.cps[i] (by simp)
  simp
  omega
theorem SOk.lim {s : Str} (h : SOk s) : s.length ≤ lim := by
  have := h.1
  rw [lim_eq]
  omega
theorem fitD_str {s : Str} (h : SOk s) : fitD (.str s) = true := by
  simp [fitD, flatD, SeqAt.shaped, PyData.canLay0, PyData.depth, h.strOk]
theorem len_append (a b : Str) : (a ++ b).length = a.length + b.length := by
  show (a.cps ++ b.cps).size = a.cps.size + b.cps.size
  exact Array.size_append
theorem cps_append (a b : Str) : (a ++ b).cps.toList = a.cps.toList ++ b.cps.toList := by
  show (a.cps ++ b.cps).toList = _
  simp
theorem SOk.append {a b : Str} (ha : SOk a) (hb : SOk b) (h : a.length + b.length ≤ 1000) : SOk (a ++ b) := ⟨by rw [len_append]; exact h, fun c hc => by
  rw [cps_append, List.mem_append] at hc
  rcases hc with hc | hc
  · exact ha.2 c hc
  · exact hb.2 c hc⟩
theorem SOk.one {c : Nat} (h : c < 128) : SOk ⟨#[c]⟩ := ⟨by show 1 ≤ 1000; decide, fun d hd => by
  have : d = c := by simpa using hd
  omega⟩
theorem len_one (c : Nat) : (⟨#[c]⟩ : Str).length = 1 := rfl
/-- one sign of a text -/
theorem sign_at {s : Str} (h : SOk s) {i : Int} (h0 : 0 ≤ i) (h1 : i < s.length) : ∃ c, c < 128 ∧ ixD (.str s) (.int i) = some (.str ⟨#[c]⟩) := by
  have hl : s.cps.toList.length = s.length := by simp [Str.length]
  have hi : i.toNat < s.cps.toList.length := by omega
  refine ⟨s.cps.toList[i.toNat], h.2 _ (List.getElem_mem hi), ?_⟩
  rw [ixD_str _ _ h.lim, atI_of h0 (List.getElem?_eq_getElem hi)]
  rfl
/-- lists that fit -/
theorem fitD_list {ds : List D} (h : ∀ d ∈ ds, fitD d = true ∧ d.depth ≤ 60) : fitD (.list ds) = true := by
  have hf : flatDs ds = true ∧ PyData.canLayAll0 ds = true ∧ PyData.depthAll ds ≤ 60 := by
    induction ds with
    | nil => exact ⟨rfl, rfl, Nat.zero_le _⟩
    | cons d r ih =>
      obtain ⟨h1, h2⟩ := h d (List.mem_cons_self ..)
      obtain ⟨i1, i2, i3⟩ := ih fun x hx => h x (List.mem_cons_of_mem _ hx)
      simp only [fitD, SeqAt.shaped, Bool.and_eq_true] at h1
      refine ⟨by simp only [flatDs, Bool.and_eq_true]; exact ⟨h1.1, i1⟩, by simp only [PyData.canLayAll0, Bool.and_eq_true]; exact ⟨h1.2.1, i2⟩, by simp only [PyData.depthAll]; omega⟩
  have h3 := hf.2.2
  have e : fitD (.list ds) = (flatDs ds && (PyData.canLayAll0 ds && decide (PyData.depthAll ds + 1 ≤ 64))) := rfl
  rw [e, hf.1, hf.2.1, decide_eq_true (by omega)]
  rfl
theorem fitD_tuple {ds : List D} (h : ∀ d ∈ ds, fitD d = true ∧ d.depth ≤ 60) : fitD (.tuple ds) = true := by
  exact fitD_list h
theorem lcQ_of {i : Nat} {ft fe : FE} {δ : List Sl} {ds : List D} (p : D → Bool) (h : D → D) (h1 : ∀ d ∈ ds, ft ((δ.set i .un).set i (.val d)) = some (.bool (p d))) (h2 : ∀ d ∈ ds, p d = true → fe ((δ.set i .un).set i (.val d)) = some (h d)) (hl : ds.length ≤ lim) :
    lcQ i ft fe δ ds = some (.list ((ds.filter p).map h)) := by
  rw [lcQ_eq, lcD_eq i _ ft fe p h ds h1 h2, Option.bind_some, lstK_eq]
  rw [List.length_map]
  exact Nat.le_trans (List.length_filter_le _ _) hl
theorem lcQ_map {i : Nat} {fe : FE} {δ : List Sl} {ds : List D} (h : D → D) (h2 : ∀ d ∈ ds, fe ((δ.set i .un).set i (.val d)) = some (h d)) (hl : ds.length ≤ lim) : lcQ i (eC (.bool true)) fe δ ds = some (.list (ds.map h)) := by
  rw [lcQ_of (fun _ => true) h (fun _ _ => rfl) (fun d hd _ => h2 d hd) hl, List.filter_eq_self.mpr fun _ _ => rfl]
theorem lcQ_filter {i : Nat} {ft : FE} {δ : List Sl} {ds : List D} (p : D → Bool) (hi : i < δ.length) (h1 : ∀ d ∈ ds, ft ((δ.set i .un).set i (.val d)) = some (.bool (p d))) (hl : ds.length ≤ lim) : lcQ i ft (eVar i) δ ds = some (.list (ds.filter p)) := by
  rw [lcQ_of p id h1 (fun d _ _ => ?_) hl, List.map_id]
  rw [eVar_eq, List.getElem?_set_self (by simpa using hi)]
  rfl
theorem blsD_map (l : List Bool) : blsD (l.map PyData.bool) = some l := by
  induction l with
  | nil => rfl
  | cons b r ih => simp only [List.map_cons, blsD, ih, Option.map_some]
theorem allD_map (l : List Bool) : allD [.list (l.map PyData.bool)] = some (.bool (l.all id)) := by
  simp only [allD, blsD_map, Option.map_some]
/-- a cell of the script -/
def cellZ (ns : List Int) (k : Nat) : Int := ns.getD k 0
theorem eqv_nil (ds : List D) : PyData.eqv (.list ds) (.list []) = ds.isEmpty := by
  cases ds <;> rfl
theorem signs_len (s : Str) : (signs s).length = s.length := by
  unfold signs
  rw [List.length_map]
  simp [Str.length]
theorem mem_signs {d : D} {s : Str} (h : d ∈ signs s) : ∃ c, c ∈ s.cps.toList ∧ d = .str ⟨#[c]⟩ := by
  obtain ⟨c, hc, e⟩ := List.mem_map.mp h
  exact ⟨c, hc, e.symm⟩
theorem leD_one (a b : Nat) : leD (.str ⟨#[a]⟩) (.str ⟨#[b]⟩) = some (.bool (decide (a ≤ b))) := by
  show some (PyData.bool (!decide ([b] < [a]))) = _
  congr 2
  rw [Bool.eq_iff_iff]
  simp [List.cons_lt_cons_iff]
theorem inD_one (neg : Bool) (c : Nat) (z : Str) : inD neg (.str ⟨#[c]⟩) (.str z) = some (.bool (if neg then !decide (c ∈ z.cps.toList) else decide (c ∈ z.cps.toList))) := rfl
theorem lcN_filter {i : Nat} {ft : FE} {δ : List Sl} {ds : List D} (p : D → Bool) (hi : i < δ.length) (h1 : ∀ d ∈ ds, ft ((δ.set i .un).set i (.val d)) = some (.bool (p d))) (hl : ds.length ≤ lim) : lcN i ft (eVar i) δ ds = some (ds.filter p) := by
  unfold lcN
  rw [lcD_eq i _ ft (eVar i) p id ds h1 (fun d _ _ => ?_), Option.bind_some, List.map_id, if_pos (Nat.le_trans (List.length_filter_le _ _) hl)]
  rw [eVar_eq, List.getElem?_set_self (by simpa using hi)]
  rfl
/-! lists of ints -/
def IL (ns : List Int) : List D := ns.map PyData.int
theorem IL_len (ns : List Int) : (IL ns).length = ns.length := List.length_map _
theorem IL_append (a b : List Int) : IL (a ++ b) = IL a ++ IL b := List.map_append
theorem fit_IL (ns : List Int) : fitD (.list (IL ns)) = true := fitD_list fun d hd => by
  obtain ⟨n, _, rfl⟩ := List.mem_map.mp hd
  exact ⟨rfl, Nat.zero_le _⟩
theorem eqvAll_IL : ∀ a b : List Int, PyData.eqvAll (IL a) (IL b) = decide (a = b)
  | [], [] => by rfl
  | [], _ :: _ => by rfl
  | _ :: _, [] => by rfl
  | x :: a, y :: b => by
    show ((x == y) && PyData.eqvAll (IL a) (IL b)) = _
    rw [eqvAll_IL a b]
    by_cases h : x = y
    · subst h; simp
    · simp [h]
theorem eqD_IL (a b : List Int) : eqD (.list (IL a)) (.list (IL b)) = some (.bool (decide (a = b))) := by
  rw [eqD_of _ _ (fit_IL a) (fit_IL b)]
  show some (PyData.bool (PyData.eqvAll (IL a) (IL b))) = _
  rw [eqvAll_IL]
theorem neD_IL (a b : List Int) : neD (.list (IL a)) (.list (IL b)) = some (.bool (!decide (a = b))) := by
  rw [neD_of _ _ (fit_IL a) (fit_IL b)]
  show some (PyData.bool (!PyData.eqvAll (IL a) (IL b))) = _
  rw [eqvAll_IL]
theorem filter_IL (p : D → Bool) (ns : List Int) : (IL ns).filter p = IL (ns.filter fun n => p (.int n)) := by
  unfold IL
  rw [List.filter_map]
  rfl
theorem mem_IL {d : D} {ns : List Int} (h : d ∈ IL ns) : ∃ n, n ∈ ns ∧ d = .int n := by
  obtain ⟨n, hn, e⟩ := List.mem_map.mp h
  exact ⟨n, hn, e.symm⟩
theorem allInts_IL (ns : List Int) : allInts (IL ns) = true := allInts_map ns
theorem intsK_IL (ns : List Int) : intsK (IL ns) = some (IL ns) := intsK_map ns
def rangeZ (lo : Int) (n : Nat) : List Int := (List.range n).map fun k => lo + (k : Nat)
theorem rangeD_IL (lo : Int) (n : Nat) : rangeD lo n = IL (rangeZ lo n) := by
  unfold rangeD IL rangeZ
  rw [List.map_map]
  rfl
end Pd

set_option Elab.async false
set_option linter.all false
set_option maxRecDepth 100000
set_option maxHeartbeats 4000000
/-! Defs that change what they are handed: semantic functions with a store of cells. -/
namespace Hd
open PySem PySem.Spec PyProof.Rows L2 Pd
/-- data, or a location -/
inductive W where
  | d (x : D)
  | l (n : Nat)
inductive Cell where
  | lst (ws : List W)
  | dct (kvs : List (Str × W))
/-- the frozen part, the heap, the addresses of the locations -/
structure Sm where
  Z : Hp
  H : Hp
  L : List Addr
def Rw (K : PySem.W.Frag) (S : Sm) : W → V → Prop
  | .d x, v => Rv K S.Z x v
  | .l n, v => ∃ a, S.L[n]? = some a ∧ v = .ref a
def RwL (K : PySem.W.Frag) (S : Sm) : List W → List V → Prop
  | [], vs => vs = []
  | w :: ws, vs => ∃ v r, vs = v :: r ∧ Rw K S w v ∧ RwL K S ws r
def RwK (K : PySem.W.Frag) (S : Sm) : List (Str × W) → List (Key × V) → Prop
  | [], vs => vs = []
  | (k, w) :: ws, vs => ∃ v r, vs = (Sum.inr k, v) :: r ∧ Rw K S w v ∧ RwK K S ws r
def CellOk (K : PySem.W.Frag) (S : Sm) (a : Addr) : Cell → Prop
  | .lst ws => ∃ vs, S.H a = some (.lst vs) ∧ RwL K S ws vs
  | .dct kvs => ∃ xs, S.H a = some (.dK xs) ∧ RwK K S kvs xs
structure OkS (K : PySem.W.Frag) (S : Sm) (M : List Cell) : Prop where
  zh : Same S.Z S.H
  nd : S.L.Nodup
  len : S.L.length = M.length
  zn : ∀ a ∈ S.L, S.Z a = none
  cell : ∀ (n : Nat) (a : Addr) (c : Cell), S.L[n]? = some a → M[n]? = some c → CellOk K S a c
structure Le (S S' : Sm) : Prop where
  z : Same S.Z S'.Z
  l : ∃ t, S'.L = S.L ++ t
  f : ∀ b o, S.H b = some o → b ∉ S.L → S'.H b = some o
  n : ∀ b, b ∈ S'.L → b ∈ S.L ∨ S.H b = none
  t : ∀ b, S.H b ≠ none → S'.H b ≠ none
  c : ∀ b, S.Z b = none → S.H b ≠ none → b ∉ S.L → S'.Z b = none
theorem Le.refl (S : Sm) : Le S S := ⟨Same.refl _, ⟨[], by simp⟩, fun _ _ h _ => h, fun _ h => .inl h, fun _ h => h, fun _ h _ _ => h⟩
theorem Le.trans {S T U : Sm} (a : Le S T) (b : Le T U) : Le S U := by
  obtain ⟨t1, e1⟩ := a.l
  obtain ⟨t2, e2⟩ := b.l
  have nl : ∀ c, S.H c ≠ none → c ∉ S.L → c ∉ T.L := fun c h1 h2 h3 => by
    rcases a.n c h3 with h | h
    · exact h2 h
    · exact h1 h
  refine ⟨a.z.trans b.z, ⟨t1 ++ t2, by rw [e2, e1, List.append_assoc]⟩, fun c o h1 h2 => ?_, fun c h => ?_, fun c h => b.t c (a.t c h), fun c h1 h2 h3 => b.c c (a.c c h1 h2 h3) (a.t c h2) (nl c h2 h3)⟩
  · exact b.f c o (a.f c o h1 h2) (nl c (by rw [h1]; simp) h2)
  · rcases b.n c h with h | h
    · exact a.n c h
    · right
      cases e : S.H c with
      | none => rfl
      | some o => exact absurd h (a.t c (by rw [e]; simp))
section
variable {K : PySem.W.Frag} {S S' : Sm}
structure Gr (S S' : Sm) : Prop where
  z : Same S.Z S'.Z
  l : ∃ t, S'.L = S.L ++ t
theorem Rw.gr (x : Gr S S') : ∀ {w : W} {v : V}, Rw K S w v → Rw K S' w v
  | .d x', _, h => Rv.mono x.z x' h
  | .l n, _, h => by
    obtain ⟨a, h1, h2⟩ := h
    obtain ⟨t, e⟩ := x.l
    refine ⟨a, ?_, h2⟩
    rw [e, List.getElem?_append_left (List.getElem?_eq_some_iff.mp h1).1]
    exact h1
theorem RwL.gr (x : Gr S S') : ∀ {ws : List W} {vs : List V}, RwL K S ws vs → RwL K S' ws vs
  | [], _, h => h
  | w :: ws, _, h => by obtain ⟨v, r, rfl, h1, h2⟩ := h; exact ⟨v, r, rfl, h1.gr x, RwL.gr x h2⟩
theorem RwK.gr (x : Gr S S') : ∀ {ws : List (Str × W)} {vs : List (Key × V)}, RwK K S ws vs → RwK K S' ws vs
  | [], _, h => h
  | (k, w) :: ws, _, h => by obtain ⟨v, r, rfl, h1, h2⟩ := h; exact ⟨v, r, rfl, h1.gr x, RwK.gr x h2⟩
theorem Rw.mono (x : Le S S') {w : W} {v : V} (h : Rw K S w v) : Rw K S' w v := h.gr ⟨x.z, x.l⟩
theorem RwL.mono (x : Le S S') {ws : List W} {vs : List V} (h : RwL K S ws vs) : RwL K S' ws vs := h.gr ⟨x.z, x.l⟩
theorem RwK.mono (x : Le S S') {ws : List (Str × W)} {vs : List (Key × V)} (h : RwK K S ws vs) : RwK K S' ws vs := h.gr ⟨x.z, x.l⟩
theorem RwL.length : ∀ {ws : List W} {vs : List V}, RwL K S ws vs → vs.length = ws.length
  | [], _, h => by cases h; rfl
  | w :: ws, _, h => by obtain ⟨v, r, rfl, h1, h2⟩ := h; rw [List.length_cons, List.length_cons, RwL.length h2]
theorem RwL.append : ∀ {ws us : List W} {vs xs : List V}, RwL K S ws vs → RwL K S us xs → RwL K S (ws ++ us) (vs ++ xs)
  | [], _, _, _, h, g => by cases h; exact g
  | w :: ws, _, _, _, h, g => by obtain ⟨v, r, rfl, h1, h2⟩ := h; exact ⟨v, _, rfl, h1, RwL.append h2 g⟩
theorem RwL.get : ∀ {ws : List W} {vs : List V} {i : Nat} {w : W}, RwL K S ws vs → ws[i]? = some w → ∃ v, vs[i]? = some v ∧ Rw K S w v
  | [], _, _, _, _, e => by simp at e
  | w :: ws, _, 0, _, h, e => by obtain ⟨v, r, rfl, h1, h2⟩ := h; simp at e; subst e; exact ⟨v, rfl, h1⟩
  | w :: ws, _, i + 1, _, h, e => by obtain ⟨v, r, rfl, h1, h2⟩ := h; obtain ⟨u, h3, h4⟩ := RwL.get (i := i) h2 (by simpa using e); exact ⟨u, by simpa using h3, h4⟩
theorem RwL.ofD : ∀ {ds : List D} {vs : List V}, RvL K S.Z ds vs → RwL K S (ds.map .d) vs
  | [], _, h => by cases h; rfl
  | d :: ds, _, h => by cases h with | cons a b => exact ⟨_, _, rfl, a, RwL.ofD b⟩
theorem RwK.get : ∀ {ws : List (Str × W)} {vs : List (Key × V)} {k : Str} {w : W}, RwK K S ws vs → ws.lookup k = some w → ∃ v, valV vs (Sum.inr k : Key) = some v ∧ Rw K S w v
  | [], _, _, _, _, e => by simp at e
  | (k', w') :: ws, _, k, w, h, e => by
    obtain ⟨v, r, rfl, h1, h2⟩ := h
    rw [List.lookup_cons] at e
    by_cases hk : k = k'
    · subst hk
      simp at e
      subst e
      exact ⟨v, valV_pos rfl, h1⟩
    · have hb : (k == k') = false := by simpa using hk
      rw [hb] at e
      obtain ⟨u, h3, h4⟩ := RwK.get h2 e
      exact ⟨u, by rw [valV_neg (by intro q; exact hk (Sum.inr.inj q).symm)]; exact h3, h4⟩
/-- the pure state within -/
def Sm.st (S : Sm) (h : Same S.Z S.H) : Stt := ⟨S.Z, S.H, h⟩
/-- a later pure state, the locations as they were -/
theorem ok_ex {M : List Cell} (ok : OkS K S M) {T : Stt} (x : Ex (S.st ok.zh) T) : Le S ⟨T.Z, T.H, S.L⟩ ∧ OkS K ⟨T.Z, T.H, S.L⟩ M := by
  have hh : Same S.H T.H := x.h
  have le : Le S ⟨T.Z, T.H, S.L⟩ := ⟨x.z, ⟨[], by simp⟩, fun b o h _ => hh b o h, fun b h => .inl h, fun b h => same_some hh h, fun b h1 h2 _ => x.c b h1 h2⟩
  have tr : ∀ a ∈ S.L, S.H a ≠ none := fun a ha => by
    obtain ⟨n, hn⟩ := List.getElem?_of_mem ha
    have hl : n < M.length := by
      have := (List.getElem?_eq_some_iff.mp hn).1
      have := ok.len
      omega
    have := ok.cell n a M[n] hn (List.getElem?_eq_getElem hl)
    cases e : M[n] with
    | lst ws => rw [e] at this; obtain ⟨vs, h1, _⟩ := this; rw [h1]; simp
    | dct kvs => rw [e] at this; obtain ⟨xs, h1, _⟩ := this; rw [h1]; simp
  refine ⟨le, T.ok, ok.nd, ok.len, fun a ha => x.c a (ok.zn a ha) (tr a ha), fun n a c h1 h2 => ?_⟩
  have := ok.cell n a c h1 h2
  cases c with
  | lst ws => obtain ⟨vs, g1, g2⟩ := this; exact ⟨vs, hh _ _ g1, g2.mono le⟩
  | dct kvs => obtain ⟨xs, g1, g2⟩ := this; exact ⟨xs, hh _ _ g1, g2.mono le⟩
/-- a new cell -/
theorem ok_new {M : List Cell} (ok : OkS K S M) {p : Addr} (hp : S.H p = none) (c : Cell) (o : HO) (hc : ∀ T : Sm, Le S T → T.H p = some o → CellOk K T p c) :
    Le S ⟨S.Z, upd S.H p o, S.L ++ [p]⟩ ∧ OkS K ⟨S.Z, upd S.H p o, S.L ++ [p]⟩ (M ++ [c]) := by
  have np : p ∉ S.L := fun hm => by
    obtain ⟨n, hn⟩ := List.getElem?_of_mem hm
    have hl : n < M.length := by
      have := (List.getElem?_eq_some_iff.mp hn).1
      have := ok.len
      omega
    have := ok.cell n p M[n] hn (List.getElem?_eq_getElem hl)
    cases e : M[n] with
    | lst ws => rw [e] at this; obtain ⟨vs, h1, _⟩ := this; rw [hp] at h1; cases h1
    | dct kvs => rw [e] at this; obtain ⟨xs, h1, _⟩ := this; rw [hp] at h1; cases h1
  have sm : Same S.H (upd S.H p o) := same_upd hp o
  have le : Le S ⟨S.Z, upd S.H p o, S.L ++ [p]⟩ := ⟨Same.refl _, ⟨[p], rfl⟩, fun b u h _ => sm b u h, fun b h => by
    rcases List.mem_append.mp h with h | h
    · exact .inl h
    · right
      have : b = p := by simpa using h
      rw [this]; exact hp, fun b h => same_some sm h, fun b h _ _ => h⟩
  have zp : S.Z p = none := ok.zh.free hp
  refine ⟨le, ok.zh.trans sm, ?_, by rw [List.length_append, List.length_append, ok.len]; rfl, fun a ha => ?_, fun n a c' h1 h2 => ?_⟩
  · rw [List.nodup_append]
    exact ⟨ok.nd, by simp, fun a ha b hb => by
      have : b = p := by simpa using hb
      intro e
      exact np (this ▸ e ▸ ha)⟩
  · rcases List.mem_append.mp ha with h | h
    · exact ok.zn a h
    · have : a = p := by simpa using h
      rw [this]; exact zp
  · have hlen := ok.len
    by_cases hn : n < S.L.length
    · have h1 : (S.L ++ [p])[n]? = some a := h1
      rw [List.getElem?_append_left hn] at h1
      rw [List.getElem?_append_left (by omega)] at h2
      have := ok.cell n a c' h1 h2
      cases c' with
      | lst ws => obtain ⟨vs, g1, g2⟩ := this; exact ⟨vs, sm _ _ g1, g2.mono le⟩
      | dct kvs => obtain ⟨xs, g1, g2⟩ := this; exact ⟨xs, sm _ _ g1, g2.mono le⟩
    · have h1 : (S.L ++ [p])[n]? = some a := h1
      have hn2 : n = S.L.length := by
        have := (List.getElem?_eq_some_iff.mp h1).1
        rw [List.length_append, List.length_singleton] at this
        omega
      subst hn2
      rw [List.getElem?_append_right (Nat.le_refl _), Nat.sub_self] at h1
      rw [hlen, List.getElem?_append_right (Nat.le_refl _), Nat.sub_self] at h2
      cases h1
      cases h2
      exact hc _ le upd_same
theorem not_cell {M : List Cell} (ok : OkS K S M) {p : Addr} (hp : S.H p = none) : p ∉ S.L := fun hm => by
  obtain ⟨n, hn⟩ := List.getElem?_of_mem hm
  have hl : n < M.length := by
    have := (List.getElem?_eq_some_iff.mp hn).1
    have := ok.len
    omega
  have := ok.cell n p M[n] hn (List.getElem?_eq_getElem hl)
  cases e : M[n] with
  | lst ws => rw [e] at this; obtain ⟨vs, h1, _⟩ := this; rw [hp] at h1; cases h1
  | dct kvs => rw [e] at this; obtain ⟨xs, h1, _⟩ := this; rw [hp] at h1; cases h1
/-- a place that was made since becomes a cell -/
theorem ok_new2 {S0 : Sm} {M : List Cell} (ok : OkS K S M) (le : Le S0 S) {p : Addr} (h0 : S0.H p = none) (np : p ∉ S.L) (zp : S.Z p = none) (c : Cell) (o : HO) (hc : ∀ T : Sm, Gr S T → T.H p = some o → CellOk K T p c) :
    Le S0 ⟨S.Z, upd S.H p o, S.L ++ [p]⟩ ∧ OkS K ⟨S.Z, upd S.H p o, S.L ++ [p]⟩ (M ++ [c]) := by
  have gr : Gr S ⟨S.Z, upd S.H p o, S.L ++ [p]⟩ := ⟨Same.refl _, ⟨[p], rfl⟩⟩
  refine ⟨⟨le.z, ?_, fun b u h hb => ?_, fun b h => ?_, fun b h => ?_, le.c⟩, fun b u h => ?_, ?_, by rw [List.length_append, List.length_append, ok.len]; rfl, fun a ha => ?_, fun n a c' h1 h2 => ?_⟩
  · obtain ⟨t, e⟩ := le.l
    exact ⟨t ++ [p], by show S.L ++ [p] = _; rw [e, List.append_assoc]⟩
  · show upd S.H p o b = _
    rw [upd_ne (fun e => by subst e; rw [h0] at h; cases h)]
    exact le.f b u h hb
  · rcases List.mem_append.mp h with h | h
    · exact le.n b h
    · right
      have : b = p := by simpa using h
      rw [this]; exact h0
  · show upd S.H p o b ≠ none
    by_cases e : b = p
    · subst e; rw [upd_same]; simp
    · rw [upd_ne e]; exact le.t b h
  · show upd S.H p o b = _
    rw [upd_ne (fun e => by have h : S.Z b = some u := h; rw [e, zp] at h; cases h)]
    exact ok.zh b u h
  · rw [List.nodup_append]
    exact ⟨ok.nd, by simp, fun a ha b hb => by
      have : b = p := by simpa using hb
      intro e
      exact np (this ▸ e ▸ ha)⟩
  · rcases List.mem_append.mp ha with h | h
    · exact ok.zn a h
    · have : a = p := by simpa using h
      rw [this]; exact zp
  · have hlen := ok.len
    by_cases hn : n < S.L.length
    · have h1 : (S.L ++ [p])[n]? = some a := h1
      rw [List.getElem?_append_left hn] at h1
      rw [List.getElem?_append_left (by omega)] at h2
      have ap : a ≠ p := fun e => np (e ▸ List.mem_of_getElem? h1)
      have := ok.cell n a c' h1 h2
      cases c' with
      | lst ws => obtain ⟨vs, g1, g2⟩ := this; exact ⟨vs, by show upd S.H p o a = _; rw [upd_ne ap]; exact g1, g2.gr gr⟩
      | dct kvs => obtain ⟨xs, g1, g2⟩ := this; exact ⟨xs, by show upd S.H p o a = _; rw [upd_ne ap]; exact g1, g2.gr gr⟩
    · have h1 : (S.L ++ [p])[n]? = some a := h1
      have hn2 : n = S.L.length := by
        have := (List.getElem?_eq_some_iff.mp h1).1
        rw [List.length_append, List.length_singleton] at this
        omega
      subst hn2
      rw [List.getElem?_append_right (Nat.le_refl _), Nat.sub_self] at h1
      rw [hlen, List.getElem?_append_right (Nat.le_refl _), Nat.sub_self] at h2
      cases h1
      cases h2
      exact hc _ gr upd_same
/-- a cell is written -/
theorem ok_set {M : List Cell} (ok : OkS K S M) {n : Nat} {p : Addr} (hp : S.L[n]? = some p) (c : Cell) (o : HO) (hc : ∀ T : Sm, Le S T → T.H p = some o → CellOk K T p c) :
    Le S ⟨S.Z, upd S.H p o, S.L⟩ ∧ OkS K ⟨S.Z, upd S.H p o, S.L⟩ (M.set n c) := by
  have hm : p ∈ S.L := List.mem_of_getElem? hp
  have le : Le S ⟨S.Z, upd S.H p o, S.L⟩ := ⟨Same.refl _, ⟨[], by simp⟩, fun b u h hb => by
    show upd S.H p o b = _
    rw [upd_ne (show b ≠ p from fun e => hb (by rw [e]; exact hm))]; exact h, fun b h => .inl h, fun b h => by
    show upd S.H p o b ≠ none
    by_cases e : b = p
    · subst e; rw [upd_same]; simp
    · rw [upd_ne e]; exact h, fun b h _ _ => h⟩
  refine ⟨le, fun b u h => ?_, ok.nd, by rw [List.length_set]; exact ok.len, ok.zn, fun m a c' h1 h2 => ?_⟩
  · show upd S.H p o b = _
    rw [upd_ne (fun e => by have h : S.Z b = some u := h; rw [e, ok.zn p hm] at h; cases h)]
    exact ok.zh b u h
  · by_cases hmn : m = n
    · subst hmn
      have h1 : S.L[m]? = some a := h1
      rw [hp] at h1
      cases h1
      have hl : m < M.length := by
        have := (List.getElem?_eq_some_iff.mp h2).1
        simpa using this
      rw [List.getElem?_set_self hl] at h2
      cases h2
      exact hc _ le upd_same
    · have h1 : S.L[m]? = some a := h1
      rw [List.getElem?_set_ne (Ne.symm hmn)] at h2
      have ap : a ≠ p := fun e => by
        subst e
        have l1 := (List.getElem?_eq_some_iff.mp h1).1
        exact hmn ((List.getElem?_inj l1 ok.nd).mp (h1.trans hp.symm))
      have := ok.cell m a c' h1 h2
      cases c' with
      | lst ws => obtain ⟨vs, g1, g2⟩ := this; exact ⟨vs, by show upd S.H p o a = _; rw [upd_ne ap]; exact g1, g2.mono le⟩
      | dct kvs => obtain ⟨xs, g1, g2⟩ := this; exact ⟨xs, by show upd S.H p o a = _; rw [upd_ne ap]; exact g1, g2.mono le⟩
end
/-! ### slots, readings -/
abbrev Env := List (Option W)
structure RH (K : PySem.W.Frag) (S : Sm) (σ : L2.St) (δ : Env) : Prop where
  len : σ.length = δ.length
  at_ : ∀ (i : Nat) (w : W), δ[i]? = some (some w) → ∃ v, σ[i]? = some (some v) ∧ Rw K S w v
theorem RH.mono {K : PySem.W.Frag} {S S' : Sm} {σ : L2.St} {δ : Env} (x : Le S S') (r : RH K S σ δ) : RH K S' σ δ := ⟨r.len, fun i w h => let ⟨v, h1, h2⟩ := r.at_ i w h; ⟨v, h1, h2.mono x⟩⟩
theorem RH.set {K : PySem.W.Frag} {S : Sm} {σ : L2.St} {δ : Env} (r : RH K S σ δ) {i : Nat} {v : V} {w : W} (h : Rw K S w v) : RH K S (σ.set i (some v)) (δ.set i (some w)) := by
  refine ⟨by rw [List.length_set, List.length_set]; exact r.len, fun j u e => ?_⟩
  by_cases hj : j = i
  · subst hj
    have hl : j < δ.length := by
      have := (List.getElem?_eq_some_iff.mp e).1
      simpa using this
    rw [List.getElem?_set_self hl] at e
    cases e
    exact ⟨v, List.getElem?_set_self (by rw [r.len]; exact hl), h⟩
  · rw [List.getElem?_set_ne (Ne.symm hj)] at e ⊢
    exact r.at_ j u e
abbrev FH := Env → List Cell → Option (W × List Cell)
def tH (K : PySem.W.Frag) (f : FH) : TE := fun σ H Q => ∃ (S : Sm) (M : List Cell) (δ : Env) (w : W) (M' : List Cell), S.H = H ∧ OkS K S M ∧ RH K S σ δ ∧ f δ M = some (w, M') ∧ ∀ v S', Le S S' → OkS K S' M' → Rw K S' w v → Q v S'.H
abbrev HE (X : Cx) (e : Expr) (f : FH) : Prop := PE X e (tH X.K f)
abbrev FHA := Env → List Cell → Option (List W × List Cell)
def tHA (K : PySem.W.Frag) (f : FHA) : TA := fun σ H Q => ∃ (S : Sm) (M : List Cell) (δ : Env) (ws : List W) (M' : List Cell), S.H = H ∧ OkS K S M ∧ RH K S σ δ ∧ f δ M = some (ws, M') ∧ ∀ vs S', Le S S' → OkS K S' M' → RwL K S' ws vs → Q vs S'.H
abbrev HA (X : Cx) (es : List Expr) (f : FHA) : Prop := PA X es (tHA X.K f)
/-- the slots that hold data -/
def pv1 : Option W → Sl
  | some (.d x) => .val x
  | _ => .un
def pview (δ : Env) : List Sl := δ.map pv1
theorem pview_r {K : PySem.W.Frag} {S : Sm} {σ : L2.St} {δ : Env} {E : Hp} (h : Same S.Z S.H) (r : RH K S σ δ) : R K E (S.st h) σ (pview δ) := by
  refine ⟨fun i s e => ?_, fun i j a ds es e _ _ _ => ?_⟩
  · unfold pview at e
    rw [List.getElem?_map] at e
    obtain ⟨o, ho, rfl⟩ := Option.map_eq_some_iff.mp e
    have hl : i < σ.length := by rw [r.len]; exact (List.getElem?_eq_some_iff.mp ho).1
    cases o with
    | none => exact ⟨_, List.getElem?_eq_getElem hl, trivial⟩
    | some w =>
      obtain ⟨v, h1, h2⟩ := r.at_ i w ho
      cases w with
      | d x => exact ⟨some v, h1, v, rfl, h2⟩
      | l n => exact ⟨some v, h1, trivial⟩
  · unfold pview at e
    rw [List.getElem?_map] at e
    obtain ⟨o, ho, e⟩ := Option.map_eq_some_iff.mp e
    cases o with
    | none => cases e
    | some w => cases w <;> cases e
def lift (f : FE) : FH := fun δ M => (f (pview δ)).map fun d => (.d d, M)
section
variable {X : Cx} {a b c e : Expr} {pos : Pos}
theorem he_lift {f : FE} (h : DE X e f) : HE X e (lift f) := pe_conseq h fun σ H Q q => by
  obtain ⟨S, M, δ, w, M', rfl, ok, r, hf, q⟩ := q
  obtain ⟨d, hd, hf⟩ := Option.map_eq_some_iff.mp hf
  cases hf
  refine ⟨S.H, S.st ok.zh, pview δ, d, rfl, pview_r ok.zh r, hd, fun v T x rv => ?_⟩
  obtain ⟨le, ok'⟩ := ok_ex ok x
  exact q v ⟨T.Z, T.H, S.L⟩ le ok' rv
def hVar (i : Nat) : FH := fun δ M => match δ[i]? with
  | some (some w) => some (w, M)
  | _ => none
theorem he_var (i : Nat) {x : Str} (hN : X.N[i]? = some x := by rfl) (hv : Vis X.env.scope x := by first | exact Or.inl rfl | exact Or.inr (Or.inl rfl) | exact Or.inr (Or.inr rfl)) (hd : (x == ("__debug__" : Str)) = false := by decide)
    (hcd : (x == ("__classdict__" : Str)) = false := by decide) : HE X (.Name x pos) (hVar i) := by
  refine pe_conseq (pe_var hN hv hd hcd) fun σ H Q h => ?_
  obtain ⟨S, M, δ, w, M', rfl, ok, r, hf, q⟩ := h
  unfold hVar at hf
  split at hf
  · rename_i w' hw
    cases hf
    obtain ⟨v, h1, h2⟩ := r.at_ i _ hw
    exact ⟨v, h1, q v S (.refl S) ok h2⟩
  · cases hf
/-! ### argument lists, displays -/
def haNil : FHA := fun _ M => some ([], M)
def haCons (f : FH) (g : FHA) : FHA := fun δ M => (f δ M).bind fun (w, M1) => (g δ M1).bind fun (ws, M2) => some (w :: ws, M2)
theorem ha_nil : HA X [] haNil := pa_conseq pa_nil fun σ H Q h => by
  obtain ⟨S, M, δ, ws, M', rfl, ok, r, hf, q⟩ := h
  cases hf
  exact q [] S (.refl S) ok rfl
theorem ha_cons {es : List Expr} {f : FH} {g : FHA} (h : HE X e f) (t : HA X es g) (hs : starEach (e :: es) X.env = (false, eval e X.env) :: starEach es X.env := by rfl) : HA X (e :: es) (haCons f g) := pa_conseq (pa_cons h t hs) fun σ H Q h => by
  obtain ⟨S, M, δ, ws, M', rfl, ok, r, hf, q⟩ := h
  obtain ⟨⟨w1, M1⟩, h1, hf⟩ := Option.bind_eq_some_iff.mp hf
  obtain ⟨⟨ws2, Mb⟩, h2, hf⟩ := Option.bind_eq_some_iff.mp hf
  cases hf
  exact ⟨S, M, δ, w1, M1, rfl, ok, r, h1, fun v S1 x1 ok1 r1 => ⟨S1, M1, δ, ws2, _, rfl, ok1, r.mono x1, h2, fun vs S2 x2 ok2 r2 => q _ S2 (x1.trans x2) ok2 ⟨v, vs, rfl, r1.mono x2, r2⟩⟩⟩
/-- a list that is a cell -/
def hCell (g : FHA) : FH := fun δ M => (g δ M).bind fun (ws, M1) => if ws.length ≤ lim then some (.l M1.length, M1 ++ [.lst ws]) else none
theorem he_cell {es : List Expr} {g : FHA} (h : HA X es g) : HE X (.List es pos) (hCell g) := pe_conseq (pe_lst h) fun σ H Q h => by
  obtain ⟨S, M, δ, w, M', rfl, ok, r, hf, q⟩ := h
  obtain ⟨⟨ws, M1⟩, h1, hf⟩ := Option.bind_eq_some_iff.mp hf
  have hf : (if ws.length ≤ lim then some (W.l M1.length, M1 ++ [Cell.lst ws]) else none) = some (w, M') := hf
  split at hf
  · rename_i hz
    cases hf
    refine ⟨S, M, δ, ws, M1, rfl, ok, r, h1, fun vs S1 x1 ok1 r1 => ⟨by rw [r1.length]; exact Nat.le_trans hz lim_line, fun p hp => ?_⟩⟩
    obtain ⟨le, ok2⟩ := ok_new ok1 hp (.lst ws) (.lst vs) fun T lt hT => ⟨vs, hT, r1.mono lt⟩
    refine q (.ref p) ⟨S1.Z, upd S1.H p (.lst vs), S1.L ++ [p]⟩ (x1.trans le) ok2 ⟨p, ?_, rfl⟩
    show (S1.L ++ [p])[M1.length]? = some p
    rw [← ok1.len, List.getElem?_append_right (Nat.le_refl _), Nat.sub_self]
    rfl
  · cases hf
end
end Hd

set_option Elab.async false
set_option linter.all false
set_option maxRecDepth 100000
set_option maxHeartbeats 4000000
/-! Cells read as data; subscripts, stores, append; a pure expression over cells read as data. -/
namespace Hd
open PySem PySem.Spec PyProof.Rows L2 Pd
def oAll {α β : Type} (f : α → Option β) : List α → Option (List β)
  | [] => some []
  | a :: r => (f a).bind fun b => (oAll f r).bind fun bs => some (b :: bs)
/-- a value with all that hangs on it, as data -/
def fzW : Nat → List Cell → W → Option D
  | _, _, .d x => some x
  | 0, _, .l _ => none
  | n + 1, M, .l k => match M[k]? with
    | some (.lst ws) => (oAll (fzW n M) ws).map .list
    | some (.dct kvs) => (oAll (fun kw => (fzW n M kw.2).map fun d => ((PyData.str kw.1, d) : D × D)) kvs).map .dict
    | none => none
def Zc (S : Sm) : Hp := fun b => match S.Z b with
  | some o => some o
  | none => if b ∈ S.L then S.H b else none
theorem zc_of {S : Sm} : Same S.Z (Zc S) := fun b o e => by
  unfold Zc
  rw [e]
theorem zc_ok {S : Sm} (h : Same S.Z S.H) : Same (Zc S) S.H := fun b o e => by
  unfold Zc at e
  split at e
  · rename_i o' ho
    cases e
    exact h _ _ ho
  · split at e
    · exact e
    · cases e
theorem zc_at {K : PySem.W.Frag} {S : Sm} {M : List Cell} (ok : OkS K S M) {n : Nat} {a : Addr} (h : S.L[n]? = some a) {o : HO} (ho : S.H a = some o) : Zc S a = some o := by
  have hm := List.mem_of_getElem? h
  unfold Zc
  rw [ok.zn a hm]
  show (if a ∈ S.L then S.H a else none) = some o
  rw [if_pos hm]
  exact ho
theorem fz_rv {K : PySem.W.Frag} {S : Sm} {M : List Cell} (ok : OkS K S M) : ∀ (n : Nat) (w : W) (v : V) (d : D), Rw K S w v → fzW n M w = some d → Rv K (Zc S) d v := by
  intro n
  induction n with
  | zero =>
    intro w v d h e
    cases w with
    | d x => cases e; exact Rv.mono zc_of _ h
    | l k => cases e
  | succ n ih =>
    intro w v d h e
    cases w with
    | d x => cases e; exact Rv.mono zc_of _ h
    | l k =>
      obtain ⟨a, h1, rfl⟩ := h
      simp only [fzW] at e
      split at e
      · rename_i ws hc
        obtain ⟨ds, hd, rfl⟩ := Option.map_eq_some_iff.mp e
        obtain ⟨vs, g1, g2⟩ := ok.cell k a _ h1 hc
        refine .lst (.inl (.inl (zc_at ok h1 g1))) ?_
        clear hc g1 e
        induction ws generalizing vs ds with
        | nil => cases hd; cases g2; exact .nil
        | cons w ws ih2 =>
          obtain ⟨v, r, rfl, q1, q2⟩ := g2
          obtain ⟨d, e1, hd⟩ := Option.bind_eq_some_iff.mp hd
          obtain ⟨ds', e2, hd⟩ := Option.bind_eq_some_iff.mp hd
          cases hd
          exact .cons (ih w v d q1 e1) (ih2 ds' e2 r q2)
      · rename_i kvs hc
        obtain ⟨ds, hd, rfl⟩ := Option.map_eq_some_iff.mp e
        obtain ⟨xs, g1, g2⟩ := ok.cell k a _ h1 hc
        refine .dic (zc_at ok h1 g1) ?_
        clear hc g1 e
        induction kvs generalizing xs ds with
        | nil => cases hd; cases g2; exact .nil
        | cons w ws ih2 =>
          obtain ⟨k', w⟩ := w
          obtain ⟨v, r, rfl, q1, q2⟩ := g2
          obtain ⟨d, e1, hd⟩ := Option.bind_eq_some_iff.mp hd
          obtain ⟨ds', e2, hd⟩ := Option.bind_eq_some_iff.mp hd
          cases hd
          obtain ⟨d', e3, rfl⟩ := Option.map_eq_some_iff.mp e1
          exact .cons (k := Sum.inr k') (ih w v d' q1 e3) (ih2 ds' e2 r q2)
      · cases e
/-- the slots, cells read as data -/
def vw1 (M : List Cell) : Option W → Sl
  | some w => match fzW 9 M w with
    | some d => .val d
    | none => .un
  | none => .un
def view (M : List Cell) (δ : Env) : List Sl := δ.map (vw1 M)
theorem view_r {K : PySem.W.Frag} {S : Sm} {M : List Cell} {σ : L2.St} {δ : Env} {E : Hp} (ok : OkS K S M) (r : RH K S σ δ) : R K E ⟨Zc S, S.H, zc_ok ok.zh⟩ σ (view M δ) := by
  refine ⟨fun i s e => ?_, fun i j a ds es e _ _ _ => ?_⟩
  · unfold view at e
    rw [List.getElem?_map] at e
    obtain ⟨o, ho, rfl⟩ := Option.map_eq_some_iff.mp e
    have hl : i < σ.length := by rw [r.len]; exact (List.getElem?_eq_some_iff.mp ho).1
    cases o with
    | none => exact ⟨_, List.getElem?_eq_getElem hl, trivial⟩
    | some w =>
      obtain ⟨v, h1, h2⟩ := r.at_ i w ho
      refine ⟨some v, h1, ?_⟩
      show RS K E _ (some v) (match fzW 9 M w with | some d => Sl.val d | none => Sl.un)
      cases e : fzW 9 M w with
      | none => exact trivial
      | some d => exact ⟨v, rfl, fz_rv ok 9 w v d h2 e⟩
  · unfold view at e
    rw [List.getElem?_map] at e
    obtain ⟨o, ho, e⟩ := Option.map_eq_some_iff.mp e
    cases o with
    | none => cases e
    | some w =>
      have e : (match fzW 9 M w with | some d => Sl.val d | none => Sl.un) = Sl.own ds := e
      split at e <;> cases e
/-- what a look over the cells left: nothing is frozen by it -/
theorem unview {K : PySem.W.Frag} {S : Sm} {M : List Cell} (ok : OkS K S M) {T : Stt} (x : Ex ⟨Zc S, S.H, zc_ok ok.zh⟩ T) : Le S ⟨S.Z, T.H, S.L⟩ ∧ OkS K ⟨S.Z, T.H, S.L⟩ M := by
  have hs : Same S.H T.H := x.h
  exact ok_ex ok (T := ⟨S.Z, T.H, ok.zh.trans hs⟩) ⟨Same.refl _, hs, fun _ h _ => h⟩
section
variable {X : Cx} {a b c e : Expr} {pos : Pos}
def hView (f : FE) : FH := fun δ M => ((f (view M δ)).bind scalK).map fun d => (.d d, M)
theorem he_view {f : FE} (h : DE X e f) : HE X e (hView f) := pe_conseq h fun σ H Q q => by
  obtain ⟨S, M, δ, w, M', rfl, ok, r, hf, q⟩ := q
  obtain ⟨d, hd, hf⟩ := Option.map_eq_some_iff.mp hf
  cases hf
  obtain ⟨d1, h1, h2⟩ := Option.bind_eq_some_iff.mp hd
  refine ⟨S.H, ⟨Zc S, S.H, zc_ok ok.zh⟩, view M δ, d1, rfl, view_r ok r, h1, fun v T x rv => ?_⟩
  obtain ⟨le, ok'⟩ := unview ok x
  exact q v ⟨S.Z, T.H, S.L⟩ le ok' (scal_rv h2 rv)
/-- tests -/
def tHT (K : PySem.W.Frag) (f : FH) : TT := fun σ H Q => ∃ (S : Sm) (M : List Cell) (δ : Env) (k : Bool) (M' : List Cell), S.H = H ∧ OkS K S M ∧ RH K S σ δ ∧ f δ M = some (.d (.bool k), M') ∧ ∀ S', Le S S' → OkS K S' M' → Q k S'.H
theorem ht_view {f : FE} (h : PT X e (tDT X.K f)) : PT X e (tHT X.K (hView f)) := pt_conseq h fun σ H Q q => by
  obtain ⟨S, M, δ, k, M', rfl, ok, r, hf, q⟩ := q
  obtain ⟨d, hd, hf⟩ := Option.map_eq_some_iff.mp hf
  cases hf
  obtain ⟨d1, h1, h2⟩ := Option.bind_eq_some_iff.mp hd
  have e : d1 = .bool k := by cases d1 <;> cases h2; rfl
  subst e
  refine ⟨S.H, ⟨Zc S, S.H, zc_ok ok.zh⟩, view M δ, k, rfl, view_r ok r, h1, fun T x => ?_⟩
  obtain ⟨le, ok'⟩ := unview ok x
  exact q ⟨S.Z, T.H, S.L⟩ le ok'
theorem ht_of {f : FH} (h : HE X e f) (he : ∀ whole, isTrue e X.env whole = (do let v ← whole; standAt e.pos; holding [v] (truthy v)) := by intro _; rfl) : PT X e (tHT X.K f) := by
  refine pt_conseq (pt_val h he) fun σ H Q q => ?_
  obtain ⟨S, M, δ, k, M', rfl, ok, r, hf, q⟩ := q
  exact ⟨S, M, δ, _, M', rfl, ok, r, hf, fun v S' x ok' rv => by cases rv; exact ⟨k, rfl, q S' x ok'⟩⟩
def hNot (f : FH) : FH := fun δ M => (f δ M).bind fun (w, M1) => match w with
  | .d (.bool k) => some (.d (.bool (!k)), M1)
  | _ => none
theorem ht_not {f : FH} (h : PT X e (tHT X.K f)) : PT X (.UnaryOp .Not e pos) (tHT X.K (hNot f)) := pt_conseq (pt_not h) fun σ H Q q => by
  obtain ⟨S, M, δ, k, M', rfl, ok, r, hf, q⟩ := q
  obtain ⟨⟨w, M1⟩, h1, hf⟩ := Option.bind_eq_some_iff.mp hf
  cases w with
  | l n => cases hf
  | d y =>
    cases y with
    | bool k0 =>
      cases hf
      exact ⟨S, M, δ, k0, _, rfl, ok, r, h1, fun S' x ok' => q S' x ok'⟩
    | _ => cases hf
/-- a new list of whole numbers, reckoned over cells -/
def hViewO (g : List Sl → Option (List D)) : FH := fun δ M => (g (view M δ)).bind fun ys => if allInts ys then some (.d (.list ys), M) else none
theorem viewO_run {K : PySem.W.Frag} {g : List Sl → Option (List D)} {σ : L2.St} {H : Hp} {Q : VK} (q : tH K (hViewO g) σ H Q) : tDO2 K g σ H Q := by
  obtain ⟨S, M, δ, w, M', rfl, ok, r, hf, q⟩ := q
  obtain ⟨ys, h1, hf⟩ := Option.bind_eq_some_iff.mp hf
  split at hf
  · rename_i hi
    cases hf
    refine ⟨S.H, ⟨Zc S, S.H, zc_ok ok.zh⟩, view M δ, ys, rfl, view_r ok r, h1, fun p ws T x h0 z0 h2 h3 => ?_⟩
    have hs : Same S.H T.H := x.h
    have zp : S.Z p = none := ok.zh.free h0
    let T2 : Stt := ⟨upd S.Z p (.lst ws), T.H, fun b o e => by
      by_cases hb : b = p
      · subst hb; rw [upd_same] at e; cases e; exact h2
      · rw [upd_ne hb] at e; exact hs _ _ (ok.zh _ _ e)⟩
    have x2 : Ex (S.st ok.zh) T2 := ⟨same_upd zp _, hs, fun b g1 g2 => by
      show upd S.Z p _ b = none
      rw [upd_ne (show b ≠ p from fun e => by subst e; exact g2 h0)]
      exact g1⟩
    obtain ⟨le, ok'⟩ := ok_ex ok x2
    exact q (.ref p) ⟨T2.Z, T2.H, S.L⟩ le ok' (.lst (.inl (.inl upd_same)) (ints_rv hi h3))
  · cases hf
theorem he_viewO {g : List Sl → Option (List D)} (h : PE X e (tDO2 X.K g)) : HE X e (hViewO g) := pe_conseq h fun σ H Q q => viewO_run q
/-! ### subscripts of cells -/
def hIx (fa fb : FH) : FH := fun δ M => (fa δ M).bind fun (x, M1) => (fb δ M1).bind fun (y, Mb) => match x, y with
  | .l n, .d (.int i) => match Mb[n]? with
    | some (.lst ws) => (atI ws i).map fun w => (w, Mb)
    | _ => none
  | .d x, .d y => (ixD x y).map fun d => (.d d, Mb)
  | _, _ => none
theorem atI_rw {K : PySem.W.Frag} {S : Sm} {ws : List W} {vs : List V} {i : Int} {w : W} (h : RwL K S ws vs) (e : atI ws i = some w) : ∃ v, atI vs i = some v ∧ Rw K S w v := by
  unfold atI at e ⊢
  rw [h.length]
  cases ei : ixN ws.length i with
  | none => rw [ei] at e; cases e
  | some j =>
    rw [ei] at e
    obtain ⟨v, h1, h2⟩ := h.get (show ws[j]? = some w from e)
    exact ⟨v, h1, h2⟩
theorem he_ix {fa fb : FH} (ha : HE X a fa) (hb : HE X b fb) (hs : PlainIx b) : HE X (.Subscript a b pos) (hIx fa fb) := by
  refine pe_conseq (pe_ix ix_seq ha hb hs) fun σ H Q h => ?_
  obtain ⟨S, M, δ, w, M', rfl, ok, r, hf, q⟩ := h
  obtain ⟨⟨x, M1⟩, h1, hf⟩ := Option.bind_eq_some_iff.mp hf
  obtain ⟨⟨y, Mb⟩, h2, hf⟩ := Option.bind_eq_some_iff.mp hf
  refine ⟨S, M, δ, x, M1, rfl, ok, r, h1, fun v S1 x1 ok1 r1 => ⟨S1, M1, δ, y, Mb, rfl, ok1, r.mono x1, h2, fun u S2 x2 ok2 r2 => ?_⟩⟩
  have r1' := r1.mono x2
  have x12 := x1.trans x2
  cases x with
  | l n =>
    cases y with
    | l m => cases hf
    | d y =>
      cases y with
      | int i =>
        cases r2
        have hf : (match Mb[n]? with | some (.lst ws) => (atI ws i).map fun w => (w, Mb) | _ => none) = some (w, M') := hf
        split at hf
        · rename_i ws hc
          obtain ⟨w', hw, hf⟩ := Option.map_eq_some_iff.mp hf
          cases hf
          obtain ⟨p, g1, rfl⟩ := r1'
          obtain ⟨vs, g2, g3⟩ := ok2.cell n p _ g1 hc
          obtain ⟨z, z1, z2⟩ := atI_rw g3 hw
          exact .inl ⟨p, vs, i, z, rfl, rfl, .inl (.inl g2), z1, q z S2 x12 ok2 z2⟩
        · cases hf
      | _ => cases hf
  | d x =>
    cases y with
    | l m => cases hf
    | d y =>
      have hf : ((ixD x y).map fun d => (W.d d, Mb)) = some (w, M') := hf
      obtain ⟨d, hd, hf⟩ := Option.map_eq_some_iff.mp hf
      cases hf
      have r1'' : Rv X.K S2.Z x v := r1'
      have r2'' : Rv X.K S2.Z y u := r2
      cases y with
      | int i =>
        cases r2''
        cases x with
        | list ds =>
          cases r1'' with
          | lst a1 b1 =>
            obtain ⟨z, e1, e2⟩ := Pd.atI_rv b1 hd
            exact .inl ⟨_, _, i, z, rfl, rfl, ok2.zh.seq a1, e1, q z S2 x12 ok2 e2⟩
        | tuple ds =>
          cases r1'' with
          | tup a1 b1 =>
            obtain ⟨z, e1, e2⟩ := Pd.atI_rv b1 hd
            exact .inr (.inl ⟨_, _, i, z, rfl, rfl, sqt_mono ok2.zh a1, e1, q z S2 x12 ok2 e2⟩)
        | str z =>
          cases r1''
          simp only [ixD] at hd
          split at hd
          · rename_i hz
            obtain ⟨c, c1, rfl⟩ := Option.map_eq_some_iff.mp hd
            exact .inr (.inr ⟨z, i, c, rfl, rfl, Nat.le_trans hz lim_line, c1, q _ S2 x12 ok2 (Rv.str _)⟩)
          · cases hd
        | _ => cases hd
      | _ => cases x <;> cases hd
def hGet (fa : FH) (k : Str) : FH := fun δ M => (fa δ M).bind fun (x, M1) => match x with
  | .l n => match M1[n]? with
    | some (.dct kvs) => (kvs.lookup k).map fun w => (w, M1)
    | _ => none
  | .d (.dict ds) => (lookD ds k).map fun d => (.d d, M1)
  | _ => none
theorem he_get {fa : FH} {k : Str} {kp : Pos} {kj : Nat} (hu : X.A.units + 1 < cLine) (ha : HE X a fa) (hs : NoSl (.Constant (.str k) kj kp)) : HE X (.Subscript a (.Constant (.str k) kj kp) pos) (hGet fa k) := by
  refine pe_conseq (pe_dget hu ha (pe_str (x := k)) hs) fun σ H Q h => ?_
  obtain ⟨S, M, δ, w, M', rfl, ok, r, hf, q⟩ := h
  obtain ⟨⟨x, M1⟩, h1, hf⟩ := Option.bind_eq_some_iff.mp hf
  refine ⟨S, M, δ, x, M1, rfl, ok, r, h1, fun v S1 x1 ok1 r1 => ?_⟩
  show ∃ a v', v = .ref a ∧ DGet S1.H a (.str k) (some v') ∧ Q v' S1.H
  cases x with
  | l n =>
    have hf : (match M1[n]? with | some (.dct kvs) => (kvs.lookup k).map fun w => (w, M1) | _ => none) = some (w, M') := hf
    split at hf
    · rename_i kvs hc
      obtain ⟨w', hw, hf⟩ := Option.map_eq_some_iff.mp hf
      cases hf
      obtain ⟨p, g1, rfl⟩ := r1
      obtain ⟨xs, g2, g3⟩ := ok1.cell n p _ g1 hc
      obtain ⟨z, z1, z2⟩ := g3.get hw
      exact ⟨p, z, rfl, by rw [← z1]; exact DGet.k (k := Sum.inr k) g2, q z S1 x1 ok1 z2⟩
    · cases hf
  | d x =>
    cases x with
    | dict ds =>
      have hf : ((lookD ds k).map fun d => (W.d d, M1)) = some (w, M') := hf
      obtain ⟨d, hd, hf⟩ := Option.map_eq_some_iff.mp hf
      cases hf
      have r1' : Rv X.K S1.Z (.dict ds) v := r1
      cases r1' with
      | dic a1 b1 =>
        obtain ⟨z, z1, z2⟩ := lookD_rv b1 hd
        exact ⟨_, z, rfl, by rw [← z1]; exact DGet.k (k := Sum.inr k) (ok1.zh _ _ a1), q z S1 x1 ok1 z2⟩
    | _ => cases hf
end
end Hd

set_option Elab.async false
set_option linter.all false
set_option maxRecDepth 100000
set_option maxHeartbeats 4000000
/-! Dict displays as cells, append, statements, calls and defs with a store. -/
namespace Hd
open PySem PySem.Spec PyProof.Rows L2 Pd
/-! ### a dict written out, a cell -/
def hMap : List (Str × FH) → Env → List Cell → Option (List (Str × W) × List Cell)
  | [], _, M => some ([], M)
  | (k, f) :: r, δ, M => (f δ M).bind fun (w, M1) => (hMap r δ M1).bind fun (ws, M2) => some ((k, w) :: ws, M2)
def hDict (kfs : List (Str × FH)) : FH := fun δ M => (hMap kfs δ M).bind fun (kvs, M1) => if kfs.length ≤ 15 && decide (kfs.map (·.1)).Nodup then some (.l M1.length, M1 ++ [.dct kvs]) else none
def trsH (K : PySem.W.Frag) (kfs : List (Str × FH)) : List (TE × TE) := kfs.map fun kf => (tC (.str kf.1), tH K kf.2)
theorem pairs_runH {K : PySem.W.Frag} {σ : L2.St} {δ : Env} : ∀ {kfs : List (Str × FH)} {S : Sm} {M M' : List Cell} {ds : List (Str × W)} {Q : List (V × V) → Hp → Prop}, OkS K S M → RH K S σ δ → hMap kfs δ M = some (ds, M') →
    (∀ (kvs : List (Key × V)) S', Le S S' → OkS K S' M' → RwK K S' ds kvs → kvs.map (·.1) = kfs.map (fun kf => Sum.inr kf.1) → Q (kvs.map fun kv => (kV kv.1, kv.2)) S'.H) → tPairs (trsH K kfs) σ S.H Q
  | [], S, M, M', ds, Q, ok, r, hf, q => by cases hf; exact q [] S (.refl S) ok rfl rfl
  | (k, f) :: rest, S, M, M', ds, Q, ok, r, hf, q => by
    simp only [hMap] at hf
    obtain ⟨⟨w, M1⟩, hd, hf⟩ := Option.bind_eq_some_iff.mp hf
    obtain ⟨⟨ws, Mb⟩, he, hf⟩ := Option.bind_eq_some_iff.mp hf
    cases hf
    refine ⟨S, M, δ, w, M1, rfl, ok, r, hd, fun v S1 x1 ok1 r1 => ?_⟩
    refine pairs_runH (kfs := rest) ok1 (r.mono x1) he fun kvs S2 x2 ok2 r2 ek => ?_
    exact q ((Sum.inr k, v) :: kvs) S2 (x1.trans x2) ok2 ⟨v, kvs, rfl, r1.mono x2, r2⟩ (by rw [List.map_cons, List.map_cons, ek])
section
variable {X : Cx} {a b c e : Expr} {pos : Pos}
theorem he_dict {keys : List (Option Expr)} {values : List Expr} {kfs : List (Str × FH)} (h : PPs X pos keys values (trsH X.K kfs)) (hall : keys.all (·.isSome) = true := by rfl) (hl : keys.length = values.length := by rfl) (h0 : keys ≠ [] := by (intro z; cases z)) (h15 : keys.length ≤ 15 := by decide) : HE X (.Dict keys values pos) (hDict kfs) := by
  refine pe_conseq (pe_disp h hall hl h0 h15) fun σ H Q h => ?_
  obtain ⟨S, M, δ, w, M', rfl, ok, r, hf, q⟩ := h
  unfold hDict at hf
  obtain ⟨⟨ds, M1⟩, hx, hf⟩ := Option.bind_eq_some_iff.mp hf
  have hf : (if kfs.length ≤ 15 && decide (kfs.map (·.1)).Nodup then some (W.l M1.length, M1 ++ [Cell.dct ds]) else none) = some (w, M') := hf
  split at hf
  · rename_i hz
    cases hf
    rw [Bool.and_eq_true, decide_eq_true_eq, decide_eq_true_eq] at hz
    intro p hp
    have zp : S.Z p = none := ok.zh.free hp
    obtain ⟨le0, ok0⟩ := ok_ex ok (T := ⟨S.Z, upd S.H p (.dK []), ok.zh.trans (same_upd hp _)⟩) ⟨Same.refl _, same_upd hp _, fun _ h _ => h⟩
    refine pairs_runH (S := ⟨S.Z, upd S.H p (.dK []), S.L⟩) ok0 (r.mono le0) hx fun kvs S2 x2 ok2 rk ek => ?_
    have nl : p ∉ S.L := not_cell ok hp
    have hp2 : S2.H p = some (.dK []) := x2.f p _ upd_same nl
    have zp2 : S2.Z p = none := x2.c p zp (by show upd S.H p _ p ≠ none; rw [upd_same]; simp) nl
    have np2 : p ∉ S2.L := fun hm => by
      rcases x2.n p hm with g | g
      · exact nl g
      · have g : upd S.H p (.dK []) p = none := g
        rw [upd_same] at g; cases g
    have nd : (kvs.map (·.1)).Nodup := by
      rw [ek]
      have e3 : kfs.map (fun kf => (Sum.inr kf.1 : Key)) = (kfs.map (·.1)).map Sum.inr := by rw [List.map_map]; rfl
      rw [e3]
      exact List.Pairwise.map _ (fun a b hab hc => hab (Sum.inr.inj hc)) hz.2
    have lk : kvs.length = kfs.length := by
      have := congrArg List.length ek
      simpa using this
    refine ⟨hp2, kvs, rfl, by omega, ?_⟩
    have em : mergeK [] kvs = kvs := by rw [mergeK_fresh (by simpa using nd)]; rfl
    rw [em]
    obtain ⟨le3, ok3⟩ := ok_new2 ok2 (le0.trans x2) hp np2 zp2 (.dct ds) (.dK kvs) fun T gr hT => ⟨kvs, hT, rk.gr gr⟩
    refine q (.ref p) ⟨S2.Z, upd S2.H p (.dK kvs), S2.L ++ [p]⟩ le3 ok3 ⟨p, ?_, rfl⟩
    show (S2.L ++ [p])[M1.length]? = some p
    rw [← ok2.len, List.getElem?_append_right (Nat.le_refl _), Nat.sub_self]
    rfl
  · cases hf
/-! ### and -/
def hAnd (fa fb : FH) : FH := fun δ M => (fa δ M).bind fun (x, M1) => match x with
  | .d (.bool true) => fb δ M1
  | .d (.bool false) => some (.d (.bool false), M1)
  | _ => none
theorem he_and {rest : List Expr} {fa fb : FH} (ha : HE X a fa) (hb : HE X (.BoolOp .And (b :: rest) pos) fb) : HE X (.BoolOp .And (a :: b :: rest) pos) (hAnd fa fb) := by
  refine pe_conseq (pe_and ha hb) fun σ H Q h => ?_
  obtain ⟨S, M, δ, w, M', rfl, ok, r, hf, q⟩ := h
  obtain ⟨⟨x, M1⟩, hx, hf⟩ := Option.bind_eq_some_iff.mp hf
  refine ⟨S, M, δ, x, M1, rfl, ok, r, hx, fun v S1 x1 ok1 r1 => ?_⟩
  cases x with
  | l n => cases hf
  | d x =>
    cases x with
    | bool k =>
      cases r1
      refine ⟨k, rfl, ?_⟩
      cases k with
      | true => rw [if_pos rfl]; exact ⟨S1, M1, δ, w, M', rfl, ok1, r.mono x1, hf, fun v S2 x2 ok2 r2 => q v S2 (x1.trans x2) ok2 r2⟩
      | false =>
        rw [if_neg (by decide)]
        cases hf
        exact q _ S1 x1 ok1 (Rv.bl false)
    | _ => cases hf
/-! ### statements -/
inductive OutH where
  | nx (δ : Env) (M : List Cell)
  | rt (w : W) (M : List Cell)
  | bk (δ : Env) (M : List Cell)
  | ct (δ : Env) (M : List Cell)
abbrev GH := Env → List Cell → Option OutH
def fitsH (K : PySem.W.Frag) (Se : Sm) (Dn : Ends) : OutH → Prop
  | .nx δ M => ∀ σ S, Le Se S → OkS K S M → RH K S σ δ → Dn.nx σ S.H
  | .rt w M => ∀ v S, Le Se S → OkS K S M → Rw K S w v → Dn.rt v S.H
  | .bk δ M => ∀ σ S, Le Se S → OkS K S M → RH K S σ δ → Dn.bk σ S.H
  | .ct δ M => ∀ σ S, Le Se S → OkS K S M → RH K S σ δ → Dn.ct σ S.H
def tGH (K : PySem.W.Frag) (g : GH) : TS := fun Dn σ H => ∃ (Se S : Sm) (M : List Cell) (δ : Env) (o : OutH), S.H = H ∧ Le Se S ∧ OkS K S M ∧ RH K S σ δ ∧ g δ M = some o ∧ fitsH K Se Dn o
abbrev HS (X : Cx) (st : Stmt) (g : GH) : Prop := PS X st (tGH X.K g)
abbrev HB (X : Cx) (sts : List Stmt) (g : GH) : Prop := PSs X sts (tGH X.K g)
def sSeq (g g' : GH) : GH := fun δ M => (g δ M).bind fun o => match o with
  | .nx δ' M' => g' δ' M'
  | o => some o
def sNil : GH := fun δ M => some (.nx δ M)
theorem hb_nil : HB X [] sNil := pss_conseq pss_nil fun Dn σ H h => by
  obtain ⟨Se, S, M, δ, o, rfl, x, ok, r, hf, q⟩ := h
  cases hf
  exact q σ S x ok r
theorem hb_cons {st : Stmt} {rest : List Stmt} {g g' : GH} (h : HS X st g) (t : HB X rest g') : HB X (st :: rest) (sSeq g g') := pss_conseq (pss_cons h t) fun Dn σ H h => by
  obtain ⟨Se, S, M, δ, o, rfl, x, ok, r, hf, q⟩ := h
  obtain ⟨o1, h1, hf⟩ := Option.bind_eq_some_iff.mp hf
  refine ⟨Se, S, M, δ, o1, rfl, x, ok, r, h1, ?_⟩
  cases o1 with
  | nx δ' M' => exact fun σ' S' x' ok' r' => ⟨Se, S', M', δ', o, rfl, x', ok', r', hf, q⟩
  | rt w M' => cases hf; exact q
  | bk δ' M' => cases hf; exact q
  | ct δ' M' => cases hf; exact q
theorem hb_one {st : Stmt} {g : GH} (h : HS X st g) : HB X [st] g := pss_one h
def sIf (ft : FH) (g g' : GH) : GH := fun δ M => match ft δ M with
  | some (.d (.bool true), M1) => g δ M1
  | some (.d (.bool false), M1) => g' δ M1
  | _ => none
theorem hs_if {ft : FH} {s1 s2 : List Stmt} {g g' : GH} (h : PT X c (tHT X.K ft)) (h1 : HB X s1 g) (h2 : HB X s2 g') : HS X (.If c s1 s2 pos) (sIf ft g g') := ps_conseq (ps_if h h1 h2) fun Dn σ H h => by
  obtain ⟨Se, S, M, δ, o, rfl, x, ok, r, hf, q⟩ := h
  unfold sIf at hf
  split at hf
  · rename_i M1 ht
    refine ⟨S, M, δ, true, M1, rfl, ok, r, ht, fun S1 x1 ok1 => ?_⟩
    refine iteT ?_
    exact ⟨Se, S1, M1, δ, o, rfl, x.trans x1, ok1, r.mono x1, hf, q⟩
  · rename_i M1 ht
    refine ⟨S, M, δ, false, M1, rfl, ok, r, ht, fun S1 x1 ok1 => ?_⟩
    refine iteF ?_
    exact ⟨Se, S1, M1, δ, o, rfl, x.trans x1, ok1, r.mono x1, hf, q⟩
  · cases hf
def sRet (f : FH) : GH := fun δ M => (f δ M).map fun (w, M1) => .rt w M1
theorem hs_ret {f : FH} (h : HE X e f) : HS X (.Return (some e) pos) (sRet f) := ps_conseq (ps_ret h) fun Dn σ H h => by
  obtain ⟨Se, S, M, δ, o, rfl, x, ok, r, hf, q⟩ := h
  obtain ⟨⟨w, M1⟩, hx, rfl⟩ := Option.map_eq_some_iff.mp hf
  exact ⟨S, M, δ, w, M1, rfl, ok, r, hx, fun v S1 x1 ok1 r1 => q v S1 (x.trans x1) ok1 r1⟩
def sRetN : GH := fun _ M => some (.rt (.d .none) M)
theorem hs_retN : HS X (.Return none pos) sRetN := ps_conseq ps_retN fun Dn σ H h => by
  obtain ⟨Se, S, M, δ, o, rfl, x, ok, r, hf, q⟩ := h
  cases hf
  exact q _ S x ok Rv.non
def sBk : GH := fun δ M => some (.bk δ M)
def sCt : GH := fun δ M => some (.ct δ M)
theorem hs_break : HS X (.Break pos) sBk := ps_conseq ps_break fun Dn σ H h => by
  obtain ⟨Se, S, M, δ, o, rfl, x, ok, r, hf, q⟩ := h
  cases hf
  exact q σ S x ok r
theorem hs_continue : HS X (.Continue pos) sCt := ps_conseq ps_continue fun Dn σ H h => by
  obtain ⟨Se, S, M, δ, o, rfl, x, ok, r, hf, q⟩ := h
  cases hf
  exact q σ S x ok r
/-- x = e -/
def sSet (i : Nat) (f : FH) : GH := fun δ M => (f δ M).map fun (w, M1) => .nx (δ.set i (some w)) M1
theorem hs_set {i : Nat} {x : Str} {pos' : Pos} {f : FH} (hN : X.N.Nodup) (hi : X.N[i]? = some x) (hx : Loc X.env.scope x) (h : HE X e f)
    (hf : X.fn x = true ∨ X.env.scope.names.lookup x = some .local := by first | exact .inl rfl | exact .inr rfl | assumption) (hs : swapsWith e (some (.Name x pos')) pos.line X.env = pure false := by rfl) : HS X (.Assign [.Name x pos'] e pos) (sSet i f) :=
  ps_conseq (ps_set (i := i) hN hi hx h hs hf) fun Dn σ H h => by
    obtain ⟨Se, S, M, δ, o, rfl, x, ok, r, hf, q⟩ := h
    obtain ⟨⟨w, M1⟩, hx, rfl⟩ := Option.map_eq_some_iff.mp hf
    exact ⟨S, M, δ, w, M1, rfl, ok, r, hx, fun v S1 x1 ok1 r1 => q _ S1 (x.trans x1) ok1 ((r.mono x1).set r1)⟩
theorem setH_run {K : PySem.W.Frag} {i : Nat} {f : FH} {Dn : Ends} {σ : L2.St} {H : Hp} (h : tGH K (sSet i f) Dn σ H) : tAsg (tH K f) (gName i) Dn σ H := by
  obtain ⟨Se, S, M, δ, o, rfl, x, ok, r, hf, q⟩ := h
  obtain ⟨⟨w, M1⟩, hx, rfl⟩ := Option.map_eq_some_iff.mp hf
  exact ⟨S, M, δ, w, M1, rfl, ok, r, hx, fun v S1 x1 ok1 r1 => q _ S1 (x.trans x1) ok1 ((r.mono x1).set r1)⟩
theorem nlc_run {K : PySem.W.Frag} {fi : FI} {i : Nat} {ft fe : FE} {σ : L2.St} {H : Hp} {Q : VK} (h : tDO2 K (nLc fi i ft fe) σ H Q) : tLc (tWI K fi) (gName i) (tDT K ft) (tD K fe) [i] σ H Q := by
  obtain ⟨E, S, δ, ys, rfl, r, hf, q⟩ := h
  obtain ⟨ds, hx, hf⟩ := Option.bind_eq_some_iff.mp hf
  obtain ⟨ys', hy, hf⟩ := Option.bind_eq_some_iff.mp hf
  split at hf
  · rename_i hz
    cases hf
    exact lc_runO r hx hy hz q
  · cases hf
theorem hs_setLc {i j : Nat} {y x : Str} {py spos : Pos} {elt tg iter : Expr} {ifs : List Expr} {scope : Scope} {fi : FI} {ft fe : FE} (hc : X.calm = true) (hN : X.N.Nodup) (hy : X.N[j]? = some y) (hyl : X.env.scope.names.lookup y = some .local)
    (hsw : swapsWith (.ListComp elt [⟨tg, iter, ifs, 0⟩] scope pos) (some (.Name y py)) spos.line X.env = pure true) (hi : WI X tg iter fi) (ok : BlkOk X.N X.env.scope scope [(x, i)])
    (hg : ∀ (s : Shared) (H : Hp) (C : Addr) (cl : List (Str × Addr)) (fp : List Addr), PG (X.blk s H scope (compEnvC scope cl C X.env) fp) tg (gName i)) (ht : ∀ (s : Shared) (H : Hp) (C : Addr) (cl : List (Str × Addr)) (fp : List Addr), PTs (X.blk s H scope (compEnvC scope cl C X.env) fp) ifs (tDT X.K ft))
    (he : ∀ (s : Shared) (H : Hp) (C : Addr) (cl : List (Str × Addr)) (fp : List Addr), PE (X.blk s H scope (compEnvC scope cl C X.env) fp) elt (tD X.K fe)) (hs : ∀ x, foldedSetIterable iter X.env x = pure x := by intro _; rfl) :
    HS X (.Assign [.Name y py] (.ListComp elt [⟨tg, iter, ifs, 0⟩] scope pos) spos) (sSet j (hViewO (nLc fi i ft fe))) :=
  ps_conseq (ps_setLc (own := [(x, i)]) (i := j) hc hN hy hyl hsw hi ok hg ht he hs) fun Dn σ H h => nlc_run (viewO_run (Q := fun x H1 => gName j x σ H1 Dn.nx) (setH_run h))
/-- o.append(e) -/
def sApp (fo f : FH) : GH := fun δ M => (fo δ M).bind fun (x, M1) => (f δ M1).bind fun (w, M2) => match x with
  | .l n => match M1[n]?, M2[n]? with
    | some (.lst _), some (.lst ws) => if ws.length < lim then some (.nx δ (M2.set n (.lst (ws ++ [w])))) else none
    | _, _ => none
  | _ => none
theorem hs_append {o : Expr} {apos cpos epos : Pos} {fo f : FH} (ho : HE X o fo) (h : HE X e f)
    (hbase : attributeBase o "append" X.env (eval o X.env) = eval o X.env := by rfl)
    (hfew : ((backTo cpos (starEach [e] X.env)).all (fun x => !x.1) && (backToKw cpos (keywordEach [] X.env)).all (fun x => x.1.isSome) && decide ([e].length + ([] : List Keyword).length + (if ([] : List Keyword).isEmpty then 0 else 1) < 30)) = true := by rfl)
    (hline : (apos.endLine == cpos.line) = true := by rfl) (hs : starEach [e] X.env = (false, eval e X.env) :: starEach [] X.env := by rfl) (hplain : (backTo cpos (starEach [] X.env)).any (·.1) = false := by rfl)
    : HS X (.Expr (.Call (.Attribute o "append" apos) [e] [] cpos) epos) (sApp fo f) :=
  ps_conseq (ps_expr (pe_bm PySem.F.plainAttrs_list PySem.F.slot_list_append PySem.F.type_list_append mt_append ho (pa_cons h pa_nil hs) hbase hfew hline hs hplain)) fun Dn σ H h => by
    obtain ⟨Se, S, M, δ, o, rfl, xe, ok, r, hf, q⟩ := h
    obtain ⟨⟨x, M1⟩, h1, hf⟩ := Option.bind_eq_some_iff.mp hf
    obtain ⟨⟨w, Mb⟩, h2, hf⟩ := Option.bind_eq_some_iff.mp hf
    refine ⟨S, M, δ, x, M1, rfl, ok, r, h1, fun v S1 x1 ok1 r1 => ?_⟩
    cases x with
    | d x => cases hf
    | l n =>
      have hf : (match M1[n]?, Mb[n]? with | some (.lst _), some (.lst ws) => if ws.length < lim then some (OutH.nx δ (Mb.set n (.lst (ws ++ [w])))) else none | _, _ => none) = some o := hf
      split at hf
      · rename_i ws0 ws hc0 hc
        split at hf
        · rename_i hz
          cases hf
          obtain ⟨p, g1, rfl⟩ := r1
          obtain ⟨vs0, g2, g3⟩ := ok1.cell n p _ g1 hc0
          refine ⟨.inl ⟨rfl, vs0, .inl (.inl g2)⟩, S1, M1, δ, w, Mb, rfl, ok1, r.mono x1, h2, fun y S2 x2 ok2 r2 => ?_⟩
          obtain ⟨t, et⟩ := x2.l
          have g1' : S2.L[n]? = some p := by rw [et, List.getElem?_append_left (List.getElem?_eq_some_iff.mp g1).1]; exact g1
          obtain ⟨vs, g4, g5⟩ := ok2.cell n p _ g1' hc
          refine ⟨p, vs, y, rfl, rfl, g4, by rw [g5.length]; exact Nat.lt_of_lt_of_le hz lim_line, ?_⟩
          obtain ⟨le3, ok3⟩ := ok_set ok2 g1' (.lst (ws ++ [w])) (.lst (vs ++ [y])) fun T lt hT => ⟨_, hT, RwL.append (g5.mono lt) ⟨y, [], rfl, r2.mono lt, rfl⟩⟩
          exact q σ ⟨S2.Z, upd S2.H p (.lst (vs ++ [y])), S2.L⟩ (xe.trans (x1.trans (x2.trans le3))) ok3 (r.mono (x1.trans (x2.trans le3)))
        · cases hf
      · cases hf
/-! ### for -/
abbrev FHI := Env → List Cell → Option (List D × List Cell)
def tHI (K : PySem.W.Frag) (f : FHI) : TI := fun σ H Rk => ∃ (S : Sm) (M : List Cell) (δ : Env) (ds : List D) (M' : List Cell), S.H = H ∧ OkS K S M ∧ RH K S σ δ ∧ f δ M = some (ds, M') ∧ ∀ J S' (ok' : OkS K S' M'), Le S S' → ItD K J (S'.st ok'.zh) ds → Rk J S'.H
abbrev HI (X : Cx) (tg e : Expr) (f : FHI) : Prop := PI X tg e (tHI X.K f)
def iLift (fi : FI) : FHI := fun δ M => (fi (pview δ)).map fun ds => (ds, M)
theorem hi_lift {tg : Expr} {fi : FI} (h : WI X tg e fi) : HI X tg e (iLift fi) := pi_conseq h fun σ H Rk q => by
  obtain ⟨S, M, δ, ds, M', rfl, ok, r, hf, q⟩ := q
  obtain ⟨es, hd, hf⟩ := Option.map_eq_some_iff.mp hf
  cases hf
  refine ⟨S.H, S.st ok.zh, pview δ, ds, rfl, pview_r ok.zh r, hd, fun J T x it => ?_⟩
  obtain ⟨le, ok'⟩ := ok_ex ok x
  exact q J ⟨T.Z, T.H, S.L⟩ ok' le it
def iH1 (g : FHA) : FHI := fun δ M => (g δ M).bind fun (ws, M1) => match ws with
  | [.d (.int j)] => if -(2 ^ 62) ≤ j ∧ j < 2 ^ 62 then some (rangeD 0 j.toNat, M1) else none
  | _ => none
def iH2 (g : FHA) : FHI := fun δ M => (g δ M).bind fun (ws, M1) => match ws with
  | [.d (.int i), .d (.int j)] => if -(2 ^ 62) ≤ i ∧ i < 2 ^ 62 ∧ -(2 ^ 62) ≤ j ∧ j < 2 ^ 62 then some (rangeD i (j - i).toNat, M1) else none
  | _ => none
theorem hi_range1 {tg : Expr} {p : Pos} {g : FHA} (hg : Gl X "range") (hm : X.mg "range" = none) (ha : HA X [a] g) (hs : starEach [a] X.env = [(false, eval a X.env)] := by rfl) : HI X tg (.Call (.Name "range" p) [a] [] pos) (iH1 g) := by
  refine pi_conseq (pi_range1 hg hm ha hs) fun σ H Rk h => ?_
  obtain ⟨S, M, δ, ds, M', rfl, ok, r, hf, q⟩ := h
  obtain ⟨⟨es, M1⟩, hx, hf⟩ := Option.bind_eq_some_iff.mp hf
  refine ⟨S, M, δ, es, M1, rfl, ok, r, hx, fun vs S1 x1 ok1 r1 => ?_⟩
  simp only at hf
  split at hf
  · split at hf
    · rename_i j hz
      cases hf
      obtain ⟨v, t, rfl, r2, r3⟩ := r1
      cases r3
      cases r2
      exact ⟨j, rfl, hz.1, hz.2, q _ S1 ok1 x1 itd_range⟩
    · cases hf
  · cases hf
theorem hi_range2 {tg : Expr} {p : Pos} {g : FHA} (hg : Gl X "range") (hm : X.mg "range" = none) (ha : HA X [a, b] g) (hs : starEach [a, b] X.env = [(false, eval a X.env), (false, eval b X.env)] := by rfl) (hs2 : starEach [b] X.env = [(false, eval b X.env)] := by rfl) : HI X tg (.Call (.Name "range" p) [a, b] [] pos) (iH2 g) := by
  refine pi_conseq (pi_range2 hg hm ha hs hs2) fun σ H Rk h => ?_
  obtain ⟨S, M, δ, ds, M', rfl, ok, r, hf, q⟩ := h
  obtain ⟨⟨es, M1⟩, hx, hf⟩ := Option.bind_eq_some_iff.mp hf
  refine ⟨S, M, δ, es, M1, rfl, ok, r, hx, fun vs S1 x1 ok1 r1 => ?_⟩
  simp only at hf
  split at hf
  · split at hf
    · rename_i i j hz
      cases hf
      obtain ⟨v, t, rfl, r2, v2, t2, rfl, r4, r3⟩ := r1
      cases r3
      cases r2
      cases r4
      exact ⟨i, j, rfl, hz, q _ S1 ok1 x1 itd_range⟩
    · cases hf
  · cases hf
def forH (i : Nat) (body : GH) : List D → GH
  | [], δ, M => some (.nx δ M)
  | d :: r, δ, M => match body (δ.set i (some (.d d))) M with
    | some (.nx δ' M') => forH i body r δ' M'
    | some (.ct δ' M') => forH i body r δ' M'
    | some (.bk δ' M') => some (.nx δ' M')
    | some (.rt w M') => some (.rt w M')
    | none => none
def sFor (fi : FHI) (i : Nat) (body : GH) : GH := fun δ M => (fi δ M).bind fun (ds, M1) => forH i body ds δ M1
theorem hs_for {tg iter : Expr} {body : List Stmt} {fi : FHI} {i : Nat} {g : GH} (hp : PassesOwn (model X.prog X.w) X.A X.env X.xe) (hc : X.calm = true) (hi : HI X tg iter fi) (hg : PG X tg (gName i)) (hb : HB X body g) (hs : ∀ x, foldedSetIterable iter X.env x = pure x := by intro _; rfl) : HS X (.For tg iter body [] pos) (sFor fi i g) :=
  ps_conseq (ps_for hp hc hi hg hb (hs := hs)) fun Dn σ H h => by
    obtain ⟨Se, S, M, δ, o, rfl, x, ok, r, hf, q⟩ := h
    obtain ⟨⟨ds, M1⟩, hx, hf⟩ := Option.bind_eq_some_iff.mp hf
    have hf : forH i g ds δ M1 = some o := hf
    refine ⟨S, M, δ, ds, M1, rfl, ok, r, hx, fun J S1 ok1 x1 it => ?_⟩
    have xe : Le Se S1 := x.trans x1
    let Pv : Nat → L2.St → Hp → Prop := fun k σ H => ∃ (S' : Sm) (M' : List Cell) (δ' : Env), S'.H = H ∧ Le S1 S' ∧ OkS X.K S' M' ∧ RH X.K S' σ δ' ∧ forH i g (ds.drop k) δ' M' = some o
    refine ⟨fun k m σ H => m = ds.length - k ∧ k ≤ ds.length ∧ Pv k σ H, ⟨ds.length, by simp, Nat.zero_le _, S1, M1, δ, rfl, .refl S1, ok1, r.mono x1, hf⟩, ?_⟩
    rintro k m σ H ⟨rfl, hk, S', M', δ', rfl, x', ok', r', hl⟩
    by_cases hlt : k < ds.length
    · refine .inr ⟨it.go k (S'.st ok'.zh) x'.z hlt, Pv (k + 1), fun σ' H' p => ⟨ds.length - (k + 1), by omega, rfl, hlt, p⟩, fun v H' hyld => ?_⟩
      obtain ⟨d, S2, hd, x2, rfl, rd⟩ := it.yld k (S'.st ok'.zh) v H' x'.z hlt hyld
      obtain ⟨le2, ok2⟩ := ok_ex ok' x2
      rw [List.drop_eq_getElem_cons hlt] at hl
      have ed : ds[k] = d := by rw [List.getElem?_eq_getElem hlt] at hd; exact Option.some.inj hd
      rw [ed] at hl
      simp only [forH] at hl
      have rr : RH X.K ⟨S2.Z, S2.H, S'.L⟩ (σ.set i (some v)) (δ'.set i (some (.d d))) := (r'.mono le2).set rd
      have x2' := x'.trans le2
      split at hl
      · rename_i hb1
        exact ⟨S1, ⟨S2.Z, S2.H, S'.L⟩, _, _, _, rfl, x2', ok2, rr, hb1, fun σ3 S3 x3 ok3 r3 => ⟨S3, _, _, rfl, x3, ok3, r3, hl⟩⟩
      · rename_i hb1
        exact ⟨S1, ⟨S2.Z, S2.H, S'.L⟩, _, _, _, rfl, x2', ok2, rr, hb1, fun σ3 S3 x3 ok3 r3 => ⟨S3, _, _, rfl, x3, ok3, r3, hl⟩⟩
      · rename_i hb1
        cases hl
        exact ⟨S1, ⟨S2.Z, S2.H, S'.L⟩, _, _, _, rfl, x2', ok2, rr, hb1, fun σ3 S3 x3 ok3 r3 => q σ3 S3 (xe.trans x3) ok3 r3⟩
      · rename_i hb1
        cases hl
        exact ⟨S1, ⟨S2.Z, S2.H, S'.L⟩, _, _, _, rfl, x2', ok2, rr, hb1, fun v3 S3 x3 ok3 r3 => q v3 S3 (xe.trans x3) ok3 r3⟩
      · cases hl
    · have ek : k = ds.length := by omega
      subst ek
      rw [List.drop_length] at hl
      cases hl
      exact .inl ⟨it.stop (S'.st ok'.zh) x'.z, q σ S' (xe.trans x') ok' r'⟩
/-- while, at most n turns -/
def whileH (ft : FH) (body : GH) : Nat → GH
  | 0, _, _ => none
  | n + 1, δ, M => match ft δ M with
    | some (.d (.bool true), M1) => match body δ M1 with
      | some (.nx δ' M') => whileH ft body n δ' M'
      | some (.ct δ' M') => whileH ft body n δ' M'
      | some (.bk δ' M') => some (.nx δ' M')
      | some (.rt w M') => some (.rt w M')
      | none => none
    | some (.d (.bool false), M1) => some (.nx δ M1)
    | _ => none
theorem hs_while (n : Nat) {body : List Stmt} {ft : FH} {g : GH} (hp : PassesOwn (model X.prog X.w) X.A X.env X.xe) (ht : PT X c (tHT X.K ft)) (hb : HB X body g) : HS X (.While c body [] pos) (whileH ft g n) :=
  ps_conseq (ps_while hp ht hb) fun Dn σ H h => by
    obtain ⟨Se, S, M, δ, o, rfl, x, ok, r, hf, q⟩ := h
    refine ⟨fun m σ H => ∃ (S' : Sm) (M' : List Cell) (δ' : Env), S'.H = H ∧ Le Se S' ∧ OkS X.K S' M' ∧ RH X.K S' σ δ' ∧ whileH ft g m δ' M' = some o, ⟨n, S, M, δ, rfl, x, ok, r, hf⟩, ?_⟩
    rintro m σ H ⟨S', M', δ', rfl, x', ok', r', hl⟩
    cases m with
    | zero => cases hl
    | succ m =>
      simp only [whileH] at hl
      split at hl
      · rename_i M1 ht1
        refine ⟨S', M', δ', true, M1, rfl, ok', r', ht1, fun S1 x1 ok1 => ?_⟩
        refine iteT ?_
        refine ⟨fun σ2 H2 => ∃ (S2 : Sm) (M2 : List Cell) (δ2 : Env), S2.H = H2 ∧ Le Se S2 ∧ OkS X.K S2 M2 ∧ RH X.K S2 σ2 δ2 ∧ whileH ft g m δ2 M2 = some o, fun σ2 H2 p => ⟨m, Nat.lt_succ_self _, p⟩, ?_⟩
        split at hl
        · rename_i hb1
          exact ⟨Se, S1, M1, _, _, rfl, x'.trans x1, ok1, r'.mono x1, hb1, fun σ3 S3 x3 ok3 r3 => ⟨S3, _, _, rfl, x3, ok3, r3, hl⟩⟩
        · rename_i hb1
          exact ⟨Se, S1, M1, _, _, rfl, x'.trans x1, ok1, r'.mono x1, hb1, fun σ3 S3 x3 ok3 r3 => ⟨S3, _, _, rfl, x3, ok3, r3, hl⟩⟩
        · rename_i hb1
          cases hl
          exact ⟨Se, S1, M1, _, _, rfl, x'.trans x1, ok1, r'.mono x1, hb1, fun σ3 S3 x3 ok3 r3 => q σ3 S3 x3 ok3 r3⟩
        · rename_i hb1
          cases hl
          exact ⟨Se, S1, M1, _, _, rfl, x'.trans x1, ok1, r'.mono x1, hb1, fun v3 S3 x3 ok3 r3 => q v3 S3 x3 ok3 r3⟩
        · cases hl
      · rename_i M1 ht1
        cases hl
        refine ⟨S', M', δ', false, M1, rfl, ok', r', ht1, fun S1 x1 ok1 => ?_⟩
        refine iteF ?_
        exact q σ S1 (x'.trans x1) ok1 (r'.mono x1)
      · cases hl
end
/-! ### calls, defs -/
abbrev FHF := List W → List Cell → Option (W × List Cell)
def spH (K : PySem.W.Frag) (F : FHF) : Sp := fun vs H Q _ => ∃ (S : Sm) (M : List Cell) (ws : List W) (w : W) (M' : List Cell), S.H = H ∧ OkS K S M ∧ RwL K S ws vs ∧ F ws M = some (w, M') ∧ ∀ v S', Le S S' → OkS K S' M' → Rw K S' w v → Q v S'.H
def hCall (F : FHF) (g : FHA) : FH := fun δ M => (g δ M).bind fun (ws, M1) => F ws M1
def Fh (P : Program) (w : World) (K : PySem.W.Frag) (mg : Str → Option Value) (base : Heap) (x : Str) (ps : List Str) (lv : Nat) (F : FHF) : Prop :=
  ∃ (fa : Addr) (fd : FuncData), FnOk P w K mg base CX0 lv fa fd ps (spH K F) ∧ mg x = some (.ref fa) ∧ PySem.W.keepIn K (.ref fa) = true ∧ Binds K fd ps [] ∧ ∃ oc od osl, K.lookup fa = some ⟨oc, od, .func fd, osl⟩
section
variable {X : Cx} {a b c e : Expr} {pos : Pos}
theorem he_call {x : Str} {ps : List Str} {k j : Nat} {es : List Expr} {p : Pos} {F : FHF} {g : FHA} (cx : Fh X.prog X.w X.K X.mg X.base x ps k F) (hr : Room j X.A) (hk : k ≤ j) (hg : Gl X x)
    (ha : HA X (e :: es) g) (hdb : (x == ("__debug__" : Str)) = false := by decide) (he : starEach (e :: es) X.env = (false, eval e X.env) :: starEach es X.env := by rfl) (hpl : (backTo pos (starEach es X.env)).any (·.1) = false := by rfl) : HE X (.Call (.Name x p) (e :: es) [] pos) (hCall F g) :=
  let ⟨_, _, G, hm, kp, hb, _⟩ := cx
  pe_conseq (pe_call G (hr.mono hk) hg hm kp hb .nil pass0 ha hdb he hpl) fun σ H Q h => by
    obtain ⟨S, M, δ, w, M', rfl, ok, r, hf, q⟩ := h
    obtain ⟨⟨ws, M1⟩, hx, hf⟩ := Option.bind_eq_some_iff.mp hf
    exact ⟨S, M, δ, ws, M1, rfl, ok, r, hx, fun vs S1 x1 ok1 r1 => ⟨S1, M1, ws, w, M', rfl, ok1, by rw [List.append_nil]; exact r1, hf, fun v S2 x2 ok2 r2 => q v S2 (x1.trans x2) ok2 r2⟩⟩
end
def startH (n : Nat) (ws : List W) : Env := ws.map some ++ List.replicate (n - ws.length) none
def runH (n np : Nat) (g : GH) : FHF := fun ws M => if ws.length = np then match g (startH n ws) M with
  | some (.rt w M') => some (w, M')
  | some (.nx _ M') => some (.d .none, M')
  | _ => none
  else none
theorem start_rh {K : PySem.W.Frag} {S : Sm} {N : List Str} {vs : List V} {ws : List W} (h : RwL K S ws vs) (hn : ws.length ≤ N.length) : RH K S (L2.start N vs) (startH N.length ws) := by
  have hl := h.length
  refine ⟨?_, fun i w e => ?_⟩
  · unfold L2.start startH
    simp [hl]
  · unfold startH at e
    unfold L2.start
    by_cases hi : i < ws.length
    · rw [List.getElem?_append_left (by simpa using hi), List.getElem?_map, List.getElem?_eq_getElem hi] at e
      cases e
      obtain ⟨v, h1, h2⟩ := h.get (List.getElem?_eq_getElem hi)
      exact ⟨v, by rw [List.getElem?_append_left (by simp; omega), List.getElem?_map, h1]; rfl, h2⟩
    · rw [List.getElem?_append_right (by simp; omega), List.length_map, List.getElem?_replicate] at e
      split at e <;> cases e
theorem fn_h {P : Program} {w : World} {K : PySem.W.Frag} {mg : Str → Option Value} {base : Heap} {x qual : Str} {st : Stmt} {fa : Addr} {fd : FuncData} {N ps : List Str} {k : Nat} {g : GH} (F : Fun K x qual st fa fd) (Sc : FnScope N ps (defScope st)) (hle : ps.length ≤ N.length)
    (hbody : ∀ (cdv : Value) (A : Around) (outer : List PySem.Env) (s : Shared) (H : Hp) (E : XK), Room k (A.deeper (envOfC qual (defScope st) s.heap.objs.size fa cdv)) → HB (cxOf CX0 P w K mg base N qual (defScope st) fa cdv A outer s H E).nox (defBody st) g) :
    FnOk P w K mg base CX0 (k + 1) fa fd ps (spH K (runH N.length ps.length g)) := by
  refine F.ok Sc (fun vs H Q E h => ?_) (fun cdv A outer s H vs Q E hr h => ?_)
  · obtain ⟨S, M, ws, w, M', rfl, ok, rl, hf, q⟩ := h
    unfold runH at hf
    split at hf
    · rename_i hz
      rw [rl.length, hz]
    · cases hf
  · refine ⟨_, hbody cdv A outer s H E hr, ?_⟩
    obtain ⟨S, M, ws, w, M', rfl, ok, rl, hf, q⟩ := h
    unfold runH at hf
    split at hf
    · rename_i hz
      have r0 := start_rh (N := N) rl (by omega)
      split at hf
      · rename_i w' M1 hg
        cases hf
        exact ⟨S, S, M, _, _, rfl, .refl S, ok, r0, hg, fun v S' x' ok' r' => q v S' x' ok' r'⟩
      · rename_i δ' M1 hg
        cases hf
        exact ⟨S, S, M, _, _, rfl, .refl S, ok, r0, hg, fun σ' S' x' ok' _ => q .non S' x' ok' Rv.non⟩
      · cases hf
    · cases hf
theorem fh_of {P : Program} {w : World} {K : PySem.W.Frag} {mg : Str → Option Value} {base : Heap} {x : Str} {st : Stmt} {N ps : List Str} {k n np : Nat} {g : GH} (d : Df K mg x st ps) (Sc : FnScope N ps (defScope st)) (hn : N.length = n) (hp : ps.length = np) (hle : np ≤ n)
    (hbody : ∀ (fa : Addr) (cdv : Value) (A : Around) (outer : List PySem.Env) (s : Shared) (H : Hp) (E : XK), Room k (A.deeper (envOfC x (defScope st) s.heap.objs.size fa cdv)) → HB (cxOf CX0 P w K mg base N x (defScope st) fa cdv A outer s H E).nox (defBody st) g) :
    Fh P w K mg base x ps (k + 1) (runH n np g) := by
  subst hn hp
  exact let ⟨fa, fd, F, hm, hb⟩ := d
  ⟨fa, fd, fn_h F Sc hle fun cdv A outer s H E hr => hbody fa cdv A outer s H E hr, hm, F.kp, hb, fun_look F⟩
theorem fh_none {P : Program} {w : World} {K : PySem.W.Frag} {mg : Str → Option Value} {base : Heap} {x : Str} {st : Stmt} {ps : List Str} {k : Nat} (d : Df K mg x st ps) : Fh P w K mg base x ps k fun _ _ => none := by
  have no : ∀ vs H Q E, ¬ spH K (fun _ _ => none) vs H Q E := fun vs H Q E h => by
    obtain ⟨_, _, _, _, _, _, _, _, e, _⟩ := h
    cases e
  exact let ⟨fa, fd, F, hm, hb⟩ := d
  ⟨fa, fd, ⟨fun vs H Q E h => absurd h (no vs H Q E), fun A outer s H args us vs Q E _ _ _ _ h => absurd h (no vs H Q E)⟩, hm, F.kp, hb, fun_look F⟩
/-- data in, data out: what it did with cells is its own affair -/
def pureF (F : FHF) : List D → Option D := fun ds => (F (ds.map .d) []).bind fun (w, M') => fzW 9 M' w
theorem pure_imp {K : PySem.W.Frag} {F : FHF} : ∀ vs H Q E, spP K (pureF F) vs H Q E → spH K F vs H Q E := by
  rintro vs H Q E ⟨S, ds, d, rfl, r, hf, q⟩
  obtain ⟨⟨w, M'⟩, h1, h2⟩ := Option.bind_eq_some_iff.mp hf
  refine ⟨⟨S.Z, S.H, []⟩, [], ds.map .d, w, M', rfl, ⟨S.ok, List.nodup_nil, rfl, fun a h => (by cases h), fun n a c h => (by cases h)⟩, RwL.ofD r, h1, fun v S' x ok rw' => ?_⟩
  refine q v ⟨Zc S', S'.H, zc_ok ok.zh⟩ ⟨fun b o e => zc_of b o (x.z b o e), fun b o e => x.f b o e (by simp), fun b g1 g2 => ?_⟩ (fz_rv ok 9 w v d rw' h2)
  show Zc S' b = none
  unfold Zc
  rw [x.c b g1 g2 (by simp)]
  show (if b ∈ S'.L then S'.H b else none) = none
  rw [if_neg]
  intro hm
  rcases x.n b hm with g | g
  · cases g
  · exact g2 g
theorem fh_pure {P : Program} {w : World} {K : PySem.W.Frag} {mg : Str → Option Value} {base : Heap} {x : Str} {ps : List Str} {k : Nat} {F : FHF} (c : Fh P w K mg base x ps k F) : Fx P w K mg base x ps k (pureF F) :=
  let ⟨fa, fd, G, hm, kp, hb, lk⟩ := c
  ⟨fa, fd, G.imp pure_imp, hm, kp, hb, lk⟩
/-- a pure def, called with data from where there are cells -/
def ofPure (F : List D → Option D) : FHF := fun ws M => (oAll (fzW 0 M) ws).bind fun ds => (F ds).map fun d => (.d d, M)
end Hd

set_option Elab.async false
set_option linter.all false
set_option maxRecDepth 100000
set_option maxHeartbeats 4000000
namespace K02
open PySem PySem.Spec PyProof.Rows L2 Pd
def topS (i : Nat) : Stmt := PySem.Challenge.pw_wardhouse_k02_plans.main.body.getD i (.Pass ⟨0, 0, 0, 0⟩)
abbrev s_is_name : Stmt := topS 8
abbrev s_is_plan : Stmt := topS 9
abbrev s_names_of : Stmt := topS 10
abbrev s_parts_of : Stmt := topS 11
abbrev s__is_number : Stmt := topS 12
abbrev s__is_worker : Stmt := topS 13
abbrev s__is_warden : Stmt := topS 14
abbrev s__fits : Stmt := topS 15
abbrev s__law_cell_at : Stmt := topS 17
abbrev s__law_whole : Stmt := topS 18
abbrev s__law_names : Stmt := topS 19
abbrev s__law_nodes : Stmt := topS 20
abbrev s__law_under : Stmt := topS 21
abbrev s__law_many_by : Stmt := topS 22
abbrev s__law_span_by : Stmt := topS 23
abbrev s__law_part : Stmt := topS 24
abbrev s__law_house : Stmt := topS 25
abbrev s__law_is_name : Stmt := topS 26
abbrev s__law_is_part : Stmt := topS 27
abbrev s__law_all_names : Stmt := topS 28
abbrev s__law_is_plan : Stmt := topS 29
abbrev s__law_odd_by : Stmt := topS 30
abbrev s__law_spoilt : Stmt := topS 31
abbrev s__law_wide : Stmt := topS 32
abbrev s__law_chain : Stmt := topS 33
abbrev s__law_twice : Stmt := topS 34
abbrev s_law : Stmt := topS 35
/-- what the top has written -/
structure TX (K : PySem.W.Frag) (mg : Str → Option Value) : Prop where
  d_is_name : Df K mg "is_name" s_is_name ["thing"]
  d_is_plan : Df K mg "is_plan" s_is_plan ["thing"]
  d_names_of : Df K mg "names_of" s_names_of ["plan"]
  d_parts_of : Df K mg "parts_of" s_parts_of ["part"]
  d__is_number : Df K mg "_is_number" s__is_number ["thing", "low", "high"]
  d__is_worker : Df K mg "_is_worker" s__is_worker ["thing"]
  d__is_warden : Df K mg "_is_warden" s__is_warden ["thing"]
  d__fits : Df K mg "_fits" s__fits ["part", "above", "names"]
  d__law_cell_at : Df K mg "_law_cell_at" s__law_cell_at ["_law_script", "_law_k"]
  d__law_whole : Df K mg "_law_whole" s__law_whole ["_law_found"]
  d__law_names : Df K mg "_law_names" s__law_names ["_law_cell", "_law_many"]
  d__law_nodes : Df K mg "_law_nodes" s__law_nodes ["_law_script", "_law_many"]
  d__law_under : Df K mg "_law_under" s__law_under ["_law_nodes_here", "_law_k"]
  d__law_many_by : Df K mg "_law_many_by" s__law_many_by ["_law_cell"]
  d__law_span_by : Df K mg "_law_span_by" s__law_span_by ["_law_cell"]
  d__law_part : Df K mg "_law_part" s__law_part ["_law_nodes_here", "_law_names_here", "_law_k"]
  d__law_house : Df K mg "_law_house" s__law_house ["_law_script"]
  d__law_is_name : Df K mg "_law_is_name" s__law_is_name ["_law_thing"]
  d__law_is_part : Df K mg "_law_is_part" s__law_is_part ["_law_thing", "_law_above"]
  d__law_all_names : Df K mg "_law_all_names" s__law_all_names ["_law_plan"]
  d__law_is_plan : Df K mg "_law_is_plan" s__law_is_plan ["_law_thing"]
  d__law_odd_by : Df K mg "_law_odd_by" s__law_odd_by ["_law_part_here", "_law_cell"]
  d__law_spoilt : Df K mg "_law_spoilt" s__law_spoilt ["_law_thing", "_law_cell", "_law_deep"]
  d__law_wide : Df K mg "_law_wide" s__law_wide ["_law_cell", "_law_names_here"]
  d__law_chain : Df K mg "_law_chain" s__law_chain ["_law_cell", "_law_names_here"]
  d__law_twice : Df K mg "_law_twice" s__law_twice ["_law_plan", "_law_cell"]
  d_law : Df K mg "law" s_law ["_law_script"]
  z_all : mg "all" = none
  z_bool : mg "bool" = none
  z_int : mg "int" = none
  z_isinstance : mg "isinstance" = none
  z_len : mg "len" = none
  z_list : mg "list" = none
  z_min : mg "min" = none
  z_range : mg "range" = none
  z_str : mg "str" = none
  z_tuple : mg "tuple" = none
  c_AGAINS : GlT K mg "AGAINS" [(.str "always"), (.str "faulted"), (.str "never")]
  c_LARGEST : ∃ t, mg "LARGEST" = some (.int 1000000000 t)
  c_LONGEST_NAME : ∃ t, mg "LONGEST_NAME" = some (.int 8 t)
  c_MOST_NAMES : ∃ t, mg "MOST_NAMES" = some (.int 60 t)
  c_MOST_PARTS : ∃ t, mg "MOST_PARTS" = some (.int 8 t)
  c_MOST_WARDENS_ABOVE : ∃ t, mg "MOST_WARDENS_ABOVE" = some (.int 6 t)
  c_RULES : GlT K mg "RULES" [(.str "one"), (.str "rest"), (.str "all")]
section
variable {P : Program} {w : World} {K : PySem.W.Frag} {mg : Str → Option Value} {base : Heap}
/-! is_name -/
theorem sc_is_name : FnScope ["thing", "sign"] ["thing"] (defScope s_is_name) := ⟨rfl, rfl, rfl, by decide +kernel, rfl, by decide +kernel, by decide +kernel⟩
def g_is_name : GS :=
    (gSeq (gIf (eOr (eNot (eIs "str" (eVar 0))) (eNot (eChain leD leD (eC (.int 1)) (eCB lenD (aCons (eVar 0) aNil)) (eC (.int 8))))) (gRet (eC (.bool false))) gNil)
    (gRet (eCB allD (aCons (eLc (iSeq (eVar 0)) 1 (eC (.bool true)) (eChain leD leD (eC (.str "a")) (eVar 1) (eC (.str "z")))) aNil))))
def F_is_name : List D → Option D := runG 2 1 g_is_name
theorem ok_is_name (T : TX K mg) : Fx P w K mg base "is_name" ["thing"] 1 F_is_name := by
  refine fx_of T.d_is_name sc_is_name rfl rfl (g := g_is_name) fun fa cdv A outer s H E hr => ?_
  exact (db_cons (ds_if (dw_pt (dw_or (dt_not (dt_of (de_isiB_str T.z_isinstance T.z_str (by rfl) (by rfl) (de_var 0)))) (dw_or1 (dt_not (dt_chain op_leD op_leD de_int (de_callB ca_len (by rfl) T.z_len (by decide +kernel) (da_cons (de_var 0) da_nil)) (de_globI (by rfl) T.c_LONGEST_NAME)))))) (db_one (ds_ret de_bl)) db_nil)
    (db_one (ds_ret (de_callB (ca_all rfl) (by rfl) T.z_all (by decide +kernel) (da_cons (de_lc rfl sc_is_name.nd (wi_seq (de_var 0)) (blkOk_by (own := [("sign", 1)]) (N := ["thing", "sign"]) (sc := defScope s_is_name) (by decide +kernel)) (fun _ _ _ _ _ => pg_name (i := 1) sc_is_name.nd rfl (Or.inl rfl)) (fun _ _ _ _ _ => dts_nil) (fun _ _ _ _ _ => (de_chain op_leD op_leD de_str (de_var 1) de_str))) da_nil)))))
/-! parts_of -/
theorem sc_parts_of : FnScope ["part"] ["part"] (defScope s_parts_of) := ⟨rfl, rfl, rfl, by decide +kernel, rfl, by decide +kernel, by decide +kernel⟩
def g_parts_of : GS :=
    (gRet (eIf (e2 eqD (e2 ixD (eVar 0) (eC (.int 0))) (eC (.str "warden"))) (e2 ixD (eVar 0) (eC (.int 5))) (eTup aNil)))
def F_parts_of : List D → Option D := runG 1 1 g_parts_of
theorem ok_parts_of (T : TX K mg) : Fx P w K mg base "parts_of" ["part"] 1 F_parts_of := by
  refine fx_of T.d_parts_of sc_parts_of rfl rfl (g := g_parts_of) fun fa cdv A outer s H E hr => ?_
  exact (db_one (ds_ret (de_ifExp (dt_cmp (op_eqDD (hu64 hr)) (de_ix (de_var 0) de_int (fun _ _ => rfl)) de_str (by rfl)) (de_ix (de_var 0) de_int (fun _ _ => rfl)) (de_tup da_nil))))
/-! names_of -/
theorem sc_names_of : FnScope ["plan", "names", "part"] ["plan"] (defScope s_names_of) := ⟨rfl, rfl, rfl, by decide +kernel, rfl, by decide +kernel, by decide +kernel⟩
def b_names_of_1 (rec : List D → Option D) : GS :=
    (gExt 1 (eCall rec (aCons (eVar 2) aNil)))
def g_names_of (rec : List D → Option D) : GS :=
    (gSeq (gOwn 1 (aCons (e2 ixD (eVar 0) (eC (.int 1))) aNil))
    (gSeq (gFor (iSeq (eCall (F_parts_of) (aCons (eVar 0) aNil))) 2 (b_names_of_1 rec))
    (gSeq (gFrz 1) (gRet (eVar 1)))))
def F_names_of : Nat → List D → Option D
  | 0 => fun _ => none
  | n + 1 => runG 3 1 (g_names_of (F_names_of n))
theorem ok_names_of (T : TX K mg) : ∀ n : Nat, Fx P w K mg base "names_of" ["plan"] (1 + n) (F_names_of n)
  | 0 => fx_none T.d_names_of
  | n + 1 => by
    have ih := ok_names_of T n
    refine fx_of (k := 1 + n) T.d_names_of sc_names_of rfl rfl (g := g_names_of (F_names_of n)) fun fa cdv A outer s H E hr => ?_
    exact (db_cons (ds_own (i := 1) sc_names_of.nd rfl (Or.inl rfl) (da_cons (de_ix (de_var 0) de_int (fun _ _ => rfl)) da_nil))
    (db_cons (ds_for PassesOwn.never rfl (wi_seq (de_callx (ok_parts_of T) hr (by omega) (by rfl) (da_cons (de_var 0) da_nil))) (pg_name (i := 2) sc_names_of.nd rfl (Or.inl rfl)) (db_one (ds_extend (i := 1) rfl (Or.inl rfl) (de_callx ih hr (by omega) (by rfl) (da_cons (de_var 2) da_nil)))))
    (db_frz 1 (db_one (ds_ret (de_var 1))))))
/-! _is_number -/
theorem sc__is_number : FnScope ["thing", "low", "high"] ["thing", "low", "high"] (defScope s__is_number) := ⟨rfl, rfl, rfl, by decide +kernel, rfl, by decide +kernel, by decide +kernel⟩
def g__is_number : GS :=
    (gSeq (gIf (eOr (eNot (eIs "int" (eVar 0))) (eIs "bool" (eVar 0))) (gRet (eC (.bool false))) gNil)
    (gRet (eChain leD leD (eVar 1) (eVar 0) (eVar 2))))
def F__is_number : List D → Option D := runG 3 3 g__is_number
theorem ok__is_number (T : TX K mg) : Fx P w K mg base "_is_number" ["thing", "low", "high"] 1 F__is_number := by
  refine fx_of T.d__is_number sc__is_number rfl rfl (g := g__is_number) fun fa cdv A outer s H E hr => ?_
  exact (db_cons (ds_if (dw_pt (dw_or (dt_not (dt_of (de_isiB_int T.z_isinstance T.z_int (by rfl) (by rfl) (de_var 0)))) (dw_or1 (dt_of (de_isiB_bool T.z_isinstance T.z_bool (by rfl) (by rfl) (de_var 0)))))) (db_one (ds_ret de_bl)) db_nil)
    (db_one (ds_ret (de_chain op_leD op_leD (de_var 1) (de_var 0) (de_var 2)))))
/-! _is_worker -/
theorem sc__is_worker : FnScope ["thing", "word", "name", "again"] ["thing"] (defScope s__is_worker) := ⟨rfl, rfl, rfl, by decide +kernel, rfl, by decide +kernel, by decide +kernel⟩
def g__is_worker : GS :=
    (gSeq (gIf (eOr (eNot (eIs "tuple" (eVar 0))) (e2 neD (eCB lenD (aCons (eVar 0) aNil)) (eC (.int 3)))) (gRet (eC (.bool false))) gNil)
    (gSeq (gUnp [1, 2, 3] (eVar 0))
    (gRet (eAnd (e2 eqD (eVar 1) (eC (.str "worker"))) (eAnd (eCall (F_is_name) (aCons (eVar 2) aNil)) (e2 (inD false) (eVar 3) (eC (.tuple [(.str "always"), (.str "faulted"), (.str "never")]))))))))
def F__is_worker : List D → Option D := runG 4 1 g__is_worker
theorem ok__is_worker (T : TX K mg) : Fx P w K mg base "_is_worker" ["thing"] 2 F__is_worker := by
  refine fx_of T.d__is_worker sc__is_worker rfl rfl (g := g__is_worker) fun fa cdv A outer s H E hr => ?_
  exact (db_cons (ds_if (dw_pt (dw_or (dt_not (dt_of (de_isiB_tuple T.z_isinstance T.z_tuple (by rfl) (by rfl) (de_var 0)))) (dw_or1 (dt_cmp (op_neDD (hu64 hr)) (de_callB ca_len (by rfl) T.z_len (by decide +kernel) (da_cons (de_var 0) da_nil)) de_int (by rfl))))) (db_one (ds_ret de_bl)) db_nil)
    (db_cons (ds_unp (is := [1, 2, 3]) rfl (ps_asg (de_var 0) (pg_tup rfl (pgs_cons (pg_name (i := 1) sc__is_worker.nd rfl (Or.inl rfl)) (pgs_cons (pg_name (i := 2) sc__is_worker.nd rfl (Or.inl rfl)) (pgs_cons (pg_name (i := 3) sc__is_worker.nd rfl (Or.inl rfl)) pgs_nil))))))
    (db_one (ds_ret (de_and (de_cmp (op_eqDD (hu64 hr)) (de_var 1) de_str (by rfl)) (de_and (de_callx (ok_is_name T) hr (by omega) (by rfl) (da_cons (de_var 2) da_nil)) (de_one (de_cmp (op_inDD (hu65 hr)) (de_var 3) (de_globTx (by rfl) T.c_AGAINS) (by rfl)))))))))
/-! _is_warden -/
theorem sc__is_warden : FnScope ["thing", "word", "name", "rule", "many", "span", "parts"] ["thing"] (defScope s__is_warden) := ⟨rfl, rfl, rfl, by decide +kernel, rfl, by decide +kernel, by decide +kernel⟩
def g__is_warden : GS :=
    (gSeq (gIf (eOr (eNot (eIs "tuple" (eVar 0))) (e2 neD (eCB lenD (aCons (eVar 0) aNil)) (eC (.int 6)))) (gRet (eC (.bool false))) gNil)
    (gSeq (gUnp [1, 2, 3, 4, 5, 6] (eVar 0))
    (gSeq (gIf (eOr (e2 neD (eVar 1) (eC (.str "warden"))) (eOr (eNot (eCall (F_is_name) (aCons (eVar 2) aNil))) (e2 (inD true) (eVar 3) (eC (.tuple [(.str "one"), (.str "rest"), (.str "all")]))))) (gRet (eC (.bool false))) gNil)
    (gSeq (gIf (eOr (eNot (eCall (F__is_number) (aCons (eVar 4) (aCons (eC (.int 0)) (aCons (eC (.int 1000000000)) aNil))))) (eNot (eCall (F__is_number) (aCons (eVar 5) (aCons (eC (.int 1)) (aCons (eC (.int 1000000000)) aNil)))))) (gRet (eC (.bool false))) gNil)
    (gRet (eAnd (eIs "tuple" (eVar 6)) (eChain leD leD (eC (.int 1)) (eCB lenD (aCons (eVar 6) aNil)) (eC (.int 8)))))))))
def F__is_warden : List D → Option D := runG 7 1 g__is_warden
theorem ok__is_warden (T : TX K mg) : Fx P w K mg base "_is_warden" ["thing"] 2 F__is_warden := by
  refine fx_of T.d__is_warden sc__is_warden rfl rfl (g := g__is_warden) fun fa cdv A outer s H E hr => ?_
  exact (db_cons (ds_if (dw_pt (dw_or (dt_not (dt_of (de_isiB_tuple T.z_isinstance T.z_tuple (by rfl) (by rfl) (de_var 0)))) (dw_or1 (dt_cmp (op_neDD (hu64 hr)) (de_callB ca_len (by rfl) T.z_len (by decide +kernel) (da_cons (de_var 0) da_nil)) de_int (by rfl))))) (db_one (ds_ret de_bl)) db_nil)
    (db_cons (ds_unp (is := [1, 2, 3, 4, 5, 6]) rfl (ps_asg (de_var 0) (pg_tup rfl (pgs_cons (pg_name (i := 1) sc__is_warden.nd rfl (Or.inl rfl)) (pgs_cons (pg_name (i := 2) sc__is_warden.nd rfl (Or.inl rfl)) (pgs_cons (pg_name (i := 3) sc__is_warden.nd rfl (Or.inl rfl)) (pgs_cons (pg_name (i := 4) sc__is_warden.nd rfl (Or.inl rfl)) (pgs_cons (pg_name (i := 5) sc__is_warden.nd rfl (Or.inl rfl)) (pgs_cons (pg_name (i := 6) sc__is_warden.nd rfl (Or.inl rfl)) pgs_nil)))))))))
    (db_cons (ds_if (dw_pt (dw_or (dt_cmp (op_neDD (hu64 hr)) (de_var 1) de_str (by rfl)) (dw_or (dt_not (dt_of (de_callx (ok_is_name T) hr (by omega) (by rfl) (da_cons (de_var 2) da_nil)))) (dw_or1 (dt_cmp (op_notInDD (hu65 hr)) (de_var 3) (de_globTx (by rfl) T.c_RULES) (by rfl)))))) (db_one (ds_ret de_bl)) db_nil)
    (db_cons (ds_if (dw_pt (dw_or (dt_not (dt_of (de_callx (ok__is_number T) hr (by omega) (by rfl) (da_cons (de_var 4) (da_cons de_int (da_cons (de_globI (by rfl) T.c_LARGEST) da_nil)))))) (dw_or1 (dt_not (dt_of (de_callx (ok__is_number T) hr (by omega) (by rfl) (da_cons (de_var 5) (da_cons de_int (da_cons (de_globI (by rfl) T.c_LARGEST) da_nil))))))))) (db_one (ds_ret de_bl)) db_nil)
    (db_one (ds_ret (de_and (de_isiB_tuple T.z_isinstance T.z_tuple (by rfl) (by rfl) (de_var 6)) (de_one (de_chain op_leD op_leD de_int (de_callB ca_len (by rfl) T.z_len (by decide +kernel) (da_cons (de_var 6) da_nil)) (de_globI (by rfl) T.c_MOST_PARTS))))))))))
/-! _law_cell_at -/
theorem sc__law_cell_at : FnScope ["_law_script", "_law_k"] ["_law_script", "_law_k"] (defScope s__law_cell_at) := ⟨rfl, rfl, rfl, by decide +kernel, rfl, by decide +kernel, by decide +kernel⟩
def g__law_cell_at : GS :=
    (gSeq (gIf (e2 ltD (eVar 1) (eCB lenD (aCons (eVar 0) aNil))) (gRet (e2 ixD (eVar 0) (eVar 1))) gNil)
    (gRet (eC (.int 0))))
def F__law_cell_at : List D → Option D := runG 2 2 g__law_cell_at
theorem ok__law_cell_at (T : TX K mg) : Fx P w K mg base "_law_cell_at" ["_law_script", "_law_k"] 1 F__law_cell_at := by
  refine fx_of T.d__law_cell_at sc__law_cell_at rfl rfl (g := g__law_cell_at) fun fa cdv A outer s H E hr => ?_
  exact (db_cons (ds_if (dt_cmp op_ltD (de_var 1) (de_callB ca_len (by rfl) T.z_len (by decide +kernel) (da_cons (de_var 0) da_nil)) (by rfl)) (db_one (ds_ret (de_ix (de_var 0) (de_var 1) (fun _ _ => rfl)))) db_nil)
    (db_one (ds_ret de_int)))
/-! _law_whole -/
theorem sc__law_whole : FnScope ["_law_found"] ["_law_found"] (defScope s__law_whole) := ⟨rfl, rfl, rfl, by decide +kernel, rfl, by decide +kernel, by decide +kernel⟩
def g__law_whole : GS :=
    (gRet (eAnd (eIs "int" (eVar 0)) (eNot (eIs "bool" (eVar 0)))))
def F__law_whole : List D → Option D := runG 1 1 g__law_whole
theorem ok__law_whole (T : TX K mg) : Fx P w K mg base "_law_whole" ["_law_found"] 1 F__law_whole := by
  refine fx_of T.d__law_whole sc__law_whole rfl rfl (g := g__law_whole) fun fa cdv A outer s H E hr => ?_
  exact (db_one (ds_ret (de_and (de_isiB_int T.z_isinstance T.z_int (by rfl) (by rfl) (de_var 0)) (de_one (de_not (de_isiB_bool T.z_isinstance T.z_bool (by rfl) (by rfl) (de_var 0)))))))
/-! _law_names -/
theorem sc__law_names : FnScope ["_law_cell", "_law_many", "_law_some", "_law_head", "_law_rest", "_law_k", "_law_way", "_law_left", "_law_right"] ["_law_cell", "_law_many"] (defScope s__law_names) := ⟨rfl, rfl, rfl, by decide +kernel, rfl, by decide +kernel, by decide +kernel⟩
def b__law_names_1 : GS :=
    (gSeq (gSet 3 (e2 addD (eVar 3) (e2 ixD (eVar 2) (e2 modD (eVar 4) (eC (.int 26))))))
    (gSet 4 (e2 divD (eVar 4) (eC (.int 26)))))
def g__law_names : GS :=
    (gSeq (gSet 2 (eC (.str "abcdefghijklmnopqrstuvwxyz")))
    (gSeq (gSet 3 (eC (.str "")))
    (gSeq (gSet 4 (e2 divD (eVar 0) (eC (.int 48))))
    (gSeq (gFor (iR1 (aCons (eC (.int 8)) aNil)) 5 b__law_names_1)
    (gSeq (gSet 6 (e2 modD (eVar 0) (eC (.int 6))))
    (gSeq (gIf (eAnd (e2 eqD (eVar 6) (eC (.int 0))) (e2 ltD (eVar 1) (eC (.int 9)))) (gRet (eLc (iR1 (aCons (eVar 1) aNil)) 5 (eC (.bool true)) (eSl (eVar 3) oNone (oSome (e2 addD (eVar 5) (eC (.int 1))))))) gNil)
    (gSeq (gIf (eAnd (e2 eqD (eVar 6) (eC (.int 1))) (e2 ltD (eVar 1) (eC (.int 9)))) (gRet (eLc (iR1 (aCons (eVar 1) aNil)) 5 (eC (.bool true)) (eSl (eVar 3) (oSome (e2 subD (eC (.int 7)) (eVar 5))) oNone))) gNil)
    (gSeq (gSet 3 (eSl (eVar 3) oNone (oSome (e2 modD (e2 divD (eVar 0) (eC (.int 6))) (eC (.int 7))))))
    (gSeq (gIf (eAnd (e2 ltD (eVar 6) (eC (.int 4))) (e2 ltD (eVar 1) (eC (.int 27)))) (gSeq (gSet 7 (eSl (eVar 3) oNone (oSome (e2 modD (e2 divD (eVar 0) (eC (.int 5))) (e2 addD (eCB lenD (aCons (eVar 3) aNil)) (eC (.int 1)))))))
    (gSeq (gSet 8 (eSl (eVar 3) (oSome (eCB lenD (aCons (eVar 7) aNil))) oNone))
    (gRet (eLc (iR1 (aCons (eVar 1) aNil)) 5 (eC (.bool true)) (e2 addD (e2 addD (eVar 7) (e2 ixD (eVar 2) (e2 modD (e2 addD (e2 divD (eVar 0) (eC (.int 7))) (e2 mulD (eC (.int 7)) (eVar 5))) (eC (.int 26))))) (eVar 8)))))) gNil)
    (gRet (eLc (iR1 (aCons (eVar 1) aNil)) 5 (eC (.bool true)) (e2 addD (e2 addD (eVar 3) (e2 ixD (eVar 2) (e2 divD (eVar 5) (eC (.int 26))))) (e2 ixD (eVar 2) (e2 modD (eVar 5) (eC (.int 26))))))))))))))))
def F__law_names : List D → Option D := runG 9 2 g__law_names
theorem ok__law_names (T : TX K mg) : Fx P w K mg base "_law_names" ["_law_cell", "_law_many"] 1 F__law_names := by
  refine fx_of T.d__law_names sc__law_names rfl rfl (g := g__law_names) fun fa cdv A outer s H E hr => ?_
  exact (db_cons (ds_set (i := 2) sc__law_names.nd rfl (Or.inr rfl) de_str)
    (db_cons (ds_set (i := 3) sc__law_names.nd rfl (Or.inr rfl) de_str)
    (db_cons (ds_set (i := 4) sc__law_names.nd rfl (Or.inl rfl) (de_bin op_divD (de_var 0) de_int))
    (db_cons (ds_for PassesOwn.never rfl (wi_range1 (by rfl) T.z_range (da_cons de_int da_nil)) (pg_name (i := 5) sc__law_names.nd rfl (Or.inl rfl)) (db_cons (ds_set (i := 3) sc__law_names.nd rfl (Or.inr rfl) (de_bin op_addD (de_var 3) (de_ix (de_var 2) (de_bin op_modD (de_var 4) de_int) (fun _ _ => rfl))))
    (db_one (ds_set (i := 4) sc__law_names.nd rfl (Or.inl rfl) (de_bin op_divD (de_var 4) de_int)))))
    (db_cons (ds_set (i := 6) sc__law_names.nd rfl (Or.inl rfl) (de_bin op_modD (de_var 0) de_int))
    (db_cons (ds_if (dw_pt (dw_and (dt_cmp (op_eqDD (hu64 hr)) (de_var 6) de_int (by rfl)) (dw_and1 (dt_cmp op_ltD (de_var 1) de_int (by rfl))))) (db_one (ds_ret (de_lc rfl sc__law_names.nd (wi_range1 (by rfl) T.z_range (da_cons (de_var 1) da_nil)) (blkOk_by (own := [("_law_k", 5)]) (N := ["_law_cell", "_law_many", "_law_some", "_law_head", "_law_rest", "_law_k", "_law_way", "_law_left", "_law_right"]) (sc := defScope s__law_names) (by decide +kernel)) (fun _ _ _ _ _ => pg_name (i := 5) sc__law_names.nd rfl (Or.inl rfl)) (fun _ _ _ _ _ => dts_nil) (fun _ _ _ _ _ => (de_slice (de_var 3) do_none (do_some (de_bin op_addD (de_var 5) de_int))))))) db_nil)
    (db_cons (ds_if (dw_pt (dw_and (dt_cmp (op_eqDD (hu64 hr)) (de_var 6) de_int (by rfl)) (dw_and1 (dt_cmp op_ltD (de_var 1) de_int (by rfl))))) (db_one (ds_ret (de_lc rfl sc__law_names.nd (wi_range1 (by rfl) T.z_range (da_cons (de_var 1) da_nil)) (blkOk_by (own := [("_law_k", 5)]) (N := ["_law_cell", "_law_many", "_law_some", "_law_head", "_law_rest", "_law_k", "_law_way", "_law_left", "_law_right"]) (sc := defScope s__law_names) (by decide +kernel)) (fun _ _ _ _ _ => pg_name (i := 5) sc__law_names.nd rfl (Or.inl rfl)) (fun _ _ _ _ _ => dts_nil) (fun _ _ _ _ _ => (de_slice (de_var 3) (do_some (de_bin op_subD de_int (de_var 5))) do_none))))) db_nil)
    (db_cons (ds_set (i := 3) sc__law_names.nd rfl (Or.inr rfl) (de_slice (de_var 3) do_none (do_some (de_bin op_modD (de_bin op_divD (de_var 0) de_int) de_int))))
    (db_cons (ds_if (dw_pt (dw_and (dt_cmp op_ltD (de_var 6) de_int (by rfl)) (dw_and1 (dt_cmp op_ltD (de_var 1) de_int (by rfl))))) (db_cons (ds_set (i := 7) sc__law_names.nd rfl (Or.inr rfl) (de_slice (de_var 3) do_none (do_some (de_bin op_modD (de_bin op_divD (de_var 0) de_int) (de_bin op_addD (de_callB ca_len (by rfl) T.z_len (by decide +kernel) (da_cons (de_var 3) da_nil)) de_int)))))
    (db_cons (ds_set (i := 8) sc__law_names.nd rfl (Or.inr rfl) (de_slice (de_var 3) (do_some (de_callB ca_len (by rfl) T.z_len (by decide +kernel) (da_cons (de_var 7) da_nil))) do_none))
    (db_one (ds_ret (de_lc rfl sc__law_names.nd (wi_range1 (by rfl) T.z_range (da_cons (de_var 1) da_nil)) (blkOk_by (own := [("_law_k", 5)]) (N := ["_law_cell", "_law_many", "_law_some", "_law_head", "_law_rest", "_law_k", "_law_way", "_law_left", "_law_right"]) (sc := defScope s__law_names) (by decide +kernel)) (fun _ _ _ _ _ => pg_name (i := 5) sc__law_names.nd rfl (Or.inl rfl)) (fun _ _ _ _ _ => dts_nil) (fun _ _ _ _ _ => (de_bin op_addD (de_bin op_addD (de_var 7) (de_ix (de_var 2) (de_bin op_modD (de_bin op_addD (de_bin op_divD (de_var 0) de_int) (de_bin op_mulD de_int (de_var 5))) de_int) (fun _ _ => rfl))) (de_var 8)))))))) db_nil)
    (db_one (ds_ret (de_lc rfl sc__law_names.nd (wi_range1 (by rfl) T.z_range (da_cons (de_var 1) da_nil)) (blkOk_by (own := [("_law_k", 5)]) (N := ["_law_cell", "_law_many", "_law_some", "_law_head", "_law_rest", "_law_k", "_law_way", "_law_left", "_law_right"]) (sc := defScope s__law_names) (by decide +kernel)) (fun _ _ _ _ _ => pg_name (i := 5) sc__law_names.nd rfl (Or.inl rfl)) (fun _ _ _ _ _ => dts_nil) (fun _ _ _ _ _ => (de_bin op_addD (de_bin op_addD (de_var 3) (de_ix (de_var 2) (de_bin op_divD (de_var 5) de_int) (fun _ _ => rfl))) (de_ix (de_var 2) (de_bin op_modD (de_var 5) de_int) (fun _ _ => rfl))))))))))))))))
/-! _law_under -/
theorem sc__law_under : FnScope ["_law_nodes_here", "_law_k", "_law_found", "_law_waiting", "_law_one"] ["_law_nodes_here", "_law_k"] (defScope s__law_under) := ⟨rfl, rfl, rfl, by decide +kernel, rfl, by decide +kernel, by decide +kernel⟩
def b__law_under_1 : GS :=
    (gSeq (gSet 4 (e2 ixD (eVar 3) (eC (.int 0))))
    (gSeq (gApp 2 (eVar 4))
    (gSet 3 (e2 addD (e2 getD (e2 ixD (eVar 0) (eVar 4)) (eC (.str "inner"))) (eSl (eVar 3) (oSome (eC (.int 1))) oNone)))))
def g__law_under : GS :=
    (gSeq (gOwn 2 aNil)
    (gSeq (gSet 3 (eLst (aCons (eVar 1) aNil)))
    (gSeq (whileG (e2 neD (eVar 3) (eLst aNil)) b__law_under_1 1000)
    (gSeq (gFrz 2) (gRet (eVar 2))))))
def F__law_under : List D → Option D := runG 5 2 g__law_under
theorem ok__law_under (T : TX K mg) : Fx P w K mg base "_law_under" ["_law_nodes_here", "_law_k"] 1 F__law_under := by
  refine fx_of T.d__law_under sc__law_under rfl rfl (g := g__law_under) fun fa cdv A outer s H E hr => ?_
  exact (db_cons (ds_own (i := 2) sc__law_under.nd rfl (Or.inl rfl) da_nil)
    (db_cons (ds_set (i := 3) sc__law_under.nd rfl (Or.inl rfl) (de_lst (da_cons (de_var 1) da_nil)))
    (db_cons (ds_while 1000 PassesOwn.never (dt_cmp (op_neDD (hu64 hr)) (de_var 3) (de_lst da_nil) (by rfl)) (db_cons (ds_set (i := 4) sc__law_under.nd rfl (Or.inl rfl) (de_ix (de_var 3) de_int (fun _ _ => rfl)))
    (db_cons (ds_append (i := 2) rfl (Or.inl rfl) (de_var 4))
    (db_one (ds_set (i := 3) sc__law_under.nd rfl (Or.inl rfl) (de_bin op_addD (de_get (hu1 hr) (de_ix (de_var 0) (de_var 4) (fun _ _ => rfl)) de_str (fun _ _ => rfl)) (de_slice (de_var 3) (do_some de_int) do_none)))))))
    (db_frz 2 (db_one (ds_ret (de_var 2)))))))
/-! _law_many_by -/
theorem sc__law_many_by : FnScope ["_law_cell"] ["_law_cell"] (defScope s__law_many_by) := ⟨rfl, rfl, rfl, by decide +kernel, rfl, by decide +kernel, by decide +kernel⟩
def g__law_many_by : GS :=
    (gRet (e2 ixD (eLst (aCons (eC (.int 0)) (aCons (eC (.int 1)) (aCons (eC (.int 2)) (aCons (eC (.int 1)) (aCons (eC (.int 3)) (aCons (e2 powD (eC (.int 10)) (eC (.int 9))) (aCons (e2 modD (e2 divD (eVar 0) (eC (.int 6))) (eC (.int 9))) (aCons (e2 modD (e2 divD (eVar 0) (eC (.int 6))) (e2 addD (e2 powD (eC (.int 10)) (eC (.int 9))) (eC (.int 1)))) aNil))))))))) (e2 modD (eVar 0) (eC (.int 8)))))
def F__law_many_by : List D → Option D := runG 1 1 g__law_many_by
theorem ok__law_many_by (T : TX K mg) : Fx P w K mg base "_law_many_by" ["_law_cell"] 1 F__law_many_by := by
  refine fx_of T.d__law_many_by sc__law_many_by rfl rfl (g := g__law_many_by) fun fa cdv A outer s H E hr => ?_
  exact (db_one (ds_ret (de_ix (de_lst (da_cons de_int (da_cons de_int (da_cons de_int (da_cons de_int (da_cons de_int (da_cons (de_bin op_powD de_int de_int) (da_cons (de_bin op_modD (de_bin op_divD (de_var 0) de_int) de_int) (da_cons (de_bin op_modD (de_bin op_divD (de_var 0) de_int) (de_bin op_addD (de_bin op_powD de_int de_int) de_int)) da_nil))))))))) (de_bin op_modD (de_var 0) de_int) (fun _ _ => rfl))))
/-! _law_span_by -/
theorem sc__law_span_by : FnScope ["_law_cell"] ["_law_cell"] (defScope s__law_span_by) := ⟨rfl, rfl, rfl, by decide +kernel, rfl, by decide +kernel, by decide +kernel⟩
def g__law_span_by : GS :=
    (gRet (e2 ixD (eLst (aCons (eC (.int 3)) (aCons (eC (.int 1)) (aCons (e2 powD (eC (.int 10)) (eC (.int 9))) (aCons (eC (.int 2)) (aCons (e2 addD (eC (.int 1)) (e2 modD (e2 divD (eVar 0) (eC (.int 6))) (eC (.int 12)))) (aCons (e2 addD (eC (.int 1)) (e2 modD (e2 divD (eVar 0) (eC (.int 6))) (e2 powD (eC (.int 10)) (eC (.int 9))))) aNil))))))) (e2 modD (eVar 0) (eC (.int 6)))))
def F__law_span_by : List D → Option D := runG 1 1 g__law_span_by
theorem ok__law_span_by (T : TX K mg) : Fx P w K mg base "_law_span_by" ["_law_cell"] 1 F__law_span_by := by
  refine fx_of T.d__law_span_by sc__law_span_by rfl rfl (g := g__law_span_by) fun fa cdv A outer s H E hr => ?_
  exact (db_one (ds_ret (de_ix (de_lst (da_cons de_int (da_cons de_int (da_cons (de_bin op_powD de_int de_int) (da_cons de_int (da_cons (de_bin op_addD de_int (de_bin op_modD (de_bin op_divD (de_var 0) de_int) de_int)) (da_cons (de_bin op_addD de_int (de_bin op_modD (de_bin op_divD (de_var 0) de_int) (de_bin op_powD de_int de_int))) da_nil))))))) (de_bin op_modD (de_var 0) de_int) (fun _ _ => rfl))))
/-! _law_part -/
theorem sc__law_part : FnScope ["_law_nodes_here", "_law_names_here", "_law_k", "_law_cell", "_law_rule", "_law_parts", "_law_one", "_law_many"] ["_law_nodes_here", "_law_names_here", "_law_k"] (defScope s__law_part) := ⟨rfl, rfl, rfl, by decide +kernel, rfl, by decide +kernel, by decide +kernel⟩
def b__law_part_1 (rec : List D → Option D) : GS :=
    (gSet 5 (e2 addD (eVar 5) (eTup (aCons (eCall rec (aCons (eVar 0) (aCons (eVar 1) (aCons (eVar 6) aNil)))) aNil))))
def g__law_part (rec : List D → Option D) : GS :=
    (gSeq (gSet 3 (e2 getD (e2 ixD (eVar 0) (eVar 2)) (eC (.str "cell"))))
    (gSeq (gIf (eNot (e2 getD (e2 ixD (eVar 0) (eVar 2)) (eC (.str "warden")))) (gRet (eTup (aCons (eC (.str "worker")) (aCons (e2 ixD (eVar 1) (eVar 2)) (aCons (e2 ixD (eLst (aCons (eC (.str "always")) (aCons (eC (.str "faulted")) (aCons (eC (.str "never")) (aCons (eC (.str "faulted")) aNil))))) (e2 modD (eVar 3) (eC (.int 4)))) aNil))))) gNil)
    (gSeq (gSet 4 (e2 ixD (eLst (aCons (eC (.str "one")) (aCons (eC (.str "rest")) (aCons (eC (.str "all")) aNil)))) (e2 modD (eVar 3) (eC (.int 3)))))
    (gSeq (gSet 5 (eTup aNil))
    (gSeq (gFor (iSeq (e2 getD (e2 ixD (eVar 0) (eVar 2)) (eC (.str "inner")))) 6 (b__law_part_1 rec))
    (gSeq (gSet 7 (eCall (F__law_many_by) (aCons (e2 divD (eVar 3) (eC (.int 3))) aNil)))
    (gSeq (gIf (eAnd (e2 eqD (eVar 2) (eC (.int 0))) (e2 gtD (e2 modD (e2 divD (eVar 3) (eC (.int 3))) (eC (.int 4))) (eC (.int 0)))) (gSet 7 (eCB minD (aCons (e2 powD (eC (.int 10)) (eC (.int 9))) (aCons (e2 addD (eVar 7) (eC (.int 4))) aNil)))) gNil)
    (gRet (eTup (aCons (eC (.str "warden")) (aCons (e2 ixD (eVar 1) (eVar 2)) (aCons (eVar 4) (aCons (eVar 7) (aCons (eCall (F__law_span_by) (aCons (e2 divD (eVar 3) (eC (.int 24))) aNil)) (aCons (eVar 5) aNil)))))))))))))))
def F__law_part : Nat → List D → Option D
  | 0 => fun _ => none
  | n + 1 => runG 8 3 (g__law_part (F__law_part n))
theorem ok__law_part (T : TX K mg) : ∀ n : Nat, Fx P w K mg base "_law_part" ["_law_nodes_here", "_law_names_here", "_law_k"] (1 + n) (F__law_part n)
  | 0 => fx_none T.d__law_part
  | n + 1 => by
    have ih := ok__law_part T n
    refine fx_of (k := 1 + n) T.d__law_part sc__law_part rfl rfl (g := g__law_part (F__law_part n)) fun fa cdv A outer s H E hr => ?_
    exact (db_cons (ds_set (i := 3) sc__law_part.nd rfl (Or.inl rfl) (de_get (hu1 hr) (de_ix (de_var 0) (de_var 2) (fun _ _ => rfl)) de_str (fun _ _ => rfl)))
    (db_cons (ds_if (dt_not (dt_of (de_get (hu1 hr) (de_ix (de_var 0) (de_var 2) (fun _ _ => rfl)) de_str (fun _ _ => rfl)))) (db_one (ds_ret (de_tup (da_cons de_str (da_cons (de_ix (de_var 1) (de_var 2) (fun _ _ => rfl)) (da_cons (de_ix (de_lst (da_cons de_str (da_cons de_str (da_cons de_str (da_cons de_str da_nil))))) (de_bin op_modD (de_var 3) de_int) (fun _ _ => rfl)) da_nil)))))) db_nil)
    (db_cons (ds_set (i := 4) sc__law_part.nd rfl (Or.inl rfl) (de_ix (de_lst (da_cons de_str (da_cons de_str (da_cons de_str da_nil)))) (de_bin op_modD (de_var 3) de_int) (fun _ _ => rfl)))
    (db_cons (ds_set (i := 5) sc__law_part.nd rfl (Or.inl rfl) (de_tup da_nil))
    (db_cons (ds_for PassesOwn.never rfl (wi_seq (de_get (hu1 hr) (de_ix (de_var 0) (de_var 2) (fun _ _ => rfl)) de_str (fun _ _ => rfl))) (pg_name (i := 6) sc__law_part.nd rfl (Or.inl rfl)) (db_one (ds_set (i := 5) sc__law_part.nd rfl (Or.inl rfl) (de_bin op_addD (de_var 5) (de_tup (da_cons (de_callx ih hr (by omega) (by rfl) (da_cons (de_var 0) (da_cons (de_var 1) (da_cons (de_var 6) da_nil)))) da_nil))))))
    (db_cons (ds_set (i := 7) sc__law_part.nd rfl (Or.inl rfl) (de_callx (ok__law_many_by T) hr (by omega) (by rfl) (da_cons (de_bin op_divD (de_var 3) de_int) da_nil)))
    (db_cons (ds_if (dw_pt (dw_and (dt_cmp (op_eqDD (hu64 hr)) (de_var 2) de_int (by rfl)) (dw_and1 (dt_cmp op_gtD (de_bin op_modD (de_bin op_divD (de_var 3) de_int) de_int) de_int (by rfl))))) (db_one (ds_set (i := 7) sc__law_part.nd rfl (Or.inl rfl) (de_callB (ca_min rfl) (by rfl) T.z_min (by decide +kernel) (da_cons (de_bin op_powD de_int de_int) (da_cons (de_bin op_addD (de_var 7) de_int) da_nil))))) db_nil)
    (db_one (ds_ret (de_tup (da_cons de_str (da_cons (de_ix (de_var 1) (de_var 2) (fun _ _ => rfl)) (da_cons (de_var 4) (da_cons (de_var 7) (da_cons (de_callx (ok__law_span_by T) hr (by omega) (by rfl) (da_cons (de_bin op_divD (de_var 3) de_int) da_nil)) (da_cons (de_var 5) da_nil))))))))))))))))
/-! _law_is_name -/
theorem sc__law_is_name : FnScope ["_law_thing", "_law_sign"] ["_law_thing"] (defScope s__law_is_name) := ⟨rfl, rfl, rfl, by decide +kernel, rfl, by decide +kernel, by decide +kernel⟩
def g__law_is_name : GS :=
    (gSeq (gIf (eOr (eNot (eIs "str" (eVar 0))) (eOr (e2 ltD (eCB lenD (aCons (eVar 0) aNil)) (eC (.int 1))) (e2 gtD (eCB lenD (aCons (eVar 0) aNil)) (eC (.int 8))))) (gRet (eC (.bool false))) gNil)
    (gRet (e2 eqD (eLc (iSeq (eVar 0)) 1 (e2 (inD true) (eVar 1) (eC (.str "abcdefghijklmnopqrstuvwxyz"))) (eVar 1)) (eLst aNil))))
def F__law_is_name : List D → Option D := runG 2 1 g__law_is_name
theorem ok__law_is_name (T : TX K mg) : Fx P w K mg base "_law_is_name" ["_law_thing"] 1 F__law_is_name := by
  refine fx_of T.d__law_is_name sc__law_is_name rfl rfl (g := g__law_is_name) fun fa cdv A outer s H E hr => ?_
  exact (db_cons (ds_if (dw_pt (dw_or (dt_not (dt_of (de_isiB_str T.z_isinstance T.z_str (by rfl) (by rfl) (de_var 0)))) (dw_or (dt_cmp op_ltD (de_callB ca_len (by rfl) T.z_len (by decide +kernel) (da_cons (de_var 0) da_nil)) de_int (by rfl)) (dw_or1 (dt_cmp op_gtD (de_callB ca_len (by rfl) T.z_len (by decide +kernel) (da_cons (de_var 0) da_nil)) de_int (by rfl)))))) (db_one (ds_ret de_bl)) db_nil)
    (db_one (ds_ret (de_cmp (op_eqDD (hu64 hr)) (de_lc rfl sc__law_is_name.nd (wi_seq (de_var 0)) (blkOk_by (own := [("_law_sign", 1)]) (N := ["_law_thing", "_law_sign"]) (sc := defScope s__law_is_name) (by decide +kernel)) (fun _ _ _ _ _ => pg_name (i := 1) sc__law_is_name.nd rfl (Or.inl rfl)) (fun _ _ _ _ _ => (dts_one (dt_cmp (op_notInDD (hu65 hr)) (de_var 1) de_str (by rfl)))) (fun _ _ _ _ _ => (de_var 1))) (de_lst da_nil) (by rfl)))))
/-! _law_is_part -/
theorem sc__law_is_part : FnScope ["_law_thing", "_law_above", "_law_part_here"] ["_law_thing", "_law_above"] (defScope s__law_is_part) := ⟨rfl, rfl, rfl, by decide +kernel, rfl, by decide +kernel, by decide +kernel⟩
def g__law_is_part (rec : List D → Option D) : GS :=
    (gSeq (gIf (eOr (eNot (eIs "tuple" (eVar 0))) (eOr (e2 ltD (eCB lenD (aCons (eVar 0) aNil)) (eC (.int 3))) (eOr (eNot (eIs "str" (e2 ixD (eVar 0) (eC (.int 0))))) (eNot (eCall (F__law_is_name) (aCons (e2 ixD (eVar 0) (eC (.int 1))) aNil)))))) (gRet (eC (.bool false))) gNil)
    (gSeq (gIf (eNot (eIs "str" (e2 ixD (eVar 0) (eC (.int 2))))) (gRet (eC (.bool false))) gNil)
    (gSeq (gIf (e2 eqD (e2 ixD (eVar 0) (eC (.int 0))) (eC (.str "worker"))) (gRet (eAnd (e2 eqD (eCB lenD (aCons (eVar 0) aNil)) (eC (.int 3))) (e2 (inD false) (e2 ixD (eVar 0) (eC (.int 2))) (eLst (aCons (eC (.str "always")) (aCons (eC (.str "faulted")) (aCons (eC (.str "never")) aNil))))))) gNil)
    (gSeq (gIf (eOr (e2 neD (e2 ixD (eVar 0) (eC (.int 0))) (eC (.str "warden"))) (eOr (e2 neD (eCB lenD (aCons (eVar 0) aNil)) (eC (.int 6))) (eOr (e2 gtD (eVar 1) (eC (.int 5))) (e2 (inD true) (e2 ixD (eVar 0) (eC (.int 2))) (eLst (aCons (eC (.str "one")) (aCons (eC (.str "rest")) (aCons (eC (.str "all")) aNil)))))))) (gRet (eC (.bool false))) gNil)
    (gSeq (gIf (eOr (eNot (eCall (F__law_whole) (aCons (e2 ixD (eVar 0) (eC (.int 3))) aNil))) (eNot (eChain leD leD (eC (.int 0)) (e2 ixD (eVar 0) (eC (.int 3))) (e2 powD (eC (.int 10)) (eC (.int 9)))))) (gRet (eC (.bool false))) gNil)
    (gSeq (gIf (eOr (eNot (eCall (F__law_whole) (aCons (e2 ixD (eVar 0) (eC (.int 4))) aNil))) (eNot (eChain leD leD (eC (.int 1)) (e2 ixD (eVar 0) (eC (.int 4))) (e2 powD (eC (.int 10)) (eC (.int 9)))))) (gRet (eC (.bool false))) gNil)
    (gSeq (gIf (eOr (eNot (eIs "tuple" (e2 ixD (eVar 0) (eC (.int 5))))) (eNot (eChain leD leD (eC (.int 1)) (eCB lenD (aCons (e2 ixD (eVar 0) (eC (.int 5))) aNil)) (eC (.int 8))))) (gRet (eC (.bool false))) gNil)
    (gRet (e2 eqD (eLc (iSeq (e2 ixD (eVar 0) (eC (.int 5)))) 2 (eNot (eCall rec (aCons (eVar 2) (aCons (e2 addD (eVar 1) (eC (.int 1))) aNil)))) (eVar 2)) (eLst aNil))))))))))
def F__law_is_part : Nat → List D → Option D
  | 0 => fun _ => none
  | n + 1 => runG 3 2 (g__law_is_part (F__law_is_part n))
theorem ok__law_is_part (T : TX K mg) : ∀ n : Nat, Fx P w K mg base "_law_is_part" ["_law_thing", "_law_above"] (1 + n) (F__law_is_part n)
  | 0 => fx_none T.d__law_is_part
  | n + 1 => by
    have ih := ok__law_is_part T n
    refine fx_of (k := 1 + n) T.d__law_is_part sc__law_is_part rfl rfl (g := g__law_is_part (F__law_is_part n)) fun fa cdv A outer s H E hr => ?_
    exact (db_cons (ds_if (dw_pt (dw_or (dt_not (dt_of (de_isiB_tuple T.z_isinstance T.z_tuple (by rfl) (by rfl) (de_var 0)))) (dw_or (dt_cmp op_ltD (de_callB ca_len (by rfl) T.z_len (by decide +kernel) (da_cons (de_var 0) da_nil)) de_int (by rfl)) (dw_or (dt_not (dt_of (de_isiB_str T.z_isinstance T.z_str (by rfl) (by rfl) (de_ix (de_var 0) de_int (fun _ _ => rfl))))) (dw_or1 (dt_not (dt_of (de_callx (ok__law_is_name T) hr (by omega) (by rfl) (da_cons (de_ix (de_var 0) de_int (fun _ _ => rfl)) da_nil))))))))) (db_one (ds_ret de_bl)) db_nil)
    (db_cons (ds_if (dt_not (dt_of (de_isiB_str T.z_isinstance T.z_str (by rfl) (by rfl) (de_ix (de_var 0) de_int (fun _ _ => rfl))))) (db_one (ds_ret de_bl)) db_nil)
    (db_cons (ds_if (dt_cmp (op_eqDD (hu64 hr)) (de_ix (de_var 0) de_int (fun _ _ => rfl)) de_str (by rfl)) (db_one (ds_ret (de_and (de_cmp (op_eqDD (hu64 hr)) (de_callB ca_len (by rfl) T.z_len (by decide +kernel) (da_cons (de_var 0) da_nil)) de_int (by rfl)) (de_one (de_cmp (op_inDD (hu65 hr)) (de_ix (de_var 0) de_int (fun _ _ => rfl)) (de_lst (da_cons de_str (da_cons de_str (da_cons de_str da_nil)))) (by rfl)))))) db_nil)
    (db_cons (ds_if (dw_pt (dw_or (dt_cmp (op_neDD (hu64 hr)) (de_ix (de_var 0) de_int (fun _ _ => rfl)) de_str (by rfl)) (dw_or (dt_cmp (op_neDD (hu64 hr)) (de_callB ca_len (by rfl) T.z_len (by decide +kernel) (da_cons (de_var 0) da_nil)) de_int (by rfl)) (dw_or (dt_cmp op_gtD (de_var 1) de_int (by rfl)) (dw_or1 (dt_cmp (op_notInDD (hu65 hr)) (de_ix (de_var 0) de_int (fun _ _ => rfl)) (de_lst (da_cons de_str (da_cons de_str (da_cons de_str da_nil)))) (by rfl))))))) (db_one (ds_ret de_bl)) db_nil)
    (db_cons (ds_if (dw_pt (dw_or (dt_not (dt_of (de_callx (ok__law_whole T) hr (by omega) (by rfl) (da_cons (de_ix (de_var 0) de_int (fun _ _ => rfl)) da_nil)))) (dw_or1 (dt_not (dt_chain op_leD op_leD de_int (de_ix (de_var 0) de_int (fun _ _ => rfl)) (de_bin op_powD de_int de_int)))))) (db_one (ds_ret de_bl)) db_nil)
    (db_cons (ds_if (dw_pt (dw_or (dt_not (dt_of (de_callx (ok__law_whole T) hr (by omega) (by rfl) (da_cons (de_ix (de_var 0) de_int (fun _ _ => rfl)) da_nil)))) (dw_or1 (dt_not (dt_chain op_leD op_leD de_int (de_ix (de_var 0) de_int (fun _ _ => rfl)) (de_bin op_powD de_int de_int)))))) (db_one (ds_ret de_bl)) db_nil)
    (db_cons (ds_if (dw_pt (dw_or (dt_not (dt_of (de_isiB_tuple T.z_isinstance T.z_tuple (by rfl) (by rfl) (de_ix (de_var 0) de_int (fun _ _ => rfl))))) (dw_or1 (dt_not (dt_chain op_leD op_leD de_int (de_callB ca_len (by rfl) T.z_len (by decide +kernel) (da_cons (de_ix (de_var 0) de_int (fun _ _ => rfl)) da_nil)) de_int))))) (db_one (ds_ret de_bl)) db_nil)
    (db_one (ds_ret (de_cmp (op_eqDD (hu64 hr)) (de_lc rfl sc__law_is_part.nd (wi_seq (de_ix (de_var 0) de_int (fun _ _ => rfl))) (blkOk_by (own := [("_law_part_here", 2)]) (N := ["_law_thing", "_law_above", "_law_part_here"]) (sc := defScope s__law_is_part) (by decide +kernel)) (fun _ _ _ _ _ => pg_name (i := 2) sc__law_is_part.nd rfl (Or.inl rfl)) (fun _ _ _ _ _ => (dts_one (dt_not (dt_of (de_callx ih hr (by omega) (by rfl) (da_cons (de_var 2) (da_cons (de_bin op_addD (de_var 1) de_int) da_nil))))))) (fun _ _ _ _ _ => (de_var 2))) (de_lst da_nil) (by rfl)))))))))))
/-! _law_all_names -/
theorem sc__law_all_names : FnScope ["_law_plan", "_law_found", "_law_waiting", "_law_part_here"] ["_law_plan"] (defScope s__law_all_names) := ⟨rfl, rfl, rfl, by decide +kernel, rfl, by decide +kernel, by decide +kernel⟩
def b__law_all_names_1 : GS :=
    (gSeq (gSet 3 (e2 ixD (eVar 2) (eC (.int 0))))
    (gSeq (gApp 1 (e2 ixD (eVar 3) (eC (.int 1))))
    (gSeq (gSet 2 (eSl (eVar 2) (oSome (eC (.int 1))) oNone))
    (gIf (e2 eqD (e2 ixD (eVar 3) (eC (.int 0))) (eC (.str "warden"))) (gSet 2 (e2 addD (eCB listD (aCons (e2 ixD (eVar 3) (eC (.int 5))) aNil)) (eVar 2))) gNil))))
def g__law_all_names : GS :=
    (gSeq (gOwn 1 aNil)
    (gSeq (gSet 2 (eLst (aCons (eVar 0) aNil)))
    (gSeq (whileG (e2 neD (eVar 2) (eLst aNil)) b__law_all_names_1 1000)
    (gSeq (gFrz 1) (gRet (eVar 1))))))
def F__law_all_names : List D → Option D := runG 4 1 g__law_all_names
theorem ok__law_all_names (T : TX K mg) : Fx P w K mg base "_law_all_names" ["_law_plan"] 1 F__law_all_names := by
  refine fx_of T.d__law_all_names sc__law_all_names rfl rfl (g := g__law_all_names) fun fa cdv A outer s H E hr => ?_
  exact (db_cons (ds_own (i := 1) sc__law_all_names.nd rfl (Or.inl rfl) da_nil)
    (db_cons (ds_set (i := 2) sc__law_all_names.nd rfl (Or.inl rfl) (de_lst (da_cons (de_var 0) da_nil)))
    (db_cons (ds_while 1000 PassesOwn.never (dt_cmp (op_neDD (hu64 hr)) (de_var 2) (de_lst da_nil) (by rfl)) (db_cons (ds_set (i := 3) sc__law_all_names.nd rfl (Or.inl rfl) (de_ix (de_var 2) de_int (fun _ _ => rfl)))
    (db_cons (ds_append (i := 1) rfl (Or.inl rfl) (de_ix (de_var 3) de_int (fun _ _ => rfl)))
    (db_cons (ds_set (i := 2) sc__law_all_names.nd rfl (Or.inl rfl) (de_slice (de_var 2) (do_some de_int) do_none))
    (db_one (ds_if (dt_cmp (op_eqDD (hu64 hr)) (de_ix (de_var 3) de_int (fun _ _ => rfl)) de_str (by rfl)) (db_one (ds_set (i := 2) sc__law_all_names.nd rfl (Or.inl rfl) (de_bin op_addD (de_callTy ca_list (by rfl) T.z_list (by decide +kernel) (da_cons (de_ix (de_var 3) de_int (fun _ _ => rfl)) da_nil)) (de_var 2)))) db_nil))))))
    (db_frz 1 (db_one (ds_ret (de_var 1)))))))
/-! _law_is_plan -/
theorem sc__law_is_plan : FnScope ["_law_thing", "_law_names_here", "_law_name"] ["_law_thing"] (defScope s__law_is_plan) := ⟨rfl, rfl, rfl, by decide +kernel, rfl, by decide +kernel, by decide +kernel⟩
def g__law_is_plan : GS :=
    (gSeq (gIf (eOr (eNot (eCall (F__law_is_part 14) (aCons (eVar 0) (aCons (eC (.int 0)) aNil)))) (e2 neD (e2 ixD (eVar 0) (eC (.int 0))) (eC (.str "warden")))) (gRet (eC (.bool false))) gNil)
    (gSeq (gSet 1 (eCall (F__law_all_names) (aCons (eVar 0) aNil)))
    (gRet (eAnd (e2 leD (eCB lenD (aCons (eVar 1) aNil)) (eC (.int 60))) (e2 eqD (eLc (iSeq (eVar 1)) 2 (e2 gtD (e2 countD (eVar 1) (eVar 2)) (eC (.int 1))) (eVar 2)) (eLst aNil))))))
def F__law_is_plan : List D → Option D := runG 3 1 g__law_is_plan
theorem ok__law_is_plan (T : TX K mg) : Fx P w K mg base "_law_is_plan" ["_law_thing"] 16 F__law_is_plan := by
  refine fx_of T.d__law_is_plan sc__law_is_plan rfl rfl (g := g__law_is_plan) fun fa cdv A outer s H E hr => ?_
  exact (db_cons (ds_if (dw_pt (dw_or (dt_not (dt_of (de_callx (ok__law_is_part T 14) hr (by omega) (by rfl) (da_cons (de_var 0) (da_cons de_int da_nil))))) (dw_or1 (dt_cmp (op_neDD (hu64 hr)) (de_ix (de_var 0) de_int (fun _ _ => rfl)) de_str (by rfl))))) (db_one (ds_ret de_bl)) db_nil)
    (db_cons (ds_set (i := 1) sc__law_is_plan.nd rfl (Or.inr rfl) (de_callx (ok__law_all_names T) hr (by omega) (by rfl) (da_cons (de_var 0) da_nil)))
    (db_one (ds_ret (de_and (de_cmp op_leD (de_callB ca_len (by rfl) T.z_len (by decide +kernel) (da_cons (de_var 1) da_nil)) de_int (by rfl)) (de_one (de_cmp (op_eqDD (hu64 hr)) (de_lc rfl sc__law_is_plan.nd (wi_seq (de_var 1)) (blkOk_by (own := [("_law_name", 2)]) (N := ["_law_thing", "_law_names_here", "_law_name"]) (sc := defScope s__law_is_plan) (by decide +kernel)) (fun _ _ _ _ _ => pg_name (i := 2) sc__law_is_plan.nd rfl (Or.inl rfl)) (fun _ _ _ _ _ => (dts_one (dt_cmp op_gtD (de_count (hu65 hr) (de_var 1) (de_var 2)) de_int (by rfl)))) (fun _ _ _ _ _ => (de_var 2))) (de_lst da_nil) (by rfl))))))))
/-! _law_odd_by -/
theorem sc__law_odd_by : FnScope ["_law_part_here", "_law_cell", "_law_some"] ["_law_part_here", "_law_cell"] (defScope s__law_odd_by) := ⟨rfl, rfl, rfl, by decide +kernel, rfl, by decide +kernel, by decide +kernel⟩
def g__law_odd_by : GS :=
    (gSeq (gIf (eIs "tuple" (eVar 0)) (gSeq (gSet 2 (eLst (aCons (eCB listD (aCons (eVar 0) aNil)) (aCons (eSl (eVar 0) oNone (oSome (e1 negD (eC (.int 1))))) (aCons (e2 addD (eVar 0) (eSl (eVar 0) (oSome (e1 negD (eC (.int 1)))) oNone)) (aCons (e1 revT (eVar 0)) (aCons (eTup aNil) (aCons (eC .none) (aCons (eSl (eVar 0) (oSome (eC (.int 1))) oNone) (aCons (e2 addD (eVar 0) (eTup (aCons (eVar 0) aNil))) (aCons (eC (.int 5)) aNil)))))))))))
    (gRet (e2 ixD (eVar 2) (e2 modD (eVar 1) (eC (.int 9)))))) gNil)
    (gSeq (gIf (eIs "str" (eVar 0)) (gSeq (gSet 2 (eLst (aCons (e2 addD (eVar 0) (eC (.str "abcdefgh"))) (aCons (e1 upperD (eVar 0)) (aCons (eC (.str "")) (aCons (e2 addD (eVar 0) (eC (.str " "))) (aCons (eC .none) (aCons (eSl (eVar 0) (oSome (eC (.int 1))) oNone) (aCons (eC (.str "never")) (aCons (eC (.str "one")) (aCons (eC (.str "warden")) (aCons (eC (.str "worker")) aNil))))))))))))
    (gRet (e2 ixD (e2 addD (eVar 2) (eLst (aCons (eC (.int 5)) (aCons (eC (.str "aa")) (aCons (e2 addD (eVar 0) (eC (.str "\n"))) (aCons (eTup (aCons (eVar 0) aNil)) aNil)))))) (e2 modD (eVar 1) (eC (.int 14)))))) gNil)
    (gSeq (gSet 2 (eLst (aCons (e2 subD (eVar 0) (eC (.int 1))) (aCons (e2 addD (eVar 0) (eC (.int 1))) (aCons (e2 addD (eVar 0) (e2 powD (eC (.int 10)) (eC (.int 9)))) (aCons (e2 subD (e1 negD (eC (.int 1))) (eVar 0)) (aCons (e2 eqD (eVar 0) (eC (.int 1))) (aCons (eCB strD (aCons (eVar 0) aNil)) (aCons (eC .none) (aCons (eC (.int 0)) (aCons (e2 addD (e2 powD (eC (.int 10)) (eC (.int 9))) (eC (.int 1))) (aCons (eTup (aCons (eVar 0) aNil)) aNil))))))))))))
    (gRet (e2 ixD (eVar 2) (e2 modD (eVar 1) (eC (.int 10))))))))
def F__law_odd_by : List D → Option D := runG 3 2 g__law_odd_by
theorem ok__law_odd_by (T : TX K mg) : Fx P w K mg base "_law_odd_by" ["_law_part_here", "_law_cell"] 1 F__law_odd_by := by
  refine fx_of T.d__law_odd_by sc__law_odd_by rfl rfl (g := g__law_odd_by) fun fa cdv A outer s H E hr => ?_
  exact (db_cons (ds_if (dt_of (de_isiB_tuple T.z_isinstance T.z_tuple (by rfl) (by rfl) (de_var 0))) (db_cons (ds_set (i := 2) sc__law_odd_by.nd rfl (Or.inl rfl) (de_lst (da_cons (de_callTy ca_list (by rfl) T.z_list (by decide +kernel) (da_cons (de_var 0) da_nil)) (da_cons (de_slice (de_var 0) do_none (do_some (de_neg de_int))) (da_cons (de_bin op_addD (de_var 0) (de_slice (de_var 0) (do_some (de_neg de_int)) do_none)) (da_cons (de_revT (de_var 0)) (da_cons (de_tup da_nil) (da_cons de_non (da_cons (de_slice (de_var 0) (do_some de_int) do_none) (da_cons (de_bin op_addD (de_var 0) (de_tup (da_cons (de_var 0) da_nil))) (da_cons de_int da_nil)))))))))))
    (db_one (ds_ret (de_ix (de_var 2) (de_bin op_modD (de_var 1) de_int) (fun _ _ => rfl))))) db_nil)
    (db_cons (ds_if (dt_of (de_isiB_str T.z_isinstance T.z_str (by rfl) (by rfl) (de_var 0))) (db_cons (ds_set (i := 2) sc__law_odd_by.nd rfl (Or.inl rfl) (de_lst (da_cons (de_bin op_addD (de_var 0) de_str) (da_cons (de_upper (de_var 0)) (da_cons de_str (da_cons (de_bin op_addD (de_var 0) de_str) (da_cons de_non (da_cons (de_slice (de_var 0) (do_some de_int) do_none) (da_cons de_str (da_cons de_str (da_cons de_str (da_cons de_str da_nil))))))))))))
    (db_one (ds_ret (de_ix (de_bin op_addD (de_var 2) (de_lst (da_cons de_int (da_cons de_str (da_cons (de_bin op_addD (de_var 0) de_str) (da_cons (de_tup (da_cons (de_var 0) da_nil)) da_nil)))))) (de_bin op_modD (de_var 1) de_int) (fun _ _ => rfl))))) db_nil)
    (db_cons (ds_set (i := 2) sc__law_odd_by.nd rfl (Or.inl rfl) (de_lst (da_cons (de_bin op_subD (de_var 0) de_int) (da_cons (de_bin op_addD (de_var 0) de_int) (da_cons (de_bin op_addD (de_var 0) (de_bin op_powD de_int de_int)) (da_cons (de_bin op_subD (de_neg de_int) (de_var 0)) (da_cons (de_cmp (op_eqDD (hu64 hr)) (de_var 0) de_int (by rfl)) (da_cons (de_callTy ca_str (by rfl) T.z_str (by decide +kernel) (da_cons (de_var 0) da_nil)) (da_cons de_non (da_cons de_int (da_cons (de_bin op_addD (de_bin op_powD de_int de_int) de_int) (da_cons (de_tup (da_cons (de_var 0) da_nil)) da_nil))))))))))))
    (db_one (ds_ret (de_ix (de_var 2) (de_bin op_modD (de_var 1) de_int) (fun _ _ => rfl)))))))
/-! _law_spoilt -/
theorem sc__law_spoilt : FnScope ["_law_thing", "_law_cell", "_law_deep", "_law_at", "_law_part_here"] ["_law_thing", "_law_cell", "_law_deep"] (defScope s__law_spoilt) := ⟨rfl, rfl, rfl, by decide +kernel, rfl, by decide +kernel, by decide +kernel⟩
def g__law_spoilt (rec : List D → Option D) : GS :=
    (gSeq (gIf (eOr (e2 eqD (eVar 2) (eC (.int 0))) (eOr (eNot (eIs "tuple" (eVar 0))) (eOr (e2 eqD (eVar 0) (eTup aNil)) (e2 eqD (e2 modD (eVar 1) (eC (.int 5))) (eC (.int 0)))))) (gRet (eCall (F__law_odd_by) (aCons (eVar 0) (aCons (e2 divD (eVar 1) (eC (.int 5))) aNil)))) gNil)
    (gSeq (gSet 3 (e2 modD (e2 divD (eVar 1) (eC (.int 5))) (eCB lenD (aCons (eVar 0) aNil))))
    (gSeq (gSet 4 (eCall rec (aCons (e2 ixD (eVar 0) (eVar 3)) (aCons (e2 divD (e2 divD (eVar 1) (eC (.int 5))) (eCB lenD (aCons (eVar 0) aNil))) (aCons (e2 subD (eVar 2) (eC (.int 1))) aNil)))))
    (gRet (e2 addD (e2 addD (eSl (eVar 0) oNone (oSome (eVar 3))) (eTup (aCons (eVar 4) aNil))) (eSl (eVar 0) (oSome (e2 addD (eVar 3) (eC (.int 1)))) oNone))))))
def F__law_spoilt : Nat → List D → Option D
  | 0 => fun _ => none
  | n + 1 => runG 5 3 (g__law_spoilt (F__law_spoilt n))
theorem ok__law_spoilt (T : TX K mg) : ∀ n : Nat, Fx P w K mg base "_law_spoilt" ["_law_thing", "_law_cell", "_law_deep"] (1 + n) (F__law_spoilt n)
  | 0 => fx_none T.d__law_spoilt
  | n + 1 => by
    have ih := ok__law_spoilt T n
    refine fx_of (k := 1 + n) T.d__law_spoilt sc__law_spoilt rfl rfl (g := g__law_spoilt (F__law_spoilt n)) fun fa cdv A outer s H E hr => ?_
    exact (db_cons (ds_if (dw_pt (dw_or (dt_cmp (op_eqDD (hu64 hr)) (de_var 2) de_int (by rfl)) (dw_or (dt_not (dt_of (de_isiB_tuple T.z_isinstance T.z_tuple (by rfl) (by rfl) (de_var 0)))) (dw_or (dt_cmp (op_eqDD (hu64 hr)) (de_var 0) (de_tup da_nil) (by rfl)) (dw_or1 (dt_cmp (op_eqDD (hu64 hr)) (de_bin op_modD (de_var 1) de_int) de_int (by rfl))))))) (db_one (ds_ret (de_callx (ok__law_odd_by T) hr (by omega) (by rfl) (da_cons (de_var 0) (da_cons (de_bin op_divD (de_var 1) de_int) da_nil))))) db_nil)
    (db_cons (ds_set (i := 3) sc__law_spoilt.nd rfl (Or.inl rfl) (de_bin op_modD (de_bin op_divD (de_var 1) de_int) (de_callB ca_len (by rfl) T.z_len (by decide +kernel) (da_cons (de_var 0) da_nil))))
    (db_cons (ds_set (i := 4) sc__law_spoilt.nd rfl (Or.inl rfl) (de_callx ih hr (by omega) (by rfl) (da_cons (de_ix (de_var 0) (de_var 3) (fun _ _ => rfl)) (da_cons (de_bin op_divD (de_bin op_divD (de_var 1) de_int) (de_callB ca_len (by rfl) T.z_len (by decide +kernel) (da_cons (de_var 0) da_nil))) (da_cons (de_bin op_subD (de_var 2) de_int) da_nil)))))
    (db_one (ds_ret (de_bin op_addD (de_bin op_addD (de_slice (de_var 0) do_none (do_some (de_var 3))) (de_tup (da_cons (de_var 4) da_nil))) (de_slice (de_var 0) (do_some (de_bin op_addD (de_var 3) de_int)) do_none)))))))
/-! _law_wide -/
theorem sc__law_wide : FnScope ["_law_cell", "_law_names_here", "_law_size", "_law_parts", "_law_at", "_law_k", "_law_many", "_law_inner", "_law_j"] ["_law_cell", "_law_names_here"] (defScope s__law_wide) := ⟨rfl, rfl, rfl, by decide +kernel, rfl, by decide +kernel, by decide +kernel⟩
def b__law_wide_1 : GS :=
    (gSeq (gSet 6 (eC (.int 8)))
    (gSeq (gIf (e2 eqD (eVar 5) (eC (.int 6))) (gSet 6 (e2 subD (eVar 2) (eC (.int 56)))) gNil)
    (gSeq (gSet 7 (eCB tupD (aCons (eLc (iR1 (aCons (eVar 6) aNil)) 8 (eC (.bool true)) (eTup (aCons (eC (.str "worker")) (aCons (e2 ixD (eVar 1) (e2 addD (e2 addD (eVar 4) (eC (.int 1))) (eVar 8))) (aCons (eC (.str "always")) aNil))))) aNil)))
    (gSeq (gSet 3 (e2 addD (eVar 3) (eTup (aCons (eTup (aCons (eC (.str "warden")) (aCons (e2 ixD (eVar 1) (eVar 4)) (aCons (eC (.str "one")) (aCons (eVar 5) (aCons (e2 addD (eC (.int 1)) (eVar 5)) (aCons (eVar 7) aNil))))))) aNil))))
    (gSet 4 (e2 addD (e2 addD (eVar 4) (eC (.int 1))) (eVar 6)))))))
def g__law_wide : GS :=
    (gSeq (gSet 2 (e2 ixD (eLst (aCons (eC (.int 60)) (aCons (eC (.int 61)) (aCons (eC (.int 59)) (aCons (eC (.int 60)) (aCons (eC (.int 57)) (aCons (eC (.int 64)) (aCons (eC (.int 62)) (aCons (eC (.int 61)) aNil))))))))) (e2 modD (eVar 0) (eC (.int 8)))))
    (gSeq (gSet 3 (eTup aNil))
    (gSeq (gSet 4 (eC (.int 1)))
    (gSeq (gFor (iR1 (aCons (eC (.int 7)) aNil)) 5 b__law_wide_1)
    (gRet (eTup (aCons (eC (.str "warden")) (aCons (e2 ixD (eVar 1) (eC (.int 0))) (aCons (eC (.str "all")) (aCons (eC (.int 1)) (aCons (eC (.int 5)) (aCons (eVar 3) aNil))))))))))))
def F__law_wide : List D → Option D := runG 9 2 g__law_wide
theorem ok__law_wide (T : TX K mg) : Fx P w K mg base "_law_wide" ["_law_cell", "_law_names_here"] 1 F__law_wide := by
  refine fx_of T.d__law_wide sc__law_wide rfl rfl (g := g__law_wide) fun fa cdv A outer s H E hr => ?_
  exact (db_cons (ds_set (i := 2) sc__law_wide.nd rfl (Or.inl rfl) (de_ix (de_lst (da_cons de_int (da_cons de_int (da_cons de_int (da_cons de_int (da_cons de_int (da_cons de_int (da_cons de_int (da_cons de_int da_nil))))))))) (de_bin op_modD (de_var 0) de_int) (fun _ _ => rfl)))
    (db_cons (ds_set (i := 3) sc__law_wide.nd rfl (Or.inl rfl) (de_tup da_nil))
    (db_cons (ds_set (i := 4) sc__law_wide.nd rfl (Or.inr rfl) de_int)
    (db_cons (ds_for PassesOwn.never rfl (wi_range1 (by rfl) T.z_range (da_cons de_int da_nil)) (pg_name (i := 5) sc__law_wide.nd rfl (Or.inl rfl)) (db_cons (ds_set (i := 6) sc__law_wide.nd rfl (Or.inl rfl) de_int)
    (db_cons (ds_if (dt_cmp (op_eqDD (hu64 hr)) (de_var 5) de_int (by rfl)) (db_one (ds_set (i := 6) sc__law_wide.nd rfl (Or.inl rfl) (de_bin op_subD (de_var 2) de_int))) db_nil)
    (db_cons (ds_set (i := 7) sc__law_wide.nd rfl (Or.inl rfl) (de_callTy ca_tuple (by rfl) T.z_tuple (by decide +kernel) (da_cons (de_lc rfl sc__law_wide.nd (wi_range1 (by rfl) T.z_range (da_cons (de_var 6) da_nil)) (blkOk_by (own := [("_law_j", 8)]) (N := ["_law_cell", "_law_names_here", "_law_size", "_law_parts", "_law_at", "_law_k", "_law_many", "_law_inner", "_law_j"]) (sc := defScope s__law_wide) (by decide +kernel)) (fun _ _ _ _ _ => pg_name (i := 8) sc__law_wide.nd rfl (Or.inl rfl)) (fun _ _ _ _ _ => dts_nil) (fun _ _ _ _ _ => (de_tup (da_cons de_str (da_cons (de_ix (de_var 1) (de_bin op_addD (de_bin op_addD (de_var 4) de_int) (de_var 8)) (fun _ _ => rfl)) (da_cons de_str da_nil)))))) da_nil)))
    (db_cons (ds_set (i := 3) sc__law_wide.nd rfl (Or.inl rfl) (de_bin op_addD (de_var 3) (de_tup (da_cons (de_tup (da_cons de_str (da_cons (de_ix (de_var 1) (de_var 4) (fun _ _ => rfl)) (da_cons de_str (da_cons (de_var 5) (da_cons (de_bin op_addD de_int (de_var 5)) (da_cons (de_var 7) da_nil))))))) da_nil))))
    (db_one (ds_set (i := 4) sc__law_wide.nd rfl (Or.inr rfl) (de_bin op_addD (de_bin op_addD (de_var 4) de_int) (de_var 6)))))))))
    (db_one (ds_ret (de_tup (da_cons de_str (da_cons (de_ix (de_var 1) de_int (fun _ _ => rfl)) (da_cons de_str (da_cons de_int (da_cons de_int (da_cons (de_var 3) da_nil)))))))))))))
/-! _law_chain -/
theorem sc__law_chain : FnScope ["_law_cell", "_law_names_here", "_law_part_here", "_law_k"] ["_law_cell", "_law_names_here"] (defScope s__law_chain) := ⟨rfl, rfl, rfl, by decide +kernel, rfl, by decide +kernel, by decide +kernel⟩
def b__law_chain_1 : GS :=
    (gSet 2 (eTup (aCons (eC (.str "warden")) (aCons (e2 ixD (eVar 1) (e2 addD (eC (.int 1)) (eVar 3))) (aCons (e2 ixD (eLst (aCons (eC (.str "one")) (aCons (eC (.str "rest")) (aCons (eC (.str "all")) aNil)))) (e2 modD (eVar 3) (eC (.int 3)))) (aCons (e2 modD (e2 divD (eVar 0) (eC (.int 9))) (eC (.int 4))) (aCons (e2 addD (eC (.int 1)) (e2 modD (e2 divD (eVar 0) (eC (.int 36))) (eC (.int 4)))) (aCons (eTup (aCons (eVar 2) aNil)) aNil))))))))
def g__law_chain : GS :=
    (gSeq (gSet 2 (eTup (aCons (eC (.str "worker")) (aCons (e2 ixD (eVar 1) (eC (.int 0))) (aCons (eC (.str "never")) aNil)))))
    (gSeq (gFor (iR1 (aCons (e2 addD (eC (.int 1)) (e2 modD (eVar 0) (eC (.int 9)))) aNil)) 3 b__law_chain_1)
    (gRet (eVar 2))))
def F__law_chain : List D → Option D := runG 4 2 g__law_chain
theorem ok__law_chain (T : TX K mg) : Fx P w K mg base "_law_chain" ["_law_cell", "_law_names_here"] 1 F__law_chain := by
  refine fx_of T.d__law_chain sc__law_chain rfl rfl (g := g__law_chain) fun fa cdv A outer s H E hr => ?_
  exact (db_cons (ds_set (i := 2) sc__law_chain.nd rfl (Or.inl rfl) (de_tup (da_cons de_str (da_cons (de_ix (de_var 1) de_int (fun _ _ => rfl)) (da_cons de_str da_nil)))))
    (db_cons (ds_for PassesOwn.never rfl (wi_range1 (by rfl) T.z_range (da_cons (de_bin op_addD de_int (de_bin op_modD (de_var 0) de_int)) da_nil)) (pg_name (i := 3) sc__law_chain.nd rfl (Or.inl rfl)) (db_one (ds_set (i := 2) sc__law_chain.nd rfl (Or.inl rfl) (de_tup (da_cons de_str (da_cons (de_ix (de_var 1) (de_bin op_addD de_int (de_var 3)) (fun _ _ => rfl)) (da_cons (de_ix (de_lst (da_cons de_str (da_cons de_str (da_cons de_str da_nil)))) (de_bin op_modD (de_var 3) de_int) (fun _ _ => rfl)) (da_cons (de_bin op_modD (de_bin op_divD (de_var 0) de_int) de_int) (da_cons (de_bin op_addD de_int (de_bin op_modD (de_bin op_divD (de_var 0) de_int) de_int)) (da_cons (de_tup (da_cons (de_var 2) da_nil)) da_nil))))))))))
    (db_one (ds_ret (de_var 2)))))
/-! _law_twice -/
theorem sc__law_twice : FnScope ["_law_plan", "_law_cell", "_law_names_here", "_law_name", "_law_parts", "_law_at", "_law_part_here"] ["_law_plan", "_law_cell"] (defScope s__law_twice) := ⟨rfl, rfl, rfl, by decide +kernel, rfl, by decide +kernel, by decide +kernel⟩
def g__law_twice : GS :=
    (gSeq (gSet 2 (eCall (F__law_all_names) (aCons (eVar 0) aNil)))
    (gSeq (gSet 3 (e2 ixD (eVar 2) (e2 modD (eVar 1) (eCB lenD (aCons (eVar 2) aNil)))))
    (gSeq (gSet 4 (e2 ixD (eVar 0) (eC (.int 5))))
    (gSeq (gSet 5 (e2 modD (e2 divD (eVar 1) (eC (.int 60))) (eCB lenD (aCons (eVar 4) aNil))))
    (gSeq (gSet 6 (e2 addD (e2 addD (eSl (e2 ixD (eVar 4) (eVar 5)) oNone (oSome (eC (.int 1)))) (eTup (aCons (eVar 3) aNil))) (eSl (e2 ixD (eVar 4) (eVar 5)) (oSome (eC (.int 2))) oNone)))
    (gRet (e2 addD (eSl (eVar 0) oNone (oSome (eC (.int 5)))) (eTup (aCons (e2 addD (e2 addD (eSl (eVar 4) oNone (oSome (eVar 5))) (eTup (aCons (eVar 6) aNil))) (eSl (eVar 4) (oSome (e2 addD (eVar 5) (eC (.int 1)))) oNone)) aNil)))))))))
def F__law_twice : List D → Option D := runG 7 2 g__law_twice
theorem ok__law_twice (T : TX K mg) : Fx P w K mg base "_law_twice" ["_law_plan", "_law_cell"] 2 F__law_twice := by
  refine fx_of T.d__law_twice sc__law_twice rfl rfl (g := g__law_twice) fun fa cdv A outer s H E hr => ?_
  exact (db_cons (ds_set (i := 2) sc__law_twice.nd rfl (Or.inl rfl) (de_callx (ok__law_all_names T) hr (by omega) (by rfl) (da_cons (de_var 0) da_nil)))
    (db_cons (ds_set (i := 3) sc__law_twice.nd rfl (Or.inl rfl) (de_ix (de_var 2) (de_bin op_modD (de_var 1) (de_callB ca_len (by rfl) T.z_len (by decide +kernel) (da_cons (de_var 2) da_nil))) (fun _ _ => rfl)))
    (db_cons (ds_set (i := 4) sc__law_twice.nd rfl (Or.inl rfl) (de_ix (de_var 0) de_int (fun _ _ => rfl)))
    (db_cons (ds_set (i := 5) sc__law_twice.nd rfl (Or.inl rfl) (de_bin op_modD (de_bin op_divD (de_var 1) de_int) (de_callB ca_len (by rfl) T.z_len (by decide +kernel) (da_cons (de_var 4) da_nil))))
    (db_cons (ds_set (i := 6) sc__law_twice.nd rfl (Or.inl rfl) (de_bin op_addD (de_bin op_addD (de_slice (de_ix (de_var 4) (de_var 5) (fun _ _ => rfl)) do_none (do_some de_int)) (de_tup (da_cons (de_var 3) da_nil))) (de_slice (de_ix (de_var 4) (de_var 5) (fun _ _ => rfl)) (do_some de_int) do_none)))
    (db_one (ds_ret (de_bin op_addD (de_slice (de_var 0) do_none (do_some de_int)) (de_tup (da_cons (de_bin op_addD (de_bin op_addD (de_slice (de_var 4) do_none (do_some (de_var 5))) (de_tup (da_cons (de_var 6) da_nil))) (de_slice (de_var 4) (do_some (de_bin op_addD (de_var 5) de_int)) do_none)) da_nil))))))))))
end
end K02

set_option Elab.async false
set_option linter.all false
set_option maxRecDepth 100000
set_option maxHeartbeats 4000000
namespace K02
open PySem PySem.Spec PyProof.Rows L2 Pd Hd
section
variable {P : Program} {w : World} {K : PySem.W.Frag} {mg : Str → Option Value} {base : Heap}
/-! _fits -/
theorem sc__fits : FnScope ["part", "above", "names", "inner"] ["part", "above", "names"] (defScope s__fits) := ⟨rfl, rfl, rfl, by decide +kernel, rfl, by decide +kernel, by decide +kernel⟩
def b__fits_1 (rec : FHF) : GH :=
    sIf (hNot (hCall rec (haCons (lift (eVar 3)) (haCons (lift (e2 addD (eVar 1) (eC (.int 1)))) (haCons (hVar 2) haNil))))) (sRet (lift (eC (.bool false)))) sNil
def g__fits (rec : FHF) : GH :=
    (sSeq (sIf (hView (eOr (e2 gtD (eVar 1) (eC (.int 6))) (e2 eqD (eCB lenD (aCons (eVar 2) aNil)) (eC (.int 60))))) (sRet (lift (eC (.bool false)))) sNil)
    (sSeq (sIf (hView (eAnd (eNot (eCall (F__is_worker) (aCons (eVar 0) aNil))) (eNot (eCall (F__is_warden) (aCons (eVar 0) aNil))))) (sRet (lift (eC (.bool false)))) sNil)
    (sSeq (sIf (hView (e2 (inD false) (e2 ixD (eVar 0) (eC (.int 1))) (eVar 2))) (sRet (lift (eC (.bool false)))) sNil)
    (sSeq (sApp (hVar 2) (lift (e2 ixD (eVar 0) (eC (.int 1)))))
    (sSeq (sFor (iLift (iSeq (eCall (F_parts_of) (aCons (eVar 0) aNil)))) 3 (b__fits_1 rec))
    (sRet (lift (eC (.bool true)))))))))
def F__fits : Nat → FHF
  | 0 => fun _ _ => none
  | n + 1 => runH 4 3 (g__fits (F__fits n))
theorem ok__fits (T : TX K mg) : ∀ n : Nat, Fh P w K mg base "_fits" ["part", "above", "names"] (2 + n) (F__fits n)
  | 0 => fh_none T.d__fits
  | n + 1 => by
    have ih := ok__fits T n
    refine fh_of (k := 2 + n) T.d__fits sc__fits rfl rfl (by decide) (g := g__fits (F__fits n)) fun fa cdv A outer s H E hr => ?_
    exact (hb_cons (hs_if (ht_view (dw_pt (dw_or (dt_cmp op_gtD (de_var 1) (de_globI (by rfl) T.c_MOST_WARDENS_ABOVE) (by rfl)) (dw_or1 (dt_cmp (op_eqDD (hu64 hr)) (de_callB ca_len (by rfl) T.z_len (by decide +kernel) (da_cons (de_var 2) da_nil)) (de_globI (by rfl) T.c_MOST_NAMES) (by rfl)))))) (hb_one (hs_ret (he_lift de_bl))) hb_nil)
    (hb_cons (hs_if (ht_view (dw_pt (dw_and (dt_not (dt_of (de_callx (ok__is_worker T) hr (by omega) (by rfl) (da_cons (de_var 0) da_nil)))) (dw_and1 (dt_not (dt_of (de_callx (ok__is_warden T) hr (by omega) (by rfl) (da_cons (de_var 0) da_nil)))))))) (hb_one (hs_ret (he_lift de_bl))) hb_nil)
    (hb_cons (hs_if (ht_view (dt_cmp (op_inDD (hu65 hr)) (de_ix (de_var 0) de_int (fun _ _ => rfl)) (de_var 2) (by rfl))) (hb_one (hs_ret (he_lift de_bl))) hb_nil)
    (hb_cons (hs_append (he_var 2) (he_lift (de_ix (de_var 0) de_int (fun _ _ => rfl))))
    (hb_cons (hs_for PassesOwn.never rfl (hi_lift (wi_seq (de_callx (ok_parts_of T) hr (by omega) (by rfl) (da_cons (de_var 0) da_nil)))) (pg_name (i := 3) sc__fits.nd rfl (Or.inl rfl)) (hb_one (hs_if (ht_not (ht_of (he_call ih hr (by omega) (by rfl) (ha_cons (he_lift (de_var 3)) (ha_cons (he_lift (de_bin op_addD (de_var 1) de_int)) (ha_cons (he_var 2) ha_nil)))))) (hb_one (hs_ret (he_lift de_bl))) hb_nil)))
    (hb_one (hs_ret (he_lift de_bl))))))))
/-! is_plan -/
theorem sc_is_plan : FnScope ["thing"] ["thing"] (defScope s_is_plan) := ⟨rfl, rfl, rfl, by decide +kernel, rfl, by decide +kernel, by decide +kernel⟩
def g_is_plan : GH :=
    sRet (hAnd (hView (eCall (F__is_warden) (aCons (eVar 0) aNil))) (hCall (F__fits 10) (haCons (lift (eVar 0)) (haCons (lift (eC (.int 0))) (haCons (hCell haNil) haNil)))))
def F_is_plan : List D → Option D := pureF (runH 1 1 g_is_plan)
theorem ok_is_plan (T : TX K mg) : Fx P w K mg base "is_plan" ["thing"] 13 F_is_plan := by
  refine fh_pure (fh_of (k := 12) T.d_is_plan sc_is_plan rfl rfl (by decide) (g := g_is_plan) fun fa cdv A outer s H E hr => ?_)
  exact hb_one (hs_ret (he_and (he_view (de_callx (ok__is_warden T) hr (by omega) (by rfl) (da_cons (de_var 0) da_nil))) (pe_one (he_call (ok__fits T 10) hr (by omega) (by rfl) (ha_cons (he_lift (de_var 0)) (ha_cons (he_lift de_int) (ha_cons (he_cell ha_nil) ha_nil)))))))
/-! _law_nodes -/
theorem sc__law_nodes : FnScope ["_law_script", "_law_many", "_law_nodes_here", "_law_k", "_law_cell", "_law_free", "_law_up", "_law_warden", "_law_deep", "_law_j"] ["_law_script", "_law_many"] (defScope s__law_nodes) := ⟨rfl, rfl, rfl, by decide +kernel, rfl, by decide +kernel, by decide +kernel⟩
def b__law_nodes_1 : GH :=
    (sSeq (sSet 4 (lift (e2 addD (eCall F__law_cell_at (aCons (eVar 0) (aCons (e2 addD (eC (.int 3)) (e2 modD (eVar 3) (eC (.int 10)))) aNil))) (e2 mulD (eC (.int 11)) (e2 divD (eVar 3) (eC (.int 10)))))))
    (sSeq (sSet 5 (hViewO (nLc (iR1 (aCons (eCB lenD (aCons (eVar 2) aNil)) aNil)) 9 (eAnd (e2 getD (e2 ixD (eVar 2) (eVar 9)) (eC (.str "warden"))) (e2 ltD (eCB lenD (aCons (e2 getD (e2 ixD (eVar 2) (eVar 9)) (eC (.str "inner"))) aNil)) (eC (.int 8)))) (eVar 9))))
    (sIf (hView (e2 neD (eVar 5) (eLst aNil)))
      (sSeq (sSet 6 (lift (e2 ixD (eVar 5) (e2 modD (e2 divD (eVar 4) (eC (.int 4))) (eCB lenD (aCons (eVar 5) aNil))))))
      (sSeq (sSet 7 (hView (eAnd (e2 eqD (e2 modD (eVar 4) (eC (.int 4))) (eC (.int 3))) (e2 ltD (e2 getD (e2 ixD (eVar 2) (eVar 6)) (eC (.str "deep"))) (eC (.int 6))))))
      (sSeq (sApp (hGet (hIx (hVar 2) (hVar 6)) "inner") (hView (eCB lenD (aCons (eVar 2) aNil))))
      (sSeq (sSet 8 (hView (e2 addD (e2 getD (e2 ixD (eVar 2) (eVar 6)) (eC (.str "deep"))) (eC (.int 1)))))
      (sApp (hVar 2) (hDict [("up", lift (eVar 6)), ("warden", lift (eVar 7)), ("deep", lift (eVar 8)), ("inner", hCell haNil), ("cell", lift (e2 divD (eVar 4) (eC (.int 32))))]))))))
      sNil)))
def b__law_nodes_2 : GH :=
    (sIf (hView (eAnd (e2 getD (e2 ixD (eVar 2) (eVar 3)) (eC (.str "warden"))) (e2 eqD (e2 getD (e2 ixD (eVar 2) (eVar 3)) (eC (.str "inner"))) (eLst aNil))))
      (sSeq (sApp (hGet (hIx (hVar 2) (hVar 3)) "inner") (hView (eCB lenD (aCons (eVar 2) aNil))))
      (sSeq (sSet 8 (hView (e2 addD (e2 getD (e2 ixD (eVar 2) (eVar 3)) (eC (.str "deep"))) (eC (.int 1)))))
      (sApp (hVar 2) (hDict [("up", lift (eVar 3)), ("warden", lift (eC (.bool false))), ("deep", lift (eVar 8)), ("inner", hCell haNil), ("cell", hView (e2 divD (e2 getD (e2 ixD (eVar 2) (eVar 3)) (eC (.str "cell"))) (eC (.int 7))))]))))
      sNil)
def g__law_nodes : GH :=
    (sSeq (sSet 2 (hCell (haCons (hDict [("up", lift (e1 negD (eC (.int 1)))), ("warden", lift (eC (.bool true))), ("deep", lift (eC (.int 1))), ("inner", hCell haNil), ("cell", lift (eCall F__law_cell_at (aCons (eVar 0) (aCons (eC (.int 2)) aNil))))]) haNil)))
    (sSeq (sFor (iH2 (haCons (lift (eC (.int 1))) (haCons (hVar 1) haNil))) 3 b__law_nodes_1)
    (sSeq (sFor (iH1 (haCons (hView (eCB lenD (aCons (eVar 2) aNil))) haNil)) 3 b__law_nodes_2)
    (sRet (hVar 2)))))
def F__law_nodes : List D → Option D := pureF (runH 10 2 g__law_nodes)
theorem ok__law_nodes (T : TX K mg) : Fx P w K mg base "_law_nodes" ["_law_script", "_law_many"] 2 F__law_nodes := by
  refine fh_pure (fh_of (k := 1) T.d__law_nodes sc__law_nodes rfl rfl (by decide) (g := g__law_nodes) fun fa cdv A outer s H E hr => ?_)
  exact (hb_cons (hs_set (i := 2) sc__law_nodes.nd rfl (Or.inr rfl) (he_cell (ha_cons (he_dict (pps_cons pe_str (he_lift (de_neg de_int)) (pps_cons pe_str (he_lift de_bl) (pps_cons pe_str (he_lift de_int) (pps_cons pe_str (he_cell ha_nil) (pps_cons pe_str (he_lift (de_callx (ok__law_cell_at T) hr (by omega) (by rfl) (da_cons (de_var 0) (da_cons de_int da_nil)))) pps_nil)))))) ha_nil)))
    (hb_cons (hs_for PassesOwn.never rfl (hi_range2 (by rfl) T.z_range (ha_cons (he_lift de_int) (ha_cons (he_var 1) ha_nil))) (pg_name (i := 3) sc__law_nodes.nd rfl (Or.inl rfl))
      (hb_cons (hs_set (i := 4) sc__law_nodes.nd rfl (Or.inl rfl) (he_lift (de_bin op_addD (de_callx (ok__law_cell_at T) hr (by omega) (by rfl) (da_cons (de_var 0) (da_cons (de_bin op_addD de_int (de_bin op_modD (de_var 3) de_int)) da_nil))) (de_bin op_mulD de_int (de_bin op_divD (de_var 3) de_int)))))
      (hb_cons (hs_setLc (j := 5) rfl sc__law_nodes.nd rfl rfl (sw_true rfl rfl rfl (by decide +kernel)) (wi_range1 (by rfl) T.z_range (da_cons (de_callB ca_len (by rfl) T.z_len (by decide +kernel) (da_cons (de_var 2) da_nil)) da_nil)) (blkOk_by (own := [("_law_j", 9)]) (N := ["_law_script", "_law_many", "_law_nodes_here", "_law_k", "_law_cell", "_law_free", "_law_up", "_law_warden", "_law_deep", "_law_j"]) (sc := defScope s__law_nodes) (by decide +kernel)) (fun _ _ _ _ _ => pg_name (i := 9) sc__law_nodes.nd rfl (Or.inl rfl))
          (fun _ _ _ _ _ => (dts_one (dw_pt (dw_and (dt_of (de_get (hu1 hr) (de_ix (de_var 2) (de_var 9) (fun _ _ => rfl)) de_str (fun _ _ => rfl))) (dw_and1 (dt_cmp op_ltD (de_callB ca_len (by rfl) T.z_len (by decide +kernel) (da_cons (de_get (hu1 hr) (de_ix (de_var 2) (de_var 9) (fun _ _ => rfl)) de_str (fun _ _ => rfl)) da_nil)) de_int (by rfl))))))) (fun _ _ _ _ _ => (de_var 9)))
      (hb_one (hs_if (ht_view (dt_cmp (op_neDD (hu64 hr)) (de_var 5) (de_lst da_nil) (by rfl)))
        (hb_cons (hs_set (i := 6) sc__law_nodes.nd rfl (Or.inl rfl) (he_lift (de_ix (de_var 5) (de_bin op_modD (de_bin op_divD (de_var 4) de_int) (de_callB ca_len (by rfl) T.z_len (by decide +kernel) (da_cons (de_var 5) da_nil))) (fun _ _ => rfl))))
        (hb_cons (hs_set (i := 7) sc__law_nodes.nd rfl (Or.inl rfl) (he_view (de_and (de_cmp (op_eqDD (hu64 hr)) (de_bin op_modD (de_var 4) de_int) de_int (by rfl)) (de_one (de_cmp op_ltD (de_get (hu1 hr) (de_ix (de_var 2) (de_var 6) (fun _ _ => rfl)) de_str (fun _ _ => rfl)) de_int (by rfl))))))
        (hb_cons (hs_append (he_get (hu1 hr) (he_ix (he_var 2) (he_var 6) (fun _ _ => rfl)) (fun _ _ => rfl)) (he_view (de_callB ca_len (by rfl) T.z_len (by decide +kernel) (da_cons (de_var 2) da_nil))))
        (hb_cons (hs_set (i := 8) sc__law_nodes.nd rfl (Or.inl rfl) (he_view (de_bin op_addD (de_get (hu1 hr) (de_ix (de_var 2) (de_var 6) (fun _ _ => rfl)) de_str (fun _ _ => rfl)) de_int)))
        (hb_one (hs_append (he_var 2) (he_dict (pps_cons pe_str (he_lift (de_var 6)) (pps_cons pe_str (he_lift (de_var 7)) (pps_cons pe_str (he_lift (de_var 8)) (pps_cons pe_str (he_cell ha_nil) (pps_cons pe_str (he_lift (de_bin op_divD (de_var 4) de_int)) pps_nil)))))))))))) hb_nil)))))
    (hb_cons (hs_for PassesOwn.never rfl (hi_range1 (by rfl) T.z_range (ha_cons (he_view (de_callB ca_len (by rfl) T.z_len (by decide +kernel) (da_cons (de_var 2) da_nil))) ha_nil)) (pg_name (i := 3) sc__law_nodes.nd rfl (Or.inl rfl))
      (hb_one (hs_if (ht_view (dw_pt (dw_and (dt_of (de_get (hu1 hr) (de_ix (de_var 2) (de_var 3) (fun _ _ => rfl)) de_str (fun _ _ => rfl))) (dw_and1 (dt_cmp (op_eqDD (hu64 hr)) (de_get (hu1 hr) (de_ix (de_var 2) (de_var 3) (fun _ _ => rfl)) de_str (fun _ _ => rfl)) (de_lst da_nil) (by rfl))))))
        (hb_cons (hs_append (he_get (hu1 hr) (he_ix (he_var 2) (he_var 3) (fun _ _ => rfl)) (fun _ _ => rfl)) (he_view (de_callB ca_len (by rfl) T.z_len (by decide +kernel) (da_cons (de_var 2) da_nil))))
        (hb_cons (hs_set (i := 8) sc__law_nodes.nd rfl (Or.inl rfl) (he_view (de_bin op_addD (de_get (hu1 hr) (de_ix (de_var 2) (de_var 3) (fun _ _ => rfl)) de_str (fun _ _ => rfl)) de_int)))
        (hb_one (hs_append (he_var 2) (he_dict (pps_cons pe_str (he_lift (de_var 3)) (pps_cons pe_str (he_lift de_bl) (pps_cons pe_str (he_lift (de_var 8)) (pps_cons pe_str (he_cell ha_nil) (pps_cons pe_str (he_view (de_bin op_divD (de_get (hu1 hr) (de_ix (de_var 2) (de_var 3) (fun _ _ => rfl)) de_str (fun _ _ => rfl)) de_int)) pps_nil)))))))))) hb_nil)))
    (hb_one (hs_ret (he_var 2))))))
end
end K02

set_option Elab.async false
set_option linter.all false
set_option maxRecDepth 100000
set_option maxHeartbeats 4000000
namespace K02
open PySem PySem.Spec PyProof.Rows L2 Pd
section
variable {P : Program} {w : World} {K : PySem.W.Frag} {mg : Str → Option Value} {base : Heap}
/-! _law_house -/
theorem sc__law_house : FnScope ["_law_script", "_law_cell", "_law_many", "_law_nodes_here", "_law_names_here", "_law_parts", "_law_k"] ["_law_script"] (defScope s__law_house) := ⟨rfl, rfl, rfl, by decide +kernel, rfl, by decide +kernel, by decide +kernel⟩
def g__law_house : GS :=
    (gSeq (gSet 1 (eCall (F__law_cell_at) (aCons (eVar 0) (aCons (eC (.int 0)) aNil))))
    (gSeq (gSet 2 (e2 addD (eC (.int 2)) (e2 modD (eVar 1) (eC (.int 9)))))
    (gSeq (gIf (e2 eqD (e2 modD (e2 divD (eVar 1) (eC (.int 9))) (eC (.int 12))) (eC (.int 1))) (gSet 2 (eC (.int 30))) gNil)
    (gSeq (gSet 3 (eCall (F__law_nodes) (aCons (eVar 0) (aCons (eVar 2) aNil))))
    (gSeq (gSet 4 (eCall (F__law_names) (aCons (eCall (F__law_cell_at) (aCons (eVar 0) (aCons (eC (.int 1)) aNil))) (aCons (eCB lenD (aCons (eVar 3) aNil)) aNil))))
    (gSeq (gSet 5 (eLc (iR1 (aCons (eCB lenD (aCons (eVar 3) aNil)) aNil)) 6 (eC (.bool true)) (eCall (F__law_part 10) (aCons (eVar 3) (aCons (eVar 4) (aCons (eVar 6) aNil))))))
    (gRet (eDict [("nodes", (eVar 3)), ("names", (eVar 4)), ("parts", (eVar 5)), ("plan", (e2 ixD (eVar 5) (eC (.int 0)))), ("order", (eCall (F__law_under) (aCons (eVar 3) (aCons (eC (.int 0)) aNil))))]))))))))
def F__law_house : List D → Option D := runG 7 1 g__law_house
theorem ok__law_house (T : TX K mg) : Fx P w K mg base "_law_house" ["_law_script"] 12 F__law_house := by
  refine fx_of T.d__law_house sc__law_house rfl rfl (g := g__law_house) fun fa cdv A outer s H E hr => ?_
  exact (db_cons (ds_set (i := 1) sc__law_house.nd rfl (Or.inl rfl) (de_callx (ok__law_cell_at T) hr (by omega) (by rfl) (da_cons (de_var 0) (da_cons de_int da_nil))))
    (db_cons (ds_set (i := 2) sc__law_house.nd rfl (Or.inl rfl) (de_bin op_addD de_int (de_bin op_modD (de_var 1) de_int)))
    (db_cons (ds_if (dt_cmp (op_eqDD (hu64 hr)) (de_bin op_modD (de_bin op_divD (de_var 1) de_int) de_int) de_int (by rfl)) (db_one (ds_set (i := 2) sc__law_house.nd rfl (Or.inl rfl) de_int)) db_nil)
    (db_cons (ds_set (i := 3) sc__law_house.nd rfl (Or.inr rfl) (de_callx (ok__law_nodes T) hr (by omega) (by rfl) (da_cons (de_var 0) (da_cons (de_var 2) da_nil))))
    (db_cons (ds_set (i := 4) sc__law_house.nd rfl (Or.inr rfl) (de_callx (ok__law_names T) hr (by omega) (by rfl) (da_cons (de_callx (ok__law_cell_at T) hr (by omega) (by rfl) (da_cons (de_var 0) (da_cons de_int da_nil))) (da_cons (de_callB ca_len (by rfl) T.z_len (by decide +kernel) (da_cons (de_var 3) da_nil)) da_nil))))
    (db_cons (ds_setLc (j := 5) rfl sc__law_house.nd rfl rfl (sw_true rfl rfl rfl (by decide +kernel)) (wi_range1 (by rfl) T.z_range (da_cons (de_callB ca_len (by rfl) T.z_len (by decide +kernel) (da_cons (de_var 3) da_nil)) da_nil)) (blkOk_by (own := [("_law_k", 6)]) (N := ["_law_script", "_law_cell", "_law_many", "_law_nodes_here", "_law_names_here", "_law_parts", "_law_k"]) (sc := defScope s__law_house) (by decide +kernel)) (fun _ _ _ _ _ => pg_name (i := 6) sc__law_house.nd rfl (Or.inl rfl)) (fun _ _ _ _ _ => dts_nil) (fun _ _ _ _ _ => (de_callx (ok__law_part T 10) hr (by omega) (by rfl) (da_cons (de_var 3) (da_cons (de_var 4) (da_cons (de_var 6) da_nil))))))
    (db_one (ds_ret (de_dict (pps_cons pe_str (de_var 3) (pps_cons pe_str (de_var 4) (pps_cons pe_str (de_var 5) (pps_cons pe_str (de_ix (de_var 5) de_int (fun _ _ => rfl)) (pps_cons pe_str (de_callx (ok__law_under T) hr (by omega) (by rfl) (da_cons (de_var 3) (da_cons de_int da_nil))) pps_nil))))))))))))))
/-! law -/
theorem sc_law : FnScope ["_law_script", "_law_cell", "_law_more", "_law_names_here", "_law_thing", "_law_due", "_law_found", "_law_hall"] ["_law_script"] (defScope s_law) := ⟨rfl, rfl, rfl, by decide +kernel, rfl, by decide +kernel, by decide +kernel⟩
def g_law : GS :=
    (gSeq (gSet 1 (eCall (F__law_cell_at) (aCons (eVar 0) (aCons (eC (.int 2)) aNil))))
    (gSeq (gSet 2 (e2 addD (eCall (F__law_cell_at) (aCons (eVar 0) (aCons (eC (.int 13)) aNil))) (eCall (F__law_cell_at) (aCons (eVar 0) (aCons (eC (.int 3)) aNil)))))
    (gSeq (gSet 3 (eCall (F__law_names) (aCons (eCall (F__law_cell_at) (aCons (eVar 0) (aCons (eC (.int 1)) aNil))) (aCons (eC (.int 70)) aNil))))
    (gSeq (gSet 4 (e2 getD (eCall (F__law_house) (aCons (eVar 0) aNil)) (eC (.str "plan"))))
    (gSeq (gIf (eOr (e2 eqD (e2 modD (eVar 1) (eC (.int 6))) (eC (.int 1))) (e2 eqD (e2 modD (eVar 1) (eC (.int 6))) (eC (.int 2)))) (gSet 4 (eCall (F__law_spoilt 10) (aCons (eVar 4) (aCons (eVar 2) (aCons (eC (.int 8)) aNil))))) gNil)
    (gSeq (gIf (e2 eqD (e2 modD (eVar 1) (eC (.int 6))) (eC (.int 3))) (gSet 4 (eCall (F__law_wide) (aCons (e2 divD (eVar 1) (eC (.int 6))) (aCons (eVar 3) aNil)))) gNil)
    (gSeq (gIf (e2 eqD (e2 modD (eVar 1) (eC (.int 6))) (eC (.int 4))) (gSet 4 (eCall (F__law_chain) (aCons (e2 divD (eVar 1) (eC (.int 6))) (aCons (eVar 3) aNil)))) gNil)
    (gSeq (gIf (e2 eqD (e2 modD (eVar 1) (eC (.int 6))) (eC (.int 5))) (gSet 4 (eCall (F__law_twice) (aCons (eVar 4) (aCons (eVar 2) aNil)))) gNil)
    (gSeq (gSet 5 (eCall (F__law_is_plan) (aCons (eVar 4) aNil)))
    (gSeq (gSet 6 (eCall (F_is_plan) (aCons (eVar 4) aNil)))
    (gSeq (gIf (eOr (eNot (eIs "bool" (eVar 6))) (e2 neD (eVar 6) (eVar 5))) (gRet (eC (.bool false))) gNil)
    (gSeq (gIf (eVar 5) (gSeq (gSet 7 (eCall (F_names_of 10) (aCons (eVar 4) aNil)))
    (gIf (eOr (eNot (eIs "list" (eVar 7))) (e2 neD (eVar 7) (eCall (F__law_all_names) (aCons (eVar 4) aNil)))) (gRet (eC (.bool false))) gNil)) gNil)
    (gRet (e2 eqD (eCall (F_is_plan) (aCons (eVar 4) aNil)) (eVar 5)))))))))))))))
def F_law : List D → Option D := runG 8 1 g_law
theorem ok_law (T : TX K mg) : Fx P w K mg base "law" ["_law_script"] 17 F_law := by
  refine fx_of T.d_law sc_law rfl rfl (g := g_law) fun fa cdv A outer s H E hr => ?_
  exact (db_cons (ds_set (i := 1) sc_law.nd rfl (Or.inl rfl) (de_callx (ok__law_cell_at T) hr (by omega) (by rfl) (da_cons (de_var 0) (da_cons de_int da_nil))))
    (db_cons (ds_set (i := 2) sc_law.nd rfl (Or.inl rfl) (de_bin op_addD (de_callx (ok__law_cell_at T) hr (by omega) (by rfl) (da_cons (de_var 0) (da_cons de_int da_nil))) (de_callx (ok__law_cell_at T) hr (by omega) (by rfl) (da_cons (de_var 0) (da_cons de_int da_nil)))))
    (db_cons (ds_set (i := 3) sc_law.nd rfl (Or.inl rfl) (de_callx (ok__law_names T) hr (by omega) (by rfl) (da_cons (de_callx (ok__law_cell_at T) hr (by omega) (by rfl) (da_cons (de_var 0) (da_cons de_int da_nil))) (da_cons de_int da_nil))))
    (db_cons (ds_set (i := 4) sc_law.nd rfl (Or.inl rfl) (de_get (hu1 hr) (de_callx (ok__law_house T) hr (by omega) (by rfl) (da_cons (de_var 0) da_nil)) de_str (fun _ _ => rfl)))
    (db_cons (ds_if (dw_pt (dw_or (dt_cmp (op_eqDD (hu64 hr)) (de_bin op_modD (de_var 1) de_int) de_int (by rfl)) (dw_or1 (dt_cmp (op_eqDD (hu64 hr)) (de_bin op_modD (de_var 1) de_int) de_int (by rfl))))) (db_one (ds_set (i := 4) sc_law.nd rfl (Or.inl rfl) (de_callx (ok__law_spoilt T 10) hr (by omega) (by rfl) (da_cons (de_var 4) (da_cons (de_var 2) (da_cons de_int da_nil)))))) db_nil)
    (db_cons (ds_if (dt_cmp (op_eqDD (hu64 hr)) (de_bin op_modD (de_var 1) de_int) de_int (by rfl)) (db_one (ds_set (i := 4) sc_law.nd rfl (Or.inl rfl) (de_callx (ok__law_wide T) hr (by omega) (by rfl) (da_cons (de_bin op_divD (de_var 1) de_int) (da_cons (de_var 3) da_nil))))) db_nil)
    (db_cons (ds_if (dt_cmp (op_eqDD (hu64 hr)) (de_bin op_modD (de_var 1) de_int) de_int (by rfl)) (db_one (ds_set (i := 4) sc_law.nd rfl (Or.inl rfl) (de_callx (ok__law_chain T) hr (by omega) (by rfl) (da_cons (de_bin op_divD (de_var 1) de_int) (da_cons (de_var 3) da_nil))))) db_nil)
    (db_cons (ds_if (dt_cmp (op_eqDD (hu64 hr)) (de_bin op_modD (de_var 1) de_int) de_int (by rfl)) (db_one (ds_set (i := 4) sc_law.nd rfl (Or.inl rfl) (de_callx (ok__law_twice T) hr (by omega) (by rfl) (da_cons (de_var 4) (da_cons (de_var 2) da_nil))))) db_nil)
    (db_cons (ds_set (i := 5) sc_law.nd rfl (Or.inl rfl) (de_callx (ok__law_is_plan T) hr (by omega) (by rfl) (da_cons (de_var 4) da_nil)))
    (db_cons (ds_set (i := 6) sc_law.nd rfl (Or.inl rfl) (de_callx (ok_is_plan T) hr (by omega) (by rfl) (da_cons (de_var 4) da_nil)))
    (db_cons (ds_if (dw_pt (dw_or (dt_not (dt_of (de_isiB_bool T.z_isinstance T.z_bool (by rfl) (by rfl) (de_var 6)))) (dw_or1 (dt_cmp (op_neDD (hu64 hr)) (de_var 6) (de_var 5) (by rfl))))) (db_one (ds_ret de_bl)) db_nil)
    (db_cons (ds_if (dt_of (de_var 5)) (db_cons (ds_set (i := 7) sc_law.nd rfl (Or.inl rfl) (de_callx (ok_names_of T 10) hr (by omega) (by rfl) (da_cons (de_var 4) da_nil)))
    (db_one (ds_if (dw_pt (dw_or (dt_not (dt_of (de_isiB_list T.z_isinstance T.z_list (by rfl) (by rfl) (de_var 7)))) (dw_or1 (dt_cmp (op_neDD (hu64 hr)) (de_var 7) (de_callx (ok__law_all_names T) hr (by omega) (by rfl) (da_cons (de_var 4) da_nil)) (by rfl))))) (db_one (ds_ret de_bl)) db_nil))) db_nil)
    (db_one (ds_ret (de_cmp (op_eqDD (hu64 hr)) (de_callx (ok_is_plan T) hr (by omega) (by rfl) (da_cons (de_var 4) da_nil)) (de_var 5) (by rfl))))))))))))))))
end
end K02

set_option Elab.async false
set_option linter.all false
set_option maxRecDepth 100000
set_option maxHeartbeats 4000000
namespace K02
open PySem PySem.Spec L2 Pd
theorem num_eq (d : D) (lo hi : Int) : F__is_number [d, .int lo, .int hi] = some (.bool (match d with
  | .int i => decide (lo ≤ i) && decide (i ≤ hi)
  | _ => false)) := by
  refine F1 rfl ?_
  unfold g__is_number
  cases d <;> simp
  split
  · simp [*]
  · simp
    omega
theorem whole_eq (d : D) : F__law_whole [d] = some (.bool (match d with
  | .int _ => true
  | _ => false)) := by
  refine F1 rfl ?_
  unfold g__law_whole
  cases d <;> simp
theorem cell_eq (ns : List Int) (k : Nat) : F__law_cell_at [.list (ns.map PyData.int), .int k] = some (.int (cellZ ns k)) := by
  refine F1 rfl ?_
  unfold g__law_cell_at
  by_cases h : k < ns.length
  · simp [h, atI_n, cellZ]
  · simp [h, cellZ]
/-- a sign of a name -/
def sg (c : Nat) : Bool := decide (97 ≤ c) && decide (c ≤ 122)
def nameB : D → Bool
  | .str s => decide (1 ≤ s.length) && decide (s.length ≤ 8) && s.cps.toList.all sg
  | _ => false
def abc : Str := "abcdefghijklmnopqrstuvwxyz"
theorem mem_abc (c : Nat) : decide (c ∈ abc.cps.toList) = sg c := by
  have e : abc.cps.toList = [97, 98, 99, 100, 101, 102, 103, 104, 105, 106, 107, 108, 109, 110, 111, 112, 113, 114, 115, 116, 117, 118, 119, 120, 121, 122] := by decide +kernel
  rw [e, Bool.eq_iff_iff]
  unfold sg
  rw [Bool.and_eq_true, decide_eq_true_eq, decide_eq_true_eq, decide_eq_true_eq]
  constructor
  · intro h
    simp only [List.mem_cons, List.not_mem_nil, or_false] at h
    omega
  · intro h
    simp only [List.mem_cons, List.not_mem_nil, or_false]
    omega
theorem nameB_cases {s : Str} {a b : Option D} (k : Bool) (h : nameB (.str s) = (decide (1 ≤ s.length) && decide (s.length ≤ 8) && k)) : (if (1 : Int) ≤ (s.length : Int) then if (8 : Int) < (s.length : Int) then some (PyData.bool false) else some (.bool k) else some (.bool false)) = some (.bool (nameB (.str s))) := by
  rw [h]
  by_cases h1 : 1 ≤ s.length
  · have h1' : (1 : Int) ≤ (s.length : Int) := by omega
    by_cases h2 : s.length ≤ 8
    · have h2' : ¬ (8 : Int) < (s.length : Int) := by omega
      simp [h1, h2, h1', h2']
    · have h2' : (8 : Int) < (s.length : Int) := by omega
      simp [h1, h2, h1', h2']
  · have h1' : ¬ (1 : Int) ≤ (s.length : Int) := by omega
    simp [h1, h1']
theorem is_name_str (s : Str) (h : SOk s) : F_is_name [.str s] = some (.bool (nameB (.str s))) := by
  refine F1 rfl ?_
  unfold g_is_name
  have e : lcQ 1 (eC (.bool true)) (eChain leD leD (eC (.str "a")) (eVar 1) (eC (.str "z"))) [.val (.str s), .un] (signs s) = some (.list ((s.cps.toList.map sg).map PyData.bool)) := by
    rw [lcQ_map (fun d => match d with
      | .str x => .bool (x.cps.toList.all sg)
      | _ => .none) (fun d hd => ?_) (by rw [signs_len]; exact h.lim)]
    · congr 2
      unfold signs
      rw [List.map_map, List.map_map]
      apply List.map_congr_left
      intro c _
      simp
    · obtain ⟨c, hc, rfl⟩ := mem_signs hd
      have e1 : (Str.ofString "a") = ⟨#[97]⟩ := by decide +kernel
      have e2 : (Str.ofString "z") = ⟨#[122]⟩ := by decide +kernel
      simp [e1, e2, leD_one, sg]
      by_cases hc : 97 ≤ c <;> simp [hc]
  simp [-List.map_map, lenD_str _ h.lim, e, allD_map]
  have q := nameB_cases (s := s) (a := none) (b := none) (s.cps.toList.all sg) rfl
  simpa using q
theorem is_name_no (d : D) (h : ∀ s, d ≠ .str s) : F_is_name [d] = some (.bool (nameB d)) := by
  refine F1 rfl ?_
  unfold g_is_name
  cases d <;> first | exact absurd rfl (h _) | simp [nameB]
def badD : D → Bool
  | .str x => !(x.cps.toList.all sg)
  | _ => false
theorem law_name_str (s : Str) (h : SOk s) : F__law_is_name [.str s] = some (.bool (nameB (.str s))) := by
  refine F1 rfl ?_
  unfold g__law_is_name
  have e : lcQ 1 (e2 (inD true) (eVar 1) (eC (.str abc))) (eVar 1) [.val (.str s), .un] (signs s) = some (.list ((signs s).filter badD)) := by
    refine lcQ_filter _ (by simp) (fun d hd => ?_) (by rw [signs_len]; exact h.lim)
    obtain ⟨c, hc, rfl⟩ := mem_signs hd
    have := mem_abc c
    simp [-List.mem_toArray, inD_one, badD] at this ⊢
    rw [this]
  have hf : ∀ p : D → Bool, fitD (.list ((signs s).filter p)) = true := fun p => fitD_list fun d hd => by
    obtain ⟨c, hc, rfl⟩ := mem_signs (List.mem_filter.mp hd).1
    exact ⟨fitD_str (SOk.one (h.2 c hc)), Nat.zero_le _⟩
  have ee : ((signs s).filter badD).isEmpty = s.cps.toList.all sg := by
    rw [Bool.eq_iff_iff, List.isEmpty_iff, List.filter_eq_nil_iff, List.all_eq_true]
    constructor
    · intro q c hc
      have := q (.str ⟨#[c]⟩) (List.mem_map.mpr ⟨c, hc, rfl⟩)
      simpa [badD] using this
    · intro q d hd
      obtain ⟨c, hc, rfl⟩ := mem_signs hd
      have := q c hc
      simpa [badD] using this
  have e0 : (Str.ofString "abcdefghijklmnopqrstuvwxyz") = abc := rfl
  have q := nameB_cases (s := s) (a := none) (b := none) (s.cps.toList.all sg) rfl
  rw [← q]
  simp [lenD_str _ h.lim, e0, e, eqD_of _ _ (hf _) (show fitD (.list []) = true from rfl), eqv_nil, ee]
  split <;> split <;> simp_all <;> omega
theorem law_name_no (d : D) (h : ∀ s, d ≠ .str s) : F__law_is_name [d] = some (.bool (nameB d)) := by
  refine F1 rfl ?_
  unfold g__law_is_name
  cases d <;> first | exact absurd rfl (h _) | simp [nameB]
theorem sok_lit (s : Str) (h : (decide (s.length ≤ 1000) && s.cps.toList.all fun c => decide (c < 128)) = true) : SOk s := by
  rw [Bool.and_eq_true, decide_eq_true_eq, List.all_eq_true] at h
  exact ⟨h.1, fun c hc => of_decide_eq_true (h.2 c hc)⟩
theorem cell_eq' (ns : List Int) (i : Int) (h : 0 ≤ i) : F__law_cell_at [.list (ns.map PyData.int), .int i] = some (.int (cellZ ns i.toNat)) := by
  have e : i = ((i.toNat : Nat) : Int) := by omega
  rw [e, cell_eq, Int.toNat_natCast]
@[simp] theorem cell_0 (ns : List Int) : F__law_cell_at [.list (ns.map PyData.int), .int 0] = some (.int (cellZ ns 0)) := cell_eq ns 0
@[simp] theorem cell_1 (ns : List Int) : F__law_cell_at [.list (ns.map PyData.int), .int 1] = some (.int (cellZ ns 1)) := cell_eq ns 1
@[simp] theorem cell_2 (ns : List Int) : F__law_cell_at [.list (ns.map PyData.int), .int 2] = some (.int (cellZ ns 2)) := cell_eq ns 2
@[simp] theorem cell_3 (ns : List Int) : F__law_cell_at [.list (ns.map PyData.int), .int 3] = some (.int (cellZ ns 3)) := cell_eq ns 3
theorem abc_ok : SOk abc := sok_lit _ (by decide +kernel)
theorem abc_len : abc.length = 26 := by decide +kernel
/-! ### data that fit -/
inductive Gd : Nat → D → Prop where
  | non {n : Nat} : Gd n .none
  | bl {n : Nat} (b : Bool) : Gd n (.bool b)
  | int {n : Nat} (i : Int) : Gd n (.int i)
  | str {n : Nat} {s : Str} (h : SOk s) : Gd n (.str s)
  | lst {n : Nat} {ds : List D} (hl : ds.length ≤ 2000) (h : ∀ d ∈ ds, Gd n d) : Gd (n + 1) (.list ds)
  | tup {n : Nat} {ds : List D} (hl : ds.length ≤ 2000) (h : ∀ d ∈ ds, Gd n d) : Gd (n + 1) (.tuple ds)
theorem depthAll_le {n : Nat} : ∀ {ds : List D}, (∀ d ∈ ds, d.depth ≤ n) → PyData.depthAll ds ≤ n
  | [], _ => Nat.zero_le _
  | d :: r, h => by
    have h1 := h d (List.mem_cons_self ..)
    have h2 := depthAll_le fun x hx => h x (List.mem_cons_of_mem _ hx)
    simp only [PyData.depthAll]
    omega
theorem Gd.fit {n : Nat} {d : D} (g : Gd n d) : n ≤ 60 → fitD d = true ∧ d.depth ≤ n := by
  induction g with
  | non => exact fun _ => ⟨rfl, Nat.zero_le _⟩
  | bl b => exact fun _ => ⟨rfl, Nat.zero_le _⟩
  | int i => exact fun _ => ⟨rfl, Nat.zero_le _⟩
  | str h => exact fun _ => ⟨fitD_str h, Nat.zero_le _⟩
  | lst hl h ih =>
    intro hn
    refine ⟨fitD_list fun d hd => ⟨(ih d hd (by omega)).1, by have := (ih d hd (by omega)).2; omega⟩, ?_⟩
    have := depthAll_le fun d hd => (ih d hd (by omega)).2
    simp only [PyData.depth]
    omega
  | tup hl h ih =>
    intro hn
    refine ⟨fitD_tuple fun d hd => ⟨(ih d hd (by omega)).1, by have := (ih d hd (by omega)).2; omega⟩, ?_⟩
    have := depthAll_le fun d hd => (ih d hd (by omega)).2
    simp only [PyData.depth]
    omega
theorem Gd.mono {n m : Nat} {d : D} (g : Gd n d) : n ≤ m → Gd m d := by
  induction g generalizing m with
  | non => exact fun _ => .non
  | bl b => exact fun _ => .bl b
  | int i => exact fun _ => .int i
  | str h => exact fun _ => .str h
  | lst hl h ih =>
    intro hn
    cases m with
    | zero => omega
    | succ m => exact .lst hl fun d hd => ih d hd (by omega)
  | tup hl h ih =>
    intro hn
    cases m with
    | zero => omega
    | succ m => exact .tup hl fun d hd => ih d hd (by omega)
theorem Gd.items {n : Nat} {ds : List D} (g : Gd n (.tuple ds)) : ds.length ≤ 2000 ∧ ∀ d ∈ ds, Gd n d := by
  cases g with
  | tup hl h => exact ⟨hl, fun d hd => (h d hd).mono (by omega)⟩
/-! ### parts -/
def agL : List Str := ["always", "faulted", "never"]
def ruL : List Str := ["one", "rest", "all"]
def inS (l : List Str) : D → Bool
  | .str s => decide (s ∈ l)
  | _ => false
def numB (lo hi : Int) : D → Bool
  | .int i => decide (lo ≤ i) && decide (i ≤ hi)
  | _ => false
def isS (s : Str) : D → Bool
  | .str x => decide (x = s)
  | _ => false
def partsB : D → Bool
  | .tuple ds => decide (1 ≤ ds.length) && decide (ds.length ≤ 8)
  | _ => false
def workB : D → Bool
  | .tuple [w, nm, ag] => isS "worker" w && nameB nm && inS agL ag
  | _ => false
def wardB : D → Bool
  | .tuple [w, nm, ru, mn, sp, ps] => isS "warden" w && nameB nm && inS ruL ru && numB 0 1000000000 mn && numB 1 1000000000 sp && partsB ps
  | _ => false
def itemsT : D → List D
  | .tuple ds => ds
  | _ => []
def partsT : D → List D
  | .tuple [_, _, _, _, _, ps] => itemsT ps
  | _ => []
def partB : Nat → D → Bool
  | 0, x => workB x
  | n + 1, x => workB x || (wardB x && (partsT x).all (partB n))
theorem name_eq {n : Nat} {d : D} (g : Gd n d) : F_is_name [d] = some (.bool (nameB d)) := by
  cases g with
  | str h => exact is_name_str _ h
  | _ => exact is_name_no _ fun s h => by cases h
theorem lname_eq {n : Nat} {d : D} (g : Gd n d) : F__law_is_name [d] = some (.bool (nameB d)) := by
  cases g with
  | str h => exact law_name_str _ h
  | _ => exact law_name_no _ fun s h => by cases h
theorem eqv_str (d : D) (s : Str) : PyData.eqv d (.str s) = isS s d := by
  cases d with
  | str x =>
    show (x == s) = decide (x = s)
    rw [Bool.eq_iff_iff]
    simp
  | _ => simp [PyData.eqv, isS]
theorem eqD_str {n : Nat} {d : D} (g : Gd n d) (hn : n ≤ 60) {s : Str} (h : SOk s) : eqD d (.str s) = some (.bool (isS s d)) := by
  rw [eqD_of _ _ (g.fit hn).1 (fitD_str h), eqv_str]
theorem neD_str {n : Nat} {d : D} (g : Gd n d) (hn : n ≤ 60) {s : Str} (h : SOk s) : neD d (.str s) = some (.bool (!isS s d)) := by
  rw [neD_of _ _ (g.fit hn).1 (fitD_str h), eqv_str]
theorem sokA : SOk "worker" ∧ SOk "warden" := ⟨sok_lit _ (by decide +kernel), sok_lit _ (by decide +kernel)⟩
theorem gdS {n : Nat} {l : List Str} (h : l.all (fun s => decide (s.length ≤ 1000) && s.cps.toList.all fun c => decide (c < 128)) = true) : ∀ d ∈ l.map PyData.str, Gd n d := fun d hd => by
  obtain ⟨s, hs, rfl⟩ := List.mem_map.mp hd
  exact .str (sok_lit s (List.all_eq_true.mp h s hs))
theorem any_inS (l : List Str) (d : D) : ((l.map PyData.str).any fun z => PyData.eqv z d) = inS l d := by
  induction l with
  | nil => cases d <;> simp [inS]
  | cons s r ih =>
    rw [List.map_cons, List.any_cons, ih]
    cases d with
    | str x =>
      show ((s == x) || decide (x ∈ r)) = decide (x ∈ s :: r)
      rw [Bool.eq_iff_iff]
      simp only [Bool.or_eq_true, beq_iff_eq, decide_eq_true_eq, List.mem_cons]
      exact ⟨fun h => h.imp Eq.symm id, fun h => h.imp Eq.symm id⟩
    | _ => simp [inS, PyData.eqv]
theorem inT_eq {n : Nat} {d : D} (g : Gd n d) (hn : n ≤ 60) {l : List Str} (hl : ∀ z ∈ l.map PyData.str, Gd 0 z) (b : Bool) : inD b d (.tuple (l.map PyData.str)) = some (.bool (if b then !inS l d else inS l d)) := by
  have f1 := (g.fit hn).1
  have f2 : fitD (.tuple (l.map PyData.str)) = true := fitD_tuple fun z hz => ⟨((hl z hz).fit (by omega)).1, by have := ((hl z hz).fit (by omega)).2; omega⟩
  have e := any_inS l d
  have e0 : inD b d (.tuple (l.map PyData.str)) = if fitD d && fitD (.tuple (l.map PyData.str)) then some (.bool (if b then !(l.map PyData.str).any fun z => PyData.eqv z d else (l.map PyData.str).any fun z => PyData.eqv z d)) else none := by
    cases d <;> rfl
  rw [e0, f1, f2, e]
  rfl
theorem inL_eq {n : Nat} {d : D} (g : Gd n d) (hn : n ≤ 60) {l : List Str} (hl : ∀ z ∈ l.map PyData.str, Gd 0 z) (b : Bool) : inD b d (.list (l.map PyData.str)) = some (.bool (if b then !inS l d else inS l d)) := by
  have f1 := (g.fit hn).1
  have f2 : fitD (.list (l.map PyData.str)) = true := fitD_list fun z hz => ⟨((hl z hz).fit (by omega)).1, by have := ((hl z hz).fit (by omega)).2; omega⟩
  have e := any_inS l d
  have e0 : inD b d (.list (l.map PyData.str)) = if fitD d && fitD (.list (l.map PyData.str)) then some (.bool (if b then !(l.map PyData.str).any fun z => PyData.eqv z d else (l.map PyData.str).any fun z => PyData.eqv z d)) else none := by
    cases d <;> rfl
  rw [e0, f1, f2, e]
  rfl
end K02

set_option Elab.async false
set_option linter.all false
set_option maxRecDepth 100000
set_option maxHeartbeats 4000000
namespace K02
open PySem PySem.Spec L2 Pd
theorem agT : (.tuple [.str "always", .str "faulted", .str "never"] : D) = .tuple (agL.map PyData.str) := rfl
theorem ruT : (.tuple [.str "one", .str "rest", .str "all"] : D) = .tuple (ruL.map PyData.str) := rfl
theorem agLT : (.list [.str "always", .str "faulted", .str "never"] : D) = .list (agL.map PyData.str) := rfl
theorem ruLT : (.list [.str "one", .str "rest", .str "all"] : D) = .list (ruL.map PyData.str) := rfl
theorem agS : ∀ z ∈ agL.map PyData.str, Gd 0 z := gdS (by decide +kernel)
theorem ruS : ∀ z ∈ ruL.map PyData.str, Gd 0 z := gdS (by decide +kernel)
theorem worker_eq {n : Nat} {d : D} (g : Gd n d) (hn : n ≤ 60) : F__is_worker [d] = some (.bool (workB d)) := by
  refine F1 rfl ?_
  unfold g__is_worker
  cases g with
  | tup hl h =>
    rename_i m ds
    match ds, hl, h with
    | [], _, _ => simp [workB]
    | [a], _, _ => simp [workB]
    | [a, b], _, _ => simp [workB]
    | [a, b, c], _, h =>
      have ga := h a (by simp)
      have gb := h b (by simp)
      have gc := h c (by simp)
      simp [unpK, setAll, agT, eqD_str ga (by omega) sokA.1, name_eq gb, inT_eq gc (by omega) agS, workB]
      cases isS (Str.ofString "worker") a <;> cases nameB b <;> simp
    | a :: b :: c :: e :: r, hl, h =>
      have : ¬ ((r.length : Int) + 1 + 1 + 1 + 1 = 3) := by omega
      simp [workB, this]
  | _ => simp [workB]
theorem numB_eq (d : D) (lo hi : Int) : F__is_number [d, .int lo, .int hi] = some (.bool (numB lo hi d)) := by
  rw [num_eq]
  cases d <;> rfl
theorem warden_eq {n : Nat} {d : D} (g : Gd n d) (hn : n ≤ 60) : F__is_warden [d] = some (.bool (wardB d)) := by
  refine F1 rfl ?_
  unfold g__is_warden
  cases g with
  | tup hl h =>
    rename_i m ds
    match ds, hl, h with
    | [], _, _ => simp [wardB]
    | [a], _, _ => simp [wardB]
    | [a, b], _, _ => simp [wardB]
    | [a, b, c], _, h => simp [wardB]
    | [a, b, c, d], _, h => simp [wardB]
    | [a, b, c, d, e], _, h => simp [wardB]
    | [a, b, c, d, e, f], _, h =>
      have ga := h a (by simp)
      have gb := h b (by simp)
      have gc := h c (by simp)
      have gf := h f (by simp)
      have hp : (∀ l : List D, f = .tuple l → l.length ≤ 2000) := fun l e => by subst e; exact gf.items.1
      simp [unpK, setAll, ruT, neD_str ga (by omega) sokA.2, name_eq gb, inT_eq gc (by omega) ruS, numB_eq, wardB]
      cases isS (Str.ofString "warden") a <;> cases nameB b <;> cases inS ruL c <;> cases numB 0 1000000000 d <;> cases numB 1 1000000000 e <;> simp
      cases f with
      | tuple l =>
        have := hp l rfl
        simp [partsB]
        by_cases h1 : 1 ≤ l.length
        · have h1' : (1 : Int) ≤ (l.length : Int) := by omega
          simp [h1, h1']
          omega
        · have h1' : ¬ (1 : Int) ≤ (l.length : Int) := by omega
          simp [h1, h1']
      | _ => simp [partsB]
    | a :: b :: c :: e :: f :: i :: j :: r, hl, h =>
      have : ¬ ((r.length : Int) + 1 + 1 + 1 + 1 + 1 + 1 + 1 = 6) := by omega
      simp [wardB, this]
  | _ => simp [wardB]
def strB : D → Bool
  | .str _ => true
  | _ => false
def tupB : D → Bool
  | .tuple _ => true
  | _ => false
theorem isKS (d : D) : isK "str" d = some (.bool (strB d)) := by cases d <;> simp [strB]
theorem isKT (d : D) : isK "tuple" d = some (.bool (tupB d)) := by cases d <;> simp [tupB]
theorem isS_str {s : Str} {d : D} (h : isS s d = true) : strB d = true := by cases d <;> simp_all [isS, strB]
theorem inS_str {l : List Str} {d : D} (h : inS l d = true) : strB d = true := by cases d <;> simp_all [inS, strB]
theorem isS_two {d : D} (h : isS "worker" d = true) : isS "warden" d = false := by
  cases d with
  | str s =>
    simp [isS] at h ⊢
    subst h
    decide +kernel
  | _ => simp [isS] at h
theorem part_all {B : D → Bool} {l : List D} : ((l.filter fun d => !B d).isEmpty) = l.all B := by
  rw [Bool.eq_iff_iff, List.isEmpty_iff, List.filter_eq_nil_iff, List.all_eq_true]
  exact ⟨fun h d hd => by simpa using h d hd, fun h d hd => by simpa using h d hd⟩
theorem part_step {fuel a n : Nat} {x : D} (B : D → Bool) (ha : a ≤ 6) (hn : n ≤ 50) (g : Gd n x) (ih : a ≤ 5 → ∀ d ∈ partsT x, F__law_is_part fuel [d, .int ((a : Int) + 1)] = some (.bool (B d))) :
    F__law_is_part (fuel + 1) [x, .int a] = some (.bool (workB x || (decide (a ≤ 5) && wardB x && (partsT x).all B))) := by
  refine F1 rfl ?_
  unfold g__law_is_part
  cases g with
  | tup hl h =>
    rename_i m ds
    match ds, hl, h with
    | [], _, _ => simp [partB, workB, wardB]
    | [a], _, _ => simp [partB, workB, wardB]
    | [a, b], _, _ => simp [partB, workB, wardB]
    | [x0, x1, x2], _, h =>
      have g0 := h x0 (by simp)
      have g1 := h x1 (by simp)
      have g2 := h x2 (by simp)
      have e1 := @isS_str "worker" x0
      have e2 := @inS_str agL x2
      simp [isKS, isKT, lname_eq g1, eqD_str g0 (by omega) sokA.1, neD_str g0 (by omega) sokA.2, agLT, inL_eq g2 (by omega) agS, partB, workB, wardB]
      revert e1 e2
      cases isS (Str.ofString "worker") x0 <;> cases strB x0 <;> cases strB x2 <;> cases nameB x1 <;> cases inS agL x2 <;> simp
    | [x0, x1, x2, x3], _, h =>
      have g0 := h x0 (by simp)
      have g1 := h x1 (by simp)
      have g2 := h x2 (by simp)
      simp [isKS, isKT, lname_eq g1, eqD_str g0 (by omega) sokA.1, neD_str g0 (by omega) sokA.2, agLT, inL_eq g2 (by omega) agS, partB, workB, wardB]
    | [x0, x1, x2, x3, x4], _, h =>
      have g0 := h x0 (by simp)
      have g1 := h x1 (by simp)
      have g2 := h x2 (by simp)
      simp [isKS, isKT, lname_eq g1, eqD_str g0 (by omega) sokA.1, neD_str g0 (by omega) sokA.2, agLT, inL_eq g2 (by omega) agS, partB, workB, wardB]
    | [x0, x1, x2, x3, x4, x5], _, h =>
      have g0 := h x0 (by simp)
      have g1 := h x1 (by simp)
      have g2 := h x2 (by simp)
      have g5 := h x5 (by simp)
      have q1 := @isS_str "warden" x0
      have q2 := @inS_str ruL x2
      have q3 := @isS_two x0
      have a5 : ((5 : Int) < (a : Int)) = ¬ a ≤ 5 := by rw [eq_iff_iff]; omega
      have fin : ∀ (q : Option D) (b3 b4 b5 c : Bool), (inS ruL x2 = true → strB x2 = true) → (a ≤ 5 → q = some (.bool (b3 && b4 && b5 && c))) → (if strB x0 = false then some (PyData.bool false) else if nameB x1 = false then some (PyData.bool false) else if strB x2 = false then some (PyData.bool false) else
          if isS (Str.ofString "worker") x0 = true then some (PyData.bool false) else if isS (Str.ofString "warden") x0 = false then some (PyData.bool false) else if ¬ a ≤ 5 then some (PyData.bool false) else if inS ruL x2 = false then some (PyData.bool false) else q)
          = some (PyData.bool (decide (a ≤ 5) && (isS (Str.ofString "warden") x0 && nameB x1 && inS ruL x2 && b3 && b4 && b5) && c)) := by
        intro q b3 b4 b5 c q2 hq
        revert q1 q2 q3 hq
        by_cases h5 : a ≤ 5
        · simp only [h5]
          intro q1 q3 q2 hq
          rw [hq trivial]
          revert q1 q2 q3
          cases isS (Str.ofString "warden") x0 <;> cases isS (Str.ofString "worker") x0 <;> cases strB x0 <;> cases strB x2 <;> cases nameB x1 <;> cases inS ruL x2 <;> simp
        · simp only [h5]
          intro q1 q3 q2 hq
          cases strB x0 <;> cases nameB x1 <;> cases strB x2 <;> cases isS (Str.ofString "worker") x0 <;> cases isS (Str.ofString "warden") x0 <;> simp
      simp only [workB, Bool.false_or, wardB]
      rw [← fin _ _ _ _ _ q2]
      simp [isKS, isKT, lname_eq g1, eqD_str g0 (by omega) sokA.1, neD_str g0 (by omega) sokA.2, agLT, inL_eq g2 (by omega) agS, ruLT, inL_eq g2 (by omega) ruS, whole_eq, a5]
      rfl
      intro h5
      have ih := ih h5
      cases x3 with
      | int i3 =>
        simp [numB]
        by_cases c3 : (0 : Int) ≤ i3
        · by_cases c3' : i3 ≤ 1000000000
          · simp [c3, c3', whole_eq]
            cases x4 with
            | int i4 =>
              simp
              by_cases c4 : (1 : Int) ≤ i4
              · by_cases c4' : i4 ≤ 1000000000
                · simp [c4, c4', isKT]
                  cases x5 with
                  | tuple l5 =>
                    have hl5 := g5.items.1
                    have hi5 := g5.items.2
                    have ih : ∀ d ∈ l5, F__law_is_part fuel [d, .int ((a : Int) + 1)] = some (.bool (B d)) := ih
                    have e : lcQ 2 (eNot (eCall (F__law_is_part fuel) (aCons (eVar 2) (aCons (e2 addD (eVar 1) (eC (.int 1))) aNil)))) (eVar 2) [Sl.val (PyData.tuple [x0, x1, x2, PyData.int i3, PyData.int i4, PyData.tuple l5]), Sl.val (PyData.int ↑a), Sl.un] l5 = some (.list (l5.filter fun d => !B d)) := by
                      refine lcQ_filter _ (by simp) (fun d hd => ?_) (by rw [lim_eq]; omega)
                      simp [ih d hd]
                    have ef : fitD (.list (l5.filter fun d => !B d)) = true := fitD_list fun d hd => by
                      have := (hi5 d (List.mem_filter.mp hd).1).fit (by omega)
                      exact ⟨this.1, by omega⟩
                    have ep : partsT (PyData.tuple [x0, x1, x2, PyData.int i3, PyData.int i4, PyData.tuple l5]) = l5 := rfl
                    simp [tupB, partsB]
                    by_cases c5 : 1 ≤ l5.length
                    · have c5' : (1 : Int) ≤ (l5.length : Int) := by omega
                      by_cases c6 : l5.length ≤ 8
                      · have c6' : (l5.length : Int) ≤ 8 := by omega
                        simp [c5, c5', c6, c6', e, eqD_of _ _ ef (show fitD (.list []) = true from rfl), eqv_nil, part_all, ep]
                        rw [if_neg (by omega), if_neg (by omega), if_neg (by omega)]
                      · have c6' : ¬ (l5.length : Int) ≤ 8 := by omega
                        simp [c5, c5', c6, c6']
                    · have c5' : ¬ (1 : Int) ≤ (l5.length : Int) := by omega
                      simp [c5, c5']
                  | _ => simp [tupB, partsB]
                · simp [c4, c4']
              · simp [c4]
            | _ => simp
          · simp [c3, c3']
        · simp [c3]
      | _ => simp [numB]
    | x0 :: x1 :: x2 :: x3 :: x4 :: x5 :: x6 :: r, hl, h =>
      have g0 := h x0 (by simp)
      have g1 := h x1 (by simp)
      have g2 := h x2 (by simp)
      have l1 : ¬ ((r.length : Int) + 1 + 1 + 1 + 1 + 1 + 1 + 1 = 3) := by omega
      have l2 : ¬ ((r.length : Int) + 1 + 1 + 1 + 1 + 1 + 1 + 1 = 6) := by omega
      have l3 : ¬ ((r.length : Int) + 1 + 1 + 1 + 1 + 1 + 1 + 1 < 3) := by omega
      simp [isKS, isKT, lname_eq g1, eqD_str g0 (by omega) sokA.1, neD_str g0 (by omega) sokA.2, agLT, inL_eq g2 (by omega) agS, partB, workB, wardB, l1, l2, l3]
  | _ => simp [partB, workB, wardB]
end K02

set_option Elab.async false
set_option linter.all false
set_option maxRecDepth 100000
set_option maxHeartbeats 4000000
namespace K02
open PySem PySem.Spec L2 Pd Hd
theorem partsT_gd {n : Nat} {x : D} (g : Gd n x) : ∀ d ∈ partsT x, Gd n d := by
  intro d hd
  cases g with
  | tup hl h =>
    rename_i m ds
    match ds, h, hd with
    | [_, _, _, _, _, ps], h, hd =>
      have gp := h ps (by simp)
      have hd : d ∈ itemsT ps := hd
      cases gp with
      | tup hl2 h2 => exact (h2 d hd).mono (by omega)
      | _ => cases hd
    | [], _, hd => cases hd
    | [_], _, hd => cases hd
    | [_, _], _, hd => cases hd
    | [_, _, _], _, hd => cases hd
    | [_, _, _, _], _, hd => cases hd
    | [_, _, _, _, _], _, hd => cases hd
    | _ :: _ :: _ :: _ :: _ :: _ :: _ :: _, _, hd => cases hd
  | _ => cases hd
theorem part_eq : ∀ (k : Nat) (fuel : Nat) (a : Nat) (n : Nat) (x : D), k + 1 ≤ fuel → a + k = 6 → n ≤ 50 → Gd n x → F__law_is_part fuel [x, .int a] = some (.bool (partB k x)) := by
  intro k
  induction k with
  | zero =>
    intro fuel a n x hf ha hn g
    cases fuel with
    | zero => omega
    | succ fuel =>
      rw [part_step (fun _ => false) (by omega) hn g (fun h => by omega), decide_eq_false (by omega)]
      simp [partB]
  | succ k ih =>
    intro fuel a n x hf ha hn g
    cases fuel with
    | zero => omega
    | succ fuel =>
      rw [part_step (partB k) (by omega) hn g (fun h d hd => ih fuel (a + 1) n d (by omega) (by omega) hn (partsT_gd g d hd)), decide_eq_true (by omega)]
      simp [partB]
/-! ### the walk of is_plan -/
def nmT : D → Str
  | .tuple (_ :: .str s :: _) => s
  | _ => ⟨#[]⟩
def partQ : Nat → D → Bool
  | 0, _ => false
  | k + 1, x => workB x || (wardB x && (partsT x).all (partQ k))
def preQ : Nat → D → List Str
  | 0, _ => []
  | k + 1, x => nmT x :: (partsT x).flatMap (preQ k)
theorem ward_parts {x : D} (h : wardB x = true) : 1 ≤ (partsT x).length ∧ (partsT x).length ≤ 8 := by
  unfold wardB at h
  split at h
  · rename_i w nm ru mn sp ps
    simp only [Bool.and_eq_true] at h
    have hp := h.2
    cases ps <;> simp [partsB] at hp
    exact hp
  · cases h
theorem work_parts {x : D} (h : workB x = true) : partsT x = [] := by
  unfold workB at h
  split at h
  · rfl
  · cases h
theorem partQ_B : ∀ (k : Nat) (x : D), partQ (k + 1) x = partB k x := by
  intro k
  induction k with
  | zero =>
    intro x
    simp only [partQ, partB]
    cases h : wardB x with
    | false => simp
    | true =>
      have := ward_parts h
      cases e : partsT x with
      | nil => rw [e] at this; simp at this
      | cons d r => simp
  | succ k ih =>
    intro x
    have e : partQ (k + 1) = partB k := funext ih
    show (workB x || (wardB x && (partsT x).all (partQ (k + 1)))) = _
    rw [e]
    rfl
theorem partQ_up : ∀ (k : Nat) (x : D), partQ k x = true → partQ (k + 1) x = true ∧ preQ (k + 1) x = preQ k x := by
  intro k
  induction k with
  | zero => intro x h; cases h
  | succ k ih =>
    intro x h
    have h' : (workB x || (wardB x && (partsT x).all (partQ k))) = true := h
    cases hw : workB x with
    | true =>
      refine ⟨by show (workB x || _) = true; rw [hw]; rfl, ?_⟩
      show nmT x :: (partsT x).flatMap (preQ (k + 1)) = nmT x :: (partsT x).flatMap (preQ k)
      rw [work_parts hw]
      rfl
    | false =>
      rw [hw, Bool.false_or, Bool.and_eq_true, List.all_eq_true] at h'
      refine ⟨?_, ?_⟩
      · show (workB x || (wardB x && (partsT x).all (partQ (k + 1)))) = true
        rw [hw, Bool.false_or, h'.1, Bool.true_and, List.all_eq_true]
        exact fun d hd => (ih d (h'.2 d hd)).1
      · show nmT x :: (partsT x).flatMap (preQ (k + 1)) = nmT x :: (partsT x).flatMap (preQ k)
        congr 1
        have : ∀ l : List D, (∀ d ∈ l, partQ k d = true) → l.flatMap (preQ (k + 1)) = l.flatMap (preQ k) := by
          intro l
          induction l with
          | nil => exact fun _ => rfl
          | cons d r ih2 =>
            intro hl
            rw [List.flatMap_cons, List.flatMap_cons, (ih d (hl d (List.mem_cons_self ..))).2, ih2 fun x hx => hl x (List.mem_cons_of_mem _ hx)]
        exact this _ h'.2
/-- what a part has at its front -/
theorem part_shape {n : Nat} {x : D} (g : Gd n x) (h : (workB x || wardB x) = true) : ∃ (w : Str) (rest : List D), x = .tuple (.str w :: .str (nmT x) :: rest) ∧ SOk (nmT x) ∧ nameB (.str (nmT x)) = true ∧ w = (if wardB x then "warden" else "worker" : Str) ∧ (wardB x = true → ∃ a b c : D, rest = [a, b, c, .tuple (partsT x)]) := by
  have key : ∀ (w nm : D) (z : Str), isS z w = true → nameB nm = true → Gd n nm → ∃ s, w = .str z ∧ nm = .str s ∧ SOk s := by
    intro w nm z h1 h2 h3
    cases w <;> simp [isS] at h1
    subst h1
    cases h3 with
    | str h => exact ⟨_, rfl, rfl, h⟩
    | _ => cases h2
  cases hw : wardB x with
  | true =>
    unfold wardB at hw
    split at hw
    · rename_i w nm ru mn sp ps
      simp only [Bool.and_eq_true] at hw
      obtain ⟨s, rfl, rfl, hs⟩ := key w nm "warden" hw.1.1.1.1.1 hw.1.1.1.1.2 (g.items.2 nm (by simp))
      have hp := hw.2
      cases ps <;> simp [partsB] at hp
      exact ⟨_, _, rfl, hs, hw.1.1.1.1.2, rfl, fun _ => ⟨ru, mn, sp, rfl⟩⟩
    · cases hw
  | false =>
    rw [hw, Bool.or_false] at h
    unfold workB at h
    split at h
    · rename_i w nm ag
      simp only [Bool.and_eq_true] at h
      obtain ⟨s, rfl, rfl, hs⟩ := key w nm "worker" h.1.1 h.1.2 (g.items.2 nm (by simp))
      exact ⟨_, _, rfl, hs, h.1.2, rfl, fun q => by cases q⟩
    · cases h
end K02

set_option Elab.async false
set_option linter.all false
set_option maxRecDepth 100000
set_option maxHeartbeats 4000000
namespace K02
open PySem PySem.Spec L2 Pd Hd
theorem parts_of_eq {n : Nat} {x : D} (g : Gd n x) (h : (workB x || wardB x) = true) : F_parts_of [x] = some (.tuple (partsT x)) := by
  obtain ⟨w, rest, e, hs, hb, hw, hp⟩ := part_shape g h
  refine F1 rfl ?_
  unfold g_parts_of
  cases hwd : wardB x with
  | true =>
    obtain ⟨a, b, c, er⟩ := hp hwd
    rw [hwd] at hw
    rw [e, er, hw]
    have e0 := eqD_str (n := 0) (d := .str "warden") (.str sokA.2) (by omega) sokA.2
    simp [e0, isS]
    rfl
  | false =>
    rw [hwd] at hw h
    have hk : workB x = true := by simpa using h
    rw [work_parts hk, e, hw]
    have e0 := eqD_str (n := 0) (d := .str "worker") (.str sokA.1) (by omega) sokA.2
    have e1 : isS "warden" (.str "worker") = false := by decide +kernel
    rw [e1] at e0
    simp [e0]
theorem hv (f : FE) (δ : Hd.Env) (M : List Cell) : hView f δ M = ((f (view M δ)).bind scalK).map (fun d => (W.d d, M)) := rfl
theorem lf (f : FE) (δ : Hd.Env) (M : List Cell) : lift f δ M = (f (pview δ)).map (fun d => (W.d d, M)) := rfl
theorem sIf_of {ft : FH} {g g' : GH} {δ : Hd.Env} {M M1 : List Cell} {b : Bool} (h : ft δ M = some (.d (.bool b), M1)) : sIf ft g g' δ M = if b then g δ M1 else g' δ M1 := by
  unfold sIf
  rw [h]
  cases b <;> rfl
theorem sSeq_nx {g g' : GH} {δ δ' : Hd.Env} {M M' : List Cell} (h : g δ M = some (.nx δ' M')) : sSeq g g' δ M = g' δ' M' := by
  unfold sSeq
  rw [h]
  rfl
theorem sSeq_rt {g g' : GH} {δ : Hd.Env} {M M' : List Cell} {w : W} (h : g δ M = some (.rt w M')) : sSeq g g' δ M = some (.rt w M') := by
  unfold sSeq
  rw [h]
  rfl
def fitSt (ns : List Str) : List Cell := [.lst (ns.map fun s => .d (.str s))]
theorem oAll_map {α β : Type} (f : α → Option β) (h : α → β) : ∀ (l : List α), (∀ a ∈ l, f a = some (h a)) → oAll f l = some (l.map h)
  | [], _ => rfl
  | a :: r, q => by
    simp only [oAll, q a (List.mem_cons_self ..), Option.bind_some, oAll_map f h r fun x hx => q x (List.mem_cons_of_mem _ hx), List.map_cons]
theorem fz_fit (ns : List Str) : fzW 9 (fitSt ns) (.l 0) = some (.list (ns.map PyData.str)) := by
  have : fzW 9 (fitSt ns) (.l 0) = (oAll (fzW 8 (fitSt ns)) (ns.map fun s => W.d (.str s))).map .list := rfl
  rw [this, oAll_map _ (fun w => match w with | .d x => x | _ => .none) _ fun w hw => by
    obtain ⟨s, _, rfl⟩ := List.mem_map.mp hw
    rfl, List.map_map]
  rfl
theorem view_fit (x y : D) (o : Option W) (ns : List Str) : view (fitSt ns) [some (.d x), some (.d y), some (.l 0), o] = [.val x, .val y, .val (.list (ns.map PyData.str)), vw1 (fitSt ns) o] := by
  have e : vw1 (fitSt ns) (some (.l 0)) = .val (.list (ns.map PyData.str)) := by
    show (match fzW 9 (fitSt ns) (.l 0) with | some d => Sl.val d | none => Sl.un) = _
    rw [fz_fit]
  show [_, _, vw1 (fitSt ns) (some (.l 0)), _] = _
  rw [e]
  rfl
theorem pview_fit (x y : D) (k : Nat) (o : Option W) : pview [some (.d x), some (.d y), some (.l k), o] = [.val x, .val y, .un, pv1 o] := rfl
theorem fit_t1 (x : D) (a : Int) (ns : List Str) (o : Option W) (hl : ns.length ≤ 2000) : hView (eOr (e2 gtD (eVar 1) (eC (.int 6))) (e2 eqD (eCB lenD (aCons (eVar 2) aNil)) (eC (.int 60)))) [some (.d x), some (.d (.int a)), some (.l 0), o] (fitSt ns) = some (.d (.bool (decide (6 < a) || decide (ns.length = 60))), fitSt ns) := by
  rw [hv, view_fit]
  by_cases h : 6 < a
  · simp [h, scalK]
  · have e : ((ns.length : Int) == 60) = decide (ns.length = 60) := by rw [Bool.eq_iff_iff, beq_iff_eq, decide_eq_true_eq]; omega
    simp [h, scalK, e]
theorem fit_t2 {n : Nat} {x : D} (g : Gd n x) (hn : n ≤ 50) (a : Int) (ns : List Str) (o : Option W) : hView (eAnd (eNot (eCall (F__is_worker) (aCons (eVar 0) aNil))) (eNot (eCall (F__is_warden) (aCons (eVar 0) aNil)))) [some (.d x), some (.d (.int a)), some (.l 0), o] (fitSt ns) = some (.d (.bool (!(workB x || wardB x))), fitSt ns) := by
  rw [hv, view_fit]
  simp [worker_eq g (by omega), warden_eq g (by omega), scalK]
  cases workB x <;> cases wardB x <;> simp
theorem fit_t3 {n : Nat} {x : D} (g : Gd n x) (hn : n ≤ 50) (h : (workB x || wardB x) = true) (a : Int) (ns : List Str) (o : Option W) (hs : ∀ s ∈ ns, SOk s) : hView (e2 (inD false) (e2 ixD (eVar 0) (eC (.int 1))) (eVar 2)) [some (.d x), some (.d (.int a)), some (.l 0), o] (fitSt ns) = some (.d (.bool (decide (nmT x ∈ ns))), fitSt ns) := by
  obtain ⟨w, rest, e, hx, hb, hw, hp⟩ := part_shape g h
  rw [hv, view_fit]
  have hS : ∀ z ∈ ns.map PyData.str, Gd 0 z := fun z hz => by
    obtain ⟨s, hm, rfl⟩ := List.mem_map.mp hz
    exact .str (hs s hm)
  have e1 := inL_eq (n := 0) (d := .str (nmT x)) (.str hx) (by omega) hS false
  generalize nmT x = z at e1 e ⊢
  rw [e]
  simp [e1, scalK, inS]
theorem sApp_eq {fo f : FH} {δ : Hd.Env} {M M1 M2 : List Cell} {n : Nat} {w : W} {ws0 ws : List W} (h1 : fo δ M = some (.l n, M1)) (h2 : f δ M1 = some (w, M2)) (h3 : M1[n]? = some (.lst ws0)) (h4 : M2[n]? = some (.lst ws)) (h5 : ws.length < lim) : sApp fo f δ M = some (.nx δ (M2.set n (.lst (ws ++ [w])))) := by
  unfold sApp
  simp only [h1, h2, Option.bind_some, h3, h4, if_pos h5]
theorem fit_app {x : D} {w z : Str} {rest : List D} (e : x = .tuple (.str w :: .str z :: rest)) (a : Int) (ns : List Str) (o : Option W) (hl : ns.length ≤ 60) : sApp (hVar 2) (lift (e2 ixD (eVar 0) (eC (.int 1)))) [some (.d x), some (.d (.int a)), some (.l 0), o] (fitSt ns) = some (.nx [some (.d x), some (.d (.int a)), some (.l 0), o] (fitSt (ns ++ [z]))) := by
  have e1 : hVar 2 [some (.d x), some (.d (.int a)), some (.l 0), o] (fitSt ns) = some (.l 0, fitSt ns) := rfl
  have e2 : lift (Pd.e2 ixD (eVar 0) (eC (.int 1))) [some (.d x), some (.d (.int a)), some (.l 0), o] (fitSt ns) = some (.d (.str z), fitSt ns) := by
    rw [lf, pview_fit, e]
    simp
  rw [sApp_eq e1 e2 (show (fitSt ns)[0]? = some (.lst (ns.map fun s => .d (.str s))) from rfl) (show (fitSt ns)[0]? = some (.lst (ns.map fun s => .d (.str s))) from rfl) (by rw [List.length_map, lim_eq]; omega)]
  unfold fitSt
  rw [List.map_append]
  rfl
end K02

set_option Elab.async false
set_option linter.all false
set_option maxRecDepth 100000
set_option maxHeartbeats 4000000
namespace K02
open PySem PySem.Spec L2 Pd Hd
theorem partQ_succ {k : Nat} {x : D} (h : (workB x || wardB x) = true) : partQ (k + 1) x = (partsT x).all (partQ k) := by
  show (workB x || (wardB x && (partsT x).all (partQ k))) = _
  cases hw : workB x with
  | true => rw [work_parts hw]; rfl
  | false => rw [hw] at h; have h : wardB x = true := by simpa using h
             rw [h]; simp
theorem preQ_ok : ∀ (k : Nat) {n : Nat} {x : D}, Gd n x → partQ k x = true → ∀ s ∈ preQ k x, SOk s ∧ nameB (.str s) = true := by
  intro k
  induction k with
  | zero => intro n x g h s hs; cases hs
  | succ k ih =>
    intro n x g h s hs
    have hw : (workB x || wardB x) = true := by
      have h' : (workB x || (wardB x && (partsT x).all (partQ k))) = true := h
      revert h'
      cases workB x <;> cases wardB x <;> simp
    obtain ⟨w, rest, e, hx, hb, _, _⟩ := part_shape g hw
    rw [partQ_succ hw, List.all_eq_true] at h
    have hs' : s ∈ nmT x :: (partsT x).flatMap (preQ k) := hs
    rcases List.mem_cons.mp hs' with rfl | hs'
    · exact ⟨hx, hb⟩
    · obtain ⟨d, hd, hs'⟩ := List.mem_flatMap.mp hs'
      exact ih (partsT_gd g d hd) (h d hd) s hs'
theorem runH_rt {n np : Nat} {g : GH} {ws : List W} {M M' : List Cell} {w : W} (hl : ws.length = np) (h : g (startH n ws) M = some (.rt w M')) : runH n np g ws M = some (w, M') := by
  unfold runH
  rw [if_pos hl, h]
theorem sFalse (δ : Hd.Env) (M : List Cell) : sRet (lift (eC (.bool false))) δ M = some (.rt (.d (.bool false)) M) := rfl
theorem sTrue (δ : Hd.Env) (M : List Cell) : sRet (lift (eC (.bool true))) δ M = some (.rt (.d (.bool true)) M) := rfl
def GoodL (k : Nat) (l : List D) (ns : List Str) : Prop := l.all (partQ k) = true ∧ (ns ++ l.flatMap (preQ k)).Nodup ∧ (ns ++ l.flatMap (preQ k)).length ≤ 60
def GoodP (k : Nat) (x : D) (ns : List Str) : Prop := partQ k x = true ∧ (ns ++ preQ k x).Nodup ∧ (ns ++ preQ k x).length ≤ 60
def FitOk (k fuel a : Nat) (x : D) (ns : List Str) : Prop := ∃ b M', F__fits fuel [.d x, .d (.int a), .l 0] (fitSt ns) = some (.d (.bool b), M') ∧ (b = true ↔ GoodP k x ns) ∧ (b = true → M' = fitSt (ns ++ preQ k x))
theorem fits_loop {k fuel a n : Nat} {x : D} (hrec : ∀ (d : D) (ns : List Str), Gd n d → ns.Nodup → ns.length ≤ 60 → (∀ s ∈ ns, SOk s) → FitOk k fuel (a + 1) d ns) : ∀ (l : List D) (ns : List Str) (o : Option W), (∀ d ∈ l, Gd n d) → ns.Nodup → ns.length ≤ 60 → (∀ s ∈ ns, SOk s) →
    ∃ r, forH 3 (b__fits_1 (F__fits fuel)) l [some (.d x), some (.d (.int a)), some (.l 0), o] (fitSt ns) = some r ∧
      ((GoodL k l ns ∧ ∃ o', r = .nx [some (.d x), some (.d (.int a)), some (.l 0), o'] (fitSt (ns ++ l.flatMap (preQ k)))) ∨ (¬ GoodL k l ns ∧ ∃ M', r = .rt (.d (.bool false)) M')) := by
  intro l
  induction l with
  | nil =>
    intro ns o _ h1 h2 h3
    refine ⟨_, rfl, .inl ⟨⟨rfl, by simpa using h1, by simpa using h2⟩, o, ?_⟩⟩
    simp
  | cons d r ih =>
    intro ns o hg h1 h2 h3
    obtain ⟨b, M', e, hb, hM⟩ := hrec d ns (hg d (List.mem_cons_self ..)) h1 h2 h3
    have ec : hCall (F__fits fuel) (haCons (lift (eVar 3)) (haCons (lift (e2 addD (eVar 1) (eC (.int 1)))) (haCons (hVar 2) haNil))) [some (.d x), some (.d (.int a)), some (.l 0), some (.d d)] (fitSt ns) = some (.d (.bool b), M') := by
      have ea : lift (e2 addD (eVar 1) (eC (.int 1))) [some (.d x), some (.d (.int a)), some (.l 0), some (.d d)] (fitSt ns) = some (.d (.int ((a : Int) + 1)), fitSt ns) := by
        rw [lf, pview_fit]
        simp
      have e3 : lift (eVar 3) [some (.d x), some (.d (.int a)), some (.l 0), some (.d d)] (fitSt ns) = some (.d d, fitSt ns) := rfl
      have e2 : hVar 2 [some (.d x), some (.d (.int a)), some (.l 0), some (.d d)] (fitSt ns) = some (.l 0, fitSt ns) := rfl
      unfold hCall haCons haNil
      simp only [e3, ea, e2, Option.bind_some]
      exact e
    have en : hNot (hCall (F__fits fuel) (haCons (lift (eVar 3)) (haCons (lift (e2 addD (eVar 1) (eC (.int 1)))) (haCons (hVar 2) haNil)))) [some (.d x), some (.d (.int a)), some (.l 0), some (.d d)] (fitSt ns) = some (.d (.bool (!b)), M') := by
      unfold hNot
      simp only [ec, Option.bind_some]
    have eb : b__fits_1 (F__fits fuel) [some (.d x), some (.d (.int a)), some (.l 0), some (.d d)] (fitSt ns) = if (!b) = true then some (.rt (.d (.bool false)) M') else some (.nx [some (.d x), some (.d (.int a)), some (.l 0), some (.d d)] M') := by
      unfold b__fits_1
      rw [sIf_of en]
      rfl
    have ef : forH 3 (b__fits_1 (F__fits fuel)) (d :: r) [some (.d x), some (.d (.int a)), some (.l 0), o] (fitSt ns) = match b__fits_1 (F__fits fuel) [some (.d x), some (.d (.int a)), some (.l 0), some (.d d)] (fitSt ns) with
      | some (.nx δ' M') => forH 3 (b__fits_1 (F__fits fuel)) r δ' M'
      | some (.ct δ' M') => forH 3 (b__fits_1 (F__fits fuel)) r δ' M'
      | some (.bk δ' M') => some (.nx δ' M')
      | some (.rt w M') => some (.rt w M')
      | none => none := rfl
    rw [ef, eb]
    have assoc : ns ++ (d :: r).flatMap (preQ k) = (ns ++ preQ k d) ++ r.flatMap (preQ k) := by rw [List.flatMap_cons, List.append_assoc]
    cases b with
    | false =>
      refine ⟨_, rfl, .inr ⟨fun hG => ?_, M', rfl⟩⟩
      obtain ⟨g1, g2, g3⟩ := hG
      rw [assoc] at g2 g3
      rw [List.length_append] at g3
      have g1' : partQ k d = true := (List.all_eq_true.mp g1) d (List.mem_cons_self ..)
      have := hb.mpr ⟨g1', (List.nodup_append.mp g2).1, by omega⟩
      cases this
    | true =>
      obtain ⟨p1, p2, p3⟩ := hb.mp rfl
      rw [hM rfl]
      obtain ⟨q, eq, hq⟩ := ih (ns ++ preQ k d) (some (.d d)) (fun y hy => hg y (List.mem_cons_of_mem _ hy)) p2 p3 fun s hs => by
        rcases List.mem_append.mp hs with hs | hs
        · exact h3 s hs
        · exact (preQ_ok k (hg d (List.mem_cons_self ..)) p1 s hs).1
      have giff : GoodL k (d :: r) ns ↔ GoodL k r (ns ++ preQ k d) := by
        unfold GoodL
        rw [assoc, List.all_cons, p1, Bool.true_and]
      refine ⟨q, eq, ?_⟩
      rw [giff, assoc]
      exact hq
theorem fits_eq : ∀ (k fuel a n : Nat) (x : D) (ns : List Str), a + k = 7 → k + 1 ≤ fuel → n ≤ 50 → Gd n x → ns.Nodup → ns.length ≤ 60 → (∀ s ∈ ns, SOk s) → FitOk k fuel a x ns := by
  intro k
  induction k with
  | zero =>
    intro fuel a n x ns ha hf hn g h1 h2 h3
    cases fuel with
    | zero => omega
    | succ fuel =>
      refine ⟨false, fitSt ns, runH_rt rfl ?_, ⟨fun h => (by cases h), fun h => by cases h.1⟩, fun h => by cases h⟩
      have et := fit_t1 x a ns none (by omega)
      rw [decide_eq_true (show (6 : Int) < (a : Int) by omega)] at et
      show g__fits (F__fits fuel) [some (.d x), some (.d (.int a)), some (.l 0), none] (fitSt ns) = _
      unfold g__fits
      exact sSeq_rt (by rw [sIf_of et]; rfl)
  | succ k ih =>
    intro fuel a n x ns ha hf hn g h1 h2 h3
    cases fuel with
    | zero => omega
    | succ fuel =>
      have pcons : preQ (k + 1) x = nmT x :: (partsT x).flatMap (preQ k) := rfl
      have pQ : (workB x || wardB x) = false → partQ (k + 1) x = false := fun h => by
        show (workB x || (wardB x && (partsT x).all (partQ k))) = false
        revert h
        cases workB x <;> cases wardB x <;> simp
      have et := fit_t1 x a ns none (by omega)
      rw [decide_eq_false (show ¬ (6 : Int) < (a : Int) by omega), Bool.false_or] at et
      by_cases h60 : ns.length = 60
      · rw [decide_eq_true h60] at et
        refine ⟨false, fitSt ns, runH_rt rfl ?_, ⟨fun h => (by cases h), fun h => ?_⟩, fun h => by cases h⟩
        · show g__fits (F__fits fuel) [some (.d x), some (.d (.int a)), some (.l 0), none] (fitSt ns) = _
          unfold g__fits
          exact sSeq_rt (by rw [sIf_of et]; rfl)
        · have := h.2.2
          rw [pcons, List.length_append, List.length_cons] at this
          omega
      · rw [decide_eq_false h60] at et
        have et2 := fit_t2 g hn a ns none
        cases hw : (workB x || wardB x) with
        | false =>
          rw [hw] at et2
          refine ⟨false, fitSt ns, runH_rt rfl ?_, ⟨fun h => (by cases h), fun h => ?_⟩, fun h => by cases h⟩
          · show g__fits (F__fits fuel) [some (.d x), some (.d (.int a)), some (.l 0), none] (fitSt ns) = _
            unfold g__fits
            rw [sSeq_nx (show _ = some (OutH.nx [some (.d x), some (.d (.int a)), some (.l 0), none] (fitSt ns)) by rw [sIf_of et]; rfl)]
            exact sSeq_rt (by rw [sIf_of et2]; rfl)
          · have := h.1
            rw [pQ hw] at this
            cases this
        | true =>
          rw [hw] at et2
          have et3 := fit_t3 g hn hw a ns none h3
          by_cases hin : nmT x ∈ ns
          · rw [decide_eq_true hin] at et3
            refine ⟨false, fitSt ns, runH_rt rfl ?_, ⟨fun h => (by cases h), fun h => ?_⟩, fun h => by cases h⟩
            · show g__fits (F__fits fuel) [some (.d x), some (.d (.int a)), some (.l 0), none] (fitSt ns) = _
              unfold g__fits
              rw [sSeq_nx (show _ = some (OutH.nx [some (.d x), some (.d (.int a)), some (.l 0), none] (fitSt ns)) by rw [sIf_of et]; rfl)]
              rw [sSeq_nx (show _ = some (OutH.nx [some (.d x), some (.d (.int a)), some (.l 0), none] (fitSt ns)) by rw [sIf_of et2]; rfl)]
              exact sSeq_rt (by rw [sIf_of et3]; rfl)
            · have := h.2.1
              rw [pcons] at this
              exact absurd rfl ((List.nodup_append.mp this).2.2 _ hin _ (List.mem_cons_self ..))
          · rw [decide_eq_false hin] at et3
            obtain ⟨w, rest, ex, hx, hb, _, _⟩ := part_shape g hw
            have ea := fit_app ex a ns none h2
            have nd1 : (ns ++ [nmT x]).Nodup := by
              rw [List.nodup_append]
              refine ⟨h1, by simp, fun s hs t ht => ?_⟩
              have : t = nmT x := by simpa using ht
              rw [this]
              exact fun e => hin (e ▸ hs)
            obtain ⟨r, er, hr⟩ := fits_loop (x := x) (k := k) (fuel := fuel) (a := a) (n := n) (fun d ns' gd q1 q2 q3 => ih fuel (a + 1) n d ns' (by omega) (by omega) hn gd q1 q2 q3) (partsT x) (ns ++ [nmT x]) none (partsT_gd g) nd1 (by rw [List.length_append]; simp; omega) (fun s hs => by
              rcases List.mem_append.mp hs with hs | hs
              · exact h3 s hs
              · have : s = nmT x := by simpa using hs
                rw [this]; exact hx)
            have assoc : ns ++ preQ (k + 1) x = (ns ++ [nmT x]) ++ (partsT x).flatMap (preQ k) := by rw [pcons, List.append_assoc]; rfl
            have giff : GoodP (k + 1) x ns ↔ GoodL k (partsT x) (ns ++ [nmT x]) := by
              unfold GoodP GoodL
              rw [assoc, partQ_succ hw]
            have ei : iLift (iSeq (eCall (F_parts_of) (aCons (eVar 0) aNil))) [some (.d x), some (.d (.int a)), some (.l 0), none] (fitSt (ns ++ [nmT x])) = some (partsT x, fitSt (ns ++ [nmT x])) := by
              have e0 : iSeq (eCall (F_parts_of) (aCons (eVar 0) aNil)) [.val x, .val (.int a), .un, .un] = some (partsT x) := by
                have e1 : eCall (F_parts_of) (aCons (eVar 0) aNil) [.val x, .val (.int a), .un, .un] = F_parts_of [x] := rfl
                unfold iSeq
                rw [e1, parts_of_eq g hw]
                rfl
              show (iSeq (eCall (F_parts_of) (aCons (eVar 0) aNil)) [.val x, .val (.int a), .un, .un]).map _ = _
              rw [e0]
              rfl
            have efor : sFor (iLift (iSeq (eCall (F_parts_of) (aCons (eVar 0) aNil)))) 3 (b__fits_1 (F__fits fuel)) [some (.d x), some (.d (.int a)), some (.l 0), none] (fitSt (ns ++ [nmT x])) = some r := by
              unfold sFor
              rw [ei, Option.bind_some]
              exact er
            have front : ∀ o, sSeq (sFor (iLift (iSeq (eCall (F_parts_of) (aCons (eVar 0) aNil)))) 3 (b__fits_1 (F__fits fuel))) (sRet (lift (eC (.bool true)))) [some (.d x), some (.d (.int a)), some (.l 0), none] (fitSt (ns ++ [nmT x])) = some o → g__fits (F__fits fuel) [some (.d x), some (.d (.int a)), some (.l 0), none] (fitSt ns) = some o := fun o q => by
              unfold g__fits
              rw [sSeq_nx (show _ = some (OutH.nx [some (.d x), some (.d (.int a)), some (.l 0), none] (fitSt ns)) by rw [sIf_of et]; rfl)]
              rw [sSeq_nx (show _ = some (OutH.nx [some (.d x), some (.d (.int a)), some (.l 0), none] (fitSt ns)) by rw [sIf_of et2]; rfl)]
              rw [sSeq_nx (show _ = some (OutH.nx [some (.d x), some (.d (.int a)), some (.l 0), none] (fitSt ns)) by rw [sIf_of et3]; rfl)]
              rw [sSeq_nx ea]
              exact q
            rcases hr with ⟨hG, o', rfl⟩ | ⟨hG, M', rfl⟩
            · refine ⟨true, fitSt (ns ++ preQ (k + 1) x), runH_rt rfl (front _ ?_), ⟨fun _ => giff.mpr hG, fun _ => rfl⟩, fun _ => rfl⟩
              rw [sSeq_nx efor, assoc]
              rfl
            · refine ⟨false, M', runH_rt rfl (front _ (sSeq_rt efor)), ⟨fun h => (by cases h), fun h => absurd (giff.mp h) hG⟩, fun h => by cases h⟩
end K02

set_option Elab.async false
set_option linter.all false
set_option maxRecDepth 100000
set_option maxHeartbeats 4000000
namespace K02
open PySem PySem.Spec L2 Pd Hd
/-! ### is_plan -/
theorem hAnd_of {fa fb : FH} {δ : Hd.Env} {M M1 : List Cell} {b : Bool} (h : fa δ M = some (.d (.bool b), M1)) : hAnd fa fb δ M = if b then fb δ M1 else some (.d (.bool false), M1) := by
  unfold hAnd
  rw [h]
  cases b <;> rfl
theorem sRet_of {f : FH} {δ : Hd.Env} {M M1 : List Cell} {w : W} (h : f δ M = some (w, M1)) : sRet f δ M = some (.rt w M1) := by
  unfold sRet
  rw [h]
  rfl
def planB (x : D) : Bool := wardB x && (partQ 7 x && (decide (preQ 7 x).Nodup && decide ((preQ 7 x).length ≤ 60)))
theorem is_plan_eq {n : Nat} {x : D} (g : Gd n x) (hn : n ≤ 50) : F_is_plan [x] = some (.bool (planB x)) := by
  obtain ⟨b, M', e, hb, hM⟩ := fits_eq 7 10 0 n x [] rfl (by omega) hn g List.nodup_nil (by simp) (by simp)
  have hw : hView (eCall (F__is_warden) (aCons (eVar 0) aNil)) [some (.d x)] [] = some (.d (.bool (wardB x)), []) := by
    have e1 : eCall (F__is_warden) (aCons (eVar 0) aNil) [.val x] = F__is_warden [x] := rfl
    show ((eCall (F__is_warden) (aCons (eVar 0) aNil) [.val x]).bind scalK).map _ = _
    rw [e1, warden_eq g (by omega)]
    rfl
  have hc : hCall (F__fits 10) (haCons (lift (eVar 0)) (haCons (lift (eC (.int 0))) (haCons (hCell haNil) haNil))) [some (.d x)] [] = F__fits 10 [.d x, .d (.int ((0 : Nat) : Int)), .l 0] (fitSt []) := rfl
  have hbe : b = (partQ 7 x && (decide (preQ 7 x).Nodup && decide ((preQ 7 x).length ≤ 60))) := by
    rw [Bool.eq_iff_iff, hb]
    unfold GoodP
    simp
  have hr : g_is_plan [some (.d x)] [] = some (.rt (.d (.bool (planB x))) (if wardB x then M' else [])) := by
    refine sRet_of ?_
    rw [hAnd_of hw, hc, e]
    unfold planB
    rw [← hbe]
    cases wardB x <;> rfl
  unfold F_is_plan pureF
  have e2 := runH_rt (n := 1) (np := 1) (g := g_is_plan) (ws := [W.d x]) (M := []) rfl hr
  rw [show ([x].map W.d) = [W.d x] from rfl, e2, Option.bind_some]
  rfl
/-! ### names_of -/
def SL (l : List Str) : List D := l.map PyData.str
theorem SL_append (a b : List Str) : SL (a ++ b) = SL a ++ SL b := List.map_append
theorem SL_len (a : List Str) : (SL a).length = a.length := List.length_map _
theorem partQ_w {k : Nat} {x : D} (h : partQ k x = true) : (workB x || wardB x) = true := by
  cases k with
  | zero => cases h
  | succ k =>
    have h' : (workB x || (wardB x && (partsT x).all (partQ k))) = true := h
    revert h'
    cases workB x <;> cases wardB x <;> simp
theorem names_loop {k : Nat} {x : D} {rec : List D → Option D} : ∀ (l : List D) (acc : List Str) (o : Sl), (∀ d ∈ l, rec [d] = some (.list (SL (preQ k d)))) → acc.length + (l.flatMap (preQ k)).length ≤ 2000 →
    ∃ o', forG 2 (b_names_of_1 rec) l [.val x, .own (SL acc), o] = some (.nx [.val x, .own (SL (acc ++ l.flatMap (preQ k))), o']) := by
  intro l
  induction l with
  | nil => intro acc o _ _; exact ⟨o, by simp [forG]⟩
  | cons d r ih =>
    intro acc o h hl
    rw [List.flatMap_cons, List.length_append] at hl
    have e : b_names_of_1 rec [.val x, .own (SL acc), .val d] = some (.nx [.val x, .own (SL (acc ++ preQ k d)), .val d]) := by
      unfold b_names_of_1
      simp [h d (List.mem_cons_self ..)]
      rw [extK_own _ _ _ _ (by rw [SL_len, SL_len, lim_eq]; omega), ← SL_append]
      rfl
    obtain ⟨o', e'⟩ := ih (acc ++ preQ k d) (.val d) (fun y hy => h y (List.mem_cons_of_mem _ hy)) (by rw [List.length_append]; omega)
    refine ⟨o', ?_⟩
    rw [forG_cons]
    show (b_names_of_1 rec [.val x, .own (SL acc), .val d]).bind _ = _
    rw [e, Option.bind_some, forK_nx, e', List.flatMap_cons, List.append_assoc]
theorem names_eq : ∀ (k fuel n : Nat) (x : D), k ≤ fuel → Gd n x → partQ k x = true → (preQ k x).length ≤ 2000 → F_names_of fuel [x] = some (.list (SL (preQ k x))) := by
  intro k
  induction k with
  | zero => intro fuel n x _ _ h; cases h
  | succ k ih =>
    intro fuel n x hf g h hl
    cases fuel with
    | zero => omega
    | succ fuel =>
      have hw := partQ_w h
      obtain ⟨w, rest, e, hx, hb, _, _⟩ := part_shape g hw
      have pc : preQ (k + 1) x = nmT x :: (partsT x).flatMap (preQ k) := rfl
      rw [partQ_succ hw, List.all_eq_true] at h
      rw [pc, List.length_cons] at hl
      have sub : ∀ d ∈ partsT x, (preQ k d).length ≤ ((partsT x).flatMap (preQ k)).length := fun d hd => (List.sublist_flatten_of_mem (List.mem_map.mpr ⟨d, hd, rfl⟩)).length_le
      obtain ⟨o', el⟩ := names_loop (x := x) (k := k) (rec := F_names_of fuel) (partsT x) [nmT x] .un (fun d hd => ih fuel n d (by omega) (partsT_gd g d hd) (h d hd) (by have := sub d hd; omega)) (by rw [List.length_singleton]; omega)
      have e0 : (Pd.e2 ixD (eVar 0) (eC (.int 1))) [.val x, .un, .un] = some (.str (nmT x)) := by
        generalize nmT x = z at e ⊢
        rw [e]
        simp
      refine F1 rfl ?_
      unfold g_names_of
      have ep : iSeq (eCall (F_parts_of) (aCons (eVar 0) aNil)) [.val x, .own (SL [nmT x]), .un] = some (partsT x) := by
        have e1 : eCall (F_parts_of) (aCons (eVar 0) aNil) [.val x, .own (SL [nmT x]), .un] = F_parts_of [x] := rfl
        unfold iSeq
        rw [e1, parts_of_eq g hw]
        rfl
      have ef : gFor (iSeq (eCall (F_parts_of) (aCons (eVar 0) aNil))) 2 (b_names_of_1 (F_names_of fuel)) [.val x, .own (SL [nmT x]), .un] = some (.nx [.val x, .own (SL ([nmT x] ++ (partsT x).flatMap (preQ k))), o']) := by
        unfold gFor
        rw [ep, Option.bind_some]
        exact el
      have eo : gOwn 1 (aCons (e2 ixD (eVar 0) (eC (.int 1))) aNil) [.val x, .un, .un] = some (.nx [.val x, .own (SL [nmT x]), .un]) := by
        have e1 : aCons (e2 ixD (eVar 0) (eC (.int 1))) aNil [.val x, .un, .un] = some [.str (nmT x)] := by
          rw [aCons_eq, e0]
          rfl
        rw [gOwn_eq, e1]
        rfl
      have start : startD 3 [x] = [.val x, .un, .un] := rfl
      rw [start, gSeq_eq, eo, Option.bind_some, seqK_nx, gSeq_eq, ef, Option.bind_some, seqK_nx, pc]
      rfl
end K02

set_option Elab.async false
set_option linter.all false
set_option maxRecDepth 100000
set_option maxHeartbeats 4000000
namespace K02
open PySem PySem.Spec L2 Pd Hd
/-! ### the names, one by one -/
theorem cut1 {α : Type} (w : α) (r : List α) : cutD (w :: r) (some 1) none = r := by
  unfold cutD
  simp [HT.sIx]
theorem pre_len : ∀ (ws : List D), (∀ w ∈ ws, partQ 7 w = true) → ws.length ≤ (ws.flatMap (preQ 7)).length
  | [], _ => Nat.le_refl _
  | w :: r, h => by
    have := pre_len r fun x hx => h x (List.mem_cons_of_mem _ hx)
    rw [List.flatMap_cons, List.length_append, List.length_cons]
    have e : preQ 7 w = nmT w :: (partsT w).flatMap (preQ 6) := rfl
    rw [e, List.length_cons]
    omega
theorem pre_kids {w : D} (h : partQ 7 w = true) : (∀ d ∈ partsT w, partQ 7 d = true) ∧ (partsT w).flatMap (preQ 7) = (partsT w).flatMap (preQ 6) := by
  rw [partQ_succ (partQ_w h), List.all_eq_true] at h
  refine ⟨fun d hd => (partQ_up 6 d (h d hd)).1, ?_⟩
  have : ∀ l : List D, (∀ d ∈ l, partQ 6 d = true) → l.flatMap (preQ 7) = l.flatMap (preQ 6) := by
    intro l
    induction l with
    | nil => exact fun _ => rfl
    | cons d r ih =>
      intro hl
      rw [List.flatMap_cons, List.flatMap_cons, (partQ_up 6 d (hl d (List.mem_cons_self ..))).2, ih fun x hx => hl x (List.mem_cons_of_mem _ hx)]
  exact this _ h
theorem body_names {n : Nat} {x w : D} {r : List D} {acc : List Str} {o : Sl} (g : Gd n w) (hn : n ≤ 50) (h : partQ 7 w = true) (ha : acc.length < 2000) (hr : r.length + 8 ≤ 2000) :
    ∃ o', b__law_all_names_1 [.val x, .own (SL acc), .val (.list (w :: r)), o] = some (.nx [.val x, .own (SL (acc ++ [nmT w])), .val (.list (partsT w ++ r)), o']) := by
  have hw := partQ_w h
  obtain ⟨w0, rest, e, hx, hb, ew, hp⟩ := part_shape g hw
  refine ⟨.val w, ?_⟩
  unfold b__law_all_names_1
  have e1 : (SL acc).length < lim := by rw [SL_len, lim_eq]; omega
  have e2 : SL (acc ++ [nmT w]) = SL acc ++ [.str (nmT w)] := SL_append _ _
  cases hwd : wardB w with
  | true =>
    have hl := ward_parts hwd
    obtain ⟨a, b, c, er⟩ := hp hwd
    rw [hwd] at ew
    have e0 := eqD_str (n := 0) (d := .str "warden") (.str sokA.2) (by omega) sokA.2
    have e3 : isS "warden" (.str "warden") = true := by decide +kernel
    rw [e3] at e0
    have hadd : addD (.list (partsT w)) (.list r) = some (.list (partsT w ++ r)) := addD_list _ _ (by rw [lim_eq]; omega)
    generalize nmT w = z at *
    generalize partsT w = ps at *
    rw [e2]
    subst er
    subst ew
    subst e
    simp
    rw [appK_own _ _ _ _ e1]
    simp [cut1, e0, hadd]
  | false =>
    rw [hwd] at ew hw
    have hk : workB w = true := by simpa using hw
    have e0 := eqD_str (n := 0) (d := .str "worker") (.str sokA.1) (by omega) sokA.2
    have e3 : isS "warden" (.str "worker") = false := by decide +kernel
    rw [e3] at e0
    rw [work_parts hk, List.nil_append]
    generalize nmT w = z at *
    rw [e2]
    subst ew
    subst e
    simp
    rw [appK_own _ _ _ _ e1]
    simp [cut1, e0]
theorem names_while {n : Nat} {x : D} (hn : n ≤ 50) : ∀ (fuel : Nat) (ws : List D) (acc : List Str) (o : Sl), (∀ w ∈ ws, Gd n w ∧ partQ 7 w = true) → (ws.flatMap (preQ 7)).length < fuel → acc.length + (ws.flatMap (preQ 7)).length ≤ 1900 →
    ∃ o', whileG (e2 neD (eVar 2) (eLst aNil)) b__law_all_names_1 fuel [.val x, .own (SL acc), .val (.list ws), o] = some (.nx [.val x, .own (SL (acc ++ ws.flatMap (preQ 7))), .val (.list []), o']) := by
  intro fuel
  induction fuel with
  | zero => intro ws acc o _ h _; omega
  | succ fuel ih =>
    intro ws acc o h hf hl
    have hft : fitD (.list ws) = true := fitD_list fun d hd => by
      have := (h d hd).1.fit (by omega)
      exact ⟨this.1, by omega⟩
    have ht : e2 neD (eVar 2) (eLst aNil) [.val x, .own (SL acc), .val (.list ws), o] = some (.bool (!ws.isEmpty)) := by
      simp [neD_of _ _ hft (show fitD (.list []) = true from rfl), eqv_nil]
    rw [whileG_succ, ht, Option.bind_some, whK_eq]
    cases ws with
    | nil => exact ⟨o, by simp⟩
    | cons w r =>
      have hw := h w (List.mem_cons_self ..)
      have pl := pre_len (w :: r) fun y hy => (h y hy).2
      have pc : preQ 7 w = nmT w :: (partsT w).flatMap (preQ 6) := rfl
      obtain ⟨k1, k2⟩ := pre_kids hw.2
      have ef : (w :: r).flatMap (preQ 7) = nmT w :: (partsT w ++ r).flatMap (preQ 7) := by
        rw [List.flatMap_cons, pc, List.flatMap_append, k2]
        rfl
      rw [ef, List.length_cons] at hf hl pl
      rw [List.length_cons] at pl
      obtain ⟨o1, e1⟩ := body_names (x := x) (o := o) (acc := acc) hw.1 hn hw.2 (by omega) (show r.length + 8 ≤ 2000 by omega)
      obtain ⟨o', e'⟩ := ih (partsT w ++ r) (acc ++ [nmT w]) o1 (fun y hy => by
        rcases List.mem_append.mp hy with hy | hy
        · exact ⟨partsT_gd hw.1 y hy, k1 y hy⟩
        · exact h y (List.mem_cons_of_mem _ hy)) (by omega) (by rw [List.length_append, List.length_singleton]; omega)
      refine ⟨o', ?_⟩
      rw [if_pos (by rfl), e1, Option.bind_some, whB_nx, e', ef, List.append_assoc]
      rfl
theorem all_names_eq {n : Nat} {x : D} (g : Gd n x) (hn : n ≤ 49) (h : partQ 7 x = true) (hl : (preQ 7 x).length < 1000) : F__law_all_names [x] = some (.list (SL (preQ 7 x))) := by
  have ee : [x].flatMap (preQ 7) = preQ 7 x := by simp
  obtain ⟨o', e⟩ := names_while (n := n) (x := x) (by omega) 1000 [x] [] .un (fun w hw => by
    have : w = x := by simpa using hw
    rw [this]; exact ⟨g, h⟩) (by rw [ee]; omega) (by rw [ee]; simp; omega)
  rw [ee, List.nil_append] at e
  refine F1 rfl ?_
  unfold g__law_all_names
  have start : startD 4 [x] = [.val x, .un, .un, .un] := rfl
  have e0 : gOwn 1 aNil [.val x, .un, .un, .un] = some (.nx [.val x, .own (SL []), .un, .un]) := rfl
  have e1 : gSet 2 (eLst (aCons (eVar 0) aNil)) [.val x, .own (SL []), .un, .un] = some (.nx [.val x, .own (SL []), .val (.list [x]), .un]) := by simp
  rw [start, gSeq_eq, e0, Option.bind_some, seqK_nx, gSeq_eq, e1, Option.bind_some, seqK_nx, gSeq_eq, e, Option.bind_some, seqK_nx]
  rfl
end K02

set_option Elab.async false
set_option linter.all false
set_option maxRecDepth 100000
set_option maxHeartbeats 4000000
namespace K02
open PySem PySem.Spec L2 Pd Hd
theorem fit_SL {N : List Str} (h : ∀ s ∈ N, SOk s) : fitD (.list (SL N)) = true := fitD_list fun d hd => by
  obtain ⟨s, hs, rfl⟩ := List.mem_map.mp hd
  exact ⟨fitD_str (h s hs), Nat.zero_le _⟩
theorem count_SL {N : List Str} {s : Str} (h : ∀ s ∈ N, SOk s) (hs : SOk s) : countD (.list (SL N)) (.str s) = some (.int (N.count s)) := by
  show (if fitD (.str s) && fitD (.list (SL N)) then _ else _) = _
  rw [fitD_str hs, fit_SL h]
  show some (PyData.int (List.countP (fun z => PyData.eqv z (.str s)) (SL N) : Nat)) = _
  unfold SL
  rw [List.countP_map, List.count_eq_countP]
  rfl
def dupD (N : List Str) : D → Bool
  | .str s => decide (1 < N.count s)
  | _ => false
theorem dup_none (N : List Str) : ((SL N).filter (dupD N)).isEmpty = decide N.Nodup := by
  rw [Bool.eq_iff_iff, List.isEmpty_iff, List.filter_eq_nil_iff, decide_eq_true_eq, List.nodup_iff_count]
  constructor
  · intro h s
    by_cases hs : s ∈ N
    · have := h (.str s) (List.mem_map.mpr ⟨s, hs, rfl⟩)
      simp [dupD] at this
      exact this
    · rw [List.count_eq_zero_of_not_mem hs]
      omega
  · intro h d hd
    obtain ⟨s, _, rfl⟩ := List.mem_map.mp hd
    have := h s
    simp [dupD]
    exact this
theorem isW1 : isS "warden" (.str "warden") = true := by decide +kernel
theorem isW2 : isS "warden" (.str "worker") = false := by decide +kernel
theorem law_plan_eq {n : Nat} {x : D} (g : Gd n x) (hn : n ≤ 49) (hl : partQ 7 x = true → (preQ 7 x).length < 1000) : F__law_is_plan [x] = some (.bool (planB x)) := by
  have e1 : F__law_is_part 14 [x, .int 0] = some (.bool (partQ 7 x)) := by
    have := part_eq 6 14 0 n x (by omega) rfl (by omega) g
    rw [partQ_B]
    exact this
  refine F1 rfl ?_
  unfold g__law_is_plan planB
  cases h : partQ 7 x with
  | false =>
    rw [h] at e1
    simp [e1]
  | true =>
    rw [h] at e1
    have hw := partQ_w h
    obtain ⟨w, rest, e, hx, hb, ew, hp⟩ := part_shape g hw
    have ok := fun s hs => (preQ_ok 7 g h s hs).1
    have ea := all_names_eq g hn h (hl h)
    have e0 : eqD (.str w) (.str "warden") = some (.bool (wardB x)) := by
      rw [ew]
      cases wardB x with
      | true => exact (eqD_str (n := 0) (.str sokA.2) (by omega) sokA.2).trans (by rw [isW1])
      | false => exact (eqD_str (n := 0) (.str sokA.1) (by omega) sokA.2).trans (by rw [isW2])
    have e00 : neD (.str w) (.str "warden") = some (.bool (!wardB x)) := by
      rw [ew]
      cases wardB x with
      | true => exact (neD_str (n := 0) (.str sokA.2) (by omega) sokA.2).trans (by rw [isW1])
      | false => exact (neD_str (n := 0) (.str sokA.1) (by omega) sokA.2).trans (by rw [isW2])
    have ei : ixD x (.int 0) = some (.str w) := by
      generalize nmT x = z at e
      rw [e]
      simp
    have el : lcQ 2 (e2 gtD (e2 countD (eVar 1) (eVar 2)) (eC (.int 1))) (eVar 2) [.val x, .val (.list (SL (preQ 7 x))), .un] (SL (preQ 7 x)) = some (.list ((SL (preQ 7 x)).filter (dupD (preQ 7 x)))) := by
      refine lcQ_filter _ (by simp) (fun d hd => ?_) (by rw [SL_len, lim_eq]; have := hl h; omega)
      obtain ⟨s, hs, rfl⟩ := List.mem_map.mp hd
      simp [count_SL ok (ok s hs), dupD]
      omega
    have ef : fitD (.list ((SL (preQ 7 x)).filter (dupD (preQ 7 x)))) = true := fitD_list fun d hd => by
      obtain ⟨s, hs, rfl⟩ := List.mem_map.mp (List.mem_filter.mp hd).1
      exact ⟨fitD_str (ok s hs), Nat.zero_le _⟩
    simp [e1, ei, e00]
    cases hwd : wardB x with
    | false => simp
    | true =>
      simp [ea, el, eqD_of _ _ ef (show fitD (.list []) = true from rfl), eqv_nil, dup_none, SL_len]
      by_cases c : (preQ 7 x).length ≤ 60
      · have c' : ((preQ 7 x).length : Int) ≤ 60 := by omega
        simp [c, c']
      · have c' : ¬ ((preQ 7 x).length : Int) ≤ 60 := by omega
        simp [c, c']
end K02

set_option Elab.async false
set_option linter.all false
set_option maxRecDepth 100000
set_option maxHeartbeats 4000000
namespace K02
open PySem PySem.Spec L2 Pd Hd
mutual
def tot : D → Nat
  | .tuple ds => totL ds + 1
  | .list ds => totL ds + 1
  | _ => 1
def totL : List D → Nat
  | [] => 0
  | d :: r => tot d + totL r
end
theorem totL_append (a b : List D) : totL (a ++ b) = totL a + totL b := by
  induction a with
  | nil => simp [totL]
  | cons d r ih => rw [List.cons_append]; simp only [totL, ih]; omega
theorem pre_tot : ∀ (k : Nat) (x : D), (preQ k x).length ≤ tot x := by
  intro k
  induction k with
  | zero => intro x; exact Nat.zero_le _
  | succ k ih =>
    intro x
    have h1 : ∀ l : List D, (l.flatMap (preQ k)).length ≤ totL l := by
      intro l
      induction l with
      | nil => exact Nat.le_refl _
      | cons d r ih2 => rw [List.flatMap_cons, List.length_append]; simp only [totL]; have := ih d; omega
    have h2 : totL (partsT x) + 1 ≤ tot x := by
      unfold partsT
      split
      · rename_i a b c d e ps
        simp only [tot, totL]
        cases ps with
        | tuple l => simp only [itemsT, tot]; omega
        | _ => simp only [itemsT, totL]; omega
      · simp only [totL]
        cases x <;> simp only [tot] <;> omega
    show (nmT x :: (partsT x).flatMap (preQ k)).length ≤ tot x
    rw [List.length_cons]
    have := h1 (partsT x)
    omega
structure Thing (x : D) : Prop where
  g : Gd 40 x
  t : tot x < 1000
def g_tail : GS :=
    (gSeq (gSet 5 (eCall (F__law_is_plan) (aCons (eVar 4) aNil)))
    (gSeq (gSet 6 (eCall (F_is_plan) (aCons (eVar 4) aNil)))
    (gSeq (gIf (eOr (eNot (eIs "bool" (eVar 6))) (e2 neD (eVar 6) (eVar 5))) (gRet (eC (.bool false))) gNil)
    (gSeq (gIf (eVar 5) (gSeq (gSet 7 (eCall (F_names_of 10) (aCons (eVar 4) aNil)))
    (gIf (eOr (eNot (eIs "list" (eVar 7))) (e2 neD (eVar 7) (eCall (F__law_all_names) (aCons (eVar 4) aNil)))) (gRet (eC (.bool false))) gNil)) gNil)
    (gRet (e2 eqD (eCall (F_is_plan) (aCons (eVar 4) aNil)) (eVar 5)))))))
theorem eqv_refl_SL (N : List Str) : PyData.eqvAll (SL N) (SL N) = true := by
  induction N with
  | nil => rfl
  | cons s r ih =>
    show ((s == s) && PyData.eqvAll (SL r) (SL r)) = true
    rw [ih]
    simp
theorem tail_ok {x : D} (t : Thing x) (a b c d : Sl) : g_tail [a, b, c, d, .val x, .un, .un, .un] = some (.rt (.bool true)) := by
  have e1 := law_plan_eq t.g (by omega) fun _ => Nat.lt_of_le_of_lt (pre_tot 7 x) t.t
  have e2 := is_plan_eq t.g (by omega)
  unfold g_tail
  cases h : planB x with
  | false =>
    rw [h] at e1 e2
    simp [e1, e2]
  | true =>
    rw [h] at e1 e2
    have hp : partQ 7 x = true := by
      unfold planB at h
      revert h
      cases partQ 7 x <;> simp
    have hl : (preQ 7 x).length < 1000 := Nat.lt_of_le_of_lt (pre_tot 7 x) t.t
    have e3 := all_names_eq t.g (by omega) hp hl
    have e4 := names_eq 7 10 40 x (by omega) t.g hp (by omega)
    have ok := fun s hs => (preQ_ok 7 t.g hp s hs).1
    have e5 : neD (.list (SL (preQ 7 x))) (.list (SL (preQ 7 x))) = some (.bool false) := by
      rw [neD_of _ _ (fit_SL ok) (fit_SL ok)]
      show some (PyData.bool (!PyData.eqvAll (SL (preQ 7 x)) (SL (preQ 7 x)))) = _
      rw [eqv_refl_SL]
      rfl
    simp [e1, e2, e3, e4, e5]
end K02

set_option Elab.async false
set_option linter.all false
set_option maxRecDepth 100000
set_option maxHeartbeats 4000000
namespace K02
open PySem PySem.Spec L2 Pd Hd
theorem cut_ok {s : Str} (h : SOk s) (lo hi : Option Int) : SOk (cutS s lo hi) ∧ (cutS s lo hi).length ≤ s.length := by
  have hl : (cutS s lo hi).length ≤ s.length := by
    unfold cutS Str.length
    simp
    omega
  refine ⟨⟨Nat.le_trans hl h.1, fun c hc => ?_⟩, hl⟩
  unfold cutS at hc
  simp at hc
  have := List.mem_of_mem_drop (List.mem_of_mem_take hc)
  exact h.2 c this
theorem lc_range {i : Nat} {fe : FE} {δ : List Sl} {m : Nat} (f : Nat → Str) (h : ∀ k : Nat, k < m → fe ((δ.set i .un).set i (.val (.int (k : Int)))) = some (.str (f k))) (hm : m ≤ lim) : lcQ i (eC (.bool true)) fe δ (rangeD 0 m) = some (.list (SL ((List.range m).map f))) := by
  rw [lcQ_map (fun d => match d with | .int k => .str (f k.toNat) | _ => .none) (fun d hd => ?_) (by unfold rangeD; simpa using hm)]
  · congr 2
    unfold SL rangeD
    rw [List.map_map, List.map_map]
    apply List.map_congr_left
    intro k _
    show PyData.str (f ((0 : Int) + (k : Nat)).toNat) = _
    rw [Int.zero_add, Int.toNat_natCast]
    rfl
  · obtain ⟨k, hk, rfl⟩ := mem_rangeD hd
    rw [Int.zero_add, h k hk]
    show _ = some (PyData.str (f ((k : Nat) : Int).toNat))
    rw [Int.toNat_natCast]
def NamesOk (N : List Str) (m : Int) : Prop := (N.length : Int) = m ∧ ∀ s ∈ N, SOk s
theorem nm_range {m : Int} (h0 : 0 ≤ m) {f : Nat → Str} (h : ∀ k, SOk (f k)) : NamesOk ((List.range m.toNat).map f) m := ⟨by simp; omega, fun s hs => by
  obtain ⟨k, _, rfl⟩ := List.mem_map.mp hs
  exact h k⟩
theorem nm_range' {m : Int} (h0 : 0 ≤ m) {f : Nat → Str} (h : ∀ k, k < m.toNat → SOk (f k)) : NamesOk ((List.range m.toNat).map f) m := ⟨by simp; omega, fun s hs => by
  obtain ⟨k, hk, rfl⟩ := List.mem_map.mp hs
  exact h k (List.mem_range.mp hk)⟩
theorem sign_fn {s : Str} (hs : SOk s) {m : Nat} (g : Nat → Int) (hg : ∀ k, k < m → 0 ≤ g k ∧ g k < s.length) : ∃ a : Nat → Nat, ∀ k, k < m → a k < 128 ∧ ixD (.str s) (.int (g k)) = some (.str ⟨#[a k]⟩) := by
  have : ∀ k, ∃ a, k < m → a < 128 ∧ ixD (.str s) (.int (g k)) = some (.str ⟨#[a]⟩) := fun k => by
    by_cases hk : k < m
    · obtain ⟨a, h1, h2⟩ := sign_at hs (hg k hk).1 (hg k hk).2
      exact ⟨a, fun _ => ⟨h1, h2⟩⟩
    · exact ⟨0, fun h => absurd h hk⟩
  exact ⟨fun k => (this k).choose, fun k hk => (this k).choose_spec hk⟩
theorem names_head (c m : Int) : ∃ (s : Str) (r : Int) (x : Sl), forG 5 b__law_names_1 (rangeD 0 8) [.val (.int c), .val (.int m), .val (.str abc), .val (.str ""), .val (.int (c / 48)), .un, .un, .un, .un] = some (.nx [.val (.int c), .val (.int m), .val (.str abc), .val (.str s), .val (.int r), x, .un, .un, .un]) ∧ SOk s ∧ s.length = 8 := by
  let Inv : Nat → List Sl → Prop := fun j δ => ∃ (s : Str) (r : Int) (x : Sl), δ = [.val (.int c), .val (.int m), .val (.str abc), .val (.str s), .val (.int r), x, .un, .un, .un] ∧ SOk s ∧ s.length = j
  obtain ⟨δ', e1, s, r, x, rfl, hs, hl⟩ := forG_inv (i := 5) (body := b__law_names_1) Inv (rangeD 0 8) 0 [.val (.int c), .val (.int m), .val (.str abc), .val (.str ""), .val (.int (c / 48)), .un, .un, .un, .un] ⟨"", _, _, rfl, sok_lit _ (by decide +kernel), rfl⟩ (by
    rintro j d δ hj ⟨s, r, x, rfl, hs, hl⟩
    have hj8 : j < 8 := by
      have := (List.getElem?_eq_some_iff.mp hj).1
      unfold rangeD at this
      simpa using this
    obtain ⟨a, ha, ea⟩ := sign_at abc_ok (i := r % 26) (by omega) (by rw [abc_len]; omega)
    have ea2 : addD (.str s) (.str ⟨#[a]⟩) = some (.str (s ++ ⟨#[a]⟩)) := addD_str _ _ (by rw [len_one, lim_eq]; omega)
    refine ⟨_, ?_, s ++ ⟨#[a]⟩, r / 26, .val d, rfl, hs.append (SOk.one ha) (by rw [len_one]; omega), by rw [len_append, len_one, hl]⟩
    unfold b__law_names_1
    simp [ea, ea2])
  exact ⟨s, r, x, e1, hs, hl⟩
theorem law_names_eq (c m : Int) (h0 : 0 ≤ m) (h1 : m ≤ 70) : ∃ N : List Str, F__law_names [.int c, .int m] = some (.list (SL N)) ∧ NamesOk N m := by
  obtain ⟨s, r, x, e1, hs, hl⟩ := names_head c m
  have e0 : (Str.ofString "abcdefghijklmnopqrstuvwxyz") = abc := rfl
  have er : -(2 ^ 62) ≤ m ∧ m < 2 ^ 62 := by omega
  have lm : m.toNat ≤ lim := by rw [lim_eq]; omega
  have run : ∀ N, (g__law_names (startD 9 [.int c, .int m])).bind rtK = some (.list (SL N)) → F__law_names [.int c, .int m] = some (.list (SL N)) := fun N h => F1 rfl h
  by_cases a0 : c % 6 = 0 ∧ m < 9
  · refine ⟨(List.range m.toNat).map fun k : Nat => cutS s none (some ((k : Int) + 1)), run _ ?_, nm_range h0 fun k => (cut_ok hs _ _).1⟩
    unfold g__law_names
    have e2 := lc_range (i := 5) (δ := [.val (.int c), .val (.int m), .val (.str abc), .val (.str s), .val (.int r), x, .val (.int (c % 6)), .un, .un]) (fe := eSl (eVar 3) oNone (oSome (e2 addD (eVar 5) (eC (.int 1))))) (m := m.toNat) (fun k : Nat => cutS s none (some ((k : Int) + 1))) (fun k hk => by
      simp [oNone, slK3_str _ _ _ hs.lim]) lm
    simp [e0, r1K_eq _ (show -(2 ^ 62) ≤ (8 : Int) ∧ (8 : Int) < 2 ^ 62 by omega)]
    rw [e1]
    rw [a0.1] at e2
    simp [a0.1, a0.2, r1K_eq _ er, e2]
  · by_cases a1 : c % 6 = 1 ∧ m < 9
    · refine ⟨(List.range m.toNat).map fun k : Nat => cutS s (some (7 - (k : Int))) none, run _ ?_, nm_range h0 fun k => (cut_ok hs _ _).1⟩
      unfold g__law_names
      have e2 := lc_range (i := 5) (δ := [.val (.int c), .val (.int m), .val (.str abc), .val (.str s), .val (.int r), x, .val (.int (c % 6)), .un, .un]) (fe := eSl (eVar 3) (oSome (e2 subD (eC (.int 7)) (eVar 5))) oNone) (m := m.toNat) (fun k : Nat => cutS s (some (7 - (k : Int))) none) (fun k hk => by
        simp [oNone, slK3_str _ _ _ hs.lim]) lm
      simp [e0, r1K_eq _ (show -(2 ^ 62) ≤ (8 : Int) ∧ (8 : Int) < 2 ^ 62 by omega)]
      rw [e1]
      rw [a1.1] at e2
      simp [a1.1, a1.2, r1K_eq _ er, e2]
    · obtain ⟨hs2, hl2⟩ := cut_ok hs none (some (c / 6 % 7))
      generalize hh : cutS s none (some (c / 6 % 7)) = h at hs2 hl2
      have n0 : ¬ (c % 6 = 0) ∨ ¬ (m < 9) := by
        by_cases q : c % 6 = 0
        · exact .inr fun z => a0 ⟨q, z⟩
        · exact .inl q
      have n1 : ¬ (c % 6 = 1) ∨ ¬ (m < 9) := by
        by_cases q : c % 6 = 1
        · exact .inr fun z => a1 ⟨q, z⟩
        · exact .inl q
      have hm : (0 : Int) < (h.length : Int) + 1 := by omega
      have es : slK3 (.str s) none (some (c / 6 % 7)) = some (.str h) := by rw [slK3_str _ _ _ hs.lim, hh]
      by_cases a2 : c % 6 < 4 ∧ m < 27
      · obtain ⟨ho1, hl3⟩ := cut_ok hs2 none (some (c / 5 % ((h.length : Int) + 1)))
        generalize h3 : cutS h none (some (c / 5 % ((h.length : Int) + 1))) = lf at ho1 hl3
        obtain ⟨ho2, hl4⟩ := cut_ok hs2 (some (lf.length : Int)) none
        generalize h4 : cutS h (some (lf.length : Int)) none = rt at ho2 hl4
        obtain ⟨a, ha⟩ := sign_fn abc_ok (m := m.toNat) (fun k => (c / 7 + 7 * (k : Int)) % 26) (fun k hk => by rw [abc_len]; omega)
        have e2 := lc_range (i := 5) (δ := [.val (.int c), .val (.int m), .val (.str abc), .val (.str h), .val (.int r), x, .val (.int (c % 6)), .val (.str lf), .val (.str rt)]) (fe := (e2 addD (e2 addD (eVar 7) (e2 ixD (eVar 2) (e2 modD (e2 addD (e2 divD (eVar 0) (eC (.int 7))) (e2 mulD (eC (.int 7)) (eVar 5))) (eC (.int 26))))) (eVar 8))) (m := m.toNat) (fun k : Nat => (lf ++ ⟨#[a k]⟩) ++ rt) (fun k hk => by
          have em : mulD (.int 7) (.int (k : Int)) = some (.int (7 * (k : Int))) := by rw [mulD_int, if_pos (by simp)]
          have ea := (ha k hk).2
          have ed1 : addD (.str lf) (.str ⟨#[a k]⟩) = some (.str (lf ++ ⟨#[a k]⟩)) := addD_str _ _ (by rw [len_one, lim_eq]; omega)
          have ed2 : addD (.str (lf ++ ⟨#[a k]⟩)) (.str rt) = some (.str (lf ++ ⟨#[a k]⟩ ++ rt)) := addD_str _ _ (by rw [len_append, len_one, lim_eq]; omega)
          simp [em, ea, ed1, ed2]) lm
        refine ⟨(List.range m.toNat).map fun k : Nat => (lf ++ ⟨#[a k]⟩) ++ rt, run _ ?_, nm_range' h0 fun k hk => ?_⟩
        · unfold g__law_names
          simp [e0, r1K_eq _ (show -(2 ^ 62) ≤ (8 : Int) ∧ (8 : Int) < 2 ^ 62 by omega)]
          rw [e1]
          rcases n0 with q0 | q0 <;> rcases n1 with q1 | q1 <;> simp [q0, q1, es, a2.1, a2.2, r1K_eq _ er, lenD_str _ hs2.lim, lenD_str _ ho1.lim, hm, slK3_str _ _ _ hs2.lim, h3, h4, e2, oNone]
        · have h5 := (ha k hk).1
          exact (ho1.append (SOk.one h5) (by rw [len_one]; omega)).append ho2 (by rw [len_append, len_one]; omega)
      · have n2 : ¬ (c % 6 < 4) ∨ ¬ (m < 27) := by
          by_cases q : c % 6 < 4
          · exact .inr fun z => a2 ⟨q, z⟩
          · exact .inl q
        obtain ⟨a, ha⟩ := sign_fn abc_ok (m := m.toNat) (fun k => (k : Int) / 26) (fun k hk => by rw [abc_len]; omega)
        obtain ⟨b, hb⟩ := sign_fn abc_ok (m := m.toNat) (fun k => (k : Int) % 26) (fun k hk => by rw [abc_len]; omega)
        have e2 := lc_range (i := 5) (δ := [.val (.int c), .val (.int m), .val (.str abc), .val (.str h), .val (.int r), x, .val (.int (c % 6)), .un, .un]) (fe := (e2 addD (e2 addD (eVar 3) (e2 ixD (eVar 2) (e2 divD (eVar 5) (eC (.int 26))))) (e2 ixD (eVar 2) (e2 modD (eVar 5) (eC (.int 26)))))) (m := m.toNat) (fun k : Nat => (h ++ ⟨#[a k]⟩) ++ ⟨#[b k]⟩) (fun k hk => by
          have ea := (ha k hk).2
          have eb := (hb k hk).2
          have ed1 : addD (.str h) (.str ⟨#[a k]⟩) = some (.str (h ++ ⟨#[a k]⟩)) := addD_str _ _ (by rw [len_one, lim_eq]; omega)
          have ed2 : addD (.str (h ++ ⟨#[a k]⟩)) (.str ⟨#[b k]⟩) = some (.str (h ++ ⟨#[a k]⟩ ++ ⟨#[b k]⟩)) := addD_str _ _ (by rw [len_append, len_one, len_one, lim_eq]; omega)
          simp [ea, eb, ed1, ed2]) lm
        refine ⟨(List.range m.toNat).map fun k : Nat => (h ++ ⟨#[a k]⟩) ++ ⟨#[b k]⟩, run _ ?_, nm_range' h0 fun k hk => ?_⟩
        · unfold g__law_names
          simp [e0, r1K_eq _ (show -(2 ^ 62) ≤ (8 : Int) ∧ (8 : Int) < 2 ^ 62 by omega)]
          rw [e1]
          rcases n0 with q0 | q0 <;> rcases n1 with q1 | q1 <;> rcases n2 with q2 | q2 <;> simp [q0, q1, q2, es, r1K_eq _ er, e2, oNone]
        · have h5 := (ha k hk).1
          have h6 := (hb k hk).1
          exact (hs2.append (SOk.one h5) (by rw [len_one]; omega)).append (SOk.one h6) (by rw [len_append, len_one, len_one]; omega)
end K02

set_option Elab.async false
set_option linter.all false
set_option maxRecDepth 100000
set_option maxHeartbeats 4000000
namespace K02
open PySem PySem.Spec L2 Pd Hd
/-- what a plan is made of -/
inductive Gp : Nat → D → Prop where
  | int {n : Nat} {i : Int} (h0 : 0 ≤ i) (h1 : i < 10 ^ 12) : Gp n (.int i)
  | str {n : Nat} {s : Str} (h : SOk s) (h2 : s.length ≤ 100) : Gp n (.str s)
  | tup {n : Nat} {ds : List D} (hl : ds.length ≤ 1000) (h : ∀ d ∈ ds, Gp n d) : Gp (n + 1) (.tuple ds)
theorem Gp.gd {n : Nat} {d : D} (g : Gp n d) : Gd n d := by
  induction g with
  | int h0 h1 => exact .int _
  | str h h2 => exact .str h
  | tup hl h ih => exact .tup (by omega) ih
theorem at_mem {α : Type} {l : List α} {i : Int} (h0 : 0 ≤ i) (h1 : i < l.length) : ∃ y ∈ l, atI l i = some y := by
  have hi : i.toNat < l.length := by omega
  exact ⟨l[i.toNat], List.getElem_mem hi, atI_of h0 (List.getElem?_eq_getElem hi)⟩
theorem totL_le {l k : List D} (h : l.Sublist k) : totL l ≤ totL k := by
  induction h with
  | slnil => exact Nat.le_refl _
  | cons a _ ih => simp only [totL]; omega
  | cons_cons a _ ih => simp only [totL]; omega
theorem cut_sub {α : Type} (l : List α) (lo hi : Option Int) : (cutD l lo hi).Sublist l := (List.take_sublist _ _).trans (List.drop_sublist _ _)
theorem totL_rev (l : List D) : totL l.reverse = totL l := by
  induction l with
  | nil => rfl
  | cons d r ih => rw [List.reverse_cons, totL_append, ih]; simp only [totL]; omega
theorem upper_ok {s : Str} (h : SOk s) : SOk (Txt.upper s) := by
  obtain ⟨⟨l⟩⟩ := s
  have key : ∀ l : List Nat, (∀ c ∈ l, c < 128) → (Txt.upper ⟨l.toArray⟩).length = l.length ∧ ∀ c ∈ (Txt.upper ⟨l.toArray⟩).cps.toList, c < 128 := by
    intro l
    induction l with
    | nil =>
      intro _
      have e : Txt.upper ⟨#[]⟩ = ⟨#[]⟩ := by decide +kernel
      rw [e]
      exact ⟨rfl, fun c hc => by cases hc⟩
    | cons a r ih =>
      intro hl
      have ha := hl a (List.mem_cons_self ..)
      have e : (⟨(a :: r).toArray⟩ : Str) = ⟨#[a]⟩ ++ ⟨r.toArray⟩ := by
        show Str.mk _ = Str.mk _
        congr 1
        simp
      obtain ⟨i1, i2⟩ := ih fun c hc => hl c (List.mem_cons_of_mem _ hc)
      rw [e, PySem.W.KOpn.upper_app, PySem.W.KOpn.upper_one ha]
      refine ⟨by rw [len_append, len_one, i1, List.length_cons]; omega, fun c hc => ?_⟩
      rw [cps_append, List.mem_append] at hc
      rcases hc with hc | hc
      · have : c = if 97 ≤ a ∧ a ≤ 122 then a - 32 else a := by simpa using hc
        rw [this]
        split <;> omega
      · exact i2 c hc
  have hl : l.length ≤ 1000 := h.1
  obtain ⟨k1, k2⟩ := key l h.2
  exact ⟨by rw [k1]; exact hl, k2⟩
theorem num_ok {i : Int} (h0 : 0 ≤ i) (h1 : i < 10 ^ 12) : strD [.int i] = some (.str (toString i)) ∧ SOk (toString i) := by
  have e : i = ((i.toNat : Nat) : Int) := by omega
  have hn : i.toNat < 10 ^ 12 := by omega
  constructor
  · have : i.natAbs.log2 < 1920 := by
      by_cases z : i.natAbs = 0
      · rw [z]; decide
      · rw [Nat.log2_lt z]
        have h2 : (10 : Nat) ^ 12 < 2 ^ 1920 := by decide +kernel
        have h3 : i.natAbs < 10 ^ 12 := by omega
        omega
    show (if i.natAbs.log2 < 1920 then _ else none) = _
    rw [if_pos this]
  · have q := TL.tl_num i.toNat
    rw [← e] at q
    have q2 : (toString i : Str).cps.toList = TL.numL i.toNat := q
    refine ⟨?_, fun c hc => ?_⟩
    · have hl := TL.numL_len (n := i.toNat) (k := 12) (by omega) hn
      show (toString i : Str).cps.size ≤ 1000
      rw [← Array.length_toList, q2]
      omega
    · rw [q2] at hc
      by_cases h : c < 128
      · exact h
      · exact absurd hc (TL.numL_free (.inr (by omega)))
def OddOk (n : Nat) (x y : D) : Prop := Gd (n + 2) y ∧ tot y ≤ 2 * tot x + 2
theorem odd_tup {n : Nat} {ds : List D} (hl : ds.length ≤ 1000) (h : ∀ d ∈ ds, Gp n d) (c : Int) : ∃ y, F__law_odd_by [.tuple ds, .int c] = some y ∧ OddOk (n + 1) (.tuple ds) y := by
  have gi : ∀ d ∈ ds, Gd n d := fun d hd => (h d hd).gd
  have lcut := fun lo hi => (cut_sub ds lo hi).length_le
  have tcut := fun lo hi => totL_le (cut_sub ds lo hi)
  have gcut := fun lo hi d (hd : d ∈ cutD ds lo hi) => gi d ((cut_sub ds lo hi).subset hd)
  have a1 : addD (.tuple ds) (.tuple (cutD ds (some (-1)) none)) = some (.tuple (ds ++ cutD ds (some (-1)) none)) := addD_tuple _ _ (by have := lcut (some (-1)) none; rw [lim_eq]; omega)
  have a2 : addD (.tuple ds) (.tuple [.tuple ds]) = some (.tuple (ds ++ [.tuple ds])) := addD_tuple _ _ (by rw [lim_eq, List.length_singleton]; omega)
  obtain ⟨y, hy, ey⟩ := at_mem (l := ([.list ds, .tuple (cutD ds none (some (-1))), .tuple (ds ++ cutD ds (some (-1)) none), .tuple ds.reverse, .tuple [], .none, .tuple (cutD ds (some 1) none), .tuple (ds ++ [.tuple ds]), .int 5] : List D)) (i := c % 9) (by omega) (by simp only [List.length_cons, List.length_nil]; omega)
  refine ⟨y, ?_, ?_⟩
  · refine F1 rfl ?_
    unfold g__law_odd_by
    simp [a1, a2, oNone, ey]
  · have up : ∀ {m : Nat} {d : D}, Gd m d → m ≤ n + 3 → Gd (n + 1 + 2) d := fun g hm => g.mono (by omega)
    have et : tot (.tuple ds) = totL ds + 1 := by simp only [tot]
    unfold OddOk
    rw [et]
    simp only [List.mem_cons, List.not_mem_nil, or_false] at hy
    rcases hy with rfl | rfl | rfl | rfl | rfl | rfl | rfl | rfl | rfl
    · exact ⟨up (.lst (by omega) gi) (by omega), by simp only [tot]; omega⟩
    · exact ⟨up (.tup (by have := lcut none (some (-1)); omega) (gcut _ _)) (by omega), by have := tcut none (some (-1)); simp only [tot]; omega⟩
    · refine ⟨up (m := n + 1) (.tup (by have := lcut (some (-1)) none; rw [List.length_append]; omega) fun d hd => ?_) (by omega), by have := tcut (some (-1)) none; simp only [tot, totL_append]; omega⟩
      rcases List.mem_append.mp hd with hd | hd
      · exact gi d hd
      · exact gcut _ _ d hd
    · exact ⟨up (m := n + 1) (.tup (by rw [List.length_reverse]; omega) fun d hd => gi d (List.mem_reverse.mp hd)) (by omega), by simp only [tot, totL_rev]; omega⟩
    · exact ⟨up (m := 1) (.tup (n := 0) (by simp) fun d hd => by cases hd) (by omega), by simp only [tot, totL]; omega⟩
    · exact ⟨.non, by simp only [tot]; omega⟩
    · exact ⟨up (.tup (by have := lcut (some 1) none; omega) (gcut _ _)) (by omega), by have := tcut (some 1) none; simp only [tot]; omega⟩
    · refine ⟨up (m := n + 2) (.tup (n := n + 1) (by rw [List.length_append, List.length_singleton]; omega) fun d hd => ?_) (by omega), by simp only [tot, totL_append, totL]; omega⟩
      rcases List.mem_append.mp hd with hd | hd
      · exact (gi d hd).mono (by omega)
      · have : d = .tuple ds := by simpa using hd
        rw [this]
        exact .tup (by omega) gi
    · exact ⟨.int 5, by simp only [tot]; omega⟩
end K02

set_option Elab.async false
set_option linter.all false
set_option maxRecDepth 100000
set_option maxHeartbeats 4000000
namespace K02
open PySem PySem.Spec L2 Pd Hd
theorem odd_str {n : Nat} {s : Str} (h : SOk s) (h2 : s.length ≤ 100) (c : Int) : ∃ y, F__law_odd_by [.str s, .int c] = some y ∧ OddOk n (.str s) y := by
  have k1 : SOk "abcdefgh" := sok_lit _ (by decide +kernel)
  have k2 : SOk " " := sok_lit _ (by decide +kernel)
  have k3 : SOk "\n" := sok_lit _ (by decide +kernel)
  have l1 : ("abcdefgh" : Str).length = 8 := by decide +kernel
  have l2 : (" " : Str).length = 1 := by decide +kernel
  have l3 : ("\n" : Str).length = 1 := by decide +kernel
  have a1 : addD (.str s) (.str "abcdefgh") = some (.str (s ++ "abcdefgh")) := addD_str _ _ (by rw [l1, lim_eq]; omega)
  have a2 : addD (.str s) (.str " ") = some (.str (s ++ " ")) := addD_str _ _ (by rw [l2, lim_eq]; omega)
  have a3 : addD (.str s) (.str "\n") = some (.str (s ++ "\n")) := addD_str _ _ (by rw [l3, lim_eq]; omega)
  have u1 : upperD (.str s) = some (.str (Txt.upper s)) := upperD_eq _ (by omega)
  obtain ⟨y, hy, ey⟩ := at_mem (l := ([.str (s ++ "abcdefgh"), .str (Txt.upper s), .str "", .str (s ++ " "), .none, .str (cutS s (some 1) none), .str "never", .str "one", .str "warden", .str "worker", .int 5, .str "aa", .str (s ++ "\n"), .tuple [.str s]] : List D)) (i := c % 14) (by omega) (by simp only [List.length_cons, List.length_nil]; omega)
  refine ⟨y, ?_, ?_⟩
  · refine F1 rfl ?_
    unfold g__law_odd_by
    simp [a1, a2, a3, u1, oNone, slK3_str _ _ _ h.lim, ey]
  · unfold OddOk
    simp only [List.mem_cons, List.not_mem_nil, or_false] at hy
    have st : ∀ {z : Str}, SOk z → Gd (n + 2) (.str z) ∧ tot (.str z) ≤ 2 * tot (.str s) + 2 := fun hz => ⟨.str hz, by simp only [tot]; omega⟩
    rcases hy with rfl | rfl | rfl | rfl | rfl | rfl | rfl | rfl | rfl | rfl | rfl | rfl | rfl | rfl
    · exact st (h.append k1 (by rw [l1]; omega))
    · exact st (upper_ok h)
    · exact st (sok_lit _ (by decide +kernel))
    · exact st (h.append k2 (by rw [l2]; omega))
    · exact ⟨.non, by simp only [tot]; omega⟩
    · exact st (cut_ok h _ _).1
    · exact st (sok_lit _ (by decide +kernel))
    · exact st (sok_lit _ (by decide +kernel))
    · exact st sokA.2
    · exact st sokA.1
    · exact ⟨.int 5, by simp only [tot]; omega⟩
    · exact st (sok_lit _ (by decide +kernel))
    · exact st (h.append k3 (by rw [l3]; omega))
    · exact ⟨.tup (by simp) fun d hd => by
        have : d = .str s := by simpa using hd
        rw [this]; exact .str h, by simp only [tot, totL]; omega⟩
theorem odd_int {n : Nat} {i : Int} (h0 : 0 ≤ i) (h1 : i < 10 ^ 12) (c : Int) : ∃ y, F__law_odd_by [.int i, .int c] = some y ∧ OddOk n (.int i) y := by
  obtain ⟨z, s1, s2⟩ : ∃ z : Str, strD [.int i] = some (.str z) ∧ SOk z := ⟨_, (num_ok h0 h1).1, (num_ok h0 h1).2⟩
  have q1 : ∃ b, eqD (.int i) (.int 1) = some (.bool b) := ⟨_, rfl⟩
  obtain ⟨b, q1⟩ := q1
  obtain ⟨y, hy, ey⟩ := at_mem (l := ([.int (i - 1), .int (i + 1), .int (i + 1000000000), .int (-1 - i), .bool b, .str z, .none, .int 0, .int 1000000001, .tuple [.int i]] : List D)) (i := c % 10) (by omega) (by simp only [List.length_cons, List.length_nil]; omega)
  refine ⟨y, ?_, ?_⟩
  · refine F1 rfl ?_
    unfold g__law_odd_by
    simp [q1, s1, ey]
  · unfold OddOk
    simp only [List.mem_cons, List.not_mem_nil, or_false] at hy
    rcases hy with rfl | rfl | rfl | rfl | rfl | rfl | rfl | rfl | rfl | rfl
    · exact ⟨.int _, by simp only [tot]; omega⟩
    · exact ⟨.int _, by simp only [tot]; omega⟩
    · exact ⟨.int _, by simp only [tot]; omega⟩
    · exact ⟨.int _, by simp only [tot]; omega⟩
    · exact ⟨.bl _, by simp only [tot]; omega⟩
    · exact ⟨.str s2, by simp only [tot]; omega⟩
    · exact ⟨.non, by simp only [tot]; omega⟩
    · exact ⟨.int _, by simp only [tot]; omega⟩
    · exact ⟨.int _, by simp only [tot]; omega⟩
    · exact ⟨.tup (by simp) fun d hd => by
        have : d = .int i := by simpa using hd
        rw [this]; exact .int i, by simp only [tot, totL]; omega⟩
theorem odd_eq {n : Nat} {x : D} (g : Gp n x) (c : Int) : ∃ y, F__law_odd_by [x, .int c] = some y ∧ OddOk n x y := by
  cases g with
  | int h0 h1 => exact odd_int h0 h1 c
  | str h h2 => exact odd_str h h2 c
  | tup hl h => exact odd_tup hl h c
/-! ### spoilt -/
theorem cut_take {α : Type} (l : List α) (k : Nat) (h : k ≤ l.length) : cutD l none (some (k : Int)) = l.take k := by
  unfold cutD
  rw [HT.sIx_none, HT.sIx_nat, Nat.min_eq_left h]
  rfl
theorem cut_drop {α : Type} (l : List α) (k : Nat) (h : k ≤ l.length) : cutD l (some (k : Int)) none = l.drop k := by
  unfold cutD
  rw [HT.sIx_none, HT.sIx_nat, Nat.min_eq_left h]
  exact List.take_of_length_le (by rw [List.length_drop]; omega)
theorem eqD_deep (k : Nat) : eqD (.int ((k : Nat) : Int)) (.int 0) = some (.bool (decide (k = 0))) := by
  show some (PyData.bool (((k : Nat) : Int) == 0)) = _
  congr 2
  rw [Bool.eq_iff_iff, beq_iff_eq, decide_eq_true_eq]
  omega
theorem spoilt_eq : ∀ (k fuel n : Nat) (x : D) (c : Int), k + 1 ≤ fuel → n ≤ 30 → Gp n x → ∃ y, F__law_spoilt fuel [x, .int c, .int k] = some y ∧ Gd (n + 2) y ∧ tot y ≤ 2 * tot x + 2 := by
  intro k
  induction k with
  | zero =>
    intro fuel n x c hf hn g
    cases fuel with
    | zero => omega
    | succ fuel =>
      obtain ⟨y, ey, hy⟩ := odd_eq g (c / 5)
      refine ⟨y, F1 rfl ?_, hy⟩
      unfold g__law_spoilt
      have e0 : eqD (.int (0 : Int)) (.int 0) = some (.bool true) := rfl
      simp [e0, ey]
  | succ k ih =>
    intro fuel n x c hf hn g
    cases fuel with
    | zero => omega
    | succ fuel =>
      obtain ⟨y, ey, hy⟩ := odd_eq g (c / 5)
      have e0 : eqD (.int ((k : Int) + 1)) (.int 0) = some (.bool false) := by
        have := eqD_deep (k + 1)
        rw [decide_eq_false (by omega)] at this
        exact this
      cases g with
      | int h0 h1 =>
        refine ⟨y, F1 rfl ?_, hy⟩
        unfold g__law_spoilt
        simp [e0, ey]
      | str h h2 =>
        refine ⟨y, F1 rfl ?_, hy⟩
        unfold g__law_spoilt
        simp [e0, ey]
      | tup hl h =>
        rename_i m ds
        have ft : fitD (.tuple ds) = true := fitD_tuple fun d hd => by
          have := (h d hd).gd.fit (by omega)
          exact ⟨this.1, by omega⟩
        have e1 : eqD (.tuple ds) (.tuple []) = some (.bool ds.isEmpty) := by
          rw [eqD_of _ _ ft (show fitD (.tuple []) = true from rfl)]
          cases ds <;> rfl
        by_cases hq : ds = [] ∨ c % 5 = 0
        · refine ⟨y, F1 rfl ?_, hy⟩
          unfold g__law_spoilt
          rcases hq with hq | hq
          · subst hq
            simp [e0, e1, ey]
          · have e2 : eqD (.int (c % 5)) (.int 0) = some (.bool true) := by rw [hq]; rfl
            simp [e0, e1, e2, ey]
        · have hne : ds ≠ [] := fun q => hq (.inl q)
          have hc : ¬ c % 5 = 0 := fun q => hq (.inr q)
          have hpos : 0 < ds.length := List.length_pos_iff.mpr hne
          have q2 : eqD (.int (c % 5)) (.int 0) = some (.bool false) := by
            show some (PyData.bool (c % 5 == 0)) = _
            congr 2
            simpa using hc
          have e3 : ds.isEmpty = false := by cases ds with
            | nil => exact absurd rfl hne
            | cons a b => rfl
          rw [e3] at e1
          have hm : (0 : Int) < (ds.length : Int) := by omega
          have hm2 : (0 : Int) < (ds.length : Int) ∧ (ds.length : Int) < 1073741824 := by omega
          obtain ⟨a, ha, hal⟩ : ∃ a : Nat, c / 5 % (ds.length : Int) = (a : Int) ∧ a < ds.length := by
            have h1 := Int.emod_nonneg (c / 5) (show (ds.length : Int) ≠ 0 by omega)
            have h2 := Int.emod_lt_of_pos (c / 5) hm
            exact ⟨(c / 5 % (ds.length : Int)).toNat, by omega, by omega⟩
          obtain ⟨y', ey', g', t'⟩ := ih fuel m ds[a] (c / 5 / (ds.length : Int)) (by omega) (by omega) (h ds[a] (List.getElem_mem hal))
          have e4 : atI ds (a : Int) = some ds[a] := by rw [atI_n, List.getElem?_eq_getElem hal]
          have e5 : cutD ds none (some (a : Int)) = ds.take a := cut_take ds a (by omega)
          have e6 : cutD ds (some ((a : Int) + 1)) none = ds.drop (a + 1) := cut_drop ds (a + 1) (by omega)
          have e7 : ((k : Int) + 1 - 1) = (k : Int) := by omega
          have lt := List.length_take_le a ds
          have ld : (ds.drop (a + 1)).length = ds.length - (a + 1) := List.length_drop ..
          have e8 : addD (.tuple (ds.take a)) (.tuple [y']) = some (.tuple (ds.take a ++ [y'])) := addD_tuple _ _ (by rw [List.length_singleton, lim_eq]; omega)
          have e9 : addD (.tuple (ds.take a ++ [y'])) (.tuple (ds.drop (a + 1))) = some (.tuple (ds.take a ++ [y'] ++ ds.drop (a + 1))) := addD_tuple _ _ (by rw [List.length_append, List.length_singleton, lim_eq]; omega)
          refine ⟨.tuple (ds.take a ++ [y'] ++ ds.drop (a + 1)), F1 rfl ?_, .tup (n := m + 2) ?_ fun d hd => ?_, ?_⟩
          · unfold g__law_spoilt
            have em : modD (.int (c / 5)) (.int (ds.length : Int)) = some (.int (a : Int)) := by rw [modD_int _ _ hm, ha]
            have ed : divD (.int (c / 5)) (.int (ds.length : Int)) = some (.int (c / 5 / (ds.length : Int))) := divD_int _ _ hm2
            have start : startD 5 [.tuple ds, .int c, .int (((k + 1 : Nat) : Int))] = [.val (.tuple ds), .val (.int c), .val (.int ((k : Int) + 1)), .un, .un] := rfl
            have s0 : gIf (eOr (e2 eqD (eVar 2) (eC (.int 0))) (eOr (eNot (eIs "tuple" (eVar 0))) (eOr (e2 eqD (eVar 0) (eTup aNil)) (e2 eqD (e2 modD (eVar 1) (eC (.int 5))) (eC (.int 0)))))) (gRet (eCall (F__law_odd_by) (aCons (eVar 0) (aCons (e2 divD (eVar 1) (eC (.int 5))) aNil)))) Pd.gNil [.val (.tuple ds), .val (.int c), .val (.int ((k : Int) + 1)), .un, .un] = some (.nx [.val (.tuple ds), .val (.int c), .val (.int ((k : Int) + 1)), .un, .un]) := by
              simp [e0, e1, q2]
            have s1 : gSet 3 (e2 modD (e2 divD (eVar 1) (eC (.int 5))) (eCB lenD (aCons (eVar 0) aNil))) [.val (.tuple ds), .val (.int c), .val (.int ((k : Int) + 1)), .un, .un] = some (.nx [.val (.tuple ds), .val (.int c), .val (.int ((k : Int) + 1)), .val (.int (a : Int)), .un]) := by
              simp [em]
            have s2 : gSet 4 (eCall (F__law_spoilt fuel) (aCons (e2 ixD (eVar 0) (eVar 3)) (aCons (e2 divD (e2 divD (eVar 1) (eC (.int 5))) (eCB lenD (aCons (eVar 0) aNil))) (aCons (e2 subD (eVar 2) (eC (.int 1))) aNil)))) [.val (.tuple ds), .val (.int c), .val (.int ((k : Int) + 1)), .val (.int (a : Int)), .un] = some (.nx [.val (.tuple ds), .val (.int c), .val (.int ((k : Int) + 1)), .val (.int (a : Int)), .val y']) := by
              generalize hδ : [Sl.val (.tuple ds), Sl.val (.int c), Sl.val (.int ((k : Int) + 1)), Sl.val (.int (a : Int)), Sl.un] = δ
              have i1 : e2 ixD (eVar 0) (eVar 3) δ = some ds[a] := by rw [← hδ]; simp [e4]
              have i2 : e2 divD (e2 divD (eVar 1) (eC (.int 5))) (eCB lenD (aCons (eVar 0) aNil)) δ = some (.int (c / 5 / (ds.length : Int))) := by
                have i2a : e2 divD (eVar 1) (eC (.int 5)) δ = some (.int (c / 5)) := by rw [← hδ]; simp
                have i2b : eCB lenD (aCons (eVar 0) aNil) δ = some (.int (ds.length : Int)) := by rw [← hδ]; simp
                rw [e2_eq, i2a, Option.bind_some, e2k_eq, i2b, Option.bind_some]
                exact divD_int _ _ hm2
              have i3 : e2 subD (eVar 2) (eC (.int 1)) δ = some (.int (k : Int)) := by rw [← hδ]; simp
              have i4 : eCall (F__law_spoilt fuel) (aCons (e2 ixD (eVar 0) (eVar 3)) (aCons (e2 divD (e2 divD (eVar 1) (eC (.int 5))) (eCB lenD (aCons (eVar 0) aNil))) (aCons (e2 subD (eVar 2) (eC (.int 1))) aNil))) δ = F__law_spoilt fuel [ds[a], .int (c / 5 / (ds.length : Int)), .int (k : Int)] := by
                rw [eCall_eq, aCons_eq, i1, Option.bind_some, aK_eq, aCons_eq, i2, Option.bind_some, aK_eq, aCons_eq, i3, Option.bind_some, aK_eq, aNil_eq, Option.bind_some, consK_eq, Option.bind_some, consK_eq, Option.bind_some, consK_eq, Option.bind_some]
              rw [gSet_eq, i4, ey', ← hδ]
              rfl
            have s3 : gRet (e2 addD (e2 addD (eSl (eVar 0) oNone (oSome (eVar 3))) (eTup (aCons (eVar 4) aNil))) (eSl (eVar 0) (oSome (e2 addD (eVar 3) (eC (.int 1)))) oNone)) [.val (.tuple ds), .val (.int c), .val (.int ((k : Int) + 1)), .val (.int (a : Int)), .val y'] = some (.rt (.tuple (ds.take a ++ [y'] ++ ds.drop (a + 1)))) := by
              simp [e5, e6, e8, e9, oNone]
            rw [start, gSeq_eq, s0, Option.bind_some, seqK_nx, gSeq_eq, s1, Option.bind_some, seqK_nx, gSeq_eq, s2, Option.bind_some, seqK_nx, s3]
            rfl
          · rw [List.length_append, List.length_append, List.length_singleton]; omega
          · have tk : ∀ z ∈ ds, Gd (m + 2) z := fun z hz => (h z hz).gd.mono (by omega)
            rcases List.mem_append.mp hd with hd | hd
            · rcases List.mem_append.mp hd with hd | hd
              · exact tk d (List.mem_of_mem_take hd)
              · have : d = y' := by simpa using hd
                rw [this]; exact g'
            · exact tk d (List.mem_of_mem_drop hd)
          · have dec : totL ds = totL (ds.take a) + (tot ds[a] + totL (ds.drop (a + 1))) := by
              have e : ds = ds.take a ++ ds[a] :: ds.drop (a + 1) := by rw [← List.drop_eq_getElem_cons hal, List.take_append_drop]
              calc totL ds = totL (ds.take a ++ ds[a] :: ds.drop (a + 1)) := by rw [← e]
                _ = _ := by rw [totL_append]; rfl
            simp only [tot, totL_append, totL]
            omega
end K02

set_option Elab.async false
set_option linter.all false
set_option maxRecDepth 100000
set_option maxHeartbeats 4000000
namespace K02
open PySem PySem.Spec L2 Pd Hd
theorem nm_at {N : List Str} {m : Int} (h : NamesOk N m) {i : Int} (h0 : 0 ≤ i) (h1 : i < m) : ∃ s, atI (SL N) i = some (.str s) ∧ SOk s := by
  have hi : i.toNat < N.length := by have := h.1; omega
  refine ⟨N[i.toNat], atI_of h0 ?_, h.2 _ (List.getElem_mem hi)⟩
  unfold SL
  rw [List.getElem?_map, List.getElem?_eq_getElem hi]
  rfl
theorem rule_at {i : Int} (h0 : 0 ≤ i) (h1 : i < 3) : ∃ s : Str, atI ([.str "one", .str "rest", .str "all"] : List D) i = some (.str s) ∧ SOk s := by
  have : i = 0 ∨ i = 1 ∨ i = 2 := by omega
  rcases this with rfl | rfl | rfl
  · exact ⟨"one", rfl, sok_lit _ (by decide +kernel)⟩
  · exact ⟨"rest", rfl, sok_lit _ (by decide +kernel)⟩
  · exact ⟨"all", rfl, sok_lit _ (by decide +kernel)⟩
theorem gd_worker {n : Nat} {a b : Str} (ha : SOk a) (hb : SOk b) : Gd (n + 1) (.tuple [.str "worker", .str a, .str b]) := .tup (by simp) fun d hd => by
  simp only [List.mem_cons, List.not_mem_nil, or_false] at hd
  rcases hd with rfl | rfl | rfl
  · exact .str sokA.1
  · exact .str ha
  · exact .str hb
theorem gd_warden {n : Nat} {a b : Str} {i j : Int} {ps : List D} (ha : SOk a) (hb : SOk b) (hl : ps.length ≤ 2000) (h : ∀ d ∈ ps, Gd n d) : Gd (n + 2) (.tuple [.str "warden", .str a, .str b, .int i, .int j, .tuple ps]) := .tup (by simp) fun d hd => by
  simp only [List.mem_cons, List.not_mem_nil, or_false] at hd
  rcases hd with rfl | rfl | rfl | rfl | rfl | rfl
  · exact .str sokA.2
  · exact .str ha
  · exact .str hb
  · exact .int _
  · exact .int _
  · exact .tup hl h
theorem chain_eq (c : Int) {N : List Str} (hN : NamesOk N 70) : ∃ y, F__law_chain [.int c, .list (SL N)] = some y ∧ Thing y := by
  let Inv : Nat → List Sl → Prop := fun j δ => ∃ (y : D) (o : Sl), δ = [.val (.int c), .val (.list (SL N)), .val y, o] ∧ Gd (2 * j + 1) y ∧ tot y ≤ 4 + 7 * j
  obtain ⟨s0, e0, h0⟩ := nm_at hN (i := 0) (by omega) (by omega)
  have kn : SOk "never" := sok_lit _ (by decide +kernel)
  have hc : 0 ≤ c % 9 ∧ c % 9 < 9 := by omega
  obtain ⟨δ', e1, y, o, rfl, gy, ty⟩ := forG_inv (i := 3) (body := b__law_chain_1) Inv (rangeD 0 (1 + c % 9).toNat) 0 [.val (.int c), .val (.list (SL N)), .val (.tuple [.str "worker", .str s0, .str "never"]), .un] ⟨_, _, rfl, gd_worker h0 kn, by simp only [tot, totL]; omega⟩ (by
    rintro j d δ hj ⟨y, o, rfl, gy, ty⟩
    have hjl : j < (1 + c % 9).toNat := by
      have := (List.getElem?_eq_some_iff.mp hj).1
      unfold rangeD at this
      simpa using this
    have ed : d = .int (j : Int) := by
      unfold rangeD at hj
      rw [List.getElem?_map, List.getElem?_range hjl] at hj
      have := Option.some.inj hj
      rw [← this]
      simp
    subst ed
    obtain ⟨s1, e1, h1⟩ := nm_at hN (i := 1 + (j : Int)) (by omega) (by omega)
    obtain ⟨s2, e2', h2⟩ := rule_at (i := (j : Int) % 3) (by omega) (by omega)
    refine ⟨_, ?_, .tuple [.str "warden", .str s1, .str s2, .int (c / 9 % 4), .int (1 + c / 36 % 4), .tuple [y]], .val (.int (j : Int)), rfl, ?_, ?_⟩
    · unfold b__law_chain_1
      simp [e1, e2']
    · have := gd_warden (n := 2 * j + 1) (i := c / 9 % 4) (j := 1 + c / 36 % 4) (ps := [y]) h1 h2 (by simp) (fun d hd => by
        have : d = y := by simpa using hd
        rw [this]; exact gy.mono (by omega))
      exact this.mono (by omega)
    · simp only [tot, totL]
      omega)
  rw [Nat.zero_add] at gy ty
  have lr : (rangeD 0 (1 + c % 9).toNat).length = (1 + c % 9).toNat := by unfold rangeD; simp
  rw [lr] at gy ty
  refine ⟨y, F1 rfl ?_, gy.mono (by omega), by omega⟩
  unfold g__law_chain
  simp [e0, r1K_eq _ (show -(2 ^ 62) ≤ 1 + c % 9 ∧ 1 + c % 9 < 2 ^ 62 by omega)]
  rw [e1]
  rfl
end K02

set_option Elab.async false
set_option linter.all false
set_option maxRecDepth 100000
set_option maxHeartbeats 4000000
namespace K02
open PySem PySem.Spec L2 Pd Hd
theorem lc_rangeD {i : Nat} {fe : FE} {δ : List Sl} {m : Nat} (f : Nat → D) (h : ∀ k : Nat, k < m → fe ((δ.set i .un).set i (.val (.int (k : Int)))) = some (f k)) (hm : m ≤ lim) : lcQ i (eC (.bool true)) fe δ (rangeD 0 m) = some (.list ((List.range m).map f)) := by
  rw [lcQ_map (fun d => match d with | .int k => f k.toNat | _ => .none) (fun d hd => ?_) (by unfold rangeD; simpa using hm)]
  · congr 2
    unfold rangeD
    rw [List.map_map]
    apply List.map_congr_left
    intro k _
    show f ((0 : Int) + (k : Nat)).toNat = _
    rw [Int.zero_add, Int.toNat_natCast]
  · obtain ⟨k, hk, rfl⟩ := mem_rangeD hd
    rw [Int.zero_add, h k hk]
    show _ = some (f ((k : Nat) : Int).toNat)
    rw [Int.toNat_natCast]
theorem nm_fn {N : List Str} {m : Int} (h : NamesOk N m) (lo : Int) (k : Nat) (h0 : 0 ≤ lo) (h1 : lo + k ≤ m) : ∃ g : Nat → Str, ∀ j, j < k → atI (SL N) (lo + (j : Int)) = some (.str (g j)) ∧ SOk (g j) := by
  have : ∀ j, ∃ s, j < k → atI (SL N) (lo + (j : Int)) = some (.str s) ∧ SOk s := fun j => by
    by_cases hj : j < k
    · obtain ⟨s, e1, e2⟩ := nm_at h (i := lo + (j : Int)) (by omega) (by omega)
      exact ⟨s, fun _ => ⟨e1, e2⟩⟩
    · exact ⟨⟨#[]⟩, fun q => absurd q hj⟩
  exact ⟨fun j => (this j).choose, fun j hj => (this j).choose_spec hj⟩
theorem totL_const {l : List D} {b : Nat} (h : ∀ d ∈ l, tot d ≤ b) : totL l ≤ b * l.length := by
  induction l with
  | nil => exact Nat.zero_le _
  | cons d r ih =>
    have h1 := h d (List.mem_cons_self ..)
    have h2 := ih fun x hx => h x (List.mem_cons_of_mem _ hx)
    simp only [totL, List.length_cons, Nat.mul_succ]
    omega
theorem wide_body {c sz : Int} {N : List Str} (hN : NamesOk N 70) (hsz : 57 ≤ sz ∧ sz ≤ 64) {j : Nat} (hj : j < 7) {ps : List D} (hl : ps.length = j) (o5 o6 o7 : Sl) :
    ∃ (p : D) (o6' o7' : Sl), b__law_wide_1 [.val (.int c), .val (.list (SL N)), .val (.int sz), .val (.tuple ps), .val (.int (1 + 9 * (j : Int))), .val (.int (j : Int)), o6, o7, .un] = some (.nx [.val (.int c), .val (.list (SL N)), .val (.int sz), .val (.tuple (ps ++ [p])), .val (.int (if j = 6 then 1 + 9 * (j : Int) + 1 + (sz - 56) else 1 + 9 * ((j + 1 : Nat) : Int))), .val (.int (j : Int)), o6', o7', .un]) ∧ Gd 4 p ∧ tot p ≤ 40 := by
  obtain ⟨m, em, hm⟩ : ∃ m : Nat, (m : Int) = (if j = 6 then sz - 56 else 8) ∧ 1 ≤ m ∧ m ≤ 8 := by
    by_cases h6 : j = 6
    · exact ⟨(sz - 56).toNat, by rw [if_pos h6]; omega, by omega⟩
    · exact ⟨8, by rw [if_neg h6]; rfl, by omega⟩
  obtain ⟨g, hg⟩ := nm_fn hN (1 + 9 * (j : Int) + 1) m (by omega) (by omega)
  obtain ⟨s1, e1, h1⟩ := nm_at hN (i := 1 + 9 * (j : Int)) (by omega) (by omega)
  have ka : SOk "always" := sok_lit _ (by decide +kernel)
  have ko : SOk "one" := sok_lit _ (by decide +kernel)
  let ws : List D := (List.range m).map fun k => .tuple [.str "worker", .str (g k), .str "always"]
  have hws : ∀ d ∈ ws, Gd 1 d ∧ tot d ≤ 4 := fun d hd => by
    obtain ⟨k, hk, rfl⟩ := List.mem_map.mp hd
    exact ⟨gd_worker (hg k (List.mem_range.mp hk)).2 ka, by simp only [tot, totL]; omega⟩
  have lw : ws.length = m := by show ((List.range m).map _).length = m; simp
  have el := lc_rangeD (i := 8) (δ := [.val (.int c), .val (.list (SL N)), .val (.int sz), .val (.tuple ps), .val (.int (1 + 9 * (j : Int))), .val (.int (j : Int)), .val (.int (m : Int)), o7, .un]) (fe := eTup (aCons (eC (.str "worker")) (aCons (e2 ixD (eVar 1) (e2 addD (e2 addD (eVar 4) (eC (.int 1))) (eVar 8))) (aCons (eC (.str "always")) aNil)))) (m := m) (fun k => .tuple [.str "worker", .str (g k), .str "always"]) (fun k hk => by simp [(hg k hk).1]) (by rw [lim_eq]; omega)
  have er : -(2 ^ 62) ≤ (m : Int) ∧ (m : Int) < 2 ^ 62 := by omega
  have ea : addD (.tuple ps) (.tuple [.tuple [.str "warden", .str s1, .str "one", .int (j : Int), .int (1 + (j : Int)), .tuple ws]]) = some (.tuple (ps ++ [.tuple [.str "warden", .str s1, .str "one", .int (j : Int), .int (1 + (j : Int)), .tuple ws]])) := addD_tuple _ _ (by rw [List.length_singleton, lim_eq]; omega)
  refine ⟨.tuple [.str "warden", .str s1, .str "one", .int (j : Int), .int (1 + (j : Int)), .tuple ws], .val (.int (m : Int)), .val (.tuple ws), ?_, ?_, ?_⟩
  · have s00 : gSet 6 (eC (.int 8)) [.val (.int c), .val (.list (SL N)), .val (.int sz), .val (.tuple ps), .val (.int (1 + 9 * (j : Int))), .val (.int (j : Int)), o6, o7, .un] = some (.nx [.val (.int c), .val (.list (SL N)), .val (.int sz), .val (.tuple ps), .val (.int (1 + 9 * (j : Int))), .val (.int (j : Int)), .val (.int 8), o7, .un]) := rfl
    have s0 : gIf (e2 eqD (eVar 5) (eC (.int 6))) (gSet 6 (e2 subD (eVar 2) (eC (.int 56)))) Pd.gNil [.val (.int c), .val (.list (SL N)), .val (.int sz), .val (.tuple ps), .val (.int (1 + 9 * (j : Int))), .val (.int (j : Int)), .val (.int 8), o7, .un] = some (.nx [.val (.int c), .val (.list (SL N)), .val (.int sz), .val (.tuple ps), .val (.int (1 + 9 * (j : Int))), .val (.int (j : Int)), .val (.int (m : Int)), o7, .un]) := by
      rw [em]
      by_cases h6 : j = 6
      · subst h6
        have q : eqD (.int ((6 : Nat) : Int)) (.int 6) = some (.bool true) := rfl
        simp
      · have q : eqD (.int (j : Int)) (.int 6) = some (.bool false) := by
          show some (PyData.bool ((j : Int) == 6)) = _
          congr 2
          rw [Bool.eq_false_iff]
          intro z
          have := beq_iff_eq.mp z
          omega
        simp [q, h6]
    have t1 : gSet 7 (eCB tupD (aCons (eLc (iR1 (aCons (eVar 6) aNil)) 8 (eC (.bool true)) (eTup (aCons (eC (.str "worker")) (aCons (e2 ixD (eVar 1) (e2 addD (e2 addD (eVar 4) (eC (.int 1))) (eVar 8))) (aCons (eC (.str "always")) aNil))))) aNil)) [.val (.int c), .val (.list (SL N)), .val (.int sz), .val (.tuple ps), .val (.int (1 + 9 * (j : Int))), .val (.int (j : Int)), .val (.int (m : Int)), o7, .un] = some (.nx [.val (.int c), .val (.list (SL N)), .val (.int sz), .val (.tuple ps), .val (.int (1 + 9 * (j : Int))), .val (.int (j : Int)), .val (.int (m : Int)), .val (.tuple ws), .un]) := by
      have x1 : iR1 (aCons (eVar 6) aNil) [.val (.int c), .val (.list (SL N)), .val (.int sz), .val (.tuple ps), .val (.int (1 + 9 * (j : Int))), .val (.int (j : Int)), .val (.int (m : Int)), o7, .un] = some (rangeD 0 m) := by
        have x0 : aCons (eVar 6) aNil [.val (.int c), .val (.list (SL N)), .val (.int sz), .val (.tuple ps), .val (.int (1 + 9 * (j : Int))), .val (.int (j : Int)), .val (.int (m : Int)), o7, .un] = some [.int (m : Int)] := rfl
        rw [iR1_eq, x0, Option.bind_some, r1K_eq _ er, Int.toNat_natCast]
      rw [gSet_eq, eCB_eq, aCons_eq, eLc_eq, x1, Option.bind_some, el, Option.bind_some, aK_eq, aNil_eq, Option.bind_some, consK_eq, Option.bind_some, tupD_list, Option.bind_some]
      rfl
    have t2 : gSet 3 (e2 addD (eVar 3) (eTup (aCons (eTup (aCons (eC (.str "warden")) (aCons (e2 ixD (eVar 1) (eVar 4)) (aCons (eC (.str "one")) (aCons (eVar 5) (aCons (e2 addD (eC (.int 1)) (eVar 5)) (aCons (eVar 7) aNil))))))) aNil))) [.val (.int c), .val (.list (SL N)), .val (.int sz), .val (.tuple ps), .val (.int (1 + 9 * (j : Int))), .val (.int (j : Int)), .val (.int (m : Int)), .val (.tuple ws), .un] = some (.nx [.val (.int c), .val (.list (SL N)), .val (.int sz), .val (.tuple (ps ++ [.tuple [.str "warden", .str s1, .str "one", .int (j : Int), .int (1 + (j : Int)), .tuple ws]])), .val (.int (1 + 9 * (j : Int))), .val (.int (j : Int)), .val (.int (m : Int)), .val (.tuple ws), .un]) := by
      generalize ws = ws at ea ⊢
      simp [e1, ea]
    have t3 : ∀ p : D, gSet 4 (e2 addD (e2 addD (eVar 4) (eC (.int 1))) (eVar 6)) [.val (.int c), .val (.list (SL N)), .val (.int sz), .val (.tuple (ps ++ [p])), .val (.int (1 + 9 * (j : Int))), .val (.int (j : Int)), .val (.int (m : Int)), .val (.tuple ws), .un] = some (.nx [.val (.int c), .val (.list (SL N)), .val (.int sz), .val (.tuple (ps ++ [p])), .val (.int (if j = 6 then 1 + 9 * (j : Int) + 1 + (sz - 56) else 1 + 9 * ((j + 1 : Nat) : Int))), .val (.int (j : Int)), .val (.int (m : Int)), .val (.tuple ws), .un]) := by
      intro p
      have q : (1 + 9 * (j : Int) + 1 + (m : Int)) = (if j = 6 then 1 + 9 * (j : Int) + 1 + (sz - 56) else 1 + 9 * ((j + 1 : Nat) : Int)) := by
        rw [em]
        split <;> omega
      rw [← q]
      rfl
    unfold b__law_wide_1
    rw [gSeq_eq, s00, Option.bind_some, seqK_nx, gSeq_eq, s0, Option.bind_some, seqK_nx, gSeq_eq, t1, Option.bind_some, seqK_nx, gSeq_eq, t2, Option.bind_some, seqK_nx, t3]
  · exact (gd_warden (n := 1) h1 ko (by omega) fun d hd => (hws d hd).1).mono (by omega)
  · have := totL_const fun d hd => (hws d hd).2
    rw [lw] at this
    simp only [tot, totL]
    omega
theorem wide_eq (c : Int) {N : List Str} (hN : NamesOk N 70) : ∃ y, F__law_wide [.int c, .list (SL N)] = some y ∧ Thing y := by
  have hz : ∃ sz : Int, atI ([.int 60, .int 61, .int 59, .int 60, .int 57, .int 64, .int 62, .int 61] : List D) (c % 8) = some (.int sz) ∧ 57 ≤ sz ∧ sz ≤ 64 := by
    have : c % 8 = 0 ∨ c % 8 = 1 ∨ c % 8 = 2 ∨ c % 8 = 3 ∨ c % 8 = 4 ∨ c % 8 = 5 ∨ c % 8 = 6 ∨ c % 8 = 7 := by omega
    rcases this with h | h | h | h | h | h | h | h <;> rw [h]
    · exact ⟨60, rfl, by omega, by omega⟩
    · exact ⟨61, rfl, by omega, by omega⟩
    · exact ⟨59, rfl, by omega, by omega⟩
    · exact ⟨60, rfl, by omega, by omega⟩
    · exact ⟨57, rfl, by omega, by omega⟩
    · exact ⟨64, rfl, by omega, by omega⟩
    · exact ⟨62, rfl, by omega, by omega⟩
    · exact ⟨61, rfl, by omega, by omega⟩
  obtain ⟨sz, es, hsz⟩ := hz
  obtain ⟨s0, e0, h0⟩ := nm_at hN (i := 0) (by omega) (by omega)
  let Inv : Nat → List Sl → Prop := fun j δ => ∃ (ps : List D) (at_ : Int) (o5 o6 o7 : Sl), δ = [.val (.int c), .val (.list (SL N)), .val (.int sz), .val (.tuple ps), .val (.int at_), o5, o6, o7, .un] ∧ ps.length = j ∧ (∀ p ∈ ps, Gd 4 p ∧ tot p ≤ 40) ∧ (j < 7 → at_ = 1 + 9 * (j : Int))
  obtain ⟨δ', e1, ps, at_, o5, o6, o7, rfl, lp, gp, _⟩ := forG_inv (i := 5) (body := b__law_wide_1) Inv (rangeD 0 7) 0 [.val (.int c), .val (.list (SL N)), .val (.int sz), .val (.tuple []), .val (.int 1), .un, .un, .un, .un] ⟨[], 1, _, _, _, rfl, rfl, fun p hp => (by cases hp), fun _ => rfl⟩ (by
    rintro j d δ hj ⟨ps, at_, o5, o6, o7, rfl, lp, gp, ha⟩
    rw [Nat.zero_add] at lp ha ⊢
    have hjl : j < 7 := by
      have := (List.getElem?_eq_some_iff.mp hj).1
      unfold rangeD at this
      simpa using this
    have ed : d = .int (j : Int) := by
      unfold rangeD at hj
      rw [List.getElem?_map, List.getElem?_range hjl] at hj
      have := Option.some.inj hj
      rw [← this]
      simp
    subst ed
    rw [ha hjl]
    obtain ⟨p, q6, q7, eb, gq, tq⟩ := wide_body (c := c) hN hsz hjl lp o5 o6 o7
    refine ⟨_, eb, ps ++ [p], _, _, _, _, rfl, by rw [List.length_append, List.length_singleton, lp], fun z hz => ?_, fun h7 => ?_⟩
    · rcases List.mem_append.mp hz with hz | hz
      · exact gp z hz
      · have : z = p := by simpa using hz
        rw [this]; exact ⟨gq, tq⟩
    · rw [if_neg (by omega)])
  have lr : (rangeD 0 7).length = 7 := rfl
  rw [lr] at lp
  have ka : SOk "all" := sok_lit _ (by decide +kernel)
  have tp := totL_const fun d hd => (gp d hd).2
  refine ⟨.tuple [.str "warden", .str s0, .str "all", .int 1, .int 5, .tuple ps], F1 rfl ?_, (gd_warden (n := 4) h0 ka (by omega) fun d hd => (gp d hd).1).mono (by omega), ?_⟩
  · have start : startD 9 [.int c, .list (SL N)] = [.val (.int c), .val (.list (SL N)), .un, .un, .un, .un, .un, .un, .un] := rfl
    have t1 : gSet 2 (e2 ixD (eLst (aCons (eC (.int 60)) (aCons (eC (.int 61)) (aCons (eC (.int 59)) (aCons (eC (.int 60)) (aCons (eC (.int 57)) (aCons (eC (.int 64)) (aCons (eC (.int 62)) (aCons (eC (.int 61)) aNil))))))))) (e2 modD (eVar 0) (eC (.int 8)))) [.val (.int c), .val (.list (SL N)), .un, .un, .un, .un, .un, .un, .un] = some (.nx [.val (.int c), .val (.list (SL N)), .val (.int sz), .un, .un, .un, .un, .un, .un]) := by
      simp [es]
    have t2 : gSet 3 (eTup aNil) [.val (.int c), .val (.list (SL N)), .val (.int sz), .un, .un, .un, .un, .un, .un] = some (.nx [.val (.int c), .val (.list (SL N)), .val (.int sz), .val (.tuple []), .un, .un, .un, .un, .un]) := rfl
    have t3 : gSet 4 (eC (.int 1)) [.val (.int c), .val (.list (SL N)), .val (.int sz), .val (.tuple []), .un, .un, .un, .un, .un] = some (.nx [.val (.int c), .val (.list (SL N)), .val (.int sz), .val (.tuple []), .val (.int 1), .un, .un, .un, .un]) := rfl
    have t4 : gFor (iR1 (aCons (eC (.int 7)) aNil)) 5 b__law_wide_1 [.val (.int c), .val (.list (SL N)), .val (.int sz), .val (.tuple []), .val (.int 1), .un, .un, .un, .un] = some (.nx [.val (.int c), .val (.list (SL N)), .val (.int sz), .val (.tuple ps), .val (.int at_), o5, o6, o7, .un]) := by
      have x0 : aCons (eC (.int 7)) aNil [.val (.int c), .val (.list (SL N)), .val (.int sz), .val (.tuple []), .val (.int 1), .un, .un, .un, .un] = some [.int 7] := rfl
      have x1 : iR1 (aCons (eC (.int 7)) aNil) [.val (.int c), .val (.list (SL N)), .val (.int sz), .val (.tuple []), .val (.int 1), .un, .un, .un, .un] = some (rangeD 0 7) := by
        rw [iR1_eq, x0, Option.bind_some, r1K_eq _ (show -(2 ^ 62) ≤ (7 : Int) ∧ (7 : Int) < 2 ^ 62 by omega)]
        rfl
      unfold gFor
      rw [x1, Option.bind_some]
      exact e1
    unfold g__law_wide
    rw [start, gSeq_eq, t1, Option.bind_some, seqK_nx, gSeq_eq, t2, Option.bind_some, seqK_nx, gSeq_eq, t3, Option.bind_some, seqK_nx, gSeq_eq, t4, Option.bind_some, seqK_nx]
    simp [e0]
  · rw [lp] at tp
    simp only [tot, totL]
    omega
end K02

set_option Elab.async false
set_option linter.all false
set_option maxRecDepth 100000
set_option maxHeartbeats 4000000
namespace K02
open PySem PySem.Spec L2 Pd Hd
def g_head (t : GS) : GS :=
    (gSeq (gSet 1 (eCall (F__law_cell_at) (aCons (eVar 0) (aCons (eC (.int 2)) aNil))))
    (gSeq (gSet 2 (e2 addD (eCall (F__law_cell_at) (aCons (eVar 0) (aCons (eC (.int 13)) aNil))) (eCall (F__law_cell_at) (aCons (eVar 0) (aCons (eC (.int 3)) aNil)))))
    (gSeq (gSet 3 (eCall (F__law_names) (aCons (eCall (F__law_cell_at) (aCons (eVar 0) (aCons (eC (.int 1)) aNil))) (aCons (eC (.int 70)) aNil))))
    (gSeq (gSet 4 (e2 getD (eCall (F__law_house) (aCons (eVar 0) aNil)) (eC (.str "plan"))))
    (gSeq (gIf (eOr (e2 eqD (e2 modD (eVar 1) (eC (.int 6))) (eC (.int 1))) (e2 eqD (e2 modD (eVar 1) (eC (.int 6))) (eC (.int 2)))) (gSet 4 (eCall (F__law_spoilt 10) (aCons (eVar 4) (aCons (eVar 2) (aCons (eC (.int 8)) aNil))))) gNil)
    (gSeq (gIf (e2 eqD (e2 modD (eVar 1) (eC (.int 6))) (eC (.int 3))) (gSet 4 (eCall (F__law_wide) (aCons (e2 divD (eVar 1) (eC (.int 6))) (aCons (eVar 3) aNil)))) gNil)
    (gSeq (gIf (e2 eqD (e2 modD (eVar 1) (eC (.int 6))) (eC (.int 4))) (gSet 4 (eCall (F__law_chain) (aCons (e2 divD (eVar 1) (eC (.int 6))) (aCons (eVar 3) aNil)))) gNil)
    (gSeq (gIf (e2 eqD (e2 modD (eVar 1) (eC (.int 6))) (eC (.int 5))) (gSet 4 (eCall (F__law_twice) (aCons (eVar 4) (aCons (eVar 2) aNil)))) gNil)
    t))))))))
theorem g_law_eq : g_law = g_head g_tail := rfl
/-- what the house has to give -/
def HouseOk (ns : List Int) : Prop := ∃ plan d : D, F__law_house [.list (ns.map PyData.int)] = some d ∧ getD d (.str "plan") = some plan ∧ Gp 30 plan ∧ tot plan < 490 ∧ ∀ c : Int, ∃ y, F__law_twice [plan, .int c] = some y ∧ Thing y
theorem law_true_of (ns : List Int) (h : HouseOk ns) : F_law [.list (ns.map PyData.int)] = some (.bool true) := by
  obtain ⟨plan, d, e1, e2', gp, tp, tw⟩ := h
  generalize hc : cellZ ns 2 = c
  generalize hm : cellZ ns 13 + cellZ ns 3 = more
  obtain ⟨N, en, hN⟩ := law_names_eq (cellZ ns 1) 70 (by omega) (by omega)
  obtain ⟨y1, s1, s2, s3⟩ := spoilt_eq 8 10 30 plan more (by omega) (by omega) gp
  have ty1 : Thing y1 := ⟨s2.mono (by omega), by omega⟩
  obtain ⟨y3, w1, ty3⟩ := wide_eq (c / 6) hN
  obtain ⟨y4, c1, ty4⟩ := chain_eq (c / 6) hN
  obtain ⟨y5, t1, ty5⟩ := tw more
  have ty0 : Thing plan := ⟨gp.gd.mono (by omega), by omega⟩
  have q1 := cell_eq' ns 1 (by omega)
  have q2 := cell_eq' ns 2 (by omega)
  have q3 := cell_eq' ns 3 (by omega)
  have q13 := cell_eq' ns 13 (by omega)
  have r2 : F__law_cell_at [.list (ns.map PyData.int), .int 2] = some (.int c) := by rw [q2]; exact congrArg _ (congrArg _ hc)
  have r1 : F__law_cell_at [.list (ns.map PyData.int), .int 1] = some (.int (cellZ ns 1)) := q1
  have r3 : F__law_cell_at [.list (ns.map PyData.int), .int 3] = some (.int (cellZ ns 3)) := q3
  have r13 : F__law_cell_at [.list (ns.map PyData.int), .int 13] = some (.int (cellZ ns 13)) := q13
  have s1' : F__law_spoilt 10 [plan, .int more, .int 8] = some y1 := s1
  refine F1 rfl ?_
  rw [g_law_eq]
  have tl : ∀ {x : D} (t : Thing x) (a b c d : Sl), g_tail [a, b, c, d, .val x, .un, .un, .un] = some (.rt (.bool true)) := fun t a b c d => tail_ok t a b c d
  generalize g_tail = G at tl ⊢
  generalize ns.map PyData.int = sc at *
  unfold g_head
  have hr : c % 6 = 0 ∨ c % 6 = 1 ∨ c % 6 = 2 ∨ c % 6 = 3 ∨ c % 6 = 4 ∨ c % 6 = 5 := by omega
  rcases hr with h | h | h | h | h | h
  · simp [r1, r2, r3, r13, hm, en, e1, e2', h, tl ty0]
  · simp [r1, r2, r3, r13, hm, en, e1, e2', h, s1', tl ty1]
  · simp [r1, r2, r3, r13, hm, en, e1, e2', h, s1', tl ty1]
  · simp [r1, r2, r3, r13, hm, en, e1, e2', h, w1, tl ty3]
  · simp [r1, r2, r3, r13, hm, en, e1, e2', h, c1, tl ty4]
  · simp [r1, r2, r3, r13, hm, en, e1, e2', h, t1, tl ty5]
end K02

set_option Elab.async false
set_option linter.all false
set_option maxRecDepth 100000
set_option maxHeartbeats 4000000
namespace K02
open PySem PySem.Spec L2 Pd Hd
theorem mod_at (q : Int) {n : Nat} (h : 0 < n) : ∃ a : Nat, q % (n : Int) = (a : Int) ∧ a < n := by
  have h1 := Int.emod_nonneg q (show (n : Int) ≠ 0 by omega)
  have h2 := Int.emod_lt_of_pos q (show (0 : Int) < (n : Int) by omega)
  exact ⟨(q % (n : Int)).toNat, by omega, by omega⟩
theorem e2_of {g : D → D → Option D} {fa fb : FE} {δ : List Sl} {u v : D} (h1 : fa δ = some u) (h2 : fb δ = some v) : e2 g fa fb δ = g u v := by
  rw [e2_eq, h1, Option.bind_some, e2k_eq, h2]
  rfl
theorem eSl_of {fa : FE} {fl fh : FO} {δ : List Sl} {ds : List D} {lo hi : Option Int} (h1 : fa δ = some (.tuple ds)) (h2 : fl δ = some lo) (h3 : fh δ = some hi) : eSl fa fl fh δ = some (.tuple (cutD ds lo hi)) := by
  rw [eSl_eq, h1, Option.bind_some, slK1_eq, h2, Option.bind_some, slK2_eq, h3, Option.bind_some, slK3_tup]
theorem eTup1_of {f : FE} {δ : List Sl} {u : D} (h : f δ = some u) : eTup (aCons f aNil) δ = some (.tuple [u]) := by
  rw [eTup_eq, aCons_eq, h]
  rfl
theorem gSet_of {i : Nat} {f : FE} {δ : List Sl} {u : D} (h : f δ = some u) : gSet i f δ = some (.nx (δ.set i (.val u))) := by
  rw [gSet_eq, h]
  rfl
theorem gSeq_of {g g' : GS} {δ δ' : List Sl} (h : g δ = some (.nx δ')) : gSeq g g' δ = g' δ' := by
  rw [gSeq_eq, h, Option.bind_some, seqK_nx]
theorem twice_eq {x : D} (g : Gp 30 x) (ht : tot x < 490) (hq : partQ 7 x = true) (hw : wardB x = true) (c : Int) : ∃ y, F__law_twice [x, .int c] = some y ∧ Thing y := by
  obtain ⟨w, rest, e, hx, hb, ew, hp⟩ := part_shape g.gd (partQ_w hq)
  obtain ⟨p2, p3, p4, er⟩ := hp hw
  have hl := ward_parts hw
  have ea := all_names_eq g.gd (by omega) hq (Nat.lt_of_le_of_lt (pre_tot 7 x) (by omega))
  have ok := fun s hs => (preQ_ok 7 g.gd hq s hs).1
  have hpos : 0 < (preQ 7 x).length := by
    have : preQ 7 x = nmT x :: (partsT x).flatMap (preQ 6) := rfl
    rw [this, List.length_cons]
    omega
  obtain ⟨i, ei, hi⟩ := mod_at c hpos
  obtain ⟨a, eat, ha⟩ := mod_at (c / 60) (show 0 < (partsT x).length by omega)
  have hN : NamesOk (preQ 7 x) (preQ 7 x).length := ⟨rfl, ok⟩
  obtain ⟨s, es, hs⟩ := nm_at hN (i := (i : Int)) (by omega) (by omega)
  -- the part that is changed
  have hk : partQ 6 (partsT x)[a] = true := by
    rw [partQ_succ (partQ_w hq), List.all_eq_true] at hq
    exact hq _ (List.getElem_mem ha)
  have gk : Gd 30 (partsT x)[a] := partsT_gd g.gd _ (List.getElem_mem ha)
  obtain ⟨w', rest', e', hx', hb', ew', hp'⟩ := part_shape gk (partQ_w hk)
  have e4 : atI (partsT x) (a : Int) = some (partsT x)[a] := by rw [atI_n, List.getElem?_eq_getElem ha]
  generalize hk2 : (partsT x)[a] = k at *
  generalize hps : partsT x = ps at *
  generalize preQ 7 x = Nm at *
  have e5 : cutD ps none (some (a : Int)) = ps.take a := cut_take ps a (by omega)
  have e6 : cutD ps (some ((a : Int) + 1)) none = ps.drop (a + 1) := cut_drop ps (a + 1) (by omega)
  have lt := List.length_take_le a ps
  have ld : (ps.drop (a + 1)).length = ps.length - (a + 1) := List.length_drop ..
  subst er
  let l : List D := .str w' :: .str (nmT k) :: rest'
  have hl2 : l.length ≤ 2000 := by
    have := (show Gd 30 (.tuple l) from e' ▸ gk).items.1
    exact this
  have c1 : cutD l none (some 1) = [.str w'] := cut_take l 1 (by show 1 ≤ (_ :: _ :: rest').length; simp)
  have c2 : cutD l (some 2) none = rest' := cut_drop l 2 (by show 2 ≤ (_ :: _ :: rest').length; simp)
  let k' : D := .tuple ([.str w'] ++ [.str s] ++ rest')
  have hl3 : rest'.length + 2 ≤ 2000 := hl2
  let ls : List D := [.str w, .str (nmT x), p2, p3, p4, .tuple ps]
  let y : D := .tuple ([.str w, .str (nmT x), p2, p3, p4] ++ [.tuple (ps.take a ++ [k'] ++ ps.drop (a + 1))])
  have ex : x = .tuple ls := e
  let δ2 : List Sl := [.val x, .val (.int c), .val (.list (SL Nm)), .un, .un, .un, .un]
  let δ3 : List Sl := [.val x, .val (.int c), .val (.list (SL Nm)), .val (.str s), .un, .un, .un]
  let δ4 : List Sl := [.val x, .val (.int c), .val (.list (SL Nm)), .val (.str s), .val (.tuple ps), .un, .un]
  let δ5 : List Sl := [.val x, .val (.int c), .val (.list (SL Nm)), .val (.str s), .val (.tuple ps), .val (.int (a : Int)), .un]
  let δ6 : List Sl := [.val x, .val (.int c), .val (.list (SL Nm)), .val (.str s), .val (.tuple ps), .val (.int (a : Int)), .val k']
  have t1 : gSet 2 (eCall (F__law_all_names) (aCons (eVar 0) aNil)) [.val x, .val (.int c), .un, .un, .un, .un, .un] = some (.nx δ2) := gSet_of (u := .list (SL Nm)) (show F__law_all_names [x] = _ from ea)
  have hm1 : (0 : Int) < (Nm.length : Int) := by omega
  have lenN : lenD [.list (SL Nm)] = some (.int (Nm.length : Int)) := by rw [lenD_list, SL_len]
  have t2 : gSet 3 (e2 ixD (eVar 2) (e2 modD (eVar 1) (eCB lenD (aCons (eVar 2) aNil)))) δ2 = some (.nx δ3) := gSet_of (u := .str s) (by
    have m1 : e2 modD (eVar 1) (eCB lenD (aCons (eVar 2) aNil)) δ2 = some (.int (i : Int)) := by
      rw [e2_of (u := .int c) (v := .int (Nm.length : Int)) rfl (show lenD [.list (SL Nm)] = _ from lenN), modD_int _ _ hm1, ei]
    rw [e2_of (u := .list (SL Nm)) (v := .int (i : Int)) rfl m1, ixD_list, es])
  have t3 : gSet 4 (e2 ixD (eVar 0) (eC (.int 5))) δ3 = some (.nx δ4) := gSet_of (u := .tuple ps) (by
    rw [e2_of (u := x) (v := .int 5) rfl rfl, ex]
    rfl)
  have hm2 : (0 : Int) < (ps.length : Int) := by omega
  have lenP : lenD [.tuple ps] = some (.int (ps.length : Int)) := rfl
  have t4 : gSet 5 (e2 modD (e2 divD (eVar 1) (eC (.int 60))) (eCB lenD (aCons (eVar 4) aNil))) δ4 = some (.nx δ5) := gSet_of (u := .int (a : Int)) (by
    have d1 : e2 divD (eVar 1) (eC (.int 60)) δ4 = some (.int (c / 60)) := by
      rw [e2_of (u := .int c) (v := .int 60) rfl rfl, divD_int _ _ (by omega)]
    rw [e2_of (v := .int (ps.length : Int)) d1 (show lenD [.tuple ps] = _ from lenP), modD_int _ _ hm2, eat])
  have ik : e2 ixD (eVar 4) (eVar 5) δ5 = some (.tuple l) := by
    rw [e2_of (u := .tuple ps) (v := .int (a : Int)) rfl rfl, ixD_tuple, e4, e']
  have t5 : gSet 6 (e2 addD (e2 addD (eSl (e2 ixD (eVar 4) (eVar 5)) oNone (oSome (eC (.int 1)))) (eTup (aCons (eVar 3) aNil))) (eSl (e2 ixD (eVar 4) (eVar 5)) (oSome (eC (.int 2))) oNone)) δ5 = some (.nx δ6) := gSet_of (u := k') (by
    have a1 : eSl (e2 ixD (eVar 4) (eVar 5)) oNone (oSome (eC (.int 1))) δ5 = some (.tuple [.str w']) := by rw [eSl_of ik rfl rfl, c1]
    have a2 : eTup (aCons (eVar 3) aNil) δ5 = some (.tuple [.str s]) := eTup1_of rfl
    have a3 : eSl (e2 ixD (eVar 4) (eVar 5)) (oSome (eC (.int 2))) oNone δ5 = some (.tuple rest') := by rw [eSl_of ik rfl rfl, c2]
    have a4 : e2 addD (eSl (e2 ixD (eVar 4) (eVar 5)) oNone (oSome (eC (.int 1)))) (eTup (aCons (eVar 3) aNil)) δ5 = some (.tuple ([.str w'] ++ [.str s])) := by
      rw [e2_of a1 a2]; exact addD_tuple _ _ (by rw [lim_eq]; simp)
    rw [e2_of a4 a3]
    exact addD_tuple _ _ (by rw [lim_eq, List.length_append, List.length_singleton, List.length_singleton]; omega))
  have t6 : gRet (e2 addD (eSl (eVar 0) oNone (oSome (eC (.int 5)))) (eTup (aCons (e2 addD (e2 addD (eSl (eVar 4) oNone (oSome (eVar 5))) (eTup (aCons (eVar 6) aNil))) (eSl (eVar 4) (oSome (e2 addD (eVar 5) (eC (.int 1)))) oNone)) aNil))) δ6 = some (.rt y) := by
    have b1 : eSl (eVar 0) oNone (oSome (eC (.int 5))) δ6 = some (.tuple [.str w, .str (nmT x), p2, p3, p4]) := by
      rw [eSl_of (ds := ls) (show some x = _ by rw [ex]) rfl rfl, show cutD ls none (some 5) = ls.take 5 from cut_take ls 5 (by show 5 ≤ 6; omega)]
      rfl
    have b2 : eSl (eVar 4) oNone (oSome (eVar 5)) δ6 = some (.tuple (ps.take a)) := by rw [eSl_of (ds := ps) rfl rfl rfl, e5]
    have b3 : eTup (aCons (eVar 6) aNil) δ6 = some (.tuple [k']) := eTup1_of rfl
    have b4 : e2 addD (eSl (eVar 4) oNone (oSome (eVar 5))) (eTup (aCons (eVar 6) aNil)) δ6 = some (.tuple (ps.take a ++ [k'])) := by
      rw [e2_of b2 b3]; exact addD_tuple _ _ (by rw [lim_eq, List.length_singleton]; omega)
    have b5 : eSl (eVar 4) (oSome (e2 addD (eVar 5) (eC (.int 1)))) oNone δ6 = some (.tuple (ps.drop (a + 1))) := by rw [eSl_of (ds := ps) (lo := some ((a : Int) + 1)) rfl rfl rfl, e6]
    have b6 := e2_of (g := addD) b4 b5
    rw [addD_tuple _ _ (by rw [lim_eq, List.length_append, List.length_singleton]; omega)] at b6
    have b7 := eTup1_of b6
    have b8 := e2_of (g := addD) b1 b7
    rw [addD_tuple _ _ (by rw [lim_eq]; simp)] at b8
    unfold gRet
    rw [b8]
    rfl
  refine ⟨y, F1 rfl ?_, ?_⟩
  · have start : startD 7 [x, .int c] = [.val x, .val (.int c), .un, .un, .un, .un, .un] := rfl
    unfold g__law_twice
    rw [start, gSeq_of t1, gSeq_of t2, gSeq_of t3, gSeq_of t4, gSeq_of t5, t6]
    rfl
  · have gi := (show Gd 30 (.tuple ls) from ex ▸ g.gd).items.2
    have gl := (show Gd 30 (.tuple l) from e' ▸ gk).items.2
    have gps : ∀ d ∈ ps, Gd 30 d := fun d hd => partsT_gd g.gd d (by rw [hps]; exact hd)
    have gk' : Gd 31 k' := .tup (by rw [List.length_append, List.length_append, List.length_singleton, List.length_singleton]; omega) fun d hd => by
      rcases List.mem_append.mp hd with hd | hd
      · rcases List.mem_append.mp hd with hd | hd
        · have : d = .str w' := by simpa using hd
          rw [this]; exact gl _ (List.mem_cons_self ..)
        · have : d = .str s := by simpa using hd
          rw [this]; exact .str hs
      · exact gl d (List.mem_cons_of_mem _ (List.mem_cons_of_mem _ hd))
    have gin : Gd 32 (.tuple (ps.take a ++ [k'] ++ ps.drop (a + 1))) := .tup (by rw [List.length_append, List.length_append, List.length_singleton]; omega) fun d hd => by
      rcases List.mem_append.mp hd with hd | hd
      · rcases List.mem_append.mp hd with hd | hd
        · exact (gps d (List.mem_of_mem_take hd)).mono (by omega)
        · have : d = k' := by simpa using hd
          rw [this]; exact gk'
      · exact (gps d (List.mem_of_mem_drop hd)).mono (by omega)
    have gy : Gd 33 y := .tup (by simp) fun d hd => by
      rcases List.mem_append.mp hd with hd | hd
      · have : d ∈ ls := by
          simp only [List.mem_cons, List.not_mem_nil, or_false] at hd
          show d ∈ [_, _, _, _, _, _]
          simp only [List.mem_cons, List.not_mem_nil, or_false]
          rcases hd with h | h | h | h | h
          · exact .inl h
          · exact .inr (.inl h)
          · exact .inr (.inr (.inl h))
          · exact .inr (.inr (.inr (.inl h)))
          · exact .inr (.inr (.inr (.inr (.inl h))))
        exact (gi d this).mono (by omega)
      · have : d = .tuple (ps.take a ++ [k'] ++ ps.drop (a + 1)) := by simpa using hd
        rw [this]; exact gin
    refine ⟨gy.mono (by omega), ?_⟩
    have dec : totL ps = totL (ps.take a) + (tot k + totL (ps.drop (a + 1))) := by
      have e0 : ps = ps.take a ++ k :: ps.drop (a + 1) := by rw [← hk2, ← List.drop_eq_getElem_cons ha, List.take_append_drop]
      calc totL ps = totL (ps.take a ++ k :: ps.drop (a + 1)) := by rw [← e0]
        _ = _ := by rw [totL_append]; rfl
    have tk : tot k = totL rest' + 3 := by
      have : tot k = tot (.tuple l) := congrArg tot e'
      rw [this]
      show tot (.tuple (.str w' :: .str (nmT k) :: rest')) = _
      simp only [tot, totL]
      omega
    have tk' : tot k' = totL rest' + 3 := by
      show tot (.tuple ([.str w'] ++ [.str s] ++ rest')) = _
      simp only [tot, totL_append, totL]
      omega
    have tx : tot x = 2 + tot p2 + tot p3 + tot p4 + (totL ps + 1) + 1 := by
      have : tot x = tot (.tuple ls) := congrArg tot ex
      rw [this]
      show tot (.tuple [.str w, .str (nmT x), p2, p3, p4, .tuple ps]) = _
      simp only [tot, totL]
      omega
    show tot (.tuple ([.str w, .str (nmT x), p2, p3, p4] ++ [.tuple (ps.take a ++ [k'] ++ ps.drop (a + 1))])) < 1000
    simp only [tot, totL_append, totL]
    omega
end K02

set_option Elab.async false
set_option linter.all false
set_option maxRecDepth 100000
set_option maxHeartbeats 4000000
/-! The tree of nodes that a script tells: how it grows, what it keeps. -/
namespace Hall
open PySem PySem.Spec L2 Pd Hd
structure Nd where
  up : Int
  wd : Bool
  deep : Int
  inner : List Nat
  cell : Int
/-- a node more, beneath u -/
def kid (nds : List Nd) (u : Nat) (n : Nd) (w : Bool) (c : Int) : List Nd :=
  nds.set u { n with inner := n.inner ++ [nds.length] } ++ [⟨u, w, n.deep + 1, [], c⟩]
structure NOk (nds : List Nd) : Prop where
  top : ∃ n, nds[0]? = some n ∧ n.wd = true ∧ n.up = -1 ∧ n.deep = 1
  kid : ∀ (k : Nat) (n : Nd) (j : Nat), nds[k]? = some n → j ∈ n.inner → k < j ∧ ∃ m, nds[j]? = some m ∧ m.up = k ∧ m.deep = n.deep + 1
  par : ∀ (j : Nat) (m : Nd), 0 < j → nds[j]? = some m → ∃ (k : Nat) (n : Nd), nds[k]? = some n ∧ m.up = k ∧ j ∈ n.inner
  inc : ∀ (k : Nat) (n : Nd), nds[k]? = some n → n.inner.Pairwise (· < ·)
  wd : ∀ (k : Nat) (n : Nd), nds[k]? = some n → n.inner ≠ [] → n.wd = true
  few : ∀ (k : Nat) (n : Nd), nds[k]? = some n → n.inner.length ≤ 8
  deep : ∀ (k : Nat) (n : Nd), nds[k]? = some n → 1 ≤ n.deep ∧ (n.wd = true → n.deep ≤ 6) ∧ n.deep ≤ 7
theorem kid_len (nds : List Nd) (u : Nat) (n : Nd) (w : Bool) (c : Int) : (kid nds u n w c).length = nds.length + 1 := by
  unfold kid
  rw [List.length_append, List.length_set]
  rfl
theorem kid_at {nds : List Nd} {u : Nat} {n : Nd} {w : Bool} {c : Int} (hu : nds[u]? = some n) (k : Nat) (m : Nd) : (kid nds u n w c)[k]? = some m ↔ (k = u ∧ m = { n with inner := n.inner ++ [nds.length] }) ∨ (k ≠ u ∧ k < nds.length ∧ nds[k]? = some m) ∨ (k = nds.length ∧ m = ⟨u, w, n.deep + 1, [], c⟩) := by
  have hl : u < nds.length := (List.getElem?_eq_some_iff.mp hu).1
  unfold kid
  by_cases h1 : k < nds.length
  · rw [List.getElem?_append_left (by rw [List.length_set]; exact h1)]
    by_cases h2 : k = u
    · subst h2
      rw [List.getElem?_set_self hl]
      constructor
      · intro e; cases e; exact .inl ⟨rfl, rfl⟩
      · rintro (⟨_, rfl⟩ | ⟨h, _⟩ | ⟨h, _⟩)
        · rfl
        · exact absurd rfl h
        · omega
    · rw [List.getElem?_set_ne (Ne.symm h2)]
      constructor
      · intro e; exact .inr (.inl ⟨h2, h1, e⟩)
      · rintro (⟨h, _⟩ | ⟨_, _, e⟩ | ⟨h, _⟩)
        · exact absurd h h2
        · exact e
        · omega
  · rw [List.getElem?_append_right (by rw [List.length_set]; omega), List.length_set]
    constructor
    · intro e
      have hk : k - nds.length = 0 := by
        have := (List.getElem?_eq_some_iff.mp e).1
        simp at this
        omega
      rw [hk] at e
      cases e
      exact .inr (.inr ⟨by omega, rfl⟩)
    · rintro (⟨h, _⟩ | ⟨_, h, _⟩ | ⟨h, rfl⟩)
      · omega
      · exact absurd h h1
      · subst h
        rw [Nat.sub_self]
        rfl
theorem NOk.kid' {nds : List Nd} (o : NOk nds) {u : Nat} {n : Nd} {w : Bool} {c : Int} (hu : nds[u]? = some n) (hw : n.wd = true) (h8 : n.inner.length < 8) (hd : w = true → n.deep < 6) : NOk (Hall.kid nds u n w c) := by
  have hl : u < nds.length := (List.getElem?_eq_some_iff.mp hu).1
  have old : ∀ (j : Nat) (m : Nd), nds[j]? = some m → ∃ m', (Hall.kid nds u n w c)[j]? = some m' ∧ m'.up = m.up ∧ m'.deep = m.deep ∧ m'.wd = m.wd ∧ (∀ i ∈ m.inner, i ∈ m'.inner) := fun j m hm => by
    by_cases h : j = u
    · subst h
      rw [hu] at hm
      cases hm
      exact ⟨_, (kid_at hu j _).mpr (.inl ⟨rfl, rfl⟩), rfl, rfl, rfl, fun i hi => List.mem_append_left _ hi⟩
    · exact ⟨m, (kid_at hu j m).mpr (.inr (.inl ⟨h, (List.getElem?_eq_some_iff.mp hm).1, hm⟩)), rfl, rfl, rfl, fun i hi => hi⟩
  have lt : ∀ (k : Nat) (m : Nd) (j : Nat), nds[k]? = some m → j ∈ m.inner → j < nds.length := fun k m j hm hj => by
    obtain ⟨_, m', e, _⟩ := o.kid k m j hm hj
    exact (List.getElem?_eq_some_iff.mp e).1
  refine ⟨?_, fun k m j hm hj => ?_, fun j m hj hm => ?_, fun k m hm => ?_, fun k m hm hi => ?_, fun k m hm => ?_, fun k m hm => ?_⟩
  · obtain ⟨t, h1, h2, h3, h4⟩ := o.top
    obtain ⟨t', g1, g2, g3, g4, _⟩ := old 0 t h1
    exact ⟨t', g1, g4.trans h2, g2.trans h3, g3.trans h4⟩
  · rcases (kid_at hu k m).mp hm with ⟨rfl, rfl⟩ | ⟨h1, h2, h3⟩ | ⟨rfl, rfl⟩
    · rcases List.mem_append.mp hj with hj | hj
      · obtain ⟨g1, m', g2, g3, g4⟩ := o.kid k n j hu hj
        obtain ⟨m2, e1, e2, e3, _⟩ := old j m' g2
        exact ⟨g1, m2, e1, e2.trans g3, e3.trans g4⟩
      · have : j = nds.length := by simpa using hj
        subst this
        exact ⟨hl, _, (kid_at hu _ _).mpr (.inr (.inr ⟨rfl, rfl⟩)), rfl, rfl⟩
    · obtain ⟨g1, m', g2, g3, g4⟩ := o.kid k m j h3 hj
      obtain ⟨m2, e1, e2, e3, _⟩ := old j m' g2
      exact ⟨g1, m2, e1, e2.trans g3, e3.trans g4⟩
    · cases hj
  · rcases (kid_at hu j m).mp hm with ⟨rfl, rfl⟩ | ⟨h1, h2, h3⟩ | ⟨rfl, rfl⟩
    · obtain ⟨k, q, g1, g2, g3⟩ := o.par j n hj hu
      obtain ⟨q', e1, _, _, _, e5⟩ := old k q g1
      exact ⟨k, q', e1, g2, e5 _ g3⟩
    · obtain ⟨k, q, g1, g2, g3⟩ := o.par j m hj h3
      obtain ⟨q', e1, _, _, _, e5⟩ := old k q g1
      exact ⟨k, q', e1, g2, e5 _ g3⟩
    · exact ⟨u, _, (kid_at hu _ _).mpr (.inl ⟨rfl, rfl⟩), rfl, List.mem_append_right _ (List.mem_singleton.mpr rfl)⟩
  · rcases (kid_at hu k m).mp hm with ⟨rfl, rfl⟩ | ⟨h1, h2, h3⟩ | ⟨rfl, rfl⟩
    · refine List.pairwise_append.mpr ⟨o.inc k n hu, List.pairwise_singleton _ _, fun a ha b hb => ?_⟩
      have : b = nds.length := by simpa using hb
      subst this
      exact lt k n a hu ha
    · exact o.inc k m h3
    · exact List.Pairwise.nil
  · rcases (kid_at hu k m).mp hm with ⟨rfl, rfl⟩ | ⟨h1, h2, h3⟩ | ⟨rfl, rfl⟩
    · exact hw
    · exact o.wd k m h3 hi
    · exact absurd rfl hi
  · rcases (kid_at hu k m).mp hm with ⟨rfl, rfl⟩ | ⟨h1, h2, h3⟩ | ⟨rfl, rfl⟩
    · show (n.inner ++ [nds.length]).length ≤ 8
      rw [List.length_append, List.length_singleton]
      omega
    · exact o.few k m h3
    · exact Nat.zero_le _
  · rcases (kid_at hu k m).mp hm with ⟨rfl, rfl⟩ | ⟨h1, h2, h3⟩ | ⟨rfl, rfl⟩
    · exact o.deep k n hu
    · exact o.deep k m h3
    · obtain ⟨d1, d2, d3⟩ := o.deep u n hu
      have := d2 hw
      refine ⟨by show 1 ≤ n.deep + 1; omega, fun h => ?_, by show n.deep + 1 ≤ 7; omega⟩
      have := hd h
      show n.deep + 1 ≤ 6
      omega
/-- nodes as they lie in the store -/
def il (k : Nat) : Nat := if k = 0 then 0 else 2 * k + 1
def dl (k : Nat) : Nat := if k = 0 then 1 else 2 * k + 2
def IN (l : List Nat) : List D := l.map fun (j : Nat) => .int (j : Int)
def ndD (n : Nd) : D := .dict [(.str "up", .int n.up), (.str "warden", .bool n.wd), (.str "deep", .int n.deep), (.str "inner", .list (IN n.inner)), (.str "cell", .int n.cell)]
def ndC (k : Nat) (n : Nd) : Cell := .dct [("up", .d (.int n.up)), ("warden", .d (.bool n.wd)), ("deep", .d (.int n.deep)), ("inner", .l (il k)), ("cell", .d (.int n.cell))]
def WN (l : List Nat) : List W := l.map fun (j : Nat) => .d (.int (j : Int))
structure NSt (nds : List Nd) (M : List Cell) : Prop where
  len : M.length = 2 * nds.length + 1
  pos : 0 < nds.length
  top : M[2]? = some (.lst ((List.range nds.length).map fun k => .l (dl k)))
  inn : ∀ (k : Nat) (n : Nd), nds[k]? = some n → M[il k]? = some (.lst (WN n.inner))
  dct : ∀ (k : Nat) (n : Nd), nds[k]? = some n → M[dl k]? = some (ndC k n)
theorem oAll_map {α β : Type} (f : α → Option β) (h : α → β) : ∀ (l : List α), (∀ a ∈ l, f a = some (h a)) → oAll f l = some (l.map h)
  | [], _ => rfl
  | a :: r, q => by
    simp only [oAll, q a (List.mem_cons_self ..), Option.bind_some, oAll_map f h r fun x hx => q x (List.mem_cons_of_mem _ hx), List.map_cons]
theorem fz_lst {n : Nat} {M : List Cell} {k : Nat} {ws : List W} (h : M[k]? = some (.lst ws)) : fzW (n + 1) M (.l k) = (oAll (fzW n M) ws).map .list := by
  simp only [fzW, h]
theorem fz_dct {n : Nat} {M : List Cell} {k : Nat} {kvs : List (Str × W)} (h : M[k]? = some (.dct kvs)) : fzW (n + 1) M (.l k) = (oAll (fun kw => (fzW n M kw.2).map fun d => ((PyData.str kw.1, d) : D × D)) kvs).map .dict := by
  simp only [fzW, h]
theorem fz_d (n : Nat) (M : List Cell) (x : D) : fzW n M (.d x) = some x := by cases n <;> rfl
theorem fz_inner {nds : List Nd} {M : List Cell} (s : NSt nds M) {k : Nat} {n : Nd} (h : nds[k]? = some n) (m : Nat) : fzW (m + 1) M (.l (il k)) = some (.list (IN n.inner)) := by
  rw [fz_lst (s.inn k n h), oAll_map _ (fun w => match w with | .d x => x | _ => .none) _ fun w hw => by
    obtain ⟨j, _, rfl⟩ := List.mem_map.mp hw
    exact fz_d _ _ _]
  show some (PyData.list _) = _
  unfold IN WN
  rw [List.map_map]
  rfl
theorem fz_nd {nds : List Nd} {M : List Cell} (s : NSt nds M) {k : Nat} {n : Nd} (h : nds[k]? = some n) (m : Nat) : fzW (m + 2) M (.l (dl k)) = some (ndD n) := by
  rw [fz_dct (s.dct k n h)]
  simp only [oAll, fz_d, fz_inner s h, Option.map_some, Option.bind_some]
  rfl
theorem fz_top {nds : List Nd} {M : List Cell} (s : NSt nds M) : fzW 9 M (.l 2) = some (.list (nds.map ndD)) := by
  rw [fz_lst (n := 8) s.top, oAll_map (fzW 8 M) (fun w => match w with | .l k => (match nds[(if k = 1 then 0 else (k - 2) / 2)]? with | some n => ndD n | none => .none) | _ => .none) _ fun w hw => by
    obtain ⟨k, hk, rfl⟩ := List.mem_map.mp hw
    have hk := List.mem_range.mp hk
    have e := List.getElem?_eq_getElem hk
    rw [fz_nd s e 6]
    have e2 : (if dl k = 1 then 0 else (dl k - 2) / 2) = k := by unfold dl; split <;> split <;> omega
    show _ = some (match nds[(if dl k = 1 then 0 else (dl k - 2) / 2)]? with | some n => ndD n | none => .none)
    rw [e2, e]]
  show some (PyData.list _) = _
  congr 2
  rw [List.map_map]
  apply List.ext_getElem?
  intro k
  rw [List.getElem?_map, List.getElem?_map]
  by_cases hk : k < nds.length
  · rw [List.getElem?_range hk, List.getElem?_eq_getElem hk]
    have e2 : (if dl k = 1 then 0 else (dl k - 2) / 2) = k := by unfold dl; split <;> split <;> omega
    show some (match nds[(if dl k = 1 then 0 else (dl k - 2) / 2)]? with | some n => ndD n | none => .none) = _
    rw [e2, List.getElem?_eq_getElem hk]
    rfl
  · rw [List.getElem?_eq_none (by simpa using hk), List.getElem?_eq_none (by simpa using hk)]
    rfl
theorem il_dl {k : Nat} {n : Nat} (h : k < n) : il k < 2 * n + 1 ∧ dl k < 2 * n + 1 ∧ il k ≠ 2 ∧ dl k ≠ 2 := by
  unfold il dl
  split <;> omega
theorem il_inj {k j : Nat} (h : il k = il j) : k = j := by
  unfold il at h
  split at h <;> split at h <;> omega
theorem dl_inj {k j : Nat} (h : dl k = dl j) : k = j := by
  unfold dl at h
  split at h <;> split at h <;> omega
theorem il_ne_dl {k j : Nat} : il k ≠ dl j := by
  unfold il dl
  split <;> split <;> omega
/-- the store where a node was put beneath u -/
theorem NSt.kid {nds : List Nd} {M : List Cell} (s : NSt nds M) {u : Nat} {n : Nd} (hu : nds[u]? = some n) (w : Bool) (c : Int) :
    NSt (Hall.kid nds u n w c) ((M.set (il u) (.lst (WN n.inner ++ [.d (.int nds.length)])) ++ [.lst [], ndC nds.length ⟨u, w, n.deep + 1, [], c⟩]).set 2 (.lst ((List.range nds.length).map (fun k => W.l (dl k)) ++ [.l (2 * nds.length + 2)]))) := by
  have hl : u < nds.length := (List.getElem?_eq_some_iff.mp hu).1
  have hp := s.pos
  obtain ⟨u1, u2, u3, u4⟩ := il_dl hl
  have hL := s.len
  have dn : dl nds.length = 2 * nds.length + 2 := by unfold dl; rw [if_neg (by omega)]
  have inl : il nds.length = 2 * nds.length + 1 := by unfold il; rw [if_neg (by omega)]
  refine ⟨?_, by rw [kid_len]; omega, ?_, fun k m hm => ?_, fun k m hm => ?_⟩
  · rw [kid_len]; simp; omega
  · rw [List.getElem?_set_self (by simp; omega), kid_len, List.range_succ, List.map_append, List.map_singleton, dn]
  · rcases (kid_at hu k m).mp hm with ⟨rfl, rfl⟩ | ⟨h1, h2, h3⟩ | ⟨rfl, rfl⟩
    · rw [List.getElem?_set_ne (by omega), List.getElem?_append_left (by rw [List.length_set]; omega), List.getElem?_set_self (by omega)]
      unfold WN
      rw [List.map_append]
      rfl
    · obtain ⟨k1, k2, k3, k4⟩ := il_dl h2
      rw [List.getElem?_set_ne (by omega), List.getElem?_append_left (by rw [List.length_set]; omega), List.getElem?_set_ne (fun e => h1 (il_inj e).symm)]
      exact s.inn k m h3
    · rw [inl, List.getElem?_set_ne (by omega), List.getElem?_append_right (by rw [List.length_set]; omega), List.length_set, hL, Nat.sub_self]
      rfl
  · rcases (kid_at hu k m).mp hm with ⟨rfl, rfl⟩ | ⟨h1, h2, h3⟩ | ⟨rfl, rfl⟩
    · rw [List.getElem?_set_ne (by omega), List.getElem?_append_left (by rw [List.length_set]; omega), List.getElem?_set_ne il_ne_dl]
      exact s.dct k n hu
    · obtain ⟨k1, k2, k3, k4⟩ := il_dl h2
      rw [List.getElem?_set_ne (by omega), List.getElem?_append_left (by rw [List.length_set]; omega), List.getElem?_set_ne il_ne_dl]
      exact s.dct k m h3
    · rw [dn, List.getElem?_set_ne (by omega), List.getElem?_append_right (by rw [List.length_set]; omega), List.length_set, hL, show 2 * nds.length + 2 - (2 * nds.length + 1) = 1 by omega]
      rfl
theorem oAll_imp {α β : Type} {f g : α → Option β} : ∀ {l : List α} {r : List β}, (∀ a ∈ l, ∀ b, f a = some b → g a = some b) → oAll f l = some r → oAll g l = some r
  | [], _, _, e => e
  | a :: l, r, h, e => by
    simp only [oAll] at e ⊢
    obtain ⟨b, h1, e⟩ := Option.bind_eq_some_iff.mp e
    obtain ⟨bs, h2, e⟩ := Option.bind_eq_some_iff.mp e
    rw [h a (List.mem_cons_self ..) b h1, Option.bind_some, oAll_imp (fun x hx => h x (List.mem_cons_of_mem _ hx)) h2, Option.bind_some]
    exact e
/-- what is read stays where only new cells come -/
theorem fz_ext {M : List Cell} {t : List Cell} : ∀ {n : Nat} {w : W} {d : D}, fzW n M w = some d → fzW n (M ++ t) w = some d
  | 0, .d x, _, e => e
  | 0, .l _, _, e => by cases e
  | n + 1, .d x, _, e => e
  | n + 1, .l k, d, e => by
    have hk : k < M.length := by
      by_cases h : k < M.length
      · exact h
      · simp only [fzW, List.getElem?_eq_none (by omega : M.length ≤ k)] at e
        cases e
    simp only [fzW] at e ⊢
    rw [List.getElem?_append_left hk]
    cases hc : M[k]? with
    | none => rw [hc] at e; cases e
    | some c =>
      rw [hc] at e
      cases c with
      | lst ws =>
        obtain ⟨ds, h1, h2⟩ := Option.map_eq_some_iff.mp e
        show (oAll _ _).map _ = _
        rw [oAll_imp (fun a _ b h => fz_ext h) h1]
        exact congrArg some h2
      | dct kvs =>
        obtain ⟨ds, h1, h2⟩ := Option.map_eq_some_iff.mp e
        show (oAll _ _).map _ = _
        rw [oAll_imp (fun a _ b h => by
          obtain ⟨x, g1, g2⟩ := Option.map_eq_some_iff.mp h
          rw [fz_ext g1]
          exact congrArg some g2) h1]
        exact congrArg some h2
end Hall

set_option Elab.async false
set_option linter.all false
set_option maxRecDepth 100000
set_option maxHeartbeats 4000000
namespace K02
open PySem PySem.Spec L2 Pd Hd Hall
theorem sSet_of {i : Nat} {f : FH} {δ : Hd.Env} {M M1 : List Cell} {w : W} (h : f δ M = some (w, M1)) : sSet i f δ M = some (.nx (δ.set i (some w)) M1) := by
  unfold sSet
  rw [h]
  rfl
theorem hv_of {f : FE} {δ : Hd.Env} {M : List Cell} {d : D} (h : f (view M δ) = some d) (hs : scalK d = some d) : hView f δ M = some (.d d, M) := by
  rw [hv, h, Option.bind_some, hs]
  rfl
theorem lf_of {f : FE} {δ : Hd.Env} {M : List Cell} {d : D} (h : f (pview δ) = some d) : lift f δ M = some (.d d, M) := by
  rw [lf, h]
  rfl
/-- the slots of _law_nodes -/
def nE (sc : D) (m : Int) (o3 o4 o5 o6 o7 o8 : Option W) : Hd.Env := [some (.d sc), some (.d (.int m)), some (.l 2), o3, o4, o5, o6, o7, o8, none]
theorem nE_view {nds : List Nd} {M : List Cell} (s : NSt nds M) (sc : D) (m : Int) (o3 o4 o5 o6 o7 o8 : Option W) : view M (nE sc m o3 o4 o5 o6 o7 o8) = [.val sc, .val (.int m), .val (.list (nds.map ndD)), vw1 M o3, vw1 M o4, vw1 M o5, vw1 M o6, vw1 M o7, vw1 M o8, .un] := by
  have e : vw1 M (some (.l 2)) = .val (.list (nds.map ndD)) := by
    show (match fzW 9 M (.l 2) with | some d => Sl.val d | none => Sl.un) = _
    rw [fz_top s]
  show [_, _, vw1 M (some (.l 2)), _, _, _, _, _, _, _] = _
  rw [e]
  rfl
@[simp] theorem vw1_d (M : List Cell) (x : D) : vw1 M (some (.d x)) = .val x := rfl
theorem nd_at {nds : List Nd} {k : Nat} {n : Nd} (h : nds[k]? = some n) : ixD (.list (nds.map ndD)) (.int k) = some (ndD n) := by
  show atI (nds.map ndD) (k : Int) = _
  rw [atI_n, List.getElem?_map, h]
  rfl
theorem g_wd (n : Nd) : getD (ndD n) (.str "warden") = some (.bool n.wd) := rfl
theorem g_inner (n : Nd) : getD (ndD n) (.str "inner") = some (.list (IN n.inner)) := rfl
theorem g_deep (n : Nd) : getD (ndD n) (.str "deep") = some (.int n.deep) := rfl
theorem g_up (n : Nd) : getD (ndD n) (.str "up") = some (.int n.up) := rfl
theorem g_cell (n : Nd) : getD (ndD n) (.str "cell") = some (.int n.cell) := rfl
theorem IN_len (l : List Nat) : (IN l).length = l.length := List.length_map _
/-- who may have one more -/
def freeB (nds : List Nd) (d : D) : Bool := match d with
  | .int i => (match nds[i.toNat]? with | some n => n.wd && decide (n.inner.length < 8) | none => false)
  | _ => false
def frees (nds : List Nd) : List Nat := (List.range nds.length).filter fun j => freeB nds (.int (j : Int))
theorem frees_mem {nds : List Nd} {j : Nat} (h : j ∈ frees nds) : ∃ n, nds[j]? = some n ∧ n.wd = true ∧ n.inner.length < 8 := by
  obtain ⟨h1, h2⟩ := List.mem_filter.mp h
  have hl := List.mem_range.mp h1
  refine ⟨nds[j], List.getElem?_eq_getElem hl, ?_⟩
  unfold freeB at h2
  simp only [Int.toNat_natCast, List.getElem?_eq_getElem hl, Bool.and_eq_true, decide_eq_true_eq] at h2
  exact h2
theorem range_ints (n : Nat) : rangeD 0 n = IN (List.range n) := by
  unfold rangeD IN
  apply List.map_congr_left
  intro k _
  rw [Int.zero_add]
theorem filter_IN (p : D → Bool) (l : List Nat) : (IN l).filter p = IN (l.filter fun j => p (.int (j : Int))) := by
  unfold IN
  rw [List.filter_map]
  rfl
theorem allInts_IN (l : List Nat) : allInts (IN l) = true := by
  have : IN l = (l.map fun (j : Nat) => (j : Int)).map PyData.int := by
    unfold IN
    rw [List.map_map]
    rfl
  rw [this]
  exact allInts_map _
theorem free_run {nds : List Nd} {M : List Cell} (s : NSt nds M) (hl : nds.length ≤ 100) (sc : D) (m : Int) (o3 o4 o5 o6 o7 o8 : Option W) :
    hViewO (nLc (iR1 (aCons (eCB lenD (aCons (eVar 2) aNil)) aNil)) 9 (eAnd (e2 getD (e2 ixD (eVar 2) (eVar 9)) (eC (.str "warden"))) (e2 ltD (eCB lenD (aCons (e2 getD (e2 ixD (eVar 2) (eVar 9)) (eC (.str "inner"))) aNil)) (eC (.int 8)))) (eVar 9)) (nE sc m o3 o4 o5 o6 o7 o8) M = some (.d (.list (IN (frees nds))), M) := by
  unfold hViewO
  rw [nE_view s]
  generalize vw1 M o3 = a3
  generalize vw1 M o4 = a4
  generalize vw1 M o5 = a5
  generalize vw1 M o6 = a6
  generalize vw1 M o7 = a7
  generalize vw1 M o8 = a8
  have e1 : iR1 (aCons (eCB lenD (aCons (eVar 2) aNil)) aNil) [.val sc, .val (.int m), .val (.list (nds.map ndD)), a3, a4, a5, a6, a7, a8, .un] = some (rangeD 0 nds.length) := by
    have : iR1 (aCons (eCB lenD (aCons (eVar 2) aNil)) aNil) [.val sc, .val (.int m), .val (.list (nds.map ndD)), a3, a4, a5, a6, a7, a8, .un] = r1K [.int ((nds.map ndD).length : Int)] := by
      rw [iR1_eq]
      have : aCons (eCB lenD (aCons (eVar 2) aNil)) aNil [.val sc, .val (.int m), .val (.list (nds.map ndD)), a3, a4, a5, a6, a7, a8, .un] = some [.int ((nds.map ndD).length : Int)] := by simp
      rw [this, Option.bind_some]
    rw [this, List.length_map, r1K_eq _ (by omega), Int.toNat_natCast]
  rw [nLc_eq, e1, Option.bind_some, lcN_filter (freeB nds) (by simp) (fun d hd => ?_) (by unfold rangeD; rw [List.length_map, List.length_range, lim_eq]; omega), Option.bind_some, range_ints, filter_IN, if_pos (allInts_IN _)]
  · rfl
  · obtain ⟨k, hk, rfl⟩ := mem_rangeD hd
    rw [Int.zero_add]
    have hn := List.getElem?_eq_getElem hk
    have q := nd_at hn
    have f : freeB nds (.int (k : Int)) = (nds[k].wd && decide (nds[k].inner.length < 8)) := by
      unfold freeB
      simp only [Int.toNat_natCast, hn]
    rw [f]
    simp [q, g_wd, g_inner, IN_len]
    cases nds[k].wd <;> simp
    omega
end K02

set_option Elab.async false
set_option linter.all false
set_option maxRecDepth 100000
set_option maxHeartbeats 4000000
namespace K02
open PySem PySem.Spec L2 Pd Hd Hall
theorem nst_app {nds : List Nd} {M : List Cell} (s : NSt nds M) {u : Nat} {n : Nd} (hu : nds[u]? = some n) (j : Nat) : NSt (nds.set u { n with inner := n.inner ++ [j] }) (M.set (il u) (.lst (WN n.inner ++ [.d (.int j)]))) := by
  have hl : u < nds.length := (List.getElem?_eq_some_iff.mp hu).1
  obtain ⟨u1, u2, u3, u4⟩ := il_dl hl
  have hL := s.len
  have at_ : ∀ (k : Nat) (m : Nd), (nds.set u { n with inner := n.inner ++ [j] })[k]? = some m → (k = u ∧ m = { n with inner := n.inner ++ [j] }) ∨ (k ≠ u ∧ nds[k]? = some m) := fun k m hm => by
    by_cases h : k = u
    · subst h; rw [List.getElem?_set_self hl] at hm; cases hm; exact .inl ⟨rfl, rfl⟩
    · rw [List.getElem?_set_ne (Ne.symm h)] at hm; exact .inr ⟨h, hm⟩
  refine ⟨by rw [List.length_set, List.length_set]; exact hL, by rw [List.length_set]; exact s.pos, ?_, fun k m hm => ?_, fun k m hm => ?_⟩
  · rw [List.length_set, List.getElem?_set_ne u3]; exact s.top
  · rcases at_ k m hm with ⟨rfl, rfl⟩ | ⟨h1, h2⟩
    · rw [List.getElem?_set_self (by omega)]
      unfold WN
      rw [List.map_append]
      rfl
    · rw [List.getElem?_set_ne (fun e => h1 (il_inj e).symm)]; exact s.inn k m h2
  · rcases at_ k m hm with ⟨rfl, rfl⟩ | ⟨h1, h2⟩
    · rw [List.getElem?_set_ne il_ne_dl]; exact s.dct k n hu
    · rw [List.getElem?_set_ne il_ne_dl]; exact s.dct k m h2
theorem hVar_of {i : Nat} {δ : Hd.Env} {M : List Cell} {w : W} (h : δ[i]? = some (some w)) : hVar i δ M = some (w, M) := by
  unfold hVar
  rw [h]
theorem ix_run {nds : List Nd} {M : List Cell} (s : NSt nds M) {δ : Hd.Env} {i u : Nat} {n : Nd} (hu : nds[u]? = some n) (h2 : δ[2]? = some (some (.l 2))) (hi : δ[i]? = some (some (.d (.int u)))) : hIx (hVar 2) (hVar i) δ M = some (.l (dl u), M) := by
  have hl : u < nds.length := (List.getElem?_eq_some_iff.mp hu).1
  have e : (match M[2]? with | some (Cell.lst ws) => (atI ws (u : Int)).map fun w => (w, M) | _ => (none : Option (W × List Cell))) = some (W.l (dl u), M) := by
    rw [s.top]
    show (atI _ (u : Int)).map _ = _
    rw [atI_n, List.getElem?_map, List.getElem?_range hl]
    rfl
  unfold hIx
  rw [hVar_of h2]
  show (hVar i δ M).bind _ = _
  rw [hVar_of hi]
  exact e
theorem inner_run {nds : List Nd} {M : List Cell} (s : NSt nds M) {δ : Hd.Env} {i u : Nat} {n : Nd} (hu : nds[u]? = some n) (h2 : δ[2]? = some (some (.l 2))) (hi : δ[i]? = some (some (.d (.int u)))) : hGet (hIx (hVar 2) (hVar i)) "inner" δ M = some (.l (il u), M) := by
  unfold hGet
  rw [ix_run s hu h2 hi]
  show (match M[dl u]? with | some (Cell.dct kvs) => (kvs.lookup ("inner" : Str)).map fun w => (w, M) | _ => (none : Option (W × List Cell))) = _
  rw [s.dct u n hu]
  rfl
theorem app_run {nds : List Nd} {M : List Cell} (s : NSt nds M) {δ : Hd.Env} {i u : Nat} {n : Nd} {a : List Sl} (hu : nds[u]? = some n) (h2 : δ[2]? = some (some (.l 2))) (hi : δ[i]? = some (some (.d (.int u)))) (hv2 : (view M δ)[2]? = some (.val (.list (nds.map ndD)))) (h8 : n.inner.length < 100) :
    sApp (hGet (hIx (hVar 2) (hVar i)) "inner") (hView (eCB lenD (aCons (eVar 2) aNil))) δ M = some (.nx δ (M.set (il u) (.lst (WN n.inner ++ [.d (.int nds.length)])))) := by
  have e1 := inner_run s hu h2 hi
  have e2 : hView (eCB lenD (aCons (eVar 2) aNil)) δ M = some (.d (.int nds.length), M) := by
    refine hv_of ?_ rfl
    generalize view M δ = z at hv2
    simp [hv2]
  exact sApp_eq e1 e2 (s.inn u n hu) (s.inn u n hu) (by unfold WN; rw [List.length_map, lim_eq]; omega)
/-- the dict of a new node, put behind -/
theorem dict_run {M : List Cell} {δ : Hd.Env} {f1 f2 f3 f5 : FH} {a1 a2 a3 a5 : D} (h1 : f1 δ M = some (.d a1, M)) (h2 : f2 δ M = some (.d a2, M)) (h3 : f3 δ M = some (.d a3, M)) (h5 : f5 δ (M ++ [.lst []]) = some (.d a5, M ++ [.lst []])) :
    hDict [("up", f1), ("warden", f2), ("deep", f3), ("inner", hCell haNil), ("cell", f5)] δ M = some (.l (M.length + 1), M ++ [.lst [], .dct [("up", .d a1), ("warden", .d a2), ("deep", .d a3), ("inner", .l M.length), ("cell", .d a5)]]) := by
  have e4 : hCell haNil δ M = some (.l M.length, M ++ [.lst []]) := by
    unfold hCell haNil
    rw [Option.bind_some]
    exact if_pos (by rw [lim_eq]; exact Nat.zero_le _)
  unfold hDict
  simp only [hMap, h1, h2, h3, e4, h5, Option.bind_some]
  have e0 : (decide (5 ≤ 15) && decide (["up", "warden", "deep", "inner", "cell"] : List Str).Nodup) = true := by decide +kernel
  refine (if_pos e0).trans ?_
  simp
theorem push_run {nds : List Nd} {M : List Cell} (s : NSt nds M) (hl : nds.length < 100) {δ : Hd.Env} {f1 f2 f3 f5 : FH} {up dp c : Int} {w : Bool} (h1 : f1 δ M = some (.d (.int up), M)) (h2 : f2 δ M = some (.d (.bool w), M)) (h3 : f3 δ M = some (.d (.int dp), M)) (h5 : f5 δ (M ++ [.lst []]) = some (.d (.int c), M ++ [.lst []]))
    (hd : δ[2]? = some (some (.l 2))) : sApp (hVar 2) (hDict [("up", f1), ("warden", f2), ("deep", f3), ("inner", hCell haNil), ("cell", f5)]) δ M = some (.nx δ ((M ++ [.lst [], ndC nds.length ⟨up, w, dp, [], c⟩]).set 2 (.lst ((List.range nds.length).map (fun k => W.l (dl k)) ++ [.l (2 * nds.length + 2)])))) := by
  have hp := s.pos
  have hL := s.len
  have e1 := dict_run h1 h2 h3 h5
  have inl : il nds.length = M.length := by unfold il; rw [if_neg (by omega)]; omega
  have e3 : (M ++ [.lst [], .dct [("up", .d (.int up)), ("warden", .d (.bool w)), ("deep", .d (.int dp)), ("inner", .l M.length), ("cell", .d (.int c))]])[2]? = some (.lst ((List.range nds.length).map fun k => W.l (dl k))) := by
    rw [List.getElem?_append_left (by omega)]; exact s.top
  rw [sApp_eq (hVar_of hd) e1 s.top e3 (by rw [List.length_map, List.length_range, lim_eq]; omega)]
  unfold ndC
  rw [inl, hL]
end K02

set_option Elab.async false
set_option linter.all false
set_option maxRecDepth 100000
set_option maxHeartbeats 4000000
namespace K02
open PySem PySem.Spec L2 Pd Hd Hall
theorem IN_at {l : List Nat} {i a : Nat} (h : l[i]? = some a) : ixD (.list (IN l)) (.int (i : Int)) = some (.int (a : Int)) := by
  show atI (IN l) (i : Int) = _
  rw [atI_n]
  unfold IN
  rw [List.getElem?_map, h]
  rfl
theorem IN_fit (l : List Nat) : fitD (.list (IN l)) = true := fitD_list fun d hd => by
  obtain ⟨n, _, rfl⟩ := List.mem_map.mp hd
  exact ⟨rfl, Nat.zero_le _⟩
theorem IN_eq_nil (l : List Nat) : PyData.eqv (.list (IN l)) (.list []) = decide (l = []) := by
  rw [eqv_nil]
  cases l <;> rfl
theorem pview_d (x : D) : pv1 (some (.d x)) = .val x := rfl
theorem nE_pview (sc : D) (m : Int) (o3 o4 o5 o6 o7 o8 : Option W) : pview (nE sc m o3 o4 o5 o6 o7 o8) = [.val sc, .val (.int m), .un, pv1 o3, pv1 o4, pv1 o5, pv1 o6, pv1 o7, pv1 o8, .un] := rfl
theorem b1_run {nds : List Nd} {M : List Cell} (s : NSt nds M) (ok : NOk nds) (hl : nds.length ≤ 40) (ns : List Int) (m k : Int) (hk : 0 ≤ k) (o4 o5 o6 o7 o8 : Option W) :
    ∃ (nds' : List Nd) (M' : List Cell) (p4 p5 p6 p7 p8 : Option W), b__law_nodes_1 (nE (.list (ns.map PyData.int)) m (some (.d (.int k))) o4 o5 o6 o7 o8) M = some (.nx (nE (.list (ns.map PyData.int)) m (some (.d (.int k))) p4 p5 p6 p7 p8) M') ∧ NSt nds' M' ∧ NOk nds' ∧ nds'.length ≤ nds.length + 1 := by
  have hc : ∃ c : Int, lift (e2 addD (eCall F__law_cell_at (aCons (eVar 0) (aCons (e2 addD (eC (.int 3)) (e2 modD (eVar 3) (eC (.int 10)))) aNil))) (e2 mulD (eC (.int 11)) (e2 divD (eVar 3) (eC (.int 10))))) (nE (.list (ns.map PyData.int)) m (some (.d (.int k))) o4 o5 o6 o7 o8) M = some (.d (.int c), M) := by
    have q := cell_eq' ns (3 + k % 10) (by omega)
    have em : mulD (.int 11) (.int (k / 10)) = some (.int (11 * (k / 10))) := by rw [mulD_int, if_pos (by simp)]
    refine ⟨cellZ ns (3 + k % 10).toNat + 11 * (k / 10), lf_of ?_⟩
    rw [nE_pview]
    generalize ns.map PyData.int = sc at *
    simp [q, em, pview_d]
  obtain ⟨c, hc⟩ := hc
  generalize hsc : PyData.list (ns.map PyData.int) = sc at *
  have q1 : sSet 4 (lift (e2 addD (eCall F__law_cell_at (aCons (eVar 0) (aCons (e2 addD (eC (.int 3)) (e2 modD (eVar 3) (eC (.int 10)))) aNil))) (e2 mulD (eC (.int 11)) (e2 divD (eVar 3) (eC (.int 10)))))) (nE sc m (some (.d (.int k))) o4 o5 o6 o7 o8) M = some (.nx (nE sc m (some (.d (.int k))) (some (.d (.int c))) o5 o6 o7 o8) M) := sSet_of hc
  have q2 : sSet 5 (hViewO (nLc (iR1 (aCons (eCB lenD (aCons (eVar 2) aNil)) aNil)) 9 (eAnd (e2 getD (e2 ixD (eVar 2) (eVar 9)) (eC (.str "warden"))) (e2 ltD (eCB lenD (aCons (e2 getD (e2 ixD (eVar 2) (eVar 9)) (eC (.str "inner"))) aNil)) (eC (.int 8)))) (eVar 9))) (nE sc m (some (.d (.int k))) (some (.d (.int c))) o5 o6 o7 o8) M = some (.nx (nE sc m (some (.d (.int k))) (some (.d (.int c))) (some (.d (.list (IN (frees nds))))) o6 o7 o8) M) := sSet_of (free_run s (by omega) _ _ _ _ _ _ _ _)
  have q3 : hView (e2 neD (eVar 5) (eLst aNil)) (nE sc m (some (.d (.int k))) (some (.d (.int c))) (some (.d (.list (IN (frees nds))))) o6 o7 o8) M = some (.d (.bool (!decide (frees nds = []))), M) := by
    refine hv_of ?_ rfl
    rw [nE_view s]
    simp [neD_of _ _ (IN_fit (frees nds)) (show fitD (.list []) = true from rfl), IN_eq_nil]
  unfold b__law_nodes_1
  rw [sSeq_nx q1, sSeq_nx q2, sIf_of q3]
  by_cases hf : frees nds = []
  · simp only [hf]
    exact ⟨nds, M, _, _, _, _, _, rfl, s, ok, by omega⟩
  · rw [decide_eq_false hf]
    simp only [Bool.not_false, if_true]
    have hfl : 0 < (frees nds).length := List.length_pos_iff.mpr hf
    obtain ⟨i, hi, hi2⟩ := mod_at (c / 4) hfl
    have hu := List.getElem?_eq_getElem hi2
    generalize (frees nds)[i] = u at hu
    obtain ⟨n, hn, hw, h8⟩ := frees_mem (List.mem_of_getElem? hu)
    have q4 : sSet 6 (lift (e2 ixD (eVar 5) (e2 modD (e2 divD (eVar 4) (eC (.int 4))) (eCB lenD (aCons (eVar 5) aNil))))) (nE sc m (some (.d (.int k))) (some (.d (.int c))) (some (.d (.list (IN (frees nds))))) o6 o7 o8) M = some (.nx (nE sc m (some (.d (.int k))) (some (.d (.int c))) (some (.d (.list (IN (frees nds))))) (some (.d (.int u))) o7 o8) M) := by
      refine sSet_of (lf_of ?_)
      rw [nE_pview]
      have hpos : (0 : Int) < ((frees nds).length : Int) := by omega
      generalize hδ : [Sl.val sc, .val (.int m), .un, pv1 (some (.d (.int k))), pv1 (some (.d (.int c))), pv1 (some (.d (.list (IN (frees nds))))), pv1 o6, pv1 o7, pv1 o8, .un] = δ
      have t0 : eVar 5 δ = some (.list (IN (frees nds))) := by rw [← hδ]; rfl
      have t1 : e2 divD (eVar 4) (eC (.int 4)) δ = some (.int (c / 4)) := by rw [← hδ]; simp [pview_d]
      have t2 : eCB lenD (aCons (eVar 5) aNil) δ = some (.int ((frees nds).length : Int)) := by rw [← hδ]; simp [pview_d, IN_len]
      have t3 : e2 modD (e2 divD (eVar 4) (eC (.int 4))) (eCB lenD (aCons (eVar 5) aNil)) δ = some (.int (i : Int)) := by rw [e2_of t1 t2, modD_int _ _ hpos, hi]
      exact (e2_of t0 t3).trans (IN_at hu)
    have q5 : ∃ w : Bool, (w = true → n.deep < 6) ∧ sSet 7 (hView (eAnd (e2 eqD (e2 modD (eVar 4) (eC (.int 4))) (eC (.int 3))) (e2 ltD (e2 getD (e2 ixD (eVar 2) (eVar 6)) (eC (.str "deep"))) (eC (.int 6))))) (nE sc m (some (.d (.int k))) (some (.d (.int c))) (some (.d (.list (IN (frees nds))))) (some (.d (.int u))) o7 o8) M = some (.nx (nE sc m (some (.d (.int k))) (some (.d (.int c))) (some (.d (.list (IN (frees nds))))) (some (.d (.int u))) (some (.d (.bool w))) o8) M) := by
      refine ⟨(c % 4 == 3) && decide (n.deep < 6), fun h => ?_, sSet_of (hv_of (d := .bool ((c % 4 == 3) && decide (n.deep < 6))) ?_ rfl)⟩
      · rw [Bool.and_eq_true, decide_eq_true_eq] at h
        exact h.2
      · rw [nE_view s]
        simp [nd_at hn, g_deep]
        by_cases h3 : c % 4 = 3 <;> simp [h3]
    obtain ⟨w, hwd, q5⟩ := q5
    have q6 := app_run (δ := nE sc m (some (.d (.int k))) (some (.d (.int c))) (some (.d (.list (IN (frees nds))))) (some (.d (.int u))) (some (.d (.bool w))) o8) (i := 6) (a := []) s hn rfl rfl (by rw [nE_view s]; rfl) (by omega)
    have s2 := nst_app s hn nds.length
    have hn2 : (nds.set u { n with inner := n.inner ++ [nds.length] })[u]? = some { n with inner := n.inner ++ [nds.length] } := List.getElem?_set_self (List.getElem?_eq_some_iff.mp hn).1
    have q7 : sSet 8 (hView (e2 addD (e2 getD (e2 ixD (eVar 2) (eVar 6)) (eC (.str "deep"))) (eC (.int 1)))) (nE sc m (some (.d (.int k))) (some (.d (.int c))) (some (.d (.list (IN (frees nds))))) (some (.d (.int u))) (some (.d (.bool w))) o8) (M.set (il u) (.lst (WN n.inner ++ [.d (.int nds.length)]))) = some (.nx (nE sc m (some (.d (.int k))) (some (.d (.int c))) (some (.d (.list (IN (frees nds))))) (some (.d (.int u))) (some (.d (.bool w))) (some (.d (.int (n.deep + 1))))) (M.set (il u) (.lst (WN n.inner ++ [.d (.int nds.length)])))) := by
      refine sSet_of (hv_of (d := .int (n.deep + 1)) ?_ rfl)
      rw [nE_view s2]
      exact (e2_of ((e2_of (g := getD) ((e2_of (g := ixD) rfl rfl).trans (nd_at hn2)) (eC_eq _ _)).trans (g_deep _)) (eC_eq _ _)).trans (addD_int _ _)
    have ls : (nds.set u { n with inner := n.inner ++ [nds.length] }).length = nds.length := List.length_set
    have q8 := push_run s2 (by rw [ls]; omega) (δ := nE sc m (some (.d (.int k))) (some (.d (.int c))) (some (.d (.list (IN (frees nds))))) (some (.d (.int u))) (some (.d (.bool w))) (some (.d (.int (n.deep + 1))))) (f1 := lift (eVar 6)) (f2 := lift (eVar 7)) (f3 := lift (eVar 8)) (f5 := lift (e2 divD (eVar 4) (eC (.int 32)))) (up := u) (dp := n.deep + 1) (c := c / 32) (w := w) rfl rfl rfl (lf_of (by rw [nE_pview]; simp [pview_d])) rfl
    rw [ls] at q8
    rw [sSeq_nx q4, sSeq_nx q5, sSeq_nx q6, sSeq_nx q7, q8]
    exact ⟨kid nds u n w (c / 32), _, _, _, _, _, _, rfl, s.kid hn w (c / 32), ok.kid' hn hw h8 hwd, by rw [kid_len]; exact Nat.le_refl _⟩
end K02

set_option Elab.async false
set_option linter.all false
set_option maxRecDepth 100000
set_option maxHeartbeats 4000000
namespace K02
open PySem PySem.Spec L2 Pd Hd Hall
theorem b2_run {nds : List Nd} {M : List Cell} (s : NSt nds M) (ok : NOk nds) (hl : nds.length < 60) (sc : D) (m : Int) (k : Nat) {n : Nd} (hn : nds[k]? = some n) (o4 o5 o6 o7 o8 : Option W) :
    ∃ (nds' : List Nd) (M' : List Cell) (p4 p5 p6 p7 p8 : Option W), b__law_nodes_2 (nE sc m (some (.d (.int k))) o4 o5 o6 o7 o8) M = some (.nx (nE sc m (some (.d (.int k))) p4 p5 p6 p7 p8) M') ∧ NSt nds' M' ∧ NOk nds' ∧
      ((nds' = nds ∧ (n.wd = true → n.inner ≠ [])) ∨ (∃ c, nds' = kid nds k n false c ∧ n.wd = true)) := by
  have q1 : hView (eAnd (e2 getD (e2 ixD (eVar 2) (eVar 3)) (eC (.str "warden"))) (e2 eqD (e2 getD (e2 ixD (eVar 2) (eVar 3)) (eC (.str "inner"))) (eLst aNil))) (nE sc m (some (.d (.int k))) o4 o5 o6 o7 o8) M = some (.d (.bool (n.wd && decide (n.inner = []))), M) := by
    refine hv_of ?_ rfl
    rw [nE_view s]
    have e0 : (decide (IN n.inner = [])) = decide (n.inner = []) := by cases n.inner <;> rfl
    simp [nd_at hn, g_wd, g_inner, eqD_of _ _ (IN_fit n.inner) (show fitD (.list []) = true from rfl), IN_eq_nil]
    cases n.wd <;> simp
  unfold b__law_nodes_2
  rw [sIf_of q1]
  by_cases hw : n.wd = true
  · by_cases hi : n.inner = []
    · rw [hw, decide_eq_true hi, Bool.and_self, if_pos rfl]
      have q6 := app_run (δ := nE sc m (some (.d (.int k))) o4 o5 o6 o7 o8) (i := 3) (a := []) s hn rfl rfl (by rw [nE_view s]; rfl) (by rw [hi]; decide)
      have s2 := nst_app s hn nds.length
      have hn2 : (nds.set k { n with inner := n.inner ++ [nds.length] })[k]? = some { n with inner := n.inner ++ [nds.length] } := List.getElem?_set_self (List.getElem?_eq_some_iff.mp hn).1
      have q7 : sSet 8 (hView (e2 addD (e2 getD (e2 ixD (eVar 2) (eVar 3)) (eC (.str "deep"))) (eC (.int 1)))) (nE sc m (some (.d (.int k))) o4 o5 o6 o7 o8) (M.set (il k) (.lst (WN n.inner ++ [.d (.int nds.length)]))) = some (.nx (nE sc m (some (.d (.int k))) o4 o5 o6 o7 (some (.d (.int (n.deep + 1))))) (M.set (il k) (.lst (WN n.inner ++ [.d (.int nds.length)])))) := by
        refine sSet_of (hv_of (d := .int (n.deep + 1)) ?_ rfl)
        rw [nE_view s2]
        exact (e2_of ((e2_of (g := getD) ((e2_of (g := ixD) rfl rfl).trans (nd_at hn2)) (eC_eq _ _)).trans (g_deep _)) (eC_eq _ _)).trans (addD_int _ _)
      have ls : (nds.set k { n with inner := n.inner ++ [nds.length] }).length = nds.length := List.length_set
      have q8 := push_run s2 (by rw [ls]; omega) (δ := nE sc m (some (.d (.int k))) o4 o5 o6 o7 (some (.d (.int (n.deep + 1))))) (f1 := lift (eVar 3)) (f2 := lift (eC (.bool false))) (f3 := lift (eVar 8)) (f5 := hView (e2 divD (e2 getD (e2 ixD (eVar 2) (eVar 3)) (eC (.str "cell"))) (eC (.int 7)))) (up := k) (dp := n.deep + 1) (c := n.cell / 7) (w := false) rfl rfl rfl (by
        refine hv_of (d := .int (n.cell / 7)) ?_ rfl
        have ev : fzW 9 (M.set (il k) (.lst (WN n.inner ++ [.d (.int nds.length)])) ++ [.lst []]) (.l 2) = some (.list ((nds.set k { n with inner := n.inner ++ [nds.length] }).map ndD)) := fz_ext (fz_top s2)
        have ev2 : vw1 (M.set (il k) (.lst (WN n.inner ++ [.d (.int nds.length)])) ++ [.lst []]) (some (.l 2)) = .val (.list ((nds.set k { n with inner := n.inner ++ [nds.length] }).map ndD)) := by
          show (match fzW 9 _ (.l 2) with | some d => Sl.val d | none => Sl.un) = _
          rw [ev]
        have t0 : eVar 2 (view (M.set (il k) (.lst (WN n.inner ++ [.d (.int nds.length)])) ++ [.lst []]) (nE sc m (some (.d (.int k))) o4 o5 o6 o7 (some (.d (.int (n.deep + 1)))))) = some (.list ((nds.set k { n with inner := n.inner ++ [nds.length] }).map ndD)) := by
          rw [eVar_eq]
          show slK (some (vw1 _ (some (.l 2)))) = _
          rw [ev2]
          rfl
        have t1 : eVar 3 (view (M.set (il k) (.lst (WN n.inner ++ [.d (.int nds.length)])) ++ [.lst []]) (nE sc m (some (.d (.int k))) o4 o5 o6 o7 (some (.d (.int (n.deep + 1)))))) = some (.int (k : Int)) := rfl
        have t2 := (e2_of (g := ixD) t0 t1).trans (nd_at hn2)
        have t3 := (e2_of (g := getD) t2 (eC_eq (.str "cell") _)).trans (g_cell _)
        rw [e2_of t3 (eC_eq (.int 7) _), divD_int _ _ (by omega)]) rfl
      rw [ls] at q8
      rw [sSeq_nx q6, sSeq_nx q7, q8]
      exact ⟨kid nds k n false (n.cell / 7), _, _, _, _, _, _, rfl, s.kid hn false (n.cell / 7), ok.kid' hn hw (by rw [hi]; decide) (fun h => by cases h), .inr ⟨_, rfl, rfl⟩⟩
    · rw [decide_eq_false hi, Bool.and_false]
      exact ⟨nds, M, _, _, _, _, _, rfl, s, ok, .inl ⟨rfl, fun _ => hi⟩⟩
  · have hw' : n.wd = false := by simpa using hw
    rw [hw', Bool.false_and]
    exact ⟨nds, M, _, _, _, _, _, rfl, s, ok, .inl ⟨rfl, fun h => by cases h⟩⟩
end K02

set_option Elab.async false
set_option linter.all false
set_option maxRecDepth 100000
set_option maxHeartbeats 4000000
namespace K02
open PySem PySem.Spec L2 Pd Hd Hall
theorem forH_inv {i : Nat} {body : GH} (I : Nat → Hd.Env → List Cell → Prop) : ∀ (ds : List D) (k : Nat) (δ : Hd.Env) (M : List Cell), I k δ M → (∀ (j : Nat) (d : D) (δ : Hd.Env) (M : List Cell), ds[j]? = some d → I (k + j) δ M → ∃ δ' M', body (δ.set i (some (.d d))) M = some (.nx δ' M') ∧ I (k + j + 1) δ' M') → ∃ δ' M', forH i body ds δ M = some (.nx δ' M') ∧ I (k + ds.length) δ' M'
  | [], k, δ, M, h, _ => ⟨δ, M, rfl, h⟩
  | d :: r, k, δ, M, h, hs => by
    obtain ⟨δ1, M1, e1, h1⟩ := hs 0 d δ M rfl h
    obtain ⟨δ2, M2, e2, h2⟩ := forH_inv I r (k + 1) δ1 M1 h1 fun j d' δ' M' hj hI => by
      have := hs (j + 1) d' δ' M' (by simpa using hj) (by rw [show k + (j + 1) = k + 1 + j by omega]; exact hI)
      rw [show k + (j + 1) + 1 = k + 1 + j + 1 by omega] at this
      exact this
    refine ⟨δ2, M2, ?_, by rw [List.length_cons, show k + (r.length + 1) = k + 1 + r.length by omega]; exact h2⟩
    rw [forH, e1]
    exact e2
/-- each warden has a part -/
def Full (nds : List Nd) : Prop := ∀ (k : Nat) (n : Nd), nds[k]? = some n → n.wd = true → n.inner ≠ []
theorem rangeD_at {lo : Int} {n j : Nat} {d : D} (h : (rangeD lo n)[j]? = some d) : j < n ∧ d = .int (lo + j) := by
  unfold rangeD at h
  rw [List.getElem?_map] at h
  obtain ⟨k, hk, rfl⟩ := Option.map_eq_some_iff.mp h
  have := List.getElem?_eq_some_iff.mp hk
  obtain ⟨h1, h2⟩ := this
  rw [List.getElem_range] at h2
  subst h2
  exact ⟨by simpa using h1, rfl⟩
def nd0 (c : Int) : Nd := ⟨-1, true, 1, [], c⟩
theorem nst0 (c : Int) : NSt [nd0 c] [.lst [], ndC 0 (nd0 c), .lst [.l 1]] := ⟨rfl, Nat.one_pos, rfl, fun k n h => by
  cases k with
  | zero => cases h; rfl
  | succ k => simp at h, fun k n h => by
  cases k with
  | zero => cases h; rfl
  | succ k => simp at h⟩
theorem nok0 (c : Int) : NOk [nd0 c] := ⟨⟨_, rfl, rfl, rfl, rfl⟩, fun k n j h hj => by
  cases k with
  | zero => cases h; cases hj
  | succ k => simp at h, fun j m hj h => by
  cases j with
  | zero => omega
  | succ j => simp at h, fun k n h => by
  cases k with
  | zero => cases h; exact List.Pairwise.nil
  | succ k => simp at h, fun k n h hi => by
  cases k with
  | zero => cases h; rfl
  | succ k => simp at h, fun k n h => by
  cases k with
  | zero => cases h; exact Nat.zero_le _
  | succ k => simp at h, fun k n h => by
  cases k with
  | zero => cases h; exact ⟨by show (1 : Int) ≤ 1; omega, fun _ => by show (1 : Int) ≤ 6; omega, by show (1 : Int) ≤ 7; omega⟩
  | succ k => simp at h⟩
theorem hCell_of {g : FHA} {δ : Hd.Env} {M M1 : List Cell} {ws : List W} (h : g δ M = some (ws, M1)) (hl : ws.length ≤ lim) : hCell g δ M = some (.l M1.length, M1 ++ [.lst ws]) := by
  unfold hCell
  rw [h]
  exact if_pos hl
theorem haCons_of {f : FH} {g : FHA} {δ : Hd.Env} {M M1 M2 : List Cell} {w : W} {ws : List W} (h : f δ M = some (w, M1)) (h2 : g δ M1 = some (ws, M2)) : haCons f g δ M = some (w :: ws, M2) := by
  unfold haCons
  rw [h]
  show (g δ M1).bind _ = _
  rw [h2]
  rfl
theorem iH1_of {g : FHA} {δ : Hd.Env} {M M1 : List Cell} {j : Int} (h : g δ M = some ([.d (.int j)], M1)) (hj : -(2 ^ 62) ≤ j ∧ j < 2 ^ 62) : iH1 g δ M = some (rangeD 0 j.toNat, M1) := by
  unfold iH1
  rw [h]
  exact if_pos hj
theorem init_run (ns : List Int) (m : Int) : sSet 2 (hCell (haCons (hDict [("up", lift (e1 negD (eC (.int 1)))), ("warden", lift (eC (.bool true))), ("deep", lift (eC (.int 1))), ("inner", hCell haNil), ("cell", lift (eCall F__law_cell_at (aCons (eVar 0) (aCons (eC (.int 2)) aNil))))]) haNil)) (startH 10 [.d (.list (ns.map PyData.int)), .d (.int m)]) [] =
    some (.nx (nE (.list (ns.map PyData.int)) m none none none none none none) [.lst [], ndC 0 (nd0 (cellZ ns 2)), .lst [.l 1]]) := by
  have q := cell_2 ns
  generalize ns.map PyData.int = sc at *
  have h5 : lift (eCall F__law_cell_at (aCons (eVar 0) (aCons (eC (.int 2)) aNil))) (startH 10 [.d (.list sc), .d (.int m)]) ([] ++ [.lst []]) = some (.d (.int (cellZ ns 2)), [] ++ [.lst []]) := by
    refine lf_of ?_
    have e : eCall F__law_cell_at (aCons (eVar 0) (aCons (eC (.int 2)) aNil)) (pview (startH 10 [.d (.list sc), .d (.int m)])) = F__law_cell_at [.list sc, .int 2] := rfl
    rw [e, q]
  have e1 := dict_run (M := []) (δ := startH 10 [.d (.list sc), .d (.int m)]) (f1 := lift (e1 negD (eC (.int 1)))) (f2 := lift (eC (.bool true))) (f3 := lift (eC (.int 1))) (a1 := .int (-1)) (a2 := .bool true) (a3 := .int 1) rfl rfl rfl h5
  refine (sSet_of (w := .l 2) (M1 := [.lst [], ndC 0 (nd0 (cellZ ns 2)), .lst [.l 1]]) ?_).trans rfl
  exact (hCell_of (haCons_of e1 rfl) (by rw [lim_eq]; decide)).trans rfl
theorem nodes_run (ns : List Int) (m : Int) (h2 : 2 ≤ m) (h30 : m ≤ 30) : ∃ (nds : List Nd) (δ : Hd.Env) (M : List Cell), g__law_nodes (startH 10 [.d (.list (ns.map PyData.int)), .d (.int m)]) [] = some (.rt (.l 2) M) ∧ NSt nds M ∧ NOk nds ∧ Full nds ∧ nds.length ≤ 60 := by
  have q0 := init_run ns m
  let Sh : Hd.Env → Prop := fun δ => ∃ o3 o4 o5 o6 o7 o8, δ = nE (.list (ns.map PyData.int)) m o3 o4 o5 o6 o7 o8
  obtain ⟨δ1, M1, r1, nds1, ⟨p3, p4, p5, p6, p7, p8, rfl⟩, s1, k1, l1⟩ := forH_inv (i := 3) (body := b__law_nodes_1) (fun j δ M => ∃ nds : List Nd, Sh δ ∧ NSt nds M ∧ NOk nds ∧ nds.length ≤ 1 + j) (rangeD 1 (m - 1).toNat) 0 _ _ ⟨_, ⟨none, none, none, none, none, none, rfl⟩, nst0 (cellZ ns 2), nok0 _, Nat.le_refl _⟩ (by
    rintro j d δ M hj ⟨nds, ⟨o3, o4, o5, o6, o7, o8, rfl⟩, s, ok, hl⟩
    obtain ⟨hj1, rfl⟩ := rangeD_at hj
    obtain ⟨nds', M', p4, p5, p6, p7, p8, e, s', ok', hl'⟩ := b1_run s ok (by omega) ns m (1 + (j : Int)) (by omega) o4 o5 o6 o7 o8
    exact ⟨_, M', e, nds', ⟨_, p4, p5, p6, p7, p8, rfl⟩, s', ok', by omega⟩)
  have hl1 : (rangeD 1 (m - 1).toNat).length = (m - 1).toNat := by unfold rangeD; simp
  rw [hl1] at l1
  have l1' : nds1.length ≤ 30 := by omega
  obtain ⟨δ2, M2, r2, nds2, ⟨t3, t4, t5, t6, t7, t8, rfl⟩, s2, k2, l2, l2', f2, g2⟩ := forH_inv (i := 3) (body := b__law_nodes_2) (fun j δ M => ∃ nds : List Nd, Sh δ ∧ NSt nds M ∧ NOk nds ∧ nds1.length ≤ nds.length ∧ nds.length ≤ nds1.length + j ∧ (∀ (k : Nat) (n : Nd), k < j → nds[k]? = some n → n.wd = true → n.inner ≠ []) ∧ (∀ (k : Nat) (n : Nd), nds1.length ≤ k → nds[k]? = some n → n.wd = false)) (rangeD 0 nds1.length) 0 _ _ ⟨nds1, ⟨p3, p4, p5, p6, p7, p8, rfl⟩, s1, k1, Nat.le_refl _, Nat.le_refl _, fun k n hk => by omega, fun k n hk hn => by
      have := (List.getElem?_eq_some_iff.mp hn).1
      omega⟩ (by
    rintro j d δ M hj ⟨nds, ⟨o3, o4, o5, o6, o7, o8, rfl⟩, s, ok, hl, hl', f, g⟩
    obtain ⟨hj1, rfl⟩ := rangeD_at hj
    have hn := List.getElem?_eq_getElem (show j < nds.length by omega)
    generalize nds[j] = n at hn
    obtain ⟨nds', M', p4, p5, p6, p7, p8, e, s', ok', hx⟩ := b2_run s ok (by omega) (.list (ns.map PyData.int)) m j hn o4 o5 o6 o7 o8
    refine ⟨_, M', by rw [Int.zero_add]; exact e, nds', ⟨_, p4, p5, p6, p7, p8, rfl⟩, s', ok', ?_⟩
    rcases hx with ⟨rfl, hx⟩ | ⟨c, rfl, hx⟩
    · refine ⟨hl, by omega, fun k n' hk hn' hw => ?_, g⟩
      by_cases hkj : k = j
      · subst hkj
        rw [hn] at hn'
        cases hn'
        exact hx hw
      · exact f k n' (by omega) hn' hw
    · rw [kid_len]
      refine ⟨by omega, by omega, fun k n' hk hn' hw => ?_, fun k n' hk hn' => ?_⟩
      · rcases (kid_at hn k n').mp hn' with ⟨rfl, rfl⟩ | ⟨h1, h2, h3⟩ | ⟨rfl, rfl⟩
        · show n.inner ++ [nds.length] ≠ []
          simp
        · exact f k n' (by omega) h3 hw
        · cases hw
      · rcases (kid_at hn k n').mp hn' with ⟨rfl, rfl⟩ | ⟨h1, h2, h3⟩ | ⟨rfl, rfl⟩
        · omega
        · exact g k n' hk h3
        · rfl)
  have hl2 : (rangeD 0 nds1.length).length = nds1.length := by unfold rangeD; simp
  rw [hl2] at l2' f2
  have er : iH2 (haCons (lift (eC (.int 1))) (haCons (hVar 1) haNil)) (nE (.list (ns.map PyData.int)) m none none none none none none) [.lst [], ndC 0 (nd0 (cellZ ns 2)), .lst [.l 1]] = some (rangeD 1 (m - 1).toNat, [.lst [], ndC 0 (nd0 (cellZ ns 2)), .lst [.l 1]]) := by
    unfold iH2
    have : haCons (lift (eC (.int 1))) (haCons (hVar 1) haNil) (nE (.list (ns.map PyData.int)) m none none none none none none) [.lst [], ndC 0 (nd0 (cellZ ns 2)), .lst [.l 1]] = some ([.d (.int 1), .d (.int m)], [.lst [], ndC 0 (nd0 (cellZ ns 2)), .lst [.l 1]]) := rfl
    rw [this]
    exact if_pos (by omega)
  have er2 : iH1 (haCons (hView (eCB lenD (aCons (eVar 2) aNil))) haNil) (nE (.list (ns.map PyData.int)) m p3 p4 p5 p6 p7 p8) M1 = some (rangeD 0 nds1.length, M1) := by
    have q : hView (eCB lenD (aCons (eVar 2) aNil)) (nE (.list (ns.map PyData.int)) m p3 p4 p5 p6 p7 p8) M1 = some (.d (.int nds1.length), M1) := by
      refine hv_of ?_ rfl
      rw [nE_view s1]
      simp
    have : haCons (hView (eCB lenD (aCons (eVar 2) aNil))) haNil (nE (.list (ns.map PyData.int)) m p3 p4 p5 p6 p7 p8) M1 = some ([.d (.int nds1.length)], M1) := by
      unfold haCons
      rw [q]
      rfl
    have e0 : ((nds1.length : Int)).toNat = nds1.length := Int.toNat_natCast _
    have := iH1_of this (by omega)
    rw [e0] at this
    exact this
  have f1 : sFor (iH2 (haCons (lift (eC (.int 1))) (haCons (hVar 1) haNil))) 3 b__law_nodes_1 (nE (.list (ns.map PyData.int)) m none none none none none none) [.lst [], ndC 0 (nd0 (cellZ ns 2)), .lst [.l 1]] = some (.nx (nE (.list (ns.map PyData.int)) m p3 p4 p5 p6 p7 p8) M1) := by
    unfold sFor
    rw [er]
    exact r1
  have f2' : sFor (iH1 (haCons (hView (eCB lenD (aCons (eVar 2) aNil))) haNil)) 3 b__law_nodes_2 (nE (.list (ns.map PyData.int)) m p3 p4 p5 p6 p7 p8) M1 = some (.nx (nE (.list (ns.map PyData.int)) m t3 t4 t5 t6 t7 t8) M2) := by
    unfold sFor
    rw [er2]
    exact r2
  refine ⟨nds2, nE (.list (ns.map PyData.int)) m t3 t4 t5 t6 t7 t8, M2, ?_, s2, k2, fun k n hn hw => ?_, by omega⟩
  · unfold g__law_nodes
    rw [sSeq_nx q0, sSeq_nx f1, sSeq_nx f2']
    exact sRet_of (hVar_of rfl)
  · by_cases hk : k < nds1.length
    · exact f2 k n (by omega) hn hw
    · have := g2 k n (by omega) hn
      rw [this] at hw
      cases hw
theorem nodes_eq (ns : List Int) (m : Int) (h2 : 2 ≤ m) (h30 : m ≤ 30) : ∃ nds : List Nd, F__law_nodes [.list (ns.map PyData.int), .int m] = some (.list (nds.map ndD)) ∧ NOk nds ∧ Full nds ∧ nds.length ≤ 60 := by
  obtain ⟨nds, δ, M, e, s, ok, f, hl⟩ := nodes_run ns m h2 h30
  refine ⟨nds, ?_, ok, f, hl⟩
  unfold F__law_nodes pureF
  have e2 := runH_rt (n := 10) (np := 2) (g := g__law_nodes) (ws := [W.d (.list (ns.map PyData.int)), W.d (.int m)]) (M := []) rfl e
  rw [show ([PyData.list (ns.map PyData.int), PyData.int m].map W.d) = [W.d (.list (ns.map PyData.int)), W.d (.int m)] from rfl, e2, Option.bind_some]
  exact fz_top s
end K02

set_option Elab.async false
set_option linter.all false
set_option maxRecDepth 100000
set_option maxHeartbeats 4000000
namespace K02
open PySem PySem.Spec L2 Pd Hd Hall
theorem abc_at {i : Int} (h0 : 0 ≤ i) (h1 : i < 26) : ixD (.str abc) (.int i) = some (.str ⟨#[97 + i.toNat]⟩) := by
  have e : abc.cps.toList = (List.range 26).map (97 + ·) := by decide +kernel
  rw [ixD_str _ _ abc_ok.lim, atI_of h0 (v := 97 + i.toNat) (by rw [e, List.getElem?_map, List.getElem?_range (by omega)]; rfl)]
  rfl
/-- a text of small letters -/
def Low (s : Str) : Prop := ∀ c ∈ s.cps.toList, sg c = true
theorem Low.sok {s : Str} (h : Low s) (hl : s.length ≤ 1000) : SOk s := ⟨hl, fun c hc => by
  have := h c hc
  unfold sg at this
  simp at this
  omega⟩
theorem Low.append {a b : Str} (ha : Low a) (hb : Low b) : Low (a ++ b) := fun c hc => by
  rw [cps_append, List.mem_append] at hc
  rcases hc with hc | hc
  · exact ha c hc
  · exact hb c hc
theorem Low.one {i : Nat} (h : i < 26) : Low ⟨#[97 + i]⟩ := fun c hc => by
  have : c = 97 + i := by simpa using hc
  unfold sg
  simp
  omega
theorem Low.cut {s : Str} (h : Low s) (lo hi : Option Int) : Low (cutS s lo hi) := fun c hc => by
  unfold cutS at hc
  simp at hc
  exact h c (List.mem_of_mem_drop (List.mem_of_mem_take hc))
theorem Low.name {s : Str} (h : Low s) (h1 : 1 ≤ s.length) (h8 : s.length ≤ 8) : nameB (.str s) = true := by
  show (decide (1 ≤ s.length) && decide (s.length ≤ 8) && s.cps.toList.all sg) = true
  rw [decide_eq_true h1, decide_eq_true h8, Bool.and_self, Bool.true_and, List.all_eq_true]
  exact h
theorem low0 : Low "" := fun c hc => by
  have e : (Str.ofString "").cps.toList = [] := by decide +kernel
  rw [e] at hc
  cases hc
theorem head_low (c m : Int) : ∃ (s : Str) (r : Int) (x : Sl), forG 5 b__law_names_1 (rangeD 0 8) [.val (.int c), .val (.int m), .val (.str abc), .val (.str ""), .val (.int (c / 48)), .un, .un, .un, .un] = some (.nx [.val (.int c), .val (.int m), .val (.str abc), .val (.str s), .val (.int r), x, .un, .un, .un]) ∧ Low s ∧ s.length = 8 := by
  let Inv : Nat → List Sl → Prop := fun j δ => ∃ (s : Str) (r : Int) (x : Sl), δ = [.val (.int c), .val (.int m), .val (.str abc), .val (.str s), .val (.int r), x, .un, .un, .un] ∧ Low s ∧ s.length = j
  obtain ⟨δ', e1, s, r, x, rfl, hs, hl⟩ := forG_inv (i := 5) (body := b__law_names_1) Inv (rangeD 0 8) 0 [.val (.int c), .val (.int m), .val (.str abc), .val (.str ""), .val (.int (c / 48)), .un, .un, .un, .un] ⟨"", _, _, rfl, low0, rfl⟩ (by
    rintro j d δ hj ⟨s, r, x, rfl, hs, hl⟩
    have hj8 : j < 8 := by
      have := (List.getElem?_eq_some_iff.mp hj).1
      unfold rangeD at this
      simpa using this
    have ea := abc_at (i := r % 26) (by omega) (by omega)
    have ea2 : addD (.str s) (.str ⟨#[97 + (r % 26).toNat]⟩) = some (.str (s ++ ⟨#[97 + (r % 26).toNat]⟩)) := addD_str _ _ (by rw [len_one, lim_eq]; omega)
    refine ⟨_, ?_, s ++ ⟨#[97 + (r % 26).toNat]⟩, r / 26, .val d, rfl, hs.append (Low.one (by omega)), by rw [len_append, len_one, hl]⟩
    unfold b__law_names_1
    simp [ea, ea2])
  exact ⟨s, r, x, e1, hs, hl⟩
/-- names: so many, all names, none twice -/
structure NmOk (N : List Str) (m : Int) : Prop where
  len : (N.length : Int) = m
  name : ∀ s ∈ N, SOk s ∧ nameB (.str s) = true
  nd : N.Nodup
theorem nmok_of {m : Int} (h0 : 0 ≤ m) {f : Nat → Str} (h : ∀ k : Nat, (k : Int) < m → Low (f k) ∧ 1 ≤ (f k).length ∧ (f k).length ≤ 8) (hi : ∀ a b : Nat, a < b → (b : Int) < m → f a ≠ f b) : NmOk ((List.range m.toNat).map f) m := by
  refine ⟨by simp; omega, fun s hs => ?_, ?_⟩
  · obtain ⟨k, hk, rfl⟩ := List.mem_map.mp hs
    have hk := List.mem_range.mp hk
    obtain ⟨h1, h2, h3⟩ := h k (by omega)
    exact ⟨h1.sok (by omega), h1.name h2 h3⟩
  · unfold List.Nodup
    rw [List.pairwise_map]
    refine List.Pairwise.imp_of_mem (R := fun a b => a < b) (fun {a b} ha hb hab => ?_) List.pairwise_lt_range
    have := List.mem_range.mp hb
    exact hi a b hab (by omega)
theorem cps_len (s : Str) : s.cps.toList.length = s.length := by simp [Str.length]
theorem cut_hi_len {s : Str} {k : Nat} (h : k ≤ s.length) : (cutS s none (some (k : Int))).length = k := by
  have e : (cutS s none (some (k : Int))).cps.toList = s.cps.toList.take k := by
    unfold cutS
    rw [HT.sIx_none, HT.sIx_nat, Nat.min_eq_left h]
    rfl
  rw [← cps_len, e, List.length_take, cps_len, Nat.min_eq_left h]
theorem cut_lo_len {s : Str} {k : Nat} (h : k ≤ s.length) : (cutS s (some (k : Int)) none).length = s.length - k := by
  have e : (cutS s (some (k : Int)) none).cps.toList = (s.cps.toList.drop k).take (s.length - k) := by
    unfold cutS
    rw [HT.sIx_none, HT.sIx_nat, Nat.min_eq_left h]
  rw [← cps_len, e, List.length_take, List.length_drop, cps_len, Nat.min_self]
theorem names_eq2 (c m : Int) (h0 : 0 ≤ m) (h1 : m ≤ 70) : ∃ N : List Str, F__law_names [.int c, .int m] = some (.list (SL N)) ∧ NmOk N m := by
  obtain ⟨s, r, x, e1, hs, hl⟩ := head_low c m
  have e0 : (Str.ofString "abcdefghijklmnopqrstuvwxyz") = abc := rfl
  have er : -(2 ^ 62) ≤ m ∧ m < 2 ^ 62 := by omega
  have lm : m.toNat ≤ lim := by rw [lim_eq]; omega
  have hsok := hs.sok (by omega)
  have run : ∀ N, (g__law_names (startD 9 [.int c, .int m])).bind rtK = some (.list (SL N)) → F__law_names [.int c, .int m] = some (.list (SL N)) := fun N h => F1 rfl h
  by_cases a0 : c % 6 = 0 ∧ m < 9
  · refine ⟨(List.range m.toNat).map fun k : Nat => cutS s none (some ((k : Int) + 1)), run _ ?_, nmok_of h0 (fun k hk => ?_) fun a b hab hb => ?_⟩
    · unfold g__law_names
      have e2 := lc_range (i := 5) (δ := [.val (.int c), .val (.int m), .val (.str abc), .val (.str s), .val (.int r), x, .val (.int (c % 6)), .un, .un]) (fe := eSl (eVar 3) oNone (oSome (e2 addD (eVar 5) (eC (.int 1))))) (m := m.toNat) (fun k : Nat => cutS s none (some ((k : Int) + 1))) (fun k hk => by
        simp [oNone, slK3_str _ _ _ hsok.lim]) lm
      simp [e0, r1K_eq _ (show -(2 ^ 62) ≤ (8 : Int) ∧ (8 : Int) < 2 ^ 62 by omega)]
      rw [e1]
      rw [a0.1] at e2
      simp [a0.1, a0.2, r1K_eq _ er, e2]
    · have := cut_hi_len (s := s) (k := k + 1) (by omega)
      rw [Int.natCast_add, Int.natCast_one] at this
      exact ⟨hs.cut _ _, by omega, by omega⟩
    · intro e
      have ea := cut_hi_len (s := s) (k := a + 1) (by omega)
      have eb := cut_hi_len (s := s) (k := b + 1) (by omega)
      rw [Int.natCast_add, Int.natCast_one] at ea eb
      rw [e, eb] at ea
      omega
  · by_cases a1 : c % 6 = 1 ∧ m < 9
    · refine ⟨(List.range m.toNat).map fun k : Nat => cutS s (some (7 - (k : Int))) none, run _ ?_, nmok_of h0 (fun k hk => ?_) fun a b hab hb => ?_⟩
      · unfold g__law_names
        have e2 := lc_range (i := 5) (δ := [.val (.int c), .val (.int m), .val (.str abc), .val (.str s), .val (.int r), x, .val (.int (c % 6)), .un, .un]) (fe := eSl (eVar 3) (oSome (e2 subD (eC (.int 7)) (eVar 5))) oNone) (m := m.toNat) (fun k : Nat => cutS s (some (7 - (k : Int))) none) (fun k hk => by
          simp [oNone, slK3_str _ _ _ hsok.lim]) lm
        simp [e0, r1K_eq _ (show -(2 ^ 62) ≤ (8 : Int) ∧ (8 : Int) < 2 ^ 62 by omega)]
        rw [e1]
        rw [a1.1] at e2
        simp [a1.1, a1.2, r1K_eq _ er, e2]
      · have := cut_lo_len (s := s) (k := 7 - k) (by omega)
        rw [show ((7 - k : Nat) : Int) = 7 - (k : Int) by omega] at this
        exact ⟨hs.cut _ _, by omega, by omega⟩
      · intro e
        have ea := cut_lo_len (s := s) (k := 7 - a) (by omega)
        have eb := cut_lo_len (s := s) (k := 7 - b) (by omega)
        rw [show ((7 - a : Nat) : Int) = 7 - (a : Int) by omega] at ea
        rw [show ((7 - b : Nat) : Int) = 7 - (b : Int) by omega] at eb
        rw [e, eb] at ea
        omega
    · have hs2 := hs.cut none (some (c / 6 % 7))
      have hl2 : (cutS s none (some (c / 6 % 7))).length ≤ 6 := by
        have := cut_hi_len (s := s) (k := (c / 6 % 7).toNat) (by omega)
        rw [show (((c / 6 % 7).toNat : Nat) : Int) = c / 6 % 7 by omega] at this
        omega
      generalize hh : cutS s none (some (c / 6 % 7)) = h at hs2 hl2
      have hsok2 := hs2.sok (by omega)
      have n0 : ¬ (c % 6 = 0) ∨ ¬ (m < 9) := by
        by_cases q : c % 6 = 0
        · exact .inr fun z => a0 ⟨q, z⟩
        · exact .inl q
      have n1 : ¬ (c % 6 = 1) ∨ ¬ (m < 9) := by
        by_cases q : c % 6 = 1
        · exact .inr fun z => a1 ⟨q, z⟩
        · exact .inl q
      have hm : (0 : Int) < (h.length : Int) + 1 := by omega
      have es : slK3 (.str s) none (some (c / 6 % 7)) = some (.str h) := by rw [slK3_str _ _ _ hsok.lim, hh]
      by_cases a2 : c % 6 < 4 ∧ m < 27
      · have ho1 := hs2.cut none (some (c / 5 % ((h.length : Int) + 1)))
        have hl3 : (cutS h none (some (c / 5 % ((h.length : Int) + 1)))).length ≤ h.length := (cut_ok hsok2 _ _).2
        generalize h3 : cutS h none (some (c / 5 % ((h.length : Int) + 1))) = lf at ho1 hl3
        have ho2 := hs2.cut (some (lf.length : Int)) none
        have hl4 := cut_lo_len (s := h) hl3
        generalize h4 : cutS h (some (lf.length : Int)) none = rt at ho2 hl4
        have hsokl := ho1.sok (by omega)
        let a : Nat → Nat := fun k => 97 + ((c / 7 + 7 * (k : Int)) % 26).toNat
        have ha : ∀ k : Nat, ixD (.str abc) (.int ((c / 7 + 7 * (k : Int)) % 26)) = some (.str ⟨#[a k]⟩) := fun k => abc_at (by omega) (by omega)
        have e2 := lc_range (i := 5) (δ := [.val (.int c), .val (.int m), .val (.str abc), .val (.str h), .val (.int r), x, .val (.int (c % 6)), .val (.str lf), .val (.str rt)]) (fe := (e2 addD (e2 addD (eVar 7) (e2 ixD (eVar 2) (e2 modD (e2 addD (e2 divD (eVar 0) (eC (.int 7))) (e2 mulD (eC (.int 7)) (eVar 5))) (eC (.int 26))))) (eVar 8))) (m := m.toNat) (fun k : Nat => (lf ++ ⟨#[a k]⟩) ++ rt) (fun k hk => by
          have em : mulD (.int 7) (.int (k : Int)) = some (.int (7 * (k : Int))) := by rw [mulD_int, if_pos (by simp)]
          have ea := ha k
          have ed1 : addD (.str lf) (.str ⟨#[a k]⟩) = some (.str (lf ++ ⟨#[a k]⟩)) := addD_str _ _ (by rw [len_one, lim_eq]; omega)
          have ed2 : addD (.str (lf ++ ⟨#[a k]⟩)) (.str rt) = some (.str (lf ++ ⟨#[a k]⟩ ++ rt)) := addD_str _ _ (by rw [len_append, len_one, lim_eq]; omega)
          simp [em, ea, ed1, ed2]) lm
        refine ⟨(List.range m.toNat).map fun k : Nat => (lf ++ ⟨#[a k]⟩) ++ rt, run _ ?_, nmok_of h0 (fun k hk => ?_) fun i j hij hj => ?_⟩
        · unfold g__law_names
          simp [e0, r1K_eq _ (show -(2 ^ 62) ≤ (8 : Int) ∧ (8 : Int) < 2 ^ 62 by omega)]
          rw [e1]
          rcases n0 with q0 | q0 <;> rcases n1 with q1 | q1 <;> simp [q0, q1, es, a2.1, a2.2, r1K_eq _ er, lenD_str _ hsok2.lim, lenD_str _ hsokl.lim, hm, slK3_str _ _ _ hsok2.lim, h3, h4, e2, oNone]
        · refine ⟨(ho1.append (Low.one (by omega))).append ho2, ?_, ?_⟩ <;> rw [len_append, len_append, len_one] <;> omega
        · intro e
          have e' := congrArg (fun z : Str => z.cps.toList) e
          simp only [cps_append, List.append_assoc, List.append_cancel_left_eq] at e'
          have e3 : a i = a j := by
            have := congrArg List.head? e'
            simpa using this
          have e4 : ((c / 7 + 7 * (i : Int)) % 26).toNat = ((c / 7 + 7 * (j : Int)) % 26).toNat := Nat.add_left_cancel e3
          omega
      · have n2 : ¬ (c % 6 < 4) ∨ ¬ (m < 27) := by
          by_cases q : c % 6 < 4
          · exact .inr fun z => a2 ⟨q, z⟩
          · exact .inl q
        let a : Nat → Nat := fun k => 97 + ((k : Int) / 26).toNat
        let b : Nat → Nat := fun k => 97 + ((k : Int) % 26).toNat
        have ha : ∀ k : Nat, (k : Int) < m → ixD (.str abc) (.int ((k : Int) / 26)) = some (.str ⟨#[a k]⟩) := fun k hk => abc_at (by omega) (by omega)
        have hb : ∀ k : Nat, ixD (.str abc) (.int ((k : Int) % 26)) = some (.str ⟨#[b k]⟩) := fun k => abc_at (by omega) (by omega)
        have e2 := lc_range (i := 5) (δ := [.val (.int c), .val (.int m), .val (.str abc), .val (.str h), .val (.int r), x, .val (.int (c % 6)), .un, .un]) (fe := (e2 addD (e2 addD (eVar 3) (e2 ixD (eVar 2) (e2 divD (eVar 5) (eC (.int 26))))) (e2 ixD (eVar 2) (e2 modD (eVar 5) (eC (.int 26)))))) (m := m.toNat) (fun k : Nat => (h ++ ⟨#[a k]⟩) ++ ⟨#[b k]⟩) (fun k hk => by
          have ea := ha k (by omega)
          have eb := hb k
          have ed1 : addD (.str h) (.str ⟨#[a k]⟩) = some (.str (h ++ ⟨#[a k]⟩)) := addD_str _ _ (by rw [len_one, lim_eq]; omega)
          have ed2 : addD (.str (h ++ ⟨#[a k]⟩)) (.str ⟨#[b k]⟩) = some (.str (h ++ ⟨#[a k]⟩ ++ ⟨#[b k]⟩)) := addD_str _ _ (by rw [len_append, len_one, len_one, lim_eq]; omega)
          simp [ea, eb, ed1, ed2]) lm
        refine ⟨(List.range m.toNat).map fun k : Nat => (h ++ ⟨#[a k]⟩) ++ ⟨#[b k]⟩, run _ ?_, nmok_of h0 (fun k hk => ?_) fun i j hij hj => ?_⟩
        · unfold g__law_names
          simp [e0, r1K_eq _ (show -(2 ^ 62) ≤ (8 : Int) ∧ (8 : Int) < 2 ^ 62 by omega)]
          rw [e1]
          rcases n0 with q0 | q0 <;> rcases n1 with q1 | q1 <;> rcases n2 with q2 | q2 <;> simp [q0, q1, q2, es, r1K_eq _ er, e2, oNone]
        · refine ⟨(hs2.append (Low.one (by omega))).append (Low.one (by omega)), ?_, ?_⟩ <;> rw [len_append, len_append, len_one, len_one] <;> omega
        · intro e
          have e' := congrArg (fun z : Str => z.cps.toList) e
          simp only [cps_append, List.append_assoc, List.append_cancel_left_eq] at e'
          have e3 : a i = a j ∧ b i = b j := by simpa using e'
          have e4 : ((i : Int) / 26).toNat = ((j : Int) / 26).toNat := Nat.add_left_cancel e3.1
          have e5 : ((i : Int) % 26).toNat = ((j : Int) % 26).toNat := Nat.add_left_cancel e3.2
          omega
end K02

set_option Elab.async false
set_option linter.all false
set_option maxRecDepth 100000
set_option maxHeartbeats 4000000
/-! The order of the nodes; the parts. -/
namespace Hall
open PySem PySem.Spec L2 Pd Hd
def innerOf (nds : List Nd) (k : Nat) : List Nat := match nds[k]? with
  | some n => n.inner
  | none => []
def pre (nds : List Nd) : Nat → Nat → List Nat
  | 0, _ => []
  | f + 1, k => k :: (innerOf nds k).flatMap (pre nds f)
def P (nds : List Nd) (k : Nat) : List Nat := pre nds 8 k
def deepOf (nds : List Nd) (k : Nat) : Int := match nds[k]? with
  | some n => n.deep
  | none => 0
def upOf (nds : List Nd) (k : Nat) : Nat := match nds[k]? with
  | some n => n.up.toNat
  | none => 0
def wdOf (nds : List Nd) (k : Nat) : Bool := match nds[k]? with
  | some n => n.wd
  | none => false
def clOf (nds : List Nd) (k : Nat) : Int := match nds[k]? with
  | some n => n.cell
  | none => 0
theorem flatMap_congr' {α β : Type} {f g : α → List β} : ∀ {l : List α}, (∀ x ∈ l, f x = g x) → l.flatMap f = l.flatMap g
  | [], _ => rfl
  | a :: r, h => by rw [List.flatMap_cons, List.flatMap_cons, h a (List.mem_cons_self ..), flatMap_congr' fun x hx => h x (List.mem_cons_of_mem _ hx)]
section
variable {nds : List Nd} (ok : NOk nds)
include ok
theorem inner_lt {k j : Nat} (h : j ∈ innerOf nds k) : k < nds.length ∧ k < j ∧ j < nds.length ∧ deepOf nds j = deepOf nds k + 1 ∧ upOf nds j = k := by
  unfold innerOf at h
  split at h
  · rename_i n hn
    obtain ⟨h1, m, h2, h3, h4⟩ := ok.kid k n j hn h
    refine ⟨(List.getElem?_eq_some_iff.mp hn).1, h1, (List.getElem?_eq_some_iff.mp h2).1, ?_, ?_⟩
    · unfold deepOf; rw [h2, hn]; exact h4
    · unfold upOf; rw [h2]; show m.up.toNat = k; rw [h3]; exact Int.toNat_natCast _
  · cases h
theorem inner_nd (k : Nat) : (innerOf nds k).Nodup := by
  unfold innerOf
  split
  · rename_i n hn
    exact List.Pairwise.imp (fun h => Nat.ne_of_lt h) (ok.inc k n hn)
  · exact List.Pairwise.nil
theorem inner_inc (k : Nat) : (innerOf nds k).Pairwise (· < ·) := by
  unfold innerOf
  split
  · rename_i n hn
    exact ok.inc k n hn
  · exact List.Pairwise.nil
theorem inner_8 (k : Nat) : (innerOf nds k).length ≤ 8 := by
  unfold innerOf
  split
  · rename_i n hn
    exact ok.few k n hn
  · exact Nat.zero_le _
theorem deep_le {k : Nat} (h : k < nds.length) : 1 ≤ deepOf nds k ∧ deepOf nds k ≤ 7 ∧ (wdOf nds k = true → deepOf nds k ≤ 6) := by
  have hn := List.getElem?_eq_getElem h
  obtain ⟨h1, h2, h3⟩ := ok.deep k _ hn
  unfold deepOf wdOf
  rw [hn]
  exact ⟨h1, h3, h2⟩
theorem inner_nil {k : Nat} (h : wdOf nds k = false) : innerOf nds k = [] := by
  unfold innerOf
  split
  · rename_i n hn
    by_cases hi : n.inner = []
    · exact hi
    · have := ok.wd k n hn hi
      unfold wdOf at h
      rw [hn] at h
      have h : n.wd = false := h
      rw [this] at h
      cases h
  · rfl
theorem pre_stable : ∀ (f k : Nat), k < nds.length → 8 ≤ deepOf nds k + f → pre nds (f + 1) k = pre nds f k := by
  intro f
  induction f with
  | zero =>
    intro k hk h
    have := (deep_le ok hk).2.1
    omega
  | succ f ih =>
    intro k hk h
    show k :: (innerOf nds k).flatMap (pre nds (f + 1)) = k :: (innerOf nds k).flatMap (pre nds f)
    congr 1
    refine flatMap_congr' fun j hj => ?_
    obtain ⟨_, _, h3, h4, _⟩ := inner_lt ok hj
    exact ih j h3 (by omega)
theorem P_eq {k : Nat} (hk : k < nds.length) : P nds k = k :: (innerOf nds k).flatMap (P nds) := by
  unfold P
  show k :: (innerOf nds k).flatMap (pre nds 7) = _
  congr 1
  refine flatMap_congr' fun j hj => ?_
  obtain ⟨_, _, h3, h4, _⟩ := inner_lt ok hj
  have := (deep_le ok hk).1
  exact (pre_stable ok 7 j h3 (by omega)).symm
/-- by going up so many times -/
def upN (nds : List Nd) : Nat → Nat → Nat
  | 0, j => j
  | t + 1, j => upN nds t (upOf nds j)
theorem upN_succ (t j : Nat) : upN nds (t + 1) j = upOf nds (upN nds t j) := by
  induction t generalizing j with
  | zero => rfl
  | succ t ih => exact ih (upOf nds j)
theorem pre_up : ∀ (f k j : Nat), k < nds.length → j ∈ pre nds f k → j < nds.length ∧ k ≤ j ∧ ∃ t : Nat, upN nds t j = k ∧ deepOf nds j = deepOf nds k + t := by
  intro f
  induction f with
  | zero => intro k j _ h; cases h
  | succ f ih =>
    intro k j hk h
    rcases List.mem_cons.mp h with rfl | h
    · exact ⟨hk, Nat.le_refl _, 0, rfl, by simp⟩
    · obtain ⟨i, hi, hj⟩ := List.mem_flatMap.mp h
      obtain ⟨_, h2, h3, h4, h5⟩ := inner_lt ok hi
      obtain ⟨g1, g2, t, g3, g4⟩ := ih i j h3 hj
      refine ⟨g1, by omega, t + 1, ?_, by omega⟩
      rw [upN_succ ok, g3, h5]
theorem pre_nd : ∀ (f k : Nat), k < nds.length → (pre nds f k).Nodup := by
  intro f
  induction f with
  | zero => intro k _; exact List.Pairwise.nil
  | succ f ih =>
    intro k hk
    show (k :: (innerOf nds k).flatMap (pre nds f)).Nodup
    rw [List.nodup_cons]
    refine ⟨fun h => ?_, ?_⟩
    · obtain ⟨i, hi, hj⟩ := List.mem_flatMap.mp h
      obtain ⟨_, h2, h3, _, _⟩ := inner_lt ok hi
      have := (pre_up ok f i k h3 hj).2.1
      omega
    · rw [List.Nodup, List.pairwise_flatMap]
      refine ⟨fun i hi => ih i (inner_lt ok hi).2.2.1, ?_⟩
      refine List.Pairwise.imp_of_mem (fun {i i'} hi hi' hne x hx y hy e => ?_) (inner_nd ok k)
      subst e
      obtain ⟨_, _, h3, h4, _⟩ := inner_lt ok hi
      obtain ⟨_, _, h3', h4', _⟩ := inner_lt ok hi'
      obtain ⟨_, _, t, g1, g2⟩ := pre_up ok f i x h3 hx
      obtain ⟨_, _, t', g1', g2'⟩ := pre_up ok f i' x h3' hy
      have : t = t' := by omega
      subst this
      exact hne (g1.symm.trans g1')
theorem P_nd {k : Nat} (hk : k < nds.length) : (P nds k).Nodup := pre_nd ok 8 k hk
theorem P_lt {k j : Nat} (hk : k < nds.length) (h : j ∈ P nds k) : j < nds.length ∧ k ≤ j := let ⟨a, b, _⟩ := pre_up ok 8 k j hk h; ⟨a, b⟩
theorem P_self {k : Nat} (hk : k < nds.length) : k ∈ P nds k := by rw [P_eq ok hk]; exact List.mem_cons_self ..
theorem P_kid {r k j : Nat} (hr : r < nds.length) (hk : k ∈ P nds r) (hj : j ∈ innerOf nds k) : j ∈ P nds r := by
  have key : ∀ (f r : Nat), k ∈ pre nds f r → j ∈ pre nds (f + 1) r := by
    intro f
    induction f with
    | zero => intro r h; cases h
    | succ f ih =>
      intro r h
      rcases List.mem_cons.mp h with rfl | h
      · exact List.mem_cons_of_mem _ (List.mem_flatMap.mpr ⟨j, hj, List.mem_cons_self ..⟩)
      · obtain ⟨i, hi, hx⟩ := List.mem_flatMap.mp h
        exact List.mem_cons_of_mem _ (List.mem_flatMap.mpr ⟨i, hi, ih i hx⟩)
  have := key 8 r hk
  have hd := (deep_le ok hr).1
  rw [pre_stable ok 8 r hr (by omega)] at this
  exact this
theorem pos_len : 0 < nds.length := by
  obtain ⟨n, h, _⟩ := ok.top
  exact (List.getElem?_eq_some_iff.mp h).1
theorem P_all : ∀ (j : Nat), j < nds.length → j ∈ P nds 0 := by
  intro j
  induction j using Nat.strongRecOn with
  | ind j ih =>
    intro hj
    by_cases h0 : j = 0
    · subst h0; exact P_self ok hj
    · have hm := List.getElem?_eq_getElem hj
      obtain ⟨k, n, h1, h2, h3⟩ := ok.par j _ (by omega) hm
      have hi : j ∈ innerOf nds k := by unfold innerOf; rw [h1]; exact h3
      obtain ⟨g1, g2, _⟩ := inner_lt ok hi
      exact P_kid ok (pos_len ok) (ih k g2 g1) hi
end
theorem nodup_len : ∀ (n : Nat) (l : List Nat), l.Nodup → (∀ x ∈ l, x < n) → l.length ≤ n := by
  intro n
  induction n with
  | zero =>
    intro l _ h
    cases l with
    | nil => exact Nat.le_refl _
    | cons a r => exact absurd (h a (List.mem_cons_self ..)) (Nat.not_lt_zero _)
  | succ n ih =>
    intro l nd h
    by_cases hm : n ∈ l
    · have e := List.length_erase_of_mem hm
      have := ih (l.erase n) (nd.erase n) fun x hx => by
        have h1 := (List.Nodup.mem_erase_iff nd).mp hx
        have := h x h1.2
        omega
      have := List.length_pos_of_mem hm
      omega
    · have := ih l nd fun x hx => by
        have h1 := h x hx
        have : x ≠ n := fun e => hm (e ▸ hx)
        omega
      omega
theorem P_len {nds : List Nd} (ok : NOk nds) {k : Nat} (hk : k < nds.length) : (P nds k).length ≤ nds.length := nodup_len _ _ (P_nd ok hk) fun _ h => (P_lt ok hk h).1
theorem len_nodup : ∀ (n : Nat) (l : List Nat), l.Nodup → (∀ x, x < n → x ∈ l) → n ≤ l.length := by
  intro n
  induction n with
  | zero => intro l _ _; exact Nat.zero_le _
  | succ n ih =>
    intro l nd h
    have hm := h n (Nat.lt_succ_self _)
    have e := List.length_erase_of_mem hm
    have := ih (l.erase n) (nd.erase n) fun x hx => (List.Nodup.mem_erase_iff nd).mpr ⟨by omega, h x (by omega)⟩
    have := List.length_pos_of_mem hm
    omega
theorem P_len0 {nds : List Nd} (ok : NOk nds) : (P nds 0).length = nds.length := by
  have h1 := P_len ok (pos_len ok)
  have h2 := len_nodup _ _ (P_nd ok (pos_len ok)) (P_all ok)
  omega
/-! ### parts -/
def manyZ (c : Int) : Int := ([0, 1, 2, 1, 3, 1000000000, c / 6 % 9, c / 6 % 1000000001] : List Int).getD (c % 8).toNat 0
def spanZ (c : Int) : Int := ([3, 1, 1000000000, 2, 1 + c / 6 % 12, 1 + c / 6 % 1000000000] : List Int).getD (c % 6).toNat 1
def ruleS (c : Int) : Str := (["one", "rest", "all"] : List Str).getD (c % 3).toNat "all"
def againS (c : Int) : Str := (["always", "faulted", "never", "faulted"] : List Str).getD (c % 4).toNat "never"
def manyOf (nds : List Nd) (k : Nat) : Int :=
  if k = 0 ∧ 0 < clOf nds k / 3 % 4 then (if manyZ (clOf nds k / 3) + 4 < 1000000000 then manyZ (clOf nds k / 3) + 4 else 1000000000) else manyZ (clOf nds k / 3)
def spanOf (nds : List Nd) (k : Nat) : Int := spanZ (clOf nds k / 24)
def ruleOf (nds : List Nd) (k : Nat) : Str := ruleS (clOf nds k)
def againOf (nds : List Nd) (k : Nat) : Str := againS (clOf nds k)
def nmOf (N : List Str) (k : Nat) : Str := N.getD k ""
def partD (nds : List Nd) (N : List Str) : Nat → Nat → D
  | 0, _ => .none
  | f + 1, k => if wdOf nds k = true then .tuple [.str "warden", .str (nmOf N k), .str (ruleOf nds k), .int (manyOf nds k), .int (spanOf nds k), .tuple ((innerOf nds k).map (partD nds N f))] else .tuple [.str "worker", .str (nmOf N k), .str (againOf nds k)]
def Pt (nds : List Nd) (N : List Str) (k : Nat) : D := partD nds N 8 k
theorem part_stable {nds : List Nd} (ok : NOk nds) (N : List Str) : ∀ (f k : Nat), k < nds.length → 8 ≤ deepOf nds k + f → partD nds N (f + 1) k = partD nds N f k := by
  intro f
  induction f with
  | zero =>
    intro k hk h
    have := (deep_le ok hk).2.1
    omega
  | succ f ih =>
    intro k hk h
    show (if wdOf nds k = true then _ else _) = (if wdOf nds k = true then _ else _)
    by_cases hw : wdOf nds k = true
    · rw [if_pos hw, if_pos hw]
      have : (innerOf nds k).map (partD nds N (f + 1)) = (innerOf nds k).map (partD nds N f) := List.map_congr_left fun j hj => by
        obtain ⟨_, _, h3, h4, _⟩ := inner_lt ok hj
        exact ih j h3 (by omega)
      rw [this]
    · rw [if_neg hw, if_neg hw]
theorem Pt_eq {nds : List Nd} (ok : NOk nds) (N : List Str) {k : Nat} (hk : k < nds.length) : Pt nds N k = if wdOf nds k = true then .tuple [.str "warden", .str (nmOf N k), .str (ruleOf nds k), .int (manyOf nds k), .int (spanOf nds k), .tuple ((innerOf nds k).map (Pt nds N))] else .tuple [.str "worker", .str (nmOf N k), .str (againOf nds k)] := by
  show (if wdOf nds k = true then _ else _) = _
  by_cases hw : wdOf nds k = true
  · rw [if_pos hw, if_pos hw]
    have : (innerOf nds k).map (partD nds N 7) = (innerOf nds k).map (Pt nds N) := List.map_congr_left fun j hj => by
      obtain ⟨_, _, h3, h4, _⟩ := inner_lt ok hj
      have := (deep_le ok hk).1
      exact (part_stable ok N 7 j h3 (by omega)).symm
    rw [this]
  · rw [if_neg hw, if_neg hw]
theorem manyZ_ok (c : Int) : 0 ≤ manyZ c ∧ manyZ c ≤ 1000000000 := by
  have h : c % 8 = 0 ∨ c % 8 = 1 ∨ c % 8 = 2 ∨ c % 8 = 3 ∨ c % 8 = 4 ∨ c % 8 = 5 ∨ c % 8 = 6 ∨ c % 8 = 7 := by omega
  unfold manyZ
  rcases h with h | h | h | h | h | h | h | h <;> rw [h] <;> simp <;> omega
theorem spanZ_ok (c : Int) : 1 ≤ spanZ c ∧ spanZ c ≤ 1000000000 := by
  have h : c % 6 = 0 ∨ c % 6 = 1 ∨ c % 6 = 2 ∨ c % 6 = 3 ∨ c % 6 = 4 ∨ c % 6 = 5 := by omega
  unfold spanZ
  rcases h with h | h | h | h | h | h <;> rw [h] <;> simp <;> omega
theorem manyOf_ok (nds : List Nd) (k : Nat) : 0 ≤ manyOf nds k ∧ manyOf nds k ≤ 1000000000 := by
  have := manyZ_ok (clOf nds k / 3)
  unfold manyOf
  split
  · split <;> omega
  · exact this
theorem spanOf_ok (nds : List Nd) (k : Nat) : 1 ≤ spanOf nds k ∧ spanOf nds k ≤ 1000000000 := spanZ_ok _
theorem ruleS_mem (c : Int) : ruleS c ∈ (["one", "rest", "all"] : List Str) := by
  have h : c % 3 = 0 ∨ c % 3 = 1 ∨ c % 3 = 2 := by omega
  unfold ruleS
  rcases h with h | h | h <;> rw [h] <;> simp
theorem againS_mem (c : Int) : againS c ∈ (["always", "faulted", "never"] : List Str) := by
  have h : c % 4 = 0 ∨ c % 4 = 1 ∨ c % 4 = 2 ∨ c % 4 = 3 := by omega
  unfold againS
  rcases h with h | h | h | h <;> rw [h] <;> simp
end Hall

set_option Elab.async false
set_option linter.all false
set_option maxRecDepth 100000
set_option maxHeartbeats 4000000
namespace K02
open PySem PySem.Spec L2 Pd Hd Hall
theorem nd_inner {nds : List Nd} {k : Nat} (hk : k < nds.length) {δ : List Sl} {i j : Nat} (h0 : eVar i δ = some (.list (nds.map ndD))) (h1 : eVar j δ = some (.int (k : Int))) : e2 getD (e2 ixD (eVar i) (eVar j)) (eC (.str "inner")) δ = some (.list (IN (innerOf nds k))) := by
  have hn := List.getElem?_eq_getElem hk
  refine ((e2_of ((e2_of h0 h1).trans (nd_at hn)) (eC_eq _ _)).trans (g_inner _)).trans ?_
  unfold innerOf
  rw [hn]
theorem nd_wd {nds : List Nd} {k : Nat} (hk : k < nds.length) {δ : List Sl} {i j : Nat} (h0 : eVar i δ = some (.list (nds.map ndD))) (h1 : eVar j δ = some (.int (k : Int))) : e2 getD (e2 ixD (eVar i) (eVar j)) (eC (.str "warden")) δ = some (.bool (wdOf nds k)) := by
  have hn := List.getElem?_eq_getElem hk
  refine ((e2_of ((e2_of h0 h1).trans (nd_at hn)) (eC_eq _ _)).trans (g_wd _)).trans ?_
  unfold wdOf
  rw [hn]
theorem nd_cell {nds : List Nd} {k : Nat} (hk : k < nds.length) {δ : List Sl} {i j : Nat} (h0 : eVar i δ = some (.list (nds.map ndD))) (h1 : eVar j δ = some (.int (k : Int))) : e2 getD (e2 ixD (eVar i) (eVar j)) (eC (.str "cell")) δ = some (.int (clOf nds k)) := by
  have hn := List.getElem?_eq_getElem hk
  refine ((e2_of ((e2_of h0 h1).trans (nd_at hn)) (eC_eq _ _)).trans (g_cell _)).trans ?_
  unfold clOf
  rw [hn]
theorem under_loop {nds : List Nd} (ok : NOk nds) (a : Sl) : ∀ (t : Nat) (w : List Nat) (acc : List Nat) (o : Sl), (∀ k ∈ w, k < nds.length) → (w.flatMap (P nds)).length < t → w.length ≤ 1000 + 8 * acc.length → acc.length + (w.flatMap (P nds)).length ≤ 1000 →
    ∃ o', whileG (e2 neD (eVar 3) (eLst aNil)) b__law_under_1 t [.val (.list (nds.map ndD)), a, .own (IN acc), .val (.list (IN w)), o] = some (.nx [.val (.list (nds.map ndD)), a, .own (IN (acc ++ w.flatMap (P nds))), .val (.list []), o']) := by
  intro t
  induction t with
  | zero => intro w acc o _ h; omega
  | succ t ih =>
    intro w acc o hw ht hl hb
    have et : e2 neD (eVar 3) (eLst aNil) [.val (.list (nds.map ndD)), a, .own (IN acc), .val (.list (IN w)), o] = some (.bool (!decide (w = []))) := by
      simp [neD_of _ _ (IN_fit w) (show fitD (.list []) = true from rfl), IN_eq_nil]
    rw [whileG_succ, et, Option.bind_some, whK_eq]
    cases w with
    | nil => exact ⟨o, by simp [IN]⟩
    | cons k r =>
      rw [decide_eq_false (by simp)]
      simp only [Bool.not_false, if_true]
      have hk := hw k (List.mem_cons_self ..)
      have eP := P_eq ok hk
      have h8 := inner_8 ok k
      have e1 : (IN acc).length < lim := by rw [IN_len, lim_eq]; omega
      have eb : b__law_under_1 [.val (.list (nds.map ndD)), a, .own (IN acc), .val (.list (IN (k :: r))), o] = some (.nx [.val (.list (nds.map ndD)), a, .own (IN (acc ++ [k])), .val (.list (IN (innerOf nds k ++ r))), .val (.int (k : Int))]) := by
        have f1 : gSet 4 (e2 ixD (eVar 3) (eC (.int 0))) [.val (.list (nds.map ndD)), a, .own (IN acc), .val (.list (IN (k :: r))), o] = some (.nx [.val (.list (nds.map ndD)), a, .own (IN acc), .val (.list (IN (k :: r))), .val (.int (k : Int))]) := gSet_of ((e2_of rfl rfl).trans (IN_at (i := 0) rfl))
        have f2 : gApp 2 (eVar 4) [.val (.list (nds.map ndD)), a, .own (IN acc), .val (.list (IN (k :: r))), .val (.int (k : Int))] = some (.nx [.val (.list (nds.map ndD)), a, .own (IN (acc ++ [k])), .val (.list (IN (k :: r))), .val (.int (k : Int))]) := by
          have : IN (acc ++ [k]) = IN acc ++ [.int (k : Int)] := by unfold IN; rw [List.map_append]; rfl
          rw [this]
          simp
          rw [appK_own _ _ _ _ e1]
          rfl
        have f3 : e2 getD (e2 ixD (eVar 0) (eVar 4)) (eC (.str "inner")) [.val (.list (nds.map ndD)), a, .own (IN (acc ++ [k])), .val (.list (IN (k :: r))), .val (.int (k : Int))] = some (.list (IN (innerOf nds k))) := nd_inner hk rfl rfl
        have f4 : eSl (eVar 3) (oSome (eC (.int 1))) oNone [.val (.list (nds.map ndD)), a, .own (IN (acc ++ [k])), .val (.list (IN (k :: r))), .val (.int (k : Int))] = some (.list (IN r)) := by
          have : cutD (IN (k :: r)) (some 1) none = IN r := cut1 _ _
          simp [this]
        unfold b__law_under_1
        rw [gSeq_of f1, gSeq_of f2]
        refine (gSet_of ((e2_of f3 f4).trans (addD_list _ _ (by rw [IN_len, IN_len, lim_eq]; rw [List.length_cons] at hl; omega)))).trans ?_
        have : IN (innerOf nds k ++ r) = IN (innerOf nds k) ++ IN r := by unfold IN; rw [List.map_append]
        rw [this]
        rfl
      rw [eb, Option.bind_some, whB_nx]
      have efl : (innerOf nds k ++ r).flatMap (P nds) = (innerOf nds k).flatMap (P nds) ++ r.flatMap (P nds) := List.flatMap_append
      have ect : (k :: r).flatMap (P nds) = k :: ((innerOf nds k).flatMap (P nds) ++ r.flatMap (P nds)) := by rw [List.flatMap_cons, eP]; rfl
      rw [ect, List.length_cons] at ht hb
      rw [List.length_cons] at hl
      obtain ⟨o', q⟩ := ih (innerOf nds k ++ r) (acc ++ [k]) (.val (.int (k : Int))) (fun j hj => by
        rcases List.mem_append.mp hj with h | h
        · exact (inner_lt ok h).2.2.1
        · exact hw j (List.mem_cons_of_mem _ h)) (by rw [efl]; omega) (by rw [List.length_append, List.length_append, List.length_singleton]; omega) (by rw [efl, List.length_append, List.length_singleton]; omega)
      refine ⟨o', ?_⟩
      rw [q, efl, ect, List.append_assoc]
      rfl
theorem under_eq {nds : List Nd} (ok : NOk nds) (hl : nds.length ≤ 60) {k : Nat} (hk : k < nds.length) : F__law_under [.list (nds.map ndD), .int (k : Int)] = some (.list (IN (P nds k))) := by
  have := P_len ok hk
  have e0 : ([k] : List Nat).flatMap (P nds) = P nds k := by simp
  obtain ⟨o', q⟩ := under_loop ok (.val (.int (k : Int))) 1000 [k] [] .un (by simpa using hk) (by rw [e0]; omega) (by simp) (by rw [e0]; simp; omega)
  rw [e0, List.nil_append] at q
  refine F1 rfl ?_
  unfold g__law_under
  have e1 : (IN [k]) = [PyData.int (k : Int)] := rfl
  rw [e1] at q
  have e2' : IN ([] : List Nat) = [] := rfl
  rw [e2'] at q
  simp
  rw [q]
  simp
theorem many_eq (c : Int) : F__law_many_by [.int c] = some (.int (manyZ c)) := by
  refine F1 rfl ?_
  unfold g__law_many_by manyZ
  have h : c % 8 = 0 ∨ c % 8 = 1 ∨ c % 8 = 2 ∨ c % 8 = 3 ∨ c % 8 = 4 ∨ c % 8 = 5 ∨ c % 8 = 6 ∨ c % 8 = 7 := by omega
  have q8 : modD (.int c) (.int 8) = some (.int (c % 8)) := modD_int _ _ (by omega)
  have q6 : divD (.int c) (.int 6) = some (.int (c / 6)) := divD_int _ _ (by omega)
  rcases h with h | h | h | h | h | h | h | h <;> rw [h] at q8 ⊢ <;> simp [q8, q6] <;> rfl
theorem span_eq (c : Int) : F__law_span_by [.int c] = some (.int (spanZ c)) := by
  refine F1 rfl ?_
  unfold g__law_span_by spanZ
  have h : c % 6 = 0 ∨ c % 6 = 1 ∨ c % 6 = 2 ∨ c % 6 = 3 ∨ c % 6 = 4 ∨ c % 6 = 5 := by omega
  have q8 : modD (.int c) (.int 6) = some (.int (c % 6)) := modD_int _ _ (by omega)
  have q6 : divD (.int c) (.int 6) = some (.int (c / 6)) := divD_int _ _ (by omega)
  rcases h with h | h | h | h | h | h <;> rw [h] at q8 ⊢ <;> simp [q8, q6] <;> rfl
end K02

set_option Elab.async false
set_option linter.all false
set_option maxRecDepth 100000
set_option maxHeartbeats 4000000
namespace K02
open PySem PySem.Spec L2 Pd Hd Hall
theorem name_at {N : List Str} {k : Nat} (hk : k < N.length) : ixD (.list (SL N)) (.int (k : Int)) = some (.str (nmOf N k)) := by
  show atI (SL N) (k : Int) = _
  rw [atI_n]
  unfold SL nmOf
  rw [List.getElem?_map, List.getElem?_eq_getElem hk, List.getD_eq_getElem?_getD, List.getElem?_eq_getElem hk]
  rfl
theorem again_eq (c : Int) {δ : List Sl} {i : Nat} (h : eVar i δ = some (.int c)) : e2 ixD (eLst (aCons (eC (.str "always")) (aCons (eC (.str "faulted")) (aCons (eC (.str "never")) (aCons (eC (.str "faulted")) aNil))))) (e2 modD (eVar i) (eC (.int 4))) δ = some (.str (againS c)) := by
  have q : e2 modD (eVar i) (eC (.int 4)) δ = some (.int (c % 4)) := (e2_of h (eC_eq _ _)).trans (modD_int _ _ (by omega))
  have q2 : eLst (aCons (eC (.str "always")) (aCons (eC (.str "faulted")) (aCons (eC (.str "never")) (aCons (eC (.str "faulted")) aNil)))) δ = some (.list [.str "always", .str "faulted", .str "never", .str "faulted"]) := by simp
  rw [e2_of q2 q]
  have h : c % 4 = 0 ∨ c % 4 = 1 ∨ c % 4 = 2 ∨ c % 4 = 3 := by omega
  unfold againS
  rcases h with h | h | h | h <;> rw [h] <;> rfl
theorem rule_eq (c : Int) {δ : List Sl} {i : Nat} (h : eVar i δ = some (.int c)) : e2 ixD (eLst (aCons (eC (.str "one")) (aCons (eC (.str "rest")) (aCons (eC (.str "all")) aNil)))) (e2 modD (eVar i) (eC (.int 3))) δ = some (.str (ruleS c)) := by
  have q : e2 modD (eVar i) (eC (.int 3)) δ = some (.int (c % 3)) := (e2_of h (eC_eq _ _)).trans (modD_int _ _ (by omega))
  have q2 : eLst (aCons (eC (.str "one")) (aCons (eC (.str "rest")) (aCons (eC (.str "all")) aNil))) δ = some (.list [.str "one", .str "rest", .str "all"]) := by simp
  rw [e2_of q2 q]
  have h : c % 3 = 0 ∨ c % 3 = 1 ∨ c % 3 = 2 := by omega
  unfold ruleS
  rcases h with h | h | h <;> rw [h] <;> rfl
theorem part_loop {rec : List D → Option D} {a b c d e g : Sl} {x y : D} (f : Nat → D) : ∀ (l : List Nat) (acc : List D) (o : Sl), (∀ j ∈ l, rec [x, y, .int (j : Int)] = some (f j)) → acc.length + l.length ≤ 2000 →
    ∃ o', forG 6 (b__law_part_1 rec) (IN l) [.val x, .val y, c, d, e, .val (.tuple acc), o, g] = some (.nx [.val x, .val y, c, d, e, .val (.tuple (acc ++ l.map f)), o', g]) := by
  intro l
  induction l with
  | nil => intro acc o _ _; exact ⟨o, by simp [IN, forG_nil]⟩
  | cons j r ih =>
    intro acc o h hl
    rw [List.length_cons] at hl
    have e1 : b__law_part_1 rec [.val x, .val y, c, d, e, .val (.tuple acc), .val (.int (j : Int)), g] = some (.nx [.val x, .val y, c, d, e, .val (.tuple (acc ++ [f j])), .val (.int (j : Int)), g]) := by
      have q1 : eCall rec (aCons (eVar 0) (aCons (eVar 1) (aCons (eVar 6) aNil))) [.val x, .val y, c, d, e, .val (.tuple acc), .val (.int (j : Int)), g] = some (f j) := h j (List.mem_cons_self ..)
      unfold b__law_part_1
      refine (gSet_of ((e2_of (u := .tuple acc) rfl (eTup1_of q1)).trans (addD_tuple _ _ (by rw [List.length_singleton, lim_eq]; omega)))).trans rfl
    obtain ⟨o', q⟩ := ih (acc ++ [f j]) (.val (.int (j : Int))) (fun i hi => h i (List.mem_cons_of_mem _ hi)) (by rw [List.length_append, List.length_singleton]; omega)
    refine ⟨o', ?_⟩
    show forG 6 (b__law_part_1 rec) (.int (j : Int) :: IN r) _ = _
    rw [forG_cons]
    show (b__law_part_1 rec [.val x, .val y, c, d, e, .val (.tuple acc), .val (.int (j : Int)), g]).bind _ = _
    rw [e1, Option.bind_some, forK_nx, q, List.map_cons, List.append_assoc]
    rfl
theorem gIf_of {ft : FE} {g g' : GS} {δ : List Sl} {b : Bool} (h : ft δ = some (.bool b)) : gIf ft g g' δ = if b then g δ else g' δ := by
  rw [gIf_eq, h, Option.bind_some, ifK_eq]
theorem gRet_of {f : FE} {δ : List Sl} {u : D} (h : f δ = some u) : gRet f δ = some (.rt u) := by
  rw [gRet_eq, h]
  rfl
theorem gSeq_rt {g g' : GS} {δ : List Sl} {d : D} (h : g δ = some (.rt d)) : gSeq g g' δ = some (.rt d) := by
  rw [gSeq_eq, h, Option.bind_some, seqK_rt]
theorem gFor_of {fi : FI} {i : Nat} {body : GS} {δ δ' : List Sl} {ds : List D} (h : fi δ = some ds) (h2 : forG i body ds δ = some (.nx δ')) : gFor fi i body δ = some (.nx δ') := by
  rw [gFor_eq, h, Option.bind_some, forS_eq, h2]
theorem seqD_list (ds : List D) : seqD (.list ds) = some ds := rfl
theorem lpart_eq {nds : List Nd} (ok : NOk nds) {N : List Str} (hN : N.length = nds.length) : ∀ (f k : Nat), k < nds.length → 8 ≤ deepOf nds k + f → F__law_part f [.list (nds.map ndD), .list (SL N), .int (k : Int)] = some (partD nds N f k) := by
  intro f
  induction f with
  | zero =>
    intro k hk h
    have := (deep_le ok hk).2.1
    omega
  | succ f ih =>
    intro k hk h
    refine F1 rfl ?_
    unfold g__law_part
    generalize hx : PyData.list (nds.map ndD) = x
    generalize hy : PyData.list (SL N) = y
    have eN : ixD y (.int (k : Int)) = some (.str (nmOf N k)) := hy ▸ name_at (by omega)
    have hd : (k : Int) = 0 ↔ k = 0 := by omega
    have q1 : ∀ a, e2 getD (e2 ixD (eVar 0) (eVar 2)) (eC (.str "cell")) [.val x, .val y, .val (.int (k : Int)), a, .un, .un, .un, .un] = some (.int (clOf nds k)) := fun a => nd_cell hk (by rw [hx]; rfl) rfl
    have q2 : ∀ a, e2 getD (e2 ixD (eVar 0) (eVar 2)) (eC (.str "warden")) [.val x, .val y, .val (.int (k : Int)), a, .un, .un, .un, .un] = some (.bool (wdOf nds k)) := fun a => nd_wd hk (by rw [hx]; rfl) rfl
    have s1 : gSet 3 (e2 getD (e2 ixD (eVar 0) (eVar 2)) (eC (.str "cell"))) (startD 8 [x, y, .int (k : Int)]) = some (.nx [.val x, .val y, .val (.int (k : Int)), .val (.int (clOf nds k)), .un, .un, .un, .un]) := gSet_of (q1 _)
    rw [gSeq_of s1]
    have s2 : eNot (e2 getD (e2 ixD (eVar 0) (eVar 2)) (eC (.str "warden"))) [.val x, .val y, .val (.int (k : Int)), .val (.int (clOf nds k)), .un, .un, .un, .un] = some (.bool (!wdOf nds k)) := by
      rw [eNot_eq, q2, Option.bind_some, notK_eq]
    show _ = some (if wdOf nds k = true then _ else _)
    cases hw : wdOf nds k with
    | false =>
      rw [hw] at s2
      rw [gSeq_rt (d := .tuple [.str "worker", .str (nmOf N k), .str (againOf nds k)]) (by
        rw [gIf_of s2]
        refine (if_pos rfl).trans (gRet_of ?_)
        rw [eTup_eq, aCons_eq, eC_eq, Option.bind_some, aK_eq, aCons_eq, e2_of rfl rfl, eN, Option.bind_some, aK_eq, aCons_eq, again_eq (clOf nds k) rfl, Option.bind_some, aK_eq, aNil_eq]
        rfl)]
      rfl
    | true =>
      rw [hw] at s2
      rw [gSeq_of (by rw [gIf_of s2]; rfl)]
      have s3 : gSet 4 (e2 ixD (eLst (aCons (eC (.str "one")) (aCons (eC (.str "rest")) (aCons (eC (.str "all")) aNil)))) (e2 modD (eVar 3) (eC (.int 3)))) [.val x, .val y, .val (.int (k : Int)), .val (.int (clOf nds k)), .un, .un, .un, .un] = some (.nx [.val x, .val y, .val (.int (k : Int)), .val (.int (clOf nds k)), .val (.str (ruleOf nds k)), .un, .un, .un]) := gSet_of (rule_eq _ rfl)
      have s4 : gSet 5 (eTup aNil) [.val x, .val y, .val (.int (k : Int)), .val (.int (clOf nds k)), .val (.str (ruleOf nds k)), .un, .un, .un] = some (.nx [.val x, .val y, .val (.int (k : Int)), .val (.int (clOf nds k)), .val (.str (ruleOf nds k)), .val (.tuple []), .un, .un]) := gSet_of rfl
      obtain ⟨o', s5⟩ := part_loop (rec := F__law_part f) (a := .un) (b := .un) (c := .val (.int (k : Int))) (d := .val (.int (clOf nds k))) (e := .val (.str (ruleOf nds k))) (g := .un) (x := x) (y := y) (partD nds N f) (innerOf nds k) [] .un (fun j hj => by
        obtain ⟨_, _, h3, h4, _⟩ := inner_lt ok hj
        rw [← hx, ← hy]
        exact ih j h3 (by omega)) (by have := inner_8 ok k; simp; omega)
      rw [List.nil_append] at s5
      have si : iSeq (e2 getD (e2 ixD (eVar 0) (eVar 2)) (eC (.str "inner"))) [.val x, .val y, .val (.int (k : Int)), .val (.int (clOf nds k)), .val (.str (ruleOf nds k)), .val (.tuple []), .un, .un] = some (IN (innerOf nds k)) := by
        unfold iSeq
        rw [nd_inner hk (by rw [hx]; rfl) rfl]
        rfl
      generalize hP : (innerOf nds k).map (partD nds N f) = ps at s5
      have c3 : ∀ (s7 : Sl), e2 divD (eVar 3) (eC (.int 3)) [.val x, .val y, .val (.int (k : Int)), .val (.int (clOf nds k)), .val (.str (ruleOf nds k)), .val (.tuple ps), o', s7] = some (.int (clOf nds k / 3)) := fun s7 => (e2_of rfl (eC_eq _ _)).trans (divD_int _ _ (by omega))
      have s6 : gSet 7 (eCall (F__law_many_by) (aCons (e2 divD (eVar 3) (eC (.int 3))) aNil)) [.val x, .val y, .val (.int (k : Int)), .val (.int (clOf nds k)), .val (.str (ruleOf nds k)), .val (.tuple ps), o', .un] = some (.nx [.val x, .val y, .val (.int (k : Int)), .val (.int (clOf nds k)), .val (.str (ruleOf nds k)), .val (.tuple ps), o', .val (.int (manyZ (clOf nds k / 3)))]) := gSet_of (by
        rw [eCall_eq, aCons_eq, c3, Option.bind_some, aK_eq, aNil_eq]
        exact many_eq _)
      have s7 : gIf (eAnd (e2 eqD (eVar 2) (eC (.int 0))) (e2 gtD (e2 modD (e2 divD (eVar 3) (eC (.int 3))) (eC (.int 4))) (eC (.int 0)))) (gSet 7 (eCB minD (aCons (e2 powD (eC (.int 10)) (eC (.int 9))) (aCons (e2 addD (eVar 7) (eC (.int 4))) aNil)))) gNil [.val x, .val y, .val (.int (k : Int)), .val (.int (clOf nds k)), .val (.str (ruleOf nds k)), .val (.tuple ps), o', .val (.int (manyZ (clOf nds k / 3)))] = some (.nx [.val x, .val y, .val (.int (k : Int)), .val (.int (clOf nds k)), .val (.str (ruleOf nds k)), .val (.tuple ps), o', .val (.int (manyOf nds k))]) := by
        have t1 : eAnd (e2 eqD (eVar 2) (eC (.int 0))) (e2 gtD (e2 modD (e2 divD (eVar 3) (eC (.int 3))) (eC (.int 4))) (eC (.int 0))) [.val x, .val y, .val (.int (k : Int)), .val (.int (clOf nds k)), .val (.str (ruleOf nds k)), .val (.tuple ps), o', .val (.int (manyZ (clOf nds k / 3)))] = some (.bool (decide (k = 0) && decide (0 < clOf nds k / 3 % 4))) := by
          have u1 : e2 eqD (eVar 2) (eC (.int 0)) [.val x, .val y, .val (.int (k : Int)), .val (.int (clOf nds k)), .val (.str (ruleOf nds k)), .val (.tuple ps), o', .val (.int (manyZ (clOf nds k / 3)))] = some (.bool (decide (k = 0))) := (e2_of rfl rfl).trans (eqD_deep k)
          have u2 : e2 gtD (e2 modD (e2 divD (eVar 3) (eC (.int 3))) (eC (.int 4))) (eC (.int 0)) [.val x, .val y, .val (.int (k : Int)), .val (.int (clOf nds k)), .val (.str (ruleOf nds k)), .val (.tuple ps), o', .val (.int (manyZ (clOf nds k / 3)))] = some (.bool (decide (0 < clOf nds k / 3 % 4))) := (e2_of ((e2_of (c3 _) (eC_eq _ _)).trans (modD_int _ _ (by omega))) (eC_eq _ _)).trans rfl
          rw [eAnd_eq, u1, Option.bind_some, andK_eq, u2]
          by_cases h0 : k = 0 <;> simp [h0]
        rw [gIf_of t1]
        by_cases hc : k = 0 ∧ 0 < clOf nds k / 3 % 4
        · rw [decide_eq_true hc.1, decide_eq_true hc.2]
          have e : manyOf nds k = if manyZ (clOf nds k / 3) + 4 < 1000000000 then manyZ (clOf nds k / 3) + 4 else 1000000000 := if_pos hc
          rw [e]
          refine (if_pos rfl).trans ((gSet_of (u := .int (if manyZ (clOf nds k / 3) + 4 < 1000000000 then manyZ (clOf nds k / 3) + 4 else 1000000000)) ?_).trans rfl)
          simp
        · have e : manyOf nds k = manyZ (clOf nds k / 3) := if_neg hc
          have e2 : (decide (k = 0) && decide (0 < clOf nds k / 3 % 4)) = false := by
            rw [Bool.eq_false_iff]
            intro hb
            rw [Bool.and_eq_true, decide_eq_true_eq, decide_eq_true_eq] at hb
            exact hc hb
          rw [e, e2]
          rfl
      have s8 : eCall (F__law_span_by) (aCons (e2 divD (eVar 3) (eC (.int 24))) aNil) [.val x, .val y, .val (.int (k : Int)), .val (.int (clOf nds k)), .val (.str (ruleOf nds k)), .val (.tuple ps), o', .val (.int (manyOf nds k))] = some (.int (spanOf nds k)) := by
        have : e2 divD (eVar 3) (eC (.int 24)) [.val x, .val y, .val (.int (k : Int)), .val (.int (clOf nds k)), .val (.str (ruleOf nds k)), .val (.tuple ps), o', .val (.int (manyOf nds k))] = some (.int (clOf nds k / 24)) := (e2_of rfl (eC_eq _ _)).trans (divD_int _ _ (by omega))
        rw [eCall_eq, aCons_eq, this, Option.bind_some, aK_eq, aNil_eq]
        exact span_eq _
      rw [gSeq_of s3, gSeq_of s4, gSeq_of (gFor_of si s5), gSeq_of s6, gSeq_of s7]
      rw [gRet_of (u := .tuple [.str "warden", .str (nmOf N k), .str (ruleOf nds k), .int (manyOf nds k), .int (spanOf nds k), .tuple ps]) (by
        rw [eTup_eq, aCons_eq, eC_eq, Option.bind_some, aK_eq, aCons_eq, e2_of rfl rfl, eN, Option.bind_some, aK_eq, aCons_eq, show eVar 4 [.val x, .val y, .val (.int (k : Int)), .val (.int (clOf nds k)), .val (.str (ruleOf nds k)), .val (.tuple ps), o', .val (.int (manyOf nds k))] = some (.str (ruleOf nds k)) from rfl, Option.bind_some, aK_eq, aCons_eq, show eVar 7 [.val x, .val y, .val (.int (k : Int)), .val (.int (clOf nds k)), .val (.str (ruleOf nds k)), .val (.tuple ps), o', .val (.int (manyOf nds k))] = some (.int (manyOf nds k)) from rfl, Option.bind_some, aK_eq, aCons_eq, s8, Option.bind_some, aK_eq, aCons_eq]
        rfl)]
      rfl
end K02

set_option Elab.async false
set_option linter.all false
set_option maxRecDepth 100000
set_option maxHeartbeats 4000000
namespace K02
open PySem PySem.Spec L2 Pd Hd Hall
structure HallOk (nds : List Nd) (N : List Str) : Prop where
  ok : NOk nds
  full : Full nds
  few : nds.length ≤ 60
  len : N.length = nds.length
  nm : ∀ s ∈ N, SOk s ∧ nameB (.str s) = true
  nd : N.Nodup
def hallD (nds : List Nd) (N : List Str) : D := .dict [(.str "nodes", .list (nds.map ndD)), (.str "names", .list (SL N)), (.str "parts", .list ((List.range nds.length).map (Pt nds N))), (.str "plan", Pt nds N 0), (.str "order", .list (IN (P nds 0)))]
theorem house_eq (ns : List Int) : ∃ (nds : List Nd) (N : List Str), F__law_house [.list (ns.map PyData.int)] = some (hallD nds N) ∧ HallOk nds N := by
  have q0 := cell_eq' ns 0 (by omega)
  have q1 := cell_eq' ns 1 (by omega)
  let c := cellZ ns 0
  let m : Int := if c / 9 % 12 = 1 then 30 else 2 + c % 9
  have hm : 2 ≤ m ∧ m ≤ 30 := by
    show 2 ≤ (if c / 9 % 12 = 1 then (30 : Int) else 2 + c % 9) ∧ (if c / 9 % 12 = 1 then (30 : Int) else 2 + c % 9) ≤ 30
    split <;> omega
  obtain ⟨nds, en, ok, full, hl⟩ := nodes_eq ns m hm.1 hm.2
  obtain ⟨N, eN, nk⟩ := names_eq2 (cellZ ns 1) (nds.length : Int) (by omega) (by omega)
  have hN : N.length = nds.length := by have := nk.len; omega
  refine ⟨nds, N, ?_, ok, full, hl, hN, nk.name, nk.nd⟩
  refine F1 rfl ?_
  unfold g__law_house
  generalize hsc : PyData.list (ns.map PyData.int) = sc at *
  have s1 : gSet 1 (eCall (F__law_cell_at) (aCons (eVar 0) (aCons (eC (.int 0)) aNil))) (startD 7 [sc]) = some (.nx [.val sc, .val (.int c), .un, .un, .un, .un, .un]) := gSet_of q0
  have s2 : gSet 2 (e2 addD (eC (.int 2)) (e2 modD (eVar 1) (eC (.int 9)))) [.val sc, .val (.int c), .un, .un, .un, .un, .un] = some (.nx [.val sc, .val (.int c), .val (.int (2 + c % 9)), .un, .un, .un, .un]) := gSet_of ((e2_of (eC_eq _ _) ((e2_of rfl (eC_eq _ _)).trans (modD_int _ _ (by omega)))).trans (addD_int _ _))
  have s3 : gIf (e2 eqD (e2 modD (e2 divD (eVar 1) (eC (.int 9))) (eC (.int 12))) (eC (.int 1))) (gSet 2 (eC (.int 30))) gNil [.val sc, .val (.int c), .val (.int (2 + c % 9)), .un, .un, .un, .un] = some (.nx [.val sc, .val (.int c), .val (.int m), .un, .un, .un, .un]) := by
    have t1 : e2 divD (eVar 1) (eC (.int 9)) [.val sc, .val (.int c), .val (.int (2 + c % 9)), .un, .un, .un, .un] = some (.int (c / 9)) := (e2_of rfl (eC_eq _ _)).trans (divD_int _ _ (by omega))
    have t2 := (e2_of t1 (eC_eq (.int 12) [.val sc, .val (.int c), .val (.int (2 + c % 9)), .un, .un, .un, .un])).trans (modD_int _ _ (by omega))
    have t3 : e2 eqD (e2 modD (e2 divD (eVar 1) (eC (.int 9))) (eC (.int 12))) (eC (.int 1)) [.val sc, .val (.int c), .val (.int (2 + c % 9)), .un, .un, .un, .un] = some (.bool (c / 9 % 12 == 1)) := (e2_of t2 (eC_eq _ _)).trans rfl
    rw [gIf_of t3]
    show _ = some (Out.nx [.val sc, .val (.int c), .val (.int (if c / 9 % 12 = 1 then 30 else 2 + c % 9)), .un, .un, .un, .un])
    by_cases h : c / 9 % 12 = 1
    · rw [if_pos h, if_pos (by rw [h]; rfl)]; rfl
    · rw [if_neg h, if_neg (by simpa using h)]; rfl
  have s4 : gSet 3 (eCall (F__law_nodes) (aCons (eVar 0) (aCons (eVar 2) aNil))) [.val sc, .val (.int c), .val (.int m), .un, .un, .un, .un] = some (.nx [.val sc, .val (.int c), .val (.int m), .val (.list (nds.map ndD)), .un, .un, .un]) := gSet_of en
  generalize hnd : PyData.list (nds.map ndD) = nD at *
  have len3 : ∀ δ : List Sl, eVar 3 δ = some nD → aCons (eCB lenD (aCons (eVar 3) aNil)) aNil δ = some [.int (nds.length : Int)] := fun δ h => by
    rw [aCons_eq, eCB_eq, aCons_eq, h, ← hnd]
    simp
  have s5 : gSet 4 (eCall (F__law_names) (aCons (eCall (F__law_cell_at) (aCons (eVar 0) (aCons (eC (.int 1)) aNil))) (aCons (eCB lenD (aCons (eVar 3) aNil)) aNil))) [.val sc, .val (.int c), .val (.int m), .val nD, .un, .un, .un] = some (.nx [.val sc, .val (.int c), .val (.int m), .val nD, .val (.list (SL N)), .un, .un]) := gSet_of (by
    rw [eCall_eq, aCons_eq, show eCall (F__law_cell_at) (aCons (eVar 0) (aCons (eC (.int 1)) aNil)) [.val sc, .val (.int c), .val (.int m), .val nD, .un, .un, .un] = F__law_cell_at [sc, .int 1] from rfl, q1, Option.bind_some, aK_eq, len3 _ rfl]
    exact eN)
  have ep : ∀ k, k < nds.length → F__law_part 10 [nD, .list (SL N), .int (k : Int)] = some (Pt nds N k) := fun k hk => by
    have hd := (deep_le ok hk).1
    have e := lpart_eq ok hN 10 k hk (by omega)
    rw [part_stable ok N 9 k hk (by omega), part_stable ok N 8 k hk (by omega)] at e
    rw [← hnd]
    exact e
  have s6 : gSet 5 (eLc (iR1 (aCons (eCB lenD (aCons (eVar 3) aNil)) aNil)) 6 (eC (.bool true)) (eCall (F__law_part 10) (aCons (eVar 3) (aCons (eVar 4) (aCons (eVar 6) aNil))))) [.val sc, .val (.int c), .val (.int m), .val nD, .val (.list (SL N)), .un, .un] = some (.nx [.val sc, .val (.int c), .val (.int m), .val nD, .val (.list (SL N)), .val (.list ((List.range nds.length).map (Pt nds N))), .un]) := gSet_of (by
    rw [eLc_eq, iR1_eq, len3 _ rfl, Option.bind_some, r1K_eq _ (by omega), Option.bind_some, Int.toNat_natCast]
    rw [lcQ_map (fun d => match d with | .int i => Pt nds N i.toNat | _ => .none) (fun d hd => ?_) (by unfold rangeD; rw [List.length_map, List.length_range, lim_eq]; omega)]
    · unfold rangeD
      rw [List.map_map]
      congr 2
      apply List.map_congr_left
      intro k _
      show Pt nds N (0 + (k : Int)).toNat = _
      rw [Int.zero_add, Int.toNat_natCast]
    · obtain ⟨k, hk, rfl⟩ := mem_rangeD hd
      rw [Int.zero_add]
      exact (ep k hk).trans (by
        show _ = some (Pt nds N ((k : Int)).toNat)
        rw [Int.toNat_natCast]))
  have hp : 0 < nds.length := pos_len ok
  have e0 : ixD (.list ((List.range nds.length).map (Pt nds N))) (.int 0) = some (Pt nds N 0) := by
    show atI _ ((0 : Nat) : Int) = _
    rw [atI_n, List.getElem?_map, List.getElem?_range hp]
    rfl
  have eu : F__law_under [nD, .int 0] = some (.list (IN (P nds 0))) := hnd ▸ under_eq ok hl hp
  rw [gSeq_of s1, gSeq_of s2, gSeq_of s3, gSeq_of s4, gSeq_of s5, gSeq_of s6]
  have s7 : eDict [("nodes", (eVar 3)), ("names", (eVar 4)), ("parts", (eVar 5)), ("plan", (e2 ixD (eVar 5) (eC (.int 0)))), ("order", (eCall (F__law_under) (aCons (eVar 3) (aCons (eC (.int 0)) aNil))))] [.val sc, .val (.int c), .val (.int m), .val nD, .val (.list (SL N)), .val (.list ((List.range nds.length).map (Pt nds N))), .un] = some (hallD nds N) := by
    rw [eDict_eq _ _ (by decide +kernel)]
    rw [mapF_cons, show eVar 3 [.val sc, .val (.int c), .val (.int m), .val nD, .val (.list (SL N)), .val (.list ((List.range nds.length).map (Pt nds N))), .un] = some nD from rfl, Option.bind_some, mapK1_eq, mapF_cons, show eVar 4 [.val sc, .val (.int c), .val (.int m), .val nD, .val (.list (SL N)), .val (.list ((List.range nds.length).map (Pt nds N))), .un] = some (.list (SL N)) from rfl, Option.bind_some, mapK1_eq, mapF_cons, show eVar 5 [.val sc, .val (.int c), .val (.int m), .val nD, .val (.list (SL N)), .val (.list ((List.range nds.length).map (Pt nds N))), .un] = some (.list ((List.range nds.length).map (Pt nds N))) from rfl, Option.bind_some, mapK1_eq, mapF_cons, (e2_of rfl (eC_eq _ _)).trans e0, Option.bind_some, mapK1_eq, mapF_cons, show eCall (F__law_under) (aCons (eVar 3) (aCons (eC (.int 0)) aNil)) [.val sc, .val (.int c), .val (.int m), .val nD, .val (.list (SL N)), .val (.list ((List.range nds.length).map (Pt nds N))), .un] = F__law_under [nD, .int 0] from rfl, eu]
    unfold hallD
    rw [hnd]
    rfl
  rw [gRet_of s7]
  rfl
end K02

set_option Elab.async false
set_option linter.all false
set_option maxRecDepth 100000
set_option maxHeartbeats 4000000
namespace K02
open PySem PySem.Spec L2 Pd Hd Hall
section
variable {nds : List Nd} {N : List Str} (h : HallOk nds N)
include h
theorem nm_ok {k : Nat} (hk : k < nds.length) : SOk (nmOf N k) ∧ nameB (.str (nmOf N k)) = true := by
  have hl : k < N.length := by rw [h.len]; exact hk
  unfold nmOf
  rw [List.getD_eq_getElem?_getD, List.getElem?_eq_getElem hl]
  exact h.nm _ (List.getElem_mem hl)
theorem inner_pos {k : Nat} (hk : k < nds.length) (hw : wdOf nds k = true) : 1 ≤ (innerOf nds k).length := by
  have hn := List.getElem?_eq_getElem hk
  unfold wdOf at hw
  unfold innerOf
  rw [hn] at hw ⊢
  exact List.length_pos_iff.mpr (h.full k _ hn hw)
theorem rule_sok (c : Int) : SOk (ruleS c) ∧ (ruleS c).length ≤ 100 := by
  have := ruleS_mem c
  simp only [List.mem_cons, List.not_mem_nil, or_false] at this
  rcases this with e | e | e <;> rw [e] <;> exact ⟨sok_lit _ (by decide +kernel), by decide +kernel⟩
theorem again_sok (c : Int) : SOk (againS c) ∧ (againS c).length ≤ 100 := by
  have := againS_mem c
  simp only [List.mem_cons, List.not_mem_nil, or_false] at this
  rcases this with e | e | e <;> rw [e] <;> exact ⟨sok_lit _ (by decide +kernel), by decide +kernel⟩
theorem nm_len {k : Nat} (hk : k < nds.length) : (nmOf N k).length ≤ 8 := by
  have := (nm_ok h hk).2
  unfold nameB at this
  simp only [Bool.and_eq_true, decide_eq_true_eq] at this
  exact this.1.2
theorem part_gp : ∀ (f n k : Nat), k < nds.length → 8 ≤ deepOf nds k + f → 2 * f ≤ n → Gp n (partD nds N f k) := by
  intro f
  induction f with
  | zero =>
    intro n k hk hd
    have := (deep_le h.ok hk).2.1
    omega
  | succ f ih =>
    intro n k hk hd hn
    obtain ⟨n, rfl⟩ : ∃ m, n = m + 2 := ⟨n - 2, by omega⟩
    have w1 : ∀ {m : Nat}, Gp m (.str "worker") ∧ Gp m (.str "warden") := fun {m} => ⟨.str sokA.1 (by decide +kernel), .str sokA.2 (by decide +kernel)⟩
    have nm : ∀ {m : Nat}, Gp m (.str (nmOf N k)) := fun {m} => .str (nm_ok h hk).1 (by have := nm_len h hk; omega)
    show Gp (n + 2) (if wdOf nds k = true then _ else _)
    split
    · refine .tup (by simp) fun d hd' => ?_
      simp only [List.mem_cons, List.not_mem_nil, or_false] at hd'
      have hm := manyOf_ok nds k
      have hs := spanOf_ok nds k
      rcases hd' with rfl | rfl | rfl | rfl | rfl | rfl
      · exact w1.2
      · exact nm
      · exact .str (rule_sok h _).1 (rule_sok h _).2
      · exact .int hm.1 (by omega)
      · exact .int (by omega) (by omega)
      · refine .tup (by have := inner_8 h.ok k; rw [List.length_map]; omega) fun x hx => ?_
        obtain ⟨j, hj, rfl⟩ := List.mem_map.mp hx
        obtain ⟨_, _, h3, h4, _⟩ := inner_lt h.ok hj
        exact ih n j h3 (by omega) (by omega)
    · refine .tup (by simp) fun d hd' => ?_
      simp only [List.mem_cons, List.not_mem_nil, or_false] at hd'
      rcases hd' with rfl | rfl | rfl
      · exact w1.1
      · exact nm
      · exact .str (again_sok h _).1 (again_sok h _).2

theorem part_tot : ∀ (f k : Nat), k < nds.length → 8 ≤ deepOf nds k + f → tot (partD nds N f k) ≤ 8 * (pre nds f k).length := by
  intro f
  induction f with
  | zero =>
    intro k hk hd
    have := (deep_le h.ok hk).2.1
    omega
  | succ f ih =>
    intro k hk hd
    show tot (if wdOf nds k = true then _ else _) ≤ 8 * (k :: (innerOf nds k).flatMap (pre nds f)).length
    rw [List.length_cons]
    split
    · have key : ∀ l : List Nat, (∀ j ∈ l, j ∈ innerOf nds k) → totL (l.map (partD nds N f)) ≤ 8 * (l.flatMap (pre nds f)).length := by
        intro l
        induction l with
        | nil => intro _; exact Nat.zero_le _
        | cons a r ih2 =>
          intro hl
          obtain ⟨_, _, h3, h4, _⟩ := inner_lt h.ok (hl a (List.mem_cons_self ..))
          have e1 := ih a h3 (by omega)
          have e2 := ih2 fun j hj => hl j (List.mem_cons_of_mem _ hj)
          rw [List.map_cons, List.flatMap_cons, List.length_append]
          simp only [totL]
          omega
      have := key (innerOf nds k) fun _ hj => hj
      simp only [tot, totL]
      omega
    · simp only [tot, totL]
      omega
omit h in
theorem numB_int (lo hi i : Int) : numB lo hi (.int i) = (decide (lo ≤ i) && decide (i ≤ hi)) := rfl
theorem part_ward {k : Nat} (hk : k < nds.length) (hw : wdOf nds k = true) (kids : List D) (hl : kids.length = (innerOf nds k).length) : wardB (.tuple [.str "warden", .str (nmOf N k), .str (ruleOf nds k), .int (manyOf nds k), .int (spanOf nds k), .tuple kids]) = true := by
  have hm := manyOf_ok nds k
  have hs := spanOf_ok nds k
  have h1 := inner_pos h hk hw
  have h2 := inner_8 h.ok k
  have hr := ruleS_mem (clOf nds k)
  show (isS "warden" (.str "warden") && nameB (.str (nmOf N k)) && inS ruL (.str (ruleOf nds k)) && numB 0 1000000000 (.int (manyOf nds k)) && numB 1 1000000000 (.int (spanOf nds k)) && (decide (1 ≤ kids.length) && decide (kids.length ≤ 8))) = true
  rw [(nm_ok h hk).2, numB_int, numB_int, hl, decide_eq_true h1, decide_eq_true h2, decide_eq_true hm.1, decide_eq_true hm.2, decide_eq_true hs.1, decide_eq_true hs.2]
  have e1 : isS "warden" (.str "warden") = true := by decide +kernel
  have e2 : inS ruL (.str (ruleOf nds k)) = true := decide_eq_true hr
  rw [e1, e2]
  rfl
theorem part_work {k : Nat} (hk : k < nds.length) : workB (.tuple [.str "worker", .str (nmOf N k), .str (againOf nds k)]) = true := by
  have hr := againS_mem (clOf nds k)
  show (isS "worker" (.str "worker") && nameB (.str (nmOf N k)) && inS agL (.str (againOf nds k))) = true
  have e1 : isS "worker" (.str "worker") = true := by decide +kernel
  have e2 : inS agL (.str (againOf nds k)) = true := decide_eq_true hr
  rw [(nm_ok h hk).2, e1, e2]
  rfl
theorem part_q : ∀ (f k : Nat), k < nds.length → 8 ≤ deepOf nds k + f → partQ f (partD nds N f k) = true ∧ preQ f (partD nds N f k) = (pre nds f k).map (nmOf N) := by
  intro f
  induction f with
  | zero =>
    intro k hk hd
    have := (deep_le h.ok hk).2.1
    omega
  | succ f ih =>
    intro k hk hd
    by_cases hw : wdOf nds k = true
    · have e : partD nds N (f + 1) k = .tuple [.str "warden", .str (nmOf N k), .str (ruleOf nds k), .int (manyOf nds k), .int (spanOf nds k), .tuple ((innerOf nds k).map (partD nds N f))] := if_pos hw
      have hb := part_ward h hk hw ((innerOf nds k).map (partD nds N f)) (List.length_map _)
      have kd : ∀ j ∈ innerOf nds k, partQ f (partD nds N f j) = true ∧ preQ f (partD nds N f j) = (pre nds f j).map (nmOf N) := fun j hj => by
        obtain ⟨_, _, h3, h4, _⟩ := inner_lt h.ok hj
        exact ih j h3 (by omega)
      rw [e]
      refine ⟨?_, ?_⟩
      · show (workB _ || (wardB _ && ((innerOf nds k).map (partD nds N f)).all (partQ f))) = true
        rw [hb, Bool.true_and]
        have : ((innerOf nds k).map (partD nds N f)).all (partQ f) = true := by
          rw [List.all_map, List.all_eq_true]
          exact fun j hj => (kd j hj).1
        rw [this, Bool.or_true]
      · show nmOf N k :: ((innerOf nds k).map (partD nds N f)).flatMap (preQ f) = (k :: (innerOf nds k).flatMap (pre nds f)).map (nmOf N)
        rw [List.map_cons, List.flatMap_map, List.map_flatMap]
        congr 1
        exact flatMap_congr' fun j hj => (kd j hj).2
    · have hi := inner_nil h.ok (by simpa using hw : wdOf nds k = false)
      have e : partD nds N (f + 1) k = .tuple [.str "worker", .str (nmOf N k), .str (againOf nds k)] := if_neg hw
      rw [e]
      refine ⟨?_, ?_⟩
      · show (workB _ || _) = true
        rw [part_work h hk]
        rfl
      · show nmOf N k :: ([] : List D).flatMap (preQ f) = (k :: (innerOf nds k).flatMap (pre nds f)).map (nmOf N)
        rw [hi]
        rfl
theorem top_wd : wdOf nds 0 = true := by
  obtain ⟨n, h1, h2, _⟩ := h.ok.top
  unfold wdOf
  rw [h1]
  exact h2
theorem top_deep : deepOf nds 0 = 1 := by
  obtain ⟨n, h1, _, _, h2⟩ := h.ok.top
  unfold deepOf
  rw [h1]
  exact h2
theorem plan_facts : Gp 30 (Pt nds N 0) ∧ tot (Pt nds N 0) < 490 ∧ partQ 7 (Pt nds N 0) = true ∧ wardB (Pt nds N 0) = true ∧ preQ 7 (Pt nds N 0) = (P nds 0).map (nmOf N) := by
  have hp := pos_len h.ok
  have hd := top_deep h
  have e7 : Pt nds N 0 = partD nds N 7 0 := part_stable h.ok N 7 0 hp (by omega)
  have ep : P nds 0 = pre nds 7 0 := pre_stable h.ok 7 0 hp (by omega)
  refine ⟨part_gp h 8 30 0 hp (by omega) (by omega), ?_, ?_, ?_, ?_⟩
  · have := part_tot h 8 0 hp (by omega)
    have hl := P_len h.ok hp
    have hf := h.few
    have e : tot (Pt nds N 0) ≤ 8 * (P nds 0).length := this
    omega
  · rw [e7]; exact (part_q h 7 0 hp (by omega)).1
  · rw [Pt_eq h.ok N hp, if_pos (top_wd h)]
    exact part_ward h hp (top_wd h) _ (List.length_map _)
  · rw [e7, ep]; exact (part_q h 7 0 hp (by omega)).2
end
theorem house_ok (ns : List Int) : HouseOk ns := by
  obtain ⟨nds, N, e, h⟩ := house_eq ns
  obtain ⟨g, t, q, w, _⟩ := plan_facts h
  exact ⟨Pt nds N 0, hallD nds N, e, rfl, g, t, fun c => twice_eq g t q w c⟩
theorem law_true (ns : List Int) : F_law [.list (ns.map PyData.int)] = some (.bool true) := law_true_of ns (house_ok ns)
end K02

set_option Elab.async false
set_option linter.all false
set_option maxRecDepth 100000
set_option maxHeartbeats 4000000
namespace K02
open PySem PySem.Spec PyProof.Rows L2 Pd
theorem all_mk {K : PySem.W.Frag} {h : Heap} {mg : Str → Option Value} (X : K.In h) (G : h.Ns mainGlobals mg) {f0 f1 f2 f3 f4 f5 f6 f7 f8 f9 f10 f11 f12 f13 f14 f15 f16 f17 f18 f19 f20 f21 f22 f23 f24 f25 f26 p_AGAINS p_RULES : Addr}
    {od0 an0 od1 an1 od2 an2 od3 an3 od4 an4 od5 an5 od6 an6 od7 an7 od8 an8 od9 an9 od10 an10 od11 an11 od12 an12 od13 an13 od14 an14 od15 an15 od16 an16 od17 an17 od18 an18 od19 an19 od20 an20 od21 an21 od22 an22 od23 an23 od24 an24 od25 an25 od26 an26 : Option Addr} {sl0 sl1 sl2 sl3 sl4 sl5 sl6 sl7 sl8 sl9 sl10 sl11 sl12 sl13 sl14 sl15 sl16 sl17 sl18 sl19 sl20 sl21 sl22 sl23 sl24 sl25 sl26 : Array (Option Value)} {oc0 kV0 dc0 pm0 cd0 ct0 oc1 kV1 dc1 pm1 cd1 ct1 oc2 kV2 dc2 pm2 cd2 ct2 oc3 kV3 dc3 pm3 cd3 ct3 oc4 kV4 dc4 pm4 cd4 ct4 oc5 kV5 dc5 pm5 cd5 ct5 oc6 kV6 dc6 pm6 cd6 ct6 oc7 kV7 dc7 pm7 cd7 ct7 oc8 kV8 dc8 pm8 cd8 ct8 oc9 kV9 dc9 pm9 cd9 ct9 oc10 kV10 dc10 pm10 cd10 ct10 oc11 kV11 dc11 pm11 cd11 ct11 oc12 kV12 dc12 pm12 cd12 ct12 oc13 kV13 dc13 pm13 cd13 ct13 oc14 kV14 dc14 pm14 cd14 ct14 oc15 kV15 dc15 pm15 cd15 ct15 oc16 kV16 dc16 pm16 cd16 ct16 oc17 kV17 dc17 pm17 cd17 ct17 oc18 kV18 dc18 pm18 cd18 ct18 oc19 kV19 dc19 pm19 cd19 ct19 oc20 kV20 dc20 pm20 cd20 ct20 oc21 kV21 dc21 pm21 cd21 ct21 oc22 kV22 dc22 pm22 cd22 ct22 oc23 kV23 dc23 pm23 cd23 ct23 oc24 kV24 dc24 pm24 cd24 ct24 oc25 kV25 dc25 pm25 cd25 ct25 oc26 kV26 dc26 pm26 cd26 ct26 : Value}
    (a0 : PySem.W.nsIn K mainGlobals "is_name" = some (some (.ref f0))) (l0 : K.lookup f0 = some ⟨oc0, od0, .func (PySem.W.fnOf "is_name" "is_name" (defArgs s_is_name) (defBody s_is_name) (defScope s_is_name) .none kV0 dc0 pm0 an0 cd0 ct0), sl0⟩) (c0 : PySem.W.codeIn K cd0 "is_name" = true) (k0 : PySem.W.keepIn K (.ref f0) = true)
    (a1 : PySem.W.nsIn K mainGlobals "is_plan" = some (some (.ref f1))) (l1 : K.lookup f1 = some ⟨oc1, od1, .func (PySem.W.fnOf "is_plan" "is_plan" (defArgs s_is_plan) (defBody s_is_plan) (defScope s_is_plan) .none kV1 dc1 pm1 an1 cd1 ct1), sl1⟩) (c1 : PySem.W.codeIn K cd1 "is_plan" = true) (k1 : PySem.W.keepIn K (.ref f1) = true)
    (a2 : PySem.W.nsIn K mainGlobals "names_of" = some (some (.ref f2))) (l2 : K.lookup f2 = some ⟨oc2, od2, .func (PySem.W.fnOf "names_of" "names_of" (defArgs s_names_of) (defBody s_names_of) (defScope s_names_of) .none kV2 dc2 pm2 an2 cd2 ct2), sl2⟩) (c2 : PySem.W.codeIn K cd2 "names_of" = true) (k2 : PySem.W.keepIn K (.ref f2) = true)
    (a3 : PySem.W.nsIn K mainGlobals "parts_of" = some (some (.ref f3))) (l3 : K.lookup f3 = some ⟨oc3, od3, .func (PySem.W.fnOf "parts_of" "parts_of" (defArgs s_parts_of) (defBody s_parts_of) (defScope s_parts_of) .none kV3 dc3 pm3 an3 cd3 ct3), sl3⟩) (c3 : PySem.W.codeIn K cd3 "parts_of" = true) (k3 : PySem.W.keepIn K (.ref f3) = true)
    (a4 : PySem.W.nsIn K mainGlobals "_is_number" = some (some (.ref f4))) (l4 : K.lookup f4 = some ⟨oc4, od4, .func (PySem.W.fnOf "_is_number" "_is_number" (defArgs s__is_number) (defBody s__is_number) (defScope s__is_number) .none kV4 dc4 pm4 an4 cd4 ct4), sl4⟩) (c4 : PySem.W.codeIn K cd4 "_is_number" = true) (k4 : PySem.W.keepIn K (.ref f4) = true)
    (a5 : PySem.W.nsIn K mainGlobals "_is_worker" = some (some (.ref f5))) (l5 : K.lookup f5 = some ⟨oc5, od5, .func (PySem.W.fnOf "_is_worker" "_is_worker" (defArgs s__is_worker) (defBody s__is_worker) (defScope s__is_worker) .none kV5 dc5 pm5 an5 cd5 ct5), sl5⟩) (c5 : PySem.W.codeIn K cd5 "_is_worker" = true) (k5 : PySem.W.keepIn K (.ref f5) = true)
    (a6 : PySem.W.nsIn K mainGlobals "_is_warden" = some (some (.ref f6))) (l6 : K.lookup f6 = some ⟨oc6, od6, .func (PySem.W.fnOf "_is_warden" "_is_warden" (defArgs s__is_warden) (defBody s__is_warden) (defScope s__is_warden) .none kV6 dc6 pm6 an6 cd6 ct6), sl6⟩) (c6 : PySem.W.codeIn K cd6 "_is_warden" = true) (k6 : PySem.W.keepIn K (.ref f6) = true)
    (a7 : PySem.W.nsIn K mainGlobals "_fits" = some (some (.ref f7))) (l7 : K.lookup f7 = some ⟨oc7, od7, .func (PySem.W.fnOf "_fits" "_fits" (defArgs s__fits) (defBody s__fits) (defScope s__fits) .none kV7 dc7 pm7 an7 cd7 ct7), sl7⟩) (c7 : PySem.W.codeIn K cd7 "_fits" = true) (k7 : PySem.W.keepIn K (.ref f7) = true)
    (a8 : PySem.W.nsIn K mainGlobals "_law_cell_at" = some (some (.ref f8))) (l8 : K.lookup f8 = some ⟨oc8, od8, .func (PySem.W.fnOf "_law_cell_at" "_law_cell_at" (defArgs s__law_cell_at) (defBody s__law_cell_at) (defScope s__law_cell_at) .none kV8 dc8 pm8 an8 cd8 ct8), sl8⟩) (c8 : PySem.W.codeIn K cd8 "_law_cell_at" = true) (k8 : PySem.W.keepIn K (.ref f8) = true)
    (a9 : PySem.W.nsIn K mainGlobals "_law_whole" = some (some (.ref f9))) (l9 : K.lookup f9 = some ⟨oc9, od9, .func (PySem.W.fnOf "_law_whole" "_law_whole" (defArgs s__law_whole) (defBody s__law_whole) (defScope s__law_whole) .none kV9 dc9 pm9 an9 cd9 ct9), sl9⟩) (c9 : PySem.W.codeIn K cd9 "_law_whole" = true) (k9 : PySem.W.keepIn K (.ref f9) = true)
    (a10 : PySem.W.nsIn K mainGlobals "_law_names" = some (some (.ref f10))) (l10 : K.lookup f10 = some ⟨oc10, od10, .func (PySem.W.fnOf "_law_names" "_law_names" (defArgs s__law_names) (defBody s__law_names) (defScope s__law_names) .none kV10 dc10 pm10 an10 cd10 ct10), sl10⟩) (c10 : PySem.W.codeIn K cd10 "_law_names" = true) (k10 : PySem.W.keepIn K (.ref f10) = true)
    (a11 : PySem.W.nsIn K mainGlobals "_law_nodes" = some (some (.ref f11))) (l11 : K.lookup f11 = some ⟨oc11, od11, .func (PySem.W.fnOf "_law_nodes" "_law_nodes" (defArgs s__law_nodes) (defBody s__law_nodes) (defScope s__law_nodes) .none kV11 dc11 pm11 an11 cd11 ct11), sl11⟩) (c11 : PySem.W.codeIn K cd11 "_law_nodes" = true) (k11 : PySem.W.keepIn K (.ref f11) = true)
    (a12 : PySem.W.nsIn K mainGlobals "_law_under" = some (some (.ref f12))) (l12 : K.lookup f12 = some ⟨oc12, od12, .func (PySem.W.fnOf "_law_under" "_law_under" (defArgs s__law_under) (defBody s__law_under) (defScope s__law_under) .none kV12 dc12 pm12 an12 cd12 ct12), sl12⟩) (c12 : PySem.W.codeIn K cd12 "_law_under" = true) (k12 : PySem.W.keepIn K (.ref f12) = true)
    (a13 : PySem.W.nsIn K mainGlobals "_law_many_by" = some (some (.ref f13))) (l13 : K.lookup f13 = some ⟨oc13, od13, .func (PySem.W.fnOf "_law_many_by" "_law_many_by" (defArgs s__law_many_by) (defBody s__law_many_by) (defScope s__law_many_by) .none kV13 dc13 pm13 an13 cd13 ct13), sl13⟩) (c13 : PySem.W.codeIn K cd13 "_law_many_by" = true) (k13 : PySem.W.keepIn K (.ref f13) = true)
    (a14 : PySem.W.nsIn K mainGlobals "_law_span_by" = some (some (.ref f14))) (l14 : K.lookup f14 = some ⟨oc14, od14, .func (PySem.W.fnOf "_law_span_by" "_law_span_by" (defArgs s__law_span_by) (defBody s__law_span_by) (defScope s__law_span_by) .none kV14 dc14 pm14 an14 cd14 ct14), sl14⟩) (c14 : PySem.W.codeIn K cd14 "_law_span_by" = true) (k14 : PySem.W.keepIn K (.ref f14) = true)
    (a15 : PySem.W.nsIn K mainGlobals "_law_part" = some (some (.ref f15))) (l15 : K.lookup f15 = some ⟨oc15, od15, .func (PySem.W.fnOf "_law_part" "_law_part" (defArgs s__law_part) (defBody s__law_part) (defScope s__law_part) .none kV15 dc15 pm15 an15 cd15 ct15), sl15⟩) (c15 : PySem.W.codeIn K cd15 "_law_part" = true) (k15 : PySem.W.keepIn K (.ref f15) = true)
    (a16 : PySem.W.nsIn K mainGlobals "_law_house" = some (some (.ref f16))) (l16 : K.lookup f16 = some ⟨oc16, od16, .func (PySem.W.fnOf "_law_house" "_law_house" (defArgs s__law_house) (defBody s__law_house) (defScope s__law_house) .none kV16 dc16 pm16 an16 cd16 ct16), sl16⟩) (c16 : PySem.W.codeIn K cd16 "_law_house" = true) (k16 : PySem.W.keepIn K (.ref f16) = true)
    (a17 : PySem.W.nsIn K mainGlobals "_law_is_name" = some (some (.ref f17))) (l17 : K.lookup f17 = some ⟨oc17, od17, .func (PySem.W.fnOf "_law_is_name" "_law_is_name" (defArgs s__law_is_name) (defBody s__law_is_name) (defScope s__law_is_name) .none kV17 dc17 pm17 an17 cd17 ct17), sl17⟩) (c17 : PySem.W.codeIn K cd17 "_law_is_name" = true) (k17 : PySem.W.keepIn K (.ref f17) = true)
    (a18 : PySem.W.nsIn K mainGlobals "_law_is_part" = some (some (.ref f18))) (l18 : K.lookup f18 = some ⟨oc18, od18, .func (PySem.W.fnOf "_law_is_part" "_law_is_part" (defArgs s__law_is_part) (defBody s__law_is_part) (defScope s__law_is_part) .none kV18 dc18 pm18 an18 cd18 ct18), sl18⟩) (c18 : PySem.W.codeIn K cd18 "_law_is_part" = true) (k18 : PySem.W.keepIn K (.ref f18) = true)
    (a19 : PySem.W.nsIn K mainGlobals "_law_all_names" = some (some (.ref f19))) (l19 : K.lookup f19 = some ⟨oc19, od19, .func (PySem.W.fnOf "_law_all_names" "_law_all_names" (defArgs s__law_all_names) (defBody s__law_all_names) (defScope s__law_all_names) .none kV19 dc19 pm19 an19 cd19 ct19), sl19⟩) (c19 : PySem.W.codeIn K cd19 "_law_all_names" = true) (k19 : PySem.W.keepIn K (.ref f19) = true)
    (a20 : PySem.W.nsIn K mainGlobals "_law_is_plan" = some (some (.ref f20))) (l20 : K.lookup f20 = some ⟨oc20, od20, .func (PySem.W.fnOf "_law_is_plan" "_law_is_plan" (defArgs s__law_is_plan) (defBody s__law_is_plan) (defScope s__law_is_plan) .none kV20 dc20 pm20 an20 cd20 ct20), sl20⟩) (c20 : PySem.W.codeIn K cd20 "_law_is_plan" = true) (k20 : PySem.W.keepIn K (.ref f20) = true)
    (a21 : PySem.W.nsIn K mainGlobals "_law_odd_by" = some (some (.ref f21))) (l21 : K.lookup f21 = some ⟨oc21, od21, .func (PySem.W.fnOf "_law_odd_by" "_law_odd_by" (defArgs s__law_odd_by) (defBody s__law_odd_by) (defScope s__law_odd_by) .none kV21 dc21 pm21 an21 cd21 ct21), sl21⟩) (c21 : PySem.W.codeIn K cd21 "_law_odd_by" = true) (k21 : PySem.W.keepIn K (.ref f21) = true)
    (a22 : PySem.W.nsIn K mainGlobals "_law_spoilt" = some (some (.ref f22))) (l22 : K.lookup f22 = some ⟨oc22, od22, .func (PySem.W.fnOf "_law_spoilt" "_law_spoilt" (defArgs s__law_spoilt) (defBody s__law_spoilt) (defScope s__law_spoilt) .none kV22 dc22 pm22 an22 cd22 ct22), sl22⟩) (c22 : PySem.W.codeIn K cd22 "_law_spoilt" = true) (k22 : PySem.W.keepIn K (.ref f22) = true)
    (a23 : PySem.W.nsIn K mainGlobals "_law_wide" = some (some (.ref f23))) (l23 : K.lookup f23 = some ⟨oc23, od23, .func (PySem.W.fnOf "_law_wide" "_law_wide" (defArgs s__law_wide) (defBody s__law_wide) (defScope s__law_wide) .none kV23 dc23 pm23 an23 cd23 ct23), sl23⟩) (c23 : PySem.W.codeIn K cd23 "_law_wide" = true) (k23 : PySem.W.keepIn K (.ref f23) = true)
    (a24 : PySem.W.nsIn K mainGlobals "_law_chain" = some (some (.ref f24))) (l24 : K.lookup f24 = some ⟨oc24, od24, .func (PySem.W.fnOf "_law_chain" "_law_chain" (defArgs s__law_chain) (defBody s__law_chain) (defScope s__law_chain) .none kV24 dc24 pm24 an24 cd24 ct24), sl24⟩) (c24 : PySem.W.codeIn K cd24 "_law_chain" = true) (k24 : PySem.W.keepIn K (.ref f24) = true)
    (a25 : PySem.W.nsIn K mainGlobals "_law_twice" = some (some (.ref f25))) (l25 : K.lookup f25 = some ⟨oc25, od25, .func (PySem.W.fnOf "_law_twice" "_law_twice" (defArgs s__law_twice) (defBody s__law_twice) (defScope s__law_twice) .none kV25 dc25 pm25 an25 cd25 ct25), sl25⟩) (c25 : PySem.W.codeIn K cd25 "_law_twice" = true) (k25 : PySem.W.keepIn K (.ref f25) = true)
    (a26 : PySem.W.nsIn K mainGlobals "law" = some (some (.ref f26))) (l26 : K.lookup f26 = some ⟨oc26, od26, .func (PySem.W.fnOf "law" "law" (defArgs s_law) (defBody s_law) (defScope s_law) .none kV26 dc26 pm26 an26 cd26 ct26), sl26⟩) (c26 : PySem.W.codeIn K cd26 "law" = true) (k26 : PySem.W.keepIn K (.ref f26) = true)
    (z_all : PySem.W.nsIn K mainGlobals "all" = some none)
    (z_bool : PySem.W.nsIn K mainGlobals "bool" = some none)
    (z_int : PySem.W.nsIn K mainGlobals "int" = some none)
    (z_isinstance : PySem.W.nsIn K mainGlobals "isinstance" = some none)
    (z_len : PySem.W.nsIn K mainGlobals "len" = some none)
    (z_list : PySem.W.nsIn K mainGlobals "list" = some none)
    (z_min : PySem.W.nsIn K mainGlobals "min" = some none)
    (z_range : PySem.W.nsIn K mainGlobals "range" = some none)
    (z_str : PySem.W.nsIn K mainGlobals "str" = some none)
    (z_tuple : PySem.W.nsIn K mainGlobals "tuple" = some none)
    {t_LARGEST : Tok} (c_LARGEST : PySem.W.nsIn K mainGlobals "LARGEST" = some (some (.int 1000000000 t_LARGEST)))
    {t_LONGEST_NAME : Tok} (c_LONGEST_NAME : PySem.W.nsIn K mainGlobals "LONGEST_NAME" = some (some (.int 8 t_LONGEST_NAME)))
    {t_MOST_NAMES : Tok} (c_MOST_NAMES : PySem.W.nsIn K mainGlobals "MOST_NAMES" = some (some (.int 60 t_MOST_NAMES)))
    {t_MOST_PARTS : Tok} (c_MOST_PARTS : PySem.W.nsIn K mainGlobals "MOST_PARTS" = some (some (.int 8 t_MOST_PARTS)))
    {t_MOST_WARDENS_ABOVE : Tok} (c_MOST_WARDENS_ABOVE : PySem.W.nsIn K mainGlobals "MOST_WARDENS_ABOVE" = some (some (.int 6 t_MOST_WARDENS_ABOVE)))
    (c_AGAINS : PySem.W.nsIn K mainGlobals "AGAINS" = some (some (.ref p_AGAINS))) (q_AGAINS : KTup K p_AGAINS [(.str "always"), (.str "faulted"), (.str "never")])
    (c_RULES : PySem.W.nsIn K mainGlobals "RULES" = some (some (.ref p_RULES))) (q_RULES : KTup K p_RULES [(.str "one"), (.str "rest"), (.str "all")])
    : TX K mg where
  d_is_name := ⟨f0, _, fun_mk (st := s_is_name) l0 c0 k0, PySem.W.mg_of X G a0, (fun_mk (st := s_is_name) l0 c0 k0).binds (ps := ["thing"]) fun _ _ _ _ _ _ us hl => match us, hl with | [_], _ => rfl⟩
  d_is_plan := ⟨f1, _, fun_mk (st := s_is_plan) l1 c1 k1, PySem.W.mg_of X G a1, (fun_mk (st := s_is_plan) l1 c1 k1).binds (ps := ["thing"]) fun _ _ _ _ _ _ us hl => match us, hl with | [_], _ => rfl⟩
  d_names_of := ⟨f2, _, fun_mk (st := s_names_of) l2 c2 k2, PySem.W.mg_of X G a2, (fun_mk (st := s_names_of) l2 c2 k2).binds (ps := ["plan"]) fun _ _ _ _ _ _ us hl => match us, hl with | [_], _ => rfl⟩
  d_parts_of := ⟨f3, _, fun_mk (st := s_parts_of) l3 c3 k3, PySem.W.mg_of X G a3, (fun_mk (st := s_parts_of) l3 c3 k3).binds (ps := ["part"]) fun _ _ _ _ _ _ us hl => match us, hl with | [_], _ => rfl⟩
  d__is_number := ⟨f4, _, fun_mk (st := s__is_number) l4 c4 k4, PySem.W.mg_of X G a4, (fun_mk (st := s__is_number) l4 c4 k4).binds (ps := ["thing", "low", "high"]) fun _ _ _ _ _ _ us hl => match us, hl with | [_, _, _], _ => rfl⟩
  d__is_worker := ⟨f5, _, fun_mk (st := s__is_worker) l5 c5 k5, PySem.W.mg_of X G a5, (fun_mk (st := s__is_worker) l5 c5 k5).binds (ps := ["thing"]) fun _ _ _ _ _ _ us hl => match us, hl with | [_], _ => rfl⟩
  d__is_warden := ⟨f6, _, fun_mk (st := s__is_warden) l6 c6 k6, PySem.W.mg_of X G a6, (fun_mk (st := s__is_warden) l6 c6 k6).binds (ps := ["thing"]) fun _ _ _ _ _ _ us hl => match us, hl with | [_], _ => rfl⟩
  d__fits := ⟨f7, _, fun_mk (st := s__fits) l7 c7 k7, PySem.W.mg_of X G a7, (fun_mk (st := s__fits) l7 c7 k7).binds (ps := ["part", "above", "names"]) fun _ _ _ _ _ _ us hl => match us, hl with | [_, _, _], _ => rfl⟩
  d__law_cell_at := ⟨f8, _, fun_mk (st := s__law_cell_at) l8 c8 k8, PySem.W.mg_of X G a8, (fun_mk (st := s__law_cell_at) l8 c8 k8).binds (ps := ["_law_script", "_law_k"]) fun _ _ _ _ _ _ us hl => match us, hl with | [_, _], _ => rfl⟩
  d__law_whole := ⟨f9, _, fun_mk (st := s__law_whole) l9 c9 k9, PySem.W.mg_of X G a9, (fun_mk (st := s__law_whole) l9 c9 k9).binds (ps := ["_law_found"]) fun _ _ _ _ _ _ us hl => match us, hl with | [_], _ => rfl⟩
  d__law_names := ⟨f10, _, fun_mk (st := s__law_names) l10 c10 k10, PySem.W.mg_of X G a10, (fun_mk (st := s__law_names) l10 c10 k10).binds (ps := ["_law_cell", "_law_many"]) fun _ _ _ _ _ _ us hl => match us, hl with | [_, _], _ => rfl⟩
  d__law_nodes := ⟨f11, _, fun_mk (st := s__law_nodes) l11 c11 k11, PySem.W.mg_of X G a11, (fun_mk (st := s__law_nodes) l11 c11 k11).binds (ps := ["_law_script", "_law_many"]) fun _ _ _ _ _ _ us hl => match us, hl with | [_, _], _ => rfl⟩
  d__law_under := ⟨f12, _, fun_mk (st := s__law_under) l12 c12 k12, PySem.W.mg_of X G a12, (fun_mk (st := s__law_under) l12 c12 k12).binds (ps := ["_law_nodes_here", "_law_k"]) fun _ _ _ _ _ _ us hl => match us, hl with | [_, _], _ => rfl⟩
  d__law_many_by := ⟨f13, _, fun_mk (st := s__law_many_by) l13 c13 k13, PySem.W.mg_of X G a13, (fun_mk (st := s__law_many_by) l13 c13 k13).binds (ps := ["_law_cell"]) fun _ _ _ _ _ _ us hl => match us, hl with | [_], _ => rfl⟩
  d__law_span_by := ⟨f14, _, fun_mk (st := s__law_span_by) l14 c14 k14, PySem.W.mg_of X G a14, (fun_mk (st := s__law_span_by) l14 c14 k14).binds (ps := ["_law_cell"]) fun _ _ _ _ _ _ us hl => match us, hl with | [_], _ => rfl⟩
  d__law_part := ⟨f15, _, fun_mk (st := s__law_part) l15 c15 k15, PySem.W.mg_of X G a15, (fun_mk (st := s__law_part) l15 c15 k15).binds (ps := ["_law_nodes_here", "_law_names_here", "_law_k"]) fun _ _ _ _ _ _ us hl => match us, hl with | [_, _, _], _ => rfl⟩
  d__law_house := ⟨f16, _, fun_mk (st := s__law_house) l16 c16 k16, PySem.W.mg_of X G a16, (fun_mk (st := s__law_house) l16 c16 k16).binds (ps := ["_law_script"]) fun _ _ _ _ _ _ us hl => match us, hl with | [_], _ => rfl⟩
  d__law_is_name := ⟨f17, _, fun_mk (st := s__law_is_name) l17 c17 k17, PySem.W.mg_of X G a17, (fun_mk (st := s__law_is_name) l17 c17 k17).binds (ps := ["_law_thing"]) fun _ _ _ _ _ _ us hl => match us, hl with | [_], _ => rfl⟩
  d__law_is_part := ⟨f18, _, fun_mk (st := s__law_is_part) l18 c18 k18, PySem.W.mg_of X G a18, (fun_mk (st := s__law_is_part) l18 c18 k18).binds (ps := ["_law_thing", "_law_above"]) fun _ _ _ _ _ _ us hl => match us, hl with | [_, _], _ => rfl⟩
  d__law_all_names := ⟨f19, _, fun_mk (st := s__law_all_names) l19 c19 k19, PySem.W.mg_of X G a19, (fun_mk (st := s__law_all_names) l19 c19 k19).binds (ps := ["_law_plan"]) fun _ _ _ _ _ _ us hl => match us, hl with | [_], _ => rfl⟩
  d__law_is_plan := ⟨f20, _, fun_mk (st := s__law_is_plan) l20 c20 k20, PySem.W.mg_of X G a20, (fun_mk (st := s__law_is_plan) l20 c20 k20).binds (ps := ["_law_thing"]) fun _ _ _ _ _ _ us hl => match us, hl with | [_], _ => rfl⟩
  d__law_odd_by := ⟨f21, _, fun_mk (st := s__law_odd_by) l21 c21 k21, PySem.W.mg_of X G a21, (fun_mk (st := s__law_odd_by) l21 c21 k21).binds (ps := ["_law_part_here", "_law_cell"]) fun _ _ _ _ _ _ us hl => match us, hl with | [_, _], _ => rfl⟩
  d__law_spoilt := ⟨f22, _, fun_mk (st := s__law_spoilt) l22 c22 k22, PySem.W.mg_of X G a22, (fun_mk (st := s__law_spoilt) l22 c22 k22).binds (ps := ["_law_thing", "_law_cell", "_law_deep"]) fun _ _ _ _ _ _ us hl => match us, hl with | [_, _, _], _ => rfl⟩
  d__law_wide := ⟨f23, _, fun_mk (st := s__law_wide) l23 c23 k23, PySem.W.mg_of X G a23, (fun_mk (st := s__law_wide) l23 c23 k23).binds (ps := ["_law_cell", "_law_names_here"]) fun _ _ _ _ _ _ us hl => match us, hl with | [_, _], _ => rfl⟩
  d__law_chain := ⟨f24, _, fun_mk (st := s__law_chain) l24 c24 k24, PySem.W.mg_of X G a24, (fun_mk (st := s__law_chain) l24 c24 k24).binds (ps := ["_law_cell", "_law_names_here"]) fun _ _ _ _ _ _ us hl => match us, hl with | [_, _], _ => rfl⟩
  d__law_twice := ⟨f25, _, fun_mk (st := s__law_twice) l25 c25 k25, PySem.W.mg_of X G a25, (fun_mk (st := s__law_twice) l25 c25 k25).binds (ps := ["_law_plan", "_law_cell"]) fun _ _ _ _ _ _ us hl => match us, hl with | [_, _], _ => rfl⟩
  d_law := ⟨f26, _, fun_mk (st := s_law) l26 c26 k26, PySem.W.mg_of X G a26, (fun_mk (st := s_law) l26 c26 k26).binds (ps := ["_law_script"]) fun _ _ _ _ _ _ us hl => match us, hl with | [_], _ => rfl⟩
  z_all := PySem.W.mg_none_of X G z_all
  z_bool := PySem.W.mg_none_of X G z_bool
  z_int := PySem.W.mg_none_of X G z_int
  z_isinstance := PySem.W.mg_none_of X G z_isinstance
  z_len := PySem.W.mg_none_of X G z_len
  z_list := PySem.W.mg_none_of X G z_list
  z_min := PySem.W.mg_none_of X G z_min
  z_range := PySem.W.mg_none_of X G z_range
  z_str := PySem.W.mg_none_of X G z_str
  z_tuple := PySem.W.mg_none_of X G z_tuple
  c_LARGEST := ⟨_, PySem.W.mg_of X G c_LARGEST⟩
  c_LONGEST_NAME := ⟨_, PySem.W.mg_of X G c_LONGEST_NAME⟩
  c_MOST_NAMES := ⟨_, PySem.W.mg_of X G c_MOST_NAMES⟩
  c_MOST_PARTS := ⟨_, PySem.W.mg_of X G c_MOST_PARTS⟩
  c_MOST_WARDENS_ABOVE := ⟨_, PySem.W.mg_of X G c_MOST_WARDENS_ABOVE⟩
  c_AGAINS := ⟨_, PySem.W.mg_of X G c_AGAINS, q_AGAINS⟩
  c_RULES := ⟨_, PySem.W.mg_of X G c_RULES, q_RULES⟩
theorem end_F {l : PySem.W.OpenLaw} {w : World} {K : PySem.W.Frag} {fa : Addr} {h : Heap} {mg : Str → Option Value} (X : K.In h) (G : h.Ns mainGlobals mg) {f0 f1 f2 f3 f4 f5 f6 f7 f8 f9 f10 f11 f12 f13 f14 f15 f16 f17 f18 f19 f20 f21 f22 f23 f24 f25 f26 p_AGAINS p_RULES : Addr}
    {od0 an0 od1 an1 od2 an2 od3 an3 od4 an4 od5 an5 od6 an6 od7 an7 od8 an8 od9 an9 od10 an10 od11 an11 od12 an12 od13 an13 od14 an14 od15 an15 od16 an16 od17 an17 od18 an18 od19 an19 od20 an20 od21 an21 od22 an22 od23 an23 od24 an24 od25 an25 od26 an26 : Option Addr} {sl0 sl1 sl2 sl3 sl4 sl5 sl6 sl7 sl8 sl9 sl10 sl11 sl12 sl13 sl14 sl15 sl16 sl17 sl18 sl19 sl20 sl21 sl22 sl23 sl24 sl25 sl26 : Array (Option Value)} {oc0 kV0 dc0 pm0 cd0 ct0 oc1 kV1 dc1 pm1 cd1 ct1 oc2 kV2 dc2 pm2 cd2 ct2 oc3 kV3 dc3 pm3 cd3 ct3 oc4 kV4 dc4 pm4 cd4 ct4 oc5 kV5 dc5 pm5 cd5 ct5 oc6 kV6 dc6 pm6 cd6 ct6 oc7 kV7 dc7 pm7 cd7 ct7 oc8 kV8 dc8 pm8 cd8 ct8 oc9 kV9 dc9 pm9 cd9 ct9 oc10 kV10 dc10 pm10 cd10 ct10 oc11 kV11 dc11 pm11 cd11 ct11 oc12 kV12 dc12 pm12 cd12 ct12 oc13 kV13 dc13 pm13 cd13 ct13 oc14 kV14 dc14 pm14 cd14 ct14 oc15 kV15 dc15 pm15 cd15 ct15 oc16 kV16 dc16 pm16 cd16 ct16 oc17 kV17 dc17 pm17 cd17 ct17 oc18 kV18 dc18 pm18 cd18 ct18 oc19 kV19 dc19 pm19 cd19 ct19 oc20 kV20 dc20 pm20 cd20 ct20 oc21 kV21 dc21 pm21 cd21 ct21 oc22 kV22 dc22 pm22 cd22 ct22 oc23 kV23 dc23 pm23 cd23 ct23 oc24 kV24 dc24 pm24 cd24 ct24 oc25 kV25 dc25 pm25 cd25 ct25 oc26 kV26 dc26 pm26 cd26 ct26 : Value}
    (a0 : PySem.W.nsIn K mainGlobals "is_name" = some (some (.ref f0))) (l0 : K.lookup f0 = some ⟨oc0, od0, .func (PySem.W.fnOf "is_name" "is_name" (defArgs s_is_name) (defBody s_is_name) (defScope s_is_name) .none kV0 dc0 pm0 an0 cd0 ct0), sl0⟩) (c0 : PySem.W.codeIn K cd0 "is_name" = true) (k0 : PySem.W.keepIn K (.ref f0) = true)
    (a1 : PySem.W.nsIn K mainGlobals "is_plan" = some (some (.ref f1))) (l1 : K.lookup f1 = some ⟨oc1, od1, .func (PySem.W.fnOf "is_plan" "is_plan" (defArgs s_is_plan) (defBody s_is_plan) (defScope s_is_plan) .none kV1 dc1 pm1 an1 cd1 ct1), sl1⟩) (c1 : PySem.W.codeIn K cd1 "is_plan" = true) (k1 : PySem.W.keepIn K (.ref f1) = true)
    (a2 : PySem.W.nsIn K mainGlobals "names_of" = some (some (.ref f2))) (l2 : K.lookup f2 = some ⟨oc2, od2, .func (PySem.W.fnOf "names_of" "names_of" (defArgs s_names_of) (defBody s_names_of) (defScope s_names_of) .none kV2 dc2 pm2 an2 cd2 ct2), sl2⟩) (c2 : PySem.W.codeIn K cd2 "names_of" = true) (k2 : PySem.W.keepIn K (.ref f2) = true)
    (a3 : PySem.W.nsIn K mainGlobals "parts_of" = some (some (.ref f3))) (l3 : K.lookup f3 = some ⟨oc3, od3, .func (PySem.W.fnOf "parts_of" "parts_of" (defArgs s_parts_of) (defBody s_parts_of) (defScope s_parts_of) .none kV3 dc3 pm3 an3 cd3 ct3), sl3⟩) (c3 : PySem.W.codeIn K cd3 "parts_of" = true) (k3 : PySem.W.keepIn K (.ref f3) = true)
    (a4 : PySem.W.nsIn K mainGlobals "_is_number" = some (some (.ref f4))) (l4 : K.lookup f4 = some ⟨oc4, od4, .func (PySem.W.fnOf "_is_number" "_is_number" (defArgs s__is_number) (defBody s__is_number) (defScope s__is_number) .none kV4 dc4 pm4 an4 cd4 ct4), sl4⟩) (c4 : PySem.W.codeIn K cd4 "_is_number" = true) (k4 : PySem.W.keepIn K (.ref f4) = true)
    (a5 : PySem.W.nsIn K mainGlobals "_is_worker" = some (some (.ref f5))) (l5 : K.lookup f5 = some ⟨oc5, od5, .func (PySem.W.fnOf "_is_worker" "_is_worker" (defArgs s__is_worker) (defBody s__is_worker) (defScope s__is_worker) .none kV5 dc5 pm5 an5 cd5 ct5), sl5⟩) (c5 : PySem.W.codeIn K cd5 "_is_worker" = true) (k5 : PySem.W.keepIn K (.ref f5) = true)
    (a6 : PySem.W.nsIn K mainGlobals "_is_warden" = some (some (.ref f6))) (l6 : K.lookup f6 = some ⟨oc6, od6, .func (PySem.W.fnOf "_is_warden" "_is_warden" (defArgs s__is_warden) (defBody s__is_warden) (defScope s__is_warden) .none kV6 dc6 pm6 an6 cd6 ct6), sl6⟩) (c6 : PySem.W.codeIn K cd6 "_is_warden" = true) (k6 : PySem.W.keepIn K (.ref f6) = true)
    (a7 : PySem.W.nsIn K mainGlobals "_fits" = some (some (.ref f7))) (l7 : K.lookup f7 = some ⟨oc7, od7, .func (PySem.W.fnOf "_fits" "_fits" (defArgs s__fits) (defBody s__fits) (defScope s__fits) .none kV7 dc7 pm7 an7 cd7 ct7), sl7⟩) (c7 : PySem.W.codeIn K cd7 "_fits" = true) (k7 : PySem.W.keepIn K (.ref f7) = true)
    (a8 : PySem.W.nsIn K mainGlobals "_law_cell_at" = some (some (.ref f8))) (l8 : K.lookup f8 = some ⟨oc8, od8, .func (PySem.W.fnOf "_law_cell_at" "_law_cell_at" (defArgs s__law_cell_at) (defBody s__law_cell_at) (defScope s__law_cell_at) .none kV8 dc8 pm8 an8 cd8 ct8), sl8⟩) (c8 : PySem.W.codeIn K cd8 "_law_cell_at" = true) (k8 : PySem.W.keepIn K (.ref f8) = true)
    (a9 : PySem.W.nsIn K mainGlobals "_law_whole" = some (some (.ref f9))) (l9 : K.lookup f9 = some ⟨oc9, od9, .func (PySem.W.fnOf "_law_whole" "_law_whole" (defArgs s__law_whole) (defBody s__law_whole) (defScope s__law_whole) .none kV9 dc9 pm9 an9 cd9 ct9), sl9⟩) (c9 : PySem.W.codeIn K cd9 "_law_whole" = true) (k9 : PySem.W.keepIn K (.ref f9) = true)
    (a10 : PySem.W.nsIn K mainGlobals "_law_names" = some (some (.ref f10))) (l10 : K.lookup f10 = some ⟨oc10, od10, .func (PySem.W.fnOf "_law_names" "_law_names" (defArgs s__law_names) (defBody s__law_names) (defScope s__law_names) .none kV10 dc10 pm10 an10 cd10 ct10), sl10⟩) (c10 : PySem.W.codeIn K cd10 "_law_names" = true) (k10 : PySem.W.keepIn K (.ref f10) = true)
    (a11 : PySem.W.nsIn K mainGlobals "_law_nodes" = some (some (.ref f11))) (l11 : K.lookup f11 = some ⟨oc11, od11, .func (PySem.W.fnOf "_law_nodes" "_law_nodes" (defArgs s__law_nodes) (defBody s__law_nodes) (defScope s__law_nodes) .none kV11 dc11 pm11 an11 cd11 ct11), sl11⟩) (c11 : PySem.W.codeIn K cd11 "_law_nodes" = true) (k11 : PySem.W.keepIn K (.ref f11) = true)
    (a12 : PySem.W.nsIn K mainGlobals "_law_under" = some (some (.ref f12))) (l12 : K.lookup f12 = some ⟨oc12, od12, .func (PySem.W.fnOf "_law_under" "_law_under" (defArgs s__law_under) (defBody s__law_under) (defScope s__law_under) .none kV12 dc12 pm12 an12 cd12 ct12), sl12⟩) (c12 : PySem.W.codeIn K cd12 "_law_under" = true) (k12 : PySem.W.keepIn K (.ref f12) = true)
    (a13 : PySem.W.nsIn K mainGlobals "_law_many_by" = some (some (.ref f13))) (l13 : K.lookup f13 = some ⟨oc13, od13, .func (PySem.W.fnOf "_law_many_by" "_law_many_by" (defArgs s__law_many_by) (defBody s__law_many_by) (defScope s__law_many_by) .none kV13 dc13 pm13 an13 cd13 ct13), sl13⟩) (c13 : PySem.W.codeIn K cd13 "_law_many_by" = true) (k13 : PySem.W.keepIn K (.ref f13) = true)
    (a14 : PySem.W.nsIn K mainGlobals "_law_span_by" = some (some (.ref f14))) (l14 : K.lookup f14 = some ⟨oc14, od14, .func (PySem.W.fnOf "_law_span_by" "_law_span_by" (defArgs s__law_span_by) (defBody s__law_span_by) (defScope s__law_span_by) .none kV14 dc14 pm14 an14 cd14 ct14), sl14⟩) (c14 : PySem.W.codeIn K cd14 "_law_span_by" = true) (k14 : PySem.W.keepIn K (.ref f14) = true)
    (a15 : PySem.W.nsIn K mainGlobals "_law_part" = some (some (.ref f15))) (l15 : K.lookup f15 = some ⟨oc15, od15, .func (PySem.W.fnOf "_law_part" "_law_part" (defArgs s__law_part) (defBody s__law_part) (defScope s__law_part) .none kV15 dc15 pm15 an15 cd15 ct15), sl15⟩) (c15 : PySem.W.codeIn K cd15 "_law_part" = true) (k15 : PySem.W.keepIn K (.ref f15) = true)
    (a16 : PySem.W.nsIn K mainGlobals "_law_house" = some (some (.ref f16))) (l16 : K.lookup f16 = some ⟨oc16, od16, .func (PySem.W.fnOf "_law_house" "_law_house" (defArgs s__law_house) (defBody s__law_house) (defScope s__law_house) .none kV16 dc16 pm16 an16 cd16 ct16), sl16⟩) (c16 : PySem.W.codeIn K cd16 "_law_house" = true) (k16 : PySem.W.keepIn K (.ref f16) = true)
    (a17 : PySem.W.nsIn K mainGlobals "_law_is_name" = some (some (.ref f17))) (l17 : K.lookup f17 = some ⟨oc17, od17, .func (PySem.W.fnOf "_law_is_name" "_law_is_name" (defArgs s__law_is_name) (defBody s__law_is_name) (defScope s__law_is_name) .none kV17 dc17 pm17 an17 cd17 ct17), sl17⟩) (c17 : PySem.W.codeIn K cd17 "_law_is_name" = true) (k17 : PySem.W.keepIn K (.ref f17) = true)
    (a18 : PySem.W.nsIn K mainGlobals "_law_is_part" = some (some (.ref f18))) (l18 : K.lookup f18 = some ⟨oc18, od18, .func (PySem.W.fnOf "_law_is_part" "_law_is_part" (defArgs s__law_is_part) (defBody s__law_is_part) (defScope s__law_is_part) .none kV18 dc18 pm18 an18 cd18 ct18), sl18⟩) (c18 : PySem.W.codeIn K cd18 "_law_is_part" = true) (k18 : PySem.W.keepIn K (.ref f18) = true)
    (a19 : PySem.W.nsIn K mainGlobals "_law_all_names" = some (some (.ref f19))) (l19 : K.lookup f19 = some ⟨oc19, od19, .func (PySem.W.fnOf "_law_all_names" "_law_all_names" (defArgs s__law_all_names) (defBody s__law_all_names) (defScope s__law_all_names) .none kV19 dc19 pm19 an19 cd19 ct19), sl19⟩) (c19 : PySem.W.codeIn K cd19 "_law_all_names" = true) (k19 : PySem.W.keepIn K (.ref f19) = true)
    (a20 : PySem.W.nsIn K mainGlobals "_law_is_plan" = some (some (.ref f20))) (l20 : K.lookup f20 = some ⟨oc20, od20, .func (PySem.W.fnOf "_law_is_plan" "_law_is_plan" (defArgs s__law_is_plan) (defBody s__law_is_plan) (defScope s__law_is_plan) .none kV20 dc20 pm20 an20 cd20 ct20), sl20⟩) (c20 : PySem.W.codeIn K cd20 "_law_is_plan" = true) (k20 : PySem.W.keepIn K (.ref f20) = true)
    (a21 : PySem.W.nsIn K mainGlobals "_law_odd_by" = some (some (.ref f21))) (l21 : K.lookup f21 = some ⟨oc21, od21, .func (PySem.W.fnOf "_law_odd_by" "_law_odd_by" (defArgs s__law_odd_by) (defBody s__law_odd_by) (defScope s__law_odd_by) .none kV21 dc21 pm21 an21 cd21 ct21), sl21⟩) (c21 : PySem.W.codeIn K cd21 "_law_odd_by" = true) (k21 : PySem.W.keepIn K (.ref f21) = true)
    (a22 : PySem.W.nsIn K mainGlobals "_law_spoilt" = some (some (.ref f22))) (l22 : K.lookup f22 = some ⟨oc22, od22, .func (PySem.W.fnOf "_law_spoilt" "_law_spoilt" (defArgs s__law_spoilt) (defBody s__law_spoilt) (defScope s__law_spoilt) .none kV22 dc22 pm22 an22 cd22 ct22), sl22⟩) (c22 : PySem.W.codeIn K cd22 "_law_spoilt" = true) (k22 : PySem.W.keepIn K (.ref f22) = true)
    (a23 : PySem.W.nsIn K mainGlobals "_law_wide" = some (some (.ref f23))) (l23 : K.lookup f23 = some ⟨oc23, od23, .func (PySem.W.fnOf "_law_wide" "_law_wide" (defArgs s__law_wide) (defBody s__law_wide) (defScope s__law_wide) .none kV23 dc23 pm23 an23 cd23 ct23), sl23⟩) (c23 : PySem.W.codeIn K cd23 "_law_wide" = true) (k23 : PySem.W.keepIn K (.ref f23) = true)
    (a24 : PySem.W.nsIn K mainGlobals "_law_chain" = some (some (.ref f24))) (l24 : K.lookup f24 = some ⟨oc24, od24, .func (PySem.W.fnOf "_law_chain" "_law_chain" (defArgs s__law_chain) (defBody s__law_chain) (defScope s__law_chain) .none kV24 dc24 pm24 an24 cd24 ct24), sl24⟩) (c24 : PySem.W.codeIn K cd24 "_law_chain" = true) (k24 : PySem.W.keepIn K (.ref f24) = true)
    (a25 : PySem.W.nsIn K mainGlobals "_law_twice" = some (some (.ref f25))) (l25 : K.lookup f25 = some ⟨oc25, od25, .func (PySem.W.fnOf "_law_twice" "_law_twice" (defArgs s__law_twice) (defBody s__law_twice) (defScope s__law_twice) .none kV25 dc25 pm25 an25 cd25 ct25), sl25⟩) (c25 : PySem.W.codeIn K cd25 "_law_twice" = true) (k25 : PySem.W.keepIn K (.ref f25) = true)
    (a26 : PySem.W.nsIn K mainGlobals "law" = some (some (.ref f26))) (l26 : K.lookup f26 = some ⟨oc26, od26, .func (PySem.W.fnOf "law" "law" (defArgs s_law) (defBody s_law) (defScope s_law) .none kV26 dc26 pm26 an26 cd26 ct26), sl26⟩) (c26 : PySem.W.codeIn K cd26 "law" = true) (k26 : PySem.W.keepIn K (.ref f26) = true)
    (z_all : PySem.W.nsIn K mainGlobals "all" = some none)
    (z_bool : PySem.W.nsIn K mainGlobals "bool" = some none)
    (z_int : PySem.W.nsIn K mainGlobals "int" = some none)
    (z_isinstance : PySem.W.nsIn K mainGlobals "isinstance" = some none)
    (z_len : PySem.W.nsIn K mainGlobals "len" = some none)
    (z_list : PySem.W.nsIn K mainGlobals "list" = some none)
    (z_min : PySem.W.nsIn K mainGlobals "min" = some none)
    (z_range : PySem.W.nsIn K mainGlobals "range" = some none)
    (z_str : PySem.W.nsIn K mainGlobals "str" = some none)
    (z_tuple : PySem.W.nsIn K mainGlobals "tuple" = some none)
    {t_LARGEST : Tok} (c_LARGEST : PySem.W.nsIn K mainGlobals "LARGEST" = some (some (.int 1000000000 t_LARGEST)))
    {t_LONGEST_NAME : Tok} (c_LONGEST_NAME : PySem.W.nsIn K mainGlobals "LONGEST_NAME" = some (some (.int 8 t_LONGEST_NAME)))
    {t_MOST_NAMES : Tok} (c_MOST_NAMES : PySem.W.nsIn K mainGlobals "MOST_NAMES" = some (some (.int 60 t_MOST_NAMES)))
    {t_MOST_PARTS : Tok} (c_MOST_PARTS : PySem.W.nsIn K mainGlobals "MOST_PARTS" = some (some (.int 8 t_MOST_PARTS)))
    {t_MOST_WARDENS_ABOVE : Tok} (c_MOST_WARDENS_ABOVE : PySem.W.nsIn K mainGlobals "MOST_WARDENS_ABOVE" = some (some (.int 6 t_MOST_WARDENS_ABOVE)))
    (c_AGAINS : PySem.W.nsIn K mainGlobals "AGAINS" = some (some (.ref p_AGAINS))) (q_AGAINS : KTup K p_AGAINS [(.str "always"), (.str "faulted"), (.str "never")])
    (c_RULES : PySem.W.nsIn K mainGlobals "RULES" = some (some (.ref p_RULES))) (q_RULES : KTup K p_RULES [(.str "one"), (.str "rest"), (.str "all")])
    (hfa : mg "law" = some (.ref fa)) :
    ∃ fd : FuncData, (∀ (s : Shared) (v : Value), BindsTo s fd ⟨[v], []⟩ [("_law_script", v)]) ∧ ∀ base : Heap, K.In base → base.Ns mainGlobals mg → FnOk l.prog w K mg base CX0 17 fa fd ["_law_script"] (spLaw K) := by
  have e := hfa.symm.trans (PySem.W.mg_of X G a26)
  cases e
  have T : TX K mg := all_mk X G a0 l0 c0 k0 a1 l1 c1 k1 a2 l2 c2 k2 a3 l3 c3 k3 a4 l4 c4 k4 a5 l5 c5 k5 a6 l6 c6 k6 a7 l7 c7 k7 a8 l8 c8 k8 a9 l9 c9 k9 a10 l10 c10 k10 a11 l11 c11 k11 a12 l12 c12 k12 a13 l13 c13 k13 a14 l14 c14 k14 a15 l15 c15 k15 a16 l16 c16 k16 a17 l17 c17 k17 a18 l18 c18 k18 a19 l19 c19 k19 a20 l20 c20 k20 a21 l21 c21 k21 a22 l22 c22 k22 a23 l23 c23 k23 a24 l24 c24 k24 a25 l25 c25 k25 a26 l26 c26 k26 z_all z_bool z_int z_isinstance z_len z_list z_min z_range z_str z_tuple c_LARGEST c_LONGEST_NAME c_MOST_NAMES c_MOST_PARTS c_MOST_WARDENS_ABOVE c_AGAINS q_AGAINS c_RULES q_RULES
  exact ⟨_, fun s v => .of_eq rfl, fun base _ _ => (fx_at (P := l.prog) (w := w) (base := base) (ok_law T) (PySem.W.mg_of X G a26) l26).imp (law_imp fun ns hl => law_true ns)⟩
end K02
open PySem PySem.W PyProof.Rows
set_option maxRecDepth 100000 in
set_option maxHeartbeats 0 in
theorem PySem.Challenge.cw_wardhouse_k02_plans_holds : PySem.Challenge.rw_wardhouse_k02_plans.Holds := by
  w_on; o_law; k_head; (case hw => w_witness2)
  k_fill
  refine L2.walk_of (l := PySem.Challenge.rw_wardhouse_k02_plans) (n := 63) (k := 17) (x := "_law_script") (CX := fun _ => L2.CX0) (sp := fun w => Pd.spLaw _) rfl (by decide) rfl ⟨rfl, by decide, by decide⟩ (fun w h Y => PySem.W.kIn_of Y) ?F (fun _ _ a ns hl _ hS => ⟨a, ns, rfl, hS, hl, fun _ => rfl⟩) (fun _ _ _ _ _ h => h)
  case F =>
    intro w mg fa h KX G hmg
    refine' K02.end_F KX G ?a0 ?l0 ?c0 ?k0 ?a1 ?l1 ?c1 ?k1 ?a2 ?l2 ?c2 ?k2 ?a3 ?l3 ?c3 ?k3 ?a4 ?l4 ?c4 ?k4 ?a5 ?l5 ?c5 ?k5 ?a6 ?l6 ?c6 ?k6 ?a7 ?l7 ?c7 ?k7 ?a8 ?l8 ?c8 ?k8 ?a9 ?l9 ?c9 ?k9 ?a10 ?l10 ?c10 ?k10 ?a11 ?l11 ?c11 ?k11 ?a12 ?l12 ?c12 ?k12 ?a13 ?l13 ?c13 ?k13 ?a14 ?l14 ?c14 ?k14 ?a15 ?l15 ?c15 ?k15 ?a16 ?l16 ?c16 ?k16 ?a17 ?l17 ?c17 ?k17 ?a18 ?l18 ?c18 ?k18 ?a19 ?l19 ?c19 ?k19 ?a20 ?l20 ?c20 ?k20 ?a21 ?l21 ?c21 ?k21 ?a22 ?l22 ?c22 ?k22 ?a23 ?l23 ?c23 ?k23 ?a24 ?l24 ?c24 ?k24 ?a25 ?l25 ?c25 ?k25 ?a26 ?l26 ?c26 ?k26 ?z_all ?z_bool ?z_int ?z_isinstance ?z_len ?z_list ?z_min ?z_range ?z_str ?z_tuple ?c_LARGEST ?c_LONGEST_NAME ?c_MOST_NAMES ?c_MOST_PARTS ?c_MOST_WARDENS_ABOVE ?c_AGAINS ?q_AGAINS ?c_RULES ?q_RULES hmg
    (case a0 => k_is)
    (case l0 => k_is)
    (case c0 => k_is)
    (case k0 => k_is)
    (case a1 => k_is)
    (case l1 => k_is)
    (case c1 => k_is)
    (case k1 => k_is)
    (case a2 => k_is)
    (case l2 => k_is)
    (case c2 => k_is)
    (case k2 => k_is)
    (case a3 => k_is)
    (case l3 => k_is)
    (case c3 => k_is)
    (case k3 => k_is)
    (case a4 => k_is)
    (case l4 => k_is)
    (case c4 => k_is)
    (case k4 => k_is)
    (case a5 => k_is)
    (case l5 => k_is)
    (case c5 => k_is)
    (case k5 => k_is)
    (case a6 => k_is)
    (case l6 => k_is)
    (case c6 => k_is)
    (case k6 => k_is)
    (case a7 => k_is)
    (case l7 => k_is)
    (case c7 => k_is)
    (case k7 => k_is)
    (case a8 => k_is)
    (case l8 => k_is)
    (case c8 => k_is)
    (case k8 => k_is)
    (case a9 => k_is)
    (case l9 => k_is)
    (case c9 => k_is)
    (case k9 => k_is)
    (case a10 => k_is)
    (case l10 => k_is)
    (case c10 => k_is)
    (case k10 => k_is)
    (case a11 => k_is)
    (case l11 => k_is)
    (case c11 => k_is)
    (case k11 => k_is)
    (case a12 => k_is)
    (case l12 => k_is)
    (case c12 => k_is)
    (case k12 => k_is)
    (case a13 => k_is)
    (case l13 => k_is)
    (case c13 => k_is)
    (case k13 => k_is)
    (case a14 => k_is)
    (case l14 => k_is)
    (case c14 => k_is)
    (case k14 => k_is)
    (case a15 => k_is)
    (case l15 => k_is)
    (case c15 => k_is)
    (case k15 => k_is)
    (case a16 => k_is)
    (case l16 => k_is)
    (case c16 => k_is)
    (case k16 => k_is)
    (case a17 => k_is)
    (case l17 => k_is)
    (case c17 => k_is)
    (case k17 => k_is)
    (case a18 => k_is)
    (case l18 => k_is)
    (case c18 => k_is)
    (case k18 => k_is)
    (case a19 => k_is)
    (case l19 => k_is)
    (case c19 => k_is)
    (case k19 => k_is)
    (case a20 => k_is)
    (case l20 => k_is)
    (case c20 => k_is)
    (case k20 => k_is)
    (case a21 => k_is)
    (case l21 => k_is)
    (case c21 => k_is)
    (case k21 => k_is)
    (case a22 => k_is)
    (case l22 => k_is)
    (case c22 => k_is)
    (case k22 => k_is)
    (case a23 => k_is)
    (case l23 => k_is)
    (case c23 => k_is)
    (case k23 => k_is)
    (case a24 => k_is)
    (case l24 => k_is)
    (case c24 => k_is)
    (case k24 => k_is)
    (case a25 => k_is)
    (case l25 => k_is)
    (case c25 => k_is)
    (case k25 => k_is)
    (case a26 => k_is)
    (case l26 => k_is)
    (case c26 => k_is)
    (case k26 => k_is)
    (case z_all => k_is)
    (case z_bool => k_is)
    (case z_int => k_is)
    (case z_isinstance => k_is)
    (case z_len => k_is)
    (case z_list => k_is)
    (case z_min => k_is)
    (case z_range => k_is)
    (case z_str => k_is)
    (case z_tuple => k_is)
    (case c_LARGEST => k_is)
    (case c_LONGEST_NAME => k_is)
    (case c_MOST_NAMES => k_is)
    (case c_MOST_PARTS => k_is)
    (case c_MOST_WARDENS_ABOVE => k_is)
    (case c_AGAINS => k_is)
    (case q_AGAINS => (refine' Pd.ktup_of ?l ?z ?v ?r; (case l => k_is); (case z => decide); (case v => exact (.cons (Pd.rel_str _ _) (.cons (Pd.rel_str _ _) (.cons (Pd.rel_str _ _) .nil)))); (case r => exact fun H => (.cons (.str _) (.cons (.str _) (.cons (.str _) .nil))))))
    (case c_RULES => k_is)
    (case q_RULES => (refine' Pd.ktup_of ?l ?z ?v ?r; (case l => k_is); (case z => decide); (case v => exact (.cons (Pd.rel_str _ _) (.cons (Pd.rel_str _ _) (.cons (Pd.rel_str _ _) .nil)))); (case r => exact fun H => (.cons (.str _) (.cons (.str _) (.cons (.str _) .nil))))))
