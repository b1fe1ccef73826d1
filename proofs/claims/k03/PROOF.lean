import PyProof.Rows.All
import Wide.All
import OpenK.AllK
import Wide.FinOn
import HandS.ForMost
import HandS.IsInst
import HandS.Deep
import HandS.TupAny
import HandS.Conv
import PySem.Challenge.RW_wardhouse_k03_rules
set_option Elab.async false
set_option linter.all false
set_option maxRecDepth 100000
set_option maxHeartbeats 4000000
/-! Pure defs over data: a def's body read as a function over PyData (lists, tuples, dicts by value; lists that a def itself fills are its own). -/
namespace Pd
open PySem PySem.Spec PyProof.Rows L2
abbrev D := PyData
def keyD : Key → D
  | .inl i => .int i
  | .inr x => .str x
theorem keyD_inj : ∀ {a b : Key}, keyD a = keyD b → a = b
  | .inl _, .inl _, h => by injection h with h; rw [h]
  | .inr _, .inr _, h => by injection h with h; rw [h]
  | .inl _, .inr _, h => by cases h
  | .inr _, .inl _, h => by cases h
/-! ### data in a heap -/
mutual
inductive Rv (K : PySem.W.Frag) (H : Hp) : D → V → Prop
  | non : Rv K H .none .non
  | bl (b : Bool) : Rv K H (.bool b) (.bl b)
  | int (i : Int) : Rv K H (.int i) (.int i)
  | str (x : Str) : Rv K H (.str x) (.str x)
  | lst {a : Addr} {xs : List V} {ds : List D} : SqL K H a xs → RvL K H ds xs → Rv K H (.list ds) (.ref a)
  | tup {a : Addr} {xs : List V} {ds : List D} : SqT K H a xs → RvL K H ds xs → Rv K H (.tuple ds) (.ref a)
  | dic {a : Addr} {xs : List (Key × V)} {ds : List (D × D)} : H a = some (.dK xs) → RvK K H ds xs → Rv K H (.dict ds) (.ref a)
inductive RvL (K : PySem.W.Frag) (H : Hp) : List D → List V → Prop
  | nil : RvL K H [] []
  | cons {v : V} {vs : List V} {d : D} {ds : List D} : Rv K H d v → RvL K H ds vs → RvL K H (d :: ds) (v :: vs)
inductive RvK (K : PySem.W.Frag) (H : Hp) : List (D × D) → List (Key × V) → Prop
  | nil : RvK K H [] []
  | cons {k : Key} {v : V} {vs : List (Key × V)} {d : D} {ds : List (D × D)} : Rv K H d v → RvK K H ds vs → RvK K H ((keyD k, d) :: ds) ((k, v) :: vs)
end
theorem sqt_mono {K : PySem.W.Frag} {H H' : Hp} {a : Addr} {xs : List V} (e : Same H H') (h : SqT K H a xs) : SqT K H' a xs := by
  rcases h with (h | ⟨o, h⟩) | h
  · exact .inl (.inl (e _ _ h))
  · exact .inl (.inr ⟨o, e _ _ h⟩)
  · exact .inr h
section
variable {K : PySem.W.Frag} {H H' : Hp}
mutual
theorem Rv.mono (s : Same H H') : ∀ (d : D) {v : V}, Rv K H d v → Rv K H' d v
  | .none, _, h => by cases h; exact .non
  | .bool b, _, h => by cases h; exact .bl b
  | .int i, _, h => by cases h; exact .int i
  | .str x, _, h => by cases h; exact .str x
  | .list ds, _, h => by cases h with | lst a b => exact .lst (s.seq a) (RvL.mono s ds b)
  | .tuple ds, _, h => by cases h with | tup a b => exact .tup (sqt_mono s a) (RvL.mono s ds b)
  | .dict ds, _, h => by cases h with | dic a b => exact .dic (s _ _ a) (RvK.mono s ds b)
theorem RvL.mono (s : Same H H') : ∀ (ds : List D) {vs : List V}, RvL K H ds vs → RvL K H' ds vs
  | [], _, h => by cases h; exact .nil
  | d :: ds, _, h => by cases h with | cons a b => exact .cons (Rv.mono s d a) (RvL.mono s ds b)
theorem RvK.mono (s : Same H H') : ∀ (ds : List (D × D)) {vs : List (Key × V)}, RvK K H ds vs → RvK K H' ds vs
  | [], _, h => by cases h; exact .nil
  | (_, d) :: ds, _, h => by cases h with | cons a b => exact .cons (Rv.mono s d a) (RvK.mono s ds b)
end
theorem RvL.length : ∀ {ds : List D} {vs : List V}, RvL K H ds vs → vs.length = ds.length
  | [], _, h => by cases h; rfl
  | d :: ds, _, h => by cases h with | cons a b => rw [List.length_cons, List.length_cons, RvL.length b]
theorem RvL.get : ∀ {ds : List D} {vs : List V} {i : Nat} {d : D}, RvL K H ds vs → ds[i]? = some d → ∃ v, vs[i]? = some v ∧ Rv K H d v
  | [], _, _, _, _, e => by simp at e
  | d :: ds, _, 0, _, h, e => by cases h with | cons a b => simp at e; subst e; exact ⟨_, rfl, a⟩
  | d :: ds, _, i + 1, _, h, e => by
    cases h with
    | cons a b => obtain ⟨v, h1, h2⟩ := RvL.get (i := i) b (by simpa using e); exact ⟨v, by simpa using h1, h2⟩
theorem RvL.got : ∀ {ds : List D} {vs : List V} {i : Nat} {v : V}, RvL K H ds vs → vs[i]? = some v → ∃ d, ds[i]? = some d ∧ Rv K H d v := fun {ds vs i v} h e => by
  have hl := h.length
  have hi : i < vs.length := (List.getElem?_eq_some_iff.mp e).1
  have e2 : ds[i]? = some ds[i] := List.getElem?_eq_getElem (by omega)
  obtain ⟨v', h1, h2⟩ := h.get e2
  rw [e] at h1
  cases h1
  exact ⟨_, e2, h2⟩
theorem RvL.append : ∀ {ds es : List D} {vs ws : List V}, RvL K H ds vs → RvL K H es ws → RvL K H (ds ++ es) (vs ++ ws)
  | [], _, _, _, h, g => by cases h; exact g
  | d :: ds, _, _, _, h, g => by cases h with | cons a b => exact .cons a (RvL.append b g)
theorem RvL.take : ∀ {ds : List D} {vs : List V} (n : Nat), RvL K H ds vs → RvL K H (ds.take n) (vs.take n)
  | _, _, 0, _ => .nil
  | [], _, _ + 1, h => by cases h; exact .nil
  | d :: ds, _, n + 1, h => by cases h with | cons a b => exact .cons a (RvL.take n b)
theorem RvL.drop : ∀ {ds : List D} {vs : List V} (n : Nat), RvL K H ds vs → RvL K H (ds.drop n) (vs.drop n)
  | _, _, 0, h => h
  | [], _, _ + 1, h => by cases h; exact .nil
  | d :: ds, _, n + 1, h => by cases h with | cons a b => exact RvL.drop n b
theorem RvL.reverse : ∀ {ds : List D} {vs : List V}, RvL K H ds vs → RvL K H ds.reverse vs.reverse
  | [], _, h => by cases h; exact .nil
  | d :: ds, _, h => by
    cases h with
    | cons a b => rw [List.reverse_cons, List.reverse_cons]; exact (RvL.reverse b).append (.cons a .nil)
theorem RvL.ints : ∀ (ns : List Int), RvL K H (ns.map PyData.int) (ns.map V.int)
  | [] => .nil
  | n :: r => .cons (.int n) (RvL.ints r)
/-- data without dicts -/
theorem dp_none {d : D} {v : V} (h : Rv K H d v) : d = .none → v = .non := by intro e; subst e; cases h; rfl
mutual
def flatD : D → Bool
  | .none => true
  | .bool _ => true
  | .int _ => true
  | .str _ => true
  | .list ds => flatDs ds
  | .tuple ds => flatDs ds
  | .dict _ => false
def flatDs : List D → Bool
  | [] => true
  | d :: ds => flatD d && flatDs ds
end
mutual
theorem Rv.dp : ∀ (d : D) {v : V}, flatD d = true → Rv K H d v → Dp K H v d
  | .none, _, _, h => by cases h; exact .non
  | .bool b, _, _, h => by cases h; exact .bl b
  | .int i, _, _, h => by cases h; exact .int i
  | .str x, _, _, h => by cases h; exact .str x
  | .list ds, _, f, h => by cases h with | lst a b => exact .lst a (RvL.dp ds (by simpa [flatD] using f) b)
  | .tuple ds, _, f, h => by cases h with | tup a b => exact .tup a (RvL.dp ds (by simpa [flatD] using f) b)
  | .dict ds, _, f, h => by simp [flatD] at f
theorem RvL.dp : ∀ (ds : List D) {vs : List V}, flatDs ds = true → RvL K H ds vs → DpAll K H vs ds
  | [], _, _, h => by cases h; exact .nil
  | d :: ds, _, f, h => by
    simp only [flatDs, Bool.and_eq_true] at f
    cases h with | cons a b => exact .cons (Rv.dp d f.1 a) (RvL.dp ds f.2 b)
end
end
/-! ### the frozen part of a heap, and the heap -/
structure Stt where
  Z : Hp
  H : Hp
  ok : Same Z H
structure Ex (S S' : Stt) : Prop where
  z : Same S.Z S'.Z
  h : Same S.H S'.H
  c : ∀ b, S.Z b = none → S.H b ≠ none → S'.Z b = none
theorem Ex.refl (S : Stt) : Ex S S := ⟨Same.refl _, Same.refl _, fun _ h _ => h⟩
theorem same_some {H H' : Hp} (s : Same H H') {b : Addr} (h : H b ≠ none) : H' b ≠ none := by
  cases e : H b with
  | none => exact absurd e h
  | some o => rw [s _ _ e]; simp
theorem Ex.trans {S T U : Stt} (a : Ex S T) (b : Ex T U) : Ex S U := ⟨a.z.trans b.z, a.h.trans b.h, fun c h1 h2 => b.c c (a.c c h1 h2) (same_some a.h h2)⟩
theorem same_upd {H : Hp} {p : Addr} (h : H p = none) (o : HO) : Same H (upd H p o) := fun b u q => by rw [upd_ne (ne_of_none q h)]; exact q
theorem same_upd2 {Z H : Hp} (s : Same Z H) {p : Addr} (o : HO) : Same (upd Z p o) (upd H p o) := fun b u q => by
  by_cases e : b = p
  · subst e; rw [upd_same] at q ⊢; exact q
  · rw [upd_ne e] at q ⊢; exact s _ _ q
/-- a new frozen object -/
def Stt.lay (S : Stt) (p : Addr) (o : HO) : Stt := ⟨upd S.Z p o, upd S.H p o, same_upd2 S.ok o⟩
theorem Stt.lay_ex {S : Stt} {p : Addr} {o : HO} (h : S.H p = none) : Ex S (S.lay p o) := ⟨same_upd (S.ok.free h) o, same_upd h o, fun b h1 h2 => by
  show upd S.Z p o b = none
  rw [upd_ne (show b ≠ p from fun e => by subst e; exact h2 h)]; exact h1⟩
theorem Stt.lay_at {S : Stt} {p : Addr} {o : HO} : (S.lay p o).Z p = some o := upd_same
/-- a new object of the def's own, not frozen -/
def Stt.put (S : Stt) (p : Addr) (o : HO) (h : S.Z p = none) : Stt := ⟨S.Z, upd S.H p o, fun b u q => by rw [upd_ne (ne_of_none q h)]; exact S.ok _ _ q⟩
/-! ### the slots -/
inductive Sl where
  | un
  | val (d : D)
  | own (ds : List D)
def RS (K : PySem.W.Frag) (E : Hp) (S : Stt) (v : Option V) : Sl → Prop
  | .un => True
  | .val d => ∃ x, v = some x ∧ Rv K S.Z d x
  | .own ds => ∃ a vs, v = some (.ref a) ∧ S.H a = some (.lst vs) ∧ S.Z a = none ∧ E a = none ∧ RvL K S.Z ds vs
structure R (K : PySem.W.Frag) (E : Hp) (S : Stt) (σ : L2.St) (δ : List Sl) : Prop where
  at_ : ∀ (i : Nat) (s : Sl), δ[i]? = some s → ∃ v, σ[i]? = some v ∧ RS K E S v s
  dis : ∀ (i j : Nat) (a : Addr) (ds es : List D), δ[i]? = some (.own ds) → δ[j]? = some (.own es) → σ[i]? = some (some (.ref a)) → σ[j]? = some (some (.ref a)) → i = j
section
variable {K : PySem.W.Frag} {E : Hp} {S S' : Stt} {σ : L2.St} {δ : List Sl}
theorem RS.mono (x : Ex S S') {v : Option V} {s : Sl} (h : RS K E S v s) : RS K E S' v s := by
  cases s with
  | un => exact trivial
  | val d => obtain ⟨y, h1, h2⟩ := h; exact ⟨y, h1, Rv.mono x.z d h2⟩
  | own ds => obtain ⟨a, vs, h1, h2, h3, h4, h5⟩ := h; exact ⟨a, vs, h1, x.h _ _ h2, x.c _ h3 (by rw [h2]; simp), h4, RvL.mono x.z ds h5⟩
theorem R.mono (x : Ex S S') (r : R K E S σ δ) : R K E S' σ δ := ⟨fun i s h => let ⟨v, h1, h2⟩ := r.at_ i s h; ⟨v, h1, h2.mono x⟩, r.dis⟩
/-- a value is stored -/
theorem R.set (r : R K E S σ δ) {i : Nat} {v : V} {s : Sl} (h : RS K E S (some v) s) (hd : ∀ (ds : List D) (j : Nat) (a : Addr) (es : List D), s = .own ds → v = .ref a → δ[j]? = some (.own es) → σ[j]? = some (some (.ref a)) → j = i) : R K E S (σ.set i (some v)) (δ.set i s) := by
  refine ⟨fun j t e => ?_, fun j k a ds es e1 e2 f1 f2 => ?_⟩
  · by_cases hj : j = i
    · subst hj
      have hl : j < δ.length := by
        have := (List.getElem?_eq_some_iff.mp e).1
        simpa using this
      rw [List.getElem?_set_self hl] at e
      cases e
      obtain ⟨w, hw, _⟩ := r.at_ j δ[j] (List.getElem?_eq_getElem hl)
      have hs : j < σ.length := (List.getElem?_eq_some_iff.mp hw).1
      exact ⟨some v, List.getElem?_set_self hs, h⟩
    · rw [List.getElem?_set_ne (Ne.symm hj)] at e ⊢
      exact r.at_ j t e
  · have lens : ∀ {m : Nat} {t : Sl}, (δ.set i s)[m]? = some t → m < δ.length := fun q => by
      have := (List.getElem?_eq_some_iff.mp q).1
      simpa using this
    have at_i : ∀ {m : Nat} {es' : List D}, m = i → (δ.set i s)[m]? = some (.own es') → (σ.set i (some v))[m]? = some (some (.ref a)) → s = .own es' ∧ v = .ref a := by
      intro m es' hm q1 q2
      subst hm
      have hl := lens q1
      rw [List.getElem?_set_self hl] at q1
      have hs : m < σ.length := by
        have := (List.getElem?_eq_some_iff.mp q2).1
        simpa using this
      rw [List.getElem?_set_self hs] at q2
      cases q1
      cases q2
      exact ⟨rfl, rfl⟩
    by_cases hj : j = i
    · obtain ⟨q1, q2⟩ := at_i hj e1 f1
      by_cases hk : k = i
      · rw [hj, hk]
      · rw [List.getElem?_set_ne (Ne.symm hk)] at e2 f2
        exact absurd (hd ds k a es q1 q2 e2 f2) hk
    · by_cases hk : k = i
      · obtain ⟨q1, q2⟩ := at_i hk e2 f2
        rw [List.getElem?_set_ne (Ne.symm hj)] at e1 f1
        exact absurd (hd es j a ds q1 q2 e1 f1) hj
      · rw [List.getElem?_set_ne (Ne.symm hj)] at e1 f1
        rw [List.getElem?_set_ne (Ne.symm hk)] at e2 f2
        exact r.dis j k a ds es e1 e2 f1 f2
theorem R.setv (r : R K E S σ δ) {i : Nat} {v : V} {d : D} (h : Rv K S.Z d v) : R K E S (σ.set i (some v)) (δ.set i (.val d)) :=
  r.set ⟨v, rfl, h⟩ fun ds j a es e => by cases e
end
/-! ### readings of expressions -/
abbrev FE := List Sl → Option D
def tD (K : PySem.W.Frag) (f : FE) : TE := fun σ H Q => ∃ (E : Hp) (S : Stt) (δ : List Sl) (d : D), S.H = H ∧ R K E S σ δ ∧ f δ = some d ∧ ∀ v S', Ex S S' → Rv K S'.Z d v → Q v S'.H
abbrev DE (X : Cx) (e : Expr) (f : FE) : Prop := PE X e (tD X.K f)
abbrev FA := List Sl → Option (List D)
def tDA (K : PySem.W.Frag) (f : FA) : TA := fun σ H Q => ∃ (E : Hp) (S : Stt) (δ : List Sl) (ds : List D), S.H = H ∧ R K E S σ δ ∧ f δ = some ds ∧ ∀ vs S', Ex S S' → RvL K S'.Z ds vs → Q vs S'.H
abbrev DA (X : Cx) (es : List Expr) (f : FA) : Prop := PA X es (tDA X.K f)
def rD2 (K : PySem.W.Frag) (f : D → D → Option D) : R2 := fun x y H Q => ∃ (S : Stt) (d1 d2 d : D), S.H = H ∧ Rv K S.Z d1 x ∧ Rv K S.Z d2 y ∧ f d1 d2 = some d ∧ ∀ v S', Ex S S' → Rv K S'.Z d v → Q v S'.H
abbrev OpD (X : Cx) (op : Value → Value → Sem Value) (f : D → D → Option D) : Prop := OpR X op (rD2 X.K f)
theorem pe_conseq {X : Cx} {e : Expr} {t t' : TE} (h : PE X e t) (q : ∀ σ H Q, t' σ H Q → t σ H Q) : PE X e t' := ⟨fun pins s σ H Q I hw => h.run pins s σ H Q I (q _ _ _ hw)⟩
theorem pa_conseq {X : Cx} {e : List Expr} {t t' : TA} (h : PA X e t) (q : ∀ σ H Q, t' σ H Q → t σ H Q) : PA X e t' := ⟨fun pos pins s σ H Q I hw => h.run pos pins s σ H Q I (q _ _ _ hw)⟩
theorem ps_conseq {X : Cx} {e : Stmt} {t t' : TS} (h : PS X e t) (q : ∀ Dn σ H, t' Dn σ H → t Dn σ H) : PS X e t' := ⟨fun pins s σ H Dn I hw => h.run pins s σ H Dn I (q _ _ _ hw)⟩
theorem pss_conseq {X : Cx} {e : List Stmt} {t t' : TS} (h : PSs X e t) (q : ∀ Dn σ H, t' Dn σ H → t Dn σ H) : PSs X e t' := ⟨fun pins s σ H Dn I hw => h.run pins s σ H Dn I (q _ _ _ hw)⟩
theorem pt_conseq {X : Cx} {e : Expr} {t t' : TT} (h : PT X e t) (q : ∀ σ H Q, t' σ H Q → t σ H Q) : PT X e t' := ⟨fun pins s σ H Q I hw => h.run pins s σ H Q I (q _ _ _ hw)⟩
theorem opr_conseq {X : Cx} {op : Value → Value → Sem Value} {r r' : R2} (h : OpR X op r) (q : ∀ x y H Q, r' x y H Q → r x y H Q) : OpR X op r' := fun pins s σ H x y v u Q I rx ry hw => h pins s σ H x y v u Q I rx ry (q _ _ _ _ hw)
section
variable {X : Cx} {a b c e : Expr} {fa fb fc f : FE} {pos : Pos}
def eC (d : D) : FE := fun _ => some d
def eVar (i : Nat) : FE := fun δ => match δ[i]? with
  | some (.val d) => some d
  | _ => none
def e1 (g : D → Option D) (fa : FE) : FE := fun δ => (fa δ).bind g
def e2 (g : D → D → Option D) (fa fb : FE) : FE := fun δ => (fa δ).bind fun x => (fb δ).bind fun y => g x y
theorem de_var (i : Nat) {x : Str} (hN : X.N[i]? = some x := by rfl) (hv : Vis X.env.scope x := by first | exact Or.inl rfl | exact Or.inr (Or.inl rfl) | exact Or.inr (Or.inr rfl)) (hd : (x == ("__debug__" : Str)) = false := by decide)
    (hcd : (x == ("__classdict__" : Str)) = false := by decide) : DE X (.Name x pos) (eVar i) := by
  refine pe_conseq (pe_var hN hv hd hcd) fun σ H Q h => ?_
  obtain ⟨E, S, δ, d, rfl, r, hf, q⟩ := h
  unfold eVar at hf
  cases es : δ[i]? with
  | none => rw [es] at hf; cases hf
  | some s =>
    rw [es] at hf
    cases s with
    | un => cases hf
    | own ds => cases hf
    | val d' =>
      cases hf
      obtain ⟨v, h1, y, rfl, h3⟩ := r.at_ i _ es
      exact ⟨y, h1, q y S (.refl S) h3⟩
theorem de_const {t : TE} {v : V} {d : D} (h : PE X e (tC v)) (hr : ∀ H, Rv X.K H d v) : DE X e (eC d) := pe_conseq h fun σ H Q h => by
  obtain ⟨E, S, δ, d', rfl, r, hf, q⟩ := h
  cases hf
  exact q v S (.refl S) (hr _)
theorem de_int {i : Int} {j : Nat} : DE X (.Constant (.int i) j pos) (eC (.int i)) := de_const (t := tC (.int i)) pe_int fun _ => .int i
theorem de_str {i : Str} {j : Nat} : DE X (.Constant (.str i) j pos) (eC (.str i)) := de_const (t := tC (.str i)) pe_str fun _ => .str i
theorem de_bl {i : Bool} {j : Nat} : DE X (.Constant (.bool i) j pos) (eC (.bool i)) := de_const (t := tC (.bl i)) pe_bl fun _ => .bl i
theorem de_non {j : Nat} : DE X (.Constant .none j pos) (eC .none) := de_const (t := tC .non) pe_non fun _ => .non
theorem de_globI {x : Str} {i : Int} (hg : Gl X x) (hm : ∃ t, X.mg x = some (.int i t)) (hd : (x == ("__debug__" : Str)) = false := by decide) : DE X (.Name x pos) (eC (.int i)) :=
  let ⟨t, hm⟩ := hm
  de_const (t := tC (.int i)) (pe_glob (v := V.int i) hg hm (show ∃ u, Value.int i t = Value.int i u from ⟨t, rfl⟩) hd) fun _ => .int i
/-- a module's tuple -/
theorem de_globT {x : Str} {p : Addr} {ds : List D} {vs : List V} (hg : Gl X x) (hm : X.mg x = some (.ref p)) (hs : ∀ H, SqT X.K H p vs) (hr : ∀ H, RvL X.K H ds vs) (hd : (x == ("__debug__" : Str)) = false := by decide) : DE X (.Name x pos) (eC (.tuple ds)) :=
  de_const (t := tC (.ref p)) (pe_glob (v := V.ref p) hg hm (show Value.ref p = Value.ref p from rfl) hd) fun H => .tup (hs H) (hr H)
theorem tD_bin {K : PySem.W.Frag} {g : D → D → Option D} {σ : L2.St} {H : Hp} {Q : VK} (h : tD K (e2 g fa fb) σ H Q) : tOp (rD2 K g) (tD K fa) (tD K fb) σ H Q := by
  obtain ⟨E, S, δ, d, rfl, r, hf, q⟩ := h
  unfold e2 at hf
  obtain ⟨x, hx, hf⟩ := Option.bind_eq_some_iff.mp hf
  obtain ⟨y, hy, hf⟩ := Option.bind_eq_some_iff.mp hf
  refine ⟨E, S, δ, x, rfl, r, hx, fun v S1 x1 r1 => ⟨E, S1, δ, y, rfl, r.mono x1, hy, fun u S2 x2 r2 => ⟨S2, x, y, d, rfl, Rv.mono x2.z x r1, r2, hf, fun w S3 x3 r3 => q w S3 ((x1.trans x2).trans x3) r3⟩⟩⟩
theorem de_bin {op : Operator} {g : D → D → Option D} (ho : OpD X (binaryOp op) g) (ha : DE X a fa) (hb : DE X b fb) : DE X (.BinOp a op b pos) (e2 g fa fb) :=
  pe_conseq (pe_op ho ha hb) fun σ H Q h => tD_bin h
theorem de_cmp {op : CmpOp} {g : D → D → Option D} (ho : OpD X (compareOp op) g) (ha : DE X a fa) (hb : DE X b fb) (hm : behindInMarks op b = false) : DE X (.Compare a [op] [b] pos) (e2 g fa fb) :=
  pe_conseq (pe_cmpR ho ha hb hm) fun σ H Q h => tD_bin h
/-- a < b < c -/
def eChain (g g' : D → D → Option D) (fa fb fc : FE) : FE := fun δ => (fa δ).bind fun x => (fb δ).bind fun y => (g x y).bind fun z => match z with
  | .bool true => (fc δ).bind fun w => g' y w
  | .bool false => some (.bool false)
  | _ => none
theorem chain_run {K : PySem.W.Frag} {g g' : D → D → Option D} {σ : L2.St} {H : Hp} {Q : VK} (h : tD K (eChain g g' fa fb fc) σ H Q) : tChain (rD2 K g) (rD2 K g') (tD K fa) (tD K fb) (tD K fc) σ H Q := by
  obtain ⟨E, S, δ, d, rfl, r, hf, q⟩ := h
  unfold eChain at hf
  obtain ⟨x, hx, hf⟩ := Option.bind_eq_some_iff.mp hf
  obtain ⟨y, hy, hf⟩ := Option.bind_eq_some_iff.mp hf
  obtain ⟨z, hz, hf⟩ := Option.bind_eq_some_iff.mp hf
  refine ⟨E, S, δ, x, rfl, r, hx, fun v S1 x1 r1 => ⟨E, S1, δ, y, rfl, r.mono x1, hy, fun u S2 x2 r2 => ⟨S2, x, y, z, rfl, Rv.mono x2.z x r1, r2, hz, fun w S3 x3 r3 => ?_⟩⟩⟩
  cases z with
  | bool k =>
    cases r3
    refine ⟨k, rfl, ?_⟩
    cases k with
    | true =>
      rw [if_pos rfl]
      obtain ⟨w2, hw2, hf⟩ := Option.bind_eq_some_iff.mp hf
      exact ⟨E, S3, δ, w2, rfl, r.mono ((x1.trans x2).trans x3), hw2, fun v4 S4 x4 r4 => ⟨S4, y, w2, d, rfl, Rv.mono (x3.z.trans x4.z) y r2, r4, hf, fun v5 S5 x5 r5 => q v5 S5 ((((x1.trans x2).trans x3).trans x4).trans x5) r5⟩⟩
    | false =>
      rw [if_neg Bool.false_ne_true]
      have hf : some (PyData.bool false) = some d := hf
      cases hf
      exact q _ S3 ((x1.trans x2).trans x3) (.bl false)
  | _ => cases hf
theorem de_chain {op op' : CmpOp} {g g' : D → D → Option D} (ho : OpD X (compareOp op) g) (ho' : OpD X (compareOp op') g') (ha : DE X a fa) (hb : DE X b fb) (hc : DE X c fc) (hm : lastMarks [op, op'] [b, c] = false := by with_unfolding_all rfl) :
    DE X (.Compare a [op, op'] [b, c] pos) (eChain g g' fa fb fc) := pe_conseq (pe_chain ho ho' ha hb hc hm) fun σ H Q h => chain_run h
def asB : D → Option Bool
  | .bool k => some k
  | _ => none
def eAnd (fa fb : FE) : FE := fun δ => (fa δ).bind fun x => match x with
  | .bool true => fb δ
  | .bool false => some (.bool false)
  | _ => none
def eOr (fa fb : FE) : FE := fun δ => (fa δ).bind fun x => match x with
  | .bool true => some (.bool true)
  | .bool false => fb δ
  | _ => none
def eNot (fa : FE) : FE := fun δ => (fa δ).bind fun x => match x with
  | .bool k => some (.bool (!k))
  | _ => none
def eIf (ft fa fb : FE) : FE := fun δ => (ft δ).bind fun x => match x with
  | .bool true => fa δ
  | .bool false => fb δ
  | _ => none
theorem de_one {op : BoolOp} (h : DE X a fa) : DE X (.BoolOp op [a] pos) fa := pe_one h
theorem de_and {rest : List Expr} (ha : DE X a fa) (hb : DE X (.BoolOp .And (b :: rest) pos) fb) : DE X (.BoolOp .And (a :: b :: rest) pos) (eAnd fa fb) := by
  refine pe_conseq (pe_and ha hb) fun σ H Q h => ?_
  obtain ⟨E, S, δ, d, rfl, r, hf, q⟩ := h
  unfold eAnd at hf
  obtain ⟨x, hx, hf⟩ := Option.bind_eq_some_iff.mp hf
  refine ⟨E, S, δ, x, rfl, r, hx, fun v S1 x1 r1 => ?_⟩
  cases x with
  | bool k =>
    cases r1
    refine ⟨k, rfl, ?_⟩
    cases k with
    | true => rw [if_pos rfl]; exact ⟨E, S1, δ, d, rfl, r.mono x1, hf, fun v S2 x2 r2 => q v S2 (x1.trans x2) r2⟩
    | false =>
      rw [if_neg Bool.false_ne_true]
      have hf : some (PyData.bool false) = some d := hf
      cases hf
      exact q _ S1 x1 (.bl false)
  | _ => cases hf
theorem de_or {rest : List Expr} (ha : DE X a fa) (hb : DE X (.BoolOp .Or (b :: rest) pos) fb) : DE X (.BoolOp .Or (a :: b :: rest) pos) (eOr fa fb) := by
  refine pe_conseq (pe_or ha hb) fun σ H Q h => ?_
  obtain ⟨E, S, δ, d, rfl, r, hf, q⟩ := h
  unfold eOr at hf
  obtain ⟨x, hx, hf⟩ := Option.bind_eq_some_iff.mp hf
  refine ⟨E, S, δ, x, rfl, r, hx, fun v S1 x1 r1 => ?_⟩
  cases x with
  | bool k =>
    cases r1
    refine ⟨k, rfl, ?_⟩
    cases k with
    | false => rw [if_neg Bool.false_ne_true]; exact ⟨E, S1, δ, d, rfl, r.mono x1, hf, fun v S2 x2 r2 => q v S2 (x1.trans x2) r2⟩
    | true =>
      rw [if_pos rfl]
      have hf : some (PyData.bool true) = some d := hf
      cases hf
      exact q _ S1 x1 (.bl true)
  | _ => cases hf
theorem de_not (ha : DE X a fa) : DE X (.UnaryOp .Not a pos) (eNot fa) := by
  refine pe_conseq (pe_not ha) fun σ H Q h => ?_
  obtain ⟨E, S, δ, d, rfl, r, hf, q⟩ := h
  unfold eNot at hf
  obtain ⟨x, hx, hf⟩ := Option.bind_eq_some_iff.mp hf
  refine ⟨E, S, δ, x, rfl, r, hx, fun v S1 x1 r1 => ?_⟩
  cases x with
  | bool k =>
    cases r1
    have hf : some (PyData.bool (!k)) = some d := hf
    cases hf
    exact ⟨k, rfl, q _ S1 x1 (.bl _)⟩
  | _ => cases hf
/-- a test that gives True or False -/
def tDT (K : PySem.W.Frag) (f : FE) : TT := fun σ H Q => ∃ (E : Hp) (S : Stt) (δ : List Sl) (k : Bool), S.H = H ∧ R K E S σ δ ∧ f δ = some (.bool k) ∧ ∀ S', Ex S S' → Q k S'.H
theorem dt_of (h : DE X e f) (he : ∀ whole, isTrue e X.env whole = (do let v ← whole; standAt e.pos; holding [v] (truthy v)) := by intro _; rfl) : PT X e (tDT X.K f) := by
  refine pt_conseq (pt_val h he) fun σ H Q q => ?_
  obtain ⟨E, S, δ, k, rfl, r, hf, q⟩ := q
  exact ⟨E, S, δ, _, rfl, r, hf, fun v S' x rv => by cases rv; exact ⟨k, rfl, q S' x⟩⟩
theorem dt_not {ft : FE} (h : PT X e (tDT X.K ft)) : PT X (.UnaryOp .Not e pos) (tDT X.K (eNot ft)) := by
  refine pt_conseq (pt_not h) fun σ H Q q => ?_
  obtain ⟨E, S, δ, k, rfl, r, hf, q⟩ := q
  unfold eNot at hf
  obtain ⟨x, hx, hf⟩ := Option.bind_eq_some_iff.mp hf
  cases x with
  | bool k' =>
    have hf : some (PyData.bool (!k')) = some (PyData.bool k) := hf
    cases hf
    exact ⟨E, S, δ, k', rfl, r, hx, fun S' x => q S' x⟩
  | _ => cases hf
theorem dw_and1 {ft : FE} (h : PT X a (tDT X.K ft)) : PW X (.BoolOp .And [a] pos) (tDT X.K ft) := pw_and1 h
theorem dw_or1 {ft : FE} (h : PT X a (tDT X.K ft)) : PW X (.BoolOp .Or [a] pos) (tDT X.K ft) := pw_or1 h
theorem pw_conseq {e : Expr} {t t' : TT} (h : PW X e t) (q : ∀ σ H Q, t' σ H Q → t σ H Q) : PW X e t' := ⟨fun whole pins s σ H Q I hw => h.run whole pins s σ H Q I (q _ _ _ hw)⟩
theorem dw_and {rest : List Expr} {fa fb : FE} (ha : PT X a (tDT X.K fa)) (hb : PW X (.BoolOp .And (b :: rest) pos) (tDT X.K fb)) : PW X (.BoolOp .And (a :: b :: rest) pos) (tDT X.K (eAnd fa fb)) := by
  refine pw_conseq (pw_and ha hb) fun σ H Q q => ?_
  obtain ⟨E, S, δ, k, rfl, r, hf, q⟩ := q
  unfold eAnd at hf
  obtain ⟨x, hx, hf⟩ := Option.bind_eq_some_iff.mp hf
  cases x with
  | bool k' =>
    refine ⟨E, S, δ, k', rfl, r, hx, fun S1 x1 => ?_⟩
    cases k' with
    | true => rw [if_pos rfl]; exact ⟨E, S1, δ, k, rfl, r.mono x1, hf, fun S2 x2 => q S2 (x1.trans x2)⟩
    | false =>
      rw [if_neg Bool.false_ne_true]
      have hf : some (PyData.bool false) = some (PyData.bool k) := hf
      cases hf
      exact q S1 x1
  | _ => cases hf
theorem dw_or {rest : List Expr} {fa fb : FE} (ha : PT X a (tDT X.K fa)) (hb : PW X (.BoolOp .Or (b :: rest) pos) (tDT X.K fb)) : PW X (.BoolOp .Or (a :: b :: rest) pos) (tDT X.K (eOr fa fb)) := by
  refine pw_conseq (pw_or ha hb) fun σ H Q q => ?_
  obtain ⟨E, S, δ, k, rfl, r, hf, q⟩ := q
  unfold eOr at hf
  obtain ⟨x, hx, hf⟩ := Option.bind_eq_some_iff.mp hf
  cases x with
  | bool k' =>
    refine ⟨E, S, δ, k', rfl, r, hx, fun S1 x1 => ?_⟩
    cases k' with
    | false => rw [if_neg Bool.false_ne_true]; exact ⟨E, S1, δ, k, rfl, r.mono x1, hf, fun S2 x2 => q S2 (x1.trans x2)⟩
    | true =>
      rw [if_pos rfl]
      have hf : some (PyData.bool true) = some (PyData.bool k) := hf
      cases hf
      exact q S1 x1
  | _ => cases hf
theorem dw_pt {ft : FE} (h : PW X e (tDT X.K ft)) : PT X e (tDT X.K ft) := h.pt
theorem de_ifExp {ft : FE} (ht : PT X c (tDT X.K ft)) (ha : DE X a fa) (hb : DE X b fb) : DE X (.IfExp c a b pos) (eIf ft fa fb) := by
  refine pe_conseq (pe_ifExp ht ha hb) fun σ H Q h => ?_
  obtain ⟨E, S, δ, d, rfl, r, hf, q⟩ := h
  unfold eIf at hf
  obtain ⟨x, hx, hf⟩ := Option.bind_eq_some_iff.mp hf
  cases x with
  | bool k =>
    refine ⟨E, S, δ, k, rfl, r, hx, fun S1 x1 => ?_⟩
    cases k with
    | true => rw [if_pos rfl]; exact ⟨E, S1, δ, d, rfl, r.mono x1, hf, fun v S2 x2 r2 => q v S2 (x1.trans x2) r2⟩
    | false => rw [if_neg Bool.false_ne_true]; exact ⟨E, S1, δ, d, rfl, r.mono x1, hf, fun v S2 x2 r2 => q v S2 (x1.trans x2) r2⟩
  | _ => cases hf
/-! ### argument lists, displays -/
def aNil : FA := fun _ => some []
def aCons (f : FE) (g : FA) : FA := fun δ => (f δ).bind fun d => (g δ).bind fun ds => some (d :: ds)
theorem da_nil : DA X [] aNil := pa_conseq pa_nil fun σ H Q h => by
  obtain ⟨E, S, δ, ds, rfl, r, hf, q⟩ := h
  cases hf
  exact q [] S (.refl S) .nil
theorem da_cons {es : List Expr} {g : FA} (h : DE X e f) (t : DA X es g) (hs : starEach (e :: es) X.env = (false, eval e X.env) :: starEach es X.env := by rfl) : DA X (e :: es) (aCons f g) := pa_conseq (pa_cons h t hs) fun σ H Q h => by
  obtain ⟨E, S, δ, ds, rfl, r, hf, q⟩ := h
  unfold aCons at hf
  obtain ⟨x, hx, hf⟩ := Option.bind_eq_some_iff.mp hf
  obtain ⟨y, hy, hf⟩ := Option.bind_eq_some_iff.mp hf
  cases hf
  exact ⟨E, S, δ, x, rfl, r, hx, fun v S1 x1 r1 => ⟨E, S1, δ, y, rfl, r.mono x1, hy, fun vs S2 x2 r2 => q _ S2 (x1.trans x2) (.cons (Rv.mono x2.z x r1) r2)⟩⟩
/-- lists no longer than this are made -/
def lim : Nat := 16777216
theorem lim_line : lim ≤ sizeLine := by decide
def eTup (g : FA) : FE := fun δ => (g δ).bind fun ds => if ds.length ≤ lim then some (.tuple ds) else none
def eLst (g : FA) : FE := fun δ => (g δ).bind fun ds => if ds.length ≤ lim then some (.list ds) else none
theorem lay_tup {K : PySem.W.Frag} {S : Stt} {ds : List D} {vs : List V} {p : Addr} (hp : S.H p = none) (r : RvL K S.Z ds vs) : Rv K (S.lay p (.tup vs)).Z (.tuple ds) (.ref p) :=
  .tup (.inl (.inl Stt.lay_at)) (RvL.mono (S.lay_ex (o := .tup vs) hp).z ds r)
theorem lay_lst {K : PySem.W.Frag} {S : Stt} {ds : List D} {vs : List V} {p : Addr} (hp : S.H p = none) (r : RvL K S.Z ds vs) : Rv K (S.lay p (.lst vs)).Z (.list ds) (.ref p) :=
  .lst (.inl (.inl Stt.lay_at)) (RvL.mono (S.lay_ex (o := .lst vs) hp).z ds r)
theorem de_tup {es : List Expr} {g : FA} {k : Nat} (h : DA X es g) : DE X (.Tuple es k pos) (eTup g) := pe_conseq (pe_tup h) fun σ H Q h => by
  obtain ⟨E, S, δ, d, rfl, r, hf, q⟩ := h
  unfold eTup at hf
  obtain ⟨ds, hx, hf⟩ := Option.bind_eq_some_iff.mp hf
  split at hf
  · rename_i hz
    cases hf
    refine ⟨E, S, δ, ds, rfl, r, hx, fun vs S1 x1 r1 => ⟨by rw [r1.length]; exact Nat.le_trans hz lim_line, fun p hp => ?_⟩⟩
    exact q _ (S1.lay p (.tup vs)) (x1.trans (S1.lay_ex hp)) (lay_tup hp r1)
  · cases hf
theorem de_lst {es : List Expr} {g : FA} (h : DA X es g) : DE X (.List es pos) (eLst g) := pe_conseq (pe_lst h) fun σ H Q h => by
  obtain ⟨E, S, δ, d, rfl, r, hf, q⟩ := h
  unfold eLst at hf
  obtain ⟨ds, hx, hf⟩ := Option.bind_eq_some_iff.mp hf
  split at hf
  · rename_i hz
    cases hf
    refine ⟨E, S, δ, ds, rfl, r, hx, fun vs S1 x1 r1 => ⟨by rw [r1.length]; exact Nat.le_trans hz lim_line, fun p hp => ?_⟩⟩
    exact q _ (S1.lay p (.lst vs)) (x1.trans (S1.lay_ex hp)) (lay_lst hp r1)
  · cases hf
end
end Pd

set_option Elab.async false
set_option linter.all false
set_option maxRecDepth 100000
set_option maxHeartbeats 4000000
namespace PySem
theorem list_extendW (l : Addr) (items : Array Value) (n : Nat) (b : Addr) (items2 : Array Value) (n2 : Nat) (dd2 : Option Addr) (sl2 : Array (Option Value)) (hc0 : ¬(!items.isEmpty && Builtin.List.listTooLong (items.size + items2.size)) = true) (hc1 : items.size ≤ sizeLine) (hs2 : items.size + items2.size ≤ sizeLine + 1) :
    Meets (Builtin.«list.extend» ⟨[.ref l, .ref b], []⟩) (fun _ R s => s.heap.get? l = some { cls := .type "list", dict := none, data := .seq items n, slots := #[] } ∧ s.heap.get? b = some { cls := .type "list", dict := dd2, data := .seq items2 n2, slots := sl2 } ∧ R (.ok (.ret .none)) { s with heap := s.heap.update l (Obj.mapSeq fun x => x ++ items2) }) :=
  .of_wp fun prog w A R s h => by
    obtain ⟨hp, g, d, tk, os⟩ := s; obtain ⟨hl, hb, h⟩ := h; have f1 := AutoSeq1.idx_int; have f2 := AutoSeq1.sub_tuple_tuple; have f3 := AutoSeq1.sub_list_list; have f4 := AutoSeq1.sub_tuple_list; have f5 := AutoSeq1.sub_list_tuple;
    have hz' : (items ++ items2).size ≤ sizeLine + 1 := by rw [Array.size_append]; exact hs2
    wp_walk using (wpAny_updateSeq hl rfl (hz := hc1) (_hz' := hz')), wpAny_loadPart' hl, wpAny_loadPart' hb; exact ⟨_, rfl, h⟩
end PySem
namespace Pd
open PySem PySem.Spec PyProof.Rows L2
section
variable {X : Cx} {a b c e : Expr} {fa fb fc f : FE} {pos : Pos}
/-! ### operators -/
def addD : D → D → Option D
  | .int i, .int j => some (.int (i + j))
  | .str x, .str y => if x.length + y.length ≤ lim then some (.str (x ++ y)) else none
  | .list x, .list y => if x.length + y.length ≤ lim then some (.list (x ++ y)) else none
  | .tuple x, .tuple y => if x.length + y.length ≤ lim then some (.tuple (x ++ y)) else none
  | _, _ => none
theorem I_list {pins : List (Addr × Obj)} {s : Shared} {σ : L2.St} {H : Hp} (I : Inv X pins σ H s) {a : Addr} {xs : List V} (h : SqL X.K H a xs) :
    ∃ (its : List Value) (o : Obj) (n : Nat), Vals xs its ∧ s.heap.get? a = some o ∧ o.cls = .type "list" ∧ o.dict = none ∧ o.data = .seq its.toArray n ∧ xs.length ≤ sizeLine := by
  obtain ⟨its, rv, ⟨o, n, ho, hc, hdn, hd⟩, hlen⟩ := I.list h
  exact ⟨its, o, n, rv, ho, hc, hdn, hd, hlen⟩
theorem add_list_gen {pins : List (Addr × Obj)} {s : Shared} {σ : L2.St} {H : Hp} {p q : Addr} {xs zs : List V} {Q : VK} (I : Inv X pins σ H s) (h1 : SqL X.K H p xs) (h2 : SqL X.K H q zs) (hz : xs.length + zs.length ≤ sizeLine)
    (k : ∀ l, H l = none → Q (.ref l) (upd H l (.lst (xs ++ zs)))) : wpAny (model X.prog X.w) X.A (binaryOp .Add (.ref p) (.ref q)) (EP X pins σ Q) X.xe s := by
  obtain ⟨its, ⟨cls, dd, data, sl⟩, n, r, e, hc, hdn, hd, hl⟩ := I_list I h1
  obtain ⟨its2, ⟨cls2, dd2, data2, sl2⟩, n2, r2, e2, hc2, hdn2, hd2, hl2⟩ := I_list I h2
  simp only at hc hdn hd hc2 hdn2 hd2
  subst hc hdn hd hc2 hdn2 hd2
  have z1 := r.length
  have z2 := r2.length
  refine concat_meets ⟨_, e, rfl⟩ ⟨_, e2, rfl⟩ noFill_list_add seq_list_add PySem.F.slot_list_add PySem.F.entry_list_add (PySem.F.args_list_add_2 _ _) (list_addW p q its.toArray its2.toArray n n2 none none sl sl2 (by rw [List.size_toArray, List.size_toArray]; omega)) ⟨e, e2, ?_⟩
  have ea : its.toArray ++ its2.toArray = (its ++ its2).toArray := by simp
  rw [ea]
  exact ⟨.ref _, _, I.lnew (t' := s.toks) (r.append r2) (by rw [List.length_append]; omega), rfl, k _ I.fresh⟩
theorem op_addD : OpD X (binaryOp .Add) addD := by
  intro pins s σ H x y v u Q I rx ry h
  obtain ⟨S, d1, d2, d, rfl, r1, r2, hf, q⟩ := h
  cases d1 with
  | int i =>
    cases d2 with
    | int j => cases r1; cases r2; cases hf; exact op_add pins s σ S.H _ _ v u Q I rx ry ⟨i, j, rfl, rfl, q _ S (.refl S) (.int _)⟩
    | _ => cases hf
  | str i =>
    cases d2 with
    | str j =>
      cases r1; cases r2
      simp only [addD] at hf
      split at hf
      · rename_i hz
        cases hf
        exact op_add_str pins s σ S.H _ _ v u Q I rx ry ⟨i, j, rfl, rfl, Nat.le_trans hz lim_line, q _ S (.refl S) (.str _)⟩
      · cases hf
    | _ => cases hf
  | list ds =>
    cases d2 with
    | list es =>
      simp only [addD] at hf
      split at hf
      · rename_i hz
        cases hf
        cases r1 with
        | lst a1 b1 =>
          cases r2 with
          | lst a2 b2 =>
            cases (show v = Value.ref _ from rx)
            cases (show u = Value.ref _ from ry)
            refine add_list_gen I (S.ok.seq a1) (S.ok.seq a2) (by rw [b1.length, b2.length]; exact Nat.le_trans hz lim_line) fun l hl => ?_
            exact q _ (S.lay l (.lst _)) (S.lay_ex hl) (lay_lst hl (b1.append b2))
      · cases hf
    | _ => cases hf
  | tuple ds =>
    cases d2 with
    | tuple es =>
      simp only [addD] at hf
      split at hf
      · rename_i hz
        cases hf
        cases r1 with
        | tup a1 b1 =>
          cases r2 with
          | tup a2 b2 =>
            rename_i p1 xs p2 ys
            refine op_catA pins s σ S.H _ _ v u Q I rx ry ⟨p1, p2, xs, ys, rfl, rfl, sqt_mono S.ok a1, sqt_mono S.ok a2, by rw [b1.length, b2.length]; exact Nat.le_trans hz lim_line, fun e => ?_, fun e e' => ?_, fun e e' p hp => ?_⟩
            · subst e
              cases b1
              exact q _ S (.refl S) (.tup a2 b2)
            · subst e'
              cases b2
              rw [List.append_nil] at q
              exact q _ S (.refl S) (.tup a1 b1)
            · exact q _ (S.lay p (.tup _)) (S.lay_ex hp) (lay_tup hp (b1.append b2))
      · cases hf
    | _ => cases hf
  | _ => cases hf
/-- operators on two ints -/
def intD (c : Int → Int → Bool) (g : Int → Int → D) : D → D → Option D
  | .int i, .int j => if c i j then some (g i j) else none
  | _, _ => none
theorem op_intD {op : Value → Value → Sem Value} {C : Int → Int → Prop} {c : Int → Int → Bool} {g : Int → Int → Int} (h : OpR X op (rI C fun i j => .int (g i j))) (hc : ∀ i j, c i j = true → C i j) : OpD X op (intD c fun i j => .int (g i j)) := by
  refine opr_conseq h fun x y H Q h => ?_
  obtain ⟨S, d1, d2, d, rfl, r1, r2, hf, q⟩ := h
  cases d1 with
  | int i =>
    cases d2 with
    | int j =>
      cases r1; cases r2
      simp only [intD] at hf
      split at hf
      · rename_i hz
        cases hf
        exact ⟨i, j, rfl, rfl, hc i j hz, q _ S (.refl S) (.int _)⟩
      · cases hf
    | _ => cases hf
  | _ => cases hf
def subD : D → D → Option D := intD (fun _ _ => true) fun i j => .int (i - j)
def mulD : D → D → Option D := intD (fun i j => decide (-(2 ^ 64) < i ∧ i < 2 ^ 64) || decide (-(2 ^ 64) < j ∧ j < 2 ^ 64)) fun i j => .int (i * j)
def divD : D → D → Option D := intD (fun _ j => decide (0 < j ∧ j < 1073741824)) fun i j => .int (i / j)
def modD : D → D → Option D := intD (fun _ j => decide (0 < j)) fun i j => .int (i % j)
def powD : D → D → Option D := intD (fun i j => decide (0 ≤ j ∧ j ≤ 1000000 ∧ i.natAbs < 2 ^ 64)) fun i j => .int (i ^ j.toNat)
theorem op_subD : OpD X (binaryOp .Sub) subD := op_intD (C := fun _ _ => True) (g := fun i j => i - j) (opr_conseq op_sub fun x y H Q h => by obtain ⟨i, j, e1, e2, _, q⟩ := h; exact ⟨i, j, e1, e2, q⟩) fun _ _ _ => trivial
theorem op_mulD : OpD X (binaryOp .Mult) mulD := op_intD op_mul fun i j h => by
  rw [Bool.or_eq_true, decide_eq_true_eq, decide_eq_true_eq] at h
  exact h
theorem op_divD : OpD X (binaryOp .FloorDiv) divD := op_intD op_fdiv fun i j h => (of_decide_eq_true h : 0 < j ∧ j < 1073741824)
theorem op_modD : OpD X (binaryOp .Mod) modD := op_intD op_mod fun i j h => of_decide_eq_true h
theorem op_powD : OpD X (binaryOp .Pow) powD := op_intD op_pow fun i j h => (of_decide_eq_true h : 0 ≤ j ∧ j ≤ 1000000 ∧ i.natAbs < 2 ^ 64)
/-- comparisons of order: ints, texts -/
def ordD (g : Int → Int → Bool) (h : List Nat → List Nat → Bool) : D → D → Option D
  | .int i, .int j => some (.bool (g i j))
  | .str x, .str y => some (.bool (h x.cps.toList y.cps.toList))
  | _, _ => none
theorem op_ordD {op : Value → Value → Sem Value} {g : Int → Int → Bool} {k : List Nat → List Nat → Bool} (h1 : OpR X op (rI0 fun i j => .bl (g i j))) (h2 : OpR X op (fun x y H Q => ∃ i j, x = .str i ∧ y = .str j ∧ Q (.bl (k i.cps.toList j.cps.toList)) H)) : OpD X op (ordD g k) := by
  intro pins s σ H x y v u Q I rx ry h
  obtain ⟨S, d1, d2, d, rfl, r1, r2, hf, q⟩ := h
  cases d1 with
  | int i =>
    cases d2 with
    | int j => cases r1; cases r2; cases hf; exact h1 pins s σ S.H _ _ v u Q I rx ry ⟨i, j, rfl, rfl, q _ S (.refl S) (.bl _)⟩
    | _ => cases hf
  | str i =>
    cases d2 with
    | str j => cases r1; cases r2; cases hf; exact h2 pins s σ S.H _ _ v u Q I rx ry ⟨i, j, rfl, rfl, q _ S (.refl S) (.bl _)⟩
    | _ => cases hf
  | _ => cases hf
def ltD : D → D → Option D := ordD (fun i j => decide (i < j)) fun x y => decide (x < y)
def leD : D → D → Option D := ordD (fun i j => decide (i ≤ j)) fun x y => !decide (y < x)
def gtD : D → D → Option D := ordD (fun i j => decide (j < i)) fun x y => decide (y < x)
def geD : D → D → Option D := ordD (fun i j => decide (j ≤ i)) fun x y => !decide (x < y)
theorem op_ltD : OpD X (compareOp .Lt) ltD := op_ordD op_lt op_lt_str
theorem op_leD : OpD X (compareOp .LtE) leD := op_ordD op_le op_le_str
theorem op_gtD : OpD X (compareOp .Gt) gtD := op_ordD op_gt op_gt_str
theorem op_geD : OpD X (compareOp .GtE) geD := op_ordD op_ge op_ge_str
/-- == and != of data -/
def fitD (d : D) : Bool := flatD d && SeqAt.shaped d
/-- two plain values that == compares without a look at their signs -/
def sc2 : D → D → Bool
  | .none, .none => true
  | .none, .int _ => true
  | .int _, .none => true
  | .none, .bool _ => true
  | .bool _, .none => true
  | .none, .str _ => true
  | .str _, .none => true
  | .int _, .int _ => true
  | .bool _, .bool _ => true
  | .str _, .str _ => true
  | .int _, .str _ => true
  | .str _, .int _ => true
  | .bool _, .str _ => true
  | .str _, .bool _ => true
  | _, _ => false
theorem sc2_run {K : PySem.W.Frag} {H : Hp} {d1 d2 : D} {x y : V} (h : sc2 d1 d2 = true) (r1 : Rv K H d1 x) (r2 : Rv K H d2 y) : scal x y = true ∧ decide (x = y) = PyData.eqv d1 d2 := by
  cases d1 <;> cases d2 <;> first | (cases h; done) | (cases r1; cases r2; first | exact ⟨rfl, rfl⟩ | skip)
  · rename_i a b
    refine ⟨rfl, ?_⟩
    show decide (V.bl a = V.bl b) = (a == b)
    cases a <;> cases b <;> rfl
  · rename_i a b
    refine ⟨rfl, ?_⟩
    show decide (V.int a = V.int b) = (a == b)
    by_cases e : a = b
    · subst e; simp
    · rw [decide_eq_false (fun q => e (V.int.inj q))]; exact (beq_eq_false_iff_ne.mpr e).symm
  · rename_i a b
    refine ⟨rfl, ?_⟩
    show decide (V.str a = V.str b) = (a == b)
    by_cases e : a = b
    · subst e; simp
    · rw [decide_eq_false (fun q => e (V.str.inj q))]; exact (beq_eq_false_iff_ne.mpr e).symm
def eqD (x y : D) : Option D := if sc2 x y || (fitD x && fitD y) then some (.bool (PyData.eqv x y)) else none
def neD (x y : D) : Option D := if sc2 x y || (fitD x && fitD y) then some (.bool (!PyData.eqv x y)) else none
theorem op_eqDD (hu : X.A.units + 64 < cLine) : OpD X (compareOp .Eq) eqD := by
  refine opr_conseq (op_eq.or (op_eqD hu)) fun x y H Q h => ?_
  obtain ⟨S, d1, d2, d, rfl, r1, r2, hf, q⟩ := h
  unfold eqD at hf
  split at hf
  · rename_i hz
    cases hf
    rw [Bool.or_eq_true] at hz
    rcases hz with hz | hz
    · obtain ⟨h1, h2⟩ := sc2_run hz r1 r2
      exact .inl ⟨h1, by rw [h2]; exact q _ S (.refl S) (.bl _)⟩
    · simp only [fitD, Bool.and_eq_true] at hz
      exact .inr ⟨d1, d2, (Rv.mono S.ok d1 r1).dp d1 hz.1.1, (Rv.mono S.ok d2 r2).dp d2 hz.2.1, hz.1.2, hz.2.2, q _ S (.refl S) (.bl _)⟩
  · cases hf
theorem op_neDD (hu : X.A.units + 64 < cLine) : OpD X (compareOp .NotEq) neD := by
  refine opr_conseq (op_ne.or (op_neD hu)) fun x y H Q h => ?_
  obtain ⟨S, d1, d2, d, rfl, r1, r2, hf, q⟩ := h
  unfold neD at hf
  split at hf
  · rename_i hz
    cases hf
    rw [Bool.or_eq_true] at hz
    rcases hz with hz | hz
    · obtain ⟨h1, h2⟩ := sc2_run hz r1 r2
      exact .inl ⟨h1, by rw [h2]; exact q _ S (.refl S) (.bl _)⟩
    · simp only [fitD, Bool.and_eq_true] at hz
      exact .inr ⟨d1, d2, (Rv.mono S.ok d1 r1).dp d1 hz.1.1, (Rv.mono S.ok d2 r2).dp d2 hz.2.1, hz.1.2, hz.2.2, q _ S (.refl S) (.bl _)⟩
  · cases hf
/-- in -/
def inD (neg : Bool) : D → D → Option D
  | .str x, .str z => match x.cps.toList with
    | [c] => some (.bool (if neg then !decide (c ∈ z.cps.toList) else decide (c ∈ z.cps.toList)))
    | _ => none
  | x, .list ds => if fitD x && fitD (.list ds) then some (.bool (if neg then !ds.any fun z => PyData.eqv z x else ds.any fun z => PyData.eqv z x)) else none
  | x, .tuple ds => if fitD x && fitD (.tuple ds) then some (.bool (if neg then !ds.any fun z => PyData.eqv z x else ds.any fun z => PyData.eqv z x)) else none
  | _, _ => none
theorem in_seq {neg : Bool} {pins : List (Addr × Obj)} {s : Shared} {σ : L2.St} {S : Stt} {x y : V} {v u : Value} {Q : VK} {d1 : D} {ds : List D} {tup : Bool} (hu : X.A.units + 65 < cLine) (I : Inv X pins σ S.H s) (rx : RelV x v) (ry : RelV y u)
    (r1 : Rv X.K S.Z d1 x) (r2 : Rv X.K S.Z (if tup then .tuple ds else .list ds) y) (hf : (fitD d1 && fitD (if tup then .tuple ds else .list ds)) = true) (q : Q (.bl (if neg then !ds.any fun z => PyData.eqv z d1 else ds.any fun z => PyData.eqv z d1)) S.H) :
    wpAny (model X.prog X.w) X.A (compareOp (if neg then .NotIn else .In) v u) (EP X pins σ Q) X.xe s := by
  simp only [fitD, Bool.and_eq_true] at hf
  obtain ⟨as, h1⟩ := Dp.reads I d1 x v ((Rv.mono S.ok _ r1).dp _ hf.1.1) rx
  have h2 := Dp.reads I _ y u ((Rv.mono S.ok _ r2).dp _ hf.2.1) ry
  obtain ⟨bs, h2⟩ := h2
  have l1 := SeqAt.canLay_of_shaped hf.1.2
  have l2 := SeqAt.canLay_of_shaped hf.2.2
  have rm := room_in_shaped (A := X.A) (xs := ds) hf.1.2 hu
  cases tup with
  | true =>
    cases neg with
    | true => exact SeqAt.notIn_tuple_reads h2 h1 (by simpa [PyData.canLay0] using l2) l1 rm ⟨.bl _, S.H, I, rfl, q⟩
    | false => exact SeqAt.in_tuple_reads h2 h1 (by simpa [PyData.canLay0] using l2) l1 rm ⟨.bl _, S.H, I, rfl, q⟩
  | false =>
    cases neg with
    | true => exact SeqAt.notIn_list_reads h2 h1 (by simpa [PyData.canLay0] using l2) l1 rm ⟨.bl _, S.H, I, rfl, q⟩
    | false => exact SeqAt.in_list_reads h2 h1 (by simpa [PyData.canLay0] using l2) l1 rm ⟨.bl _, S.H, I, rfl, q⟩
theorem op_inDn (neg : Bool) (hu : X.A.units + 65 < cLine) : OpD X (compareOp (if neg then .NotIn else .In)) (inD neg) := by
  intro pins s σ H x y v u Q I rx ry h
  obtain ⟨S, d1, d2, d, rfl, r1, r2, hf, q⟩ := h
  have seqL : ∀ ds, d2 = .list ds → wpAny (model X.prog X.w) X.A (compareOp (if neg then .NotIn else .In) v u) (EP X pins σ Q) X.xe s := by
    intro ds e
    subst e
    have hf' : (if fitD d1 && fitD (.list ds) then some (PyData.bool (if neg then !ds.any fun z => PyData.eqv z d1 else ds.any fun z => PyData.eqv z d1)) else none) = some d := by
      cases d1 <;> exact hf
    split at hf'
    · rename_i hz
      cases hf'
      exact in_seq (tup := false) hu I rx ry r1 r2 hz (q _ S (.refl S) (.bl _))
    · cases hf'
  have seqT : ∀ ds, d2 = .tuple ds → wpAny (model X.prog X.w) X.A (compareOp (if neg then .NotIn else .In) v u) (EP X pins σ Q) X.xe s := by
    intro ds e
    subst e
    have hf' : (if fitD d1 && fitD (.tuple ds) then some (PyData.bool (if neg then !ds.any fun z => PyData.eqv z d1 else ds.any fun z => PyData.eqv z d1)) else none) = some d := by
      cases d1 <;> exact hf
    split at hf'
    · rename_i hz
      cases hf'
      exact in_seq (tup := true) hu I rx ry r1 r2 hz (q _ S (.refl S) (.bl _))
    · cases hf'
  cases d2 with
  | list ds => exact seqL ds rfl
  | tuple ds => exact seqT ds rfl
  | str z =>
    cases d1 with
    | str w =>
      cases r1; cases r2
      simp only [inD] at hf
      split at hf
      · rename_i c hc
        cases hf
        have hw : w = ⟨#[c]⟩ := by
          obtain ⟨a⟩ := w
          simp only at hc
          have : a = #[c] := by
            apply Array.ext'
            simpa using hc
          rw [this]
        subst hw
        cases neg with
        | true => exact op_notIn_sign pins s σ S.H _ _ v u Q I rx ry ⟨c, z, rfl, rfl, q _ S (.refl S) (.bl _)⟩
        | false => exact op_in_sign pins s σ S.H _ _ v u Q I rx ry ⟨c, z, rfl, rfl, q _ S (.refl S) (.bl _)⟩
      · cases hf
    | _ => cases hf
  | _ => cases d1 <;> cases hf
theorem op_inDD (hu : X.A.units + 65 < cLine) : OpD X (compareOp .In) (inD false) := op_inDn false hu
theorem op_notInDD (hu : X.A.units + 65 < cLine) : OpD X (compareOp .NotIn) (inD true) := op_inDn true hu
/-- -n -/
def negD : D → Option D
  | .int i => some (.int (-i))
  | _ => none
theorem de_neg (ha : DE X a fa) : DE X (.UnaryOp .USub a pos) (e1 negD fa) := by
  refine pe_conseq (pe_un un_neg ha) fun σ H Q h => ?_
  obtain ⟨E, S, δ, d, rfl, r, hf, q⟩ := h
  unfold e1 at hf
  obtain ⟨x, hx, hf⟩ := Option.bind_eq_some_iff.mp hf
  refine ⟨E, S, δ, x, rfl, r, hx, fun v S1 x1 r1 => ?_⟩
  cases x with
  | int i => cases r1; cases hf; exact ⟨i, rfl, q _ S1 x1 (.int _)⟩
  | _ => cases hf
/-! ### built-ins by values -/
def rD1 (K : PySem.W.Frag) (g : D → Option D) : V → Hp → VK → Prop := fun x H Q => ∃ (S : Stt) (d1 d : D), S.H = H ∧ Rv K S.Z d1 x ∧ g d1 = some d ∧ ∀ v S', Ex S S' → Rv K S'.Z d v → Q v S'.H
/-- a call of a built-in function or class with data -/
def CaD (X : Cx) (f : Value) (g : List D → Option D) : Prop := CallR X f fun xs H Q => ∃ (S : Stt) (ds : List D) (d : D), S.H = H ∧ RvL X.K S.Z ds xs ∧ g ds = some d ∧ ∀ v S', Ex S S' → Rv X.K S'.Z d v → Q v S'.H
def eCB (g : List D → Option D) (fs : FA) : FE := fun δ => (fs δ).bind g
theorem de_callB {x : Str} {id : String} {es : List Expr} {p : Pos} {g : List D → Option D} {fs : FA} (hc : CaD X (.builtin id) g) (hg : Gl X x) (hm : X.mg x = none) (hv : bootBuiltins x = some (.builtin id)) (ha : DA X (e :: es) fs) (hn : x ≠ "__name__" := by decide) (hdb : (x == ("__debug__" : Str)) = false := by decide)
    (he : starEach (e :: es) X.env = (false, eval e X.env) :: starEach es X.env := by rfl) (hpl : (backTo pos (starEach es X.env)).any (·.1) = false := by rfl) : DE X (.Call (.Name x p) (e :: es) [] pos) (eCB g fs) := by
  refine pe_conseq (pe_callB hc hg hm hv ha hn hdb he hpl) fun σ H Q h => ?_
  obtain ⟨E, S, δ, d, rfl, r, hf, q⟩ := h
  obtain ⟨ds, hx, hf⟩ := Option.bind_eq_some_iff.mp hf
  exact ⟨E, S, δ, ds, rfl, r, hx, fun vs S1 x1 r1 => ⟨S1, ds, d, rfl, r1, hf, fun v S2 x2 r2 => q v S2 (x1.trans x2) r2⟩⟩
theorem de_callTy {x : Str} {T : String} {es : List Expr} {p : Pos} {g : List D → Option D} {fs : FA} (hc : CaD X (.type T) g) (hg : Gl X x) (hm : X.mg x = none) (hv : bootBuiltins x = some (.type T)) (ha : DA X (e :: es) fs) (hn : x ≠ "__name__" := by decide) (hdb : (x == ("__debug__" : Str)) = false := by decide)
    (he : starEach (e :: es) X.env = (false, eval e X.env) :: starEach es X.env := by rfl) (hpl : (backTo pos (starEach es X.env)).any (·.1) = false := by rfl) : DE X (.Call (.Name x p) (e :: es) [] pos) (eCB g fs) := by
  refine pe_conseq (pe_callTy hc hg hm hv ha hn hdb he hpl) fun σ H Q h => ?_
  obtain ⟨E, S, δ, d, rfl, r, hf, q⟩ := h
  obtain ⟨ds, hx, hf⟩ := Option.bind_eq_some_iff.mp hf
  exact ⟨E, S, δ, ds, rfl, r, hx, fun vs S1 x1 r1 => ⟨S1, ds, d, rfl, r1, hf, fun v S2 x2 r2 => q v S2 (x1.trans x2) r2⟩⟩
def lenD : List D → Option D
  | [.str x] => if x.length ≤ lim then some (.int x.length) else none
  | [.list ds] => some (.int ds.length)
  | [.tuple ds] => some (.int ds.length)
  | _ => none
theorem ca_len : CaD X (.builtin "len") lenD := by
  intro pins s σ H xs us Q I rx h
  obtain ⟨S, ds, d, rfl, rl, hf, q⟩ := h
  unfold lenD at hf
  split at hf
  · split at hf
    · rename_i x hz
      cases hf
      cases rl with
      | cons r1 rt =>
        cases rt; cases r1
        exact call_len_str pins s σ S.H _ us Q I rx ⟨x, rfl, Nat.le_trans hz lim_line, q _ S (.refl S) (.int _)⟩
    · cases hf
  · cases hf
    cases rl with
    | cons r1 rt =>
      cases rt
      cases r1 with
      | lst a1 b1 => exact call_len_seq pins s σ S.H _ us Q I rx ⟨_, _, rfl, .inl (S.ok.seq a1), by rw [b1.length]; exact q _ S (.refl S) (.int _)⟩
  · cases hf
    cases rl with
    | cons r1 rt =>
      cases rt
      cases r1 with
      | tup a1 b1 => exact call_len_seq pins s σ S.H _ us Q I rx ⟨_, _, rfl, .inr (sqt_mono S.ok a1), by rw [b1.length]; exact q _ S (.refl S) (.int _)⟩
  · cases hf
def listD : List D → Option D
  | [.list ds] => some (.list ds)
  | [.tuple ds] => some (.list ds)
  | _ => none
theorem ca_list : CaD X (.type "list") listD := by
  intro pins s σ H xs us Q I rx h
  obtain ⟨S, ds, d, rfl, rl, hf, q⟩ := h
  unfold listD at hf
  split at hf
  · cases hf
    cases rl with
    | cons r1 rt =>
      cases rt
      cases r1 with
      | lst a1 b1 => exact call_list_of pins s σ S.H _ us Q I rx ⟨_, _, rfl, .inl (S.ok.seq a1), fun l hl => q _ (S.lay l (.lst _)) (S.lay_ex hl) (lay_lst hl b1)⟩
  · cases hf
    cases rl with
    | cons r1 rt =>
      cases rt
      cases r1 with
      | tup a1 b1 => exact call_list_of pins s σ S.H _ us Q I rx ⟨_, _, rfl, .inr (sqt_mono S.ok a1), fun l hl => q _ (S.lay l (.lst _)) (S.lay_ex hl) (lay_lst hl b1)⟩
  · cases hf
def tupD : List D → Option D
  | [.list ds] => some (.tuple ds)
  | [.tuple ds] => some (.tuple ds)
  | _ => none
theorem ca_tuple : CaD X (.type "tuple") tupD := by
  intro pins s σ H xs us Q I rx h
  obtain ⟨S, ds, d, rfl, rl, hf, q⟩ := h
  unfold tupD at hf
  split at hf
  · cases hf
    cases rl with
    | cons r1 rt =>
      cases rt
      cases r1 with
      | lst a1 b1 => exact call_tuple_of pins s σ S.H _ us Q I rx ⟨_, _, rfl, .inl ⟨S.ok.seq a1, fun l hl => q _ (S.lay l (.tup _)) (S.lay_ex hl) (lay_tup hl b1)⟩⟩
  · cases hf
    cases rl with
    | cons r1 rt =>
      cases rt
      cases r1 with
      | tup a1 b1 => exact call_tuple_of pins s σ S.H _ us Q I rx ⟨_, _, rfl, .inr ⟨sqt_mono S.ok a1, q _ S (.refl S) (.tup a1 b1)⟩⟩
  · cases hf
def strD : List D → Option D
  | [.int i] => if i.natAbs.log2 < 1920 then some (.str (toString i)) else none
  | _ => none
theorem ca_str : CaD X (.type "str") strD := by
  intro pins s σ H xs us Q I rx h
  obtain ⟨S, ds, d, rfl, rl, hf, q⟩ := h
  unfold strD at hf
  split at hf
  · split at hf
    · rename_i i hz
      cases hf
      cases rl with
      | cons r1 rt =>
        cases rt; cases r1
        exact call_str_int pins s σ S.H _ us Q I rx ⟨i, rfl, hz, q _ S (.refl S) (.str _)⟩
    · cases hf
  · cases hf
def toIntD : List D → Option D
  | [.int i] => some (.int i)
  | [.bool k] => some (.int (if k then 1 else 0))
  | _ => none
theorem ca_int : CaD X (.type "int") toIntD := by
  intro pins s σ H xs us Q I rx h
  obtain ⟨S, ds, d, rfl, rl, hf, q⟩ := h
  unfold toIntD at hf
  split at hf
  · cases hf
    cases rl with
    | cons r1 rt => cases rt; cases r1; exact call_int1 pins s σ S.H _ us Q I rx (.inl ⟨_, rfl, q _ S (.refl S) (.int _)⟩)
  · cases hf
    cases rl with
    | cons r1 rt => cases rt; cases r1; exact call_int1 pins s σ S.H _ us Q I rx (.inr ⟨_, rfl, q _ S (.refl S) (.int _)⟩)
  · cases hf
def maxD : List D → Option D
  | [.int i, .int j] => some (.int (if j > i then j else i))
  | _ => none
def minD : List D → Option D
  | [.int i, .int j] => some (.int (if j < i then j else i))
  | _ => none
theorem ca_max (hc : X.calm = true) : CaD X (.builtin "max") maxD := by
  intro pins s σ H xs us Q I rx h
  obtain ⟨S, ds, d, rfl, rl, hf, q⟩ := h
  unfold maxD at hf
  split at hf
  · cases hf
    cases rl with
    | cons r1 rt => cases rt with | cons r2 rt => cases rt; cases r1; cases r2; exact call_max2 hc pins s σ S.H _ us Q I rx ⟨_, _, rfl, q _ S (.refl S) (.int _)⟩
  · cases hf
theorem ca_min (hc : X.calm = true) : CaD X (.builtin "min") minD := by
  intro pins s σ H xs us Q I rx h
  obtain ⟨S, ds, d, rfl, rl, hf, q⟩ := h
  unfold minD at hf
  split at hf
  · cases hf
    cases rl with
    | cons r1 rt => cases rt with | cons r2 rt => cases rt; cases r1; cases r2; exact call_min2 hc pins s σ S.H _ us Q I rx ⟨_, _, rfl, q _ S (.refl S) (.int _)⟩
  · cases hf
/-- all, any of truth values -/
def blsD : List D → Option (List Bool)
  | [] => some []
  | .bool k :: r => (blsD r).map (k :: ·)
  | _ => none
theorem blsD_rv {K : PySem.W.Frag} {H : Hp} : ∀ {ds : List D} {vs : List V} {bs : List Bool}, RvL K H ds vs → blsD ds = some bs → vs = bs.map V.bl
  | [], _, _, h, e => by cases h; cases e; rfl
  | d :: r, _, bs, h, e => by
    cases h with
    | cons a b =>
      cases d with
      | bool k =>
        cases a
        simp only [blsD, Option.map_eq_some_iff] at e
        obtain ⟨bs', h1, rfl⟩ := e
        rw [blsD_rv b h1]
        rfl
      | _ => cases e
def allD : List D → Option D
  | [.list ds] => (blsD ds).map fun bs => .bool (bs.all id)
  | _ => none
def anyD : List D → Option D
  | [.list ds] => (blsD ds).map fun bs => .bool (bs.any id)
  | _ => none
theorem ca_all (hc : X.calm = true) : CaD X (.builtin "all") allD := by
  intro pins s σ H xs us Q I rx h
  obtain ⟨S, ds, d, rfl, rl, hf, q⟩ := h
  unfold allD at hf
  split at hf
  · obtain ⟨bs, h1, rfl⟩ := Option.map_eq_some_iff.mp hf
    cases rl with
    | cons r1 rt =>
      cases rt
      cases r1 with
      | lst a1 b1 =>
        have e := blsD_rv b1 h1
        subst e
        exact cr_all hc pins s σ S.H _ us Q I rx ⟨_, bs, rfl, S.ok.seq a1, q _ S (.refl S) (.bl _)⟩
  · cases hf
/-! ### isinstance -/
def tyD : D → String
  | .none => "NoneType"
  | .bool _ => "bool"
  | .int _ => "int"
  | .str _ => "str"
  | .list _ => "list"
  | .tuple _ => "tuple"
  | .dict _ => "dict"
theorem Rv.ty {K : PySem.W.Frag} {H : Hp} {d : D} {v : V} (r : Rv K H d v) : TyX K H v (.type (tyD d)) := by
  cases r with
  | non => exact .base .non
  | bl b => exact .base (.bl b)
  | int i => exact .base (.int i)
  | str x => exact .base (.str x)
  | lst a b =>
    rcases a with (a | ⟨o, a⟩) | ⟨o, its, n, hk, hc, _⟩
    · exact .base (.lst a)
    · exact .base (.frz a)
    · exact .kList hk hc
  | tup a b =>
    rcases a with (a | ⟨o, a⟩) | ⟨o, its, n, hk, hc, _⟩
    · exact .base (.tup a)
    · exact .fTuple a
    · exact .kTuple hk hc
  | dic a b => exact .base (.dK a)
def isTy (T : String) (d : D) : Bool := (kitB (tyD d) T).getD false
def eIs (T : String) (f : FE) : FE := fun δ => (f δ).map fun d => .bool (isTy T d)
/-- the classes asked about -/
theorem kit6 (d : D) : (kitB (tyD d) "int").isSome = true ∧ (kitB (tyD d) "str").isSome = true ∧ (kitB (tyD d) "bool").isSome = true ∧ (kitB (tyD d) "list").isSome = true ∧ (kitB (tyD d) "tuple").isSome = true ∧ (kitB (tyD d) "dict").isSome = true := by
  cases d <;> (simp only [tyD]; decide +kernel)
theorem de_isi {x : Expr} {p : Pos} {T : String} (hT : ∀ d : D, (kitB (tyD d) T).isSome = true) (hg : Gl X "isinstance") (hm : X.mg "isinstance" = none) (ht : PE X x (tC (.ty T))) (ha : DE X e f)
    (he : starEach [e, x] X.env = (false, eval e X.env) :: starEach [x] X.env := by rfl) (he2 : starEach [x] X.env = (false, eval x X.env) :: starEach [] X.env := by rfl) (hpl : (backTo pos (starEach [x] X.env)).any (·.1) = false := by rfl) : DE X (.Call (.Name "isinstance" p) [e, x] [] pos) (eIs T f) := by
  refine pe_conseq (pe_callB call_isi hg hm (by decide +kernel) (pa_cons ha (pa_cons ht pa_nil he2) he) (he := he) (hpl := hpl)) fun σ H Q h => ?_
  obtain ⟨E, S, δ, d, rfl, r, hf, q⟩ := h
  obtain ⟨d1, hx, hf⟩ := Option.map_eq_some_iff.mp hf
  cases hf
  refine ⟨E, S, δ, d1, rfl, r, hx, fun v S1 x1 r1 => ?_⟩
  have hk := hT d1
  refine ⟨v, .ty T, .type (tyD d1), .type T, isTy T d1, rfl, .ty T, (Rv.mono S1.ok d1 r1).ty, kit_ty ?_, q _ S1 x1 (.bl _)⟩
  unfold isTy
  cases e : kitB (tyD d1) T with
  | none => rw [e] at hk; cases hk
  | some b => rfl
/-! ### subscripts -/
def ixD : D → D → Option D
  | .list ds, .int i => atI ds i
  | .tuple ds, .int i => atI ds i
  | .str x, .int i => if x.length ≤ lim then (atI x.cps.toList i).map fun c => .str ⟨#[c]⟩ else none
  | _, _ => none
theorem atI_rv {K : PySem.W.Frag} {H : Hp} {ds : List D} {vs : List V} {i : Int} {d : D} (h : RvL K H ds vs) (e : atI ds i = some d) : ∃ v, atI vs i = some v ∧ Rv K H d v := by
  unfold atI at e ⊢
  rw [h.length]
  cases ei : ixN ds.length i with
  | none => rw [ei] at e; cases e
  | some j =>
    rw [ei] at e
    obtain ⟨v, h1, h2⟩ := h.get (show ds[j]? = some d from e)
    exact ⟨v, h1, h2⟩
theorem de_ix (ha : DE X a fa) (hb : DE X b fb) (hs : PlainIx b) : DE X (.Subscript a b pos) (e2 ixD fa fb) := by
  refine pe_conseq (pe_ix ix_seq ha hb hs) fun σ H Q h => ?_
  obtain ⟨E, S, δ, d, rfl, r, hf, q⟩ := h
  unfold e2 at hf
  obtain ⟨x, hx, hf⟩ := Option.bind_eq_some_iff.mp hf
  obtain ⟨y, hy, hf⟩ := Option.bind_eq_some_iff.mp hf
  refine ⟨E, S, δ, x, rfl, r, hx, fun v S1 x1 r1 => ⟨E, S1, δ, y, rfl, r.mono x1, hy, fun u S2 x2 r2 => ?_⟩⟩
  have r1' := Rv.mono x2.z x r1
  have x12 := x1.trans x2
  cases y with
  | int i =>
    cases r2
    cases x with
    | list ds =>
      cases r1' with
      | lst a1 b1 =>
        obtain ⟨w, e1, e2⟩ := atI_rv b1 hf
        exact .inl ⟨_, _, i, w, rfl, rfl, S2.ok.seq a1, e1, q w S2 x12 e2⟩
    | tuple ds =>
      cases r1' with
      | tup a1 b1 =>
        obtain ⟨w, e1, e2⟩ := atI_rv b1 hf
        exact .inr (.inl ⟨_, _, i, w, rfl, rfl, sqt_mono S2.ok a1, e1, q w S2 x12 e2⟩)
    | str z =>
      cases r1'
      simp only [ixD] at hf
      split at hf
      · rename_i hz
        obtain ⟨c, h1, rfl⟩ := Option.map_eq_some_iff.mp hf
        exact .inr (.inr ⟨z, i, c, rfl, rfl, Nat.le_trans hz lim_line, h1, q _ S2 x12 (.str _)⟩)
      · cases hf
    | _ => cases hf
  | _ => cases x <;> cases hf
/-- d['key'] -/
def lookD : List (D × D) → Str → Option D
  | [], _ => none
  | (.str k, d) :: r, x => if k = x then some d else lookD r x
  | _ :: r, x => lookD r x
def getD : D → D → Option D
  | .dict kvs, .str x => lookD kvs x
  | _, _ => none
theorem lookD_rv {K : PySem.W.Frag} {H : Hp} : ∀ {ds : List (D × D)} {vs : List (Key × V)} {x : Str} {d : D}, RvK K H ds vs → lookD ds x = some d → ∃ v, valV vs (Sum.inr x : Key) = some v ∧ Rv K H d v
  | [], _, _, _, _, e => by cases e
  | (k, d') :: r, _, x, d, h, e => by
    cases h with
    | cons a b =>
      rename_i kk v vs
      cases kk with
      | inl i =>
        have e' : lookD r x = some d := e
        obtain ⟨w, h1, h2⟩ := lookD_rv b e'
        refine ⟨w, ?_, h2⟩
        unfold valV at h1 ⊢
        rw [List.find?_cons_of_neg (by simp)]
        exact h1
      | inr y =>
        have e' : (if y = x then some d' else lookD r x) = some d := e
        split at e'
        · rename_i hy
          cases e'
          subst hy
          exact ⟨v, by unfold valV; rw [List.find?_cons_of_pos (by simp)]; rfl, a⟩
        · rename_i hy
          obtain ⟨w, h1, h2⟩ := lookD_rv b e'
          refine ⟨w, ?_, h2⟩
          unfold valV at h1 ⊢
          rw [List.find?_cons_of_neg (by simpa using hy)]
          exact h1
theorem de_get (hu : X.A.units + 1 < cLine) (ha : DE X a fa) (hb : DE X b fb) (hs : NoSl b) : DE X (.Subscript a b pos) (e2 getD fa fb) := by
  refine pe_conseq (pe_dget hu ha hb hs) fun σ H Q h => ?_
  obtain ⟨E, S, δ, d, rfl, r, hf, q⟩ := h
  unfold e2 at hf
  obtain ⟨x, hx, hf⟩ := Option.bind_eq_some_iff.mp hf
  obtain ⟨y, hy, hf⟩ := Option.bind_eq_some_iff.mp hf
  refine ⟨E, S, δ, x, rfl, r, hx, fun v S1 x1 r1 => ⟨E, S1, δ, y, rfl, r.mono x1, hy, fun u S2 x2 r2 => ?_⟩⟩
  have r1' := Rv.mono x2.z x r1
  cases x with
  | dict kvs =>
    cases y with
    | str z =>
      cases r2
      cases r1' with
      | dic a1 b1 =>
        obtain ⟨w, h1, h2⟩ := lookD_rv b1 hf
        exact ⟨_, w, rfl, by rw [← h1]; exact DGet.k (k := Sum.inr z) (S2.ok _ _ a1), q w S2 (x1.trans x2) h2⟩
    | _ => cases hf
  | _ => cases hf
end
end Pd

set_option Elab.async false
set_option linter.all false
set_option maxRecDepth 100000
set_option maxHeartbeats 4000000
namespace Pd
open PySem PySem.Spec PyProof.Rows L2
section
variable {X : Cx} {a b c e : Expr} {fa fb fc f : FE} {pos : Pos}
/-! ### slices -/
abbrev FO := List Sl → Option (Option Int)
def tDO (K : PySem.W.Frag) (f : FO) : TO := fun σ H Q => ∃ (E : Hp) (S : Stt) (δ : List Sl) (o : Option Int), S.H = H ∧ R K E S σ δ ∧ f δ = some o ∧ ∀ S', Ex S S' → Q o S'.H
abbrev DO' (X : Cx) (e : Option Expr) (f : FO) : Prop := PO X e (tDO X.K f)
theorem po_conseq {e : Option Expr} {t t' : TO} (h : PO X e t) (q : ∀ σ H Q, t' σ H Q → t σ H Q) : PO X e t' := ⟨fun pins s σ H Q I hw => h.run pins s σ H Q I (q _ _ _ hw)⟩
def oNone : FO := fun _ => some none
def oSome (f : FE) : FO := fun δ => (f δ).bind fun d => match d with
  | .int i => some (some i)
  | _ => none
theorem do_none : DO' X none oNone := po_conseq po_none fun σ H Q h => by
  obtain ⟨E, S, δ, o, rfl, r, hf, q⟩ := h
  cases hf
  exact q S (.refl S)
theorem do_some (h : DE X e f) : DO' X (some e) (oSome f) := po_conseq (po_some h) fun σ H Q h => by
  obtain ⟨E, S, δ, o, rfl, r, hf, q⟩ := h
  obtain ⟨d, hx, hf⟩ := Option.bind_eq_some_iff.mp hf
  refine ⟨E, S, δ, d, rfl, r, hx, fun v S1 x1 r1 => ?_⟩
  cases d with
  | int i => cases r1; cases hf; exact ⟨i, rfl, q S1 x1⟩
  | _ => cases hf
def cutD {α : Type} (ds : List α) (lo hi : Option Int) : List α := (ds.drop (HT.sIx ds.length 0 lo)).take (HT.sIx ds.length ds.length hi - HT.sIx ds.length 0 lo)
def slD (lo hi : Option Int) : D → Option D
  | .list ds => some (.list (cutD ds lo hi))
  | .tuple ds => some (.tuple (cutD ds lo hi))
  | .str z => if z.length ≤ lim then some (.str (cutS z lo hi)) else none
  | _ => none
def eSl (fa : FE) (fl fh : FO) : FE := fun δ => (fa δ).bind fun d => (fl δ).bind fun lo => (fh δ).bind fun hi => slD lo hi d
theorem cut_rv {K : PySem.W.Frag} {H : Hp} {ds : List D} {vs : List V} (h : RvL K H ds vs) (lo hi : Option Int) : RvL K H (cutD ds lo hi) (cutV vs lo hi) := by
  unfold cutD cutV
  rw [h.length]
  exact (h.drop _).take _
theorem cut_whole {α : Type} {ds : List α} {lo hi : Option Int} (h : HT.sIx ds.length 0 lo = 0 ∧ HT.sIx ds.length ds.length hi = ds.length) : cutD ds lo hi = ds := by
  unfold cutD
  rw [h.1, h.2, List.drop_zero, Nat.sub_zero, List.take_length]
theorem de_slice {lo hi : Option Expr} {fl fh : FO} {p2 : Pos} (ha : DE X e f) (hl : DO' X lo fl) (hh : DO' X hi fh) : DE X (.Subscript e (.Slice lo hi none p2) pos) (eSl f fl fh) := by
  refine pe_conseq (pe_slice (sl_list.or (sl_tupA.or sl_str)) ha hl hh) fun σ H Q h => ?_
  obtain ⟨E, S, δ, d, rfl, r, hf, q⟩ := h
  obtain ⟨x, hx, hf⟩ := Option.bind_eq_some_iff.mp hf
  obtain ⟨l, hl, hf⟩ := Option.bind_eq_some_iff.mp hf
  obtain ⟨u, hu, hf⟩ := Option.bind_eq_some_iff.mp hf
  refine ⟨E, S, δ, x, rfl, r, hx, fun v S1 x1 r1 => ⟨E, S1, δ, l, rfl, r.mono x1, hl, fun S2 x2 => ⟨E, S2, δ, u, rfl, (r.mono x1).mono x2, hu, fun S3 x3 => ?_⟩⟩⟩
  have r1' := Rv.mono (x2.trans x3).z x r1
  have x13 := (x1.trans x2).trans x3
  cases x with
  | list ds =>
    cases hf
    cases r1' with
    | lst a1 b1 => exact .inl ⟨_, _, rfl, S3.ok.seq a1, fun p hp => q _ (S3.lay p (.lst _)) (x13.trans (S3.lay_ex hp)) (lay_lst hp (cut_rv b1 l u))⟩
  | tuple ds =>
    cases hf
    cases r1' with
    | tup a1 b1 =>
      refine .inr (.inl ⟨_, _, rfl, sqt_mono S3.ok a1, fun hw => ?_, fun hw p hp => ?_⟩)
      · rw [b1.length] at hw
        rw [cut_whole hw] at q
        exact q _ S3 x13 (.tup a1 b1)
      · exact q _ (S3.lay p (.tup _)) (x13.trans (S3.lay_ex hp)) (lay_tup hp (cut_rv b1 l u))
  | str z =>
    cases r1'
    simp only [slD] at hf
    split at hf
    · rename_i hz
      cases hf
      exact .inr (.inr ⟨z, rfl, Nat.le_trans hz lim_line, q _ S3 x13 (.str _)⟩)
    · cases hf
  | _ => cases hf
/-! ### a dict written out -/
def mapF : List (Str × FE) → List Sl → Option (List (D × D))
  | [], _ => some []
  | (k, f) :: r, δ => (f δ).bind fun d => (mapF r δ).bind fun ds => some ((.str k, d) :: ds)
def eDict (kfs : List (Str × FE)) : FE := fun δ => (mapF kfs δ).bind fun ds => if kfs.length ≤ 15 && decide (kfs.map (·.1)).Nodup then some (.dict ds) else none
def trsOf (K : PySem.W.Frag) (kfs : List (Str × FE)) : List (TE × TE) := kfs.map fun kf => (tC (.str kf.1), tD K kf.2)
theorem pairs_run {K : PySem.W.Frag} {E : Hp} {σ : L2.St} : ∀ {kfs : List (Str × FE)} {S : Stt} {δ : List Sl} {ds : List (D × D)} {Q : List (V × V) → Hp → Prop}, R K E S σ δ → mapF kfs δ = some ds →
    (∀ (kvs : List (Key × V)) S', Ex S S' → RvK K S'.Z ds kvs → kvs.map (·.1) = kfs.map (fun kf => Sum.inr kf.1) → Q (kvs.map fun kv => (kV kv.1, kv.2)) S'.H) → tPairs (trsOf K kfs) σ S.H Q
  | [], S, δ, ds, Q, r, hf, q => by cases hf; exact q [] S (.refl S) .nil rfl
  | (k, f) :: rest, S, δ, ds, Q, r, hf, q => by
    simp only [mapF] at hf
    obtain ⟨d, hd, hf⟩ := Option.bind_eq_some_iff.mp hf
    obtain ⟨es, he, hf⟩ := Option.bind_eq_some_iff.mp hf
    cases hf
    refine ⟨E, S, δ, d, rfl, r, hd, fun v S1 x1 r1 => ?_⟩
    refine pairs_run (kfs := rest) (r.mono x1) he fun kvs S2 x2 r2 ek => ?_
    have := q ((Sum.inr k, v) :: kvs) S2 (x1.trans x2) (RvK.cons (k := Sum.inr k) (Rv.mono x2.z d r1) r2) (by rw [List.map_cons, List.map_cons, ek])
    exact this
theorem putK_fresh : ∀ {kvs : List (Key × V)} {k : Key} {v : V}, k ∉ kvs.map (·.1) → putK kvs k v = kvs ++ [(k, v)] := fun {kvs k v} h => by
  unfold putK
  rw [if_neg]
  intro hc
  rw [List.any_eq_true] at hc
  obtain ⟨p, hp, e⟩ := hc
  exact h (List.mem_map.mpr ⟨p, hp, of_decide_eq_true e⟩)
theorem mergeK_fresh : ∀ {more kvs : List (Key × V)}, ((kvs ++ more).map (·.1)).Nodup → mergeK kvs more = kvs ++ more
  | [], kvs, _ => by rw [List.append_nil]; rfl
  | (k, v) :: r, kvs, h => by
    have e : mergeK kvs ((k, v) :: r) = mergeK (putK kvs k v) r := rfl
    have hk : k ∉ kvs.map (·.1) := by
      rw [List.map_append, List.map_cons] at h
      intro hm
      exact (List.nodup_append.mp h).2.2 k hm k (List.mem_cons_self ..) rfl
    rw [e, putK_fresh hk, mergeK_fresh]
    · rw [List.append_assoc]; rfl
    · rw [List.append_assoc]; exact h
theorem de_dict {keys : List (Option Expr)} {values : List Expr} {kfs : List (Str × FE)} (h : PPs X pos keys values (trsOf X.K kfs)) (hall : keys.all (·.isSome) = true := by rfl) (hl : keys.length = values.length := by rfl) (h0 : keys ≠ [] := by (intro z; cases z)) (h15 : keys.length ≤ 15 := by decide) : DE X (.Dict keys values pos) (eDict kfs) := by
  refine pe_conseq (pe_disp h hall hl h0 h15) fun σ H Q h => ?_
  obtain ⟨E, S, δ, d, rfl, r, hf, q⟩ := h
  unfold eDict at hf
  obtain ⟨ds, hx, hf⟩ := Option.bind_eq_some_iff.mp hf
  split at hf
  · rename_i hz
    cases hf
    rw [Bool.and_eq_true, decide_eq_true_eq, decide_eq_true_eq] at hz
    intro p hp
    have zp : S.Z p = none := S.ok.free hp
    have x0 : Ex S (S.put p (.dK []) zp) := ⟨Same.refl _, same_upd hp _, fun _ h _ => h⟩
    have rr : R X.K E (S.put p (.dK []) zp) σ δ := r.mono x0
    refine pairs_run (S := S.put p (.dK []) zp) rr hx fun kvs S2 x2 rk ek => ?_
    have hp2 : S2.H p = some (.dK []) := x2.h _ _ upd_same
    have zp2 : S2.Z p = none := x2.c p zp (by show upd S.H p _ p ≠ none; rw [upd_same]; simp)
    have nd : (kvs.map (·.1)).Nodup := by
      rw [ek]
      have e3 : kfs.map (fun kf => (Sum.inr kf.1 : Key)) = (kfs.map (·.1)).map Sum.inr := by rw [List.map_map]; rfl
      rw [e3]
      exact List.Pairwise.map _ (fun a b hab hc => hab (Sum.inr.inj hc)) hz.2
    have lk : kvs.length = kfs.length := by
      have := congrArg List.length ek
      simpa using this
    refine ⟨hp2, kvs, rfl, by omega, ?_⟩
    have em : mergeK [] kvs = kvs := by rw [mergeK_fresh (by simpa using nd)]; rfl
    rw [em]
    have x02 : Ex S S2 := x0.trans x2
    let S3 : Stt := ⟨upd S2.Z p (.dK kvs), upd S2.H p (.dK kvs), same_upd2 S2.ok _⟩
    have x3 : Ex S S3 := ⟨fun b o e => by show upd S2.Z p _ b = _; rw [upd_ne (ne_of_none e zp)]; exact x02.z _ _ e, fun b o e => by show upd S2.H p _ b = _; rw [upd_ne (ne_of_none e hp)]; exact x02.h _ _ e, fun b h1 h2 => by
      show upd S2.Z p _ b = none
      rw [upd_ne (show b ≠ p from fun e => by subst e; exact h2 hp)]
      exact x02.c b h1 h2⟩
    refine q (.ref p) S3 x3 (.dic (xs := kvs) upd_same (RvK.mono (same_upd zp2 _) ds rk))
  · cases hf
/-! ### what a for walks -/
abbrev FI := List Sl → Option (List D)
structure ItD (K : PySem.W.Frag) (J : It) (S : Stt) (ds : List D) : Prop where
  go : ∀ i (S' : Stt), Same S.Z S'.Z → i < ds.length → J.go i S'.H
  yld : ∀ i (S' : Stt) x H', Same S.Z S'.Z → i < ds.length → J.yld i S'.H x H' → ∃ d S2, ds[i]? = some d ∧ Ex S' S2 ∧ S2.H = H' ∧ Rv K S2.Z d x
  stop : ∀ (S' : Stt), Same S.Z S'.Z → J.stop ds.length S'.H
def tWI (K : PySem.W.Frag) (f : FI) : TI := fun σ H Rk => ∃ (E : Hp) (S : Stt) (δ : List Sl) (ds : List D), S.H = H ∧ R K E S σ δ ∧ f δ = some ds ∧ ∀ J S', Ex S S' → ItD K J S' ds → Rk J S'.H
abbrev WI (X : Cx) (tg e : Expr) (f : FI) : Prop := PI X tg e (tWI X.K f)
theorem pi_conseq {tg e : Expr} {t t' : TI} (h : PI X tg e t) (q : ∀ σ H Q, t' σ H Q → t σ H Q) : PI X tg e t' := ⟨fun pins s σ H Q I hw => h.run pins s σ H Q I (q _ _ _ hw)⟩
theorem itd_list {K : PySem.W.Frag} {S : Stt} {a : Addr} {vs : List V} {ds : List D} (hs : SqL K S.Z a vs) (hr : RvL K S.Z ds vs) : ItD K (Itl K a) S ds := by
  refine ⟨fun i S' x hi => ?_, fun i S' v H' x hi h => ?_, fun S' x => ?_⟩
  · obtain ⟨v, h1, _⟩ := hr.get (List.getElem?_eq_getElem hi)
    exact ⟨vs, v, (x.trans S'.ok).seq hs, h1⟩
  · obtain ⟨rfl, h⟩ := h
    have h1 := h vs ((x.trans S'.ok).seq hs)
    obtain ⟨d, h2, h3⟩ := hr.got h1
    exact ⟨d, S', h2, .refl S', rfl, Rv.mono x d h3⟩
  · exact ⟨vs, (x.trans S'.ok).seq hs, by rw [hr.length]; exact Nat.le_refl _⟩
theorem itd_tup {K : PySem.W.Frag} {S : Stt} {a : Addr} {vs : List V} {ds : List D} (hs : SqT K S.Z a vs) (hr : RvL K S.Z ds vs) : ItD K (Itt K a) S ds := by
  refine ⟨fun i S' x hi => ?_, fun i S' v H' x hi h => ?_, fun S' x => ?_⟩
  · obtain ⟨v, h1, _⟩ := hr.get (List.getElem?_eq_getElem hi)
    exact ⟨vs, v, sqt_mono (x.trans S'.ok) hs, h1⟩
  · obtain ⟨rfl, h⟩ := h
    have h1 := h vs (sqt_mono (x.trans S'.ok) hs)
    obtain ⟨d, h2, h3⟩ := hr.got h1
    exact ⟨d, S', h2, .refl S', rfl, Rv.mono x d h3⟩
  · exact ⟨vs, sqt_mono (x.trans S'.ok) hs, by rw [hr.length]; exact Nat.le_refl _⟩
def signs (x : Str) : List D := x.cps.toList.map fun c => .str ⟨#[c]⟩
theorem itd_str {K : PySem.W.Frag} {S : Stt} {x : Str} : ItD K (Its x) S (signs x) := by
  have hl : (signs x).length = x.cps.size := by unfold signs; rw [List.length_map, Array.length_toList]
  refine ⟨fun i S' _ hi => ?_, fun i S' v H' _ hi h => ?_, fun S' _ => ?_⟩
  · rw [hl] at hi; exact hi
  · obtain ⟨rfl, c, h1, rfl⟩ := h
    refine ⟨.str ⟨#[c]⟩, S', ?_, .refl S', rfl, .str _⟩
    unfold signs
    rw [List.getElem?_map, Array.getElem?_toList, h1]
    rfl
  · show x.cps.size ≤ _
    rw [hl]
    exact Nat.le_refl _
def rangeD (lo : Int) (n : Nat) : List D := (List.range n).map fun k => .int (lo + (k : Nat))
theorem itd_range {K : PySem.W.Frag} {S : Stt} {lo : Int} {n : Nat} : ItD K (Itr lo n) S (rangeD lo n) := by
  have hl : (rangeD lo n).length = n := by unfold rangeD; rw [List.length_map, List.length_range]
  refine ⟨fun i S' _ hi => ?_, fun i S' v H' _ hi h => ?_, fun S' _ => ?_⟩
  · rw [hl] at hi; exact hi
  · obtain ⟨rfl, rfl⟩ := h
    rw [hl] at hi
    refine ⟨.int (lo + i), S', ?_, .refl S', rfl, .int _⟩
    unfold rangeD
    rw [List.getElem?_map, List.getElem?_range hi]
    rfl
  · show n ≤ _
    rw [hl]
    exact Nat.le_refl _
def seqD : D → Option (List D)
  | .list ds => some ds
  | .tuple ds => some ds
  | .str x => some (signs x)
  | _ => none
def iSeq (f : FE) : FI := fun δ => (f δ).bind seqD
theorem wi_seq {tg : Expr} (h : DE X e f) : WI X tg e (iSeq f) := by
  refine ⟨fun pins s σ H Rk I hw => ?_⟩
  obtain ⟨E, S, δ, ds, rfl, r, hf, q⟩ := hw
  obtain ⟨d, hx, hf⟩ := Option.bind_eq_some_iff.mp hf
  refine thn (h.run pins s σ S.H (fun v H1 => ∃ S1, Ex S S1 ∧ S1.H = H1 ∧ Rv X.K S1.Z d v) I ⟨E, S, δ, d, rfl, r, hx, fun v S1 x1 r1 => ⟨S1, x1, rfl, r1⟩⟩) fun v s1 ⟨x, H1, I1, r1, S1, x1, e1, rv⟩ => ?_
  subst e1
  cases d with
  | list es =>
    cases hf
    cases rv with
    | lst a1 b1 =>
      cases r1
      obtain ⟨its, rv, p, hz⟩ := I1.list (S1.ok.seq a1)
      refine wpAny_pyIter_list p.isList ?_
      refine ⟨s1.heap.objs.size, [s1.heap.objs.size], _, _, S1.H, rfl, I1.kept (t' := s1.toks) fun b o e => Heap.get?_push_of_some _ e, turn_list _ _, ⟨_, Heap.get?_push_size _ rfl, rfl, rfl⟩, fun b hb => ?_, q _ S1 x1 (itd_list a1 b1)⟩
      have e : b = s1.heap.objs.size := by simpa using hb
      subst e
      exact I1.fpOk (Nat.le_refl _) (I1.hok.fresh (Nat.le_refl _))
  | tuple es =>
    cases hf
    cases rv with
    | tup a1 b1 =>
      rename_i p0 xs0
      cases r1
      obtain ⟨its, rv, p, hz⟩ := I1.tuple (sqt_mono S1.ok a1)
      refine wpAny_pyIter_tuple (show s1.heap.IsTuple p0 its.toArray from p) ?_
      refine ⟨s1.heap.objs.size, [s1.heap.objs.size], _, _, S1.H, rfl, I1.kept (t' := s1.toks) fun b o e => Heap.get?_push_of_some _ e, turn_tuple p0 _, ⟨_, Heap.get?_push_size _ rfl, rfl, rfl⟩, fun b hb => ?_, q _ S1 x1 (itd_tup a1 b1)⟩
      have e : b = s1.heap.objs.size := by simpa using hb
      subst e
      exact I1.fpOk (Nat.le_refl _) (I1.hok.fresh (Nat.le_refl _))
  | str x =>
    cases hf
    cases rv
    obtain ⟨t, rfl⟩ := r1
    have q' := q (Its x) S1 x1 itd_str
    cases ha : x.cps.all (· < 128)
    · exact wpAny_pyIter_wide ha (pi_one (tk := s1.toks) I1 _ (turn_str _ x t "str_iterator" (.inr rfl)) ⟨_, Heap.get?_push_size _ rfl, rfl, rfl⟩ q')
    · exact wpAny_pyIter_ascii ha (pi_one (tk := s1.toks) I1 _ (turn_str _ x t "str_ascii_iterator" (.inl rfl)) ⟨_, Heap.get?_push_size _ rfl, rfl, rfl⟩ q')
  | _ => cases hf
def iR1 (g : FA) : FI := fun δ => (g δ).bind fun ds => match ds with
  | [.int j] => if -(2 ^ 62) ≤ j ∧ j < 2 ^ 62 then some (rangeD 0 j.toNat) else none
  | _ => none
def iR2 (g : FA) : FI := fun δ => (g δ).bind fun ds => match ds with
  | [.int i, .int j] => if -(2 ^ 62) ≤ i ∧ i < 2 ^ 62 ∧ -(2 ^ 62) ≤ j ∧ j < 2 ^ 62 then some (rangeD i (j - i).toNat) else none
  | _ => none
theorem wi_range1 {tg : Expr} {p : Pos} {g : FA} (hg : Gl X "range") (hm : X.mg "range" = none) (ha : DA X [a] g) (hs : starEach [a] X.env = [(false, eval a X.env)] := by rfl) : WI X tg (.Call (.Name "range" p) [a] [] pos) (iR1 g) := by
  refine pi_conseq (pi_range1 hg hm ha hs) fun σ H Rk h => ?_
  obtain ⟨E, S, δ, ds, rfl, r, hf, q⟩ := h
  obtain ⟨es, hx, hf⟩ := Option.bind_eq_some_iff.mp hf
  refine ⟨E, S, δ, es, rfl, r, hx, fun vs S1 x1 r1 => ?_⟩
  split at hf
  · split at hf
    · rename_i j hz
      cases hf
      cases r1 with
      | cons a1 b1 => cases b1; cases a1; exact ⟨j, rfl, hz.1, hz.2, q _ S1 x1 itd_range⟩
    · cases hf
  · cases hf
theorem wi_range2 {tg : Expr} {p : Pos} {g : FA} (hg : Gl X "range") (hm : X.mg "range" = none) (ha : DA X [a, b] g) (hs : starEach [a, b] X.env = [(false, eval a X.env), (false, eval b X.env)] := by rfl) (hs2 : starEach [b] X.env = [(false, eval b X.env)] := by rfl) : WI X tg (.Call (.Name "range" p) [a, b] [] pos) (iR2 g) := by
  refine pi_conseq (pi_range2 hg hm ha hs hs2) fun σ H Rk h => ?_
  obtain ⟨E, S, δ, ds, rfl, r, hf, q⟩ := h
  obtain ⟨es, hx, hf⟩ := Option.bind_eq_some_iff.mp hf
  refine ⟨E, S, δ, es, rfl, r, hx, fun vs S1 x1 r1 => ?_⟩
  split at hf
  · split at hf
    · rename_i i j hz
      cases hf
      cases r1 with
      | cons a1 b1 => cases b1 with | cons a2 b2 => cases b2; cases a1; cases a2; exact ⟨i, j, rfl, hz, q _ S1 x1 itd_range⟩
    · cases hf
  · cases hf
/-! ### comprehensions -/
theorem R.un {K : PySem.W.Frag} {E : Hp} {S : Stt} {σ : L2.St} {δ : List Sl} (r : R K E S σ δ) (i : Nat) (v : Option V) : R K E S (σ.set i v) (δ.set i .un) := by
  refine ⟨fun j t e => ?_, fun j k a ds es e1 e2 f1 f2 => ?_⟩
  · have hl : j < δ.length := by
      have := (List.getElem?_eq_some_iff.mp e).1
      simpa using this
    obtain ⟨w, hw, hr⟩ := r.at_ j δ[j] (List.getElem?_eq_getElem hl)
    have hs : j < σ.length := (List.getElem?_eq_some_iff.mp hw).1
    by_cases hj : j = i
    · subst hj
      rw [List.getElem?_set_self hl] at e
      cases e
      exact ⟨v, List.getElem?_set_self hs, trivial⟩
    · rw [List.getElem?_set_ne (Ne.symm hj)] at e ⊢
      exact r.at_ j t e
  · have ne : ∀ {m : Nat} {es' : List D}, (δ.set i Sl.un)[m]? = some (.own es') → m ≠ i := fun {m es'} q hm => by
      subst hm
      have hl : m < δ.length := by
        have := (List.getElem?_eq_some_iff.mp q).1
        simpa using this
      rw [List.getElem?_set_self hl] at q
      cases q
    have n1 := ne e1
    have n2 := ne e2
    rw [List.getElem?_set_ne (Ne.symm n1)] at e1 f1
    rw [List.getElem?_set_ne (Ne.symm n2)] at e2 f2
    exact r.dis j k a ds es e1 e2 f1 f2
def lcD (i : Nat) (δ : List Sl) (ft fe : FE) : List D → Option (List D)
  | [] => some []
  | d :: r => match ft (δ.set i (.val d)) with
    | some (.bool true) => (fe (δ.set i (.val d))).bind fun y => (lcD i δ ft fe r).bind fun ys => some (y :: ys)
    | some (.bool false) => lcD i δ ft fe r
    | _ => none
def eLc (fi : FI) (i : Nat) (ft fe : FE) : FE := fun δ => (fi δ).bind fun ds => (lcD i (δ.set i .un) ft fe ds).bind fun ys => if ys.length ≤ lim then some (.list ys) else none
theorem lc_runO {K : PySem.W.Frag} {fi : FI} {i : Nat} {ft fe : FE} {E : Hp} {S : Stt} {σ : L2.St} {δ : List Sl} {ds ys : List D} {Q : VK} (r : R K E S σ δ) (hx : fi δ = some ds) (hy : lcD i (δ.set i .un) ft fe ds = some ys) (hz : ys.length ≤ lim)
    (q : ∀ p ws S', Ex S S' → S.H p = none → S'.Z p = none → S'.H p = some (.lst ws) → RvL K S'.Z ys ws → Q (.ref p) S'.H) : tLc (tWI K fi) (gName i) (tDT K ft) (tD K fe) [i] σ S.H Q := by
  refine ⟨E, S, δ, ds, rfl, r, hx, fun J S1 x1 it => ?_⟩
  intro Da hD
  let Pv : Nat → Hp → Prop := fun k H => ∃ (S' : Stt) (acc : List V) (done rest : List D), S'.H = H ∧ Ex S1 S' ∧ S'.Z Da = none ∧ S'.H Da = some (.lst acc) ∧ RvL K S'.Z done acc ∧ lcD i (δ.set i .un) ft fe (ds.drop k) = some rest ∧ done ++ rest = ys
  have zD : S1.Z Da = none := S1.ok.free hD
  refine ⟨fun k m H => m = ds.length - k ∧ k ≤ ds.length ∧ Pv k H, ⟨ds.length, by simp, Nat.zero_le _, S1.put Da (.lst []) zD, [], [], ys, rfl, ⟨Same.refl _, same_upd hD _, fun _ h _ => h⟩, zD, upd_same, .nil, hy, rfl⟩, ?_⟩
  rintro k m H ⟨rfl, hk, S', acc, done, rest, rfl, x', zD', hD', racc, hl, he⟩
  by_cases hlt : k < ds.length
  · refine .inr ⟨it.go k S' x'.z hlt, Pv (k + 1), fun H' p => ⟨ds.length - (k + 1), by omega, rfl, hlt, p⟩, fun v H' hyld => ?_⟩
    obtain ⟨d, S2, hd, x2, rfl, rd⟩ := it.yld k S' v H' x'.z hlt hyld
    rw [List.drop_eq_getElem_cons hlt] at hl
    have ed : ds[k] = d := by rw [List.getElem?_eq_getElem hlt] at hd; exact Option.some.inj hd
    rw [ed] at hl
    have rr : R K E S2 ((σ.set i none).set i (some v)) ((δ.set i .un).set i (.val d)) := (((r.mono x1).mono x').mono x2 |>.un i none).setv rd
    refine ⟨?_, ?_⟩
    · show ((σ.set i none).set i (some v)).set i none = σ.set i none
      rw [List.set_set, List.set_set]
    simp only [lcD] at hl
    have zD2 : S2.Z Da = none := x2.c Da zD' (by rw [hD']; simp)
    have hD2 : S2.H Da = some (.lst acc) := x2.h _ _ hD'
    split at hl
    · rename_i ht
      obtain ⟨y, hy1, hl⟩ := Option.bind_eq_some_iff.mp hl
      obtain ⟨rest', hy2, hl⟩ := Option.bind_eq_some_iff.mp hl
      cases hl
      refine ⟨E, S2, _, true, rfl, rr, ht, fun S3 x3 => ?_⟩
      refine iteT ?_
      refine ⟨E, S3, _, y, rfl, rr.mono x3, hy1, fun w S4 x4 r4 => ?_⟩
      have x24 := x3.trans x4
      have zD4 : S4.Z Da = none := x24.c Da zD2 (by rw [hD2]; simp)
      have hD4 : S4.H Da = some (.lst acc) := x24.h _ _ hD2
      have hlen : acc.length = done.length := racc.length
      have hys : done.length < lim := by
        have e4 := congrArg List.length he
        rw [List.length_append, List.length_cons] at e4
        omega
      refine ⟨acc, hD4, by rw [hlen]; exact Nat.lt_of_lt_of_le hys lim_line, S4.put Da (.lst (acc ++ [w])) zD4, acc ++ [w], done ++ [y], rest', rfl, ?_, zD4, upd_same, ?_, hy2, by rw [List.append_assoc]; exact he⟩
      · have xx := (x'.trans x2).trans x24
        exact ⟨xx.z, fun b o e => by show upd S4.H Da _ b = _; rw [upd_ne (ne_of_none e hD)]; exact xx.h _ _ e, xx.c⟩
      · exact (RvL.mono (x2.z.trans x24.z) done racc).append (.cons r4 .nil)
    · rename_i ht
      refine ⟨E, S2, _, false, rfl, rr, ht, fun S3 x3 => ?_⟩
      refine iteF ?_
      exact ⟨S3, acc, done, rest, rfl, (x'.trans x2).trans x3, x3.c Da zD2 (by rw [hD2]; simp), x3.h _ _ hD2, RvL.mono (x2.z.trans x3.z) done racc, hl, he⟩
    · cases hl
  · have ek : k = ds.length := by omega
    subst ek
    refine .inl ⟨it.stop S' x'.z, ?_⟩
    rw [List.drop_length] at hl
    cases hl
    rw [List.append_nil] at he
    subst he
    exact q Da acc S' (x1.trans x') (x1.h.free hD) zD' hD' racc
theorem own_frz {K : PySem.W.Frag} {S S' : Stt} {p : Addr} {ws : List V} {ys : List D} (x : Ex S S') (h0 : S.H p = none) (h1 : S'.Z p = none) (h2 : S'.H p = some (.lst ws)) (h3 : RvL K S'.Z ys ws) : ∃ S3 : Stt, Ex S S3 ∧ S3.H = S'.H ∧ Rv K S3.Z (.list ys) (.ref p) := by
  refine ⟨⟨upd S'.Z p (.lst ws), S'.H, fun b o e => ?_⟩, ⟨x.z.trans (same_upd h1 _), x.h, fun b g1 g2 => ?_⟩, rfl, .lst (.inl (.inl upd_same)) (RvL.mono (same_upd h1 _) ys h3)⟩
  · by_cases hb : b = p
    · subst hb; rw [upd_same] at e; cases e; exact h2
    · rw [upd_ne hb] at e; exact S'.ok _ _ e
  · show upd S'.Z p _ b = none
    rw [upd_ne (show b ≠ p from fun e => by subst e; exact g2 h0)]
    exact x.c b g1 g2
theorem lc_run {K : PySem.W.Frag} {fi : FI} {i : Nat} {ft fe : FE} {σ : L2.St} {H : Hp} {Q : VK} (h : tD K (eLc fi i ft fe) σ H Q) : tLc (tWI K fi) (gName i) (tDT K ft) (tD K fe) [i] σ H Q := by
  obtain ⟨E, S, δ, d, rfl, r, hf, q⟩ := h
  obtain ⟨ds, hx, hf⟩ := Option.bind_eq_some_iff.mp hf
  obtain ⟨ys, hy, hf⟩ := Option.bind_eq_some_iff.mp hf
  split at hf
  · rename_i hz
    cases hf
    refine lc_runO r hx hy hz fun p ws S' x h0 h1 h2 h3 => ?_
    obtain ⟨S3, x3, e3, r3⟩ := own_frz x h0 h1 h2 h3
    rw [← e3]
    exact q _ S3 x3 r3
  · cases hf
theorem dts_nil : PTs X [] (tDT X.K (eC (.bool true))) := by
  have h : PTs X [] tYes := pts_nil
  refine ⟨fun pins s σ H Q I hw => h.run pins s σ H Q I ?_⟩
  obtain ⟨E, S, δ, k, rfl, r, hf, q⟩ := hw
  cases hf
  exact q S (.refl S)
theorem dts_one {ft : FE} (h : PT X c (tDT X.K ft)) : PTs X [c] (tDT X.K ft) := pts_one h
theorem de_lc {elt tg iter : Expr} {ifs : List Expr} {scope : Scope} {x : Str} {i : Nat} {fi : FI} {ft fe : FE} (hc : X.calm = true) (hN : X.N.Nodup) (hi : WI X tg iter fi) (ok : BlkOk X.N X.env.scope scope [(x, i)])
    (hg : ∀ (s : Shared) (H : Hp) (C : Addr) (cl : List (Str × Addr)) (fp : List Addr), PG (X.blk s H scope (compEnvC scope cl C X.env) fp) tg (gName i)) (ht : ∀ (s : Shared) (H : Hp) (C : Addr) (cl : List (Str × Addr)) (fp : List Addr), PTs (X.blk s H scope (compEnvC scope cl C X.env) fp) ifs (tDT X.K ft))
    (he : ∀ (s : Shared) (H : Hp) (C : Addr) (cl : List (Str × Addr)) (fp : List Addr), PE (X.blk s H scope (compEnvC scope cl C X.env) fp) elt (tD X.K fe)) (hs : ∀ x, foldedSetIterable iter X.env x = pure x := by intro _; rfl) :
    DE X (.ListComp elt [⟨tg, iter, ifs, 0⟩] scope pos) (eLc fi i ft fe) :=
  pe_conseq (pe_lc (own := [(x, i)]) hc hN hi ok hg ht he hs) fun σ H Q h => lc_run h
/-! ### statements -/
inductive Out where
  | nx (δ : List Sl)
  | rt (d : D)
  | bk (δ : List Sl)
  | ct (δ : List Sl)
abbrev GS := List Sl → Option Out
def fits (K : PySem.W.Frag) (Se : Stt) (Dn : Ends) : Out → Prop
  | .nx δ => ∀ σ S, Ex Se S → R K Se.H S σ δ → Dn.nx σ S.H
  | .rt d => ∀ v S, Ex Se S → Rv K S.Z d v → Dn.rt v S.H
  | .bk δ => ∀ σ S, Ex Se S → R K Se.H S σ δ → Dn.bk σ S.H
  | .ct δ => ∀ σ S, Ex Se S → R K Se.H S σ δ → Dn.ct σ S.H
def tG (K : PySem.W.Frag) (g : GS) : TS := fun Dn σ H => ∃ (Se S : Stt) (δ : List Sl) (o : Out), S.H = H ∧ Ex Se S ∧ R K Se.H S σ δ ∧ g δ = some o ∧ fits K Se Dn o
abbrev DS (X : Cx) (st : Stmt) (g : GS) : Prop := PS X st (tG X.K g)
abbrev DB (X : Cx) (sts : List Stmt) (g : GS) : Prop := PSs X sts (tG X.K g)
def gSeq (g g' : GS) : GS := fun δ => (g δ).bind fun o => match o with
  | .nx δ' => g' δ'
  | o => some o
def gNil : GS := fun δ => some (.nx δ)
theorem db_nil : DB X [] gNil := pss_conseq pss_nil fun Dn σ H h => by
  obtain ⟨Se, S, δ, o, rfl, x, r, hf, q⟩ := h
  cases hf
  exact q σ S x r
theorem db_cons {st : Stmt} {rest : List Stmt} {g g' : GS} (h : DS X st g) (t : DB X rest g') : DB X (st :: rest) (gSeq g g') := pss_conseq (pss_cons h t) fun Dn σ H h => by
  obtain ⟨Se, S, δ, o, rfl, x, r, hf, q⟩ := h
  obtain ⟨o1, h1, hf⟩ := Option.bind_eq_some_iff.mp hf
  refine ⟨Se, S, δ, o1, rfl, x, r, h1, ?_⟩
  cases o1 with
  | nx δ' => exact fun σ' S' x' r' => ⟨Se, S', δ', o, rfl, x', r', hf, q⟩
  | rt d => cases hf; exact q
  | bk δ' => cases hf; exact q
  | ct δ' => cases hf; exact q
theorem db_one {st : Stmt} {g : GS} (h : DS X st g) : DB X [st] g := pss_one h
def gIf (ft : FE) (g g' : GS) : GS := fun δ => match ft δ with
  | some (.bool true) => g δ
  | some (.bool false) => g' δ
  | _ => none
theorem ds_if {ft : FE} {s1 s2 : List Stmt} {g g' : GS} (h : PT X c (tDT X.K ft)) (h1 : DB X s1 g) (h2 : DB X s2 g') : DS X (.If c s1 s2 pos) (gIf ft g g') := ps_conseq (ps_if h h1 h2) fun Dn σ H h => by
  obtain ⟨Se, S, δ, o, rfl, x, r, hf, q⟩ := h
  unfold gIf at hf
  split at hf
  · rename_i ht
    refine ⟨Se.H, S, δ, true, rfl, r, ht, fun S1 x1 => ?_⟩
    refine iteT ?_
    exact ⟨Se, S1, δ, o, rfl, x.trans x1, r.mono x1, hf, q⟩
  · rename_i ht
    refine ⟨Se.H, S, δ, false, rfl, r, ht, fun S1 x1 => ?_⟩
    refine iteF ?_
    exact ⟨Se, S1, δ, o, rfl, x.trans x1, r.mono x1, hf, q⟩
  · cases hf
def gRet (f : FE) : GS := fun δ => (f δ).map .rt
theorem ds_ret (h : DE X e f) : DS X (.Return (some e) pos) (gRet f) := ps_conseq (ps_ret h) fun Dn σ H h => by
  obtain ⟨Se, S, δ, o, rfl, x, r, hf, q⟩ := h
  obtain ⟨d, hx, rfl⟩ := Option.map_eq_some_iff.mp hf
  exact ⟨Se.H, S, δ, d, rfl, r, hx, fun v S1 x1 r1 => q v S1 (x.trans x1) r1⟩
def gRetN : GS := fun _ => some (.rt .none)
theorem ds_retN : DS X (.Return none pos) gRetN := ps_conseq ps_retN fun Dn σ H h => by
  obtain ⟨Se, S, δ, o, rfl, x, r, hf, q⟩ := h
  cases hf
  exact q _ S x .non
def gBk : GS := fun δ => some (.bk δ)
def gCt : GS := fun δ => some (.ct δ)
theorem ds_break : DS X (.Break pos) gBk := ps_conseq ps_break fun Dn σ H h => by
  obtain ⟨Se, S, δ, o, rfl, x, r, hf, q⟩ := h
  cases hf
  exact q σ S x r
theorem ds_continue : DS X (.Continue pos) gCt := ps_conseq ps_continue fun Dn σ H h => by
  obtain ⟨Se, S, δ, o, rfl, x, r, hf, q⟩ := h
  cases hf
  exact q σ S x r
theorem ds_pass : DS X (.Pass pos) gNil := ps_conseq ps_pass fun Dn σ H h => by
  obtain ⟨Se, S, δ, o, rfl, x, r, hf, q⟩ := h
  cases hf
  exact q σ S x r
/-- x = e -/
def gSet (i : Nat) (f : FE) : GS := fun δ => (f δ).map fun d => .nx (δ.set i (.val d))
theorem set_run {K : PySem.W.Frag} {i : Nat} {Dn : Ends} {σ : L2.St} {H : Hp} (h : tG K (gSet i f) Dn σ H) : tAsg (tD K f) (gName i) Dn σ H := by
  obtain ⟨Se, S, δ, o, rfl, x, r, hf, q⟩ := h
  obtain ⟨d, hx, rfl⟩ := Option.map_eq_some_iff.mp hf
  exact ⟨Se.H, S, δ, d, rfl, r, hx, fun v S1 x1 r1 => q _ S1 (x.trans x1) ((r.mono x1).setv r1)⟩
theorem ds_set {i : Nat} {x : Str} {pos' : Pos} (hN : X.N.Nodup) (hi : X.N[i]? = some x) (hx : Loc X.env.scope x) (h : DE X e f)
    (hf : X.fn x = true ∨ X.env.scope.names.lookup x = some .local := by first | exact .inl rfl | exact .inr rfl | assumption) (hs : swapsWith e (some (.Name x pos')) pos.line X.env = pure false := by rfl) : DS X (.Assign [.Name x pos'] e pos) (gSet i f) :=
  ps_conseq (ps_set (i := i) hN hi hx h hs hf) fun Dn σ H h => set_run h
end
end Pd

set_option Elab.async false
set_option linter.all false
set_option maxRecDepth 100000
set_option maxHeartbeats 4000000
namespace Pd
open PySem PySem.Spec PyProof.Rows L2
section
variable {X : Cx} {a b c e : Expr} {fa fb fc f : FE} {pos : Pos}
theorem ds_setLc {i j : Nat} {y x : Str} {py spos : Pos} {elt tg iter : Expr} {ifs : List Expr} {scope : Scope} {fi : FI} {ft fe : FE} (hc : X.calm = true) (hN : X.N.Nodup) (hy : X.N[j]? = some y) (hyl : X.env.scope.names.lookup y = some .local)
    (hsw : swapsWith (.ListComp elt [⟨tg, iter, ifs, 0⟩] scope pos) (some (.Name y py)) spos.line X.env = pure true) (hi : WI X tg iter fi) (ok : BlkOk X.N X.env.scope scope [(x, i)])
    (hg : ∀ (s : Shared) (H : Hp) (C : Addr) (cl : List (Str × Addr)) (fp : List Addr), PG (X.blk s H scope (compEnvC scope cl C X.env) fp) tg (gName i)) (ht : ∀ (s : Shared) (H : Hp) (C : Addr) (cl : List (Str × Addr)) (fp : List Addr), PTs (X.blk s H scope (compEnvC scope cl C X.env) fp) ifs (tDT X.K ft))
    (he : ∀ (s : Shared) (H : Hp) (C : Addr) (cl : List (Str × Addr)) (fp : List Addr), PE (X.blk s H scope (compEnvC scope cl C X.env) fp) elt (tD X.K fe)) (hs : ∀ x, foldedSetIterable iter X.env x = pure x := by intro _; rfl) :
    DS X (.Assign [.Name y py] (.ListComp elt [⟨tg, iter, ifs, 0⟩] scope pos) spos) (gSet j (eLc fi i ft fe)) := by
  refine ps_conseq (ps_setLc (own := [(x, i)]) (i := j) hc hN hy hyl hsw hi ok hg ht he hs) fun Dn σ H h => ?_
  have h' := set_run h
  exact lc_run (Q := fun x H1 => gName j x σ H1 Dn.nx) h'
/-- a, b, .. = e (e a tuple) -/
def setAll : List Nat → List D → List Sl → List Sl
  | i :: is, d :: ds, δ => setAll is ds (δ.set i (.val d))
  | _, _, δ => δ
def gUnp (is : List Nat) (f : FE) : GS := fun δ => (f δ).bind fun d => match d with
  | .tuple ds => if ds.length = is.length then some (.nx (setAll is ds δ)) else none
  | _ => none
def namesG : List Nat → TGs
  | [] => gNil'
  | i :: is => gCons (gName i) (namesG is)
where gNil' : TGs := L2.gNil
theorem names_run {K : PySem.W.Frag} {E : Hp} {S : Stt} {Q : L2.St → Hp → Prop} : ∀ {is : List Nat} {vs : List V} {ds : List D} {σ : L2.St} {δ : List Sl}, R K E S σ δ → RvL K S.Z ds vs → ds.length = is.length → (∀ σ', R K E S σ' (setAll is ds δ) → Q σ' S.H) → namesG is vs σ S.H Q
  | [], vs, ds, σ, δ, r, rv, hl, q => by
    cases ds with
    | nil => cases rv; exact ⟨rfl, q σ r⟩
    | cons d ds => cases hl
  | i :: is, vs, ds, σ, δ, r, rv, hl, q => by
    cases ds with
    | nil => cases hl
    | cons d ds =>
      cases rv with
      | cons a b => exact ⟨_, _, rfl, names_run (is := is) (r.setv a) b (by simpa using hl) q⟩
theorem ds_unp {tgs : List Expr} {k n : Nat} {pos' : Pos} {is : List Nat} (hl : n = is.length) (hps : PS X (.Assign [.Tuple tgs k pos'] e pos) (tAsg (tD X.K f) (gTup X.K n (namesG is)))) : DS X (.Assign [.Tuple tgs k pos'] e pos) (gUnp is f) :=
  ps_conseq hps fun Dn σ H h => by
    obtain ⟨Se, S, δ, o, rfl, x, r, hf, q⟩ := h
    obtain ⟨d, hx, hf⟩ := Option.bind_eq_some_iff.mp hf
    refine ⟨Se.H, S, δ, d, rfl, r, hx, fun v S1 x1 r1 => ?_⟩
    cases d with
    | tuple ds =>
      have hf' : (if ds.length = is.length then some (Out.nx (setAll is ds δ)) else none) = some o := hf
      split at hf'
      · rename_i hz
        cases hf'
        cases r1 with
        | tup a1 b1 =>
          refine ⟨_, _, rfl, sqt_mono S1.ok a1, by rw [b1.length, hz, hl], ?_⟩
          exact names_run (r.mono x1) b1 hz fun σ' r' => q σ' S1 (x.trans x1) r'
      · cases hf'
    | _ => cases hf
/-- for x in .. -/
def forG (i : Nat) (body : GS) : List D → GS
  | [], δ => some (.nx δ)
  | d :: r, δ => match body (δ.set i (.val d)) with
    | some (.nx δ') => forG i body r δ'
    | some (.ct δ') => forG i body r δ'
    | some (.bk δ') => some (.nx δ')
    | some (.rt d') => some (.rt d')
    | none => none
def gFor (fi : FI) (i : Nat) (body : GS) : GS := fun δ => (fi δ).bind fun ds => forG i body ds δ
/-- the entry of a loop's body: what stood frozen or was there at the def's entry -/
def Stt.mid (Se S : Stt) (x : Ex Se S) : Stt := ⟨S.Z, fun b => if (Se.H b).isSome || (S.Z b).isSome then S.H b else none, fun b o e => by
  show (if _ then _ else _) = some o
  rw [e]
  simp only [Option.isSome_some, Bool.or_true, if_true]
  exact S.ok _ _ e⟩
theorem mid_none {Se S : Stt} {x : Ex Se S} {b : Addr} (h : (Se.mid S x).H b = none) : Se.H b = none := by
  have h' : (if (Se.H b).isSome || (S.Z b).isSome then S.H b else none) = none := h
  cases e : Se.H b with
  | none => rfl
  | some o =>
    rw [e] at h'
    simp only [Option.isSome_some, Bool.true_or, if_true] at h'
    rw [x.h _ _ e] at h'
    cases h'
theorem mid_out {Se S : Stt} {x : Ex Se S} {b : Addr} (h : Se.H b = none) (h2 : S.Z b = none) : (Se.mid S x).H b = none := by
  show (if (Se.H b).isSome || (S.Z b).isSome then S.H b else none) = none
  rw [h, h2]
  rfl
theorem mid_ex {Se S : Stt} (x : Ex Se S) : Ex (Se.mid S x) S := ⟨Same.refl _, fun b o e => by
  have e' : (if (Se.H b).isSome || (S.Z b).isSome then S.H b else none) = some o := e
  split at e'
  · exact e'
  · (cases e'), fun b h1 _ => h1⟩
theorem ex_mid {Se S : Stt} (x : Ex Se S) : Ex Se (Se.mid S x) := ⟨x.z, fun b o e => by
  show (if (Se.H b).isSome || (S.Z b).isSome then S.H b else none) = some o
  rw [e]
  simp only [Option.isSome_some, Bool.true_or, if_true]
  exact x.h _ _ e, fun b h1 h2 => x.c b h1 h2⟩
theorem R.mid {K : PySem.W.Frag} {Se S : Stt} {σ : L2.St} {δ : List Sl} (x : Ex Se S) (r : R K Se.H S σ δ) : R K (Se.mid S x).H S σ δ := by
  refine ⟨fun i s h => ?_, r.dis⟩
  obtain ⟨v, h1, h2⟩ := r.at_ i s h
  refine ⟨v, h1, ?_⟩
  cases s with
  | un => exact trivial
  | val d => exact h2
  | own ds => obtain ⟨a, vs, e1, e2, e3, e4, e5⟩ := h2; exact ⟨a, vs, e1, e2, e3, mid_out e4 e3, e5⟩
theorem R.unmid {K : PySem.W.Frag} {Se S T : Stt} {σ : L2.St} {δ : List Sl} (x : Ex Se S) (r : R K (Se.mid S x).H T σ δ) : R K Se.H T σ δ := by
  refine ⟨fun i s h => ?_, r.dis⟩
  obtain ⟨v, h1, h2⟩ := r.at_ i s h
  refine ⟨v, h1, ?_⟩
  cases s with
  | un => exact trivial
  | val d => exact h2
  | own ds => obtain ⟨a, vs, e1, e2, e3, e4, e5⟩ := h2; exact ⟨a, vs, e1, e2, e3, mid_none e4, e5⟩
theorem ds_for {tg iter : Expr} {body : List Stmt} {fi : FI} {i : Nat} {g : GS} (hp : PassesOwn (model X.prog X.w) X.A X.env X.xe) (hc : X.calm = true) (hi : WI X tg iter fi) (hg : PG X tg (gName i)) (hb : DB X body g) (hs : ∀ x, foldedSetIterable iter X.env x = pure x := by intro _; rfl) : DS X (.For tg iter body [] pos) (gFor fi i g) :=
  ps_conseq (ps_for hp hc hi hg hb (hs := hs)) fun Dn σ H h => by
    obtain ⟨Se, S, δ, o, rfl, x, r, hf, q⟩ := h
    obtain ⟨ds, hx, hf⟩ := Option.bind_eq_some_iff.mp hf
    refine ⟨Se.H, S, δ, ds, rfl, r, hx, fun J S1 x1 it => ?_⟩
    have xe : Ex Se S1 := x.trans x1
    let Sm := Se.mid S1 xe
    let Pv : Nat → L2.St → Hp → Prop := fun k σ H => ∃ (S' : Stt) (δ' : List Sl), S'.H = H ∧ Ex Sm S' ∧ R X.K Sm.H S' σ δ' ∧ forG i g (ds.drop k) δ' = some o
    refine ⟨fun k m σ H => m = ds.length - k ∧ k ≤ ds.length ∧ Pv k σ H, ⟨ds.length, by simp, Nat.zero_le _, S1, δ, rfl, mid_ex xe, R.mid xe (r.mono x1), hf⟩, ?_⟩
    rintro k m σ H ⟨rfl, hk, S', δ', rfl, x', r', hl⟩
    by_cases hlt : k < ds.length
    · refine .inr ⟨it.go k S' x'.z hlt, Pv (k + 1), fun σ' H' p => ⟨ds.length - (k + 1), by omega, rfl, hlt, p⟩, fun v H' hyld => ?_⟩
      obtain ⟨d, S2, hd, x2, rfl, rd⟩ := it.yld k S' v H' x'.z hlt hyld
      rw [List.drop_eq_getElem_cons hlt] at hl
      have ed : ds[k] = d := by rw [List.getElem?_eq_getElem hlt] at hd; exact Option.some.inj hd
      rw [ed] at hl
      simp only [forG] at hl
      have rr := (r'.mono x2).setv (i := i) rd
      have x2' := x'.trans x2
      split at hl
      · rename_i hb1
        exact ⟨Sm, S2, _, _, rfl, x2', rr, hb1, fun σ3 S3 x3 r3 => ⟨S3, _, rfl, x3, r3, hl⟩⟩
      · rename_i hb1
        exact ⟨Sm, S2, _, _, rfl, x2', rr, hb1, fun σ3 S3 x3 r3 => ⟨S3, _, rfl, x3, r3, hl⟩⟩
      · rename_i hb1
        cases hl
        exact ⟨Sm, S2, _, _, rfl, x2', rr, hb1, fun σ3 S3 x3 r3 => q σ3 S3 ((ex_mid xe).trans x3) (R.unmid xe r3)⟩
      · rename_i hb1
        cases hl
        exact ⟨Sm, S2, _, _, rfl, x2', rr, hb1, fun v3 S3 x3 r3 => q v3 S3 ((ex_mid xe).trans x3) r3⟩
      · cases hl
    · have ek : k = ds.length := by omega
      subst ek
      rw [List.drop_length] at hl
      cases hl
      exact .inl ⟨it.stop S' x'.z, q σ S' ((ex_mid xe).trans x') (R.unmid xe r')⟩
/-- while, at most n turns -/
def whileG (ft : FE) (body : GS) : Nat → GS
  | 0, _ => none
  | n + 1, δ => match ft δ with
    | some (.bool true) => match body δ with
      | some (.nx δ') => whileG ft body n δ'
      | some (.ct δ') => whileG ft body n δ'
      | some (.bk δ') => some (.nx δ')
      | some (.rt d') => some (.rt d')
      | none => none
    | some (.bool false) => some (.nx δ)
    | _ => none
theorem ds_while (n : Nat) {body : List Stmt} {ft : FE} {g : GS} (hp : PassesOwn (model X.prog X.w) X.A X.env X.xe) (ht : PT X c (tDT X.K ft)) (hb : DB X body g) : DS X (.While c body [] pos) (whileG ft g n) :=
  ps_conseq (ps_while hp ht hb) fun Dn σ H h => by
    obtain ⟨Se, S, δ, o, rfl, x, r, hf, q⟩ := h
    refine ⟨fun m σ H => ∃ (S' : Stt) (δ' : List Sl), S'.H = H ∧ Ex Se S' ∧ R X.K Se.H S' σ δ' ∧ whileG ft g m δ' = some o, ⟨n, S, δ, rfl, x, r, hf⟩, ?_⟩
    rintro m σ H ⟨S', δ', rfl, x', r', hl⟩
    cases m with
    | zero => cases hl
    | succ m =>
      simp only [whileG] at hl
      split at hl
      · rename_i ht1
        refine ⟨Se.H, S', δ', true, rfl, r', ht1, fun S1 x1 => ?_⟩
        refine iteT ?_
        refine ⟨fun σ2 H2 => ∃ (S2 : Stt) (δ2 : List Sl), S2.H = H2 ∧ Ex Se S2 ∧ R X.K Se.H S2 σ2 δ2 ∧ whileG ft g m δ2 = some o, fun σ2 H2 p => ⟨m, Nat.lt_succ_self _, p⟩, ?_⟩
        split at hl
        · rename_i hb1
          exact ⟨Se, S1, _, _, rfl, x'.trans x1, r'.mono x1, hb1, fun σ3 S3 x3 r3 => ⟨S3, _, rfl, x3, r3, hl⟩⟩
        · rename_i hb1
          exact ⟨Se, S1, _, _, rfl, x'.trans x1, r'.mono x1, hb1, fun σ3 S3 x3 r3 => ⟨S3, _, rfl, x3, r3, hl⟩⟩
        · rename_i hb1
          cases hl
          exact ⟨Se, S1, _, _, rfl, x'.trans x1, r'.mono x1, hb1, fun σ3 S3 x3 r3 => q σ3 S3 x3 r3⟩
        · rename_i hb1
          cases hl
          exact ⟨Se, S1, _, _, rfl, x'.trans x1, r'.mono x1, hb1, fun v3 S3 x3 r3 => q v3 S3 x3 r3⟩
        · cases hl
      · rename_i ht1
        cases hl
        refine ⟨Se.H, S', δ', false, rfl, r', ht1, fun S1 x1 => ?_⟩
        refine iteF ?_
        exact q σ S1 (x'.trans x1) (r'.mono x1)
      · cases hl
/-! ### lists of the def's own -/
/-- x = [..], x filled later -/
def gOwn (i : Nat) (g : FA) : GS := fun δ => (g δ).bind fun ds => if ds.length ≤ lim then some (.nx (δ.set i (.own ds))) else none
theorem ds_own {i : Nat} {x : Str} {pos' epos : Pos} {es : List Expr} {g : FA} (hN : X.N.Nodup) (hi : X.N[i]? = some x) (hx : Loc X.env.scope x) (h : DA X es g)
    (hf : X.fn x = true ∨ X.env.scope.names.lookup x = some .local := by first | exact .inl rfl | exact .inr rfl | assumption) (hs : swapsWith (.List es epos) (some (.Name x pos')) pos.line X.env = pure false := by rfl) : DS X (.Assign [.Name x pos'] (.List es epos) pos) (gOwn i g) :=
  ps_conseq (ps_set (i := i) hN hi hx (pe_lst h) hs hf) fun Dn σ H h => by
    obtain ⟨Se, S, δ, o, rfl, x, r, hf, q⟩ := h
    obtain ⟨ds, hx, hf⟩ := Option.bind_eq_some_iff.mp hf
    split at hf
    · rename_i hz
      cases hf
      refine ⟨Se.H, S, δ, ds, rfl, r, hx, fun vs S1 x1 r1 => ⟨by rw [r1.length]; exact Nat.le_trans hz lim_line, fun p hp => ?_⟩⟩
      have zp : S1.Z p = none := S1.ok.free hp
      have xe := x.trans x1
      have x2 : Ex S1 (S1.put p (.lst vs) zp) := ⟨Same.refl _, same_upd hp _, fun _ h _ => h⟩
      refine q _ (S1.put p (.lst vs) zp) (xe.trans x2) (((r.mono x1).mono x2).set ⟨p, vs, rfl, upd_same, zp, xe.h.free hp, r1⟩ ?_)
      intro es' j a' fs e1 e2 e3 e4
      cases e2
      obtain ⟨w, hw, a2, vs2, f1, f2, _⟩ := (r.mono x1).at_ j _ e3
      rw [e4] at hw
      cases hw
      cases f1
      rw [hp] at f2
      cases f2
    · cases hf
theorem own_write {K : PySem.W.Frag} {Se S : Stt} {σ : L2.St} {δ : List Sl} {i : Nat} {ds ds' : List D} {a : Addr} {vs vs' : List V} (x : Ex Se S) (r : R K Se.H S σ δ) (hi : δ[i]? = some (.own ds)) (ha : σ[i]? = some (some (.ref a))) (hz : S.Z a = none) (he : Se.H a = none) (hv : RvL K S.Z ds' vs') :
    Ex Se (S.put a (.lst vs') hz) ∧ R K Se.H (S.put a (.lst vs') hz) σ (δ.set i (.own ds')) := by
  refine ⟨⟨x.z, fun b o e => by show upd S.H a _ b = _; rw [upd_ne (ne_of_none e he)]; exact x.h _ _ e, x.c⟩, fun j t e => ?_, fun j k b es fs e1 e2 f1 f2 => ?_⟩
  · by_cases hj : j = i
    · subst hj
      rw [List.getElem?_set_self (List.getElem?_eq_some_iff.mp hi).1] at e
      cases e
      exact ⟨_, ha, a, vs', rfl, upd_same, hz, he, hv⟩
    · rw [List.getElem?_set_ne (Ne.symm hj)] at e
      obtain ⟨v, h1, h2⟩ := r.at_ j t e
      refine ⟨v, h1, ?_⟩
      cases t with
      | un => exact trivial
      | val d => exact h2
      | own es =>
        obtain ⟨b, ws, g1, g2, g3, g4, g5⟩ := h2
        subst g1
        have hb : b ≠ a := fun eb => by subst eb; exact hj (r.dis j i b es ds e hi h1 ha)
        exact ⟨b, ws, rfl, by show upd S.H a _ b = _; rw [upd_ne hb]; exact g2, g3, g4, g5⟩
  · have own_of : ∀ {m : Nat} {es' : List D}, (δ.set i (.own ds'))[m]? = some (.own es') → ∃ es'', δ[m]? = some (.own es'') := fun {m es'} q => by
      by_cases hm : m = i
      · subst hm; exact ⟨ds, hi⟩
      · rw [List.getElem?_set_ne (Ne.symm hm)] at q; exact ⟨_, q⟩
    obtain ⟨es1, q1⟩ := own_of e1
    obtain ⟨es2, q2⟩ := own_of e2
    exact r.dis j k b es1 es2 q1 q2 f1 f2
/-- x.append(e) -/
def gApp (i : Nat) (f : FE) : GS := fun δ => (f δ).bind fun d => match δ[i]? with
  | some (.own ds) => if ds.length < lim then some (.nx (δ.set i (.own (ds ++ [d])))) else none
  | _ => none
theorem ds_append {i : Nat} {x : Str} {npos apos cpos epos : Pos} (hN : X.N[i]? = some x) (hv : Vis X.env.scope x) (h : DE X e f)
    (hbase : attributeBase (.Name x npos) "append" X.env (eval (.Name x npos) X.env) = eval (.Name x npos) X.env := by rfl)
    (hfew : ((backTo cpos (starEach [e] X.env)).all (fun x => !x.1) && (backToKw cpos (keywordEach [] X.env)).all (fun x => x.1.isSome) && decide ([e].length + ([] : List Keyword).length + (if ([] : List Keyword).isEmpty then 0 else 1) < 30)) = true := by rfl)
    (hline : (apos.endLine == cpos.line) = true := by rfl) (hs : starEach [e] X.env = (false, eval e X.env) :: starEach [] X.env := by rfl) (hplain : (backTo cpos (starEach [] X.env)).any (·.1) = false := by rfl)
    (hd : (x == ("__debug__" : Str)) = false := by decide) (hcd : (x == ("__classdict__" : Str)) = false := by decide)
    : DS X (.Expr (.Call (.Attribute (.Name x npos) "append" apos) [e] [] cpos) epos) (gApp i f) :=
  ps_conseq (ps_expr (pe_bm PySem.F.plainAttrs_list PySem.F.slot_list_append PySem.F.type_list_append mt_append (pe_var hN hv hd hcd) (pa_cons h pa_nil hs) hbase hfew hline hs hplain)) fun Dn σ H h => by
    obtain ⟨Se, S, δ, o, rfl, xe, r, hf, q⟩ := h
    obtain ⟨d, hx, hf⟩ := Option.bind_eq_some_iff.mp hf
    split at hf
    · rename_i ds hds
      split at hf
      · rename_i hz
        cases hf
        obtain ⟨v, h1, a, vs, rfl, h3, h4, h5, h6⟩ := r.at_ i _ hds
        refine ⟨.ref a, h1, .inl ⟨rfl, vs, .inl (.inl h3)⟩, Se.H, S, δ, d, rfl, r, hx, fun w S1 x1 r1 => ?_⟩
        have h3' : S1.H a = some (.lst vs) := x1.h _ _ h3
        have h4' : S1.Z a = none := x1.c a h4 (by rw [h3]; simp)
        refine ⟨a, vs, w, rfl, rfl, h3', by rw [h6.length]; exact Nat.lt_of_lt_of_le hz lim_line, ?_⟩
        obtain ⟨x3, r3⟩ := own_write (vs := vs) (vs' := vs ++ [w]) (xe.trans x1) (r.mono x1) hds h1 h4' h5 ((RvL.mono x1.z ds h6).append (.cons r1 .nil))
        exact q σ _ x3 r3
      · cases hf
    · cases hf
/-- return x, x a list of the def's own -/
def eOwn (i : Nat) : FE := fun δ => match δ[i]? with
  | some (.own ds) => some (.list ds)
  | _ => none
theorem ds_retOwn {i : Nat} {x : Str} {npos : Pos} (hN : X.N[i]? = some x := by rfl) (hv : Vis X.env.scope x := by first | exact Or.inl rfl | exact Or.inr (Or.inl rfl) | exact Or.inr (Or.inr rfl)) (hd : (x == ("__debug__" : Str)) = false := by decide) (hcd : (x == ("__classdict__" : Str)) = false := by decide) : DS X (.Return (some (.Name x npos)) pos) (gRet (eOwn i)) :=
  ps_conseq (ps_ret (pe_var hN hv hd hcd)) fun Dn σ H h => by
    obtain ⟨Se, S, δ, o, rfl, xe, r, hf, q⟩ := h
    obtain ⟨d, hx, rfl⟩ := Option.map_eq_some_iff.mp hf
    unfold eOwn at hx
    split at hx
    · rename_i ds hds
      cases hx
      obtain ⟨v, h1, a, vs, rfl, h3, h4, h5, h6⟩ := r.at_ i _ hds
      refine ⟨.ref a, h1, ?_⟩
      let S3 : Stt := ⟨upd S.Z a (.lst vs), S.H, fun b o e => by
        by_cases hb : b = a
        · subst hb; rw [upd_same] at e; cases e; exact h3
        · rw [upd_ne hb] at e; exact S.ok _ _ e⟩
      have x3 : Ex Se S3 := ⟨xe.z.trans (same_upd h4 _), xe.h, fun b g1 g2 => by
        show upd S.Z a _ b = none
        rw [upd_ne (show b ≠ a from fun e => by subst e; exact g2 h5)]
        exact xe.c b g1 g2⟩
      exact q _ S3 x3 (.lst (.inl (.inl upd_same)) (RvL.mono (same_upd h4 _) ds h6))
    · cases hx
/-! ### calls of pure defs; a def from its body -/
def spP (K : PySem.W.Frag) (F : List D → Option D) : Sp := fun vs H Q _ => ∃ (S : Stt) (ds : List D) (d : D), S.H = H ∧ RvL K S.Z ds vs ∧ F ds = some d ∧ ∀ v S', Ex S S' → Rv K S'.Z d v → Q v S'.H
def eCall (F : List D → Option D) (g : FA) : FE := fun δ => (g δ).bind F
theorem de_call {x : Str} {fa : Addr} {fd : FuncData} {ps : List Str} {k : Nat} {es : List Expr} {p : Pos} {F : List D → Option D} {g : FA} (G : FnOk X.prog X.w X.K X.mg X.base CX0 k fa fd ps (spP X.K F)) (hr : Room k X.A) (hg : Gl X x) (hm : X.mg x = some (.ref fa)) (hk : PySem.W.keepIn X.K (.ref fa) = true) (hb : Binds X.K fd ps [])
    (ha : DA X (e :: es) g) (hdb : (x == ("__debug__" : Str)) = false := by decide) (he : starEach (e :: es) X.env = (false, eval e X.env) :: starEach es X.env := by rfl) (hpl : (backTo pos (starEach es X.env)).any (·.1) = false := by rfl) : DE X (.Call (.Name x p) (e :: es) [] pos) (eCall F g) :=
  pe_conseq (pe_call G hr hg hm hk hb .nil pass0 ha hdb he hpl) fun σ H Q h => by
    obtain ⟨E, S, δ, d, rfl, r, hf, q⟩ := h
    obtain ⟨ds, hx, hf⟩ := Option.bind_eq_some_iff.mp hf
    exact ⟨E, S, δ, ds, rfl, r, hx, fun vs S1 x1 r1 => ⟨S1, ds, d, rfl, by rw [List.append_nil]; exact r1, hf, fun v S2 x2 r2 => q v S2 (x1.trans x2) r2⟩⟩
end
/-- the slots at a def's entry -/
def startD (n : Nat) (ds : List D) : List Sl := ds.map .val ++ List.replicate (n - ds.length) .un
/-- what a body gives: n slots, np parameters -/
def runG (n np : Nat) (g : GS) : List D → Option D := fun ds => if ds.length = np then match g (startD n ds) with
  | some (.rt d) => some d
  | some (.nx _) => some .none
  | _ => none
  else none
theorem start_rv {K : PySem.W.Frag} {S : Stt} {N : List Str} {vs : List V} {ds : List D} (h : RvL K S.Z ds vs) : R K S.H S (L2.start N vs) (startD N.length ds) := by
  have hl := h.length
  refine ⟨fun i s e => ?_, fun i j a es fs e1 e2 _ _ => ?_⟩
  · unfold startD at e
    unfold L2.start
    by_cases hi : i < ds.length
    · rw [List.getElem?_append_left (by simpa using hi), List.getElem?_map, List.getElem?_eq_getElem hi] at e
      cases e
      obtain ⟨v, h1, h2⟩ := h.get (List.getElem?_eq_getElem hi)
      exact ⟨some v, by rw [List.getElem?_append_left (by simp; omega), List.getElem?_map, h1]; rfl, v, rfl, h2⟩
    · rw [List.getElem?_append_right (by simp; omega), List.length_map, List.getElem?_replicate] at e
      split at e
      · rename_i hk
        cases e
        exact ⟨none, by rw [List.getElem?_append_right (by simp; omega), List.length_map, List.getElem?_replicate, if_pos (by omega)], trivial⟩
      · cases e
  · have no : ∀ {m : Nat} {es' : List D}, (startD N.length ds)[m]? ≠ some (.own es') := fun {m es'} q => by
      unfold startD at q
      by_cases hm : m < ds.length
      · rw [List.getElem?_append_left (by simpa using hm), List.getElem?_map, List.getElem?_eq_getElem hm] at q
        cases q
      · rw [List.getElem?_append_right (by simp; omega), List.length_map, List.getElem?_replicate] at q
        split at q <;> cases q
    exact absurd e1 no
theorem fn_pure {P : Program} {w : World} {K : PySem.W.Frag} {mg : Str → Option Value} {base : Heap} {x qual : Str} {st : Stmt} {fa : Addr} {fd : FuncData} {N ps : List Str} {k : Nat} {g : GS} (F : Fun K x qual st fa fd) (Sc : FnScope N ps (defScope st))
    (hbody : ∀ (cdv : Value) (A : Around) (outer : List Env) (s : Shared) (H : Hp) (E : XK), Room k (A.deeper (envOfC qual (defScope st) s.heap.objs.size fa cdv)) → DB (cxOf CX0 P w K mg base N qual (defScope st) fa cdv A outer s H E).nox (defBody st) g) :
    FnOk P w K mg base CX0 (k + 1) fa fd ps (spP K (runG N.length ps.length g)) := by
  refine F.ok Sc (fun vs H Q E h => ?_) (fun cdv A outer s H vs Q E hr h => ?_)
  · obtain ⟨S, ds, d, rfl, rl, hf, q⟩ := h
    unfold runG at hf
    split at hf
    · rename_i hz
      rw [rl.length, hz]
    · cases hf
  · refine ⟨_, hbody cdv A outer s H E hr, ?_⟩
    obtain ⟨S, ds, d, rfl, rl, hf, q⟩ := h
    unfold runG at hf
    split at hf
    · split at hf
      · rename_i d' hg
        cases hf
        exact ⟨S, S, _, _, rfl, .refl S, start_rv rl, hg, fun v S' x' r' => q v S' x' r'⟩
      · rename_i δ' hg
        cases hf
        exact ⟨S, S, _, _, rfl, .refl S, start_rv rl, hg, fun σ' S' x' _ => q .non S' x' .non⟩
      · cases hf
    · cases hf
/-- nothing is promised -/
theorem fn_none {P : Program} {w : World} {K : PySem.W.Frag} {mg : Str → Option Value} {base : Heap} {k : Nat} {fa : Addr} {fd : FuncData} {ps : List Str} : FnOk P w K mg base CX0 k fa fd ps (spP K fun _ => none) := by
  have no : ∀ vs H Q E, ¬ spP K (fun _ => none) vs H Q E := fun vs H Q E h => by
    obtain ⟨_, _, _, _, _, e, _⟩ := h
    cases e
  exact ⟨fun vs H Q E h => absurd h (no vs H Q E), fun A outer s H args us vs Q E _ _ _ _ h => absurd h (no vs H Q E)⟩
end Pd

set_option Elab.async false
set_option linter.all false
set_option maxRecDepth 100000
set_option maxHeartbeats 4000000
namespace Pd
open PySem PySem.Spec PyProof.Rows L2
theorem hu65 {k : Nat} {A : Around} (hr : Room k A) : A.units + 65 < cLine := by have := hr.un; omega
theorem hu64 {k : Nat} {A : Around} (hr : Room k A) : A.units + 64 < cLine := by have := hr.un; omega
theorem hu1 {k : Nat} {A : Around} (hr : Room k A) : A.units + 1 < cLine := by have := hr.un; omega
/-- a def of the text, bound to its name -/
def Df (K : PySem.W.Frag) (mg : Str → Option Value) (x : Str) (st : Stmt) (ps : List Str) : Prop :=
  ∃ (fa : Addr) (fd : FuncData), Fun K x x st fa fd ∧ mg x = some (.ref fa) ∧ Binds K fd ps []
/-- a def that keeps a pure promise -/
def Fx (P : Program) (w : World) (K : PySem.W.Frag) (mg : Str → Option Value) (base : Heap) (x : Str) (ps : List Str) (lv : Nat) (F : List D → Option D) : Prop :=
  ∃ (fa : Addr) (fd : FuncData), FnOk P w K mg base CX0 lv fa fd ps (spP K F) ∧ mg x = some (.ref fa) ∧ PySem.W.keepIn K (.ref fa) = true ∧ Binds K fd ps [] ∧ ∃ oc od osl, K.lookup fa = some ⟨oc, od, .func fd, osl⟩
section
variable {P : Program} {w : World} {K : PySem.W.Frag} {mg : Str → Option Value} {base : Heap} {x : Str} {st : Stmt} {N ps : List Str}
theorem fun_look {fa : Addr} {fd : FuncData} (F : Fun K x x st fa fd) : ∃ oc od osl, K.lookup fa = some ⟨oc, od, .func fd, osl⟩ := by
  obtain ⟨oc, od, kV, doc, pm, an, cdv, ct, osl, e, lk, _⟩ := F.ex
  exact ⟨oc, od, osl, lk⟩
theorem fx_of {k n np : Nat} {g : GS} (d : Df K mg x st ps) (Sc : FnScope N ps (defScope st)) (hn : N.length = n) (hp : ps.length = np)
    (hbody : ∀ (fa : Addr) (cdv : Value) (A : Around) (outer : List Env) (s : Shared) (H : Hp) (E : XK), Room k (A.deeper (envOfC x (defScope st) s.heap.objs.size fa cdv)) → DB (cxOf CX0 P w K mg base N x (defScope st) fa cdv A outer s H E).nox (defBody st) g) :
    Fx P w K mg base x ps (k + 1) (runG n np g) := by
  subst hn hp
  exact let ⟨fa, fd, F, hm, hb⟩ := d
  ⟨fa, fd, fn_pure F Sc fun cdv A outer s H E hr => hbody fa cdv A outer s H E hr, hm, F.kp, hb, fun_look F⟩
theorem fx_none {k : Nat} (d : Df K mg x st ps) : Fx P w K mg base x ps k fun _ => none :=
  let ⟨fa, fd, F, hm, hb⟩ := d
  ⟨fa, fd, fn_none, hm, F.kp, hb, fun_look F⟩
end
/-- the def as the text has it -/
theorem fx_at {P : Program} {w : World} {K : PySem.W.Frag} {mg : Str → Option Value} {base : Heap} {x : Str} {ps : List Str} {k : Nat} {F : List D → Option D} {fa : Addr} {fd : FuncData} {oc : Value} {od : Option Addr} {osl : Array (Option Value)}
    (c : Fx P w K mg base x ps k F) (hm : mg x = some (.ref fa)) (lk : K.lookup fa = some ⟨oc, od, .func fd, osl⟩) : FnOk P w K mg base CX0 k fa fd ps (spP K F) := by
  obtain ⟨fa', fd', G, hm', _, _, oc', od', osl', lk'⟩ := c
  rw [hm] at hm'
  cases hm'
  rw [lk] at lk'
  cases lk'
  exact G
/-- law's promise -/
def spLaw (K : PySem.W.Frag) : Sp := fun vs H Q _ => ∃ (a : Addr) (ns : List Int), vs = [.ref a] ∧ SqL K H a (ns.map V.int) ∧ ns.length ≤ 63 ∧ ∀ H', Q (.bl true) H'
theorem law_imp {K : PySem.W.Frag} {F : List D → Option D} (hF : ∀ ns : List Int, ns.length ≤ 63 → F [.list (ns.map PyData.int)] = some (.bool true)) : ∀ vs H Q E, spLaw K vs H Q E → spP K F vs H Q E := by
  rintro vs H Q E ⟨a, ns, rfl, hs, hl, q⟩
  exact ⟨⟨H, H, Same.refl H⟩, [.list (ns.map PyData.int)], .bool true, rfl, .cons (.lst hs (RvL.ints ns)) .nil, hF ns hl, fun v S' _ r => by cases r; exact q _⟩
/-- a module's tuple of data -/
def KTup (K : PySem.W.Frag) (p : Addr) (ds : List D) : Prop := ∃ vs : List V, (∀ H, SqT K H p vs) ∧ ∀ H, RvL K H ds vs
theorem rel_ref (a : Addr) : RelV (V.ref a) (Value.ref a) := rfl
theorem rel_str (x : Str) (t : Tok) : RelV (V.str x) (Value.str x t) := ⟨t, rfl⟩
theorem rel_int (x : Int) (t : Tok) : RelV (V.int x) (Value.int x t) := ⟨t, rfl⟩
theorem ktup_of {K : PySem.W.Frag} {p : Addr} {od : Option Addr} {n : Nat} {sl : Array (Option Value)} {its : Array Value} {ds : List D} {vs : List V} (l : K.lookup p = some ⟨.type "tuple", od, .seq its n, sl⟩) (hz : its.size ≤ sizeLine) (hv : Vals vs its.toList) (hr : ∀ H, RvL K H ds vs) : KTup K p ds :=
  ⟨vs, fun _ => .inr ⟨_, its, n, l, rfl, rfl, hz, hv⟩, hr⟩
theorem ktup_rv {K : PySem.W.Frag} {p : Addr} {ds : List D} (h : KTup K p ds) : ∀ H, Rv K H (.tuple ds) (.ref p) := fun H => let ⟨_, h1, h2⟩ := h; .tup (h1 H) (h2 H)
def GlT (K : PySem.W.Frag) (mg : Str → Option Value) (x : Str) (ds : List D) : Prop := ∃ p, mg x = some (.ref p) ∧ KTup K p ds
section
variable {X : Cx} {a b c e : Expr} {fa fb fc f : FE} {pos : Pos}
theorem de_globTx {x : Str} {ds : List D} (hg : Gl X x) (h : GlT X.K X.mg x ds) (hd : (x == ("__debug__" : Str)) = false := by decide) : DE X (.Name x pos) (eC (.tuple ds)) :=
  let ⟨p, hm, vs, h1, h2⟩ := h
  de_globT hg hm h1 h2 hd
theorem de_callx {x : Str} {ps : List Str} {k j : Nat} {es : List Expr} {p : Pos} {F : List D → Option D} {g : FA} (c : Fx X.prog X.w X.K X.mg X.base x ps k F) (hr : Room j X.A) (hk : k ≤ j) (hg : Gl X x)
    (ha : DA X (e :: es) g) (hdb : (x == ("__debug__" : Str)) = false := by decide) (he : starEach (e :: es) X.env = (false, eval e X.env) :: starEach es X.env := by rfl) (hpl : (backTo pos (starEach es X.env)).any (·.1) = false := by rfl) : DE X (.Call (.Name x p) (e :: es) [] pos) (eCall F g) :=
  let ⟨_, _, G, hm, kp, hb, _⟩ := c
  de_call G (hr.mono hk) hg hm kp hb ha hdb he hpl
theorem de_dict0 : DE X (.Dict [] [] pos) (eC (.dict [])) := pe_conseq pe_dnewK fun σ H Q h => by
  obtain ⟨E, S, δ, d, rfl, r, hf, q⟩ := h
  cases hf
  intro p hp
  exact q _ (S.lay p (.dK [])) (S.lay_ex hp) (.dic Stt.lay_at .nil)
theorem dt_cmp {op : CmpOp} {g : D → D → Option D} (ho : OpD X (compareOp op) g) (ha : DE X a fa) (hb : DE X b fb) (hm : behindInMarks op b = false) : PT X (.Compare a [op] [b] pos) (tDT X.K (e2 g fa fb)) :=
  pt_conseq (pt_cmpR ho ha hb hm) fun σ H Q h => by
    obtain ⟨E, S, δ, k, rfl, r, hf, q⟩ := h
    exact tD_bin (Q := fun x H' => ∃ k, x = .bl k ∧ Q k H') ⟨E, S, δ, .bool k, rfl, r, hf, fun v S' x rv => by cases rv; exact ⟨k, rfl, q S' x⟩⟩
theorem dt_chain {op op' : CmpOp} {g g' : D → D → Option D} (ho : OpD X (compareOp op) g) (ho' : OpD X (compareOp op') g') (ha : DE X a fa) (hb : DE X b fb) (hc : DE X c fc) (hm : lastMarks [op, op'] [b, c] = false := by with_unfolding_all rfl) :
    PT X (.Compare a [op, op'] [b, c] pos) (tDT X.K (eChain g g' fa fb fc)) :=
  pt_conseq (pt_chain ho ho' ha hb hc hm) fun σ H Q h => by
    obtain ⟨E, S, δ, k, rfl, r, hf, q⟩ := h
    exact chain_run (Q := fun x H' => ∃ k, x = .bl k ∧ Q k H') ⟨E, S, δ, .bool k, rfl, r, hf, fun v S' x rv => by cases rv; exact ⟨k, rfl, q S' x⟩⟩
/-- a list of the def's own, read where the answer keeps nothing of it -/
def eOwnR (i : Nat) : FE := fun δ => match δ[i]? with
  | some (.own ds) => some (.list ds)
  | some (.val d) => some d
  | _ => none
theorem de_isiB {T : String} (hT : ∀ d : D, (kitB (tyD d) T).isSome = true) {p p2 : Pos} (hm : X.mg "isinstance" = none) (hm2 : X.mg (Str.ofString T) = none) (hg : Gl X "isinstance") (hg2 : Gl X (Str.ofString T)) (hb : bootBuiltins (Str.ofString T) = some (.type T)) (ha : DE X e f)
    (hn : Str.ofString T ≠ "__name__") (hd : (Str.ofString T == ("__debug__" : Str)) = false)
    (he : starEach [e, .Name (Str.ofString T) p2] X.env = (false, eval e X.env) :: starEach [.Name (Str.ofString T) p2] X.env) (he2 : starEach [.Name (Str.ofString T) p2] X.env = (false, eval (.Name (Str.ofString T) p2) X.env) :: starEach [] X.env) (hpl : (backTo pos (starEach [.Name (Str.ofString T) p2] X.env)).any (·.1) = false) :
    DE X (.Call (.Name "isinstance" p) [e, .Name (Str.ofString T) p2] [] pos) (eIs T f) :=
  de_isi hT hg hm (pe_bltn (v := .ty T) hg2 hm2 hb (show Value.type T = Value.type T from rfl) hn hd) ha he he2 hpl
section
variable {p p2 : Pos}
theorem de_isiB_str (hm : X.mg "isinstance" = none) (hm2 : X.mg "str" = none) (hg : Gl X "isinstance") (hg2 : Gl X "str") (ha : DE X e f)
    (he : starEach [e, .Name "str" p2] X.env = (false, eval e X.env) :: starEach [.Name "str" p2] X.env := by rfl) (he2 : starEach [.Name "str" p2] X.env = (false, eval (.Name "str" p2) X.env) :: starEach [] X.env := by rfl) (hpl : (backTo pos (starEach [.Name "str" p2] X.env)).any (·.1) = false := by rfl) : DE X (.Call (.Name "isinstance" p) [e, .Name "str" p2] [] pos) (eIs "str" f) :=
  de_isiB (fun d => (kit6 d).2.1) hm hm2 hg hg2 (by decide +kernel) ha (by decide) (by decide) he he2 hpl
theorem de_isiB_int (hm : X.mg "isinstance" = none) (hm2 : X.mg "int" = none) (hg : Gl X "isinstance") (hg2 : Gl X "int") (ha : DE X e f)
    (he : starEach [e, .Name "int" p2] X.env = (false, eval e X.env) :: starEach [.Name "int" p2] X.env := by rfl) (he2 : starEach [.Name "int" p2] X.env = (false, eval (.Name "int" p2) X.env) :: starEach [] X.env := by rfl) (hpl : (backTo pos (starEach [.Name "int" p2] X.env)).any (·.1) = false := by rfl) : DE X (.Call (.Name "isinstance" p) [e, .Name "int" p2] [] pos) (eIs "int" f) :=
  de_isiB (fun d => (kit6 d).1) hm hm2 hg hg2 (by decide +kernel) ha (by decide) (by decide) he he2 hpl
theorem de_isiB_bool (hm : X.mg "isinstance" = none) (hm2 : X.mg "bool" = none) (hg : Gl X "isinstance") (hg2 : Gl X "bool") (ha : DE X e f)
    (he : starEach [e, .Name "bool" p2] X.env = (false, eval e X.env) :: starEach [.Name "bool" p2] X.env := by rfl) (he2 : starEach [.Name "bool" p2] X.env = (false, eval (.Name "bool" p2) X.env) :: starEach [] X.env := by rfl) (hpl : (backTo pos (starEach [.Name "bool" p2] X.env)).any (·.1) = false := by rfl) : DE X (.Call (.Name "isinstance" p) [e, .Name "bool" p2] [] pos) (eIs "bool" f) :=
  de_isiB (fun d => (kit6 d).2.2.1) hm hm2 hg hg2 (by decide +kernel) ha (by decide) (by decide) he he2 hpl
theorem de_isiB_list (hm : X.mg "isinstance" = none) (hm2 : X.mg "list" = none) (hg : Gl X "isinstance") (hg2 : Gl X "list") (ha : DE X e f)
    (he : starEach [e, .Name "list" p2] X.env = (false, eval e X.env) :: starEach [.Name "list" p2] X.env := by rfl) (he2 : starEach [.Name "list" p2] X.env = (false, eval (.Name "list" p2) X.env) :: starEach [] X.env := by rfl) (hpl : (backTo pos (starEach [.Name "list" p2] X.env)).any (·.1) = false := by rfl) : DE X (.Call (.Name "isinstance" p) [e, .Name "list" p2] [] pos) (eIs "list" f) :=
  de_isiB (fun d => (kit6 d).2.2.2.1) hm hm2 hg hg2 (by decide +kernel) ha (by decide) (by decide) he he2 hpl
theorem de_isiB_tuple (hm : X.mg "isinstance" = none) (hm2 : X.mg "tuple" = none) (hg : Gl X "isinstance") (hg2 : Gl X "tuple") (ha : DE X e f)
    (he : starEach [e, .Name "tuple" p2] X.env = (false, eval e X.env) :: starEach [.Name "tuple" p2] X.env := by rfl) (he2 : starEach [.Name "tuple" p2] X.env = (false, eval (.Name "tuple" p2) X.env) :: starEach [] X.env := by rfl) (hpl : (backTo pos (starEach [.Name "tuple" p2] X.env)).any (·.1) = false := by rfl) : DE X (.Call (.Name "isinstance" p) [e, .Name "tuple" p2] [] pos) (eIs "tuple" f) :=
  de_isiB (fun d => (kit6 d).2.2.2.2.1) hm hm2 hg hg2 (by decide +kernel) ha (by decide) (by decide) he he2 hpl
theorem de_isiB_dict (hm : X.mg "isinstance" = none) (hm2 : X.mg "dict" = none) (hg : Gl X "isinstance") (hg2 : Gl X "dict") (ha : DE X e f)
    (he : starEach [e, .Name "dict" p2] X.env = (false, eval e X.env) :: starEach [.Name "dict" p2] X.env := by rfl) (he2 : starEach [.Name "dict" p2] X.env = (false, eval (.Name "dict" p2) X.env) :: starEach [] X.env := by rfl) (hpl : (backTo pos (starEach [.Name "dict" p2] X.env)).any (·.1) = false := by rfl) : DE X (.Call (.Name "isinstance" p) [e, .Name "dict" p2] [] pos) (eIs "dict" f) :=
  de_isiB (fun d => (kit6 d).2.2.2.2.2) hm hm2 hg hg2 (by decide +kernel) ha (by decide) (by decide) he he2 hpl
end
end
end Pd

set_option Elab.async false
set_option linter.all false
set_option maxRecDepth 100000
set_option maxHeartbeats 4000000
/-! Lists of a def's own: frozen, read, popped, extended, made by calls. -/
namespace Pd
open PySem PySem.Spec PyProof.Rows L2
section
variable {X : Cx} {a b c e : Expr} {fa fb fc f : FE} {pos : Pos}
/-! ### frozen ahead of a statement -/
def gFrz (i : Nat) : GS := fun δ => match δ[i]? with
  | some (.own ds) => some (.nx (δ.set i (.val (.list ds))))
  | _ => none
theorem frz_run {K : PySem.W.Frag} {i : Nat} {g : GS} {Dn : Ends} {σ : L2.St} {H : Hp} (h : tG K (gSeq (gFrz i) g) Dn σ H) : tG K g Dn σ H := by
  obtain ⟨Se, S, δ, o, rfl, xe, r, hf, q⟩ := h
  obtain ⟨o1, h1, hf⟩ := Option.bind_eq_some_iff.mp hf
  unfold gFrz at h1
  split at h1
  · rename_i ds hds
    cases h1
    obtain ⟨v, e1, a, vs, rfl, h3, h4, h5, h6⟩ := r.at_ i _ hds
    let S3 : Stt := ⟨upd S.Z a (.lst vs), S.H, fun b o e => by
      by_cases hb : b = a
      · subst hb; rw [upd_same] at e; cases e; exact h3
      · rw [upd_ne hb] at e; exact S.ok _ _ e⟩
    have zz : Same S.Z S3.Z := same_upd h4 _
    have x3 : Ex Se S3 := ⟨xe.z.trans zz, xe.h, fun b g1 g2 => by
      show upd S.Z a _ b = none
      rw [upd_ne (show b ≠ a from fun e => by subst e; exact g2 h5)]
      exact xe.c b g1 g2⟩
    refine ⟨Se, S3, δ.set i (.val (.list ds)), o, rfl, x3, ⟨fun j t e => ?_, fun j k b es fs e1' e2 f1 f2 => ?_⟩, hf, q⟩
    · by_cases hj : j = i
      · subst hj
        rw [List.getElem?_set_self (List.getElem?_eq_some_iff.mp hds).1] at e
        cases e
        exact ⟨_, e1, _, rfl, .lst (.inl (.inl upd_same)) (RvL.mono zz ds h6)⟩
      · rw [List.getElem?_set_ne (Ne.symm hj)] at e
        obtain ⟨w, w1, w2⟩ := r.at_ j t e
        refine ⟨w, w1, ?_⟩
        cases t with
        | un => exact trivial
        | val d => obtain ⟨y, y1, y2⟩ := w2; exact ⟨y, y1, Rv.mono zz d y2⟩
        | own es =>
          obtain ⟨b, ws, g1, g2, g3, g4, g5⟩ := w2
          subst g1
          have hb : b ≠ a := fun eb => by subst eb; exact hj (r.dis j i b es ds e hds w1 e1)
          exact ⟨b, ws, rfl, g2, by show upd S.Z a _ b = none; rw [upd_ne hb]; exact g3, g4, RvL.mono zz es g5⟩
    · have own_of : ∀ {m : Nat} {es' : List D}, (δ.set i (.val (.list ds)))[m]? = some (.own es') → δ[m]? = some (.own es') := fun {m es'} q => by
        by_cases hm : m = i
        · subst hm
          rw [List.getElem?_set_self (List.getElem?_eq_some_iff.mp hds).1] at q
          cases q
        · rw [List.getElem?_set_ne (Ne.symm hm)] at q; exact q
      exact r.dis j k b es fs (own_of e1') (own_of e2) f1 f2
  · cases h1
theorem ds_frz (i : Nat) {st : Stmt} {g : GS} (h : DS X st g) : DS X st (gSeq (gFrz i) g) := ps_conseq h fun Dn σ H q => frz_run q
theorem db_frz (i : Nat) {sts : List Stmt} {g : GS} (h : DB X sts g) : DB X sts (gSeq (gFrz i) g) := pss_conseq h fun Dn σ H q => frz_run q
/-! ### read where the answer keeps nothing of it -/
def bor1 : Sl → Sl
  | .own ds => .val (.list ds)
  | s => s
def borrow (δ : List Sl) : List Sl := δ.map bor1
def scalK : D → Option D
  | .none => some .none
  | .bool b => some (.bool b)
  | .int i => some (.int i)
  | .str x => some (.str x)
  | _ => none
noncomputable def borZ (S : Stt) (σ : L2.St) (δ : List Sl) : Hp := fun b => open Classical in if S.Z b = none ∧ ∃ (i : Nat) (ds : List D), δ[i]? = some (.own ds) ∧ σ[i]? = some (some (.ref b)) then S.H b else S.Z b
theorem borZ_same {S : Stt} {σ : L2.St} {δ : List Sl} : Same S.Z (borZ S σ δ) := fun b o e => by
  unfold borZ
  rw [if_neg (by rintro ⟨h, _⟩; rw [e] at h; cases h)]
  exact e
theorem borZ_ok {S : Stt} {σ : L2.St} {δ : List Sl} : Same (borZ S σ δ) S.H := fun b o e => by
  unfold borZ at e
  split at e
  · exact e
  · exact S.ok _ _ e
theorem R.borrow {K : PySem.W.Frag} {E : Hp} {S : Stt} {σ : L2.St} {δ : List Sl} (r : R K E S σ δ) : R K E ⟨borZ S σ δ, S.H, borZ_ok⟩ σ (borrow δ) := by
  refine ⟨fun i s h => ?_, fun i j a ds es e1 _ _ _ => ?_⟩
  · unfold Pd.borrow at h
    rw [List.getElem?_map] at h
    obtain ⟨t, ht, rfl⟩ := Option.map_eq_some_iff.mp h
    obtain ⟨v, h1, h2⟩ := r.at_ i t ht
    refine ⟨v, h1, ?_⟩
    cases t with
    | un => exact trivial
    | val d => obtain ⟨y, y1, y2⟩ := h2; exact ⟨y, y1, Rv.mono borZ_same d y2⟩
    | own ds =>
      obtain ⟨a, vs, rfl, g2, g3, g4, g5⟩ := h2
      refine ⟨.ref a, rfl, .lst (.inl (.inl ?_)) (RvL.mono borZ_same ds g5)⟩
      show borZ S σ δ a = _
      unfold borZ
      rw [if_pos ⟨g3, i, ds, ht, h1⟩]
      exact g2
  · unfold Pd.borrow at e1
    rw [List.getElem?_map] at e1
    obtain ⟨t, ht, e⟩ := Option.map_eq_some_iff.mp e1
    cases t <;> cases e
theorem unborrow {S : Stt} {σ : L2.St} {δ : List Sl} {S' : Stt} (x : Ex ⟨borZ S σ δ, S.H, borZ_ok⟩ S') : ∃ S'' : Stt, Ex S S'' ∧ S''.H = S'.H ∧ S''.Z = S.Z :=
  ⟨⟨S.Z, S'.H, S.ok.trans x.h⟩, ⟨Same.refl _, x.h, fun _ h _ => h⟩, rfl, rfl⟩
theorem scal_rv {K : PySem.W.Frag} {H H' : Hp} {d d' : D} {v : V} (h : scalK d = some d') (r : Rv K H d v) : Rv K H' d' v := by
  cases d <;> cases h <;> cases r
  · exact .non
  · exact .bl _
  · exact .int _
  · exact .str _
def eBor (f : FE) : FE := fun δ => (f (borrow δ)).bind scalK
theorem de_bor (h : DE X e f) : DE X e (eBor f) := pe_conseq h fun σ H Q q => by
  obtain ⟨E, S, δ, d, rfl, r, hf, q⟩ := q
  obtain ⟨d1, h1, h2⟩ := Option.bind_eq_some_iff.mp hf
  refine ⟨E, ⟨borZ S σ δ, S.H, borZ_ok⟩, borrow δ, d1, rfl, r.borrow, h1, fun v S' x rv => ?_⟩
  obtain ⟨S2, x2, e2, e3⟩ := unborrow x
  rw [← e2]
  exact q v S2 x2 (scal_rv h2 rv)
theorem dt_bor {ft : FE} (h : PT X e (tDT X.K ft)) : PT X e (tDT X.K (eBor ft)) := pt_conseq h fun σ H Q q => by
  obtain ⟨E, S, δ, k, rfl, r, hf, q⟩ := q
  obtain ⟨d1, h1, h2⟩ := Option.bind_eq_some_iff.mp hf
  have e : d1 = .bool k := by cases d1 <;> cases h2; rfl
  subst e
  refine ⟨E, ⟨borZ S σ δ, S.H, borZ_ok⟩, borrow δ, k, rfl, r.borrow, h1, fun S' x => ?_⟩
  obtain ⟨S2, x2, e2, e3⟩ := unborrow x
  rw [← e2]
  exact q S2 x2
/-! ### x.pop() as a statement; x.extend(e) -/
def gPop (i : Nat) : GS := fun δ => match δ[i]? with
  | some (.own ds) => if ds = [] then none else some (.nx (δ.set i (.own ds.dropLast)))
  | _ => none
theorem RvL.dropLast {K : PySem.W.Frag} {H : Hp} {ds : List D} {vs : List V} (h : RvL K H ds vs) : RvL K H ds.dropLast vs.dropLast := by
  rw [List.dropLast_eq_take, List.dropLast_eq_take, h.length]
  exact h.take _
theorem ds_pop {i : Nat} {x : Str} {npos apos cpos epos : Pos} (hN : X.N[i]? = some x) (hv : Vis X.env.scope x)
    (hbase : attributeBase (.Name x npos) "pop" X.env (eval (.Name x npos) X.env) = eval (.Name x npos) X.env := by rfl) (hline : (apos.endLine == cpos.line) = true := by rfl)
    (hd : (x == ("__debug__" : Str)) = false := by decide) (hcd : (x == ("__classdict__" : Str)) = false := by decide) : DS X (.Expr (.Call (.Attribute (.Name x npos) "pop" apos) [] [] cpos) epos) (gPop i) :=
  ps_conseq (ps_expr (pe_bm0 PySem.F.plainAttrs_list PySem.F.slot_list_pop PySem.F.type_list_pop mt_pop (pe_var hN hv hd hcd) hbase hline)) fun Dn σ H h => by
    obtain ⟨Se, S, δ, o, rfl, xe, r, hf, q⟩ := h
    unfold gPop at hf
    split at hf
    · rename_i ds hds
      split at hf
      · cases hf
      · rename_i hne
        cases hf
        obtain ⟨v, h1, a, vs, rfl, h3, h4, h5, h6⟩ := r.at_ i _ hds
        have hl := h6.length
        have hp : 0 < ds.length := List.length_pos_iff.mpr hne
        obtain ⟨y, hy, _⟩ := h6.get (List.getElem?_eq_getElem (show ds.length - 1 < ds.length by omega))
        refine ⟨.ref a, h1, .inl ⟨rfl, vs, .inl (.inl h3)⟩, a, vs, y, rfl, rfl, h3, by rw [hl]; exact hy, ?_⟩
        obtain ⟨x3, r3⟩ := own_write (vs := vs) (vs' := vs.dropLast) xe r hds h1 h4 h5 h6.dropLast
        exact q σ _ x3 r3
    · cases hf
def gExt (i : Nat) (f : FE) : GS := fun δ => (f δ).bind fun d => match δ[i]?, d with
  | some (.own ds), .list es => if ds.length + es.length ≤ lim then some (.nx (δ.set i (.own (ds ++ es)))) else none
  | _, _ => none
def rExtS (K : PySem.W.Frag) : V → List V → Hp → VK → Prop := fun x vs H Q => ∃ l b xs zs, x = .ref l ∧ vs = [.ref b] ∧ H l = some (.lst xs) ∧ SqL K H b zs ∧ xs.length + zs.length ≤ sizeLine ∧ Q .non (upd H l (.lst (xs ++ zs)))
theorem mt_extS : MtM X "list.extend" (rExtS X.K) := by
  intro pins s σ H x vs v us Q I rx rv h
  obtain ⟨l, b, xs, zs, rfl, rfl, hH, hB, hz, q⟩ := h
  cases rx
  obtain ⟨u, rfl, ru⟩ := rv.one
  cases ru
  obtain ⟨z, its, n, r, hl, e⟩ := I.lstM hH
  obtain ⟨its2, ⟨cls2, dd2, data2, sl2⟩, n2, r2, e2, hc2, hdn2, hd2, hl2⟩ := I_list I hB
  simp only at hc2 hdn2 hd2
  subst hc2 hdn2 hd2
  have z1 := r.length
  have z2 := r2.length
  have hsz : its.toArray.size + its2.toArray.size ≤ sizeLine := by rw [List.size_toArray, List.size_toArray]; omega
  have hlong : ¬ (!its.toArray.isEmpty && Builtin.List.listTooLong (its.toArray.size + its2.toArray.size)) = true := by
    rw [notLongL hsz, Bool.and_false]
    exact Bool.false_ne_true
  refine call_meets F.slot_list_extend ⟨_, e, rfl⟩ F.entry_list_extend (F.args_list_extend_2 _ _)
    (list_extendW l its.toArray n b its2.toArray n2 none sl2 hlong (by rw [List.size_toArray]; omega) (by omega)) ⟨e, e2, ?_⟩
  refine ⟨.non, _, I.lset (its' := its ++ its2) hH e (by simp) (r.append r2) ?_, rfl, q⟩
  rw [List.length_append]
  omega
theorem ds_extend {i : Nat} {x : Str} {npos apos cpos epos : Pos} (hN : X.N[i]? = some x) (hv : Vis X.env.scope x) (h : DE X e f)
    (hbase : attributeBase (.Name x npos) "extend" X.env (eval (.Name x npos) X.env) = eval (.Name x npos) X.env := by rfl)
    (hfew : ((backTo cpos (starEach [e] X.env)).all (fun x => !x.1) && (backToKw cpos (keywordEach [] X.env)).all (fun x => x.1.isSome) && decide ([e].length + ([] : List Keyword).length + (if ([] : List Keyword).isEmpty then 0 else 1) < 30)) = true := by rfl)
    (hline : (apos.endLine == cpos.line) = true := by rfl) (hs : starEach [e] X.env = (false, eval e X.env) :: starEach [] X.env := by rfl) (hplain : (backTo cpos (starEach [] X.env)).any (·.1) = false := by rfl)
    (hd : (x == ("__debug__" : Str)) = false := by decide) (hcd : (x == ("__classdict__" : Str)) = false := by decide) : DS X (.Expr (.Call (.Attribute (.Name x npos) "extend" apos) [e] [] cpos) epos) (gExt i f) :=
  ps_conseq (ps_expr (pe_bm PySem.F.plainAttrs_list PySem.F.slot_list_extend PySem.F.type_list_extend mt_extS (pe_var hN hv hd hcd) (pa_cons h pa_nil hs) hbase hfew hline hs hplain)) fun Dn σ H h => by
    obtain ⟨Se, S, δ, o, rfl, xe, r, hf, q⟩ := h
    obtain ⟨d, hx, hf⟩ := Option.bind_eq_some_iff.mp hf
    split at hf
    · rename_i ds es hds
      split at hf
      · rename_i hz
        cases hf
        obtain ⟨v, h1, a, vs, rfl, h3, h4, h5, h6⟩ := r.at_ i _ hds
        refine ⟨.ref a, h1, .inl ⟨rfl, vs, .inl (.inl h3)⟩, Se.H, S, δ, .list es, rfl, r, hx, fun w S1 x1 r1 => ?_⟩
        have h3' : S1.H a = some (.lst vs) := x1.h _ _ h3
        have h4' : S1.Z a = none := x1.c a h4 (by rw [h3]; simp)
        cases r1 with
        | lst s1 b1 =>
          rename_i ws
          refine ⟨a, _, vs, ws, rfl, rfl, h3', S1.ok.seq s1, by rw [h6.length, b1.length]; exact Nat.le_trans hz lim_line, ?_⟩
          obtain ⟨x3, r3⟩ := own_write (vs := vs) (vs' := vs ++ ws) (xe.trans x1) (r.mono x1) hds h1 h4' h5 ((RvL.mono x1.z ds h6).append b1)
          exact q σ _ x3 r3
      · cases hf
    · cases hf
/-! ### a list of the def's own out of a call -/
/-- what gives a new list (of the caller's own), its items frozen -/
def tDO2 (K : PySem.W.Frag) (f : List Sl → Option (List D)) : TE := fun σ H Q => ∃ (E : Hp) (S : Stt) (δ : List Sl) (ys : List D), S.H = H ∧ R K E S σ δ ∧ f δ = some ys ∧ ∀ p ws S', Ex S S' → S.H p = none → S'.Z p = none → S'.H p = some (.lst ws) → RvL K S'.Z ys ws → Q (.ref p) S'.H
def gNew (i : Nat) (f : List Sl → Option (List D)) : GS := fun δ => (f δ).map fun ys => .nx (δ.set i (.own ys))
theorem new_run {K : PySem.W.Frag} {i : Nat} {f : List Sl → Option (List D)} {Dn : Ends} {σ : L2.St} {H : Hp} (h : tG K (gNew i f) Dn σ H) : tAsg (tDO2 K f) (gName i) Dn σ H := by
  obtain ⟨Se, S, δ, o, rfl, xe, r, hf, q⟩ := h
  obtain ⟨ys, hx, rfl⟩ := Option.map_eq_some_iff.mp hf
  refine ⟨Se.H, S, δ, ys, rfl, r, hx, fun p ws S1 x1 h0 h1 h2 h3 => ?_⟩
  refine q _ S1 (xe.trans x1) ((r.mono x1).set ⟨p, ws, rfl, h2, h1, xe.h.free h0, h3⟩ ?_)
  intro es' j a' fs e1 e2 e3 e4
  cases e2
  obtain ⟨w, hw, a2, vs2, f1, f2, _⟩ := r.at_ j _ e3
  rw [e4] at hw
  cases hw
  cases f1
  rw [h0] at f2
  cases f2
theorem ds_new {i : Nat} {x : Str} {pos' : Pos} {g : List Sl → Option (List D)} (hN : X.N.Nodup) (hi : X.N[i]? = some x) (hx : Loc X.env.scope x) (h : PE X e (tDO2 X.K g))
    (hf : X.fn x = true ∨ X.env.scope.names.lookup x = some .local := by first | exact .inl rfl | exact .inr rfl | assumption) (hs : swapsWith e (some (.Name x pos')) pos.line X.env = pure false := by rfl) : DS X (.Assign [.Name x pos'] e pos) (gNew i g) :=
  ps_conseq (ps_set (i := i) hN hi hx h hs hf) fun Dn σ H h => new_run h
/-- list(e) -/
def nList (f : FE) : List Sl → Option (List D) := fun δ => (f δ).bind fun d => match d with
  | .list ds => some ds
  | .tuple ds => some ds
  | _ => none
theorem do_list {p : Pos} (hg : Gl X "list") (hm : X.mg "list" = none) (ha : DE X e f) (he : starEach [e] X.env = (false, eval e X.env) :: starEach [] X.env := by rfl) (hpl : (backTo pos (starEach [] X.env)).any (·.1) = false := by rfl) : PE X (.Call (.Name "list" p) [e] [] pos) (tDO2 X.K (nList f)) :=
  pe_conseq (pe_callTy call_list_of hg hm (by decide +kernel) (pa_cons ha pa_nil he) (he := he) (hpl := hpl)) fun σ H Q h => by
    obtain ⟨E, S, δ, ys, rfl, r, hf, q⟩ := h
    obtain ⟨d, hx, hf⟩ := Option.bind_eq_some_iff.mp hf
    refine ⟨E, S, δ, d, rfl, r, hx, fun v S1 x1 r1 => ?_⟩
    cases d with
    | list ds =>
      cases hf
      cases r1 with
      | lst a1 b1 =>
        refine ⟨_, _, rfl, .inl (S1.ok.seq a1), fun l hl => ?_⟩
        have zl : S1.Z l = none := S1.ok.free hl
        exact q l _ (S1.put l (.lst _) zl) (x1.trans ⟨Same.refl _, same_upd hl _, fun _ h _ => h⟩) (x1.h.free hl) zl upd_same b1
    | tuple ds =>
      cases hf
      cases r1 with
      | tup a1 b1 =>
        refine ⟨_, _, rfl, .inr (sqt_mono S1.ok a1), fun l hl => ?_⟩
        have zl : S1.Z l = none := S1.ok.free hl
        exact q l _ (S1.put l (.lst _) zl) (x1.trans ⟨Same.refl _, same_upd hl _, fun _ h _ => h⟩) (x1.h.free hl) zl upd_same b1
    | _ => cases hf
/-- a def that gives a new list of plain items -/
def spFr (K : PySem.W.Frag) (F : List D → Option (List D)) : Sp := fun vs H Q _ => ∃ (S : Stt) (ds ys : List D), S.H = H ∧ RvL K S.Z ds vs ∧ F ds = some ys ∧ ∀ p ws S', Ex S S' → S.H p = none → S'.Z p = none → S'.H p = some (.lst ws) → RvL K S'.Z ys ws → Q (.ref p) S'.H
def allInts : List D → Bool
  | [] => true
  | .int _ :: r => allInts r
  | _ => false
theorem ints_rv {K : PySem.W.Frag} {H H' : Hp} : ∀ {ds : List D} {vs : List V}, allInts ds = true → RvL K H ds vs → RvL K H' ds vs
  | [], _, _, h => by cases h; exact .nil
  | d :: r, _, hd, h => by
    cases h with
    | cons a b =>
      cases d with
      | int i => cases a; exact .cons (.int i) (ints_rv hd b)
      | _ => cases hd
def nCall (F : List D → Option (List D)) (g : FA) : List Sl → Option (List D) := fun δ => (g (borrow δ)).bind fun ds => (F ds).bind fun ys => if allInts ys then some ys else none
theorem do_call {x : Str} {fa : Addr} {fd : FuncData} {ps : List Str} {k j : Nat} {es : List Expr} {p : Pos} {F : List D → Option (List D)} {g : FA} (G : FnOk X.prog X.w X.K X.mg X.base CX0 k fa fd ps (spFr X.K F)) (hr : Room j X.A) (hkj : k ≤ j) (hg : Gl X x) (hm : X.mg x = some (.ref fa)) (hk : PySem.W.keepIn X.K (.ref fa) = true) (hb : Binds X.K fd ps [])
    (ha : DA X (e :: es) g) (hdb : (x == ("__debug__" : Str)) = false := by decide) (he : starEach (e :: es) X.env = (false, eval e X.env) :: starEach es X.env := by rfl) (hpl : (backTo pos (starEach es X.env)).any (·.1) = false := by rfl) : PE X (.Call (.Name x p) (e :: es) [] pos) (tDO2 X.K (nCall F g)) :=
  pe_conseq (pe_call G (hr.mono hkj) hg hm hk hb .nil pass0 ha hdb he hpl) fun σ H Q h => by
    obtain ⟨E, S, δ, ys, rfl, r, hf, q⟩ := h
    obtain ⟨ds, hx, hf⟩ := Option.bind_eq_some_iff.mp hf
    obtain ⟨ys', hy, hf⟩ := Option.bind_eq_some_iff.mp hf
    split at hf
    · rename_i hi
      cases hf
      refine ⟨E, ⟨borZ S σ δ, S.H, borZ_ok⟩, borrow δ, ds, rfl, r.borrow, hx, fun vs S1 x1 r1 => ⟨S1, ds, ys, rfl, by rw [List.append_nil]; exact r1, hy, fun p ws S2 x2 h0 h1 h2 h3 => ?_⟩⟩
      obtain ⟨S3, x3, e3, e4⟩ := unborrow (x1.trans x2)
      have hp : S.H p = none := x1.h.free h0
      have := q p ws S3 x3 hp (by rw [e4]; exact S.ok.free hp) (by rw [e3]; exact h2) (ints_rv hi h3)
      rw [e3] at this
      exact this
    · cases hf
/-! ### list(range(..)) -/
def eLr1 (f : FE) : FE := fun δ => (f δ).bind fun d => match d with
  | .int n => if 0 ≤ n ∧ n ≤ 16777216 then some (.list (rangeD 0 n.toNat)) else none
  | _ => none
def eLr2 (f g : FE) : FE := fun δ => (f δ).bind fun d => (g δ).bind fun d' => match d, d' with
  | .int i, .int n => if 0 ≤ i ∧ i ≤ 16777216 ∧ 0 ≤ n ∧ n ≤ 16777216 then some (.list (rangeD i (n - i).toNat)) else none
  | _, _ => none
theorem rv_range {K : PySem.W.Frag} {H : Hp} (lo : Int) (n : Nat) : RvL K H (rangeD lo n) ((List.range n).map fun i => V.int (lo + (i : Nat))) := by
  unfold rangeD
  induction List.range n with
  | nil => exact .nil
  | cons a r ih => exact .cons (.int _) ih
theorem de_lr1 {p p2 pos2 : Pos} (hc : X.calm = true) (hg : Gl X "list") (hm : X.mg "list" = none) (hg2 : Gl X "range") (hm2 : X.mg "range" = none) (ha : DE X e f)
    (na : starEach [e] X.env = (false, eval e X.env) :: starEach [] X.env := by rfl) (na2 : starEach [.Call (.Name "range" p2) [e] [] pos2] X.env = (false, eval (.Call (.Name "range" p2) [e] [] pos2) X.env) :: starEach [] X.env := by rfl) : DE X (.Call (.Name "list" p) [.Call (.Name "range" p2) [e] [] pos2] [] pos) (eLr1 f) :=
  pe_conseq (pe_listRg hc hg hm (prg_1 hg2 hm2 ha na) na2) fun σ H Q h => by
    obtain ⟨E, S, δ, d, rfl, r, hf, q⟩ := h
    obtain ⟨x, hx, hf⟩ := Option.bind_eq_some_iff.mp hf
    refine ⟨E, S, δ, x, rfl, r, hx, fun v S1 x1 r1 => ?_⟩
    cases x with
    | int n =>
      cases r1
      have hf : (if 0 ≤ n ∧ n ≤ 16777216 then some (PyData.list (rangeD 0 n.toNat)) else none) = some d := hf
      split at hf
      · rename_i hz
        cases hf
        refine ⟨n, rfl, .of_le (by omega) (by omega) (by omega) (by omega), fun l hl => ?_⟩
        refine q _ (S1.lay l (.lst _)) (x1.trans (S1.lay_ex hl)) (lay_lst hl ?_)
        have := rv_range (K := X.K) (H := S1.Z) 0 n.toNat
        unfold rgV
        rw [show (n - 0).toNat = n.toNat by omega]
        exact this
      · cases hf
    | _ => cases hf
theorem de_lr2 {p p2 pos2 : Pos} (hc : X.calm = true) (hg : Gl X "list") (hm : X.mg "list" = none) (hg2 : Gl X "range") (hm2 : X.mg "range" = none) (ha : DE X a fa) (hb : DE X b fb)
    (na : starEach [a, b] X.env = (false, eval a X.env) :: starEach [b] X.env := by rfl) (nb : starEach [b] X.env = (false, eval b X.env) :: starEach [] X.env := by rfl) (hp : (backTo pos2 (starEach [b] X.env)).any (·.1) = false := by rfl) (na2 : starEach [.Call (.Name "range" p2) [a, b] [] pos2] X.env = (false, eval (.Call (.Name "range" p2) [a, b] [] pos2) X.env) :: starEach [] X.env := by rfl) : DE X (.Call (.Name "list" p) [.Call (.Name "range" p2) [a, b] [] pos2] [] pos) (eLr2 fa fb) :=
  pe_conseq (pe_listRg hc hg hm (prg_2 hg2 hm2 ha hb na nb hp) na2) fun σ H Q h => by
    obtain ⟨E, S, δ, d, rfl, r, hf, q⟩ := h
    obtain ⟨x, hx, hf⟩ := Option.bind_eq_some_iff.mp hf
    obtain ⟨y, hy, hf⟩ := Option.bind_eq_some_iff.mp hf
    refine ⟨E, S, δ, x, rfl, r, hx, fun v S1 x1 r1 => ⟨E, S1, δ, y, rfl, r.mono x1, hy, fun u S2 x2 r2 => ?_⟩⟩
    cases x with
    | int i =>
      cases y with
      | int n =>
        cases r1
        cases r2
        have hf : (if 0 ≤ i ∧ i ≤ 16777216 ∧ 0 ≤ n ∧ n ≤ 16777216 then some (PyData.list (rangeD i (n - i).toNat)) else none) = some d := hf
        split at hf
        · rename_i hz
          cases hf
          refine ⟨i, n, rfl, rfl, .of_le (by omega) (by omega) (by omega) (by omega), fun l hl => ?_⟩
          exact q _ (S2.lay l (.lst _)) ((x1.trans x2).trans (S2.lay_ex hl)) (lay_lst hl (rv_range i (n - i).toNat))
        · cases hf
      | _ => cases hf
    | _ => cases hf
/-- a comprehension that gives a new list of the caller's own -/
def nLc (fi : FI) (i : Nat) (ft fe : FE) : List Sl → Option (List D) := fun δ => (fi δ).bind fun ds => (lcD i (δ.set i .un) ft fe ds).bind fun ys => if ys.length ≤ lim then some ys else none
theorem do_lc {elt tg iter : Expr} {ifs : List Expr} {scope : Scope} {x : Str} {i : Nat} {fi : FI} {ft fe : FE} (hc : X.calm = true) (hN : X.N.Nodup) (hi : WI X tg iter fi) (ok : BlkOk X.N X.env.scope scope [(x, i)])
    (hg : ∀ (s : Shared) (H : Hp) (C : Addr) (cl : List (Str × Addr)) (fp : List Addr), PG (X.blk s H scope (compEnvC scope cl C X.env) fp) tg (gName i)) (ht : ∀ (s : Shared) (H : Hp) (C : Addr) (cl : List (Str × Addr)) (fp : List Addr), PTs (X.blk s H scope (compEnvC scope cl C X.env) fp) ifs (tDT X.K ft))
    (he : ∀ (s : Shared) (H : Hp) (C : Addr) (cl : List (Str × Addr)) (fp : List Addr), PE (X.blk s H scope (compEnvC scope cl C X.env) fp) elt (tD X.K fe)) (hs : ∀ x, foldedSetIterable iter X.env x = pure x := by intro _; rfl) :
    PE X (.ListComp elt [⟨tg, iter, ifs, 0⟩] scope pos) (tDO2 X.K (nLc fi i ft fe)) :=
  pe_conseq (pe_lc (own := [(x, i)]) hc hN hi ok hg ht he hs) fun σ H Q h => by
    obtain ⟨E, S, δ, ys, rfl, r, hf, q⟩ := h
    obtain ⟨ds, hx, hf⟩ := Option.bind_eq_some_iff.mp hf
    obtain ⟨ys', hy, hf⟩ := Option.bind_eq_some_iff.mp hf
    split at hf
    · rename_i hz
      cases hf
      exact lc_runO r hx hy hz q
    · cases hf
end
def Fxr (P : Program) (w : World) (K : PySem.W.Frag) (mg : Str → Option Value) (base : Heap) (x : Str) (ps : List Str) (lv : Nat) (F : List D → Option (List D)) : Prop :=
  ∃ (fa : Addr) (fd : FuncData), FnOk P w K mg base CX0 lv fa fd ps (spFr K F) ∧ mg x = some (.ref fa) ∧ PySem.W.keepIn K (.ref fa) = true ∧ Binds K fd ps []
def runR (n np : Nat) (f : List Sl → Option (List D)) : List D → Option (List D) := fun ds => if ds.length = np then f (startD n ds) else none
theorem fxr_of {P : Program} {w : World} {K : PySem.W.Frag} {mg : Str → Option Value} {base : Heap} {x : Str} {st : Stmt} {N ps : List Str} {k n np : Nat} {f : List Sl → Option (List D)} (d : Df K mg x st ps) (Sc : FnScope N ps (defScope st)) (hn : N.length = n) (hp : ps.length = np)
    (hbody : ∀ (fa : Addr) (cdv : Value) (A : Around) (outer : List Env) (s : Shared) (H : Hp) (E : XK), Room k (A.deeper (envOfC x (defScope st) s.heap.objs.size fa cdv)) → PSs (cxOf CX0 P w K mg base N x (defScope st) fa cdv A outer s H E).nox (defBody st) (tRet (tDO2 K f))) :
    Fxr P w K mg base x ps (k + 1) (runR n np f) := by
  subst hn hp
  obtain ⟨fa, fd, F, hm, hb⟩ := d
  refine ⟨fa, fd, F.ok Sc (fun vs H Q E h => ?_) (fun cdv A outer s H vs Q E hr h => ?_), hm, F.kp, hb⟩
  · obtain ⟨S, ds, ys, rfl, rl, hf, q⟩ := h
    unfold runR at hf
    split at hf
    · rename_i hz
      rw [rl.length, hz]
    · cases hf
  · refine ⟨_, hbody fa cdv A outer s H E hr, ?_⟩
    obtain ⟨S, ds, ys, rfl, rl, hf, q⟩ := h
    unfold runR at hf
    split at hf
    · exact ⟨S.H, S, _, ys, rfl, start_rv rl, hf, q⟩
    · cases hf
section
variable {X : Cx} {e : Expr} {pos : Pos}
theorem do_callx {x : Str} {ps : List Str} {k j : Nat} {es : List Expr} {p : Pos} {F : List D → Option (List D)} {g : FA} (c : Fxr X.prog X.w X.K X.mg X.base x ps k F) (hr : Room j X.A) (hk : k ≤ j) (hg : Gl X x)
    (ha : DA X (e :: es) g) (hdb : (x == ("__debug__" : Str)) = false := by decide) (he : starEach (e :: es) X.env = (false, eval e X.env) :: starEach es X.env := by rfl) (hpl : (backTo pos (starEach es X.env)).any (·.1) = false := by rfl) : PE X (.Call (.Name x p) (e :: es) [] pos) (tDO2 X.K (nCall F g)) :=
  let ⟨_, _, G, hm, kp, hb⟩ := c
  do_call G hr hk hg hm kp hb ha hdb he hpl
end
end Pd

set_option Elab.async false
set_option linter.all false
set_option maxRecDepth 100000
set_option maxHeartbeats 4000000
/-! Equations by which simp runs a semantic function, a step at a time (what comes behind stays a name). -/
namespace Pd
open PySem PySem.Spec L2
@[simp] theorem lim_eq : lim = 16777216 := by decide
def slK : Option Sl → Option D
  | some (.val d) => some d
  | _ => none
@[simp] theorem slK_val (d : D) : slK (some (.val d)) = some d := rfl
@[simp] theorem eVar_eq (i : Nat) (δ : List Sl) : eVar i δ = slK δ[i]? := by unfold eVar slK; rfl
@[simp] theorem eC_eq (d : D) (δ : List Sl) : eC d δ = some d := rfl
@[simp] theorem e1_eq (g : D → Option D) (fa : FE) (δ : List Sl) : e1 g fa δ = (fa δ).bind g := rfl
def e2k (g : D → D → Option D) (fb : FE) (δ : List Sl) : D → Option D := fun x => (fb δ).bind (g x)
@[simp] theorem e2_eq (g : D → D → Option D) (fa fb : FE) (δ : List Sl) : e2 g fa fb δ = (fa δ).bind (e2k g fb δ) := rfl
@[simp] theorem e2k_eq (g : D → D → Option D) (fb : FE) (δ : List Sl) (x : D) : e2k g fb δ x = (fb δ).bind (g x) := rfl
def chK (g g' : D → D → Option D) (fb fc : FE) (δ : List Sl) (x : D) : Option D := (fb δ).bind fun y => (g x y).bind fun z => match z with
  | .bool true => (fc δ).bind (g' y)
  | .bool false => some (.bool false)
  | _ => none
def chK2 (g g' : D → D → Option D) (fc : FE) (δ : List Sl) (x y : D) : Option D := (g x y).bind fun z => match z with
  | .bool true => (fc δ).bind (g' y)
  | .bool false => some (.bool false)
  | _ => none
def chK3 (g' : D → D → Option D) (fc : FE) (δ : List Sl) (y : D) : D → Option D
  | .bool true => (fc δ).bind (g' y)
  | .bool false => some (.bool false)
  | _ => none
@[simp] theorem eChain_eq (g g' : D → D → Option D) (fa fb fc : FE) (δ : List Sl) : eChain g g' fa fb fc δ = (fa δ).bind (chK g g' fb fc δ) := by unfold eChain chK; rfl
@[simp] theorem chK_eq (g g' : D → D → Option D) (fb fc : FE) (δ : List Sl) (x : D) : chK g g' fb fc δ x = (fb δ).bind (chK2 g g' fc δ x) := by unfold chK chK2; rfl
@[simp] theorem chK2_eq (g g' : D → D → Option D) (fc : FE) (δ : List Sl) (x y : D) : chK2 g g' fc δ x y = (g x y).bind (chK3 g' fc δ y) := by unfold chK2 chK3; rfl
@[simp] theorem chK3_eq (g' : D → D → Option D) (fc : FE) (δ : List Sl) (y : D) (b : Bool) : chK3 g' fc δ y (.bool b) = if b then (fc δ).bind (g' y) else some (.bool false) := by cases b <;> rfl
def andK (fb : FE) (δ : List Sl) : D → Option D
  | .bool true => fb δ
  | .bool false => some (.bool false)
  | _ => none
def orK (fb : FE) (δ : List Sl) : D → Option D
  | .bool true => some (.bool true)
  | .bool false => fb δ
  | _ => none
def notK : D → Option D
  | .bool k => some (.bool (!k))
  | _ => none
def ifEK (fa fb : FE) (δ : List Sl) : D → Option D
  | .bool true => fa δ
  | .bool false => fb δ
  | _ => none
@[simp] theorem eAnd_eq (fa fb : FE) (δ : List Sl) : eAnd fa fb δ = (fa δ).bind (andK fb δ) := by unfold eAnd andK; rfl
@[simp] theorem eOr_eq (fa fb : FE) (δ : List Sl) : eOr fa fb δ = (fa δ).bind (orK fb δ) := by unfold eOr orK; rfl
@[simp] theorem eNot_eq (fa : FE) (δ : List Sl) : eNot fa δ = (fa δ).bind notK := by unfold eNot notK; rfl
@[simp] theorem eIf_eq (ft fa fb : FE) (δ : List Sl) : eIf ft fa fb δ = (ft δ).bind (ifEK fa fb δ) := by unfold eIf ifEK; rfl
@[simp] theorem andK_eq (fb : FE) (δ : List Sl) (b : Bool) : andK fb δ (.bool b) = if b then fb δ else some (.bool false) := by cases b <;> rfl
@[simp] theorem orK_eq (fb : FE) (δ : List Sl) (b : Bool) : orK fb δ (.bool b) = if b then some (.bool true) else fb δ := by cases b <;> rfl
@[simp] theorem notK_eq (b : Bool) : notK (.bool b) = some (.bool (!b)) := rfl
@[simp] theorem ifEK_eq (fa fb : FE) (δ : List Sl) (b : Bool) : ifEK fa fb δ (.bool b) = if b then fa δ else fb δ := by cases b <;> rfl
@[simp] theorem aNil_eq (δ : List Sl) : aNil δ = some [] := rfl
def consK (d : D) : List D → Option (List D) := fun ds => some (d :: ds)
@[simp] theorem consK_eq (d : D) (ds : List D) : consK d ds = some (d :: ds) := rfl
def aK (g : FA) (δ : List Sl) : D → Option (List D) := fun d => (g δ).bind (consK d)
@[simp] theorem aCons_eq (f : FE) (g : FA) (δ : List Sl) : aCons f g δ = (f δ).bind (aK g δ) := by
  unfold aCons aK consK
  rfl
@[simp] theorem aK_eq (g : FA) (δ : List Sl) (d : D) : aK g δ d = (g δ).bind (consK d) := rfl
@[simp] theorem bind_ite {α β : Type} {c : Prop} [Decidable c] (a b : Option α) (k : α → Option β) : (if c then a else b).bind k = if c then a.bind k else b.bind k := by split <;> rfl
def tupK (ds : List D) : Option D := if ds.length ≤ lim then some (.tuple ds) else none
def lstK (ds : List D) : Option D := if ds.length ≤ lim then some (.list ds) else none
@[simp] theorem eTup_eq (g : FA) (δ : List Sl) : eTup g δ = (g δ).bind tupK := rfl
@[simp] theorem eLst_eq (g : FA) (δ : List Sl) : eLst g δ = (g δ).bind lstK := rfl
@[simp] theorem tupK_eq (ds : List D) (h : ds.length ≤ lim) : tupK ds = some (.tuple ds) := if_pos h
@[simp] theorem lstK_eq (ds : List D) (h : ds.length ≤ lim) : lstK ds = some (.list ds) := if_pos h
@[simp] theorem tupK_nil : tupK [] = some (.tuple []) := rfl
@[simp] theorem tupK_1 (a : D) : tupK [a] = some (.tuple [a]) := rfl
@[simp] theorem tupK_2 (a b : D) : tupK [a, b] = some (.tuple [a, b]) := rfl
@[simp] theorem tupK_3 (a b c : D) : tupK [a, b, c] = some (.tuple [a, b, c]) := rfl
@[simp] theorem tupK_4 (a b c d : D) : tupK [a, b, c, d] = some (.tuple [a, b, c, d]) := rfl
@[simp] theorem tupK_6 (a b c d e f : D) : tupK [a, b, c, d, e, f] = some (.tuple [a, b, c, d, e, f]) := rfl
@[simp] theorem lstK_nil : lstK [] = some (.list []) := rfl
@[simp] theorem lstK_1 (a : D) : lstK [a] = some (.list [a]) := rfl
@[simp] theorem lstK_2 (a b : D) : lstK [a, b] = some (.list [a, b]) := rfl
@[simp] theorem lstK_3 (a b c : D) : lstK [a, b, c] = some (.list [a, b, c]) := rfl
@[simp] theorem lstK_4 (a b c d : D) : lstK [a, b, c, d] = some (.list [a, b, c, d]) := rfl
@[simp] theorem lstK_5 (x0 x1 x2 x3 x4 : D) : lstK [x0, x1, x2, x3, x4] = some (.list [x0, x1, x2, x3, x4]) := rfl
@[simp] theorem tupK_5 (x0 x1 x2 x3 x4 : D) : tupK [x0, x1, x2, x3, x4] = some (.tuple [x0, x1, x2, x3, x4]) := rfl
@[simp] theorem lstK_6 (x0 x1 x2 x3 x4 x5 : D) : lstK [x0, x1, x2, x3, x4, x5] = some (.list [x0, x1, x2, x3, x4, x5]) := rfl
@[simp] theorem lstK_7 (x0 x1 x2 x3 x4 x5 x6 : D) : lstK [x0, x1, x2, x3, x4, x5, x6] = some (.list [x0, x1, x2, x3, x4, x5, x6]) := rfl
@[simp] theorem tupK_7 (x0 x1 x2 x3 x4 x5 x6 : D) : tupK [x0, x1, x2, x3, x4, x5, x6] = some (.tuple [x0, x1, x2, x3, x4, x5, x6]) := rfl
@[simp] theorem lstK_8 (x0 x1 x2 x3 x4 x5 x6 x7 : D) : lstK [x0, x1, x2, x3, x4, x5, x6, x7] = some (.list [x0, x1, x2, x3, x4, x5, x6, x7]) := rfl
@[simp] theorem tupK_8 (x0 x1 x2 x3 x4 x5 x6 x7 : D) : tupK [x0, x1, x2, x3, x4, x5, x6, x7] = some (.tuple [x0, x1, x2, x3, x4, x5, x6, x7]) := rfl
@[simp] theorem lstK_9 (x0 x1 x2 x3 x4 x5 x6 x7 x8 : D) : lstK [x0, x1, x2, x3, x4, x5, x6, x7, x8] = some (.list [x0, x1, x2, x3, x4, x5, x6, x7, x8]) := rfl
@[simp] theorem lstK_10 (x0 x1 x2 x3 x4 x5 x6 x7 x8 x9 : D) : lstK [x0, x1, x2, x3, x4, x5, x6, x7, x8, x9] = some (.list [x0, x1, x2, x3, x4, x5, x6, x7, x8, x9]) := rfl
@[simp] theorem lstK_11 (x0 x1 x2 x3 x4 x5 x6 x7 x8 x9 x10 : D) : lstK [x0, x1, x2, x3, x4, x5, x6, x7, x8, x9, x10] = some (.list [x0, x1, x2, x3, x4, x5, x6, x7, x8, x9, x10]) := rfl
@[simp] theorem lstK_12 (x0 x1 x2 x3 x4 x5 x6 x7 x8 x9 x10 x11 : D) : lstK [x0, x1, x2, x3, x4, x5, x6, x7, x8, x9, x10, x11] = some (.list [x0, x1, x2, x3, x4, x5, x6, x7, x8, x9, x10, x11]) := rfl
@[simp] theorem lstK_13 (x0 x1 x2 x3 x4 x5 x6 x7 x8 x9 x10 x11 x12 : D) : lstK [x0, x1, x2, x3, x4, x5, x6, x7, x8, x9, x10, x11, x12] = some (.list [x0, x1, x2, x3, x4, x5, x6, x7, x8, x9, x10, x11, x12]) := rfl
@[simp] theorem lstK_14 (x0 x1 x2 x3 x4 x5 x6 x7 x8 x9 x10 x11 x12 x13 : D) : lstK [x0, x1, x2, x3, x4, x5, x6, x7, x8, x9, x10, x11, x12, x13] = some (.list [x0, x1, x2, x3, x4, x5, x6, x7, x8, x9, x10, x11, x12, x13]) := rfl
@[simp] theorem lstK_15 (x0 x1 x2 x3 x4 x5 x6 x7 x8 x9 x10 x11 x12 x13 x14 : D) : lstK [x0, x1, x2, x3, x4, x5, x6, x7, x8, x9, x10, x11, x12, x13, x14] = some (.list [x0, x1, x2, x3, x4, x5, x6, x7, x8, x9, x10, x11, x12, x13, x14]) := rfl
@[simp] theorem lstK_16 (x0 x1 x2 x3 x4 x5 x6 x7 x8 x9 x10 x11 x12 x13 x14 x15 : D) : lstK [x0, x1, x2, x3, x4, x5, x6, x7, x8, x9, x10, x11, x12, x13, x14, x15] = some (.list [x0, x1, x2, x3, x4, x5, x6, x7, x8, x9, x10, x11, x12, x13, x14, x15]) := rfl
@[simp] theorem lstK_17 (x0 x1 x2 x3 x4 x5 x6 x7 x8 x9 x10 x11 x12 x13 x14 x15 x16 : D) : lstK [x0, x1, x2, x3, x4, x5, x6, x7, x8, x9, x10, x11, x12, x13, x14, x15, x16] = some (.list [x0, x1, x2, x3, x4, x5, x6, x7, x8, x9, x10, x11, x12, x13, x14, x15, x16]) := rfl
@[simp] theorem lstK_18 (x0 x1 x2 x3 x4 x5 x6 x7 x8 x9 x10 x11 x12 x13 x14 x15 x16 x17 : D) : lstK [x0, x1, x2, x3, x4, x5, x6, x7, x8, x9, x10, x11, x12, x13, x14, x15, x16, x17] = some (.list [x0, x1, x2, x3, x4, x5, x6, x7, x8, x9, x10, x11, x12, x13, x14, x15, x16, x17]) := rfl
@[simp] theorem lstK_19 (x0 x1 x2 x3 x4 x5 x6 x7 x8 x9 x10 x11 x12 x13 x14 x15 x16 x17 x18 : D) : lstK [x0, x1, x2, x3, x4, x5, x6, x7, x8, x9, x10, x11, x12, x13, x14, x15, x16, x17, x18] = some (.list [x0, x1, x2, x3, x4, x5, x6, x7, x8, x9, x10, x11, x12, x13, x14, x15, x16, x17, x18]) := rfl
@[simp] theorem lstK_20 (x0 x1 x2 x3 x4 x5 x6 x7 x8 x9 x10 x11 x12 x13 x14 x15 x16 x17 x18 x19 : D) : lstK [x0, x1, x2, x3, x4, x5, x6, x7, x8, x9, x10, x11, x12, x13, x14, x15, x16, x17, x18, x19] = some (.list [x0, x1, x2, x3, x4, x5, x6, x7, x8, x9, x10, x11, x12, x13, x14, x15, x16, x17, x18, x19]) := rfl
theorem mapF_nil (δ : List Sl) : mapF [] δ = some [] := rfl
def mapK (k : Str) (d : D) : List (D × D) → Option (List (D × D)) := fun ds => some ((.str k, d) :: ds)
@[simp] theorem mapK_eq (k : Str) (d : D) (ds : List (D × D)) : mapK k d ds = some ((.str k, d) :: ds) := rfl
def mapK1 (k : Str) (r : List (Str × FE)) (δ : List Sl) : D → Option (List (D × D)) := fun d => (mapF r δ).bind (mapK k d)
@[simp] theorem mapK1_eq (k : Str) (r : List (Str × FE)) (δ : List Sl) (d : D) : mapK1 k r δ d = (mapF r δ).bind (mapK k d) := rfl
theorem mapF_cons (k : Str) (f : FE) (r : List (Str × FE)) (δ : List Sl) : mapF ((k, f) :: r) δ = (f δ).bind (mapK1 k r δ) := rfl
theorem eDict_eq (kfs : List (Str × FE)) (δ : List Sl) (h : (decide (kfs.length ≤ 15) && decide (kfs.map (·.1)).Nodup) = true) : eDict kfs δ = (mapF kfs δ).bind fun ds => some (.dict ds) := by
  unfold eDict
  rw [h]
  rfl
@[simp] theorem eCall_eq (F : List D → Option D) (g : FA) (δ : List Sl) : eCall F g δ = (g δ).bind F := rfl
@[simp] theorem eCB_eq (F : List D → Option D) (g : FA) (δ : List Sl) : eCB F g δ = (g δ).bind F := rfl
def isK (T : String) : D → Option D := fun d => some (.bool (isTy T d))
@[simp] theorem eIs_eq (T : String) (f : FE) (δ : List Sl) : eIs T f δ = (f δ).bind (isK T) := by
  unfold eIs isK
  cases f δ <;> rfl
@[simp] theorem isK_int (T : String) (i : Int) : isK T (.int i) = some (.bool ((kitB "int" T).getD false)) := rfl
@[simp] theorem isK_str (T : String) (i : Str) : isK T (.str i) = some (.bool ((kitB "str" T).getD false)) := rfl
@[simp] theorem isK_bool (T : String) (i : Bool) : isK T (.bool i) = some (.bool ((kitB "bool" T).getD false)) := rfl
@[simp] theorem isK_none (T : String) : isK T .none = some (.bool ((kitB "NoneType" T).getD false)) := rfl
@[simp] theorem isK_list (T : String) (i : List D) : isK T (.list i) = some (.bool ((kitB "list" T).getD false)) := rfl
@[simp] theorem isK_tuple (T : String) (i : List D) : isK T (.tuple i) = some (.bool ((kitB "tuple" T).getD false)) := rfl
@[simp] theorem isK_dict (T : String) (i : List (D × D)) : isK T (.dict i) = some (.bool ((kitB "dict" T).getD false)) := rfl
@[simp] theorem kit_NoneType_bool : (kitB "NoneType" "bool").getD false = false := by decide +kernel
@[simp] theorem kit_NoneType_int : (kitB "NoneType" "int").getD false = false := by decide +kernel
@[simp] theorem kit_NoneType_str : (kitB "NoneType" "str").getD false = false := by decide +kernel
@[simp] theorem kit_NoneType_list : (kitB "NoneType" "list").getD false = false := by decide +kernel
@[simp] theorem kit_NoneType_tuple : (kitB "NoneType" "tuple").getD false = false := by decide +kernel
@[simp] theorem kit_NoneType_dict : (kitB "NoneType" "dict").getD false = false := by decide +kernel
@[simp] theorem kit_bool_bool : (kitB "bool" "bool").getD false = true := by decide +kernel
@[simp] theorem kit_bool_int : (kitB "bool" "int").getD false = true := by decide +kernel
@[simp] theorem kit_bool_str : (kitB "bool" "str").getD false = false := by decide +kernel
@[simp] theorem kit_bool_list : (kitB "bool" "list").getD false = false := by decide +kernel
@[simp] theorem kit_bool_tuple : (kitB "bool" "tuple").getD false = false := by decide +kernel
@[simp] theorem kit_bool_dict : (kitB "bool" "dict").getD false = false := by decide +kernel
@[simp] theorem kit_int_bool : (kitB "int" "bool").getD false = false := by decide +kernel
@[simp] theorem kit_int_int : (kitB "int" "int").getD false = true := by decide +kernel
@[simp] theorem kit_int_str : (kitB "int" "str").getD false = false := by decide +kernel
@[simp] theorem kit_int_list : (kitB "int" "list").getD false = false := by decide +kernel
@[simp] theorem kit_int_tuple : (kitB "int" "tuple").getD false = false := by decide +kernel
@[simp] theorem kit_int_dict : (kitB "int" "dict").getD false = false := by decide +kernel
@[simp] theorem kit_str_bool : (kitB "str" "bool").getD false = false := by decide +kernel
@[simp] theorem kit_str_int : (kitB "str" "int").getD false = false := by decide +kernel
@[simp] theorem kit_str_str : (kitB "str" "str").getD false = true := by decide +kernel
@[simp] theorem kit_str_list : (kitB "str" "list").getD false = false := by decide +kernel
@[simp] theorem kit_str_tuple : (kitB "str" "tuple").getD false = false := by decide +kernel
@[simp] theorem kit_str_dict : (kitB "str" "dict").getD false = false := by decide +kernel
@[simp] theorem kit_list_bool : (kitB "list" "bool").getD false = false := by decide +kernel
@[simp] theorem kit_list_int : (kitB "list" "int").getD false = false := by decide +kernel
@[simp] theorem kit_list_str : (kitB "list" "str").getD false = false := by decide +kernel
@[simp] theorem kit_list_list : (kitB "list" "list").getD false = true := by decide +kernel
@[simp] theorem kit_list_tuple : (kitB "list" "tuple").getD false = false := by decide +kernel
@[simp] theorem kit_list_dict : (kitB "list" "dict").getD false = false := by decide +kernel
@[simp] theorem kit_tuple_bool : (kitB "tuple" "bool").getD false = false := by decide +kernel
@[simp] theorem kit_tuple_int : (kitB "tuple" "int").getD false = false := by decide +kernel
@[simp] theorem kit_tuple_str : (kitB "tuple" "str").getD false = false := by decide +kernel
@[simp] theorem kit_tuple_list : (kitB "tuple" "list").getD false = false := by decide +kernel
@[simp] theorem kit_tuple_tuple : (kitB "tuple" "tuple").getD false = true := by decide +kernel
@[simp] theorem kit_tuple_dict : (kitB "tuple" "dict").getD false = false := by decide +kernel
@[simp] theorem kit_dict_bool : (kitB "dict" "bool").getD false = false := by decide +kernel
@[simp] theorem kit_dict_int : (kitB "dict" "int").getD false = false := by decide +kernel
@[simp] theorem kit_dict_str : (kitB "dict" "str").getD false = false := by decide +kernel
@[simp] theorem kit_dict_list : (kitB "dict" "list").getD false = false := by decide +kernel
@[simp] theorem kit_dict_tuple : (kitB "dict" "tuple").getD false = false := by decide +kernel
@[simp] theorem kit_dict_dict : (kitB "dict" "dict").getD false = true := by decide +kernel
/-! statements -/
def seqK (g' : GS) : Out → Option Out
  | .nx δ' => g' δ'
  | o => some o
@[simp] theorem gSeq_eq (g g' : GS) (δ : List Sl) : gSeq g g' δ = (g δ).bind (seqK g') := by
  unfold gSeq seqK
  congr
@[simp] theorem seqK_nx (g' : GS) (δ : List Sl) : seqK g' (.nx δ) = g' δ := rfl
@[simp] theorem seqK_rt (g' : GS) (d : D) : seqK g' (.rt d) = some (.rt d) := rfl
@[simp] theorem seqK_bk (g' : GS) (δ : List Sl) : seqK g' (.bk δ) = some (.bk δ) := rfl
@[simp] theorem seqK_ct (g' : GS) (δ : List Sl) : seqK g' (.ct δ) = some (.ct δ) := rfl
@[simp] theorem gNil_eq (δ : List Sl) : Pd.gNil δ = some (.nx δ) := rfl
def ifK (g g' : GS) (δ : List Sl) : D → Option Out
  | .bool true => g δ
  | .bool false => g' δ
  | _ => none
@[simp] theorem gIf_eq (ft : FE) (g g' : GS) (δ : List Sl) : gIf ft g g' δ = (ft δ).bind (ifK g g' δ) := by
  unfold gIf ifK
  cases ft δ with
  | none => rfl
  | some d => cases d <;> first | rfl | (rename_i b; cases b <;> rfl)
@[simp] theorem ifK_eq (g g' : GS) (δ : List Sl) (b : Bool) : ifK g g' δ (.bool b) = if b then g δ else g' δ := by cases b <;> rfl
def rtO (d : D) : Option Out := some (.rt d)
@[simp] theorem rtO_eq (d : D) : rtO d = some (.rt d) := rfl
@[simp] theorem gRet_eq (f : FE) (δ : List Sl) : gRet f δ = (f δ).bind rtO := by
  unfold gRet rtO
  cases f δ <;> rfl
@[simp] theorem gRetN_eq (δ : List Sl) : gRetN δ = some (.rt .none) := rfl
@[simp] theorem gBk_eq (δ : List Sl) : gBk δ = some (.bk δ) := rfl
@[simp] theorem gCt_eq (δ : List Sl) : gCt δ = some (.ct δ) := rfl
def setK (i : Nat) (δ : List Sl) (d : D) : Option Out := some (.nx (δ.set i (.val d)))
@[simp] theorem gSet_eq (i : Nat) (f : FE) (δ : List Sl) : gSet i f δ = (f δ).bind (setK i δ) := by
  unfold gSet setK
  cases f δ <;> rfl
@[simp] theorem setK_eq (i : Nat) (δ : List Sl) (d : D) : setK i δ d = some (.nx (δ.set i (.val d))) := rfl
def forK (i : Nat) (body : GS) (r : List D) : Out → Option Out
  | .nx δ' => forG i body r δ'
  | .ct δ' => forG i body r δ'
  | .bk δ' => some (.nx δ')
  | .rt d' => some (.rt d')
theorem forG_nil (i : Nat) (body : GS) (δ : List Sl) : forG i body [] δ = some (.nx δ) := rfl
theorem forG_cons (i : Nat) (body : GS) (d : D) (r : List D) (δ : List Sl) : forG i body (d :: r) δ = (body (δ.set i (.val d))).bind (forK i body r) := by
  rw [forG]
  cases body (δ.set i (.val d)) with
  | none => rfl
  | some o => cases o <;> rfl
@[simp] theorem forK_nx (i : Nat) (body : GS) (r : List D) (δ : List Sl) : forK i body r (.nx δ) = forG i body r δ := rfl
@[simp] theorem forK_ct (i : Nat) (body : GS) (r : List D) (δ : List Sl) : forK i body r (.ct δ) = forG i body r δ := rfl
@[simp] theorem forK_bk (i : Nat) (body : GS) (r : List D) (δ : List Sl) : forK i body r (.bk δ) = some (.nx δ) := rfl
@[simp] theorem forK_rt (i : Nat) (body : GS) (r : List D) (d : D) : forK i body r (.rt d) = some (.rt d) := rfl
def forS (i : Nat) (body : GS) (δ : List Sl) (ds : List D) : Option Out := forG i body ds δ
@[simp] theorem gFor_eq (fi : FI) (i : Nat) (body : GS) (δ : List Sl) : gFor fi i body δ = (fi δ).bind (forS i body δ) := rfl
@[simp] theorem forS_eq (i : Nat) (body : GS) (δ : List Sl) (ds : List D) : forS i body δ ds = forG i body ds δ := rfl
def whB (ft : FE) (body : GS) (n : Nat) : Out → Option Out
  | .nx δ' => whileG ft body n δ'
  | .ct δ' => whileG ft body n δ'
  | .bk δ' => some (.nx δ')
  | .rt d' => some (.rt d')
def whK (ft : FE) (body : GS) (n : Nat) (δ : List Sl) : D → Option Out
  | .bool true => (body δ).bind (whB ft body n)
  | .bool false => some (.nx δ)
  | _ => none
theorem whileG_succ (ft : FE) (body : GS) (n : Nat) (δ : List Sl) : whileG ft body (n + 1) δ = (ft δ).bind (whK ft body n δ) := by
  rw [whileG]
  cases ft δ with
  | none => rfl
  | some d =>
    cases d <;> first | rfl | skip
    rename_i b
    cases b
    · rfl
    · show _ = (body δ).bind (whB ft body n)
      cases body δ with
      | none => rfl
      | some o => cases o <;> rfl
@[simp] theorem whK_eq (ft : FE) (body : GS) (n : Nat) (δ : List Sl) (b : Bool) : whK ft body n δ (.bool b) = if b then (body δ).bind (whB ft body n) else some (.nx δ) := by cases b <;> rfl
@[simp] theorem whB_nx (ft : FE) (body : GS) (n : Nat) (δ : List Sl) : whB ft body n (.nx δ) = whileG ft body n δ := rfl
@[simp] theorem whB_ct (ft : FE) (body : GS) (n : Nat) (δ : List Sl) : whB ft body n (.ct δ) = whileG ft body n δ := rfl
@[simp] theorem whB_bk (ft : FE) (body : GS) (n : Nat) (δ : List Sl) : whB ft body n (.bk δ) = some (.nx δ) := rfl
@[simp] theorem whB_rt (ft : FE) (body : GS) (n : Nat) (d : D) : whB ft body n (.rt d) = some (.rt d) := rfl
def rtK : Out → Option D
  | .rt d => some d
  | .nx _ => some .none
  | _ => none
@[simp] theorem rtK_rt (d : D) : rtK (.rt d) = some d := rfl
@[simp] theorem rtK_nx (δ : List Sl) : rtK (.nx δ) = some .none := rfl
@[simp] theorem bind_rt (o : Option D) : (o.bind rtO).bind rtK = o := by cases o <;> rfl
theorem runG_eq (n np : Nat) (g : GS) (ds : List D) (h : ds.length = np) : runG n np g ds = (g (startD n ds)).bind rtK := by
  unfold runG
  rw [if_pos h]
  cases g (startD n ds) with
  | none => rfl
  | some o => cases o <;> rfl
/-! comprehensions -/
def lcK2 (i : Nat) (δ : List Sl) (ft fe : FE) (r : List D) (y : D) : Option (List D) := (lcD i δ ft fe r).bind (consK y)
def lcK (i : Nat) (δ : List Sl) (ft fe : FE) (d : D) (r : List D) : D → Option (List D)
  | .bool true => (fe (δ.set i (.val d))).bind (lcK2 i δ ft fe r)
  | .bool false => lcD i δ ft fe r
  | _ => none
theorem lcD_nil (i : Nat) (δ : List Sl) (ft fe : FE) : lcD i δ ft fe [] = some [] := rfl
theorem lcD_cons (i : Nat) (δ : List Sl) (ft fe : FE) (d : D) (r : List D) : lcD i δ ft fe (d :: r) = (ft (δ.set i (.val d))).bind (lcK i δ ft fe d r) := by
  rw [lcD]
  cases ft (δ.set i (.val d)) with
  | none => rfl
  | some b =>
    cases b <;> first | rfl | skip
    rename_i b
    cases b
    · rfl
    · show ((fe (δ.set i (.val d))).bind fun y => (lcD i δ ft fe r).bind fun ys => some (y :: ys)) = (fe (δ.set i (.val d))).bind (lcK2 i δ ft fe r)
      rfl
@[simp] theorem lcK_eq (i : Nat) (δ : List Sl) (ft fe : FE) (d : D) (r : List D) (b : Bool) : lcK i δ ft fe d r (.bool b) = if b then (fe (δ.set i (.val d))).bind (lcK2 i δ ft fe r) else lcD i δ ft fe r := by cases b <;> rfl
@[simp] theorem lcK2_eq (i : Nat) (δ : List Sl) (ft fe : FE) (r : List D) (y : D) : lcK2 i δ ft fe r y = (lcD i δ ft fe r).bind (consK y) := rfl
/-- a comprehension whose parts give values -/
theorem lcD_eq (i : Nat) (δ : List Sl) (ft fe : FE) (p : D → Bool) (h : D → D) : ∀ ds : List D, (∀ d ∈ ds, ft (δ.set i (.val d)) = some (.bool (p d))) → (∀ d ∈ ds, p d = true → fe (δ.set i (.val d)) = some (h d)) → lcD i δ ft fe ds = some ((ds.filter p).map h)
  | [], _, _ => rfl
  | d :: r, h1, h2 => by
    rw [lcD_cons, h1 d (List.mem_cons_self ..), Option.bind_some, lcK_eq, lcD_eq i δ ft fe p h r (fun x hx => h1 x (List.mem_cons_of_mem _ hx)) fun x hx => h2 x (List.mem_cons_of_mem _ hx)]
    cases hp : p d with
    | true => rw [if_pos rfl, h2 d (List.mem_cons_self ..) hp, Option.bind_some, lcK2_eq, lcD_eq i δ ft fe p h r (fun x hx => h1 x (List.mem_cons_of_mem _ hx)) fun x hx => h2 x (List.mem_cons_of_mem _ hx), List.filter_cons_of_pos hp]; rfl
    | false => rw [if_neg Bool.false_ne_true, List.filter_cons_of_neg (by rw [hp]; exact Bool.false_ne_true)]
def lcQ (i : Nat) (ft fe : FE) (δ : List Sl) (ds : List D) : Option D := (lcD i (δ.set i .un) ft fe ds).bind lstK
@[simp] theorem eLc_eq (fi : FI) (i : Nat) (ft fe : FE) (δ : List Sl) : eLc fi i ft fe δ = (fi δ).bind (lcQ i ft fe δ) := rfl
theorem lcQ_eq (i : Nat) (ft fe : FE) (δ : List Sl) (ds : List D) : lcQ i ft fe δ ds = (lcD i (δ.set i .un) ft fe ds).bind lstK := rfl
@[simp] theorem iSeq_eq (f : FE) (δ : List Sl) : iSeq f δ = (f δ).bind seqD := rfl
@[simp] theorem seqD_list (ds : List D) : seqD (.list ds) = some ds := rfl
@[simp] theorem seqD_tuple (ds : List D) : seqD (.tuple ds) = some ds := rfl
@[simp] theorem seqD_str (x : Str) : seqD (.str x) = some (signs x) := rfl
def r1K : List D → Option (List D)
  | [.int j] => if -(2 ^ 62) ≤ j ∧ j < 2 ^ 62 then some (rangeD 0 j.toNat) else none
  | _ => none
def r2K : List D → Option (List D)
  | [.int i, .int j] => if -(2 ^ 62) ≤ i ∧ i < 2 ^ 62 ∧ -(2 ^ 62) ≤ j ∧ j < 2 ^ 62 then some (rangeD i (j - i).toNat) else none
  | _ => none
@[simp] theorem iR1_eq (g : FA) (δ : List Sl) : iR1 g δ = (g δ).bind r1K := by unfold iR1 r1K; rfl
@[simp] theorem iR2_eq (g : FA) (δ : List Sl) : iR2 g δ = (g δ).bind r2K := by unfold iR2 r2K; rfl
theorem r1K_eq (j : Int) (h : -(2 ^ 62) ≤ j ∧ j < 2 ^ 62) : r1K [.int j] = some (rangeD 0 j.toNat) := if_pos h
/-! operators -/
@[simp] theorem addD_int (i j : Int) : addD (.int i) (.int j) = some (.int (i + j)) := rfl
@[simp] theorem addD_str (x y : Str) (h : x.length + y.length ≤ lim) : addD (.str x) (.str y) = some (.str (x ++ y)) := if_pos h
@[simp] theorem addD_list (x y : List D) (h : x.length + y.length ≤ lim) : addD (.list x) (.list y) = some (.list (x ++ y)) := if_pos h
@[simp] theorem addD_tuple (x y : List D) (h : x.length + y.length ≤ lim) : addD (.tuple x) (.tuple y) = some (.tuple (x ++ y)) := if_pos h
@[simp] theorem subD_int (i j : Int) : subD (.int i) (.int j) = some (.int (i - j)) := rfl
theorem mulD_int (i j : Int) : mulD (.int i) (.int j) = if (decide (-(2 ^ 64) < i ∧ i < 2 ^ 64) || decide (-(2 ^ 64) < j ∧ j < 2 ^ 64)) = true then some (.int (i * j)) else none := rfl
@[simp] theorem divD_int (i j : Int) (h : 0 < j ∧ j < 1073741824) : divD (.int i) (.int j) = some (.int (i / j)) := if_pos (decide_eq_true h)
@[simp] theorem modD_int (i j : Int) (h : 0 < j) : modD (.int i) (.int j) = some (.int (i % j)) := if_pos (decide_eq_true h)
@[simp] theorem negD_int (i : Int) : negD (.int i) = some (.int (-i)) := rfl
@[simp] theorem ltD_int (i j : Int) : ltD (.int i) (.int j) = some (.bool (decide (i < j))) := rfl
@[simp] theorem leD_int (i j : Int) : leD (.int i) (.int j) = some (.bool (decide (i ≤ j))) := rfl
@[simp] theorem gtD_int (i j : Int) : gtD (.int i) (.int j) = some (.bool (decide (j < i))) := rfl
@[simp] theorem geD_int (i j : Int) : geD (.int i) (.int j) = some (.bool (decide (j ≤ i))) := rfl
theorem eqD_of (x y : D) (hx : fitD x = true) (hy : fitD y = true) : eqD x y = some (.bool (PyData.eqv x y)) := by
  unfold eqD
  rw [hx, hy, Bool.and_self, Bool.or_true]
  rfl
theorem neD_of (x y : D) (hx : fitD x = true) (hy : fitD y = true) : neD x y = some (.bool (!PyData.eqv x y)) := by
  unfold neD
  rw [hx, hy, Bool.and_self, Bool.or_true]
  rfl
@[simp] theorem fitD_int (i : Int) : fitD (.int i) = true := rfl
@[simp] theorem fitD_bool (i : Bool) : fitD (.bool i) = true := rfl
@[simp] theorem fitD_none : fitD .none = true := rfl
@[simp] theorem eqD_ii (i j : Int) : eqD (.int i) (.int j) = some (.bool (i == j)) := rfl
@[simp] theorem eqD_ss (i j : Str) : eqD (.str i) (.str j) = some (.bool (i == j)) := rfl
@[simp] theorem eqD_bb (i j : Bool) : eqD (.bool i) (.bool j) = some (.bool (i == j)) := rfl
@[simp] theorem neD_ii (i j : Int) : neD (.int i) (.int j) = some (.bool (!(i == j))) := rfl
@[simp] theorem neD_ss (i j : Str) : neD (.str i) (.str j) = some (.bool (!(i == j))) := rfl
@[simp] theorem neD_bb (i j : Bool) : neD (.bool i) (.bool j) = some (.bool (!(i == j))) := rfl
@[simp] theorem eqD_is (i : Int) (j : Str) : eqD (.int i) (.str j) = some (.bool false) := rfl
@[simp] theorem eqD_si (i : Str) (j : Int) : eqD (.str i) (.int j) = some (.bool false) := rfl
@[simp] theorem eqD_ns (j : Str) : eqD .none (.str j) = some (.bool false) := rfl
@[simp] theorem eqD_bs (i : Bool) (j : Str) : eqD (.bool i) (.str j) = some (.bool false) := rfl
@[simp] theorem neD_is (i : Int) (j : Str) : neD (.int i) (.str j) = some (.bool true) := rfl
@[simp] theorem neD_ns (j : Str) : neD .none (.str j) = some (.bool true) := rfl
@[simp] theorem neD_bs (i : Bool) (j : Str) : neD (.bool i) (.str j) = some (.bool true) := rfl
@[simp] theorem lenD_list (ds : List D) : lenD [.list ds] = some (.int ds.length) := rfl
@[simp] theorem lenD_tuple (ds : List D) : lenD [.tuple ds] = some (.int ds.length) := rfl
theorem lenD_str (x : Str) (h : x.length ≤ lim) : lenD [.str x] = some (.int x.length) := if_pos h
@[simp] theorem ixD_list (ds : List D) (i : Int) : ixD (.list ds) (.int i) = atI ds i := rfl
@[simp] theorem ixD_tuple (ds : List D) (i : Int) : ixD (.tuple ds) (.int i) = atI ds i := rfl
theorem ixD_str (x : Str) (i : Int) (h : x.length ≤ lim) : ixD (.str x) (.int i) = (atI x.cps.toList i).map fun c => .str ⟨#[c]⟩ := if_pos h
@[simp] theorem toIntD_int (i : Int) : toIntD [.int i] = some (.int i) := rfl
@[simp] theorem toIntD_bool (i : Bool) : toIntD [.bool i] = some (.int (if i then 1 else 0)) := rfl
@[simp] theorem minD_int (i j : Int) : minD [.int i, .int j] = some (.int (if j < i then j else i)) := rfl
@[simp] theorem maxD_int (i j : Int) : maxD [.int i, .int j] = some (.int (if j > i then j else i)) := rfl
@[simp] theorem listD_list (ds : List D) : listD [.list ds] = some (.list ds) := rfl
@[simp] theorem listD_tuple (ds : List D) : listD [.tuple ds] = some (.list ds) := rfl
@[simp] theorem tupD_list (ds : List D) : tupD [.list ds] = some (.tuple ds) := rfl
@[simp] theorem tupD_tuple (ds : List D) : tupD [.tuple ds] = some (.tuple ds) := rfl
/-- an item by its place -/
theorem atI_of {α : Type} {xs : List α} {i : Int} {v : α} (h0 : 0 ≤ i) (h : xs[i.toNat]? = some v) : atI xs i = some v := by
  have e : i = ((i.toNat : Nat) : Int) := by omega
  rw [e]
  exact atI_nat h
@[simp] theorem atI_zero {α : Type} (xs : List α) : atI xs 0 = xs[0]? := by
  unfold atI ixN
  cases xs with
  | nil => rfl
  | cons x r => rw [if_pos (by decide), if_pos (by rw [List.length_cons]; omega)]; rfl
theorem atI_n {α : Type} (xs : List α) (n : Nat) : atI xs (n : Int) = xs[n]? := by
  unfold atI ixN
  rw [if_pos (by omega)]
  by_cases h : n < xs.length
  · rw [if_pos (by omega)]
    rfl
  · rw [if_neg (by omega), List.getElem?_eq_none (by omega)]
    rfl
@[simp] theorem atI_1 {α : Type} (xs : List α) : atI xs 1 = xs[1]? := atI_n xs 1
@[simp] theorem atI_2 {α : Type} (xs : List α) : atI xs 2 = xs[2]? := atI_n xs 2
@[simp] theorem atI_3 {α : Type} (xs : List α) : atI xs 3 = xs[3]? := atI_n xs 3
@[simp] theorem atI_4 {α : Type} (xs : List α) : atI xs 4 = xs[4]? := atI_n xs 4
@[simp] theorem atI_5 {α : Type} (xs : List α) : atI xs 5 = xs[5]? := atI_n xs 5
@[simp] theorem atI_6 {α : Type} (xs : List α) : atI xs 6 = xs[6]? := atI_n xs 6
@[simp] theorem atI_7 {α : Type} (xs : List α) : atI xs 7 = xs[7]? := atI_n xs 7
@[simp] theorem atI_8 {α : Type} (xs : List α) : atI xs 8 = xs[8]? := atI_n xs 8
@[simp] theorem atI_9 {α : Type} (xs : List α) : atI xs 9 = xs[9]? := atI_n xs 9
@[simp] theorem atI_10 {α : Type} (xs : List α) : atI xs 10 = xs[10]? := atI_n xs 10
@[simp] theorem atI_11 {α : Type} (xs : List α) : atI xs 11 = xs[11]? := atI_n xs 11
@[simp] theorem atI_12 {α : Type} (xs : List α) : atI xs 12 = xs[12]? := atI_n xs 12
@[simp] theorem atI_13 {α : Type} (xs : List α) : atI xs 13 = xs[13]? := atI_n xs 13
@[simp] theorem atI_14 {α : Type} (xs : List α) : atI xs 14 = xs[14]? := atI_n xs 14
@[simp] theorem atI_15 {α : Type} (xs : List α) : atI xs 15 = xs[15]? := atI_n xs 15
@[simp] theorem atI_16 {α : Type} (xs : List α) : atI xs 16 = xs[16]? := atI_n xs 16
@[simp] theorem atI_17 {α : Type} (xs : List α) : atI xs 17 = xs[17]? := atI_n xs 17
@[simp] theorem atI_18 {α : Type} (xs : List α) : atI xs 18 = xs[18]? := atI_n xs 18
@[simp] theorem atI_19 {α : Type} (xs : List α) : atI xs 19 = xs[19]? := atI_n xs 19
@[simp] theorem atI_20 {α : Type} (xs : List α) : atI xs 20 = xs[20]? := atI_n xs 20
@[simp] theorem atI_21 {α : Type} (xs : List α) : atI xs 21 = xs[21]? := atI_n xs 21
@[simp] theorem atI_22 {α : Type} (xs : List α) : atI xs 22 = xs[22]? := atI_n xs 22
@[simp] theorem atI_23 {α : Type} (xs : List α) : atI xs 23 = xs[23]? := atI_n xs 23
@[simp] theorem atI_24 {α : Type} (xs : List α) : atI xs 24 = xs[24]? := atI_n xs 24
@[simp] theorem atI_25 {α : Type} (xs : List α) : atI xs 25 = xs[25]? := atI_n xs 25
@[simp] theorem atI_26 {α : Type} (xs : List α) : atI xs 26 = xs[26]? := atI_n xs 26
@[simp] theorem atI_27 {α : Type} (xs : List α) : atI xs 27 = xs[27]? := atI_n xs 27
@[simp] theorem atI_28 {α : Type} (xs : List α) : atI xs 28 = xs[28]? := atI_n xs 28
@[simp] theorem atI_29 {α : Type} (xs : List α) : atI xs 29 = xs[29]? := atI_n xs 29
@[simp] theorem atI_30 {α : Type} (xs : List α) : atI xs 30 = xs[30]? := atI_n xs 30
@[simp] theorem powD_9 : powD (.int 10) (.int 9) = some (.int 1000000000) := by rfl
@[simp] theorem powD_30 : powD (.int 10) (.int 30) = some (.int 1000000000000000000000000000000) := by rfl
@[simp] theorem powD_18 : powD (.int 10) (.int 18) = some (.int 1000000000000000000) := by rfl
@[simp] theorem mulD_2 : mulD (.int 2) (.int 1000000000) = some (.int 2000000000) := by rfl
theorem F1 {n np : Nat} {g : GS} {ds : List D} {r : Option D} (h : ds.length = np) (e : (g (startD n ds)).bind rtK = r) : runG n np g ds = r := (runG_eq n np g ds h).trans e
/-- the slots at the entry -/
@[simp] theorem startD_eq (n : Nat) (ds : List D) : startD n ds = ds.map .val ++ List.replicate (n - ds.length) .un := rfl
/-! lists of the def's own -/
def frzK (i : Nat) (δ : List Sl) : Option Sl → Option Out
  | some (.own ds) => some (.nx (δ.set i (.val (.list ds))))
  | _ => none
@[simp] theorem gFrz_eq (i : Nat) (δ : List Sl) : gFrz i δ = frzK i δ δ[i]? := by unfold gFrz frzK; rfl
@[simp] theorem frzK_own (i : Nat) (δ : List Sl) (ds : List D) : frzK i δ (some (.own ds)) = some (.nx (δ.set i (.val (.list ds)))) := rfl
@[simp] theorem borrow_nil : borrow [] = [] := rfl
@[simp] theorem borrow_cons (s : Sl) (δ : List Sl) : borrow (s :: δ) = bor1 s :: borrow δ := rfl
@[simp] theorem bor1_un : bor1 .un = .un := rfl
@[simp] theorem bor1_val (d : D) : bor1 (.val d) = .val d := rfl
@[simp] theorem bor1_own (ds : List D) : bor1 (.own ds) = .val (.list ds) := rfl
@[simp] theorem eBor_eq (f : FE) (δ : List Sl) : eBor f δ = (f (borrow δ)).bind scalK := rfl
@[simp] theorem scalK_bool (b : Bool) : scalK (.bool b) = some (.bool b) := rfl
@[simp] theorem scalK_int (b : Int) : scalK (.int b) = some (.int b) := rfl
@[simp] theorem scalK_str (b : Str) : scalK (.str b) = some (.str b) := rfl
@[simp] theorem scalK_none : scalK .none = some .none := rfl
def popK (i : Nat) (δ : List Sl) : Option Sl → Option Out
  | some (.own ds) => if ds = [] then none else some (.nx (δ.set i (.own ds.dropLast)))
  | _ => none
@[simp] theorem gPop_eq (i : Nat) (δ : List Sl) : gPop i δ = popK i δ δ[i]? := by unfold gPop popK; rfl
theorem popK_own (i : Nat) (δ : List Sl) (ds : List D) (h : ds ≠ []) : popK i δ (some (.own ds)) = some (.nx (δ.set i (.own ds.dropLast))) := if_neg h
def appK (i : Nat) (δ : List Sl) (d : D) : Option Sl → Option Out
  | some (.own ds) => if ds.length < lim then some (.nx (δ.set i (.own (ds ++ [d])))) else none
  | _ => none
def appK1 (i : Nat) (δ : List Sl) : D → Option Out := fun d => appK i δ d δ[i]?
@[simp] theorem gApp_eq (i : Nat) (f : FE) (δ : List Sl) : gApp i f δ = (f δ).bind (appK1 i δ) := by unfold gApp appK1 appK; rfl
@[simp] theorem appK1_eq (i : Nat) (δ : List Sl) (d : D) : appK1 i δ d = appK i δ d δ[i]? := rfl
@[simp] theorem appK_own (i : Nat) (δ : List Sl) (d : D) (ds : List D) (h : ds.length < lim) : appK i δ d (some (.own ds)) = some (.nx (δ.set i (.own (ds ++ [d])))) := if_pos h
def extK (i : Nat) (δ : List Sl) : Option Sl → D → Option Out
  | some (.own ds), .list es => if ds.length + es.length ≤ lim then some (.nx (δ.set i (.own (ds ++ es)))) else none
  | _, _ => none
@[simp] theorem gExt_eq (i : Nat) (f : FE) (δ : List Sl) : gExt i f δ = (f δ).bind (extK i δ δ[i]?) := by unfold gExt extK; rfl
@[simp] theorem extK_own (i : Nat) (δ : List Sl) (ds es : List D) (h : ds.length + es.length ≤ lim) : extK i δ (some (.own ds)) (.list es) = some (.nx (δ.set i (.own (ds ++ es)))) := if_pos h
def ownK (i : Nat) (δ : List Sl) (ds : List D) : Option Out := if ds.length ≤ lim then some (.nx (δ.set i (.own ds))) else none
@[simp] theorem gOwn_eq (i : Nat) (g : FA) (δ : List Sl) : gOwn i g δ = (g δ).bind (ownK i δ) := rfl
@[simp] theorem ownK_eq (i : Nat) (δ : List Sl) (ds : List D) (h : ds.length ≤ lim) : ownK i δ ds = some (.nx (δ.set i (.own ds))) := if_pos h
def newK (i : Nat) (δ : List Sl) (ds : List D) : Option Out := some (.nx (δ.set i (.own ds)))
@[simp] theorem gNew_eq (i : Nat) (f : List Sl → Option (List D)) (δ : List Sl) : gNew i f δ = (f δ).bind (newK i δ) := by
  unfold gNew newK
  cases f δ <;> rfl
@[simp] theorem newK_eq (i : Nat) (δ : List Sl) (ds : List D) : newK i δ ds = some (.nx (δ.set i (.own ds))) := rfl
@[simp] theorem nList_eq (f : FE) (δ : List Sl) : nList f δ = (f δ).bind fun d => match d with
  | .list ds => some ds
  | .tuple ds => some ds
  | _ => none := rfl
def intsK (ys : List D) : Option (List D) := if allInts ys then some ys else none
def nFK (F : List D → Option (List D)) (ds : List D) : Option (List D) := (F ds).bind intsK
@[simp] theorem nCall_eq (F : List D → Option (List D)) (g : FA) (δ : List Sl) : nCall F g δ = (g (borrow δ)).bind (nFK F) := rfl
@[simp] theorem nFK_eq (F : List D → Option (List D)) (ds : List D) : nFK F ds = (F ds).bind intsK := rfl
theorem allInts_map (ns : List Int) : allInts (ns.map PyData.int) = true := by
  induction ns with
  | nil => rfl
  | cons n r ih => exact ih
@[simp] theorem intsK_map (ns : List Int) : intsK (ns.map PyData.int) = some (ns.map PyData.int) := by
  unfold intsK
  rw [allInts_map]
  rfl
theorem eLr1_eq (f : FE) (δ : List Sl) (n : Int) (h : f δ = some (.int n)) (h0 : 0 ≤ n) (h1 : n ≤ 16777216) : eLr1 f δ = some (.list (rangeD 0 n.toNat)) := by
  unfold eLr1
  rw [h, Option.bind_some]
  exact if_pos ⟨h0, h1⟩
theorem eLr2_eq (f g : FE) (δ : List Sl) (i n : Int) (h : f δ = some (.int i)) (h' : g δ = some (.int n)) (h0 : 0 ≤ i ∧ i ≤ 16777216 ∧ 0 ≤ n ∧ n ≤ 16777216) : eLr2 f g δ = some (.list (rangeD i (n - i).toNat)) := by
  unfold eLr2
  rw [h, h', Option.bind_some, Option.bind_some]
  exact if_pos h0
def lcN (i : Nat) (ft fe : FE) (δ : List Sl) (ds : List D) : Option (List D) := (lcD i (δ.set i .un) ft fe ds).bind fun ys => if ys.length ≤ lim then some ys else none
@[simp] theorem nLc_eq (fi : FI) (i : Nat) (ft fe : FE) (δ : List Sl) : nLc fi i ft fe δ = (fi δ).bind (lcN i ft fe δ) := rfl
theorem runR_eq (n np : Nat) (f : List Sl → Option (List D)) (ds : List D) (h : ds.length = np) : runR n np f ds = f (startD n ds) := if_pos h
end Pd

set_option Elab.async false
set_option linter.all false
set_option maxRecDepth 100000
set_option maxHeartbeats 4000000
/-! General facts about semantic functions. -/
namespace Pd
open PySem PySem.Spec L2
/-- a loop that neither leaves nor fails, by its invariant -/
theorem forG_inv {i : Nat} {body : GS} (I : Nat → List Sl → Prop) : ∀ (ds : List D) (k : Nat) (δ : List Sl), I k δ → (∀ (j : Nat) (d : D) (δ : List Sl), ds[j]? = some d → I (k + j) δ → ∃ δ', body (δ.set i (.val d)) = some (.nx δ') ∧ I (k + j + 1) δ') → ∃ δ', forG i body ds δ = some (.nx δ') ∧ I (k + ds.length) δ'
  | [], k, δ, h, _ => ⟨δ, rfl, h⟩
  | d :: r, k, δ, h, hs => by
    obtain ⟨δ1, e1, h1⟩ := hs 0 d δ rfl h
    obtain ⟨δ2, e2, h2⟩ := forG_inv I r (k + 1) δ1 h1 fun j d' δ' hj hI => by
      have := hs (j + 1) d' δ' (by simpa using hj) (by rw [show k + (j + 1) = k + 1 + j by omega]; exact hI)
      rw [show k + (j + 1) + 1 = k + 1 + j + 1 by omega] at this
      exact this
    refine ⟨δ2, ?_, by rw [List.length_cons, show k + (r.length + 1) = k + 1 + r.length by omega]; exact h2⟩
    rw [forG_cons, e1, Option.bind_some, forK_nx, e2]
/-- the same, by the items themselves -/
theorem forG_all {i : Nat} {body : GS} (I : List Sl → Prop) (ds : List D) (δ : List Sl) (h : I δ) (hs : ∀ d ∈ ds, ∀ δ, I δ → ∃ δ', body (δ.set i (.val d)) = some (.nx δ') ∧ I δ') : ∃ δ', forG i body ds δ = some (.nx δ') ∧ I δ' := by
  obtain ⟨δ', e, h'⟩ := forG_inv (i := i) (body := body) (fun _ δ => I δ) ds 0 δ h fun j d δ hj hI => hs d (List.mem_of_getElem? hj) δ hI
  exact ⟨δ', e, h'⟩
theorem mem_rangeD {d : D} {lo : Int} {n : Nat} (h : d ∈ rangeD lo n) : ∃ k : Nat, k < n ∧ d = .int (lo + k) := by
  unfold rangeD at h
  obtain ⟨k, hk, e⟩ := List.mem_map.mp h
  exact ⟨k, List.mem_range.mp hk, e.symm⟩
/-- a text whose signs are signs -/
def SOk (s : Str) : Prop := s.length ≤ 1000 ∧ ∀ c ∈ s.cps.toList, c < 128
theorem SOk.strOk {s : Str} (h : SOk s) : PyData.strOk s = true := by
  unfold PyData.strOk
  rw [Array.all_eq_true]
  intro i hi
  have := h.2 s.cps[i] (by simp)
  simp
  omega
theorem SOk.lim {s : Str} (h : SOk s) : s.length ≤ lim := by
  have := h.1
  rw [lim_eq]
  omega
theorem fitD_str {s : Str} (h : SOk s) : fitD (.str s) = true := by
  simp [fitD, flatD, SeqAt.shaped, PyData.canLay0, PyData.depth, h.strOk]
theorem len_append (a b : Str) : (a ++ b).length = a.length + b.length := by
  show (a.cps ++ b.cps).size = a.cps.size + b.cps.size
  exact Array.size_append
theorem cps_append (a b : Str) : (a ++ b).cps.toList = a.cps.toList ++ b.cps.toList := by
  show (a.cps ++ b.cps).toList = _
  simp
theorem SOk.append {a b : Str} (ha : SOk a) (hb : SOk b) (h : a.length + b.length ≤ 1000) : SOk (a ++ b) := ⟨by rw [len_append]; exact h, fun c hc => by
  rw [cps_append, List.mem_append] at hc
  rcases hc with hc | hc
  · exact ha.2 c hc
  · exact hb.2 c hc⟩
theorem SOk.one {c : Nat} (h : c < 128) : SOk ⟨#[c]⟩ := ⟨by show 1 ≤ 1000; decide, fun d hd => by
  have : d = c := by simpa using hd
  omega⟩
theorem len_one (c : Nat) : (⟨#[c]⟩ : Str).length = 1 := rfl
/-- one sign of a text -/
theorem sign_at {s : Str} (h : SOk s) {i : Int} (h0 : 0 ≤ i) (h1 : i < s.length) : ∃ c, c < 128 ∧ ixD (.str s) (.int i) = some (.str ⟨#[c]⟩) := by
  have hl : s.cps.toList.length = s.length := by simp [Str.length]
  have hi : i.toNat < s.cps.toList.length := by omega
  refine ⟨s.cps.toList[i.toNat], h.2 _ (List.getElem_mem hi), ?_⟩
  rw [ixD_str _ _ h.lim, atI_of h0 (List.getElem?_eq_getElem hi)]
  rfl
/-- lists that fit -/
theorem fitD_list {ds : List D} (h : ∀ d ∈ ds, fitD d = true ∧ d.depth ≤ 60) : fitD (.list ds) = true := by
  have hf : flatDs ds = true ∧ PyData.canLayAll0 ds = true ∧ PyData.depthAll ds ≤ 60 := by
    induction ds with
    | nil => exact ⟨rfl, rfl, Nat.zero_le _⟩
    | cons d r ih =>
      obtain ⟨h1, h2⟩ := h d (List.mem_cons_self ..)
      obtain ⟨i1, i2, i3⟩ := ih fun x hx => h x (List.mem_cons_of_mem _ hx)
      simp only [fitD, SeqAt.shaped, Bool.and_eq_true] at h1
      refine ⟨by simp only [flatDs, Bool.and_eq_true]; exact ⟨h1.1, i1⟩, by simp only [PyData.canLayAll0, Bool.and_eq_true]; exact ⟨h1.2.1, i2⟩, by simp only [PyData.depthAll]; omega⟩
  have h3 := hf.2.2
  have e : fitD (.list ds) = (flatDs ds && (PyData.canLayAll0 ds && decide (PyData.depthAll ds + 1 ≤ 64))) := rfl
  rw [e, hf.1, hf.2.1, decide_eq_true (by omega)]
  rfl
theorem fitD_tuple {ds : List D} (h : ∀ d ∈ ds, fitD d = true ∧ d.depth ≤ 60) : fitD (.tuple ds) = true := by
  exact fitD_list h
theorem lcQ_of {i : Nat} {ft fe : FE} {δ : List Sl} {ds : List D} (p : D → Bool) (h : D → D) (h1 : ∀ d ∈ ds, ft ((δ.set i .un).set i (.val d)) = some (.bool (p d))) (h2 : ∀ d ∈ ds, p d = true → fe ((δ.set i .un).set i (.val d)) = some (h d)) (hl : ds.length ≤ lim) :
    lcQ i ft fe δ ds = some (.list ((ds.filter p).map h)) := by
  rw [lcQ_eq, lcD_eq i _ ft fe p h ds h1 h2, Option.bind_some, lstK_eq]
  rw [List.length_map]
  exact Nat.le_trans (List.length_filter_le _ _) hl
theorem lcQ_map {i : Nat} {fe : FE} {δ : List Sl} {ds : List D} (h : D → D) (h2 : ∀ d ∈ ds, fe ((δ.set i .un).set i (.val d)) = some (h d)) (hl : ds.length ≤ lim) : lcQ i (eC (.bool true)) fe δ ds = some (.list (ds.map h)) := by
  rw [lcQ_of (fun _ => true) h (fun _ _ => rfl) (fun d hd _ => h2 d hd) hl, List.filter_eq_self.mpr fun _ _ => rfl]
theorem lcQ_filter {i : Nat} {ft : FE} {δ : List Sl} {ds : List D} (p : D → Bool) (hi : i < δ.length) (h1 : ∀ d ∈ ds, ft ((δ.set i .un).set i (.val d)) = some (.bool (p d))) (hl : ds.length ≤ lim) : lcQ i ft (eVar i) δ ds = some (.list (ds.filter p)) := by
  rw [lcQ_of p id h1 (fun d _ _ => ?_) hl, List.map_id]
  rw [eVar_eq, List.getElem?_set_self (by simpa using hi)]
  rfl
theorem blsD_map (l : List Bool) : blsD (l.map PyData.bool) = some l := by
  induction l with
  | nil => rfl
  | cons b r ih => simp only [List.map_cons, blsD, ih, Option.map_some]
theorem allD_map (l : List Bool) : allD [.list (l.map PyData.bool)] = some (.bool (l.all id)) := by
  simp only [allD, blsD_map, Option.map_some]
/-- a cell of the script -/
def cellZ (ns : List Int) (k : Nat) : Int := ns.getD k 0
theorem eqv_nil (ds : List D) : PyData.eqv (.list ds) (.list []) = ds.isEmpty := by
  cases ds <;> rfl
theorem signs_len (s : Str) : (signs s).length = s.length := by
  unfold signs
  rw [List.length_map]
  simp [Str.length]
theorem mem_signs {d : D} {s : Str} (h : d ∈ signs s) : ∃ c, c ∈ s.cps.toList ∧ d = .str ⟨#[c]⟩ := by
  obtain ⟨c, hc, e⟩ := List.mem_map.mp h
  exact ⟨c, hc, e.symm⟩
theorem leD_one (a b : Nat) : leD (.str ⟨#[a]⟩) (.str ⟨#[b]⟩) = some (.bool (decide (a ≤ b))) := by
  show some (PyData.bool (!decide ([b] < [a]))) = _
  congr 2
  rw [Bool.eq_iff_iff]
  simp [List.cons_lt_cons_iff]
theorem inD_one (neg : Bool) (c : Nat) (z : Str) : inD neg (.str ⟨#[c]⟩) (.str z) = some (.bool (if neg then !decide (c ∈ z.cps.toList) else decide (c ∈ z.cps.toList))) := rfl
theorem lcN_filter {i : Nat} {ft : FE} {δ : List Sl} {ds : List D} (p : D → Bool) (hi : i < δ.length) (h1 : ∀ d ∈ ds, ft ((δ.set i .un).set i (.val d)) = some (.bool (p d))) (hl : ds.length ≤ lim) : lcN i ft (eVar i) δ ds = some (ds.filter p) := by
  unfold lcN
  rw [lcD_eq i _ ft (eVar i) p id ds h1 (fun d _ _ => ?_), Option.bind_some, List.map_id, if_pos (Nat.le_trans (List.length_filter_le _ _) hl)]
  rw [eVar_eq, List.getElem?_set_self (by simpa using hi)]
  rfl
/-! lists of ints -/
def IL (ns : List Int) : List D := ns.map PyData.int
theorem IL_len (ns : List Int) : (IL ns).length = ns.length := List.length_map _
theorem IL_append (a b : List Int) : IL (a ++ b) = IL a ++ IL b := List.map_append
theorem fit_IL (ns : List Int) : fitD (.list (IL ns)) = true := fitD_list fun d hd => by
  obtain ⟨n, _, rfl⟩ := List.mem_map.mp hd
  exact ⟨rfl, Nat.zero_le _⟩
theorem eqvAll_IL : ∀ a b : List Int, PyData.eqvAll (IL a) (IL b) = decide (a = b)
  | [], [] => by rfl
  | [], _ :: _ => by rfl
  | _ :: _, [] => by rfl
  | x :: a, y :: b => by
    show ((x == y) && PyData.eqvAll (IL a) (IL b)) = _
    rw [eqvAll_IL a b]
    by_cases h : x = y
    · subst h; simp
    · simp [h]
theorem eqD_IL (a b : List Int) : eqD (.list (IL a)) (.list (IL b)) = some (.bool (decide (a = b))) := by
  rw [eqD_of _ _ (fit_IL a) (fit_IL b)]
  show some (PyData.bool (PyData.eqvAll (IL a) (IL b))) = _
  rw [eqvAll_IL]
theorem neD_IL (a b : List Int) : neD (.list (IL a)) (.list (IL b)) = some (.bool (!decide (a = b))) := by
  rw [neD_of _ _ (fit_IL a) (fit_IL b)]
  show some (PyData.bool (!PyData.eqvAll (IL a) (IL b))) = _
  rw [eqvAll_IL]
theorem filter_IL (p : D → Bool) (ns : List Int) : (IL ns).filter p = IL (ns.filter fun n => p (.int n)) := by
  unfold IL
  rw [List.filter_map]
  rfl
theorem mem_IL {d : D} {ns : List Int} (h : d ∈ IL ns) : ∃ n, n ∈ ns ∧ d = .int n := by
  obtain ⟨n, hn, e⟩ := List.mem_map.mp h
  exact ⟨n, hn, e.symm⟩
theorem allInts_IL (ns : List Int) : allInts (IL ns) = true := allInts_map ns
theorem intsK_IL (ns : List Int) : intsK (IL ns) = some (IL ns) := intsK_map ns
def rangeZ (lo : Int) (n : Nat) : List Int := (List.range n).map fun k => lo + (k : Nat)
theorem rangeD_IL (lo : Int) (n : Nat) : rangeD lo n = IL (rangeZ lo n) := by
  unfold rangeD IL rangeZ
  rw [List.map_map]
  rfl
end Pd

set_option Elab.async false
set_option linter.all false
set_option maxRecDepth 100000
set_option maxHeartbeats 4000000
namespace K03
open PySem PySem.Spec PyProof.Rows L2 Pd
def topS (i : Nat) : Stmt := PySem.Challenge.pw_wardhouse_k03_rules.main.body.getD i (.Pass ⟨0, 0, 0, 0⟩)
abbrev s_counting : Stmt := topS 1
abbrev s_named : Stmt := topS 2
abbrev s__law_cell_at : Stmt := topS 4
abbrev s__law_whole : Stmt := topS 5
abbrev s__law_numbers : Stmt := topS 6
abbrev s__law_counts : Stmt := topS 7
abbrev s_law : Stmt := topS 8
/-- what the top has written -/
structure TX (K : PySem.W.Frag) (mg : Str → Option Value) : Prop where
  d_counting : Df K mg "counting" s_counting ["hours", "now", "span"]
  d_named : Df K mg "named" s_named ["rule", "size", "at"]
  d__law_cell_at : Df K mg "_law_cell_at" s__law_cell_at ["_law_script", "_law_k"]
  d__law_whole : Df K mg "_law_whole" s__law_whole ["_law_found"]
  d__law_numbers : Df K mg "_law_numbers" s__law_numbers ["_law_found", "_law_due"]
  d__law_counts : Df K mg "_law_counts" s__law_counts ["_law_hours", "_law_now", "_law_span"]
  d_law : Df K mg "law" s_law ["_law_script"]
  z_bool : mg "bool" = none
  z_int : mg "int" = none
  z_isinstance : mg "isinstance" = none
  z_len : mg "len" = none
  z_list : mg "list" = none
  z_max : mg "max" = none
  z_min : mg "min" = none
  z_range : mg "range" = none
section
variable {P : Program} {w : World} {K : PySem.W.Frag} {mg : Str → Option Value} {base : Heap}
/-! counting -/
theorem sc_counting : FnScope ["hours", "now", "span", "hour"] ["hours", "now", "span"] (defScope s_counting) := ⟨rfl, rfl, rfl, by decide +kernel, rfl, by decide +kernel, by decide +kernel⟩
def g_counting : GS :=
    (gRet (eLc (iSeq (eVar 0)) 3 (e2 gtD (eVar 3) (e2 subD (eVar 1) (eVar 2))) (eVar 3)))
def F_counting : List D → Option D := runG 4 3 g_counting
theorem ok_counting (T : TX K mg) : Fx P w K mg base "counting" ["hours", "now", "span"] 1 F_counting := by
  refine fx_of T.d_counting sc_counting rfl rfl (g := g_counting) fun fa cdv A outer s H E hr => ?_
  exact (db_one (ds_ret (de_lc rfl sc_counting.nd (wi_seq (de_var 0)) (blkOk_by (own := [("hour", 3)]) (N := ["hours", "now", "span", "hour"]) (sc := defScope s_counting) (by decide +kernel)) (fun _ _ _ _ _ => pg_name (i := 3) sc_counting.nd rfl (Or.inl rfl)) (fun _ _ _ _ _ => (dts_one (dt_cmp op_gtD (de_var 3) (de_bin op_subD (de_var 1) (de_var 2)) (by rfl)))) (fun _ _ _ _ _ => (de_var 3)))))
def Fr_counting : List D → Option (List D) := runR 4 3 (nLc (iSeq (eVar 0)) 3 (e2 gtD (eVar 3) (e2 subD (eVar 1) (eVar 2))) (eVar 3))
theorem okr_counting (T : TX K mg) : Fxr P w K mg base "counting" ["hours", "now", "span"] 1 Fr_counting := by
  refine fxr_of T.d_counting sc_counting rfl rfl fun fa cdv A outer s H E hr => ?_
  exact pss_one (ps_ret (do_lc rfl sc_counting.nd (wi_seq (de_var 0)) (blkOk_by (own := [("hour", 3)]) (N := ["hours", "now", "span", "hour"]) (sc := defScope s_counting) (by decide +kernel)) (fun _ _ _ _ _ => pg_name (i := 3) sc_counting.nd rfl (Or.inl rfl)) (fun _ _ _ _ _ => (dts_one (dt_cmp op_gtD (de_var 3) (de_bin op_subD (de_var 1) (de_var 2)) (by rfl)))) (fun _ _ _ _ _ => (de_var 3))))
/-! named -/
theorem sc_named : FnScope ["rule", "size", "at"] ["rule", "size", "at"] (defScope s_named) := ⟨rfl, rfl, rfl, by decide +kernel, rfl, by decide +kernel, by decide +kernel⟩
def g_named : GS :=
    (gSeq (gIf (e2 eqD (eVar 0) (eC (.str "one"))) (gRet (eLst (aCons (eVar 2) aNil))) gNil)
    (gSeq (gIf (e2 eqD (eVar 0) (eC (.str "rest"))) (gRet (eLr2 (eVar 2) (eVar 1))) gNil)
    (gRet (eLr1 (eVar 1)))))
def F_named : List D → Option D := runG 3 3 g_named
theorem ok_named (T : TX K mg) : Fx P w K mg base "named" ["rule", "size", "at"] 1 F_named := by
  refine fx_of T.d_named sc_named rfl rfl (g := g_named) fun fa cdv A outer s H E hr => ?_
  exact (db_cons (ds_if (dt_cmp (op_eqDD (hu64 hr)) (de_var 0) de_str (by rfl)) (db_one (ds_ret (de_lst (da_cons (de_var 2) da_nil)))) db_nil)
    (db_cons (ds_if (dt_cmp (op_eqDD (hu64 hr)) (de_var 0) de_str (by rfl)) (db_one (ds_ret (de_lr2 rfl (by rfl) T.z_list (by rfl) T.z_range (de_var 2) (de_var 1)))) db_nil)
    (db_one (ds_ret (de_lr1 rfl (by rfl) T.z_list (by rfl) T.z_range (de_var 1))))))
/-! _law_cell_at -/
theorem sc__law_cell_at : FnScope ["_law_script", "_law_k"] ["_law_script", "_law_k"] (defScope s__law_cell_at) := ⟨rfl, rfl, rfl, by decide +kernel, rfl, by decide +kernel, by decide +kernel⟩
def g__law_cell_at : GS :=
    (gSeq (gIf (e2 ltD (eVar 1) (eCB lenD (aCons (eVar 0) aNil))) (gRet (e2 ixD (eVar 0) (eVar 1))) gNil)
    (gRet (eC (.int 0))))
def F__law_cell_at : List D → Option D := runG 2 2 g__law_cell_at
theorem ok__law_cell_at (T : TX K mg) : Fx P w K mg base "_law_cell_at" ["_law_script", "_law_k"] 1 F__law_cell_at := by
  refine fx_of T.d__law_cell_at sc__law_cell_at rfl rfl (g := g__law_cell_at) fun fa cdv A outer s H E hr => ?_
  exact (db_cons (ds_if (dt_cmp op_ltD (de_var 1) (de_callB ca_len (by rfl) T.z_len (by decide +kernel) (da_cons (de_var 0) da_nil)) (by rfl)) (db_one (ds_ret (de_ix (de_var 0) (de_var 1) (fun _ _ => rfl)))) db_nil)
    (db_one (ds_ret de_int)))
/-! _law_whole -/
theorem sc__law_whole : FnScope ["_law_found"] ["_law_found"] (defScope s__law_whole) := ⟨rfl, rfl, rfl, by decide +kernel, rfl, by decide +kernel, by decide +kernel⟩
def g__law_whole : GS :=
    (gRet (eAnd (eIs "int" (eVar 0)) (eNot (eIs "bool" (eVar 0)))))
def F__law_whole : List D → Option D := runG 1 1 g__law_whole
theorem ok__law_whole (T : TX K mg) : Fx P w K mg base "_law_whole" ["_law_found"] 1 F__law_whole := by
  refine fx_of T.d__law_whole sc__law_whole rfl rfl (g := g__law_whole) fun fa cdv A outer s H E hr => ?_
  exact (db_one (ds_ret (de_and (de_isiB_int T.z_isinstance T.z_int (by rfl) (by rfl) (de_var 0)) (de_one (de_not (de_isiB_bool T.z_isinstance T.z_bool (by rfl) (by rfl) (de_var 0)))))))
/-! _law_numbers -/
theorem sc__law_numbers : FnScope ["_law_found", "_law_due", "_law_one"] ["_law_found", "_law_due"] (defScope s__law_numbers) := ⟨rfl, rfl, rfl, by decide +kernel, rfl, by decide +kernel, by decide +kernel⟩
def g__law_numbers : GS :=
    (gRet (eAnd (eIs "list" (eVar 0)) (eAnd (e2 eqD (eLc (iSeq (eVar 0)) 2 (eNot (eCall (F__law_whole) (aCons (eVar 2) aNil))) (eVar 2)) (eLst aNil)) (e2 eqD (eVar 0) (eVar 1)))))
def F__law_numbers : List D → Option D := runG 3 2 g__law_numbers
theorem ok__law_numbers (T : TX K mg) : Fx P w K mg base "_law_numbers" ["_law_found", "_law_due"] 2 F__law_numbers := by
  refine fx_of T.d__law_numbers sc__law_numbers rfl rfl (g := g__law_numbers) fun fa cdv A outer s H E hr => ?_
  exact (db_one (ds_ret (de_and (de_isiB_list T.z_isinstance T.z_list (by rfl) (by rfl) (de_var 0)) (de_and (de_cmp (op_eqDD (hu64 hr)) (de_lc rfl sc__law_numbers.nd (wi_seq (de_var 0)) (blkOk_by (own := [("_law_one", 2)]) (N := ["_law_found", "_law_due", "_law_one"]) (sc := defScope s__law_numbers) (by decide +kernel)) (fun _ _ _ _ _ => pg_name (i := 2) sc__law_numbers.nd rfl (Or.inl rfl)) (fun _ _ _ _ _ => (dts_one (dt_not (dt_of (de_callx (ok__law_whole T) hr (by omega) (by rfl) (da_cons (de_var 2) da_nil)))))) (fun _ _ _ _ _ => (de_var 2))) (de_lst da_nil) (by rfl)) (de_one (de_cmp (op_eqDD (hu64 hr)) (de_var 0) (de_var 1) (by rfl)))))))
/-! _law_counts -/
theorem sc__law_counts : FnScope ["_law_hours", "_law_now", "_law_span", "_law_handed", "_law_due", "_law_found", "_law_hour"] ["_law_hours", "_law_now", "_law_span"] (defScope s__law_counts) := ⟨rfl, rfl, rfl, by decide +kernel, rfl, by decide +kernel, by decide +kernel⟩
def g__law_counts : GS :=
    (gSeq (gNew 3 (nList (eVar 0)))
    (gSeq (gSet 4 (eLc (iSeq (eVar 0)) 6 (e2 gtD (e2 addD (eVar 6) (eVar 2)) (eVar 1)) (eVar 6)))
    (gSeq (gIf (eBor (eOr (eNot (eCall (F__law_numbers) (aCons (eCall (F_counting) (aCons (eVar 3) (aCons (eVar 1) (aCons (eVar 2) aNil)))) (aCons (eVar 4) aNil)))) (e2 neD (eVar 3) (eVar 0)))) (gRet (eC (.bool false))) gNil)
    (gSeq (gApp 3 (eVar 1))
    (gSeq (gIf (eBor (eNot (eCall (F__law_numbers) (aCons (eCall (F_counting) (aCons (eVar 3) (aCons (eVar 1) (aCons (eVar 2) aNil)))) (aCons (e2 addD (eVar 4) (eLst (aCons (eVar 1) aNil))) aNil))))) (gRet (eC (.bool false))) gNil)
    (gSeq (gPop 3)
    (gSeq (gNew 5 (nCall Fr_counting (aCons (eVar 3) (aCons (eVar 1) (aCons (eVar 2) aNil)))))
    (gSeq (gApp 5 (e1 negD (eC (.int 1))))
    (gRet (eBor (eCall (F__law_numbers) (aCons (eCall (F_counting) (aCons (eVar 3) (aCons (eVar 1) (aCons (eVar 2) aNil)))) (aCons (eVar 4) aNil)))))))))))))
def F__law_counts : List D → Option D := runG 7 3 g__law_counts
theorem ok__law_counts (T : TX K mg) : Fx P w K mg base "_law_counts" ["_law_hours", "_law_now", "_law_span"] 3 F__law_counts := by
  refine fx_of T.d__law_counts sc__law_counts rfl rfl (g := g__law_counts) fun fa cdv A outer s H E hr => ?_
  exact (db_cons (ds_new (i := 3) sc__law_counts.nd rfl (Or.inl rfl) (do_list (by rfl) T.z_list (de_var 0)))
    (db_cons (ds_setLc (j := 4) rfl sc__law_counts.nd rfl rfl (sw_true rfl rfl rfl (by decide +kernel)) (wi_seq (de_var 0)) (blkOk_by (own := [("_law_hour", 6)]) (N := ["_law_hours", "_law_now", "_law_span", "_law_handed", "_law_due", "_law_found", "_law_hour"]) (sc := defScope s__law_counts) (by decide +kernel)) (fun _ _ _ _ _ => pg_name (i := 6) sc__law_counts.nd rfl (Or.inl rfl)) (fun _ _ _ _ _ => (dts_one (dt_cmp op_gtD (de_bin op_addD (de_var 6) (de_var 2)) (de_var 1) (by rfl)))) (fun _ _ _ _ _ => (de_var 6)))
    (db_cons (ds_if (dt_bor (dw_pt (dw_or (dt_not (dt_of (de_callx (ok__law_numbers T) hr (by omega) (by rfl) (da_cons (de_callx (ok_counting T) hr (by omega) (by rfl) (da_cons (de_var 3) (da_cons (de_var 1) (da_cons (de_var 2) da_nil)))) (da_cons (de_var 4) da_nil))))) (dw_or1 (dt_cmp (op_neDD (hu64 hr)) (de_var 3) (de_var 0) (by rfl)))))) (db_one (ds_ret de_bl)) db_nil)
    (db_cons (ds_append (i := 3) rfl (Or.inl rfl) (de_var 1))
    (db_cons (ds_if (dt_bor (dt_not (dt_of (de_callx (ok__law_numbers T) hr (by omega) (by rfl) (da_cons (de_callx (ok_counting T) hr (by omega) (by rfl) (da_cons (de_var 3) (da_cons (de_var 1) (da_cons (de_var 2) da_nil)))) (da_cons (de_bin op_addD (de_var 4) (de_lst (da_cons (de_var 1) da_nil))) da_nil)))))) (db_one (ds_ret de_bl)) db_nil)
    (db_cons (ds_pop (i := 3) rfl (Or.inl rfl))
    (db_cons (ds_new (i := 5) sc__law_counts.nd rfl (Or.inl rfl) (do_callx (okr_counting T) hr (by omega) (by rfl) (da_cons (de_var 3) (da_cons (de_var 1) (da_cons (de_var 2) da_nil)))))
    (db_cons (ds_append (i := 5) rfl (Or.inl rfl) (de_neg de_int))
    (db_one (ds_ret (de_bor (de_callx (ok__law_numbers T) hr (by omega) (by rfl) (da_cons (de_callx (ok_counting T) hr (by omega) (by rfl) (da_cons (de_var 3) (da_cons (de_var 1) (da_cons (de_var 2) da_nil)))) (da_cons (de_var 4) da_nil))))))))))))))
/-! law -/
theorem sc_law : FnScope ["_law_script", "_law_cell", "_law_now", "_law_span", "_law_hours", "_law_k", "_law_near", "_law_size", "_law_at"] ["_law_script"] (defScope s_law) := ⟨rfl, rfl, rfl, by decide +kernel, rfl, by decide +kernel, by decide +kernel⟩
def b_law_1 : GS :=
    (gSeq (gSet 1 (eCall (F__law_cell_at) (aCons (eVar 0) (aCons (e2 addD (eC (.int 5)) (eVar 5)) aNil))))
    (gSeq (gSet 6 (e2 ixD (eLst (aCons (e2 addD (e2 subD (e2 subD (eVar 2) (eVar 3)) (eC (.int 1))) (e2 modD (e2 divD (eVar 1) (eC (.int 3))) (eC (.int 3)))) (aCons (e2 subD (eVar 2) (e2 modD (e2 divD (eVar 1) (eC (.int 3))) (eC (.int 5)))) (aCons (e2 modD (e2 divD (eVar 1) (eC (.int 3))) (e2 addD (eVar 2) (eC (.int 1)))) aNil)))) (e2 modD (eVar 1) (eC (.int 3)))))
    (gApp 4 (eCB maxD (aCons (eC (.int 0)) (aCons (eCB minD (aCons (eVar 2) (aCons (eVar 6) aNil))) aNil))))))
def g_law : GS :=
    (gSeq (gSet 1 (eCall (F__law_cell_at) (aCons (eVar 0) (aCons (eC (.int 0)) aNil))))
    (gSeq (gSet 2 (e2 ixD (eLst (aCons (e2 modD (e2 divD (eVar 1) (eC (.int 4))) (eC (.int 12))) (aCons (e2 modD (e2 divD (eVar 1) (eC (.int 4))) (e2 powD (eC (.int 10)) (eC (.int 9)))) (aCons (e2 modD (e2 divD (eVar 1) (eC (.int 4))) (eC (.int 60))) (aCons (e2 powD (eC (.int 10)) (eC (.int 9))) aNil))))) (e2 modD (eVar 1) (eC (.int 4)))))
    (gSeq (gSet 1 (eCall (F__law_cell_at) (aCons (eVar 0) (aCons (eC (.int 1)) aNil))))
    (gSeq (gSet 3 (e2 addD (eC (.int 1)) (e2 modD (e2 ixD (eLst (aCons (e2 modD (e2 divD (eVar 1) (eC (.int 4))) (eC (.int 6))) (aCons (e2 modD (e2 divD (eVar 1) (eC (.int 4))) (e2 powD (eC (.int 10)) (eC (.int 9)))) (aCons (eVar 2) (aCons (e2 subD (e2 powD (eC (.int 10)) (eC (.int 9))) (eC (.int 1))) aNil))))) (e2 modD (eVar 1) (eC (.int 4)))) (e2 powD (eC (.int 10)) (eC (.int 9))))))
    (gSeq (gOwn 4 aNil)
    (gSeq (gFor (iR1 (aCons (e2 modD (eCall (F__law_cell_at) (aCons (eVar 0) (aCons (eC (.int 2)) aNil))) (eC (.int 10))) aNil)) 5 b_law_1)
    (gSeq (gIf (eBor (eNot (eCall (F__law_counts) (aCons (eVar 4) (aCons (eVar 2) (aCons (eVar 3) aNil)))))) (gRet (eC (.bool false))) gNil)
    (gSeq (gSet 7 (e2 addD (eC (.int 1)) (e2 modD (eCall (F__law_cell_at) (aCons (eVar 0) (aCons (eC (.int 3)) aNil))) (eC (.int 8)))))
    (gSeq (gSet 8 (e2 modD (eCall (F__law_cell_at) (aCons (eVar 0) (aCons (eC (.int 4)) aNil))) (eVar 7)))
    (gSeq (gIf (eOr (eNot (eCall (F__law_numbers) (aCons (eCall (F_named) (aCons (eC (.str "one")) (aCons (eVar 7) (aCons (eVar 8) aNil)))) (aCons (eLst (aCons (eVar 8) aNil)) aNil)))) (eNot (eCall (F__law_numbers) (aCons (eCall (F_named) (aCons (eC (.str "all")) (aCons (eVar 7) (aCons (eVar 8) aNil)))) (aCons (eLr1 (eVar 7)) aNil))))) (gRet (eC (.bool false))) gNil)
    (gRet (eCall (F__law_numbers) (aCons (eCall (F_named) (aCons (eC (.str "rest")) (aCons (eVar 7) (aCons (eVar 8) aNil)))) (aCons (eLc (iR1 (aCons (eVar 7) aNil)) 5 (e2 geD (eVar 5) (eVar 8)) (eVar 5)) aNil))))))))))))))
def F_law : List D → Option D := runG 9 1 g_law
theorem ok_law (T : TX K mg) : Fx P w K mg base "law" ["_law_script"] 4 F_law := by
  refine fx_of T.d_law sc_law rfl rfl (g := g_law) fun fa cdv A outer s H E hr => ?_
  exact (db_cons (ds_set (i := 1) sc_law.nd rfl (Or.inl rfl) (de_callx (ok__law_cell_at T) hr (by omega) (by rfl) (da_cons (de_var 0) (da_cons de_int da_nil))))
    (db_cons (ds_set (i := 2) sc_law.nd rfl (Or.inl rfl) (de_ix (de_lst (da_cons (de_bin op_modD (de_bin op_divD (de_var 1) de_int) de_int) (da_cons (de_bin op_modD (de_bin op_divD (de_var 1) de_int) (de_bin op_powD de_int de_int)) (da_cons (de_bin op_modD (de_bin op_divD (de_var 1) de_int) de_int) (da_cons (de_bin op_powD de_int de_int) da_nil))))) (de_bin op_modD (de_var 1) de_int) (fun _ _ => rfl)))
    (db_cons (ds_set (i := 1) sc_law.nd rfl (Or.inl rfl) (de_callx (ok__law_cell_at T) hr (by omega) (by rfl) (da_cons (de_var 0) (da_cons de_int da_nil))))
    (db_cons (ds_set (i := 3) sc_law.nd rfl (Or.inl rfl) (de_bin op_addD de_int (de_bin op_modD (de_ix (de_lst (da_cons (de_bin op_modD (de_bin op_divD (de_var 1) de_int) de_int) (da_cons (de_bin op_modD (de_bin op_divD (de_var 1) de_int) (de_bin op_powD de_int de_int)) (da_cons (de_var 2) (da_cons (de_bin op_subD (de_bin op_powD de_int de_int) de_int) da_nil))))) (de_bin op_modD (de_var 1) de_int) (fun _ _ => rfl)) (de_bin op_powD de_int de_int))))
    (db_cons (ds_own (i := 4) sc_law.nd rfl (Or.inl rfl) da_nil)
    (db_cons (ds_for PassesOwn.never rfl (wi_range1 (by rfl) T.z_range (da_cons (de_bin op_modD (de_callx (ok__law_cell_at T) hr (by omega) (by rfl) (da_cons (de_var 0) (da_cons de_int da_nil))) de_int) da_nil)) (pg_name (i := 5) sc_law.nd rfl (Or.inl rfl)) (db_cons (ds_set (i := 1) sc_law.nd rfl (Or.inl rfl) (de_callx (ok__law_cell_at T) hr (by omega) (by rfl) (da_cons (de_var 0) (da_cons (de_bin op_addD de_int (de_var 5)) da_nil))))
    (db_cons (ds_set (i := 6) sc_law.nd rfl (Or.inl rfl) (de_ix (de_lst (da_cons (de_bin op_addD (de_bin op_subD (de_bin op_subD (de_var 2) (de_var 3)) de_int) (de_bin op_modD (de_bin op_divD (de_var 1) de_int) de_int)) (da_cons (de_bin op_subD (de_var 2) (de_bin op_modD (de_bin op_divD (de_var 1) de_int) de_int)) (da_cons (de_bin op_modD (de_bin op_divD (de_var 1) de_int) (de_bin op_addD (de_var 2) de_int)) da_nil)))) (de_bin op_modD (de_var 1) de_int) (fun _ _ => rfl)))
    (db_one (ds_append (i := 4) rfl (Or.inl rfl) (de_callB (ca_max rfl) (by rfl) T.z_max (by decide +kernel) (da_cons de_int (da_cons (de_callB (ca_min rfl) (by rfl) T.z_min (by decide +kernel) (da_cons (de_var 2) (da_cons (de_var 6) da_nil))) da_nil))))))))
    (db_cons (ds_if (dt_bor (dt_not (dt_of (de_callx (ok__law_counts T) hr (by omega) (by rfl) (da_cons (de_var 4) (da_cons (de_var 2) (da_cons (de_var 3) da_nil))))))) (db_one (ds_ret de_bl)) db_nil)
    (db_cons (ds_set (i := 7) sc_law.nd rfl (Or.inl rfl) (de_bin op_addD de_int (de_bin op_modD (de_callx (ok__law_cell_at T) hr (by omega) (by rfl) (da_cons (de_var 0) (da_cons de_int da_nil))) de_int)))
    (db_cons (ds_set (i := 8) sc_law.nd rfl (Or.inr rfl) (de_bin op_modD (de_callx (ok__law_cell_at T) hr (by omega) (by rfl) (da_cons (de_var 0) (da_cons de_int da_nil))) (de_var 7)))
    (db_cons (ds_if (dw_pt (dw_or (dt_not (dt_of (de_callx (ok__law_numbers T) hr (by omega) (by rfl) (da_cons (de_callx (ok_named T) hr (by omega) (by rfl) (da_cons de_str (da_cons (de_var 7) (da_cons (de_var 8) da_nil)))) (da_cons (de_lst (da_cons (de_var 8) da_nil)) da_nil))))) (dw_or1 (dt_not (dt_of (de_callx (ok__law_numbers T) hr (by omega) (by rfl) (da_cons (de_callx (ok_named T) hr (by omega) (by rfl) (da_cons de_str (da_cons (de_var 7) (da_cons (de_var 8) da_nil)))) (da_cons (de_lr1 rfl (by rfl) T.z_list (by rfl) T.z_range (de_var 7)) da_nil)))))))) (db_one (ds_ret de_bl)) db_nil)
    (db_one (ds_ret (de_callx (ok__law_numbers T) hr (by omega) (by rfl) (da_cons (de_callx (ok_named T) hr (by omega) (by rfl) (da_cons de_str (da_cons (de_var 7) (da_cons (de_var 8) da_nil)))) (da_cons (de_lc rfl sc_law.nd (wi_range1 (by rfl) T.z_range (da_cons (de_var 7) da_nil)) (blkOk_by (own := [("_law_k", 5)]) (N := ["_law_script", "_law_cell", "_law_now", "_law_span", "_law_hours", "_law_k", "_law_near", "_law_size", "_law_at"]) (sc := defScope s_law) (by decide +kernel)) (fun _ _ _ _ _ => pg_name (i := 5) sc_law.nd rfl (Or.inl rfl)) (fun _ _ _ _ _ => (dts_one (dt_cmp op_geD (de_var 5) (de_var 8) (by rfl)))) (fun _ _ _ _ _ => (de_var 5))) da_nil)))))))))))))))
end
end K03

set_option Elab.async false
set_option linter.all false
set_option maxRecDepth 100000
set_option maxHeartbeats 4000000
namespace K03
open PySem PySem.Spec L2 Pd
theorem whole_eq (i : Int) : F__law_whole [.int i] = some (.bool true) := by
  refine F1 rfl ?_
  unfold g__law_whole
  simp
theorem cell_eq (ns : List Int) (k : Nat) : F__law_cell_at [.list (ns.map PyData.int), .int k] = some (.int (cellZ ns k)) := by
  refine F1 rfl ?_
  unfold g__law_cell_at
  by_cases h : k < ns.length
  · simp [h, atI_n, cellZ]
  · simp [h, cellZ]
theorem numbers_eq (a b : List Int) (h : a.length ≤ 1000) : F__law_numbers [.list (IL a), .list (IL b)] = some (.bool (decide (a = b))) := by
  refine F1 rfl ?_
  unfold g__law_numbers
  have e : lcQ 2 (eNot (eCall (F__law_whole) (aCons (eVar 2) aNil))) (eVar 2) [.val (.list (IL a)), .val (.list (IL b)), .un] (IL a) = some (.list []) := by
    rw [lcQ_filter (fun _ => false) (by simp) (fun d hd => ?_) (by rw [IL_len, lim_eq]; omega)]
    · congr 2
      exact List.filter_eq_nil_iff.mpr fun _ _ => by simp
    · obtain ⟨n, _, rfl⟩ := mem_IL hd
      simp [whole_eq]
  have e0 : eqD (.list []) (.list []) = some (.bool true) := by rfl
  simp [e, e0, eqD_IL]
def cnt (now span : Int) (hs : List Int) : List Int := hs.filter fun h => decide (now - span < h)
theorem counting_eq (hs : List Int) (now span : Int) (h : hs.length ≤ 1000) : F_counting [.list (IL hs), .int now, .int span] = some (.list (IL (cnt now span hs))) := by
  refine F1 rfl ?_
  unfold g_counting
  have e : lcQ 3 (e2 gtD (eVar 3) (e2 subD (eVar 1) (eVar 2))) (eVar 3) [.val (.list (IL hs)), .val (.int now), .val (.int span), .un] (IL hs) = some (.list (IL (cnt now span hs))) := by
    rw [lcQ_filter (fun d => match d with | .int h => decide (now - span < h) | _ => false) (by simp) (fun d hd => ?_) (by rw [IL_len, lim_eq]; omega)]
    · rw [filter_IL]
      rfl
    · obtain ⟨n, _, rfl⟩ := mem_IL hd
      simp
  simp [e]
theorem countingR_eq (hs : List Int) (now span : Int) (h : hs.length ≤ 1000) : Fr_counting [.list (IL hs), .int now, .int span] = some (IL (cnt now span hs)) := by
  unfold Fr_counting
  rw [runR_eq 4 3 _ _ (by rfl)]
  have e : lcN 3 (e2 gtD (eVar 3) (e2 subD (eVar 1) (eVar 2))) (eVar 3) [.val (.list (IL hs)), .val (.int now), .val (.int span), .un] (IL hs) = some (IL (cnt now span hs)) := by
    rw [lcN_filter (fun d => match d with | .int h => decide (now - span < h) | _ => false) (by simp) (fun d hd => ?_) (by rw [IL_len, lim_eq]; omega)]
    · rw [filter_IL]
      rfl
    · obtain ⟨n, _, rfl⟩ := mem_IL hd
      simp
  simp [e]
theorem cnt_len (now span : Int) (hs : List Int) : (cnt now span hs).length ≤ hs.length := List.length_filter_le _ _
theorem counts_eq (hs : List Int) (now span : Int) (h : hs.length ≤ 100) (hp : 0 < span) : F__law_counts [.list (IL hs), .int now, .int span] = some (.bool true) := by
  refine F1 rfl ?_
  unfold g__law_counts
  have e : lcQ 6 (e2 gtD (e2 addD (eVar 6) (eVar 2)) (eVar 1)) (eVar 6) [.val (.list (IL hs)), .val (.int now), .val (.int span), .own (IL hs), .un, .un, .un] (IL hs) = some (.list (IL (cnt now span hs))) := by
    rw [lcQ_filter (fun d => match d with | .int h => decide (now < h + span) | _ => false) (by simp) (fun d hd => ?_) (by rw [IL_len, lim_eq]; omega)]
    · rw [filter_IL]
      congr 3
      unfold cnt
      congr 1
      funext x
      rw [Bool.eq_iff_iff, decide_eq_true_eq, decide_eq_true_eq]
      omega
    · obtain ⟨n, _, rfl⟩ := mem_IL hd
      simp
  have hc := cnt_len now span hs
  have e1 : IL hs ++ [PyData.int now] = IL (hs ++ [now]) := by rw [IL_append]; rfl
  have e2 : IL (cnt now span hs) ++ [PyData.int now] = IL (cnt now span hs ++ [now]) := by rw [IL_append]; rfl
  have e3 : cnt now span (hs ++ [now]) = cnt now span hs ++ [now] := by
    unfold cnt
    rw [List.filter_append]
    congr 1
    simp
    omega
  have l0 : (IL hs).length < lim := by rw [IL_len, lim_eq]; omega
  have l1 : (IL (cnt now span hs)).length + 1 ≤ lim := by rw [IL_len, lim_eq]; omega
  have l2 : (IL (cnt now span hs)).length < lim := by rw [IL_len, lim_eq]; omega
  have c0 := counting_eq hs now span (by omega)
  have c1 := counting_eq (hs ++ [now]) now span (by simp; omega)
  have c2 := countingR_eq hs now span (by omega)
  have n0 := numbers_eq (cnt now span hs) (cnt now span hs) (by omega)
  have n1 := numbers_eq (cnt now span (hs ++ [now])) (cnt now span hs ++ [now]) (by rw [e3]; simp; omega)
  have a1 : appK 3 [.val (.list (IL hs)), .val (.int now), .val (.int span), .own (IL hs), .val (.list (IL (cnt now span hs))), .un, .un] (.int now) (some (.own (IL hs))) = some (.nx [.val (.list (IL hs)), .val (.int now), .val (.int span), .own (IL (hs ++ [now])), .val (.list (IL (cnt now span hs))), .un, .un]) := by
    rw [appK_own _ _ _ _ l0, e1]
    rfl
  have a2 : addD (.list (IL (cnt now span hs))) (.list [.int now]) = some (.list (IL (cnt now span hs ++ [now]))) := by
    rw [addD_list _ _ l1, e2]
  have p1 : popK 3 [.val (.list (IL hs)), .val (.int now), .val (.int span), .own (IL (hs ++ [now])), .val (.list (IL (cnt now span hs))), .un, .un] (some (.own (IL (hs ++ [now])))) = some (.nx [.val (.list (IL hs)), .val (.int now), .val (.int span), .own (IL hs), .val (.list (IL (cnt now span hs))), .un, .un]) := by
    rw [popK_own _ _ _ (by rw [← e1]; simp), ← e1, List.dropLast_concat]
    rfl
  have a3 : appK 5 [.val (.list (IL hs)), .val (.int now), .val (.int span), .own (IL hs), .val (.list (IL (cnt now span hs))), .own (IL (cnt now span hs)), .un] (.int (-1)) (some (.own (IL (cnt now span hs)))) = some (.nx [.val (.list (IL hs)), .val (.int now), .val (.int span), .own (IL hs), .val (.list (IL (cnt now span hs))), .own (IL (cnt now span hs) ++ [.int (-1)]), .un]) := by
    rw [appK_own _ _ _ _ l2]
    rfl
  rw [e3] at n1
  rw [decide_eq_true rfl] at n0 n1
  rw [e3] at c1
  simp [-appK_own, e, c0, n0, neD_IL, a1, c1, a2, n1, p1, c2, intsK_IL, a3]
theorem cell_eq' (ns : List Int) (i : Int) (h : 0 ≤ i) : F__law_cell_at [.list (ns.map PyData.int), .int i] = some (.int (cellZ ns i.toNat)) := by
  have e : i = ((i.toNat : Nat) : Int) := by omega
  rw [e, cell_eq, Int.toNat_natCast]
@[simp] theorem cell_0 (ns : List Int) : F__law_cell_at [.list (ns.map PyData.int), .int 0] = some (.int (cellZ ns 0)) := cell_eq ns 0
@[simp] theorem cell_1 (ns : List Int) : F__law_cell_at [.list (ns.map PyData.int), .int 1] = some (.int (cellZ ns 1)) := cell_eq ns 1
@[simp] theorem cell_2 (ns : List Int) : F__law_cell_at [.list (ns.map PyData.int), .int 2] = some (.int (cellZ ns 2)) := cell_eq ns 2
@[simp] theorem cell_3 (ns : List Int) : F__law_cell_at [.list (ns.map PyData.int), .int 3] = some (.int (cellZ ns 3)) := cell_eq ns 3
@[simp] theorem cell_4 (ns : List Int) : F__law_cell_at [.list (ns.map PyData.int), .int 4] = some (.int (cellZ ns 4)) := cell_eq ns 4
theorem named_one (size at_ : Int) : F_named [.str "one", .int size, .int at_] = some (.list (IL [at_])) := by
  refine F1 rfl ?_
  unfold g_named
  simp
  rfl
theorem str_ne (a b : Str) (h : (a == b) = false) : eqD (.str a) (.str b) = some (.bool false) := by rw [eqD_ss, h]
theorem named_all (size at_ : Int) (h : 0 ≤ size ∧ size ≤ 100) : F_named [.str "all", .int size, .int at_] = some (.list (IL (rangeZ 0 size.toNat))) := by
  refine F1 rfl ?_
  unfold g_named
  have e1 := str_ne "all" "one" (by decide +kernel)
  have e2 := str_ne "all" "rest" (by decide +kernel)
  have e3 := eLr1_eq (eVar 1) [.val (.str "all"), .val (.int size), .val (.int at_)] size (by simp) (by omega) (by omega)
  rw [rangeD_IL] at e3
  simp [-eqD_ss, e1, e2, e3]
theorem named_rest (size at_ : Int) (h : 0 ≤ size ∧ size ≤ 100 ∧ 0 ≤ at_ ∧ at_ ≤ 100) : F_named [.str "rest", .int size, .int at_] = some (.list (IL (rangeZ at_ (size - at_).toNat))) := by
  refine F1 rfl ?_
  unfold g_named
  have e1 := str_ne "rest" "one" (by decide +kernel)
  have e3 := eLr2_eq (eVar 2) (eVar 1) [.val (.str "rest"), .val (.int size), .val (.int at_)] at_ size (by simp) (by simp) (by omega)
  rw [rangeD_IL] at e3
  have e4 : eqD (.str "rest") (.str "rest") = some (.bool true) := by rw [eqD_ss, beq_self_eq_true]
  simp [-eqD_ss, e1, e3, e4]
theorem rest_eq (size at_ : Int) (h : 0 ≤ at_ ∧ at_ < size ∧ size ≤ 8) : (rangeZ 0 size.toNat).filter (fun k => decide (at_ ≤ k)) = rangeZ at_ (size - at_).toNat := by
  have key : ∀ n : Nat, n < 9 → ∀ a : Nat, a < n → (rangeZ 0 n).filter (fun k => decide ((a : Int) ≤ k)) = rangeZ a (n - a) := by decide +kernel
  have := key size.toNat (by omega) at_.toNat (by omega)
  rw [show ((at_.toNat : Nat) : Int) = at_ by omega] at this
  rw [this]
  congr 1
  omega
theorem rangeZ_len (lo : Int) (n : Nat) : (rangeZ lo n).length = n := by
  unfold rangeZ
  rw [List.length_map, List.length_range]
theorem now_ok (c : Int) : ∃ n, 0 ≤ n ∧ atI [PyData.int (c / 4 % 12), .int (c / 4 % 1000000000), .int (c / 4 % 60), .int 1000000000] (c % 4) = some (.int n) := by
  have hr : c % 4 = 0 ∨ c % 4 = 1 ∨ c % 4 = 2 ∨ c % 4 = 3 := by omega
  rcases hr with h | h | h | h <;> rw [h]
  · exact ⟨c / 4 % 12, by omega, by simp⟩
  · exact ⟨c / 4 % 1000000000, by omega, by simp⟩
  · exact ⟨c / 4 % 60, by omega, by simp⟩
  · exact ⟨1000000000, by omega, by simp⟩
theorem span_ok (c now : Int) : ∃ n, atI [PyData.int (c / 4 % 6), .int (c / 4 % 1000000000), .int now, .int 999999999] (c % 4) = some (.int n) := by
  have hr : c % 4 = 0 ∨ c % 4 = 1 ∨ c % 4 = 2 ∨ c % 4 = 3 := by omega
  rcases hr with h | h | h | h <;> rw [h]
  · exact ⟨_, by simp; rfl⟩
  · exact ⟨_, by simp; rfl⟩
  · exact ⟨_, by simp; rfl⟩
  · exact ⟨_, by simp; rfl⟩
theorem near_ok (a b d c : Int) : ∃ n, atI [PyData.int a, .int b, .int d] (c % 3) = some (.int n) := by
  have hr : c % 3 = 0 ∨ c % 3 = 1 ∨ c % 3 = 2 := by omega
  rcases hr with h | h | h <;> rw [h]
  · exact ⟨a, by simp⟩
  · exact ⟨b, by simp⟩
  · exact ⟨d, by simp⟩
theorem law_true (ns : List Int) : F_law [.list (ns.map PyData.int)] = some (.bool true) := by
  obtain ⟨now, hn, en⟩ := now_ok (cellZ ns 0)
  obtain ⟨sp, es⟩ := span_ok (cellZ ns 1) now
  obtain ⟨span, hspan⟩ : ∃ span, span = 1 + sp % 1000000000 := ⟨_, rfl⟩
  have hp : 0 < span := by omega
  let Inv : Nat → List Sl → Prop := fun j δ => ∃ (hs : List Int) (x y z : Sl), δ = [.val (.list (ns.map PyData.int)), x, .val (.int now), .val (.int span), .own (IL hs), y, z, .un, .un] ∧ hs.length = j
  have hm : 0 ≤ cellZ ns 2 % 10 ∧ cellZ ns 2 % 10 < 10 := by omega
  obtain ⟨δ', e1, hs, x, y, z, rfl, hl⟩ := forG_inv (i := 5) (body := b_law_1) Inv (rangeD 0 (cellZ ns 2 % 10).toNat) 0 [.val (.list (ns.map PyData.int)), .val (.int (cellZ ns 1)), .val (.int now), .val (.int span), .own (IL []), .un, .un, .un, .un] ⟨[], _, _, _, rfl, rfl⟩ fun j d δ hj hI => by
    obtain ⟨hs, x, y, z, rfl, hl⟩ := hI
    obtain ⟨k, hk, rfl⟩ := mem_rangeD (List.mem_of_getElem? hj)
    have hjl : j < (cellZ ns 2 % 10).toNat := by
      have := (List.getElem?_eq_some_iff.mp hj).1
      rw [rangeD_IL, IL_len, rangeZ_len] at this
      exact this
    have ec : F__law_cell_at [.list (ns.map PyData.int), .int (5 + (k : Int))] = some (.int (cellZ ns (5 + k))) := by
      rw [cell_eq' _ _ (by omega)]
      congr 3
    obtain ⟨nr, en2⟩ := near_ok (now - span - 1 + cellZ ns (5 + k) / 3 % 3) (now - cellZ ns (5 + k) / 3 % 5) (cellZ ns (5 + k) / 3 % (now + 1)) (cellZ ns (5 + k))
    have hm1 : 0 < now + 1 := by omega
    have l0 : (IL hs).length < lim := by rw [IL_len, lim_eq]; omega
    refine ⟨[.val (.list (ns.map PyData.int)), .val (.int (cellZ ns (5 + k))), .val (.int now), .val (.int span), .own (IL (hs ++ [if (if nr < now then nr else now) > 0 then (if nr < now then nr else now) else 0])), .val (.int k), .val (.int nr), .un, .un], ?_, _, _, _, _, rfl, by simp [hl]⟩
    unfold b_law_1
    have a1 : ∀ (v : Int), appK 4 [.val (.list (ns.map PyData.int)), .val (.int (cellZ ns (5 + k))), .val (.int now), .val (.int span), .own (IL hs), .val (.int k), .val (.int nr), .un, .un] (.int v) (some (.own (IL hs))) = some (.nx [.val (.list (ns.map PyData.int)), .val (.int (cellZ ns (5 + k))), .val (.int now), .val (.int span), .own (IL (hs ++ [v])), .val (.int k), .val (.int nr), .un, .un]) := fun v => by
      rw [appK_own _ _ _ _ l0, IL_append]
      rfl
    simp [-appK_own, ec, hm1, en2, a1]
  have hl' : hs.length ≤ 100 := by
    rw [rangeD_IL, IL_len, rangeZ_len] at hl
    omega
  have cc := counts_eq hs now span hl' hp
  have hz : 0 ≤ 1 + cellZ ns 3 % 8 ∧ 1 + cellZ ns 3 % 8 ≤ 8 := by omega
  have hz0 : 0 < 1 + cellZ ns 3 % 8 := by omega
  obtain ⟨size, hsize⟩ : ∃ size, size = 1 + cellZ ns 3 % 8 := ⟨_, rfl⟩
  obtain ⟨at_, hat⟩ : ∃ at_, at_ = cellZ ns 4 % size := ⟨_, rfl⟩
  have h1 : 0 ≤ at_ ∧ at_ < size ∧ size ≤ 8 := by
    have := Int.emod_nonneg (cellZ ns 4) (show size ≠ 0 by omega)
    have := Int.emod_lt_of_pos (cellZ ns 4) (show 0 < size by omega)
    omega
  have hs0 : 0 < size := by omega
  have q1 := named_one size at_
  have q2 := named_all size at_ (by omega)
  have q3 := named_rest size at_ (by omega)
  have q4 : lcQ 5 (e2 geD (eVar 5) (eVar 8)) (eVar 5) [.val (.list (ns.map PyData.int)), x, .val (.int now), .val (.int span), .own (IL hs), y, z, .val (.int size), .val (.int at_)] (IL (rangeZ 0 size.toNat)) = some (.list (IL (rangeZ at_ (size - at_).toNat))) := by
    rw [lcQ_filter (fun d => match d with | .int k => decide (at_ ≤ k) | _ => false) (by simp) (fun d hd => ?_) (by rw [IL_len, rangeZ_len, lim_eq]; omega)]
    · rw [filter_IL, ← rest_eq size at_ h1]
    · obtain ⟨n, _, rfl⟩ := mem_IL hd
      simp
  have n1 := numbers_eq [at_] [at_] (by simp)
  have n2 := numbers_eq (rangeZ 0 size.toNat) (rangeZ 0 size.toNat) (by rw [rangeZ_len]; omega)
  have n3 := numbers_eq (rangeZ at_ (size - at_).toNat) (rangeZ at_ (size - at_).toNat) (by rw [rangeZ_len]; omega)
  rw [decide_eq_true rfl] at n1 n2 n3
  have l1 := eLr1_eq (eVar 7) [.val (.list (ns.map PyData.int)), x, .val (.int now), .val (.int span), .own (IL hs), y, z, .val (.int size), .val (.int at_)] size (by simp) (by omega) (by omega)
  rw [rangeD_IL] at l1
  have r1 : r1K [.int size] = some (IL (rangeZ 0 size.toNat)) := by rw [r1K_eq _ (by omega), rangeD_IL]
  have r2 := r1K_eq (cellZ ns 2 % 10) (by omega)
  have i1 : [PyData.int at_] = IL [at_] := rfl
  refine F1 rfl ?_
  unfold g_law
  have e1' : forG 5 b_law_1 (rangeD 0 (cellZ ns 2 % 10).toNat) [.val (.list (ns.map PyData.int)), .val (.int (cellZ ns 1)), .val (.int now), .val (.int span), .own [], .un, .un, .un, .un] = _ := e1
  have n1' : F__law_numbers [.list (IL [at_]), .list [.int at_]] = some (.bool true) := n1
  simp [-appK_own, n1', en, es, ← hspan, r2, e1', cc, ← hsize, hs0, ← hat, q1, q2, q3, q4, n2, n3, l1, r1]
end K03

set_option Elab.async false
set_option linter.all false
set_option maxRecDepth 100000
set_option maxHeartbeats 4000000
namespace K03
open PySem PySem.Spec PyProof.Rows L2 Pd
theorem all_mk {K : PySem.W.Frag} {h : Heap} {mg : Str → Option Value} (X : K.In h) (G : h.Ns mainGlobals mg) {f0 f1 f2 f3 f4 f5 f6 : Addr}
    {od0 an0 od1 an1 od2 an2 od3 an3 od4 an4 od5 an5 od6 an6 : Option Addr} {sl0 sl1 sl2 sl3 sl4 sl5 sl6 : Array (Option Value)} {oc0 kV0 dc0 pm0 cd0 ct0 oc1 kV1 dc1 pm1 cd1 ct1 oc2 kV2 dc2 pm2 cd2 ct2 oc3 kV3 dc3 pm3 cd3 ct3 oc4 kV4 dc4 pm4 cd4 ct4 oc5 kV5 dc5 pm5 cd5 ct5 oc6 kV6 dc6 pm6 cd6 ct6 : Value}
    (a0 : PySem.W.nsIn K mainGlobals "counting" = some (some (.ref f0))) (l0 : K.lookup f0 = some ⟨oc0, od0, .func (PySem.W.fnOf "counting" "counting" (defArgs s_counting) (defBody s_counting) (defScope s_counting) .none kV0 dc0 pm0 an0 cd0 ct0), sl0⟩) (c0 : PySem.W.codeIn K cd0 "counting" = true) (k0 : PySem.W.keepIn K (.ref f0) = true)
    (a1 : PySem.W.nsIn K mainGlobals "named" = some (some (.ref f1))) (l1 : K.lookup f1 = some ⟨oc1, od1, .func (PySem.W.fnOf "named" "named" (defArgs s_named) (defBody s_named) (defScope s_named) .none kV1 dc1 pm1 an1 cd1 ct1), sl1⟩) (c1 : PySem.W.codeIn K cd1 "named" = true) (k1 : PySem.W.keepIn K (.ref f1) = true)
    (a2 : PySem.W.nsIn K mainGlobals "_law_cell_at" = some (some (.ref f2))) (l2 : K.lookup f2 = some ⟨oc2, od2, .func (PySem.W.fnOf "_law_cell_at" "_law_cell_at" (defArgs s__law_cell_at) (defBody s__law_cell_at) (defScope s__law_cell_at) .none kV2 dc2 pm2 an2 cd2 ct2), sl2⟩) (c2 : PySem.W.codeIn K cd2 "_law_cell_at" = true) (k2 : PySem.W.keepIn K (.ref f2) = true)
    (a3 : PySem.W.nsIn K mainGlobals "_law_whole" = some (some (.ref f3))) (l3 : K.lookup f3 = some ⟨oc3, od3, .func (PySem.W.fnOf "_law_whole" "_law_whole" (defArgs s__law_whole) (defBody s__law_whole) (defScope s__law_whole) .none kV3 dc3 pm3 an3 cd3 ct3), sl3⟩) (c3 : PySem.W.codeIn K cd3 "_law_whole" = true) (k3 : PySem.W.keepIn K (.ref f3) = true)
    (a4 : PySem.W.nsIn K mainGlobals "_law_numbers" = some (some (.ref f4))) (l4 : K.lookup f4 = some ⟨oc4, od4, .func (PySem.W.fnOf "_law_numbers" "_law_numbers" (defArgs s__law_numbers) (defBody s__law_numbers) (defScope s__law_numbers) .none kV4 dc4 pm4 an4 cd4 ct4), sl4⟩) (c4 : PySem.W.codeIn K cd4 "_law_numbers" = true) (k4 : PySem.W.keepIn K (.ref f4) = true)
    (a5 : PySem.W.nsIn K mainGlobals "_law_counts" = some (some (.ref f5))) (l5 : K.lookup f5 = some ⟨oc5, od5, .func (PySem.W.fnOf "_law_counts" "_law_counts" (defArgs s__law_counts) (defBody s__law_counts) (defScope s__law_counts) .none kV5 dc5 pm5 an5 cd5 ct5), sl5⟩) (c5 : PySem.W.codeIn K cd5 "_law_counts" = true) (k5 : PySem.W.keepIn K (.ref f5) = true)
    (a6 : PySem.W.nsIn K mainGlobals "law" = some (some (.ref f6))) (l6 : K.lookup f6 = some ⟨oc6, od6, .func (PySem.W.fnOf "law" "law" (defArgs s_law) (defBody s_law) (defScope s_law) .none kV6 dc6 pm6 an6 cd6 ct6), sl6⟩) (c6 : PySem.W.codeIn K cd6 "law" = true) (k6 : PySem.W.keepIn K (.ref f6) = true)
    (z_bool : PySem.W.nsIn K mainGlobals "bool" = some none)
    (z_int : PySem.W.nsIn K mainGlobals "int" = some none)
    (z_isinstance : PySem.W.nsIn K mainGlobals "isinstance" = some none)
    (z_len : PySem.W.nsIn K mainGlobals "len" = some none)
    (z_list : PySem.W.nsIn K mainGlobals "list" = some none)
    (z_max : PySem.W.nsIn K mainGlobals "max" = some none)
    (z_min : PySem.W.nsIn K mainGlobals "min" = some none)
    (z_range : PySem.W.nsIn K mainGlobals "range" = some none)
    : TX K mg where
  d_counting := ⟨f0, _, fun_mk (st := s_counting) l0 c0 k0, PySem.W.mg_of X G a0, (fun_mk (st := s_counting) l0 c0 k0).binds (ps := ["hours", "now", "span"]) fun _ _ _ _ _ _ us hl => match us, hl with | [_, _, _], _ => rfl⟩
  d_named := ⟨f1, _, fun_mk (st := s_named) l1 c1 k1, PySem.W.mg_of X G a1, (fun_mk (st := s_named) l1 c1 k1).binds (ps := ["rule", "size", "at"]) fun _ _ _ _ _ _ us hl => match us, hl with | [_, _, _], _ => rfl⟩
  d__law_cell_at := ⟨f2, _, fun_mk (st := s__law_cell_at) l2 c2 k2, PySem.W.mg_of X G a2, (fun_mk (st := s__law_cell_at) l2 c2 k2).binds (ps := ["_law_script", "_law_k"]) fun _ _ _ _ _ _ us hl => match us, hl with | [_, _], _ => rfl⟩
  d__law_whole := ⟨f3, _, fun_mk (st := s__law_whole) l3 c3 k3, PySem.W.mg_of X G a3, (fun_mk (st := s__law_whole) l3 c3 k3).binds (ps := ["_law_found"]) fun _ _ _ _ _ _ us hl => match us, hl with | [_], _ => rfl⟩
  d__law_numbers := ⟨f4, _, fun_mk (st := s__law_numbers) l4 c4 k4, PySem.W.mg_of X G a4, (fun_mk (st := s__law_numbers) l4 c4 k4).binds (ps := ["_law_found", "_law_due"]) fun _ _ _ _ _ _ us hl => match us, hl with | [_, _], _ => rfl⟩
  d__law_counts := ⟨f5, _, fun_mk (st := s__law_counts) l5 c5 k5, PySem.W.mg_of X G a5, (fun_mk (st := s__law_counts) l5 c5 k5).binds (ps := ["_law_hours", "_law_now", "_law_span"]) fun _ _ _ _ _ _ us hl => match us, hl with | [_, _, _], _ => rfl⟩
  d_law := ⟨f6, _, fun_mk (st := s_law) l6 c6 k6, PySem.W.mg_of X G a6, (fun_mk (st := s_law) l6 c6 k6).binds (ps := ["_law_script"]) fun _ _ _ _ _ _ us hl => match us, hl with | [_], _ => rfl⟩
  z_bool := PySem.W.mg_none_of X G z_bool
  z_int := PySem.W.mg_none_of X G z_int
  z_isinstance := PySem.W.mg_none_of X G z_isinstance
  z_len := PySem.W.mg_none_of X G z_len
  z_list := PySem.W.mg_none_of X G z_list
  z_max := PySem.W.mg_none_of X G z_max
  z_min := PySem.W.mg_none_of X G z_min
  z_range := PySem.W.mg_none_of X G z_range
theorem end_F {l : PySem.W.OpenLaw} {w : World} {K : PySem.W.Frag} {fa : Addr} {h : Heap} {mg : Str → Option Value} (X : K.In h) (G : h.Ns mainGlobals mg) {f0 f1 f2 f3 f4 f5 f6 : Addr}
    {od0 an0 od1 an1 od2 an2 od3 an3 od4 an4 od5 an5 od6 an6 : Option Addr} {sl0 sl1 sl2 sl3 sl4 sl5 sl6 : Array (Option Value)} {oc0 kV0 dc0 pm0 cd0 ct0 oc1 kV1 dc1 pm1 cd1 ct1 oc2 kV2 dc2 pm2 cd2 ct2 oc3 kV3 dc3 pm3 cd3 ct3 oc4 kV4 dc4 pm4 cd4 ct4 oc5 kV5 dc5 pm5 cd5 ct5 oc6 kV6 dc6 pm6 cd6 ct6 : Value}
    (a0 : PySem.W.nsIn K mainGlobals "counting" = some (some (.ref f0))) (l0 : K.lookup f0 = some ⟨oc0, od0, .func (PySem.W.fnOf "counting" "counting" (defArgs s_counting) (defBody s_counting) (defScope s_counting) .none kV0 dc0 pm0 an0 cd0 ct0), sl0⟩) (c0 : PySem.W.codeIn K cd0 "counting" = true) (k0 : PySem.W.keepIn K (.ref f0) = true)
    (a1 : PySem.W.nsIn K mainGlobals "named" = some (some (.ref f1))) (l1 : K.lookup f1 = some ⟨oc1, od1, .func (PySem.W.fnOf "named" "named" (defArgs s_named) (defBody s_named) (defScope s_named) .none kV1 dc1 pm1 an1 cd1 ct1), sl1⟩) (c1 : PySem.W.codeIn K cd1 "named" = true) (k1 : PySem.W.keepIn K (.ref f1) = true)
    (a2 : PySem.W.nsIn K mainGlobals "_law_cell_at" = some (some (.ref f2))) (l2 : K.lookup f2 = some ⟨oc2, od2, .func (PySem.W.fnOf "_law_cell_at" "_law_cell_at" (defArgs s__law_cell_at) (defBody s__law_cell_at) (defScope s__law_cell_at) .none kV2 dc2 pm2 an2 cd2 ct2), sl2⟩) (c2 : PySem.W.codeIn K cd2 "_law_cell_at" = true) (k2 : PySem.W.keepIn K (.ref f2) = true)
    (a3 : PySem.W.nsIn K mainGlobals "_law_whole" = some (some (.ref f3))) (l3 : K.lookup f3 = some ⟨oc3, od3, .func (PySem.W.fnOf "_law_whole" "_law_whole" (defArgs s__law_whole) (defBody s__law_whole) (defScope s__law_whole) .none kV3 dc3 pm3 an3 cd3 ct3), sl3⟩) (c3 : PySem.W.codeIn K cd3 "_law_whole" = true) (k3 : PySem.W.keepIn K (.ref f3) = true)
    (a4 : PySem.W.nsIn K mainGlobals "_law_numbers" = some (some (.ref f4))) (l4 : K.lookup f4 = some ⟨oc4, od4, .func (PySem.W.fnOf "_law_numbers" "_law_numbers" (defArgs s__law_numbers) (defBody s__law_numbers) (defScope s__law_numbers) .none kV4 dc4 pm4 an4 cd4 ct4), sl4⟩) (c4 : PySem.W.codeIn K cd4 "_law_numbers" = true) (k4 : PySem.W.keepIn K (.ref f4) = true)
    (a5 : PySem.W.nsIn K mainGlobals "_law_counts" = some (some (.ref f5))) (l5 : K.lookup f5 = some ⟨oc5, od5, .func (PySem.W.fnOf "_law_counts" "_law_counts" (defArgs s__law_counts) (defBody s__law_counts) (defScope s__law_counts) .none kV5 dc5 pm5 an5 cd5 ct5), sl5⟩) (c5 : PySem.W.codeIn K cd5 "_law_counts" = true) (k5 : PySem.W.keepIn K (.ref f5) = true)
    (a6 : PySem.W.nsIn K mainGlobals "law" = some (some (.ref f6))) (l6 : K.lookup f6 = some ⟨oc6, od6, .func (PySem.W.fnOf "law" "law" (defArgs s_law) (defBody s_law) (defScope s_law) .none kV6 dc6 pm6 an6 cd6 ct6), sl6⟩) (c6 : PySem.W.codeIn K cd6 "law" = true) (k6 : PySem.W.keepIn K (.ref f6) = true)
    (z_bool : PySem.W.nsIn K mainGlobals "bool" = some none)
    (z_int : PySem.W.nsIn K mainGlobals "int" = some none)
    (z_isinstance : PySem.W.nsIn K mainGlobals "isinstance" = some none)
    (z_len : PySem.W.nsIn K mainGlobals "len" = some none)
    (z_list : PySem.W.nsIn K mainGlobals "list" = some none)
    (z_max : PySem.W.nsIn K mainGlobals "max" = some none)
    (z_min : PySem.W.nsIn K mainGlobals "min" = some none)
    (z_range : PySem.W.nsIn K mainGlobals "range" = some none)
    (hfa : mg "law" = some (.ref fa)) :
    ∃ fd : FuncData, (∀ (s : Shared) (v : Value), BindsTo s fd ⟨[v], []⟩ [("_law_script", v)]) ∧ ∀ base : Heap, K.In base → base.Ns mainGlobals mg → FnOk l.prog w K mg base CX0 4 fa fd ["_law_script"] (spLaw K) := by
  have e := hfa.symm.trans (PySem.W.mg_of X G a6)
  cases e
  have T : TX K mg := all_mk X G a0 l0 c0 k0 a1 l1 c1 k1 a2 l2 c2 k2 a3 l3 c3 k3 a4 l4 c4 k4 a5 l5 c5 k5 a6 l6 c6 k6 z_bool z_int z_isinstance z_len z_list z_max z_min z_range
  exact ⟨_, fun s v => .of_eq rfl, fun base _ _ => (fx_at (P := l.prog) (w := w) (base := base) (ok_law T) (PySem.W.mg_of X G a6) l6).imp (law_imp fun ns hl => law_true ns)⟩
end K03
open PySem PySem.W PyProof.Rows
set_option maxRecDepth 100000 in
set_option maxHeartbeats 0 in
theorem PySem.Challenge.cw_wardhouse_k03_rules_holds : PySem.Challenge.rw_wardhouse_k03_rules.Holds := by
  w_on; o_law; k_head; (case hw => w_witness2)
  k_fill
  refine L2.walk_of (l := PySem.Challenge.rw_wardhouse_k03_rules) (n := 63) (k := 4) (x := "_law_script") (CX := fun _ => L2.CX0) (sp := fun w => Pd.spLaw _) rfl (by decide) rfl ⟨rfl, by decide, by decide⟩ (fun w h Y => PySem.W.kIn_of Y) ?F (fun _ _ a ns hl _ hS => ⟨a, ns, rfl, hS, hl, fun _ => rfl⟩) (fun _ _ _ _ _ h => h)
  case F =>
    intro w mg fa h KX G hmg
    refine' K03.end_F KX G ?a0 ?l0 ?c0 ?k0 ?a1 ?l1 ?c1 ?k1 ?a2 ?l2 ?c2 ?k2 ?a3 ?l3 ?c3 ?k3 ?a4 ?l4 ?c4 ?k4 ?a5 ?l5 ?c5 ?k5 ?a6 ?l6 ?c6 ?k6 ?z_bool ?z_int ?z_isinstance ?z_len ?z_list ?z_max ?z_min ?z_range hmg
    (case a0 => k_is)
    (case l0 => k_is)
    (case c0 => k_is)
    (case k0 => k_is)
    (case a1 => k_is)
    (case l1 => k_is)
    (case c1 => k_is)
    (case k1 => k_is)
    (case a2 => k_is)
    (case l2 => k_is)
    (case c2 => k_is)
    (case k2 => k_is)
    (case a3 => k_is)
    (case l3 => k_is)
    (case c3 => k_is)
    (case k3 => k_is)
    (case a4 => k_is)
    (case l4 => k_is)
    (case c4 => k_is)
    (case k4 => k_is)
    (case a5 => k_is)
    (case l5 => k_is)
    (case c5 => k_is)
    (case k5 => k_is)
    (case a6 => k_is)
    (case l6 => k_is)
    (case c6 => k_is)
    (case k6 => k_is)
    (case z_bool => k_is)
    (case z_int => k_is)
    (case z_isinstance => k_is)
    (case z_len => k_is)
    (case z_list => k_is)
    (case z_max => k_is)
    (case z_min => k_is)
    (case z_range => k_is)
