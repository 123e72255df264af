import PyProof.Rows.All
import Wide.All
import OpenK.AllK
import Wide.FinOn
import HandS.ForMost
import HandS.ForExc
import HandS.Flow
import HandS.Wide
import HandS.IsInst
import HandS.TupAny
import HandS.Conv
import HandS.Walk
import HandS.Deep
import HandS.DeepEq
import PySem.Challenge.RW_alikeruns_k07_when_stopping_nodes_are_du
set_option Elab.async false
set_option linter.all false
set_option maxRecDepth 100000
set_option maxHeartbeats 4000000
/-! A small functional language over the hand layer: values, a store of changing objects, and what it means that an expression of the text does what a function of ours says. -/
namespace AR
open PySem PySem.Spec PyProof.Rows L2
abbrev St := L2.St

/-! ### data -/
inductive Val where
  | non | bl (b : Bool) | int (i : Int) | str (s : Str) | tup (xs : List Val) | loc (l : Nat)
  /-- a list that is only read: the script -/
  | sc (xs : List Val)
/-- an object of the store -/
inductive Ob where
  | lst (vs : List Val)
  | ins (C : Addr) (fs : List (Str × Val))
abbrev Sto := List Ob
abbrev Slots := List (Option Val)
inductive Res (α : Type) where
  | ok (a : α) (S : Sto)
  | exc (c f : Str) (v : Val) (S : Sto)
  | fail
def Res.bind {α β : Type} (r : Res α) (k : α → Sto → Res β) : Res β := match r with
  | .ok a S => k a S
  | .exc c f v S => .exc c f v S
  | .fail => .fail
inductive Out where
  | next (σ : Slots) | brk (σ : Slots) | cont (σ : Slots) | ret (v : Val) | exc (c f : Str) (v : Val) (σ : Slots)
abbrev EM := Slots → Sto → Res Val
abbrev TM := Slots → Sto → Res Bool
abbrev AM := Slots → Sto → Res (List Val)
abbrev SM := Slots → Sto → Option (Out × Sto)

/-! ### how the real heap bears it -/
/-- a list that nobody changes -/
def FzL (K : PySem.W.Frag) (H : Hp) (a : Addr) (xs : List V) : Prop := (∃ o, H a = some (.frz o (.lst xs))) ∨
  ∃ (o : Obj) (its : Array Value) (n : Nat), K.lookup a = some o ∧ o.cls = .type "list" ∧ o.dict = none ∧ o.data = .seq its n ∧ its.size ≤ sizeLine ∧ Vals xs its.toList
mutual
inductive RV (K : PySem.W.Frag) (L : List Addr) (H : Hp) : Val → V → Prop
  | non : RV K L H .non .non
  | bl (b : Bool) : RV K L H (.bl b) (.bl b)
  | int (i : Int) : RV K L H (.int i) (.int i)
  | str (s : Str) : RV K L H (.str s) (.str s)
  | loc {l : Nat} {a : Addr} : L[l]? = some a → RV K L H (.loc l) (.ref a)
  | tup {vs : List Val} {xs : List V} {a : Addr} : SqT K H a xs → RVs K L H vs xs → RV K L H (.tup vs) (.ref a)
  | sc {vs : List Val} {xs : List V} {a : Addr} : FzL K H a xs → RVs K L H vs xs → RV K L H (.sc vs) (.ref a)
inductive RVs (K : PySem.W.Frag) (L : List Addr) (H : Hp) : List Val → List V → Prop
  | nil : RVs K L H [] []
  | cons {v : Val} {vs : List Val} {x : V} {xs : List V} : RV K L H v x → RVs K L H vs xs → RVs K L H (v :: vs) (x :: xs)
end
/-- what an evaluation leaves: the store's addresses go on, only they and new objects are other than before -/
structure Ex (K : PySem.W.Frag) (L : List Addr) (H : Hp) (L' : List Addr) (H' : Hp) : Prop where
  pre : L <+: L'
  tup : ∀ a xs, SqT K H a xs → SqT K H' a xs
  fz : ∀ a xs, FzL K H a xs → FzL K H' a xs
  new : ∀ a, a ∈ L' → a ∈ L ∨ H a = none
  fr : ∀ b o, H b = some o → b ∉ L → H' b = some o
/-- the same up to what is hidden -/
structure ExB (K : PySem.W.Frag) (hid : Addr → Prop) (L : List Addr) (H : Hp) (L' : List Addr) (H' : Hp) : Prop where
  pre : L <+: L'
  tup : ∀ a xs, SqT K H a xs → SqT K H' a xs
  fz : ∀ a xs, FzL K H a xs → FzL K H' a xs
  new : ∀ a, a ∈ L' → a ∈ L ∨ H a = none ∨ hid a
  fr : ∀ b o, H b = some o → b ∉ L → ¬ hid b → H' b = some o
section
variable {K : PySem.W.Frag} {L L' L'' : List Addr} {H H' H'' : Hp}
theorem Ex.refl : Ex K L H L H := ⟨List.prefix_refl _, fun _ _ h => h, fun _ _ h => h, fun _ h => .inl h, fun _ _ h _ => h⟩
theorem Ex.trans (a : Ex K L H L' H') (b : Ex K L' H' L'' H'') : Ex K L H L'' H'' where
  pre := a.pre.trans b.pre
  tup := fun c xs h => b.tup c xs (a.tup c xs h)
  fz := fun c xs h => b.fz c xs (a.fz c xs h)
  new := fun c h => by
    rcases b.new c h with z | z
    · exact a.new c z
    · by_cases hc : c ∈ L
      · exact .inl hc
      · cases q : H c with
        | none => exact .inr rfl
        | some o =>
          rw [a.fr c o q hc] at z
          cases z
  fr := fun c o h n => b.fr c o (a.fr c o h n) fun z => by
    rcases a.new c z with y | y
    · exact n y
    · rw [h] at y
      cases y
theorem Ex.toB {hid : Addr → Prop} (a : Ex K L H L' H') : ExB K hid L H L' H' := ⟨a.pre, a.tup, a.fz, fun c h => (a.new c h).elim .inl fun z => .inr (.inl z), fun b o h n _ => a.fr b o h n⟩
theorem ExB.trans {hid : Addr → Prop} (a : ExB K hid L H L' H') (b : ExB K hid L' H' L'' H'') : ExB K hid L H L'' H'' where
  pre := a.pre.trans b.pre
  tup := fun c xs h => b.tup c xs (a.tup c xs h)
  fz := fun c xs h => b.fz c xs (a.fz c xs h)
  new := fun c h => by
    rcases b.new c h with z | z | z
    · exact a.new c z
    · by_cases hc : c ∈ L
      · exact .inl hc
      · by_cases hh : hid c
        · exact .inr (.inr hh)
        · cases q : H c with
          | none => exact .inr (.inl rfl)
          | some o =>
            rw [a.fr c o q hc hh] at z
            cases z
    · exact .inr (.inr z)
  fr := fun c o h n hh => b.fr c o (a.fr c o h n hh) (fun z => by
    rcases a.new c z with y | y | y
    · exact n y
    · rw [h] at y
      cases y
    · exact hh y) hh
theorem ExB.mono {hid hid' : Addr → Prop} (a : ExB K hid L H L' H') (h : ∀ b, hid b → hid' b) : ExB K hid' L H L' H' :=
  ⟨a.pre, a.tup, a.fz, fun c z => (a.new c z).elim .inl fun y => y.elim (fun y => .inr (.inl y)) fun y => .inr (.inr (h c y)), fun b o e n m => a.fr b o e n fun z => m (h b z)⟩
theorem pre_get (hL : L <+: L') {l : Nat} {a : Addr} (h : L[l]? = some a) : L'[l]? = some a := by
  obtain ⟨t, rfl⟩ := hL
  rw [List.getElem?_append_left (List.getElem?_eq_some_iff.mp h).1]
  exact h
mutual
theorem RV.move (hL : L <+: L') (kt : ∀ a xs, SqT K H a xs → SqT K H' a xs) (kf : ∀ a xs, FzL K H a xs → FzL K H' a xs) : ∀ (v : Val) (x : V), RV K L H v x → RV K L' H' v x
  | .non, _, h => by cases h; exact .non
  | .bl b, _, h => by cases h; exact .bl b
  | .int i, _, h => by cases h; exact .int i
  | .str s, _, h => by cases h; exact .str s
  | .loc l, _, h => by
    cases h with
    | loc e => exact .loc (pre_get hL e)
  | .tup vs, _, h => by
    cases h with
    | tup e r => exact .tup (kt _ _ e) (RVs.move hL kt kf vs _ r)
  | .sc vs, _, h => by
    cases h with
    | sc e r => exact .sc (kf _ _ e) (RVs.move hL kt kf vs _ r)
theorem RVs.move (hL : L <+: L') (kt : ∀ a xs, SqT K H a xs → SqT K H' a xs) (kf : ∀ a xs, FzL K H a xs → FzL K H' a xs) : ∀ (vs : List Val) (xs : List V), RVs K L H vs xs → RVs K L' H' vs xs
  | [], _, h => by cases h; exact .nil
  | v :: vs, _, h => by
    cases h with
    | cons a b => exact .cons (RV.move hL kt kf v _ a) (RVs.move hL kt kf vs _ b)
end
theorem RV.mono (k : Ex K L H L' H') (v : Val) (x : V) (r : RV K L H v x) : RV K L' H' v x := RV.move k.pre k.tup k.fz v x r
theorem RVs.mono (k : Ex K L H L' H') (vs : List Val) (xs : List V) (r : RVs K L H vs xs) : RVs K L' H' vs xs := RVs.move k.pre k.tup k.fz vs xs r
theorem RVs.len : ∀ {vs : List Val} {xs : List V}, RVs K L H vs xs → vs.length = xs.length
  | [], _, h => by cases h; rfl
  | v :: vs, _, h => by
    cases h with
    | cons a b => rw [List.length_cons, List.length_cons, b.len]
theorem RVs.get : ∀ {vs : List Val} {xs : List V} {i : Nat} {v : Val}, RVs K L H vs xs → vs[i]? = some v → ∃ x, xs[i]? = some x ∧ RV K L H v x
  | [], _, i, v, h, e => by simp at e
  | w :: vs, _, 0, v, h, e => by
    cases h with
    | cons a b => simp at e; subst e; exact ⟨_, rfl, a⟩
  | w :: vs, _, i + 1, v, h, e => by
    cases h with
    | cons a b =>
      obtain ⟨x, h1, h2⟩ := b.get (i := i) (v := v) (by simpa using e)
      exact ⟨x, by simpa using h1, h2⟩
theorem RVs.getx : ∀ {vs : List Val} {xs : List V} {i : Nat} {x : V}, RVs K L H vs xs → xs[i]? = some x → ∃ v, vs[i]? = some v ∧ RV K L H v x
  | [], _, i, v, h, e => by cases h; simp at e
  | w :: vs, _, 0, v, h, e => by
    cases h with
    | cons a b => simp at e; subst e; exact ⟨_, rfl, a⟩
  | w :: vs, _, i + 1, v, h, e => by
    cases h with
    | cons a b =>
      obtain ⟨x, h1, h2⟩ := b.getx (i := i) (x := v) (by simpa using e)
      exact ⟨x, by simpa using h1, h2⟩
theorem RVs.app : ∀ {vs ws : List Val} {xs ys : List V}, RVs K L H vs xs → RVs K L H ws ys → RVs K L H (vs ++ ws) (xs ++ ys)
  | [], _, _, _, h, g => by cases h; exact g
  | v :: vs, _, _, _, h, g => by
    cases h with
    | cons a b => exact .cons a (b.app g)
theorem RVs.one {v : Val} {x : V} (h : RV K L H v x) : RVs K L H [v] [x] := .cons h .nil
theorem RVs.set : ∀ {vs : List Val} {xs : List V} {v : Val} {x : V} (i : Nat), RVs K L H vs xs → RV K L H v x → RVs K L H (vs.set i v) (xs.set i x)
  | [], _, _, _, _, h, g => by cases h; exact .nil
  | w :: vs, _, _, _, 0, h, g => by
    cases h with
    | cons a b => exact .cons g b
  | w :: vs, _, _, _, i + 1, h, g => by
    cases h with
    | cons a b => exact .cons a (b.set i g)
theorem RVs.take : ∀ {vs : List Val} {xs : List V} (n : Nat), RVs K L H vs xs → RVs K L H (vs.take n) (xs.take n)
  | _, _, 0, _ => .nil
  | [], _, n + 1, h => by cases h; exact .nil
  | v :: vs, _, n + 1, h => by
    cases h with
    | cons a b => exact .cons a (b.take n)
theorem RVs.drop : ∀ {vs : List Val} {xs : List V} (n : Nat), RVs K L H vs xs → RVs K L H (vs.drop n) (xs.drop n)
  | _, _, 0, h => h
  | [], _, n + 1, h => by cases h; exact .nil
  | v :: vs, _, n + 1, h => by
    cases h with
    | cons a b => exact b.drop n
theorem RVs.nil_iff {vs : List Val} {xs : List V} (h : RVs K L H vs xs) : vs.isEmpty = xs.isEmpty := by
  cases h <;> rfl
end

/-- fields of an instance -/
inductive RFs (K : PySem.W.Frag) (L : List Addr) (H : Hp) : List (Str × Val) → List (Str × V) → Prop
  | nil : RFs K L H [] []
  | cons {f : Str} {v : Val} {x : V} {fs : List (Str × Val)} {gs : List (Str × V)} : RV K L H v x → RFs K L H fs gs → RFs K L H ((f, v) :: fs) ((f, x) :: gs)
theorem RFs.move {K : PySem.W.Frag} {L L' : List Addr} {H H' : Hp} (hL : L <+: L') (kt : ∀ a xs, SqT K H a xs → SqT K H' a xs) (kf : ∀ a xs, FzL K H a xs → FzL K H' a xs) : ∀ {fs : List (Str × Val)} {gs : List (Str × V)}, RFs K L H fs gs → RFs K L' H' fs gs
  | _, _, .nil => .nil
  | _, _, .cons a b => .cons (RV.move hL kt kf _ _ a) (RFs.move hL kt kf b)
theorem RFs.mono {K : PySem.W.Frag} {L L' : List Addr} {H H' : Hp} (k : Ex K L H L' H') {fs : List (Str × Val)} {gs : List (Str × V)} (r : RFs K L H fs gs) : RFs K L' H' fs gs := RFs.move k.pre k.tup k.fz r
/-- an object of the store stands at a -/
def RO (K : PySem.W.Frag) (L : List Addr) (H : Hp) (a : Addr) : Ob → Prop
  | .lst vs => ∃ xs, H a = some (.lst xs) ∧ RVs K L H vs xs
  | .ins C fs => ∃ dx gs, H a = some (.ins C dx gs) ∧ RFs K L H fs gs ∧ H dx = some (.own a)
structure RS (K : PySem.W.Frag) (L : List Addr) (S : Sto) (H : Hp) : Prop where
  len : L.length = S.length
  nd : L.Nodup
  at_ : ∀ (i : Nat) (a : Addr) (o : Ob), L[i]? = some a → S[i]? = some o → RO K L H a o
structure RSl (K : PySem.W.Frag) (L : List Addr) (H : Hp) (σ : Slots) (τ : St) : Prop where
  len : σ.length = τ.length
  at_ : ∀ (i : Nat) (v : Val), σ[i]? = some (some v) → ∃ x, τ[i]? = some (some x) ∧ RV K L H v x
section
variable {K : PySem.W.Frag} {L L' : List Addr} {H H' : Hp} {σ : Slots} {τ : St}
theorem RSl.mono (h : RSl K L H σ τ) (k : Ex K L H L' H') : RSl K L' H' σ τ :=
  ⟨h.len, fun i v e => let ⟨x, h1, h2⟩ := h.at_ i v e; ⟨x, h1, RV.mono k _ _ h2⟩⟩
theorem RSl.set (h : RSl K L H σ τ) (i : Nat) {v : Val} {x : V} (r : RV K L H v x) : RSl K L H (σ.set i (some v)) (τ.set i (some x)) := by
  refine ⟨by rw [List.length_set, List.length_set]; exact h.len, fun j w e => ?_⟩
  by_cases hij : i = j
  · subst hij
    by_cases hl : i < σ.length
    · rw [List.getElem?_set_self hl] at e
      cases e
      exact ⟨x, List.getElem?_set_self (by rw [← h.len]; exact hl), r⟩
    · rw [List.getElem?_eq_none (by simpa using hl)] at e
      cases e
  · rw [List.getElem?_set_ne hij] at e
    obtain ⟨y, h1, h2⟩ := h.at_ j w e
    exact ⟨y, by rw [List.getElem?_set_ne hij]; exact h1, h2⟩
theorem RSl.forget (h : RSl K L H σ τ) (i : Nat) (o : Option V) : RSl K L H (σ.set i none) (τ.set i o) := by
  refine ⟨by rw [List.length_set, List.length_set]; exact h.len, fun j w e => ?_⟩
  by_cases hij : i = j
  · subst hij
    by_cases hl : i < σ.length
    · rw [List.getElem?_set_self hl] at e
      cases e
    · rw [List.getElem?_eq_none (by simpa using hl)] at e
      cases e
  · rw [List.getElem?_set_ne hij] at e
    obtain ⟨y, h1, h2⟩ := h.at_ j w e
    exact ⟨y, by rw [List.getElem?_set_ne hij]; exact h1, h2⟩
end

/-- an exception: the class's name, its one field, what it holds -/
def XR (K : PySem.W.Frag) (mg : Str → Option Value) (L : List Addr) (H : Hp) (c f : Str) (v : Val) (cls : Value) (d : Option Addr) : Prop :=
  ∃ (C dd : Addr) (x : V), mg c = some (.ref C) ∧ cls = .ref C ∧ d = some dd ∧ H dd = some (.xd [(f, x)]) ∧ RV K L H v x
/-- behind a result: what is wanted of it (rel: how it is borne), and of an exception -/
def PR (K : PySem.W.Frag) (mg : Str → Option Value) {α β : Type} (rel : List Addr → Hp → α → β → Prop) (L : List Addr) (H : Hp) (Q : β → Hp → Prop) (E : XK) : Res α → Prop
  | .ok v S => ∀ L' H' x, Ex K L H L' H' → RS K L' S H' → rel L' H' v x → Q x H'
  | .exc c f v S => ∀ L' H' cls d, Ex K L H L' H' → RS K L' S H' → XR K mg L' H' c f v cls d → E cls d H'
  | .fail => False
abbrev relB : List Addr → Hp → Bool → Bool → Prop := fun _ _ a b => a = b
abbrev PV (K : PySem.W.Frag) (mg : Str → Option Value) (L : List Addr) (H : Hp) (Q : VK) (E : XK) (r : Res Val) : Prop := PR K mg (RV K) L H Q E r
abbrev PB (K : PySem.W.Frag) (mg : Str → Option Value) (L : List Addr) (H : Hp) (Q : Bool → Hp → Prop) (E : XK) (r : Res Bool) : Prop := PR K mg relB L H Q E r
abbrev PVs (K : PySem.W.Frag) (mg : Str → Option Value) (L : List Addr) (H : Hp) (Q : List V → Hp → Prop) (E : XK) (r : Res (List Val)) : Prop := PR K mg (RVs K) L H Q E r
def PSt (K : PySem.W.Frag) (mg : Str → Option Value) (L : List Addr) (H : Hp) (D : Ends) (W : WX) : Option (Out × Sto) → Prop
  | some (.next σ, S) => ∀ L' H' τ, Ex K L H L' H' → RS K L' S H' → RSl K L' H' σ τ → D.nx τ H'
  | some (.brk σ, S) => ∀ L' H' τ, Ex K L H L' H' → RS K L' S H' → RSl K L' H' σ τ → D.bk τ H'
  | some (.cont σ, S) => ∀ L' H' τ, Ex K L H L' H' → RS K L' S H' → RSl K L' H' σ τ → D.ct τ H'
  | some (.ret v, S) => ∀ L' H' x, Ex K L H L' H' → RS K L' S H' → RV K L' H' v x → D.rt x H'
  | some (.exc c f v σ, S) => ∀ L' H' τ cls d, Ex K L H L' H' → RS K L' S H' → RSl K L' H' σ τ → XR K mg L' H' c f v cls d → W cls d τ H'
  | none => False

def tE (K : PySem.W.Frag) (mg : Str → Option Value) (W : WX) (m : EM) : TE := fun τ H Q => ∃ L S σ, RS K L S H ∧ RSl K L H σ τ ∧ PV K mg L H Q (fun c d H' => W c d τ H') (m σ S)
def tT (K : PySem.W.Frag) (mg : Str → Option Value) (W : WX) (m : TM) : TT := fun τ H Q => ∃ L S σ, RS K L S H ∧ RSl K L H σ τ ∧ PB K mg L H Q (fun c d H' => W c d τ H') (m σ S)
def tA (K : PySem.W.Frag) (mg : Str → Option Value) (W : WX) (m : AM) : TA := fun τ H Q => ∃ L S σ, RS K L S H ∧ RSl K L H σ τ ∧ PVs K mg L H Q (fun c d H' => W c d τ H') (m σ S)
def tS (K : PySem.W.Frag) (mg : Str → Option Value) (W : WX) (m : SM) : TS := fun D τ H => ∃ L S σ, RS K L S H ∧ RSl K L H σ τ ∧ PSt K mg L H D W (m σ S)
/-- an expression, a test, a list of arguments, a statement, a block does what m says -/
def ME (X : Cx) (W : WX) (e : Expr) (m : EM) : Prop := PE X e (tE X.K X.mg W m)
def MT (X : Cx) (W : WX) (e : Expr) (m : TM) : Prop := PT X e (tT X.K X.mg W m)
def MA (X : Cx) (W : WX) (es : List Expr) (m : AM) : Prop := PA X es (tA X.K X.mg W m)
def MS (X : Cx) (W : WX) (st : Stmt) (m : SM) : Prop := PS X st (tS X.K X.mg W m)
def MB (X : Cx) (W : WX) (sts : List Stmt) (m : SM) : Prop := PSs X sts (tS X.K X.mg W m)

/-! ### consequence -/
theorem pe_imp {X : Cx} {e : Expr} {t u : TE} (h : PE X e t) (i : ∀ τ H Q, u τ H Q → t τ H Q) : PE X e u := ⟨fun p s τ H Q I q => h.run p s τ H Q I (i τ H Q q)⟩
theorem pt_imp {X : Cx} {e : Expr} {t u : TT} (h : PT X e t) (i : ∀ τ H Q, u τ H Q → t τ H Q) : PT X e u := ⟨fun p s τ H Q I q => h.run p s τ H Q I (i τ H Q q)⟩
theorem pa_imp {X : Cx} {e : List Expr} {t u : TA} (h : PA X e t) (i : ∀ τ H Q, u τ H Q → t τ H Q) : PA X e u := ⟨fun o p s τ H Q I q => h.run o p s τ H Q I (i τ H Q q)⟩
theorem ps_imp {X : Cx} {e : Stmt} {t u : TS} (h : PS X e t) (i : ∀ D τ H, u D τ H → t D τ H) : PS X e u := ⟨fun p s τ H D I q => h.run p s τ H D I (i D τ H q)⟩
theorem pss_imp {X : Cx} {e : List Stmt} {t u : TS} (h : PSs X e t) (i : ∀ D τ H, u D τ H → t D τ H) : PSs X e u := ⟨fun p s τ H D I q => h.run p s τ H D I (i D τ H q)⟩
section
variable {K : PySem.W.Frag} {mg : Str → Option Value} {L L' : List Addr} {H H' : Hp} {Q R : VK} {E : XK}
/-- the ends behind a later state are ends behind an earlier one -/
theorem PR.shift {α β : Type} {rel : List Addr → Hp → α → β → Prop} {Q : β → Hp → Prop} {r : Res α} (k : Ex K L H L' H') (h : PR K mg rel L H Q E r) : PR K mg rel L' H' Q E r := by
  cases r with
  | ok v S => exact fun L2 H2 x k2 => h L2 H2 x (k.trans k2)
  | exc c f v S => exact fun L2 H2 x d k2 => h L2 H2 x d (k.trans k2)
  | fail => exact h
theorem PR.bind {α β γ δ : Type} {rel : List Addr → Hp → α → β → Prop} {rel' : List Addr → Hp → γ → δ → Prop} {Q : δ → Hp → Prop} {R : β → Hp → Prop} {r : Res α} {k : α → Sto → Res γ} (h : PR K mg rel' L H Q E (r.bind k))
    (hk : ∀ v S1 L1 H1 x, Ex K L H L1 H1 → RS K L1 S1 H1 → rel L1 H1 v x → PR K mg rel' L1 H1 Q E (k v S1) → R x H1) : PR K mg rel L H R E r := by
  cases r with
  | ok v S => exact fun L1 H1 x k1 rs1 rv1 => hk v S L1 H1 x k1 rs1 rv1 (PR.shift k1 h)
  | exc c f v S => exact h
  | fail => exact h
/-- the value at once -/
theorem PR.now {α β : Type} {rel : List Addr → Hp → α → β → Prop} {Q : β → Hp → Prop} {v : α} {S : Sto} {x : β} (h : PR K mg rel L H Q E (.ok v S)) (rs : RS K L S H) (r : rel L H v x) : Q x H := h L H x .refl rs r
theorem PSt.shift {D : Ends} {W : WX} {r : Option (Out × Sto)} (k : Ex K L H L' H') (h : PSt K mg L H D W r) : PSt K mg L' H' D W r := by
  match r, h with
  | some (.next σ, S), h => exact fun L2 H2 τ k2 => h L2 H2 τ (k.trans k2)
  | some (.brk σ, S), h => exact fun L2 H2 τ k2 => h L2 H2 τ (k.trans k2)
  | some (.cont σ, S), h => exact fun L2 H2 τ k2 => h L2 H2 τ (k.trans k2)
  | some (.ret v, S), h => exact fun L2 H2 x k2 => h L2 H2 x (k.trans k2)
  | some (.exc c f v σ, S), h => exact fun L2 H2 τ cls d k2 => h L2 H2 τ cls d (k.trans k2)
end
/-! ### the heap changed -/
section
variable {K : PySem.W.Frag} {L : List Addr} {S : Sto} {H : Hp} {p : Addr} {u : HO} {o : Ob}
theorem ne_at {a : Addr} {z : HO} (e : H a = some z) (n : H p ≠ some z) : a ≠ p := fun q => n (by rw [← q]; exact e)
theorem RO.there {a : Addr} (r : RO K L H a o) : H a ≠ none := fun e => by
  cases o with
  | lst vs => obtain ⟨_, q, _⟩ := r; rw [e] at q; cases q
  | ins C fs => obtain ⟨_, _, q, _⟩ := r; rw [e] at q; cases q
theorem RO.noOwn {a x : Addr} (r : RO K L H a o) : H a ≠ some (.own x) := fun e => by
  cases o with
  | lst vs => obtain ⟨_, q, _⟩ := r; rw [e] at q; cases q
  | ins C fs => obtain ⟨_, _, q, _⟩ := r; rw [e] at q; cases q
theorem RO.noTup {a : Addr} {xs : List V} (r : RO K L H a o) : H a ≠ some (.tup xs) := fun e => by
  cases o with
  | lst vs => obtain ⟨_, q, _⟩ := r; rw [e] at q; cases q
  | ins C fs => obtain ⟨_, _, q, _⟩ := r; rw [e] at q; cases q
theorem RO.noFrz {a : Addr} {ob : Obj} {v : HO} (r : RO K L H a o) : H a ≠ some (.frz ob v) := fun e => by
  cases o with
  | lst vs => obtain ⟨_, q, _⟩ := r; rw [e] at q; cases q
  | ins C fs => obtain ⟨_, _, q, _⟩ := r; rw [e] at q; cases q
theorem RS.mem (rs : RS K L S H) (h : p ∈ L) : ∃ o, RO K L H p o := by
  obtain ⟨i, hi, e⟩ := List.mem_iff_getElem.mp h
  have hi' : i < S.length := by rw [← rs.len]; exact hi
  exact ⟨S[i], rs.at_ i p S[i] (by rw [List.getElem?_eq_getElem hi, e]) (List.getElem?_eq_getElem hi')⟩
theorem RS.fresh (rs : RS K L S H) (h : H p = none) : p ∉ L := fun hm => by
  obtain ⟨o, r⟩ := rs.mem hm
  exact r.there h
theorem upd_eqs (h1 : ∀ xs, H p ≠ some (.tup xs)) (h2 : ∀ ob v, H p ≠ some (.frz ob v)) : (∀ a xs, SqT K H a xs → SqT K (upd H p u) a xs) ∧ ∀ a xs, FzL K H a xs → FzL K (upd H p u) a xs := by
  refine ⟨fun a xs e => ?_, fun a xs e => ?_⟩
  · rcases e with (e | ⟨ob, e⟩) | e
    · exact .inl (.inl (by rw [upd_ne (ne_at e (h1 xs))]; exact e))
    · exact .inl (.inr ⟨ob, by rw [upd_ne (ne_at e (h2 ob _))]; exact e⟩)
    · exact .inr e
  · rcases e with ⟨ob, e⟩ | e
    · exact .inl ⟨ob, by rw [upd_ne (ne_at e (h2 ob _))]; exact e⟩
    · exact .inr e
/-- something that the store does not name is laid -/
theorem Ex.new_ (h : H p = none) : Ex K L H L (upd H p u) := by
  obtain ⟨t, f⟩ := upd_eqs (K := K) (H := H) (p := p) (u := u) (fun xs e => by rw [h] at e; cases e) (fun ob v e => by rw [h] at e; cases e)
  exact ⟨List.prefix_refl _, t, f, fun _ q => .inl q, fun b o e _ => by rw [upd_ne (ne_of_none e h)]; exact e⟩
theorem Ex.push_ (h : H p = none) : Ex K L H (L ++ [p]) (upd H p u) := by
  have e := Ex.new_ (K := K) (L := L) (u := u) h
  refine ⟨List.prefix_append _ _, e.tup, e.fz, fun a q => ?_, e.fr⟩
  rcases List.mem_append.mp q with q | q
  · exact .inl q
  · have z : a = p := by simpa using q
    exact .inr (by rw [z]; exact h)
theorem Ex.put_ (rs : RS K L S H) {l : Nat} (hl : L[l]? = some p) : Ex K L H L (upd H p u) := by
  have hm : p ∈ L := List.mem_of_getElem? hl
  obtain ⟨o, r⟩ := rs.mem hm
  obtain ⟨t, f⟩ := upd_eqs (K := K) (H := H) (p := p) (u := u) (fun xs => r.noTup) (fun ob v => r.noFrz)
  exact ⟨List.prefix_refl _, t, f, fun _ q => .inl q, fun b o e n => by rw [upd_ne (fun q => n (by rw [q]; exact hm))]; exact e⟩
theorem RO.shift {a : Addr} {L' : List Addr} {H' : Hp} (r : RO K L H a o) (hL : L <+: L') (kt : ∀ a xs, SqT K H a xs → SqT K H' a xs) (kf : ∀ a xs, FzL K H a xs → FzL K H' a xs) (e : H' a = H a) (own : ∀ d x, H d = some (.own x) → H' d = some (.own x)) : RO K L' H' a o := by
  cases o with
  | lst vs =>
    obtain ⟨xs, q, r⟩ := r
    exact ⟨xs, e.trans q, RVs.move hL kt kf _ _ r⟩
  | ins C fs =>
    obtain ⟨dx, gs, q, r, w⟩ := r
    exact ⟨dx, gs, e.trans q, r.move hL kt kf, own _ _ w⟩
theorem RO.move {a : Addr} {L' : List Addr} {H' : Hp} (r : RO K L H a o) (k : Ex K L H L' H') (e : H' a = H a) (own : ∀ d x, H d = some (.own x) → H' d = some (.own x)) : RO K L' H' a o := r.shift k.pre k.tup k.fz e own
theorem RS.at' (rs : RS K L S H) {l : Nat} {o : Ob} (h : S[l]? = some o) : ∃ a, L[l]? = some a ∧ RO K L H a o := by
  have hl : l < L.length := by rw [rs.len]; exact (List.getElem?_eq_some_iff.mp h).1
  exact ⟨L[l], List.getElem?_eq_getElem hl, rs.at_ l _ o (List.getElem?_eq_getElem hl) h⟩
theorem own_new (h : H p = none) : ∀ d x, H d = some (.own x) → upd H p u d = some (.own x) := fun d x e => by
  rw [upd_ne (fun q => by rw [q, h] at e; cases e)]; exact e
theorem RS.new (rs : RS K L S H) (h : H p = none) : RS K L S (upd H p u) :=
  ⟨rs.len, rs.nd, fun i a o e1 e2 => (rs.at_ i a o e1 e2).move (Ex.new_ h) (upd_ne fun q => (rs.at_ i a o e1 e2).there (by rw [q]; exact h)) (own_new h)⟩
/-- a new object of the store -/
theorem RS.push (rs : RS K L S H) (h : H p = none) (r : RO K (L ++ [p]) (upd H p u) p o) : RS K (L ++ [p]) (S ++ [o]) (upd H p u) := by
  refine ⟨by rw [List.length_append, List.length_append, rs.len]; rfl, ?_, fun i a ob e1 e2 => ?_⟩
  · rw [List.nodup_append]
    exact ⟨rs.nd, by simp, fun x hx y hy q => rs.fresh h (by have z : y = p := by simpa using hy
                                                             rw [← z, ← q]; exact hx)⟩
  · by_cases hi : i < L.length
    · have hi' : i < S.length := by rw [← rs.len]; exact hi
      rw [List.getElem?_append_left hi] at e1
      rw [List.getElem?_append_left hi'] at e2
      have q := rs.at_ i a ob e1 e2
      exact q.move (Ex.push_ h) (upd_ne fun z => q.there (by rw [z]; exact h)) (own_new h)
    · have hl : i < (L ++ [p]).length := (List.getElem?_eq_some_iff.mp e1).1
      have ei : i = L.length := by rw [List.length_append, List.length_singleton] at hl; omega
      subst ei
      rw [List.getElem?_append_right (Nat.le_refl _), Nat.sub_self] at e1
      rw [List.getElem?_append_right (by rw [rs.len]; exact Nat.le_refl _), rs.len, Nat.sub_self] at e2
      simp at e1 e2
      subst e1 e2
      exact r
/-- an object of the store is written -/
theorem RS.put (rs : RS K L S H) {l : Nat} (hl : L[l]? = some p) (r : RO K L (upd H p u) p o) : RS K L (S.set l o) (upd H p u) := by
  obtain ⟨o0, r0⟩ := rs.mem (List.mem_of_getElem? hl)
  refine ⟨by rw [List.length_set]; exact rs.len, rs.nd, fun i a ob e1 e2 => ?_⟩
  by_cases hil : i = l
  · subst hil
    rw [hl] at e1
    cases e1
    have hl' : i < S.length := by rw [← rs.len]; exact (List.getElem?_eq_some_iff.mp hl).1
    rw [List.getElem?_set_self hl'] at e2
    cases e2
    exact r
  · rw [List.getElem?_set_ne (Ne.symm hil)] at e2
    have q := rs.at_ i a ob e1 e2
    have ne : a ≠ p := fun z => by
      subst z
      obtain ⟨b1, c1⟩ := List.getElem?_eq_some_iff.mp e1
      obtain ⟨b2, c2⟩ := List.getElem?_eq_some_iff.mp hl
      exact hil ((List.getElem_inj rs.nd).mp (c1.trans c2.symm))
    exact q.move (Ex.put_ rs hl) (upd_ne ne) fun d x e => by rw [upd_ne (ne_at e r0.noOwn)]; exact e
end
end AR
set_option linter.all false
set_option maxRecDepth 100000
set_option maxHeartbeats 4000000
/-! Expressions. -/
namespace AR
open PySem PySem.Spec PyProof.Rows L2

def eVar (i : Nat) : EM := fun σ S => match σ[i]? with
  | some (some v) => .ok v S
  | _ => .fail
def eC (v : Val) : EM := fun _ S => .ok v S
/-- two places; g: the operation -/
abbrev G2 := Val → Val → Sto → Res Val
abbrev G1 := Val → Sto → Res Val
abbrev GN := List Val → Sto → Res Val
def eBin (g : G2) (m n : EM) : EM := fun σ S => (m σ S).bind fun v S1 => (n σ S1).bind fun w S2 => g v w S2
def eUn (g : G1) (m : EM) : EM := fun σ S => (m σ S).bind fun v S1 => g v S1
def eApp (g : GN) (m : AM) : EM := fun σ S => (m σ S).bind fun v S1 => g v S1
def aNil : AM := fun _ S => .ok [] S
def aCons (m : EM) (n : AM) : AM := fun σ S => (m σ S).bind fun v S1 => (n σ S1).bind fun vs S2 => .ok (v :: vs) S2

/-- g says what the reading r asks for -/
def Abs2 (K : PySem.W.Frag) (mg : Str → Option Value) (r : R2) (g : G2) : Prop :=
  ∀ L S H v w x y (Q : VK) (E : XK), RS K L S H → RV K L H v x → RV K L H w y → PV K mg L H Q E (g v w S) → r x y H Q
def Abs1 (K : PySem.W.Frag) (mg : Str → Option Value) (r : V → Hp → VK → Prop) (g : G1) : Prop :=
  ∀ L S H v x (Q : VK) (E : XK), RS K L S H → RV K L H v x → PV K mg L H Q E (g v S) → r x H Q
def AbsN (K : PySem.W.Frag) (mg : Str → Option Value) (r : List V → Hp → VK → Prop) (g : GN) : Prop :=
  ∀ L S H vs xs (Q : VK) (E : XK), RS K L S H → RVs K L H vs xs → PV K mg L H Q E (g vs S) → r xs H Q

section
variable {X : Cx} {W : WX} {e a b c : Expr} {m n o : EM} {pos : Pos}
theorem me_pe (h : ME X W e m) : PE X e (tE X.K X.mg W m) := h
theorem me_of {t : TE} (h : PE X e t) (i : ∀ L S σ τ H Q, RS X.K L S H → RSl X.K L H σ τ → PV X.K X.mg L H Q (fun c d H' => W c d τ H') (m σ S) → t τ H Q) : ME X W e m :=
  pe_imp h fun τ H Q ⟨L, S, σ, rs, rl, q⟩ => i L S σ τ H Q rs rl q
theorem mt_of {t : TT} {m : TM} (h : PT X e t) (i : ∀ L S σ τ H Q, RS X.K L S H → RSl X.K L H σ τ → PB X.K X.mg L H Q (fun c d H' => W c d τ H') (m σ S) → t τ H Q) : MT X W e m :=
  pt_imp h fun τ H Q ⟨L, S, σ, rs, rl, q⟩ => i L S σ τ H Q rs rl q
/-! names, constants -/
theorem me_var (i : Nat) {x : Str} (hN : X.N[i]? = some x := by rfl) (hv : Vis X.env.scope x := by first | exact Or.inl rfl | exact Or.inr (Or.inl rfl) | exact Or.inr (Or.inr rfl)) (hd : (x == ("__debug__" : Str)) = false := by decide)
    (hcd : (x == ("__classdict__" : Str)) = false := by decide) : ME X W (.Name x pos) (eVar i) := by
  refine me_of (pe_var (i := i) hN hv hd hcd) fun L S σ τ H Q rs rl q => ?_
  unfold eVar at q
  split at q
  · rename_i v e
    obtain ⟨y, h1, h2⟩ := rl.at_ i v e
    exact ⟨y, h1, q L H y Ex.refl rs h2⟩
  · exact q.elim
theorem me_c {v : Val} {y : V} (h : PE X e (tC y)) (r : ∀ K L H, RV K L H v y) : ME X W e (eC v) :=
  me_of h fun L S σ τ H Q rs rl q => q L H y Ex.refl rs (r _ _ _)
theorem me_int {i : Int} {j : Nat} : ME X W (.Constant (.int i) j pos) (eC (.int i)) := me_c pe_int fun _ _ _ => .int i
theorem me_bl {i : Bool} {j : Nat} : ME X W (.Constant (.bool i) j pos) (eC (.bl i)) := me_c pe_bl fun _ _ _ => .bl i
theorem me_non {j : Nat} : ME X W (.Constant .none j pos) (eC .non) := me_c pe_non fun _ _ _ => .non
theorem me_str {i : Str} {j : Nat} : ME X W (.Constant (.str i) j pos) (eC (.str i)) := me_c pe_str fun _ _ _ => .str i
/-- a module's constant that is an int -/
theorem me_globInt {i : Int} {x : Str} (hg : Gl X x) (hm : ∃ t, X.mg x = some (.int i t)) (hd : (x == ("__debug__" : Str)) = false := by decide) : ME X W (.Name x pos) (eC (.int i)) := by
  obtain ⟨t, hm⟩ := hm
  exact me_c (pe_glob (v := .int i) hg hm ⟨t, rfl⟩ hd) fun _ _ _ => .int i
/-! operations -/
theorem me_bin {op : Operator} {r : R2} {g : G2} (ho : OpR X (binaryOp op) r) (hg : Abs2 X.K X.mg r g) (ha : ME X W a m) (hb : ME X W b n) : ME X W (.BinOp a op b pos) (eBin g m n) :=
  me_of (pe_op ho ha hb) fun L S σ τ H Q rs rl q => ⟨L, S, σ, rs, rl, q.bind fun v S1 L1 H1 x k1 rs1 rv1 h1 => ⟨L1, S1, σ, rs1, rl.mono k1, h1.bind fun w S2 L2 H2 y k2 rs2 rv2 h2 =>
    hg _ _ _ _ _ _ _ _ _ rs2 (RV.mono k2 _ _ rv1) rv2 h2⟩⟩
theorem me_cmp {op : CmpOp} {r : R2} {g : G2} (ho : OpR X (compareOp op) r) (hg : Abs2 X.K X.mg r g) (ha : ME X W a m) (hb : ME X W b n) (hm : behindInMarks op b = false) : ME X W (.Compare a [op] [b] pos) (eBin g m n) :=
  me_of (pe_cmpR ho ha hb hm) fun L S σ τ H Q rs rl q => ⟨L, S, σ, rs, rl, q.bind fun v S1 L1 H1 x k1 rs1 rv1 h1 => ⟨L1, S1, σ, rs1, rl.mono k1, h1.bind fun w S2 L2 H2 y k2 rs2 rv2 h2 =>
    hg _ _ _ _ _ _ _ _ _ rs2 (RV.mono k2 _ _ rv1) rv2 h2⟩⟩
theorem me_un {op : UnaryOp} {r : V → Hp → VK → Prop} {g : G1} (ho : UnR X (unaryOp op) r) (hg : Abs1 X.K X.mg r g) (ha : ME X W a m) : ME X W (.UnaryOp op a pos) (eUn g m) :=
  me_of (pe_un ho ha) fun L S σ τ H Q rs rl q => ⟨L, S, σ, rs, rl, q.bind fun v S1 L1 H1 x k1 rs1 rv1 h1 => hg _ _ _ _ _ _ _ rs1 rv1 h1⟩
/-! argument lists -/
theorem ma_nil : MA X W [] aNil := pa_imp pa_nil fun τ H Q ⟨L, S, σ, rs, rl, q⟩ => q L H [] Ex.refl rs .nil
theorem ma_cons {es : List Expr} {ms : AM} (ha : ME X W e m) (hr : MA X W es ms) (hs : starEach (e :: es) X.env = (false, eval e X.env) :: starEach es X.env := by rfl) : MA X W (e :: es) (aCons m ms) :=
  pa_imp (pa_cons ha hr hs) fun τ H Q ⟨L, S, σ, rs, rl, q⟩ => ⟨L, S, σ, rs, rl, q.bind fun v S1 L1 H1 x k1 rs1 rv1 h1 => ⟨L1, S1, σ, rs1, rl.mono k1, h1.bind fun w S2 L2 H2 y k2 rs2 rv2 h2 =>
    h2 L2 H2 _ Ex.refl rs2 (.cons (RV.mono k2 _ _ rv1) rv2)⟩⟩
/-! builtin calls -/
theorem me_callB {id : String} {x : Str} {p : Pos} {es : List Expr} {ms : AM} {r : List V → Hp → VK → Prop} {g : GN} (hc : CallR X (.builtin id) r) (hg : AbsN X.K X.mg r g) (hl : Gl X x) (hm : X.mg x = none) (hv : bootBuiltins x = some (.builtin id)) (ha : MA X W (e :: es) ms)
    (hn : x ≠ "__name__" := by decide) (hdb : (x == ("__debug__" : Str)) = false := by decide) (he : starEach (e :: es) X.env = (false, eval e X.env) :: starEach es X.env := by rfl) (hpl : (backTo pos (starEach es X.env)).any (·.1) = false := by rfl) :
    ME X W (.Call (.Name x p) (e :: es) [] pos) (eApp g ms) :=
  me_of (pe_callB hc hl hm hv ha hn hdb he hpl) fun L S σ τ H Q rs rl q => ⟨L, S, σ, rs, rl, q.bind fun v S1 L1 H1 x k1 rs1 rv1 h1 => hg _ _ _ _ _ _ _ rs1 rv1 h1⟩
theorem me_callTy {id : String} {x : Str} {p : Pos} {es : List Expr} {ms : AM} {r : List V → Hp → VK → Prop} {g : GN} (hc : CallR X (.type id) r) (hg : AbsN X.K X.mg r g) (hl : Gl X x) (hm : X.mg x = none) (hv : bootBuiltins x = some (.type id)) (ha : MA X W (e :: es) ms)
    (hn : x ≠ "__name__" := by decide) (hdb : (x == ("__debug__" : Str)) = false := by decide) (he : starEach (e :: es) X.env = (false, eval e X.env) :: starEach es X.env := by rfl) (hpl : (backTo pos (starEach es X.env)).any (·.1) = false := by rfl) :
    ME X W (.Call (.Name x p) (e :: es) [] pos) (eApp g ms) :=
  me_of (pe_callTy hc hl hm hv ha hn hdb he hpl) fun L S σ τ H Q rs rl q => ⟨L, S, σ, rs, rl, q.bind fun v S1 L1 H1 x k1 rs1 rv1 h1 => hg _ _ _ _ _ _ _ rs1 rv1 h1⟩
end
end AR
set_option linter.all false
set_option maxRecDepth 100000
set_option maxHeartbeats 4000000
/-! Operations. -/
namespace AR
open PySem PySem.Spec PyProof.Rows L2

theorem opr_or {X : Cx} {f : Value → Value → Sem Value} {r r' : R2} (h : OpR X f r) (h' : OpR X f r') : OpR X f (fun x y H Q => r x y H Q ∨ r' x y H Q) := by
  intro pins s σ H x y v u Q I rx ry q
  rcases q with q | q
  · exact h pins s σ H x y v u Q I rx ry q
  · exact h' pins s σ H x y v u Q I rx ry q

/-! ints -/
def gI (C : Int → Int → Bool) (f : Int → Int → Val) : G2 := fun v w S => match v, w with
  | .int i, .int j => if C i j then .ok (f i j) S else .fail
  | _, _ => .fail
section
variable {K : PySem.W.Frag} {mg : Str → Option Value}
theorem abs_gI {C : Int → Int → Bool} {P : Int → Int → Prop} {f : Int → Int → Val} {g : Int → Int → V} (h : ∀ i j, C i j = true → P i j) (hr : ∀ K L H i j, RV K L H (f i j) (g i j)) : Abs2 K mg (rI P g) (gI C f) := by
  intro L S H v w x y Q E rs rv rw' q
  cases rv <;> cases rw' <;> unfold gI at q <;> try exact q.elim
  rename_i i j
  by_cases hc : C i j = true
  · simp only [hc, if_true] at q
    exact ⟨i, j, rfl, rfl, h i j hc, q L H _ Ex.refl rs (hr _ _ _ i j)⟩
  · simp only [hc] at q
    exact q.elim
theorem abs_gI0 {f : Int → Int → Val} {g : Int → Int → V} (hr : ∀ K L H i j, RV K L H (f i j) (g i j)) : Abs2 K mg (rI0 g) (gI (fun _ _ => true) f) := by
  intro L S H v w x y Q E rs rv rw' q
  cases rv <;> cases rw' <;> unfold gI at q <;> try exact q.elim
  rename_i i j
  exact ⟨i, j, rfl, rfl, q L H _ Ex.refl rs (hr _ _ _ i j)⟩
def cMul (i j : Int) : Bool := decide ((-(2 ^ 64) < i ∧ i < 2 ^ 64) ∨ (-(2 ^ 64) < j ∧ j < 2 ^ 64))
def cMod (_ j : Int) : Bool := decide (0 < j)
def cDiv (_ j : Int) : Bool := decide (0 < j ∧ j < 1073741824)
def cPow (i j : Int) : Bool := decide (0 ≤ j ∧ j ≤ 1000000 ∧ i.natAbs < 2 ^ 64)
def cShr (_ j : Int) : Bool := decide (0 ≤ j)
theorem cMul_ok (i j : Int) (h : cMul i j = true) : CMul i j := by unfold cMul at h; unfold CMul; simpa only [decide_eq_true_eq] using h
theorem cDiv_ok (i j : Int) (h : cDiv i j = true) : CDiv i j := by unfold cDiv at h; unfold CDiv; simpa only [decide_eq_true_eq] using h
theorem cPow_ok (i j : Int) (h : cPow i j = true) : CPow i j := by unfold cPow at h; unfold CPow; simpa only [decide_eq_true_eq] using h
end
def isNon : Val → Bool
  | .non => true
  | _ => false
def gSub : G2 := gI (fun _ _ => true) fun i j => .int (i - j)
def gMod : G2 := gI cMod fun i j => .int (i % j)
def gFdiv : G2 := gI cDiv fun i j => .int (i / j)
def gPow : G2 := gI cPow fun i j => .int (i ^ j.toNat)
def gShl : G2 := gI cPow fun i j => .int (i * 2 ^ j.toNat)
def gShr : G2 := gI cShr fun i j => .int (i / 2 ^ j.toNat)
def gAnd : G2 := gI (fun _ _ => true) fun i j => .int (Builtin.bitAnd i j)
def gMulI : G2 := gI cMul fun i j => .int (i * j)
def gLt : G2 := gI (fun _ _ => true) fun i j => .bl (decide (i < j))
def gLe : G2 := gI (fun _ _ => true) fun i j => .bl (decide (i ≤ j))
def gGt : G2 := gI (fun _ _ => true) fun i j => .bl (decide (j < i))
def gGe : G2 := gI (fun _ _ => true) fun i j => .bl (decide (j ≤ i))
/-- + of ints, tuples, lists -/
def gAdd : G2 := fun v w S => match v, w with
  | .int i, .int j => .ok (.int (i + j)) S
  | .tup a, .tup b => if a.length + b.length ≤ sizeLine then .ok (.tup (a ++ b)) S else .fail
  | .loc l, .loc k => match S[l]?, S[k]? with
    | some (.lst a), some (.lst b) => if a.length + b.length ≤ sizeLine then .ok (.loc S.length) (S ++ [.lst (a ++ b)]) else .fail
    | _, _ => .fail
  | _, _ => .fail
section
variable {X : Cx}
theorem RO.lst' {K : PySem.W.Frag} {L : List Addr} {H : Hp} {a : Addr} {vs : List Val} (r : RO K L H a (.lst vs)) : ∃ xs, H a = some (.lst xs) ∧ RVs K L H vs xs := r
def rAdd3 (K : PySem.W.Frag) : R2 := fun x y H Q => rI0 (fun i j => .int (i + j)) x y H Q ∨ (rCatA K x y H Q ∨ rCat x y H Q)
theorem op_add3 : OpR X (binaryOp .Add) (rAdd3 X.K) := opr_or op_add (opr_or op_catA op_cat)
/-- a new object of the store stands at p -/
theorem PR.push {K : PySem.W.Frag} {mg : Str → Option Value} {L : List Addr} {S : Sto} {H : Hp} {Q : VK} {E : XK} {vs : List Val} {xs : List V} {p : Addr} (rs : RS K L S H) (r : RVs K L H vs xs)
    (q : PV K mg L H Q E (.ok (.loc S.length) (S ++ [.lst vs]))) (hp : H p = none) : Q (.ref p) (upd H p (.lst xs)) := by
  refine q (L ++ [p]) (upd H p (.lst xs)) (.ref p) (Ex.push_ hp) (rs.push hp ⟨xs, upd_same, RVs.mono (Ex.push_ hp) _ _ r⟩) (.loc ?_)
  rw [← rs.len, List.getElem?_append_right (Nat.le_refl _), Nat.sub_self]
  rfl
/-- a new tuple -/
theorem PR.tup {K : PySem.W.Frag} {mg : Str → Option Value} {L : List Addr} {S : Sto} {H : Hp} {Q : VK} {E : XK} {vs : List Val} {xs : List V} {p : Addr} (rs : RS K L S H) (r : RVs K L H vs xs)
    (q : PV K mg L H Q E (.ok (.tup vs) S)) (hp : H p = none) : Q (.ref p) (upd H p (.tup xs)) :=
  q L (upd H p (.tup xs)) (.ref p) (Ex.new_ hp) (rs.new hp) (.tup (SqT.of upd_same) (RVs.mono (Ex.new_ hp) _ _ r))
theorem abs_add {K : PySem.W.Frag} {mg : Str → Option Value} : Abs2 K mg (rAdd3 K) gAdd := by
  intro L S H v w x y Q E rs rv rw' q
  unfold gAdd at q
  split at q
  · cases rv; cases rw'
    exact .inl ⟨_, _, rfl, rfl, q L H _ Ex.refl rs (.int _)⟩
  · rename_i a b
    cases rv with
    | tup ha ra =>
      cases rw' with
      | tup hb rb =>
        split at q
        · rename_i hz
          refine .inr (.inl ⟨_, _, _, _, rfl, rfl, ha, hb, by rw [← ra.len, ← rb.len]; exact hz, fun e => ?_, fun _ e => ?_, fun _ _ p hp => ?_⟩)
          · subst e
            cases ra
            exact q L H _ Ex.refl rs (.tup hb rb)
          · subst e
            cases rb
            rw [List.append_nil] at q
            exact q L H _ Ex.refl rs (.tup ha ra)
          · exact PR.tup rs (ra.app rb) q hp
        · exact q.elim
  · rename_i l k
    split at q
    · rename_i a b ea eb
      split at q
      · rename_i hz
        cases rv with
        | loc hl =>
          cases rw' with
          | loc hk =>
            obtain ⟨xs, h1, r1⟩ := RO.lst' (rs.at_ l _ _ hl ea)
            obtain ⟨ys, h2, r2⟩ := RO.lst' (rs.at_ k _ _ hk eb)
            exact .inr (.inr ⟨_, _, xs, ys, rfl, rfl, h1, h2, by rw [← r1.len, ← r2.len]; exact hz, fun p hp => PR.push rs (r1.app r2) q hp⟩)
      · exact q.elim
    · exact q.elim
  · exact q.elim
variable {W : WX} {e a b c : Expr} {m n o : EM} {pos : Pos}
theorem me_add (ha : ME X W a m) (hb : ME X W b n) : ME X W (.BinOp a .Add b pos) (eBin gAdd m n) := me_bin op_add3 abs_add ha hb
theorem me_sub (ha : ME X W a m) (hb : ME X W b n) : ME X W (.BinOp a .Sub b pos) (eBin gSub m n) := me_bin op_sub (abs_gI0 fun _ _ _ _ _ => .int _) ha hb
theorem me_mulI (ha : ME X W a m) (hb : ME X W b n) : ME X W (.BinOp a .Mult b pos) (eBin gMulI m n) := me_bin op_mul (abs_gI cMul_ok fun _ _ _ _ _ => .int _) ha hb
theorem me_mod (ha : ME X W a m) (hb : ME X W b n) : ME X W (.BinOp a .Mod b pos) (eBin gMod m n) := me_bin op_mod (abs_gI (fun _ _ h => of_decide_eq_true h) fun _ _ _ _ _ => .int _) ha hb
theorem me_fdiv (ha : ME X W a m) (hb : ME X W b n) : ME X W (.BinOp a .FloorDiv b pos) (eBin gFdiv m n) := me_bin op_fdiv (abs_gI cDiv_ok fun _ _ _ _ _ => .int _) ha hb
theorem me_pow (ha : ME X W a m) (hb : ME X W b n) : ME X W (.BinOp a .Pow b pos) (eBin gPow m n) := me_bin op_pow (abs_gI cPow_ok fun _ _ _ _ _ => .int _) ha hb
theorem me_shl (ha : ME X W a m) (hb : ME X W b n) : ME X W (.BinOp a .LShift b pos) (eBin gShl m n) := me_bin op_shl (abs_gI cPow_ok fun _ _ _ _ _ => .int _) ha hb
theorem me_shr (ha : ME X W a m) (hb : ME X W b n) : ME X W (.BinOp a .RShift b pos) (eBin gShr m n) := me_bin op_shr (abs_gI (fun _ _ h => of_decide_eq_true h) fun _ _ _ _ _ => .int _) ha hb
theorem me_band (ha : ME X W a m) (hb : ME X W b n) : ME X W (.BinOp a .BitAnd b pos) (eBin gAnd m n) := me_bin op_and (abs_gI0 fun _ _ _ _ _ => .int _) ha hb
theorem me_lt (ha : ME X W a m) (hb : ME X W b n) : ME X W (.Compare a [.Lt] [b] pos) (eBin gLt m n) := me_cmp op_lt (abs_gI0 fun _ _ _ _ _ => .bl _) ha hb (nomark _)
theorem me_le (ha : ME X W a m) (hb : ME X W b n) : ME X W (.Compare a [.LtE] [b] pos) (eBin gLe m n) := me_cmp op_le (abs_gI0 fun _ _ _ _ _ => .bl _) ha hb (nomark _)
theorem me_gt (ha : ME X W a m) (hb : ME X W b n) : ME X W (.Compare a [.Gt] [b] pos) (eBin gGt m n) := me_cmp op_gt (abs_gI0 fun _ _ _ _ _ => .bl _) ha hb (nomark _)
theorem me_ge (ha : ME X W a m) (hb : ME X W b n) : ME X W (.Compare a [.GtE] [b] pos) (eBin gGe m n) := me_cmp op_ge (abs_gI0 fun _ _ _ _ _ => .bl _) ha hb (nomark _)
def gNeg : G1 := fun v S => match v with
  | .int i => .ok (.int (-i)) S
  | _ => .fail
theorem me_neg (ha : ME X W a m) : ME X W (.UnaryOp .USub a pos) (eUn gNeg m) := by
  refine me_un un_neg (fun L S H v x Q E rs rv q => ?_) ha
  cases rv <;> unfold gNeg at q <;> try exact q.elim
  exact ⟨_, rfl, q L H _ Ex.refl rs (.int _)⟩
/-! is None -/
def gIsN : G1 := fun v S => .ok (.bl (isNon v)) S
def gNotN : G1 := fun v S => .ok (.bl (!isNon v)) S
theorem dec_non {K : PySem.W.Frag} {L : List Addr} {H : Hp} {v : Val} {x : V} (r : RV K L H v x) : decide (x = .non) = isNon v := by
  cases r <;> rfl
theorem me_isN {j p} (ha : ME X W a m) : ME X W (.Compare a [.Is] [.Constant .none j p] pos) (eUn gIsN m) :=
  me_of (pe_cmp (pc_isN ha)) fun L S σ τ H Q rs rl q => ⟨L, S, σ, rs, rl, q.bind fun v S1 L1 H1 x k1 rs1 rv1 h1 => h1 L1 H1 _ Ex.refl rs1 (by rw [dec_non rv1]; exact .bl _)⟩
theorem me_notN {j p} (ha : ME X W a m) : ME X W (.Compare a [.IsNot] [.Constant .none j p] pos) (eUn gNotN m) :=
  me_of (pe_cmp (pc_notN ha)) fun L S σ τ H Q rs rl q => ⟨L, S, σ, rs, rl, q.bind fun v S1 L1 H1 x k1 rs1 rv1 h1 => h1 L1 H1 _ Ex.refl rs1 (by rw [dec_non rv1]; exact .bl _)⟩
/-! and, or, not, if as values -/
def eAnd (m n : EM) : EM := fun σ S => (m σ S).bind fun v S1 => match v with
  | .bl true => n σ S1
  | .bl false => .ok (.bl false) S1
  | _ => .fail
def eOr (m n : EM) : EM := fun σ S => (m σ S).bind fun v S1 => match v with
  | .bl true => .ok (.bl true) S1
  | .bl false => n σ S1
  | _ => .fail
def gNot : G1 := fun v S => match v with
  | .bl b => .ok (.bl (!b)) S
  | _ => .fail
theorem me_one {op} (h : ME X W a m) : ME X W (.BoolOp op [a] pos) m := pe_one h
theorem me_and {rest : List Expr} (ha : ME X W a m) (hb : ME X W (.BoolOp .And (b :: rest) pos) n) : ME X W (.BoolOp .And (a :: b :: rest) pos) (eAnd m n) :=
  me_of (pe_and ha hb) fun L S σ τ H Q rs rl q => ⟨L, S, σ, rs, rl, q.bind fun v S1 L1 H1 x k1 rs1 rv1 h1 => by
    cases rv1 <;> try exact h1.elim
    rename_i z
    refine ⟨z, rfl, ?_⟩
    cases z with
    | true => exact ⟨L1, S1, σ, rs1, rl.mono k1, h1⟩
    | false => exact h1 L1 H1 _ Ex.refl rs1 (.bl _)⟩
theorem me_or {rest : List Expr} (ha : ME X W a m) (hb : ME X W (.BoolOp .Or (b :: rest) pos) n) : ME X W (.BoolOp .Or (a :: b :: rest) pos) (eOr m n) :=
  me_of (pe_or ha hb) fun L S σ τ H Q rs rl q => ⟨L, S, σ, rs, rl, q.bind fun v S1 L1 H1 x k1 rs1 rv1 h1 => by
    cases rv1 <;> try exact h1.elim
    rename_i z
    refine ⟨z, rfl, ?_⟩
    cases z with
    | true => exact h1 L1 H1 _ Ex.refl rs1 (.bl _)
    | false => exact ⟨L1, S1, σ, rs1, rl.mono k1, h1⟩⟩
theorem me_not (ha : ME X W a m) : ME X W (.UnaryOp .Not a pos) (eUn gNot m) :=
  me_of (pe_not ha) fun L S σ τ H Q rs rl q => ⟨L, S, σ, rs, rl, q.bind fun v S1 L1 H1 x k1 rs1 rv1 h1 => by
    cases rv1 <;> try exact h1.elim
    rename_i z
    exact ⟨z, rfl, h1 L1 H1 _ Ex.refl rs1 (.bl _)⟩⟩
/-! tests -/
def tV (m : EM) : TM := fun σ S => (m σ S).bind fun v S1 => match v with
  | .bl b => .ok b S1
  | _ => .fail
def tNt (t : TM) : TM := fun σ S => (t σ S).bind fun b S1 => .ok (!b) S1
def tAn (t u : TM) : TM := fun σ S => (t σ S).bind fun b S1 => if b = true then u σ S1 else .ok false S1
def tOrr (t u : TM) : TM := fun σ S => (t σ S).bind fun b S1 => if b = true then .ok true S1 else u σ S1
def MW (X : Cx) (W : WX) (e : Expr) (m : TM) : Prop := PW X e (tT X.K X.mg W m)
variable {t u : TM}
theorem mt_cmp {op : CmpOp} {r : R2} {g : G2} (ho : OpR X (compareOp op) r) (hg : Abs2 X.K X.mg r g) (ha : ME X W a m) (hb : ME X W b n) (hm : behindInMarks op b = false) : MT X W (.Compare a [op] [b] pos) (tV (eBin g m n)) :=
  mt_of (pt_cmpR ho ha hb hm) fun L S σ τ H Q rs rl q => by
    have q' : PB X.K X.mg L H Q (fun c d H' => W c d τ H') ((m σ S).bind fun v S1 => (n σ S1).bind fun w S2 => (g v w S2).bind fun v S1 => match v with | .bl b => .ok b S1 | _ => .fail) := by
      unfold tV eBin at q
      revert q
      cases m σ S with
      | ok v S1 =>
        simp only [Res.bind]
        cases n σ S1 with
        | ok w S2 => simp only [Res.bind]; exact id
        | exc c f v S => exact id
        | fail => exact id
      | exc c f v S => exact id
      | fail => exact id
    exact ⟨L, S, σ, rs, rl, q'.bind fun v S1 L1 H1 x k1 rs1 rv1 h1 => ⟨L1, S1, σ, rs1, rl.mono k1, h1.bind fun w S2 L2 H2 y k2 rs2 rv2 h2 =>
      hg _ _ _ _ _ _ _ _ (fun c d H' => W c d τ H') rs2 (RV.mono k2 _ _ rv1) rv2 (h2.bind fun z S3 L3 H3 x3 k3 rs3 rv3 h3 => by
        cases rv3 <;> try exact h3.elim
        exact ⟨_, rfl, h3 L3 H3 _ Ex.refl rs3 rfl⟩)⟩⟩
theorem mt_lt (ha : ME X W a m) (hb : ME X W b n) : MT X W (.Compare a [.Lt] [b] pos) (tV (eBin gLt m n)) := mt_cmp op_lt (abs_gI0 fun _ _ _ _ _ => .bl _) ha hb (nomark _)
theorem mt_le (ha : ME X W a m) (hb : ME X W b n) : MT X W (.Compare a [.LtE] [b] pos) (tV (eBin gLe m n)) := mt_cmp op_le (abs_gI0 fun _ _ _ _ _ => .bl _) ha hb (nomark _)
theorem mt_gt (ha : ME X W a m) (hb : ME X W b n) : MT X W (.Compare a [.Gt] [b] pos) (tV (eBin gGt m n)) := mt_cmp op_gt (abs_gI0 fun _ _ _ _ _ => .bl _) ha hb (nomark _)
theorem mt_ge (ha : ME X W a m) (hb : ME X W b n) : MT X W (.Compare a [.GtE] [b] pos) (tV (eBin gGe m n)) := mt_cmp op_ge (abs_gI0 fun _ _ _ _ _ => .bl _) ha hb (nomark _)
theorem mt_isN {j p} (ha : ME X W a m) : MT X W (.Compare a [.Is] [.Constant .none j p] pos) (tV (eUn gIsN m)) :=
  mt_of (pt_cmp (pc_isN ha)) fun L S σ τ H Q rs rl q => by
    unfold tV eUn gIsN at q
    cases hm : m σ S with
    | ok v S1 =>
      rw [hm] at q
      exact ⟨L, S, σ, rs, rl, by rw [hm]; exact fun L1 H1 x k1 rs1 rv1 => ⟨_, rfl, q L1 H1 _ k1 rs1 (dec_non rv1).symm⟩⟩
    | exc c f v S1 => rw [hm] at q; exact ⟨L, S, σ, rs, rl, by rw [hm]; exact q⟩
    | fail => rw [hm] at q; exact q.elim
theorem mt_notN {j p} (ha : ME X W a m) : MT X W (.Compare a [.IsNot] [.Constant .none j p] pos) (tV (eUn gNotN m)) :=
  mt_of (pt_cmp (pc_notN ha)) fun L S σ τ H Q rs rl q => by
    unfold tV eUn gNotN at q
    cases hm : m σ S with
    | ok v S1 =>
      rw [hm] at q
      exact ⟨L, S, σ, rs, rl, by rw [hm]; exact fun L1 H1 x k1 rs1 rv1 => ⟨_, rfl, q L1 H1 _ k1 rs1 (by rw [dec_non rv1])⟩⟩
    | exc c f v S1 => rw [hm] at q; exact ⟨L, S, σ, rs, rl, by rw [hm]; exact q⟩
    | fail => rw [hm] at q; exact q.elim
theorem mt_not (ha : MT X W a t) : MT X W (.UnaryOp .Not a pos) (tNt t) :=
  mt_of (pt_not ha) fun L S σ τ H Q rs rl q => ⟨L, S, σ, rs, rl, q.bind fun v S1 L1 H1 x k1 rs1 rv1 h1 => h1 L1 H1 _ Ex.refl rs1 (congrArg (!·) rv1)⟩
theorem mw_and1 (ha : MT X W a t) : MW X W (.BoolOp .And [a] pos) t := pw_and1 ha
theorem mw_or1 (ha : MT X W a t) : MW X W (.BoolOp .Or [a] pos) t := pw_or1 ha
theorem pw_imp {X : Cx} {e : Expr} {t u : TT} (h : PW X e t) (i : ∀ τ H Q, u τ H Q → t τ H Q) : PW X e u := ⟨fun w p s τ H Q I q => h.run w p s τ H Q I (i τ H Q q)⟩
theorem mw_and {rest : List Expr} (ha : MT X W a t) (hb : MW X W (.BoolOp .And (b :: rest) pos) u) : MW X W (.BoolOp .And (a :: b :: rest) pos) (tAn t u) :=
  pw_imp (pw_and ha hb) fun τ H Q ⟨L, S, σ, rs, rl, q⟩ => ⟨L, S, σ, rs, rl, q.bind fun v S1 L1 H1 x k1 rs1 rv1 h1 => by
    obtain rfl : v = x := rv1
    cases v with
    | true => exact ⟨L1, S1, σ, rs1, rl.mono k1, h1⟩
    | false => exact h1 L1 H1 _ Ex.refl rs1 rfl⟩
theorem mw_or {rest : List Expr} (ha : MT X W a t) (hb : MW X W (.BoolOp .Or (b :: rest) pos) u) : MW X W (.BoolOp .Or (a :: b :: rest) pos) (tOrr t u) :=
  pw_imp (pw_or ha hb) fun τ H Q ⟨L, S, σ, rs, rl, q⟩ => ⟨L, S, σ, rs, rl, q.bind fun v S1 L1 H1 x k1 rs1 rv1 h1 => by
    obtain rfl : v = x := rv1
    cases v with
    | true => exact h1 L1 H1 _ Ex.refl rs1 rfl
    | false => exact ⟨L1, S1, σ, rs1, rl.mono k1, h1⟩⟩
theorem mw_t (h : MW X W e t) : MT X W e t := PW.pt h
/-! an expression's truth -/
def tTru (m : EM) : TM := fun σ S => (m σ S).bind fun v S1 => match v with
  | .bl b => .ok b S1
  | .non => .ok false S1
  | .int i => .ok (i != 0) S1
  | .tup vs => .ok (!vs.isEmpty) S1
  | .loc l => match S1[l]? with
    | some (.lst vs) => .ok (!vs.isEmpty) S1
    | _ => .fail
  | _ => .fail
theorem mt_truth (ha : ME X W a m) (he : ∀ whole, isTrue a X.env whole = (do let v ← whole; standAt a.pos; holding [v] (truthy v)) := by intro _; rfl) : MT X W a (tTru m) :=
  mt_of (pt_truth ha he) fun L S σ τ H Q rs rl q => ⟨L, S, σ, rs, rl, q.bind fun v S1 L1 H1 x k1 rs1 rv1 h1 => by
    cases rv1 with
    | non => exact ⟨_, rfl, h1 L1 H1 _ Ex.refl rs1 rfl⟩
    | bl b => exact ⟨_, rfl, h1 L1 H1 _ Ex.refl rs1 rfl⟩
    | int i => exact ⟨_, rfl, h1 L1 H1 _ Ex.refl rs1 rfl⟩
    | tup ht r => exact ⟨_, .inr (.inl ⟨_, ht, by rw [r.nil_iff]⟩), h1 L1 H1 _ Ex.refl rs1 rfl⟩
    | str s => exact h1.elim
    | sc _ _ => exact h1.elim
    | loc hl =>
      rename_i l p
      dsimp only at h1
      cases hs : S1[l]? with
      | none => rw [hs] at h1; exact h1.elim
      | some o =>
        rw [hs] at h1
        cases o with
        | lst vs =>
          obtain ⟨xs, h2, r2⟩ := RO.lst' (rs1.at_ l _ _ hl hs)
          exact ⟨_, .inl ⟨xs, SqL.of h2, by rw [r2.nil_iff]⟩, h1 L1 H1 _ Ex.refl rs1 rfl⟩
        | ins C fs => exact h1.elim⟩
def eIf (t : TM) (m n : EM) : EM := fun σ S => (t σ S).bind fun b S1 => if b = true then m σ S1 else n σ S1
theorem me_if (hc : MT X W c t) (ha : ME X W a m) (hb : ME X W b n) : ME X W (.IfExp c a b pos) (eIf t m n) :=
  me_of (pe_ifExp hc ha hb) fun L S σ τ H Q rs rl q => ⟨L, S, σ, rs, rl, q.bind fun v S1 L1 H1 x k1 rs1 rv1 h1 => by
    obtain rfl : v = x := rv1
    cases v with
    | true => exact ⟨L1, S1, σ, rs1, rl.mono k1, h1⟩
    | false => exact ⟨L1, S1, σ, rs1, rl.mono k1, h1⟩⟩
/-! displays -/
def eTup (m : AM) : EM := fun σ S => (m σ S).bind fun vs S1 => if vs.length ≤ sizeLine then .ok (.tup vs) S1 else .fail
def eLst (m : AM) : EM := fun σ S => (m σ S).bind fun vs S1 => if vs.length ≤ sizeLine then .ok (.loc S1.length) (S1 ++ [.lst vs]) else .fail
theorem me_tup {x1} {es : List Expr} {ms : AM} (h : MA X W es ms) : ME X W (.Tuple es x1 pos) (eTup ms) :=
  me_of (pe_tup h) fun L S σ τ H Q rs rl q => ⟨L, S, σ, rs, rl, q.bind fun v S1 L1 H1 x k1 rs1 rv1 h1 => by
    split at h1
    · rename_i hz
      exact ⟨by rw [← rv1.len]; exact hz, fun p hp => PR.tup rs1 rv1 h1 hp⟩
    · exact h1.elim⟩
theorem me_lst {es : List Expr} {ms : AM} (h : MA X W es ms) : ME X W (.List es pos) (eLst ms) :=
  me_of (pe_lst h) fun L S σ τ H Q rs rl q => ⟨L, S, σ, rs, rl, q.bind fun v S1 L1 H1 x k1 rs1 rv1 h1 => by
    split at h1
    · rename_i hz
      exact ⟨by rw [← rv1.len]; exact hz, fun p hp => PR.push rs1 rv1 h1 hp⟩
    · exact h1.elim⟩
end
end AR
set_option linter.all false
set_option maxRecDepth 100000
set_option maxHeartbeats 4000000
/-! Statements, loops, calls, defs. -/
namespace AR
open PySem PySem.Spec PyProof.Rows L2

/-! ### statements -/
def ofR {α : Type} (r : Res α) (σ : Slots) (k : α → Sto → Option (Out × Sto)) : Option (Out × Sto) := match r with
  | .ok v S => k v S
  | .exc c f v S => some (.exc c f v σ, S)
  | .fail => none
def sNext : SM := fun σ S => some (.next σ, S)
def sBrk : SM := fun σ S => some (.brk σ, S)
def sCont : SM := fun σ S => some (.cont σ, S)
def sSeq (m n : SM) : SM := fun σ S => match m σ S with
  | some (.next σ1, S1) => n σ1 S1
  | r => r
def sSet (i : Nat) (m : EM) : SM := fun σ S => ofR (m σ S) σ fun v S1 => some (.next (σ.set i (some v)), S1)
def sExpr (m : EM) : SM := fun σ S => ofR (m σ S) σ fun _ S1 => some (.next σ, S1)
def sRet (m : EM) : SM := fun σ S => ofR (m σ S) σ fun v S1 => some (.ret v, S1)
def sRetN : SM := fun _ S => some (.ret .non, S)
def sIf (t : TM) (a b : SM) : SM := fun σ S => ofR (t σ S) σ fun c S1 => if c = true then a σ S1 else b σ S1
/-- a target: the slots, and what goes there -/
structure GA where
  is : List Nat
  dec : Val → Sto → Option (List Val)
def setAll : List Nat → List Val → Slots → Slots
  | i :: is, v :: vs, σ => setAll is vs (σ.set i (some v))
  | _, _, σ => σ
def setAllV : List Nat → List V → St → St
  | i :: is, v :: vs, σ => setAllV is vs (σ.set i (some v))
  | _, _, σ => σ
def gaName (i : Nat) : GA := ⟨[i], fun v _ => some [v]⟩
def gaTup (is : List Nat) : GA := ⟨is, fun v S => match v with
  | .tup vs => if vs.length = is.length then some vs else none
  | .loc l => match S[l]? with
    | some (.lst vs) => if vs.length = is.length then some vs else none
    | _ => none
  | _ => none⟩
def sAsg (g : GA) (m : EM) : SM := fun σ S => ofR (m σ S) σ fun v S1 => match g.dec v S1 with
  | some ws => some (.next (setAll g.is ws σ), S1)
  | none => none
section
variable {K : PySem.W.Frag} {mg : Str → Option Value} {L L' : List Addr} {H H' : Hp} {D : Ends} {W : WX} {σ : Slots} {τ : St} {S : Sto}
theorem PSt.ofR {α β : Type} {rel : List Addr → Hp → α → β → Prop} {R : β → Hp → Prop} {r : Res α} {k : α → Sto → Option (Out × Sto)} (rl : RSl K L H σ τ) (h : PSt K mg L H D W (ofR r σ k))
    (hk : ∀ v S1 L1 H1 x, Ex K L H L1 H1 → RS K L1 S1 H1 → rel L1 H1 v x → PSt K mg L1 H1 D W (k v S1) → R x H1) : PR K mg rel L H R (fun c d H' => W c d τ H') r := by
  cases r with
  | ok v S => exact fun L1 H1 x k1 rs1 rv1 => hk v S L1 H1 x k1 rs1 rv1 (PSt.shift k1 h)
  | exc c f v S => exact fun L1 H1 cls d k1 rs1 xr => h L1 H1 τ cls d k1 rs1 (rl.mono k1) xr
  | fail => exact h
theorem PSt.nxt (h : PSt K mg L H D W (some (.next σ, S))) (rs : RS K L S H) (rl : RSl K L H σ τ) : D.nx τ H := h L H τ .refl rs rl
theorem PSt.rtn {v : Val} {x : V} (h : PSt K mg L H D W (some (.ret v, S))) (rs : RS K L S H) (r : RV K L H v x) : D.rt x H := h L H x .refl rs r
end
section
variable {X : Cx} {W : WX} {e a b c : Expr} {m n o : EM} {p q : SM} {t : TM} {pos : Pos} {st : Stmt} {sts : List Stmt}
theorem ms_of {t : TS} {m : SM} (h : PS X st t) (i : ∀ L S σ τ H D, RS X.K L S H → RSl X.K L H σ τ → PSt X.K X.mg L H D W (m σ S) → t D τ H) : MS X W st m :=
  ps_imp h fun D τ H ⟨L, S, σ, rs, rl, q⟩ => i L S σ τ H D rs rl q
theorem mb_of {t : TS} {m : SM} (h : PSs X sts t) (i : ∀ L S σ τ H D, RS X.K L S H → RSl X.K L H σ τ → PSt X.K X.mg L H D W (m σ S) → t D τ H) : MB X W sts m :=
  pss_imp h fun D τ H ⟨L, S, σ, rs, rl, q⟩ => i L S σ τ H D rs rl q
theorem mb_nil : MB X W [] sNext := mb_of pss_nil fun L S σ τ H D rs rl q => q.nxt rs rl
theorem PSt.seq {K : PySem.W.Frag} {mg : Str → Option Value} {L : List Addr} {H : Hp} {D : Ends} {σ : Slots} {S : Sto} (h : PSt K mg L H D W (sSeq p q σ S)) : PSt K mg L H { D with nx := fun τ' H' => tS K mg W q D τ' H' } W (p σ S) := by
  unfold sSeq at h
  generalize hp : p σ S = r at h
  match r, h with
  | some (.next σ1, S1), h => exact fun L1 H1 τ1 k1 rs1 rl1 => ⟨L1, S1, σ1, rs1, rl1, PSt.shift k1 h⟩
  | some (.brk σ1, S1), h => exact h
  | some (.cont σ1, S1), h => exact h
  | some (.ret v, S1), h => exact h
  | some (.exc c f v σ1, S1), h => exact h
theorem mb_cons (h1 : MS X W st p) (h2 : MB X W sts q) : MB X W (st :: sts) (sSeq p q) :=
  mb_of (pss_cons h1 h2) fun L S σ τ H D rs rl q => ⟨L, S, σ, rs, rl, q.seq⟩
theorem mb_one (h1 : MS X W st p) : MB X W [st] p := mb_of (pss_one h1) fun L S σ τ H D rs rl q => ⟨L, S, σ, rs, rl, q⟩
theorem ms_pass : MS X W (.Pass pos) sNext := ms_of ps_pass fun L S σ τ H D rs rl q => q.nxt rs rl
theorem ms_brk : MS X W (.Break pos) sBrk := ms_of ps_break fun L S σ τ H D rs rl q => q L H τ .refl rs rl
theorem ms_cont : MS X W (.Continue pos) sCont := ms_of ps_continue fun L S σ τ H D rs rl q => q L H τ .refl rs rl
theorem ms_doc {x j pos pos'} : MS X W (.Expr (.Constant (.str x) j pos) pos') sNext := ms_of ps_doc fun L S σ τ H D rs rl q => q.nxt rs rl
theorem ms_set (i : Nat) {x : Str} {pos' : Pos} (hN : X.N.Nodup) (he : ME X W e m) (hi : X.N[i]? = some x := by rfl) (hx : Loc X.env.scope x := by first | exact Or.inl rfl | exact Or.inr rfl) (hs : swapsWith e (some (.Name x pos')) pos.line X.env = pure false := by rfl)
    (hf : X.fn x = true ∨ X.env.scope.names.lookup x = some .local := by first | exact .inl rfl | exact .inr rfl) : MS X W (.Assign [.Name x pos'] e pos) (sSet i m) :=
  ms_of (ps_set hN hi hx he hs hf) fun L S σ τ H D rs rl q => ⟨L, S, σ, rs, rl, q.ofR rl fun v S1 L1 H1 x k1 rs1 rv1 q1 => q1.nxt rs1 ((rl.mono k1).set i rv1)⟩
theorem ms_expr (he : ME X W e m) (hs : swapsWith e none pos.line X.env = pure false := by rfl) : MS X W (.Expr e pos) (sExpr m) :=
  ms_of (ps_expr he hs) fun L S σ τ H D rs rl q => ⟨L, S, σ, rs, rl, q.ofR rl fun v S1 L1 H1 x k1 rs1 rv1 q1 => q1.nxt rs1 (rl.mono k1)⟩
theorem ms_ret (he : ME X W e m) : MS X W (.Return (some e) pos) (sRet m) :=
  ms_of (ps_ret he) fun L S σ τ H D rs rl q => ⟨L, S, σ, rs, rl, q.ofR rl fun v S1 L1 H1 x k1 rs1 rv1 q1 => q1.rtn rs1 rv1⟩
theorem ms_retN : MS X W (.Return none pos) sRetN := ms_of ps_retN fun L S σ τ H D rs rl q => q.rtn rs .non
theorem ms_if {sa sb : List Stmt} (hc : MT X W c t) (ha : MB X W sa p) (hb : MB X W sb q) : MS X W (.If c sa sb pos) (sIf t p q) :=
  ms_of (ps_if hc ha hb) fun L S σ τ H D rs rl q => ⟨L, S, σ, rs, rl, q.ofR rl fun v S1 L1 H1 x k1 rs1 rv1 q1 => by
    obtain rfl : v = x := rv1
    cases v with
    | true => exact ⟨L1, S1, σ, rs1, rl.mono k1, q1⟩
    | false => exact ⟨L1, S1, σ, rs1, rl.mono k1, q1⟩⟩
/-! targets -/
theorem RSl.setAll {K : PySem.W.Frag} {L : List Addr} {H : Hp} : ∀ {is : List Nat} {ws : List Val} {xs : List V} {σ : Slots} {τ : St}, RSl K L H σ τ → RVs K L H ws xs → RSl K L H (setAll is ws σ) (setAllV is xs τ)
  | [], ws, xs, σ, τ, h, r => by cases r <;> exact h
  | i :: is, [], _, σ, τ, h, r => by cases r; exact h
  | i :: is, w :: ws, _, σ, τ, h, r => by
    cases r with
    | cons a b => exact RSl.setAll (is := is) (h.set i a) b
def tG (K : PySem.W.Frag) (g : GA) : TG := fun v τ H Q => ∃ L S w ws, RS K L S H ∧ RV K L H w v ∧ g.dec w S = some ws ∧ ∀ xs, RVs K L H ws xs → Q (setAllV g.is xs τ) H
def MG (X : Cx) (tg : Expr) (g : GA) : Prop := PG X tg (tG X.K g)
theorem pg_imp {tg : Expr} {t u : TG} (h : PG X tg t) (i : ∀ v τ H Q, u v τ H Q → t v τ H Q) : PG X tg u := ⟨fun p s σ H v w Q I r q => h.run p s σ H v w Q I r (i _ _ _ _ q)⟩
theorem mg_name (i : Nat) {x : Str} (hN : X.N.Nodup) (hi : X.N[i]? = some x := by rfl) (hx : Loc X.env.scope x := by first | exact Or.inl rfl | exact Or.inr rfl) (hf : X.fn x = true ∨ X.env.scope.names.lookup x = some .local := by first | exact .inl rfl | exact .inr rfl) :
    MG X (.Name x pos) (gaName i) := pg_imp (pg_name hN hi hx hf) fun v τ H Q ⟨L, S, w, ws, rs, rv, e, q⟩ => by
  cases e
  exact q [v] (RVs.one rv)
/-- a row of names -/
inductive Nms (X : Cx) : List Expr → List Nat → Prop
  | nil : Nms X [] []
  | cons {x : Str} {pos : Pos} {es : List Expr} {i : Nat} {is : List Nat} : PG X (.Name x pos) (gName i) → ((assignEach (.Name x pos :: es) X.env).map (·.2) = assign (.Name x pos) X.env :: (assignEach es X.env).map (·.2)) → Nms X es is → Nms X (.Name x pos :: es) (i :: is)
def gSet (is : List Nat) : TGs := fun vs τ H Q => vs.length = is.length ∧ Q (setAllV is vs τ) H
theorem nm_cons (i : Nat) {x : Str} {es : List Expr} {is : List Nat} (hN : X.N.Nodup) (r : Nms X es is) (hi : X.N[i]? = some x := by rfl) (hx : Loc X.env.scope x := by first | exact Or.inl rfl | exact Or.inr rfl) (hf : X.fn x = true ∨ X.env.scope.names.lookup x = some .local := by first | exact .inl rfl | exact .inr rfl)
    (hs : (assignEach (.Name x pos :: es) X.env).map (·.2) = assign (.Name x pos) X.env :: (assignEach es X.env).map (·.2) := by rfl) : Nms X (.Name x pos :: es) (i :: is) := .cons (pg_name hN hi hx hf) hs r
theorem Nms.pgs : ∀ {es : List Expr} {is : List Nat}, Nms X es is → PGs X es (gSet is)
  | _, _, .nil => ⟨fun pins s σ H vs us Q I r h => by
      obtain ⟨h1, h2⟩ := h
      cases r with
      | nil => exact pgs_nil.run pins s σ H [] [] Q I .nil ⟨rfl, h2⟩
      | cons _ _ => cases h1⟩
  | _, _, .cons (i := i) (is := is) g hs r => ⟨fun pins s σ H vs us Q I rr h => by
      obtain ⟨h1, h2⟩ := h
      cases rr with
      | nil => cases h1
      | cons ra rt => exact (pgs_cons g r.pgs hs).run pins s σ H _ _ Q I (.cons ra rt) ⟨_, _, rfl, Nat.succ.inj h1, h2⟩⟩
theorem mg_tup {es : List Expr} {k : Nat} {is : List Nat} (hc : X.calm = true) (h : Nms X es is) (hn : (assignEach es X.env).length = is.length := by rfl) (hst : (assignEach es X.env).findIdx? (·.1) = none := by rfl) :
    MG X (.Tuple es k pos) (gaTup is) := by
  have h1 : PG X (.Tuple es k pos) (gTup X.K is.length (gSet is)) := pg_tup hc h.pgs hn hst
  have h2 : PG X (.Tuple es k pos) (gLst X.K is.length (gSet is)) := pg_lst hc h.pgs hn hst
  refine ⟨fun pins s τ H v u Q I r hh => ?_⟩
  obtain ⟨L, S, w, ws, rs, rv, e, q⟩ := hh
  unfold gaTup at e
  cases rv with
  | tup ht hr =>
    dsimp only at e
    split at e
    · rename_i hl
      cases e
      exact h1.run pins s τ H _ u Q I r ⟨_, _, rfl, ht, by rw [← hr.len]; exact hl, by rw [← hr.len]; exact hl, q _ hr⟩
    · cases e
  | loc hl =>
    rename_i l ad
    dsimp only at e
    cases hs : S[l]? with
    | none => rw [hs] at e; cases e
    | some ob =>
      rw [hs] at e
      cases ob with
      | lst vs =>
        obtain ⟨xs, z1, z2⟩ := RO.lst' (rs.at_ l _ _ hl hs)
        dsimp only at e
        split at e
        · rename_i hl'
          cases e
          exact h2.run pins s τ H _ u Q I r ⟨_, _, rfl, SqL.of z1, by rw [← z2.len]; exact hl', by rw [← z2.len]; exact hl', q _ z2⟩
        · cases e
      | ins C fs => cases e
  | non => cases e
  | bl b => cases e
  | int b => cases e
  | str b => cases e
  | sc _ _ => cases e
theorem ms_asg {tg : Expr} {g : GA} (he : ME X W e m) (hg : MG X tg g) (hs : swapsWithSole [tg] e pos.line X.env = pure false := by rfl) (hw : swappedStores [tg] e X.env = pure none := by rfl) (h1 : (assignEach [tg] X.env).map (·.2) = [assign tg X.env] := by rfl) :
    MS X W (.Assign [tg] e pos) (sAsg g m) :=
  ms_of (ps_asg he hg hs hw h1) fun L S σ τ H D rs rl q => ⟨L, S, σ, rs, rl, q.ofR rl fun v S1 L1 H1 x k1 rs1 rv1 q1 => by
    cases hg : g.dec v S1 with
    | none => rw [hg] at q1; exact q1.elim
    | some ws =>
      rw [hg] at q1
      exact ⟨L1, S1, v, ws, rs1, rv1, hg, fun xs r => q1.nxt rs1 ((rl.mono k1).setAll r)⟩⟩
end

/-! ### iteration -/
/-- what an iterator gives at a turn: nothing known, an end, an item -/
abbrev ItF := Nat → Sto → Option (Option Val)
abbrev IM := Slots → Sto → Res (Nat × ItF)
def itVs (vs : List Val) : ItF := fun i _ => some vs[i]?
def itLst (l n : Nat) : ItF := fun i S => match S[l]? with
  | some (.lst ws) => if ws.length = n then some ws[i]? else none
  | _ => none
def itRng (lo : Int) (n : Nat) : ItF := fun i _ => if i < n then some (some (.int (lo + i))) else some none
structure ItR (K : PySem.W.Frag) (hid : Addr → Prop) (it : ItF) (J : It) (L0 : List Addr) (H0 : Hp) : Prop where
  go : ∀ L S H i v, ExB K hid L0 H0 L H → RS K L S H → it i S = some (some v) → J.go i H ∧ ∀ x H', J.yld i H x H' → Ex K L H L H' ∧ RS K L S H' ∧ RV K L H' v x
  stop : ∀ L S H i, ExB K hid L0 H0 L H → RS K L S H → it i S = some none → J.stop i H
/-- what stood ahead of the iterator's making may change -/
abbrev hidden (H0 : Hp) : Addr → Prop := fun b => H0 b ≠ none
abbrev relI (K : PySem.W.Frag) (H0 : Hp) : List Addr → Hp → Nat × ItF → It → Prop := fun L H p J => ItR K (hidden H0) p.2 J L H
def tI (K : PySem.W.Frag) (mg : Str → Option Value) (W : WX) (m : IM) : TI := fun τ H R => ∃ L S σ, RS K L S H ∧ RSl K L H σ τ ∧ PR K mg (relI K H) L H R (fun c d H' => W c d τ H') (m σ S)
def MI (X : Cx) (W : WX) (tg iter : Expr) (m : IM) : Prop := PI X tg iter (tI X.K X.mg W m)
theorem pi_imp {X : Cx} {tg e : Expr} {t u : TI} (h : PI X tg e t) (i : ∀ τ H R, u τ H R → t τ H R) : PI X tg e u := ⟨fun p s σ H R I q => h.run p s σ H R I (i _ _ _ q)⟩
theorem pi_or {X : Cx} {tg e : Expr} {t u : TI} (h : PI X tg e t) (h' : PI X tg e u) : PI X tg e (fun τ H R => t τ H R ∨ u τ H R) := ⟨fun p s σ H R I q => q.elim (h.run p s σ H R I) (h'.run p s σ H R I)⟩
theorem itr_tup {K : PySem.W.Frag} {hid : Addr → Prop} {L : List Addr} {H : Hp} {a : Addr} {vs : List Val} {xs : List V} (h : SqT K H a xs) (r : RVs K L H vs xs) : ItR K hid (itVs vs) (Itt K a) L H where
  go := fun L1 S H1 i v k rs e => by
    have e' : vs[i]? = some v := Option.some.inj e
    obtain ⟨x, h1, h2⟩ := (RVs.move k.pre k.tup k.fz _ _ r).get e'
    refine ⟨⟨xs, x, k.tup _ _ h, h1⟩, fun y H' hy => ?_⟩
    obtain ⟨rfl, q⟩ := hy
    have z := q xs (k.tup _ _ h)
    rw [h1] at z
    cases z
    exact ⟨.refl, rs, h2⟩
  stop := fun L1 S H1 i k rs e => by
    have e' : vs[i]? = none := Option.some.inj e
    refine ⟨xs, k.tup _ _ h, ?_⟩
    rw [← r.len]
    exact List.getElem?_eq_none_iff.mp e'
theorem FzL.seq {K : PySem.W.Frag} {H : Hp} {a : Addr} {xs : List V} (h : FzL K H a xs) : SqL K H a xs := by
  rcases h with ⟨o, h⟩ | h
  · exact .inl (.inr ⟨o, h⟩)
  · exact .inr h
theorem itr_sc {K : PySem.W.Frag} {hid : Addr → Prop} {L : List Addr} {H : Hp} {a : Addr} {vs : List Val} {xs : List V} (h : FzL K H a xs) (r : RVs K L H vs xs) : ItR K hid (itVs vs) (Itl K a) L H where
  go := fun L1 S H1 i v k rs e => by
    have e' : vs[i]? = some v := Option.some.inj e
    obtain ⟨x, h1, h2⟩ := (RVs.move k.pre k.tup k.fz _ _ r).get e'
    refine ⟨⟨xs, x, (k.fz _ _ h).seq, h1⟩, fun y H' hy => ?_⟩
    obtain ⟨rfl, q⟩ := hy
    have z := q xs (k.fz _ _ h).seq
    rw [h1] at z
    cases z
    exact ⟨.refl, rs, h2⟩
  stop := fun L1 S H1 i k rs e => by
    have e' : vs[i]? = none := Option.some.inj e
    refine ⟨xs, (k.fz _ _ h).seq, ?_⟩
    rw [← r.len]
    exact List.getElem?_eq_none_iff.mp e'
theorem itr_lst {K : PySem.W.Frag} {hid : Addr → Prop} {L : List Addr} {H : Hp} {a : Addr} {l n : Nat} (hl : L[l]? = some a) : ItR K hid (itLst l n) (Itl K a) L H := by
  have key : ∀ {L1 S H1 i r}, ExB K hid L H L1 H1 → RS K L1 S H1 → itLst l n i S = some r → ∃ vs xs, H1 a = some (.lst xs) ∧ RVs K L1 H1 vs xs ∧ vs[i]? = r := fun {L1 S H1 i r} k rs e => by
    unfold itLst at e
    cases hs : S[l]? with
    | none => rw [hs] at e; cases e
    | some ob =>
      rw [hs] at e
      cases ob with
      | lst ws =>
        dsimp only at e
        split at e
        · obtain ⟨xs, z1, z2⟩ := RO.lst' (rs.at_ l _ _ (pre_get k.pre hl) hs)
          exact ⟨ws, xs, z1, z2, Option.some.inj e⟩
        · cases e
      | ins C fs => cases e
  refine ⟨fun L1 S H1 i v k rs e => ?_, fun L1 S H1 i k rs e => ?_⟩
  · obtain ⟨vs, xs, h1, h2, h3⟩ := key k rs e
    obtain ⟨x, h4, h5⟩ := h2.get h3
    refine ⟨⟨xs, x, SqL.of h1, h4⟩, fun y H' hy => ?_⟩
    obtain ⟨rfl, q⟩ := hy
    have z := q xs (SqL.of h1)
    rw [h4] at z
    cases z
    exact ⟨.refl, rs, h5⟩
  · obtain ⟨vs, xs, h1, h2, h3⟩ := key k rs e
    exact ⟨xs, SqL.of h1, by rw [← h2.len]; exact List.getElem?_eq_none_iff.mp h3⟩
theorem itr_rng {K : PySem.W.Frag} {hid : Addr → Prop} {L : List Addr} {H : Hp} {lo : Int} {n : Nat} : ItR K hid (itRng lo n) (Itr lo n) L H where
  go := fun L1 S H1 i v k rs e => by
    unfold itRng at e
    split at e
    · rename_i hi
      cases e
      refine ⟨hi, fun x H' hy => ?_⟩
      obtain ⟨rfl, rfl⟩ := hy
      exact ⟨.refl, rs, .int _⟩
    · cases e
  stop := fun L1 S H1 i k rs e => by
    unfold itRng at e
    split at e
    · cases e
    · rename_i hi
      exact Nat.le_of_not_lt hi
/-- a list, a tuple, the script -/
def iSeq (m : EM) : IM := fun σ S => (m σ S).bind fun v S1 => match v with
  | .tup vs => .ok (vs.length, itVs vs) S1
  | .sc vs => .ok (vs.length, itVs vs) S1
  | .loc l => match S1[l]? with
    | some (.lst ws) => .ok (ws.length, itLst l ws.length) S1
    | _ => .fail
  | _ => .fail
/-- range(n), range(a, b) -/
def iRg1 (m : EM) : IM := fun σ S => (m σ S).bind fun v S1 => match v with
  | .int j => if -(2 ^ 62) ≤ j ∧ j < 2 ^ 62 then .ok (j.toNat, itRng 0 j.toNat) S1 else .fail
  | _ => .fail
def iRg2 (m n : EM) : IM := fun σ S => (m σ S).bind fun v S1 => (n σ S1).bind fun w S2 => match v, w with
  | .int i, .int j => if -(2 ^ 62) ≤ i ∧ i < 2 ^ 62 ∧ -(2 ^ 62) ≤ j ∧ j < 2 ^ 62 then .ok ((j - i).toNat, itRng i (j - i).toNat) S2 else .fail
  | _, _ => .fail
section
variable {X : Cx} {W : WX} {tg e a b c : Expr} {m n o : EM} {p q : SM} {t : TM} {pos : Pos} {st : Stmt} {sts : List Stmt}
theorem mi_seq (h : ME X W e m) : MI X W tg e (iSeq m) :=
  pi_imp (pi_or (pi_tup h) (pi_list h)) fun τ H R ⟨L, S, σ, rs, rl, q⟩ => by
    unfold iSeq at q
    cases hm : m σ S with
    | fail => rw [hm] at q; exact q.elim
    | exc c f v S1 => rw [hm] at q; exact .inl ⟨L, S, σ, rs, rl, by rw [hm]; exact q⟩
    | ok v S1 =>
      rw [hm] at q
      simp only [Res.bind] at q
      cases v with
      | non => exact q.elim
      | bl _ => exact q.elim
      | int _ => exact q.elim
      | str _ => exact q.elim
      | tup vs =>
        refine .inl ⟨L, S, σ, rs, rl, ?_⟩
        rw [hm]
        intro L1 H1 x k1 rs1 rv1
        cases rv1 with
        | tup ht hr => exact ⟨_, rfl, ⟨_, ht⟩, q L1 H1 _ k1 rs1 (itr_tup ht hr)⟩
      | sc vs =>
        refine .inr ⟨L, S, σ, rs, rl, ?_⟩
        rw [hm]
        intro L1 H1 x k1 rs1 rv1
        cases rv1 with
        | sc ht hr => exact ⟨_, rfl, ⟨_, ht.seq⟩, q L1 H1 _ k1 rs1 (itr_sc ht hr)⟩
      | loc l =>
        refine .inr ⟨L, S, σ, rs, rl, ?_⟩
        rw [hm]
        intro L1 H1 x k1 rs1 rv1
        dsimp only at q
        cases hs : S1[l]? with
        | none => rw [hs] at q; exact q.elim
        | some ob =>
          rw [hs] at q
          cases ob with
          | ins C fs => exact q.elim
          | lst ws =>
            cases rv1 with
            | loc hl =>
              obtain ⟨xs, z1, z2⟩ := RO.lst' (rs1.at_ l _ _ hl hs)
              exact ⟨_, rfl, ⟨_, SqL.of z1⟩, q L1 H1 _ k1 rs1 (itr_lst hl)⟩
theorem mi_rg1 {p pos : Pos} (hg : Gl X "range") (hm : X.mg "range" = none) (ha : ME X W a m) (hs : starEach [a] X.env = [(false, eval a X.env)] := by rfl) : MI X W tg (.Call (.Name "range" p) [a] [] pos) (iRg1 m) :=
  pi_imp (pi_range1 hg hm (ma_cons ha ma_nil hs) hs) fun τ H R ⟨L, S, σ, rs, rl, q⟩ => by
    refine ⟨L, S, σ, rs, rl, ?_⟩
    unfold iRg1 at q
    unfold aCons aNil
    cases hm : m σ S with
    | fail => rw [hm] at q; exact q.elim
    | exc c f v S1 => rw [hm] at q; exact q
    | ok v S1 =>
      rw [hm] at q
      simp only [Res.bind] at q ⊢
      intro L1 H1 xs k1 rs1 rv1
      cases rv1 with
      | cons r1 r2 =>
        cases r2
        cases r1 <;> try exact q.elim
        rename_i j
        dsimp only at q
        split at q
        · rename_i hj
          exact ⟨j, rfl, hj.1, hj.2, q L1 H1 _ k1 rs1 itr_rng⟩
        · exact q.elim
theorem mi_rg2 {p pos : Pos} (hg : Gl X "range") (hm : X.mg "range" = none) (ha : ME X W a m) (hb : ME X W b n) (hs : starEach [a, b] X.env = [(false, eval a X.env), (false, eval b X.env)] := by rfl) (hs2 : starEach [b] X.env = [(false, eval b X.env)] := by rfl) :
    MI X W tg (.Call (.Name "range" p) [a, b] [] pos) (iRg2 m n) :=
  pi_imp (pi_range2 hg hm (ma_cons ha (ma_cons hb ma_nil hs2) (by rw [hs, hs2])) hs hs2) fun τ H R ⟨L, S, σ, rs, rl, q⟩ => by
    refine ⟨L, S, σ, rs, rl, ?_⟩
    unfold iRg2 at q
    unfold aCons aNil
    cases hm : m σ S with
    | fail => rw [hm] at q; exact q.elim
    | exc c f v S1 => rw [hm] at q; exact q
    | ok v S1 =>
      rw [hm] at q
      simp only [Res.bind] at q ⊢
      cases hn : n σ S1 with
      | fail => rw [hn] at q; exact q.elim
      | exc c f v S1 => rw [hn] at q; exact q
      | ok w S2 =>
        rw [hn] at q
        simp only [Res.bind] at q ⊢
        intro L1 H1 xs k1 rs1 rv1
        cases rv1 with
        | cons r1 r2 =>
          cases r2 with
          | cons r2 r3 =>
            cases r3
            cases r1 <;> try exact q.elim
            cases r2 <;> try exact q.elim
            rename_i i j
            dsimp only at q
            split at q
            · rename_i hj
              exact ⟨i, j, rfl, hj, q L1 H1 _ k1 rs1 itr_rng⟩
            · exact q.elim
/-! for -/
def forM (it : ItF) (g : GA) (body : SM) : Nat → Nat → SM
  | 0, _, _, _ => none
  | k + 1, i, σ, S => match it i S with
    | none => none
    | some none => some (.next σ, S)
    | some (some v) => match g.dec v S with
      | none => none
      | some ws => match body (setAll g.is ws σ) S with
        | some (.next σ2, S2) => forM it g body k (i + 1) σ2 S2
        | some (.cont σ2, S2) => forM it g body k (i + 1) σ2 S2
        | some (.brk σ2, S2) => some (.next σ2, S2)
        | r => r
def sFor (mi : IM) (g : GA) (body : SM) : SM := fun σ S => ofR (mi σ S) σ fun p S1 => forM p.2 g body (p.1 + 1) 0 σ S1
theorem ms_for {iter : Expr} {mi : IM} {g : GA} (hp : PassesOwn (model X.prog X.w) X.A X.env X.xe) (hc : X.calm = true) (hi : MI X W tg iter mi) (hg : MG X tg g) (hb : MB X W sts p) (hs : ∀ x, foldedSetIterable iter X.env x = pure x := by intro _; rfl) :
    MS X W (.For tg iter sts [] pos) (sFor mi g p) :=
  ms_of (ps_for hp hc hi hg hb hs) fun L S σ τ H D rs rl q => ⟨L, S, σ, rs, rl, q.ofR rl fun v S1 L1 H1 J k1 rs1 rv1 q1 => by
    have rv1 : ItR X.K (hidden H) v.2 J L1 H1 := rv1
    refine ⟨fun i m τ' H' => ∃ L' S' σ', Ex X.K L1 H1 L' H' ∧ RS X.K L' S' H' ∧ RSl X.K L' H' σ' τ' ∧ PSt X.K X.mg L' H' D W (forM v.2 g p m i σ' S'), ⟨_, L1, S1, σ, .refl, rs1, rl.mono k1, q1⟩, ?_⟩
    rintro i m τ' H' ⟨L', S', σ', ex, rs', rl', q'⟩
    cases m with
    | zero => exact q'.elim
    | succ m =>
      unfold forM at q'
      cases hit : v.2 i S' with
      | none => rw [hit] at q'; exact q'.elim
      | some r =>
        rw [hit] at q'
        cases r with
        | none => exact .inl ⟨rv1.stop L' S' H' i ex.toB rs' hit, q'.nxt rs' rl'⟩
        | some u =>
          obtain ⟨g1, g2⟩ := rv1.go L' S' H' i u ex.toB rs' hit
          refine .inr ⟨g1, fun τ2 H2 => ∃ L2 S2 σ2, Ex X.K L1 H1 L2 H2 ∧ RS X.K L2 S2 H2 ∧ RSl X.K L2 H2 σ2 τ2 ∧ PSt X.K X.mg L2 H2 D W (forM v.2 g p m (i + 1) σ2 S2), fun τ2 H2 h2 => ⟨m, Nat.lt_succ_self _, h2⟩, fun x H2 hy => ?_⟩
          obtain ⟨ex2, rs2, rv2⟩ := g2 x H2 hy
          dsimp only at q'
          cases hgv : g.dec u S' with
          | none => rw [hgv] at q'; exact q'.elim
          | some ws =>
            rw [hgv] at q'
            refine ⟨L', S', u, ws, rs2, rv2, hgv, fun xs3 r3 => ⟨L', S', setAll g.is ws σ', rs2, (rl'.mono ex2).setAll r3, ?_⟩⟩
            have q2 := PSt.shift ex2 q'
            have ex3 := ex.trans ex2
            dsimp only at q2
            generalize hb : p (setAll g.is ws σ') S' = r at q2
            match r, q2 with
            | some (.next σ4, S4), q2 => exact fun L4 H4 τ4 k4 rs4 rl4 => ⟨L4, S4, σ4, ex3.trans k4, rs4, rl4, PSt.shift k4 q2⟩
            | some (.cont σ4, S4), q2 => exact fun L4 H4 τ4 k4 rs4 rl4 => ⟨L4, S4, σ4, ex3.trans k4, rs4, rl4, PSt.shift k4 q2⟩
            | some (.brk σ4, S4), q2 => exact q2
            | some (.ret v4, S4), q2 => exact q2
            | some (.exc c f v4 σ4, S4), q2 => exact q2⟩
/-! while -/
def whM (t : TM) (body : SM) : Nat → SM
  | 0, _, _ => none
  | k + 1, σ, S => ofR (t σ S) σ fun b S1 => if b = true then (match body σ S1 with
      | some (.next σ2, S2) => whM t body k σ2 S2
      | some (.cont σ2, S2) => whM t body k σ2 S2
      | some (.brk σ2, S2) => some (.next σ2, S2)
      | r => r) else some (.next σ, S1)
theorem ms_while (k : Nat) (hp : PassesOwn (model X.prog X.w) X.A X.env X.xe) (hc : MT X W c t) (hb : MB X W sts p) : MS X W (.While c sts [] pos) (whM t p k) :=
  ms_of (ps_while hp hc hb) fun L S σ τ H D rs rl q => by
    refine ⟨fun m τ' H' => ∃ L' S' σ', RS X.K L' S' H' ∧ RSl X.K L' H' σ' τ' ∧ PSt X.K X.mg L' H' D W (whM t p m σ' S'), ⟨k, L, S, σ, rs, rl, q⟩, ?_⟩
    rintro m τ' H' ⟨L', S', σ', rs', rl', q'⟩
    cases m with
    | zero => exact q'.elim
    | succ m =>
      refine ⟨L', S', σ', rs', rl', q'.ofR rl' fun b S1 L1 H1 b' k1 rs1 rv1 q1 => ?_⟩
      obtain rfl : b = b' := rv1
      cases b with
      | false => exact q1.nxt rs1 (rl'.mono k1)
      | true =>
        refine ⟨fun τ2 H2 => ∃ L2 S2 σ2, RS X.K L2 S2 H2 ∧ RSl X.K L2 H2 σ2 τ2 ∧ PSt X.K X.mg L2 H2 D W (whM t p m σ2 S2), fun τ2 H2 h2 => ⟨m, Nat.lt_succ_self _, h2⟩, L1, S1, σ', rs1, rl'.mono k1, ?_⟩
        simp only [if_true] at q1
        generalize hb : p σ' S1 = r at q1
        match r, q1 with
        | some (.next σ4, S4), q2 => exact fun L4 H4 τ4 k4 rs4 rl4 => ⟨L4, S4, σ4, rs4, rl4, PSt.shift k4 q2⟩
        | some (.cont σ4, S4), q2 => exact fun L4 H4 τ4 k4 rs4 rl4 => ⟨L4, S4, σ4, rs4, rl4, PSt.shift k4 q2⟩
        | some (.brk σ4, S4), q2 => exact q2
        | some (.ret v4, S4), q2 => exact q2
        | some (.exc c f v4 σ4, S4), q2 => exact q2
end

/-! ### defs -/
/-- what a def is worth: a function of its arguments and the store -/
abbrev FM := List Val → Sto → Res Val
def spF (K : PySem.W.Frag) (mg : Str → Option Value) (np : Nat) (f : FM) : Sp := fun vs H Q E => vs.length = np ∧ ∃ L S as, RS K L S H ∧ RVs K L H as vs ∧ PV K mg L H Q E (f as S)
/-- a def's body, called: n slots -/
def callD (n : Nat) (b : SM) : FM := fun as S => match b (as.map some ++ List.replicate (n - as.length) none) S with
  | some (.next _, S1) => .ok .non S1
  | some (.ret v, S1) => .ok v S1
  | some (.exc c f v _, S1) => .exc c f v S1
  | _ => .fail
structure Known (P : Program) (w : World) (K : PySem.W.Frag) (mg : Str → Option Value) (base : Heap) (x : Str) (np k : Nat) (f : FM) : Prop where
  ex : ∃ (a : Addr) (fd : FuncData) (ps : List Str), FnOk P w K mg base (L2.CX P w) k a fd ps (spF K mg np f) ∧ mg x = some (.ref a) ∧ PySem.W.keepIn K (.ref a) = true ∧ Binds K fd ps []
theorem Known.mono {P : Program} {w : World} {K : PySem.W.Frag} {mg : Str → Option Value} {base : Heap} {x : Str} {np j k : Nat} {f : FM} (h : Known P w K mg base x np j f) (hk : j ≤ k) : Known P w K mg base x np k f := by
  obtain ⟨a, fd, ps, h1, h2⟩ := h.ex
  exact ⟨a, fd, ps, h1.mono hk, h2⟩
def eCall (np : Nat) (f : FM) (ms : AM) : EM := fun σ S => (ms σ S).bind fun as S1 => if as.length = np then f as S1 else .fail
section
variable {X : Cx} {W : WX} {e : Expr} {es : List Expr} {ms : AM} {pos p : Pos} {x : Str}
theorem me_call {np k : Nat} {f : FM} (h : Known X.prog X.w X.K X.mg X.base x np k f) (hr : Room k X.A) (tk : Takes X W) (hg : Gl X x) (ha : MA X W (e :: es) ms) (hl : (e :: es).length = np := by rfl)
    (hdb : (x == ("__debug__" : Str)) = false := by decide) (he : starEach (e :: es) X.env = (false, eval e X.env) :: starEach es X.env := by rfl) (hpl : (backTo pos (starEach es X.env)).any (·.1) = false := by rfl) :
    ME X W (.Call (.Name x p) (e :: es) [] pos) (eCall np f ms) := by
  obtain ⟨a, fd, ps, F, hm, hk, hb⟩ := h.ex
  exact me_of (pe_callS F hr hg hm hk hb (fun σ => passAt tk σ) ha hdb he hpl) fun L S σ τ H Q rs rl q => ⟨L, S, σ, rs, rl, q.bind fun v S1 L1 H1 xs k1 rs1 rv1 h1 => by
    split at h1
    · rename_i hn
      exact ⟨by rw [← rv1.len]; exact hn, L1, S1, v, rs1, rv1, h1⟩
    · exact h1.elim⟩
end
theorem rsl_start {K : PySem.W.Frag} {L : List Addr} {H : Hp} {N : List Str} {as : List Val} {vs : List V} (r : RVs K L H as vs) : RSl K L H (as.map some ++ List.replicate (N.length - as.length) none) (L2.start N vs) := by
  have hl := r.len
  unfold L2.start
  refine ⟨by simp [hl], fun i v e => ?_⟩
  by_cases hi : i < as.length
  · rw [List.getElem?_append_left (by simpa using hi), List.getElem?_map] at e
    cases ha : as[i]? with
    | none => rw [ha] at e; cases e
    | some w =>
      rw [ha] at e
      cases e
      obtain ⟨x, h1, h2⟩ := r.get ha
      exact ⟨x, by rw [List.getElem?_append_left (by simpa [← hl] using hi), List.getElem?_map, h1]; rfl, h2⟩
  · rw [List.getElem?_append_right (by simpa using Nat.le_of_not_lt hi), List.getElem?_replicate] at e
    split at e <;> cases e
/-- THE RULE for a def: its body does what b says -/
theorem fn_ok {P : Program} {w : World} {K : PySem.W.Frag} {mg : Str → Option Value} {base : Heap} {x qual : Str} {st : Stmt} {f : Addr} {fd : FuncData} {N ps : List Str} {k np : Nat} {b : SM} {n : Nat} (F : Fun K x qual st f fd) (S : FnScope N ps (defScope st)) (hnp : ps.length = np) (hn : N.length = n)
    (hbody : ∀ (cdv : Value) (A : Around) (outer : List Env) (s : Shared) (H : Hp) (E : XK), Room k (cxOf (L2.CX P w) P w K mg base N qual (defScope st) f cdv A outer s H E).A → Takes (cxOf (L2.CX P w) P w K mg base N qual (defScope st) f cdv A outer s H E) (fun c d _ H => E c d H) →
      PassesOwn (model P w) (cxOf (L2.CX P w) P w K mg base N qual (defScope st) f cdv A outer s H E).A (cxOf (L2.CX P w) P w K mg base N qual (defScope st) f cdv A outer s H E).env (cxOf (L2.CX P w) P w K mg base N qual (defScope st) f cdv A outer s H E).xe →
      MB (cxOf (L2.CX P w) P w K mg base N qual (defScope st) f cdv A outer s H E) (fun c d _ H => E c d H) (defBody st) b) : FnOk P w K mg base (L2.CX P w) (k + 1) f fd ps (spF K mg np (callD n b)) := by
  subst hn
  refine F.okX S (fun vs H Q E h => by rw [h.1, hnp]) (fun cdv A outer s H vs Q E hr h => ?_)
  obtain ⟨hl, L, S0, as, rs, rv, q⟩ := h
  refine ⟨_, hbody cdv A outer s H E hr (takes_of rfl rfl rfl rfl) (passes_of rfl), L, S0, _, rs, rsl_start rv, ?_⟩
  show PSt K mg L H _ _ _
  unfold callD at q
  generalize hb : b (as.map some ++ List.replicate (N.length - as.length) none) S0 = r at q
  match r, q with
  | some (.next σ, S1), q => exact fun L1 H1 τ k1 rs1 rl1 => q L1 H1 _ k1 rs1 .non
  | some (.ret v, S1), q => exact q
  | some (.exc c f v σ, S1), q => exact fun L1 H1 τ cls d k1 rs1 rl1 xr => q L1 H1 cls d k1 rs1 xr
/-- nothing is promised -/
theorem fn_zero {P : Program} {w : World} {K : PySem.W.Frag} {mg : Str → Option Value} {base : Heap} {f : Addr} {fd : FuncData} {ps : List Str} {k np : Nat} (hnp : ps.length = np) : FnOk P w K mg base (L2.CX P w) k f fd ps (spF K mg np fun _ _ => .fail) :=
  ⟨fun vs H Q E h => by rw [h.1, hnp], fun A outer s H args us vs Q E _ _ _ _ h => by
    obtain ⟨_, _, _, _, _, _, q⟩ := h
    exact q.elim⟩
def sNever : SM := fun _ _ => none
def eNever : EM := fun _ _ => .fail
section
variable {X : Cx} {W : WX} {st : Stmt} {e a b c : Expr} {m n o : EM} {pos : Pos}
theorem ms_never : MS X W st sNever := ⟨fun _ _ _ _ _ _ ⟨_, _, _, _, _, q⟩ => q.elim⟩
theorem me_never : ME X W e eNever := ⟨fun _ _ _ _ _ _ ⟨_, _, _, _, _, q⟩ => q.elim⟩
/-- a <= b <= c -/
def eChain (g h : G2) (m n o : EM) : EM := fun σ S => (m σ S).bind fun v S1 => (n σ S1).bind fun w S2 => (g v w S2).bind fun r S3 => match r with
  | .bl true => (o σ S3).bind fun z S4 => h w z S4
  | .bl false => .ok (.bl false) S3
  | _ => .fail
end
end AR
set_option linter.all false
set_option maxRecDepth 100000
set_option maxHeartbeats 4000000
/-! New lists; comprehensions; builtins; methods. -/
namespace AR
open PySem PySem.Spec PyProof.Rows L2

abbrev W0 : WX := fun _ _ _ _ => False
def Res.nx {α β : Type} (r : Res α) (k : α → Sto → Res β) : Res β := match r with
  | .ok a S => k a S
  | _ => .fail
section
variable {K : PySem.W.Frag} {mg : Str → Option Value} {L L' L1 : List Addr} {H H' H1 : Hp} {S S1 : Sto} {E E' : XK} {p : Addr} {o : HO}
theorem PR.nx {α β γ δ : Type} {rel : List Addr → Hp → α → β → Prop} {rel' : List Addr → Hp → γ → δ → Prop} {Q : δ → Hp → Prop} {R : β → Hp → Prop} {r : Res α} {k : α → Sto → Res γ} (h : PR K mg rel' L H Q E (r.nx k))
    (hk : ∀ v S1 L1 H1 x, Ex K L H L1 H1 → RS K L1 S1 H1 → rel L1 H1 v x → PR K mg rel' L1 H1 Q E (k v S1) → R x H1) : PR K mg rel L H R E' r := by
  cases r with
  | ok v S => exact fun L1 H1 x k1 rs1 rv1 => hk v S L1 H1 x k1 rs1 rv1 (PR.shift k1 h)
  | exc c f v S => exact h.elim
  | fail => exact h
theorem Ex.out (k : Ex K L H L' H') (h : H p = some o) (n : p ∉ L) : p ∉ L' ∧ H' p = some o := by
  refine ⟨fun z => ?_, k.fr p o h n⟩
  rcases k.new p z with y | y
  · exact n y
  · rw [h] at y
    cases y
theorem Ex.noneBack (k : Ex K L H L1 H1) (rs1 : RS K L1 S1 H1) (h : H1 p = none) : H p = none := by
  cases q : H p with
  | none => rfl
  | some o =>
    by_cases hp : p ∈ L
    · obtain ⟨t, ht⟩ := k.pre
      exact absurd h ((rs1.mem (p := p) (by rw [← ht]; exact List.mem_append_left _ hp)).elim fun _ r => r.there)
    · rw [k.fr p o q hp] at h
      cases h
end

/-! ### new lists -/
abbrev LM := Slots → Sto → Res (List Val)
def relL (K : PySem.W.Frag) (H0 : Hp) : List Addr → Hp → List Val → V → Prop := fun L H vs x => ∃ p xs, x = .ref p ∧ H0 p = none ∧ p ∉ L ∧ H p = some (.lst xs) ∧ RVs K L H vs xs
def tL (K : PySem.W.Frag) (mg : Str → Option Value) (W : WX) (m : LM) : TE := fun τ H Q => ∃ L S σ, RS K L S H ∧ RSl K L H σ τ ∧ PR K mg (relL K H) L H Q (fun c d H' => W c d τ H') (m σ S)
/-- an expression whose value is a new list -/
def ML (X : Cx) (W : WX) (e : Expr) (m : LM) : Prop := PE X e (tL X.K X.mg W m)
def eOfL (m : LM) : EM := fun σ S => (m σ S).bind fun vs S1 => .ok (.loc S1.length) (S1 ++ [.lst vs])
/-- a list that stood outside of the store comes in -/
theorem Ex.take {K : PySem.W.Frag} {L L1 : List Addr} {H H1 : Hp} {p : Addr} (k : Ex K L H L1 H1) (h : H p = none) : Ex K L H (L1 ++ [p]) H1 := by
  refine ⟨k.pre.trans (List.prefix_append _ _), k.tup, k.fz, fun a q => ?_, k.fr⟩
  rcases List.mem_append.mp q with q | q
  · exact k.new a q
  · have z : a = p := by simpa using q
    exact .inr (by rw [z]; exact h)
theorem Ex.more {K : PySem.W.Frag} {L : List Addr} {H : Hp} {p : Addr} {vs : List Val} {xs : List V} (r : RVs K L H vs xs) : RVs K (L ++ [p]) H vs xs := RVs.move (List.prefix_append _ _) (fun _ _ h => h) (fun _ _ h => h) _ _ r
theorem RS.take {K : PySem.W.Frag} {L : List Addr} {S : Sto} {H : Hp} {p : Addr} {vs : List Val} {xs : List V} (rs : RS K L S H) (n : p ∉ L) (h : H p = some (.lst xs)) (r : RVs K L H vs xs) : RS K (L ++ [p]) (S ++ [.lst vs]) H := by
  refine ⟨by rw [List.length_append, List.length_append, rs.len]; rfl, ?_, fun i a ob e1 e2 => ?_⟩
  · rw [List.nodup_append]
    exact ⟨rs.nd, by simp, fun x hx y hy q => n (by have z : y = p := by simpa using hy
                                                    rw [← z, ← q]; exact hx)⟩
  · by_cases hi : i < L.length
    · have hi' : i < S.length := by rw [← rs.len]; exact hi
      rw [List.getElem?_append_left hi] at e1
      rw [List.getElem?_append_left hi'] at e2
      have q := rs.at_ i a ob e1 e2
      exact q.shift (List.prefix_append _ _) (fun _ _ h => h) (fun _ _ h => h) rfl fun _ _ h => h
    · have hl : i < (L ++ [p]).length := (List.getElem?_eq_some_iff.mp e1).1
      have ei : i = L.length := by rw [List.length_append, List.length_singleton] at hl; omega
      subst ei
      rw [List.getElem?_append_right (Nat.le_refl _), Nat.sub_self] at e1
      rw [List.getElem?_append_right (by rw [rs.len]; exact Nat.le_refl _), rs.len, Nat.sub_self] at e2
      simp at e1 e2
      subst e1 e2
      exact ⟨xs, h, Ex.more r⟩
section
variable {X : Cx} {W : WX} {e a b c : Expr} {m n o : EM} {l l' : LM} {pos : Pos}
theorem ml_of {t : TE} (h : PE X e t) (i : ∀ L S σ τ H Q, RS X.K L S H → RSl X.K L H σ τ → PR X.K X.mg (relL X.K H) L H Q (fun c d H' => W c d τ H') (l σ S) → t τ H Q) : ML X W e l :=
  pe_imp h fun τ H Q ⟨L, S, σ, rs, rl, q⟩ => i L S σ τ H Q rs rl q
theorem me_ofL (h : ML X W e l) : ME X W e (eOfL l) :=
  me_of h fun L S σ τ H Q rs rl q => ⟨L, S, σ, rs, rl, by
    unfold eOfL at q
    cases hm : l σ S with
    | fail => rw [hm] at q; exact q.elim
    | exc c f v S1 => rw [hm] at q; exact q
    | ok vs S1 =>
      rw [hm] at q
      intro L1 H1 x k1 rs1 rv1
      obtain ⟨p, xs, rfl, h0, n1, h1, r1⟩ := rv1
      refine q (L1 ++ [p]) H1 _ (k1.take h0) (rs1.take n1 h1 r1) (.loc ?_)
      rw [← rs1.len, List.getElem?_append_right (Nat.le_refl _), Nat.sub_self]
      rfl⟩
def lDisp (m : AM) : LM := fun σ S => (m σ S).bind fun vs S1 => if vs.length ≤ sizeLine then .ok vs S1 else .fail
theorem ml_disp {es : List Expr} {ms : AM} (h : MA X W es ms) : ML X W (.List es pos) (lDisp ms) :=
  ml_of (pe_lst h) fun L S σ τ H Q rs rl q => ⟨L, S, σ, rs, rl, by
    unfold lDisp at q
    cases hm : ms σ S with
    | fail => rw [hm] at q; exact q.elim
    | exc c f v S1 => rw [hm] at q; exact q
    | ok vs S1 =>
      rw [hm] at q
      simp only [Res.bind] at q
      intro L1 H1 xs k1 rs1 rv1
      split at q
      · rename_i hz
        refine ⟨by rw [← rv1.len]; exact hz, fun p hp => ?_⟩
        exact q L1 _ _ (k1.trans (Ex.new_ hp)) (rs1.new hp) ⟨p, xs, rfl, k1.noneBack rs1 hp, rs1.fresh hp, upd_same, RVs.mono (Ex.new_ hp) _ _ rv1⟩
      · exact q.elim⟩
/-! calls with a new list -/
abbrev GL := List Val → Sto → Res Val
def AbsL (K : PySem.W.Frag) (mg : Str → Option Value) (r : List V → Hp → VK → Prop) (g : GL) : Prop :=
  ∀ L S H vs p xs (Q : VK) (E : XK), RS K L S H → p ∉ L → H p = some (.lst xs) → RVs K L H vs xs → PV K mg L H Q E (g vs S) → r [.ref p] H Q
def eAppL (g : GL) (m : LM) : EM := fun σ S => (m σ S).bind fun vs S1 => g vs S1
theorem me_callTyL {id : String} {x : Str} {p : Pos} {r : List V → Hp → VK → Prop} {g : GL} (hc : CallR X (.type id) r) (hg : AbsL X.K X.mg r g) (hl : Gl X x) (hm : X.mg x = none) (hv : bootBuiltins x = some (.type id)) (ha : ML X W e l)
    (hs : starEach [e] X.env = (false, eval e X.env) :: starEach [] X.env := by rfl) (hn : x ≠ "__name__" := by decide) (hdb : (x == ("__debug__" : Str)) = false := by decide) (hpl : (backTo pos (starEach [] X.env)).any (·.1) = false := by rfl) :
    ME X W (.Call (.Name x p) [e] [] pos) (eAppL g l) :=
  me_of (pe_callTy hc hl hm hv (pa_cons ha pa_nil hs) hn hdb hs hpl) fun L S σ τ H Q rs rl q => ⟨L, S, σ, rs, rl, q.bind fun v S1 L1 H1 x k1 rs1 rv1 h1 => by
    obtain ⟨p, xs, rfl, _, n1, hp, r1⟩ := rv1
    exact hg _ _ _ _ _ _ _ _ rs1 n1 hp r1 h1⟩
theorem me_callBL {id : String} {x : Str} {p : Pos} {r : List V → Hp → VK → Prop} {g : GL} (hc : CallR X (.builtin id) r) (hg : AbsL X.K X.mg r g) (hl : Gl X x) (hm : X.mg x = none) (hv : bootBuiltins x = some (.builtin id)) (ha : ML X W e l)
    (hs : starEach [e] X.env = (false, eval e X.env) :: starEach [] X.env := by rfl) (hn : x ≠ "__name__" := by decide) (hdb : (x == ("__debug__" : Str)) = false := by decide) (hpl : (backTo pos (starEach [] X.env)).any (·.1) = false := by rfl) :
    ME X W (.Call (.Name x p) [e] [] pos) (eAppL g l) :=
  me_of (pe_callB hc hl hm hv (pa_cons ha pa_nil hs) hn hdb hs hpl) fun L S σ τ H Q rs rl q => ⟨L, S, σ, rs, rl, q.bind fun v S1 L1 H1 x k1 rs1 rv1 h1 => by
    obtain ⟨p, xs, rfl, _, n1, hp, r1⟩ := rv1
    exact hg _ _ _ _ _ _ _ _ rs1 n1 hp r1 h1⟩
/-- tuple(a new list) -/
def gTupL : GL := fun vs S => .ok (.tup vs) S
theorem me_tupleL {p : Pos} (hl : Gl X "tuple") (hm : X.mg "tuple" = none) (ha : ML X W e l) (hs : starEach [e] X.env = (false, eval e X.env) :: starEach [] X.env := by rfl) : ME X W (.Call (.Name "tuple" p) [e] [] pos) (eAppL gTupL l) :=
  me_callTyL call_tuple_of (fun L S H vs p xs Q E rs n hp r q => ⟨p, xs, rfl, .inl ⟨SqL.of hp, fun t ht => PR.tup rs r q ht⟩⟩) hl hm (by rfl) ha hs
def gLenL : GL := fun vs S => .ok (.int vs.length) S
theorem me_lenL {p : Pos} (hl : Gl X "len") (hm : X.mg "len" = none) (ha : ML X W e l) (hs : starEach [e] X.env = (false, eval e X.env) :: starEach [] X.env := by rfl) : ME X W (.Call (.Name "len" p) [e] [] pos) (eAppL gLenL l) :=
  me_callBL call_len_seq (fun L S H vs p xs Q E rs n hp r q => ⟨p, xs, rfl, .inl (SqL.of hp), by rw [← r.len]; exact q.now rs (.int _)⟩) hl hm PySem.boot_len ha hs
/-! a list and a new list -/
def lCat (m : EM) (l : LM) : LM := fun σ S => (m σ S).bind fun v S1 => (l σ S1).bind fun ws S2 => match v with
  | .loc k => match S2[k]? with
    | some (.lst vs) => if vs.length + ws.length ≤ sizeLine then .ok (vs ++ ws) S2 else .fail
    | _ => .fail
  | _ => .fail
theorem ml_cat (ha : ME X W a m) (hb : ML X W b l) : ML X W (.BinOp a .Add b pos) (lCat m l) :=
  ml_of (pe_op op_cat ha hb) fun L S σ τ H Q rs rl q => ⟨L, S, σ, rs, rl, by
    unfold lCat at q
    refine q.bind fun v S1 L1 H1 x k1 rs1 rv1 q1 => ⟨L1, S1, σ, rs1, rl.mono k1, ?_⟩
    cases hl : l σ S1 with
    | fail => rw [hl] at q1; exact q1.elim
    | exc c f v S1 => rw [hl] at q1; exact q1
    | ok ws S2 =>
      rw [hl] at q1
      intro L2 H2 y k2 rs2 rv2
      obtain ⟨p, ys, rfl, h0, n2, hp, r2⟩ := rv2
      simp only [Res.bind] at q1
      cases v with
      | loc k =>
        dsimp only at q1
        cases hk : S2[k]? with
        | none => rw [hk] at q1; exact q1.elim
        | some ob =>
          rw [hk] at q1
          cases ob with
          | ins C fs => exact q1.elim
          | lst vs =>
            dsimp only at q1
            split at q1
            · rename_i hz
              cases rv1 with
              | loc hl1 =>
                obtain ⟨xs, z1, z2⟩ := RO.lst' (rs2.at_ k _ _ (pre_get k2.pre hl1) hk)
                refine ⟨_, _, xs, ys, rfl, rfl, z1, hp, by rw [← z2.len, ← r2.len]; exact hz, fun t ht => ?_⟩
                refine q1 L2 _ _ (k2.trans (Ex.new_ ht)) (rs2.new ht) ⟨t, xs ++ ys, rfl, k1.noneBack rs1 (k2.noneBack rs2 ht), rs2.fresh ht, upd_same, RVs.mono (Ex.new_ ht) _ _ (z2.app r2)⟩
            · exact q1.elim
      | non => exact q1.elim
      | bl _ => exact q1.elim
      | int _ => exact q1.elim
      | str _ => exact q1.elim
      | tup _ => exact q1.elim
      | sc _ => exact q1.elim⟩
/-! iteration over a new list -/
def iL (l : LM) : IM := fun σ S => (l σ S).bind fun vs S1 => .ok (vs.length, itVs vs) S1
theorem itr_new {K : PySem.W.Frag} {hid : Addr → Prop} {L : List Addr} {H : Hp} {a : Addr} {vs : List Val} {xs : List V} (nh : ¬ hid a) (n : a ∉ L) (h : H a = some (.lst xs)) (r : RVs K L H vs xs) : ItR K hid (itVs vs) (Itl K a) L H where
  go := fun L1 S H1 i v k rs e => by
    have e' : vs[i]? = some v := Option.some.inj e
    obtain ⟨x, h1, h2⟩ := (RVs.move k.pre k.tup k.fz _ _ r).get e'
    have hq : SqL K H1 a xs := SqL.of (k.fr _ _ h n nh)
    refine ⟨⟨xs, x, hq, h1⟩, fun y H' hy => ?_⟩
    obtain ⟨rfl, q⟩ := hy
    have z := q xs hq
    rw [h1] at z
    cases z
    exact ⟨.refl, rs, h2⟩
  stop := fun L1 S H1 i k rs e => by
    have e' : vs[i]? = none := Option.some.inj e
    refine ⟨xs, SqL.of (k.fr _ _ h n nh), ?_⟩
    rw [← r.len]
    exact List.getElem?_eq_none_iff.mp e'
theorem mi_new {tg : Expr} (h : ML X W e l) : MI X W tg e (iL l) :=
  pi_imp (pi_list h) fun τ H R ⟨L, S, σ, rs, rl, q⟩ => ⟨L, S, σ, rs, rl, q.bind fun v S1 L1 H1 x k1 rs1 rv1 h1 => by
    obtain ⟨p, xs, rfl, h0, n1, hp, r1⟩ := rv1
    exact ⟨p, rfl, ⟨xs, SqL.of hp⟩, h1 L1 H1 _ .refl rs1 (itr_new (fun z => z h0) n1 hp r1)⟩⟩
end

/-! ### comprehensions -/
def wipeA (σ : Slots) : List Nat → Slots
  | [] => σ
  | v :: vs => (wipeA σ vs).set v none
theorem RSl.wipe {K : PySem.W.Frag} {L : List Addr} {H : Hp} {σ : Slots} {τ : St} (h : RSl K L H σ τ) : ∀ vs : List Nat, RSl K L H (wipeA σ vs) (wipe τ vs)
  | [] => h
  | v :: vs => (h.wipe vs).forget v none
theorem wipe_get {τ : St} {j : Nat} : ∀ {vs : List Nat}, j ∈ vs → j < τ.length → (wipe τ vs)[j]? = some none
  | [], h, _ => absurd h (by simp)
  | v :: vs, h, hl => by
    unfold L2.wipe
    by_cases hv : v = j
    · subst hv
      rw [List.getElem?_set_self (by rw [wipe_length]; exact hl)]
    · rw [List.getElem?_set_ne hv]
      exact wipe_get (by rcases List.mem_cons.mp h with z | z; exact absurd z.symm hv; exact z) hl
theorem wipe_out {τ : St} {j : Nat} : ∀ {vs : List Nat}, j ∉ vs → (wipe τ vs)[j]? = τ[j]?
  | [], _ => rfl
  | v :: vs, h => by
    unfold L2.wipe
    rw [List.getElem?_set_ne (fun z => h (by rw [z]; exact List.mem_cons_self))]
    exact wipe_out fun z => h (List.mem_cons_of_mem _ z)
theorem setAllV_len : ∀ {is : List Nat} {xs : List V} {τ : St}, (setAllV is xs τ).length = τ.length
  | [], xs, τ => by cases xs <;> rfl
  | i :: is, [], τ => rfl
  | i :: is, x :: xs, τ => by
    show (setAllV is xs (τ.set i (some x))).length = _
    rw [setAllV_len, List.length_set]
theorem setAllV_out {j : Nat} : ∀ {is : List Nat} {xs : List V} {τ : St}, j ∉ is → (setAllV is xs τ)[j]? = τ[j]?
  | [], xs, τ, _ => by cases xs <;> rfl
  | i :: is, [], τ, _ => rfl
  | i :: is, x :: xs, τ, h => by
    show (setAllV is xs (τ.set i (some x)))[j]? = _
    rw [setAllV_out fun z => h (List.mem_cons_of_mem _ z), List.getElem?_set_ne (fun z => h (by rw [z]; exact List.mem_cons_self))]
theorem wipe_sets {τ : St} {is vs : List Nat} {xs : List V} (h : ∀ i ∈ is, i ∈ vs) : wipe (setAllV is xs τ) vs = wipe τ vs := by
  apply List.ext_getElem?
  intro j
  by_cases hj : j ∈ vs
  · by_cases hl : j < τ.length
    · rw [wipe_get hj (by rw [setAllV_len]; exact hl), wipe_get hj hl]
    · rw [List.getElem?_eq_none (by rw [wipe_length, setAllV_len]; exact Nat.le_of_not_lt hl), List.getElem?_eq_none (by rw [wipe_length]; exact Nat.le_of_not_lt hl)]
  · rw [wipe_out hj, wipe_out hj, setAllV_out fun z => hj (h j z)]
theorem wipe_wipe {τ : St} {vs : List Nat} : wipe (wipe τ vs) vs = wipe τ vs := by
  apply List.ext_getElem?
  intro j
  by_cases hj : j ∈ vs
  · by_cases hl : j < τ.length
    · rw [wipe_get hj (by rw [wipe_length]; exact hl), wipe_get hj hl]
    · rw [List.getElem?_eq_none (by rw [wipe_length, wipe_length]; exact Nat.le_of_not_lt hl), List.getElem?_eq_none (by rw [wipe_length]; exact Nat.le_of_not_lt hl)]
  · rw [wipe_out hj]
/-- the tests of a comprehension -/
def tYesM : TM := fun _ S => .ok true S
def MTs (X : Cx) (ifs : List Expr) (t : TM) : Prop := PTs X ifs (tT X.K X.mg W0 t)
theorem pts_imp {X : Cx} {es : List Expr} {t u : TT} (h : PTs X es t) (i : ∀ τ H Q, u τ H Q → t τ H Q) : PTs X es u := ⟨fun p s τ H Q I q => h.run p s τ H Q I (i τ H Q q)⟩
theorem mts_nil {X : Cx} : MTs X [] tYesM := pts_imp pts_nil fun τ H Q ⟨L, S, σ, rs, rl, q⟩ => q.now rs rfl
theorem mts_one {X : Cx} {c : Expr} {t : TM} (h : MT X W0 c t) : MTs X [c] t := pts_one h
/-- the turns: what a turn does with what was made so far -/
def lcM (it : ItF) (g : GA) (t : TM) (inner : List Val → Slots → Sto → Res (List Val)) : Nat → Nat → List Val → Slots → Sto → Res (List Val)
  | 0, _, _, _, _ => .fail
  | k + 1, i, acc, σ, S => match it i S with
    | none => .fail
    | some none => .ok acc S
    | some (some v) => match g.dec v S with
      | none => .fail
      | some ws => (t (setAll g.is ws σ) S).nx fun b S1 => if b = true then (inner acc (setAll g.is ws σ) S1).nx fun acc' S2 => lcM it g t inner k (i + 1) acc' σ S2 else lcM it g t inner k (i + 1) acc σ S1
def lcPut (m : EM) : List Val → Slots → Sto → Res (List Val) := fun acc σ S => (m σ S).nx fun y S1 => if acc.length < sizeLine then .ok (acc ++ [y]) S1 else .fail
def lLc (own : List Nat) (mi : IM) (g : GA) (t : TM) (m : EM) : LM := fun σ S => (mi σ S).bind fun p S1 => lcM p.2 g t (lcPut m) (p.1 + 1) 0 [] (wipeA σ own) S1
def lcIn (own1 : List Nat) (mi : IM) (g : GA) (t : TM) (m : EM) : List Val → Slots → Sto → Res (List Val) := fun acc σ S => (mi σ S).nx fun p S1 => lcM p.2 g t (lcPut m) (p.1 + 1) 0 acc (wipeA σ own1) S1
def lLc2 (own own1 : List Nat) (mi : IM) (g : GA) (t : TM) (mi1 : IM) (g1 : GA) (t1 : TM) (m : EM) : LM := fun σ S => (mi σ S).bind fun p S1 => lcM p.2 g t (lcIn own1 mi1 g1 t1 m) (p.1 + 1) 0 [] (wipeA σ own) S1
/-- the list that is being made stands at D -/
structure AtD (K : PySem.W.Frag) (D : Addr) (L : List Addr) (H : Hp) (acc : List Val) : Prop where
  out : D ∉ L
  ex : ∃ xs, H D = some (.lst xs) ∧ RVs K L H acc xs
theorem AtD.mono {K : PySem.W.Frag} {D : Addr} {L L' : List Addr} {H H' : Hp} {acc : List Val} (h : AtD K D L H acc) (k : Ex K L H L' H') : AtD K D L' H' acc := by
  obtain ⟨xs, h1, h2⟩ := h.ex
  obtain ⟨z1, z2⟩ := k.out h1 h.out
  exact ⟨z1, xs, z2, RVs.mono k _ _ h2⟩
/-- D is written -/
theorem D_keep {K : PySem.W.Frag} {D : Addr} {H : Hp} {xs : List V} {u : HO} (h : H D = some (.lst xs)) : (∀ a us, SqT K H a us → SqT K (upd H D u) a us) ∧ ∀ a us, FzL K H a us → FzL K (upd H D u) a us :=
  upd_eqs (fun xs e => by rw [h] at e; cases e) (fun ob v e => by rw [h] at e; cases e)
theorem D_rs {K : PySem.W.Frag} {D : Addr} {L : List Addr} {S : Sto} {H : Hp} {xs : List V} {u : HO} (rs : RS K L S H) (n : D ∉ L) (h : H D = some (.lst xs)) : RS K L S (upd H D u) := by
  obtain ⟨t, f⟩ := D_keep (K := K) (u := u) h
  refine ⟨rs.len, rs.nd, fun i a o e1 e2 => ?_⟩
  have na : a ≠ D := fun z => n (by rw [← z]; exact List.mem_of_getElem? e1)
  exact (rs.at_ i a o e1 e2).shift (List.prefix_refl _) t f (upd_ne na) fun d x q3 => by rw [upd_ne (ne_at q3 (fun z => by rw [h] at z; cases z))]; exact q3
theorem D_exB {K : PySem.W.Frag} {D : Addr} {L : List Addr} {H : Hp} {xs : List V} {u : HO} {hid : Addr → Prop} (hh : hid D) (h : H D = some (.lst xs)) : ExB K hid L H L (upd H D u) := by
  obtain ⟨t, f⟩ := D_keep (K := K) (u := u) h
  exact ⟨List.prefix_refl _, t, f, fun _ q => .inl q, fun b o e n m => by rw [upd_ne (fun z => m (by rw [z]; exact hh))]; exact e⟩
/-- from ahead of D's making: D may be what it likes -/
theorem ExB.full {K : PySem.W.Frag} {D : Addr} {L L' : List Addr} {H H' : Hp} (k : ExB K (fun b => b = D) L H L' H') (h : H D = none) : Ex K L H L' H' :=
  ⟨k.pre, k.tup, k.fz, fun a q => (k.new a q).elim .inl fun z => z.elim .inr fun z => .inr (by rw [z]; exact h), fun b o e n => k.fr b o e n fun z => by rw [z, h] at e; cases e⟩
/-- what a turn's inside does: from what was made to what is made then -/
def LIn (X : Cx) (D : Addr) (τ : St) (t : (Hp → Prop) → Hp → Prop) (inner : List Val → Slots → Sto → Res (List Val)) : Prop := ∀ (L : List Addr) (S : Sto) (σ : Slots) (H : Hp) (acc : List Val) (N : Hp → Prop), RS X.K L S H → RSl X.K L H σ τ → AtD X.K D L H acc →
  (match inner acc σ S with
    | .ok acc' S' => ∀ L' H', ExB X.K (fun b => b = D) L H L' H' → RS X.K L' S' H' → AtD X.K D L' H' acc' → N H'
    | _ => False) → t N H


/-- what is wanted behind a list's making -/
def PL (K : PySem.W.Frag) (D : Addr) (L : List Addr) (H : Hp) (N : Hp → Prop) : Res (List Val) → Prop
  | .ok acc S => ∀ L' H', ExB K (fun b => b = D) L H L' H' → RS K L' S H' → AtD K D L' H' acc → N H'
  | _ => False
def PLI (X : Cx) (D : Addr) (T : St → (Hp → Prop) → Hp → Prop) (inner : List Val → Slots → Sto → Res (List Val)) : Prop := ∀ (τ : St) (L : List Addr) (S : Sto) (σ : Slots) (H : Hp) (acc : List Val) (N : Hp → Prop), RS X.K L S H → RSl X.K L H σ τ → AtD X.K D L H acc →
  PL X.K D L H N (inner acc σ S) → T τ N H
section
variable {K : PySem.W.Frag} {D : Addr} {L L' L2 Lb : List Addr} {H H' H2 Hb : Hp} {hid : Addr → Prop} {N : Hp → Prop} {r : Res (List Val)}
theorem PL.shift (k : ExB K (fun b => b = D) L H L' H') (h : PL K D L H N r) : PL K D L' H' N r := by
  cases r with
  | ok acc S => exact fun L2 H2 k2 => h L2 H2 (k.trans k2)
  | exc c f v S => exact h
  | fail => exact h
theorem ExB.overD (hD : hid D ∨ Hb D = none) (a : ExB K hid Lb Hb L H) (b : ExB K (fun b => b = D) L H L' H') (n : D ∉ L') : ExB K hid Lb Hb L' H' where
  pre := a.pre.trans b.pre
  tup := fun c xs h => b.tup c xs (a.tup c xs h)
  fz := fun c xs h => b.fz c xs (a.fz c xs h)
  new := fun c h => by
    rcases b.new c h with z | z | z
    · exact a.new c z
    · by_cases hc : c ∈ Lb
      · exact .inl hc
      · by_cases hh : hid c
        · exact .inr (.inr hh)
        · cases q : Hb c with
          | none => exact .inr (.inl rfl)
          | some o =>
            rw [a.fr c o q hc hh] at z
            cases z
    · exact absurd (z ▸ h) n
  fr := fun c o h m hh => b.fr c o (a.fr c o h m hh) (fun z => by
    rcases a.new c z with y | y | y
    · exact m y
    · rw [h] at y
      cases y
    · exact hh y) fun z => by
      rcases hD with y | y
      · exact hh (by rw [z]; exact y)
      · rw [z, y] at h
        cases h
end
theorem lcM_noexc {it : ItF} {g : GA} {t : TM} {inner : List Val → Slots → Sto → Res (List Val)} {c f : Str} {w : Val} {S' : Sto} : ∀ (k i : Nat) (acc : List Val) (σ : Slots) (S : Sto), lcM it g t inner k i acc σ S ≠ .exc c f w S'
  | 0, _, _, _, _, h => by cases h
  | k + 1, i, acc, σ, S, h => by
    unfold lcM at h
    split at h
    · cases h
    · cases h
    · split at h
      · cases h
      · rename_i ws _
        cases ht : t (AR.setAll g.is ws σ) S with
        | fail => rw [ht] at h; cases h
        | exc c f v S1 => rw [ht] at h; cases h
        | ok b S1 =>
          rw [ht] at h
          simp only [Res.nx] at h
          split at h
          · split at h
            · exact lcM_noexc k _ _ _ _ h
            · cases h
          · exact lcM_noexc k _ _ _ _ h
theorem lc_run {X : Cx} {it : ItF} {J : It} {hid : Addr → Prop} {Lb : List Addr} {Hb : Hp} {D : Addr} {g : GA} {t : TM} {inner : List Val → Slots → Sto → Res (List Val)} {T : St → (Hp → Prop) → Hp → Prop} {own : List Nat} {τ : St} {σ : Slots} {Fin : Hp → Prop} {gg : TG} {tt : TT}
    (hg : ∀ v τ H Q, tG X.K g v τ H Q → gg v τ H Q) (ht : ∀ τ H Q, tT X.K X.mg W0 t τ H Q → tt τ H Q)
    (hI : PLI X D T inner) (hR : ItR X.K hid it J Lb Hb) (hD : hid D ∨ Hb D = none) (hown : ∀ i ∈ g.is, i ∈ own) {k : Nat} {L0 : List Addr} {S0 : Sto} {H0 : Hp} {acc0 : List Val}
    (e0 : ExB X.K hid Lb Hb L0 H0) (rs0 : RS X.K L0 S0 H0) (rl0 : RSl X.K L0 H0 σ (wipe τ own)) (a0 : AtD X.K D L0 H0 acc0) (h0 : PL X.K D L0 H0 Fin (lcM it g t inner k 0 acc0 σ S0)) :
    ∃ W : Nat → Nat → Hp → Prop, (∃ m, W 0 m H0) ∧ ∀ i m H, W i m H →
      (J.stop i H ∧ Fin H) ∨ (J.go i H ∧ ∃ Nx : Hp → Prop, (∀ H', Nx H' → ∃ m', m' < m ∧ W (i + 1) m' H') ∧ ∀ x H', J.yld i H x H' → gg x (wipe τ own) H' fun σ2 H2 => wipe σ2 own = wipe τ own ∧ tt σ2 H2 fun b H3 => if b = true then T σ2 Nx H3 else Nx H3) := by
  refine ⟨fun i m H => ∃ L S acc, ExB X.K hid Lb Hb L H ∧ RS X.K L S H ∧ RSl X.K L H σ (wipe τ own) ∧ AtD X.K D L H acc ∧ PL X.K D L H Fin (lcM it g t inner m i acc σ S), ⟨k, L0, S0, acc0, e0, rs0, rl0, a0, h0⟩, ?_⟩
  rintro i m H ⟨L, S, acc, ex, rs, rl, ad, q⟩
  cases m with
  | zero => exact q.elim
  | succ m =>
    unfold lcM at q
    cases hit : it i S with
    | none => rw [hit] at q; exact q.elim
    | some r =>
      rw [hit] at q
      cases r with
      | none => exact .inl ⟨hR.stop L S H i ex rs hit, q L H (Ex.refl.toB) rs ad⟩
      | some u =>
        obtain ⟨g1, g2⟩ := hR.go L S H i u ex rs hit
        refine .inr ⟨g1, fun H' => ∃ L' S' acc', ExB X.K hid Lb Hb L' H' ∧ RS X.K L' S' H' ∧ RSl X.K L' H' σ (wipe τ own) ∧ AtD X.K D L' H' acc' ∧ PL X.K D L' H' Fin (lcM it g t inner m (i + 1) acc' σ S'), fun H' h => ⟨m, Nat.lt_succ_self _, h⟩, fun x H' hy => ?_⟩
        obtain ⟨ex2, rs2, rv2⟩ := g2 x H' hy
        have ad2 := ad.mono ex2
        have rl2 := rl.mono ex2
        have ex3 := ex.trans ex2.toB
        have q := PL.shift ex2.toB q
        dsimp only at q
        cases hgv : g.dec u S with
        | none => rw [hgv] at q; exact q.elim
        | some ws =>
          rw [hgv] at q
          dsimp only at q
          refine hg _ _ _ _ ⟨L, S, u, ws, rs2, rv2, hgv, fun xs r => ⟨?_, ht _ _ _ ⟨L, S, AR.setAll g.is ws σ, rs2, rl2.setAll r, ?_⟩⟩⟩
          · rw [wipe_sets hown]
            exact wipe_wipe
          · generalize hts : t (AR.setAll g.is ws σ) S = rt at q
            cases rt with
            | fail => exact q.elim
            | exc c f v S1 => exact q.elim
            | ok b S1 =>
              intro L3 H3 b' k3 rs3 rv3
              obtain rfl : b = b' := rv3
              have ad3 := ad2.mono k3
              have q3 : PL X.K D L3 H3 Fin (if b = true then (inner acc (AR.setAll g.is ws σ) S1).nx fun acc' S2 => lcM it g t inner m (i + 1) acc' σ S2 else lcM it g t inner m (i + 1) acc σ S1) := PL.shift k3.toB q
              have ex4 := ex3.trans k3.toB
              have rl3 : RSl X.K L3 H3 σ (wipe τ own) := rl2.mono k3
              cases b with
              | false => exact ⟨L3, S1, acc, ex4, rs3, rl3, ad3, q3⟩
              | true =>
                simp only [if_true] at q3 ⊢
                refine hI _ L3 S1 (AR.setAll g.is ws σ) H3 acc _ rs3 ((rl2.setAll r).mono k3) ad3 ?_
                generalize hin : inner acc (AR.setAll g.is ws σ) S1 = ri at q3
                cases ri with
                | fail => exact q3.elim
                | exc c f v S1 => exact q3.elim
                | ok acc' S2 =>
                  intro L5 H5 k5 rs5 ad5
                  refine ⟨L5, S2, acc', ex4.overD hD k5 ad5.out, rs5, ?_, ad5, PL.shift k5 q3⟩
                  exact ⟨rl3.len, fun j v e => let ⟨x, h1, h2⟩ := rl3.at_ j v e; ⟨x, h1, RV.move k5.pre k5.tup k5.fz _ _ h2⟩⟩
section
variable {X : Cx} {W : WX} {elt tg iter tg1 iter1 : Expr} {ifs ifs1 : List Expr} {scope : Scope} {own : List (Str × Nat)} {own1 : List Nat} {pos : Pos} {mi mi1 : IM} {g g1 : GA} {t t1 : TM} {m : EM}
/-- what a turn of [elt for ..] does -/
theorem put_in {Y : Cx} {D : Addr} (he : ∀ τ H Q, tE Y.K Y.mg W0 m τ H Q → tE Y.K Y.mg W0 m τ H Q) :
    PLI Y D (fun τ N H => tE Y.K Y.mg W0 m τ H fun y H4 => ∃ acc, H4 D = some (.lst acc) ∧ acc.length < sizeLine ∧ N (upd H4 D (.lst (acc ++ [y])))) (lcPut m) := by
  intro τ L S σ H acc N rs rl ad q
  refine ⟨L, S, σ, rs, rl, ?_⟩
  unfold lcPut at q
  generalize hm : m σ S = r at q
  cases r with
  | fail => exact q.elim
  | exc c f v S1 => exact q.elim
  | ok v S1 =>
    intro L1 H1 x k1 rs1 rv1
    have ad1 := ad.mono k1
    obtain ⟨xs, h1, r1⟩ := ad1.ex
    simp only [Res.nx] at q
    split at q
    · rename_i hz
      refine ⟨xs, h1, by rw [← r1.len]; exact hz, q L1 _ (k1.toB.trans (D_exB rfl h1)) (D_rs rs1 ad1.out h1) ⟨ad1.out, xs ++ [x], upd_same, ?_⟩⟩
      obtain ⟨dt, df⟩ := D_keep (K := Y.K) (D := D) (u := .lst (xs ++ [x])) h1
      exact RVs.move (List.prefix_refl _) dt df _ _ (r1.app (RVs.one rv1))
    · exact q.elim
theorem atD_new {K : PySem.W.Frag} {D : Addr} {L : List Addr} {S : Sto} {H : Hp} (rs : RS K L S H) (h : H D = none) : AtD K D L (upd H D (.lst [])) [] := ⟨rs.fresh h, [], upd_same, .nil⟩
theorem lc_imp {own : List Nat} (hown : ∀ i ∈ g.is, i ∈ own) (τ : St) (H : Hp) (Q : VK) (h : tL X.K X.mg W (lLc own mi g t m) τ H Q) : tLc (tI X.K X.mg W mi) (tG X.K g) (tT X.K X.mg W0 t) (tE X.K X.mg W0 m) own τ H Q := by
  obtain ⟨L, S, σ, rs, rl, q⟩ := h
  exact ⟨L, S, σ, rs, rl, q.bind fun v S1 L1 H1 J k1 rs1 rv1 q1 => by
    intro D hD
    have rv1 : ItR X.K (hidden H) v.2 J L1 H1 := rv1
    have k2 : Ex X.K L1 H1 L1 (upd H1 D (.lst [])) := Ex.new_ hD
    refine lc_run (X := X) (hid := hidden H) (Lb := L1) (Hb := H1) (it := v.2) (g := g) (t := t) (k := v.1 + 1) (acc0 := []) (L0 := L1) (S0 := S1) (σ := wipeA σ own) (fun _ _ _ _ h => h) (fun _ _ _ h => h) (put_in fun _ _ _ h => h) rv1 (.inr hD) hown k2.toB (rs1.new hD) (((rl.mono k1).mono k2).wipe _) (atD_new rs1 hD) ?_
    generalize hr : lcM v.2 g t (lcPut m) (v.1 + 1) 0 [] (wipeA σ own) S1 = r at q1
    cases r with
    | fail => exact q1.elim
    | exc c f w S2 => exact absurd hr (lcM_noexc _ _ _ _ _)
    | ok acc S2 =>
      intro L3 H3 k3 rs3 ad3
      obtain ⟨xs, h3, r3⟩ := ad3.ex
      have k4 : ExB X.K (fun b => b = D) L1 H1 L3 H3 := ExB.overD (.inl rfl) k2.toB k3 ad3.out
      exact q1 L3 H3 _ (k4.full hD) rs3 ⟨D, xs, rfl, k1.noneBack rs1 hD, ad3.out, h3, r3⟩⟩
theorem ml_lc (hc : X.calm = true) (hN : X.N.Nodup) (hi : MI X W tg iter mi) (ok : BlkOk X.N X.env.scope scope own)
    (hg : ∀ (s : Shared) (H : Hp) (C : Addr) (cl : List (Str × Addr)) (fp : List Addr), MG (X.blk s H scope (compEnvC scope cl C X.env) fp) tg g)
    (ht : ∀ (s : Shared) (H : Hp) (C : Addr) (cl : List (Str × Addr)) (fp : List Addr), MTs (X.blk s H scope (compEnvC scope cl C X.env) fp) ifs t)
    (he : ∀ (s : Shared) (H : Hp) (C : Addr) (cl : List (Str × Addr)) (fp : List Addr), ME (X.blk s H scope (compEnvC scope cl C X.env) fp) W0 elt m)
    (hown : ∀ i ∈ g.is, i ∈ own.map (·.2) := by decide) (hs : ∀ x, foldedSetIterable iter X.env x = pure x := by intro _; rfl) :
    ML X W (.ListComp elt [⟨tg, iter, ifs, 0⟩] scope pos) (lLc (own.map (·.2)) mi g t m) :=
  pe_imp (pe_lc (te := tE X.K X.mg W0 m) (tt := tT X.K X.mg W0 t) (g := tG X.K g) hc hN hi ok hg ht he hs) (lc_imp hown)
/-- two clauses -/
theorem lc2_imp {own : List Nat} (hown : ∀ i ∈ g.is, i ∈ own) (hown1 : ∀ i ∈ g1.is, i ∈ own1) (τ : St) (H : Hp) (Q : VK) (h : tL X.K X.mg W (lLc2 own own1 mi g t mi1 g1 t1 m) τ H Q) :
    tLc2 (tI X.K X.mg W mi) (tG X.K g) (tT X.K X.mg W0 t) (tI X.K X.mg W0 mi1) (tG X.K g1) (tT X.K X.mg W0 t1) (tE X.K X.mg W0 m) own own1 τ H Q := by
  obtain ⟨L, S, σ, rs, rl, q⟩ := h
  exact ⟨L, S, σ, rs, rl, q.bind fun v S1 L1 H1 J k1 rs1 rv1 q1 => by
    intro D hD
    have rv1 : ItR X.K (hidden H) v.2 J L1 H1 := rv1
    have k2 : Ex X.K L1 H1 L1 (upd H1 D (.lst [])) := Ex.new_ hD
    refine lc_run (X := X) (hid := hidden H) (Lb := L1) (Hb := H1) (it := v.2) (g := g) (t := t) (k := v.1 + 1) (acc0 := []) (L0 := L1) (S0 := S1) (σ := wipeA σ own) (inner := lcIn own1 mi1 g1 t1 m)
      (T := fun τ2 Nx H3 => tI X.K X.mg W0 mi1 τ2 H3 fun J1 H4 => ∃ W1 : Nat → Nat → Hp → Prop, (∃ m, W1 0 m H4) ∧ ∀ j k H, W1 j k H →
      (J1.stop j H ∧ Nx H) ∨ (J1.go j H ∧ ∃ Nx1 : Hp → Prop, (∀ H', Nx1 H' → ∃ k', k' < k ∧ W1 (j + 1) k' H') ∧ ∀ x H', J1.yld j H x H' → tG X.K g1 x (wipe τ2 own1) H' fun σ3 H5 => wipe σ3 own1 = wipe τ2 own1 ∧ tT X.K X.mg W0 t1 σ3 H5 fun b H6 =>
        if b = true then tE X.K X.mg W0 m σ3 H6 fun y H7 => ∃ acc, H7 D = some (.lst acc) ∧ acc.length < sizeLine ∧ Nx1 (upd H7 D (.lst (acc ++ [y]))) else Nx1 H6))
      (fun _ _ _ _ h => h) (fun _ _ _ h => h) ?_ rv1 (.inr hD) hown k2.toB (rs1.new hD) (((rl.mono k1).mono k2).wipe _) (atD_new rs1 hD) ?_
    · intro τ2 L2 S2 σ2 H2 acc N rs2 rl2 ad2 q2
      refine ⟨L2, S2, σ2, rs2, rl2, ?_⟩
      unfold lcIn at q2
      generalize hm : mi1 σ2 S2 = r at q2
      cases r with
      | fail => exact q2.elim
      | exc c f v S1 => exact q2.elim
      | ok p S3 =>
        intro L3 H3 J1 k3 rs3 rv3
        have rv3 : ItR X.K (hidden H2) p.2 J1 L3 H3 := rv3
        have hd2 : hidden H2 D := by
          obtain ⟨xs, z, _⟩ := ad2.ex
          intro y
          rw [y] at z
          cases z
        exact lc_run (X := X) (hid := hidden H2) (Lb := L3) (Hb := H3) (it := p.2) (g := g1) (t := t1) (k := p.1 + 1) (acc0 := acc) (L0 := L3) (S0 := S3) (σ := wipeA σ2 own1) (fun _ _ _ _ h => h) (fun _ _ _ h => h) (put_in fun _ _ _ h => h) rv3 (.inl hd2) hown1 Ex.refl.toB rs3 ((rl2.mono k3).wipe _) (ad2.mono k3) (PL.shift k3.toB q2)
    · generalize hr : lcM v.2 g t (lcIn own1 mi1 g1 t1 m) (v.1 + 1) 0 [] (wipeA σ own) S1 = r at q1
      cases r with
      | fail => exact q1.elim
      | exc c f w S2 => exact absurd hr (lcM_noexc _ _ _ _ _)
      | ok acc S2 =>
        intro L3 H3 k3 rs3 ad3
        obtain ⟨xs, h3, r3⟩ := ad3.ex
        have k4 : ExB X.K (fun b => b = D) L1 H1 L3 H3 := ExB.overD (.inl rfl) k2.toB k3 ad3.out
        exact q1 L3 H3 _ (k4.full hD) rs3 ⟨D, xs, rfl, k1.noneBack rs1 hD, ad3.out, h3, r3⟩⟩
theorem ml_lc2 (hc : X.calm = true) (hN : X.N.Nodup) (hi : MI X W tg iter mi) (ok : BlkOk X.N X.env.scope scope own) (hv : ∀ i ∈ own1, i ∈ own.map (·.2))
    (hg : ∀ (s : Shared) (H : Hp) (C : Addr) (cl : List (Str × Addr)) (fp : List Addr), MG (X.blk s H scope (compEnvC scope cl C X.env) fp) tg g)
    (ht : ∀ (s : Shared) (H : Hp) (C : Addr) (cl : List (Str × Addr)) (fp : List Addr), MTs (X.blk s H scope (compEnvC scope cl C X.env) fp) ifs t)
    (hi1 : ∀ (s : Shared) (H : Hp) (C : Addr) (cl : List (Str × Addr)) (fp : List Addr), MI (X.blk s H scope (compEnvC scope cl C X.env) fp) W0 tg1 iter1 mi1)
    (hg1 : ∀ (s : Shared) (H : Hp) (C : Addr) (cl : List (Str × Addr)) (fp : List Addr), MG (X.blk s H scope (compEnvC scope cl C X.env) fp) tg1 g1)
    (ht1 : ∀ (s : Shared) (H : Hp) (C : Addr) (cl : List (Str × Addr)) (fp : List Addr), MTs (X.blk s H scope (compEnvC scope cl C X.env) fp) ifs1 t1)
    (he : ∀ (s : Shared) (H : Hp) (C : Addr) (cl : List (Str × Addr)) (fp : List Addr), ME (X.blk s H scope (compEnvC scope cl C X.env) fp) W0 elt m)
    (hown : ∀ i ∈ g.is, i ∈ own.map (·.2) := by decide) (hown1 : ∀ i ∈ g1.is, i ∈ own1 := by decide) (hs : ∀ x, foldedSetIterable iter X.env x = pure x := by intro _; rfl) (hs1 : ∀ env x, foldedSetIterable iter1 env x = pure x := by intro _ _; rfl) :
    ML X W (.ListComp elt [⟨tg, iter, ifs, 0⟩, ⟨tg1, iter1, ifs1, 0⟩] scope pos) (lLc2 (own.map (·.2)) own1 mi g t mi1 g1 t1 m) :=
  pe_imp (pe_lc2 (te := tE X.K X.mg W0 m) (tt := tT X.K X.mg W0 t) (g := tG X.K g) (wi1 := tI X.K X.mg W0 mi1) (g1 := tG X.K g1) (tt1 := tT X.K X.mg W0 t1) hc hN hi ok hv hg ht hi1 hg1 ht1 he hs hs1) (lc2_imp hown hown1)
/-- name = [..] -/
theorem asgL {K : PySem.W.Frag} {mg : Str → Option Value} {i : Nat} {l : LM} {D : Ends} {τ : St} {H : Hp} {L : List Addr} {S : Sto} {σ : Slots} (rs : RS K L S H) (rl : RSl K L H σ τ) (q : PSt K mg L H D W (sSet i (eOfL l) σ S)) :
    tL K mg W l τ H (fun x H1 => D.nx (τ.set i (some x)) H1) := by
  refine ⟨L, S, σ, rs, rl, ?_⟩
  unfold sSet eOfL at q
  generalize hl : l σ S = r at q
  cases r with
  | fail => exact q.elim
  | exc c f v S1 => exact fun L1 H1 cls d k1 rs1 xr => q L1 H1 τ cls d k1 rs1 (rl.mono k1) xr
  | ok vs S1 =>
    intro L1 H1 x k1 rs1 rv1
    obtain ⟨p, xs, rfl, h0, n1, h1, r1⟩ := rv1
    refine q (L1 ++ [p]) H1 _ (k1.take h0) (rs1.take n1 h1 r1) ((rl.mono (k1.take h0)).set i (.loc ?_))
    rw [← rs1.len, List.getElem?_append_right (Nat.le_refl _), Nat.sub_self]
    rfl
theorem ms_setLc (i : Nat) {y : Str} {py spos : Pos} (hc : X.calm = true) (hN : X.N.Nodup) (hi : MI X W tg iter mi) (ok : BlkOk X.N X.env.scope scope own)
    (hg : ∀ (s : Shared) (H : Hp) (C : Addr) (cl : List (Str × Addr)) (fp : List Addr), MG (X.blk s H scope (compEnvC scope cl C X.env) fp) tg g)
    (ht : ∀ (s : Shared) (H : Hp) (C : Addr) (cl : List (Str × Addr)) (fp : List Addr), MTs (X.blk s H scope (compEnvC scope cl C X.env) fp) ifs t)
    (he : ∀ (s : Shared) (H : Hp) (C : Addr) (cl : List (Str × Addr)) (fp : List Addr), ME (X.blk s H scope (compEnvC scope cl C X.env) fp) W0 elt m)
    (hsw : swapsWith (.ListComp elt [⟨tg, iter, ifs, 0⟩] scope pos) (some (.Name y py)) spos.line X.env = pure true)
    (hown : ∀ i ∈ g.is, i ∈ own.map (·.2) := by decide) (hs : ∀ x, foldedSetIterable iter X.env x = pure x := by intro _; rfl) (hy : X.N[i]? = some y := by rfl) (hyl : X.env.scope.names.lookup y = some .local := by rfl) :
    MS X W (.Assign [.Name y py] (.ListComp elt [⟨tg, iter, ifs, 0⟩] scope pos) spos) (sSet i (eOfL (lLc (own.map (·.2)) mi g t m))) :=
  ps_imp (ps_setLc (te := tE X.K X.mg W0 m) (tt := tT X.K X.mg W0 t) (g := tG X.K g) hc hN hy hyl hsw hi ok hg ht he hs) fun D τ H ⟨L, S, σ, rs, rl, q⟩ => lc_imp hown τ H _ (asgL rs rl q)
theorem ms_setLc2 (i : Nat) {y : Str} {py spos : Pos} (hc : X.calm = true) (hN : X.N.Nodup) (hi : MI X W tg iter mi) (ok : BlkOk X.N X.env.scope scope own) (hv : ∀ i ∈ own1, i ∈ own.map (·.2))
    (hg : ∀ (s : Shared) (H : Hp) (C : Addr) (cl : List (Str × Addr)) (fp : List Addr), MG (X.blk s H scope (compEnvC scope cl C X.env) fp) tg g)
    (ht : ∀ (s : Shared) (H : Hp) (C : Addr) (cl : List (Str × Addr)) (fp : List Addr), MTs (X.blk s H scope (compEnvC scope cl C X.env) fp) ifs t)
    (hi1 : ∀ (s : Shared) (H : Hp) (C : Addr) (cl : List (Str × Addr)) (fp : List Addr), MI (X.blk s H scope (compEnvC scope cl C X.env) fp) W0 tg1 iter1 mi1)
    (hg1 : ∀ (s : Shared) (H : Hp) (C : Addr) (cl : List (Str × Addr)) (fp : List Addr), MG (X.blk s H scope (compEnvC scope cl C X.env) fp) tg1 g1)
    (ht1 : ∀ (s : Shared) (H : Hp) (C : Addr) (cl : List (Str × Addr)) (fp : List Addr), MTs (X.blk s H scope (compEnvC scope cl C X.env) fp) ifs1 t1)
    (he : ∀ (s : Shared) (H : Hp) (C : Addr) (cl : List (Str × Addr)) (fp : List Addr), ME (X.blk s H scope (compEnvC scope cl C X.env) fp) W0 elt m)
    (hsw : swapsWith (.ListComp elt [⟨tg, iter, ifs, 0⟩, ⟨tg1, iter1, ifs1, 0⟩] scope pos) (some (.Name y py)) spos.line X.env = pure true)
    (hown : ∀ i ∈ g.is, i ∈ own.map (·.2) := by decide) (hown1 : ∀ i ∈ g1.is, i ∈ own1 := by decide) (hs : ∀ x, foldedSetIterable iter X.env x = pure x := by intro _; rfl) (hs1 : ∀ env x, foldedSetIterable iter1 env x = pure x := by intro _ _; rfl) (hy : X.N[i]? = some y := by rfl) (hyl : X.env.scope.names.lookup y = some .local := by rfl) :
    MS X W (.Assign [.Name y py] (.ListComp elt [⟨tg, iter, ifs, 0⟩, ⟨tg1, iter1, ifs1, 0⟩] scope pos) spos) (sSet i (eOfL (lLc2 (own.map (·.2)) own1 mi g t mi1 g1 t1 m))) :=
  ps_imp (ps_setLc2 (te := tE X.K X.mg W0 m) (tt := tT X.K X.mg W0 t) (g := tG X.K g) (wi1 := tI X.K X.mg W0 mi1) (g1 := tG X.K g1) (tt1 := tT X.K X.mg W0 t1) hc hN hy hyl hsw hi ok hv hg ht hi1 hg1 ht1 he hs hs1) fun D τ H ⟨L, S, σ, rs, rl, q⟩ => lc2_imp hown hown1 τ H _ (asgL rs rl q)
end
end AR
set_option linter.all false
set_option maxRecDepth 100000
set_option maxHeartbeats 4000000
/-! Subscripts, slices, types, equality, builtins, methods. -/
namespace AR
open PySem PySem.Spec PyProof.Rows L2

/-! ### subscripts -/
theorem atI_rv {K : PySem.W.Frag} {L : List Addr} {H : Hp} {vs : List Val} {xs : List V} {i : Int} {v : Val} (r : RVs K L H vs xs) (h : atI vs i = some v) : ∃ x, atI xs i = some x ∧ RV K L H v x := by
  unfold atI at h ⊢
  rw [r.len] at h
  cases e : ixN xs.length i with
  | none => rw [e] at h; cases h
  | some j =>
    rw [e] at h
    exact r.get h
def gIx : G2 := fun v w S => match w with
  | .int i => match v with
    | .tup vs => match atI vs i with
      | some y => .ok y S
      | none => .fail
    | .loc l => match S[l]? with
      | some (.lst vs) => match atI vs i with
        | some y => .ok y S
        | none => .fail
      | _ => .fail
    | _ => .fail
  | _ => .fail
section
variable {X : Cx} {W : WX} {e a b c : Expr} {m n o : EM} {l l' : LM} {pos : Pos}
theorem RS.lst {K : PySem.W.Frag} {L : List Addr} {S : Sto} {H : Hp} {k : Nat} {ad : Addr} {vs : List Val} (rs : RS K L S H) (hl : L[k]? = some ad) (h : S[k]? = some (.lst vs)) : ∃ xs, H ad = some (.lst xs) ∧ RVs K L H vs xs := RO.lst' (rs.at_ k _ _ hl h)
theorem abs_ix {K : PySem.W.Frag} {mg : Str → Option Value} : Abs2 K mg (fun x y H Q => rIxL K x y H Q ∨ rIxT K x y H Q) gIx := by
  intro L S H v w x y Q E rs rv rw' q
  unfold gIx at q
  cases rw' <;> try exact q.elim
  rename_i i
  dsimp only at q
  cases rv <;> try exact q.elim
  · rename_i k ad hl
    dsimp only at q
    cases hs : S[k]? with
    | none => rw [hs] at q; exact q.elim
    | some ob =>
      rw [hs] at q
      cases ob with
      | ins C fs => exact q.elim
      | lst vs =>
        obtain ⟨xs, h1, h2⟩ := rs.lst hl hs
        dsimp only at q
        cases he : atI vs i with
        | none => rw [he] at q; exact q.elim
        | some y =>
          rw [he] at q
          obtain ⟨z, z1, z2⟩ := atI_rv h2 he
          exact .inl ⟨_, xs, i, z, rfl, rfl, SqL.of h1, z1, q.now rs z2⟩
  · rename_i vs xs ad ht hr
    dsimp only at q
    cases he : atI vs i with
    | none => rw [he] at q; exact q.elim
    | some y =>
      rw [he] at q
      obtain ⟨z, z1, z2⟩ := atI_rv hr he
      exact .inr ⟨_, xs, i, z, rfl, rfl, ht, z1, q.now rs z2⟩
theorem me_ix (ha : ME X W a m) (hb : ME X W b n) (hs : PlainIx b := by exact fun _ _ => rfl) : ME X W (.Subscript a b pos) (eBin gIx m n) :=
  me_of (pe_ix (ix_list.or ix_tup) ha hb hs) fun L S σ τ H Q rs rl q => ⟨L, S, σ, rs, rl, q.bind fun v S1 L1 H1 x k1 rs1 rv1 h1 => ⟨L1, S1, σ, rs1, rl.mono k1, h1.bind fun w S2 L2 H2 y k2 rs2 rv2 h2 =>
    abs_ix _ _ _ _ _ _ _ _ _ rs2 (RV.mono k2 _ _ rv1) rv2 h2⟩⟩
/-- a new list, at a place -/
def eIxL (l : LM) (n : EM) : EM := fun σ S => (l σ S).bind fun vs S1 => (n σ S1).bind fun w S2 => match w with
  | .int i => match atI vs i with
    | some y => .ok y S2
    | none => .fail
  | _ => .fail
theorem me_ixL (ha : ML X W a l) (hb : ME X W b n) (hs : PlainIx b := by exact fun _ _ => rfl) : ME X W (.Subscript a b pos) (eIxL l n) :=
  me_of (pe_ix ix_list ha hb hs) fun L S σ τ H Q rs rl q => ⟨L, S, σ, rs, rl, q.bind fun v S1 L1 H1 x k1 rs1 rv1 h1 => ⟨L1, S1, σ, rs1, rl.mono k1, h1.bind fun w S2 L2 H2 y k2 rs2 rv2 h2 => by
    obtain ⟨p, xs, rfl, _, n1, hp, r1⟩ := rv1
    cases rv2 <;> try exact h2.elim
    rename_i i
    dsimp only at h2
    cases he : atI v i with
    | none => rw [he] at h2; exact h2.elim
    | some y =>
      rw [he] at h2
      obtain ⟨z, z1, z2⟩ := atI_rv (RVs.mono k2 _ _ r1) he
      exact ⟨p, xs, i, z, rfl, rfl, SqL.of (k2.fr _ _ hp n1), z1, h2.now rs2 z2⟩⟩⟩
/-! slices -/
abbrev OM := Slots → Sto → Res (Option Int)
def oNone : OM := fun _ S => .ok none S
def oSome (m : EM) : OM := fun σ S => (m σ S).bind fun v S1 => match v with
  | .int i => .ok (some i) S1
  | _ => .fail
abbrev relO : List Addr → Hp → Option Int → Option Int → Prop := fun _ _ a b => a = b
def tO (K : PySem.W.Frag) (mg : Str → Option Value) (W : WX) (m : OM) : TO := fun τ H Q => ∃ L S σ, RS K L S H ∧ RSl K L H σ τ ∧ PR K mg relO L H Q (fun c d H' => W c d τ H') (m σ S)
def MO (X : Cx) (W : WX) (e : Option Expr) (m : OM) : Prop := L2.PO X e (tO X.K X.mg W m)
theorem po_imp {X : Cx} {e : Option Expr} {t u : TO} (h : L2.PO X e t) (i : ∀ τ H Q, u τ H Q → t τ H Q) : L2.PO X e u := ⟨fun p s τ H Q I q => h.run p s τ H Q I (i τ H Q q)⟩
theorem mo_none : MO X W none oNone := po_imp po_none fun τ H Q ⟨L, S, σ, rs, rl, q⟩ => q.now rs rfl
theorem mo_some (h : ME X W e m) : MO X W (some e) (oSome m) := po_imp (po_some h) fun τ H Q ⟨L, S, σ, rs, rl, q⟩ => ⟨L, S, σ, rs, rl, q.bind fun v S1 L1 H1 x k1 rs1 rv1 h1 => by
  cases rv1 <;> try exact h1.elim
  exact ⟨_, rfl, h1.now rs1 rfl⟩⟩
def cutA {α : Type} (xs : List α) (lo hi : Option Int) : List α := (xs.drop (HT.sIx xs.length 0 lo)).take (HT.sIx xs.length xs.length hi - HT.sIx xs.length 0 lo)
theorem cut_rv {K : PySem.W.Frag} {L : List Addr} {H : Hp} {vs : List Val} {xs : List V} (r : RVs K L H vs xs) (lo hi : Option Int) : RVs K L H (cutA vs lo hi) (cutV xs lo hi) := by
  unfold cutA cutV
  rw [r.len]
  exact (r.drop _).take _
def eSl (m : EM) (lo hi : OM) : EM := fun σ S => (m σ S).bind fun v S1 => (lo σ S1).bind fun a S2 => (hi σ S2).bind fun b S3 => match v with
  | .tup vs => .ok (.tup (cutA vs a b)) S3
  | .sc vs => .ok (.loc S3.length) (S3 ++ [.lst (cutA vs a b)])
  | .loc l => match S3[l]? with
    | some (.lst vs) => .ok (.loc S3.length) (S3 ++ [.lst (cutA vs a b)])
    | _ => .fail
  | _ => .fail
theorem me_sl {lo hi : Option Expr} {ol oh : OM} {p2 : Pos} (ha : ME X W a m) (hl : MO X W lo ol) (hh : MO X W hi oh) : ME X W (.Subscript a (.Slice lo hi none p2) pos) (eSl m ol oh) :=
  me_of (pe_slice (sl_list.or sl_tupA) ha hl hh) fun L S σ τ H Q rs rl q => ⟨L, S, σ, rs, rl, q.bind fun v S1 L1 H1 x k1 rs1 rv1 h1 => ⟨L1, S1, σ, rs1, rl.mono k1, h1.bind fun lo S2 L2 H2 lo' k2 rs2 rv2 h2 => ⟨L2, S2, σ, rs2, (rl.mono k1).mono k2, h2.bind fun hi S3 L3 H3 hi' k3 rs3 rv3 h3 => by
    obtain rfl : lo = lo' := rv2
    obtain rfl : hi = hi' := rv3
    have rv := RV.mono (k2.trans k3) _ _ rv1
    cases rv <;> try exact h3.elim
    · rename_i k ad hl
      dsimp only at h3
      cases hs : S3[k]? with
      | none => rw [hs] at h3; exact h3.elim
      | some ob =>
        rw [hs] at h3
        cases ob with
        | ins C fs => exact h3.elim
        | lst vs =>
          obtain ⟨xs, z1, z2⟩ := rs3.lst hl hs
          exact .inl ⟨_, xs, rfl, SqL.of z1, fun p hp => PR.push rs3 (cut_rv z2 lo hi) h3 hp⟩
    · rename_i vs xs ad ht hr
      refine .inr ⟨_, xs, rfl, ht, fun hw => ?_, fun hw p hp => PR.tup rs3 (cut_rv hr lo hi) h3 hp⟩
      have e : cutA vs lo hi = vs := by
        unfold cutA
        rw [hr.len, hw.1, hw.2, List.drop_zero, Nat.sub_zero, ← hr.len, List.take_length]
      dsimp only at h3
      rw [e] at h3
      exact h3.now rs3 (.tup ht hr)
    · rename_i vs xs ad ht hr
      exact .inl ⟨_, xs, rfl, ht.seq, fun p hp => PR.push rs3 (cut_rv hr lo hi) h3 hp⟩⟩⟩⟩
end

/-! ### types -/
inductive Ty where
  | non | bool | int | str | tup | lst
def Ty.name : Ty → String
  | .non => "NoneType" | .bool => "bool" | .int => "int" | .str => "str" | .tup => "tuple" | .lst => "list"
def tyOf : Val → Sto → Option Ty
  | .non, _ => some .non
  | .bl _, _ => some .bool
  | .int _, _ => some .int
  | .str _, _ => some .str
  | .tup _, _ => some .tup
  | .sc _, _ => some .lst
  | .loc l, S => match S[l]? with
    | some (.lst _) => some .lst
    | _ => none
def isTy : Ty → Ty → Bool
  | .non, .non => true | .bool, .bool => true | .bool, .int => true | .int, .int => true | .str, .str => true | .tup, .tup => true | .lst, .lst => true
  | _, _ => false
/-- types that isinstance is asked of -/
def okTy : Ty → Bool
  | .non => false
  | _ => true
theorem isTy_kit : ∀ t T : Ty, okTy T = true → kitB t.name T.name = some (isTy t T) := by
  intro t T h
  cases T with
  | non => cases h
  | bool => cases t <;> decide +kernel
  | int => cases t <;> decide +kernel
  | str => cases t <;> decide +kernel
  | tup => cases t <;> decide +kernel
  | lst => cases t <;> decide +kernel
theorem ty_rv {K : PySem.W.Frag} {L : List Addr} {S : Sto} {H : Hp} {v : Val} {x : V} {t : Ty} (rs : RS K L S H) (r : RV K L H v x) (h : tyOf v S = some t) : TyX K H x (.type t.name) := by
  cases r with
  | non => cases h; exact .base .non
  | bl _ => cases h; exact .base (.bl _)
  | int _ => cases h; exact .base (.int _)
  | str _ => cases h; exact .base (.str _)
  | tup ht _ =>
    cases h
    rcases ht with (e | ⟨o, e⟩) | ⟨o, its, n, e, c, _⟩
    · exact .base (.tup e)
    · exact .fTuple e
    · exact .kTuple e c
  | sc ht _ =>
    cases h
    rcases ht with ⟨o, e⟩ | ⟨o, its, n, e, c, _⟩
    · exact .base (.frz e)
    · exact .kList e c
  | loc hl =>
    rename_i l ad
    unfold tyOf at h
    dsimp only at h
    cases hs : S[l]? with
    | none => rw [hs] at h; cases h
    | some ob =>
      rw [hs] at h
      cases ob with
      | ins C fs => cases h
      | lst vs =>
        cases h
        obtain ⟨xs, h1, _⟩ := rs.lst hl hs
        exact .base (.lst h1)
def gIs (T : Ty) : G1 := fun v S => match tyOf v S with
  | some t => .ok (.bl (isTy t T)) S
  | none => .fail
def gIsAny (Ts : List Ty) : G1 := fun v S => match tyOf v S with
  | some t => .ok (.bl (Ts.any (isTy t))) S
  | none => .fail
section
variable {X : Cx} {W : WX} {e a b c : Expr} {m n o : EM} {l l' : LM} {pos : Pos}
theorem me_isi (T : Ty) {p p2 : Pos} (hT : okTy T = true) (hl : Gl X "isinstance") (hm : X.mg "isinstance" = none) (hl2 : Gl X (Str.ofString T.name)) (hm2 : X.mg (Str.ofString T.name) = none) (hv2 : bootBuiltins (Str.ofString T.name) = some (.type T.name)) (ha : ME X W a m)
    (hn2 : Str.ofString T.name ≠ "__name__" := by decide) (hdb2 : ((Str.ofString T.name) == ("__debug__" : Str)) = false := by decide)
    (hs : starEach [a, .Name (Str.ofString T.name) p2] X.env = (false, eval a X.env) :: starEach [.Name (Str.ofString T.name) p2] X.env := by rfl) (hs2 : starEach [.Name (Str.ofString T.name) p2] X.env = (false, eval (.Name (Str.ofString T.name) p2) X.env) :: starEach [] X.env := by rfl)
    (hpl : (backTo pos (starEach [.Name (Str.ofString T.name) p2] X.env)).any (·.1) = false := by rfl) :
    ME X W (.Call (.Name "isinstance" p) [a, .Name (Str.ofString T.name) p2] [] pos) (eUn (gIs T) m) :=
  me_of (pe_callB call_isi hl hm (by rfl) (pa_cons ha (pa_cons (pe_bltn (v := .ty T.name) hl2 hm2 hv2 rfl hn2 hdb2) pa_nil hs2) hs) (by decide) (by decide) hs hpl) fun L S σ τ H Q rs rl q => ⟨L, S, σ, rs, rl, q.bind fun v S1 L1 H1 x k1 rs1 rv1 h1 => by
    unfold gIs at h1
    cases ht : tyOf v S1 with
    | none => rw [ht] at h1; exact h1.elim
    | some t =>
      rw [ht] at h1
      exact ⟨x, .ty T.name, .type t.name, .type T.name, isTy t T, rfl, .ty _, ty_rv rs1 rv1 ht, kit_ty (isTy_kit t T hT), h1.now rs1 (.bl _)⟩⟩
/-- isinstance(a, (T, U)) -/
theorem me_isi2 (T U : Ty) {p p2 p3 p4 : Pos} {k4 : Nat} (hT : okTy T = true) (hU : okTy U = true) (hl : Gl X "isinstance") (hm : X.mg "isinstance" = none) (hl2 : Gl X (Str.ofString T.name)) (hm2 : X.mg (Str.ofString T.name) = none) (hv2 : bootBuiltins (Str.ofString T.name) = some (.type T.name))
    (hl3 : Gl X (Str.ofString U.name)) (hm3 : X.mg (Str.ofString U.name) = none) (hv3 : bootBuiltins (Str.ofString U.name) = some (.type U.name)) (ha : ME X W a m)
    (hn2 : Str.ofString T.name ≠ "__name__" := by decide) (hdb2 : ((Str.ofString T.name) == ("__debug__" : Str)) = false := by decide) (hn3 : Str.ofString U.name ≠ "__name__" := by decide) (hdb3 : ((Str.ofString U.name) == ("__debug__" : Str)) = false := by decide)
    (hs4 : starEach [.Name (Str.ofString T.name) p2, .Name (Str.ofString U.name) p3] X.env = (false, eval (.Name (Str.ofString T.name) p2) X.env) :: starEach [.Name (Str.ofString U.name) p3] X.env := by rfl) (hs5 : starEach [.Name (Str.ofString U.name) p3] X.env = (false, eval (.Name (Str.ofString U.name) p3) X.env) :: starEach [] X.env := by rfl)
    (hs : starEach [a, .Tuple [.Name (Str.ofString T.name) p2, .Name (Str.ofString U.name) p3] k4 p4] X.env = (false, eval a X.env) :: starEach [.Tuple [.Name (Str.ofString T.name) p2, .Name (Str.ofString U.name) p3] k4 p4] X.env := by rfl)
    (hs2 : starEach [.Tuple [.Name (Str.ofString T.name) p2, .Name (Str.ofString U.name) p3] k4 p4] X.env = (false, eval (.Tuple [.Name (Str.ofString T.name) p2, .Name (Str.ofString U.name) p3] k4 p4) X.env) :: starEach [] X.env := by rfl)
    (hpl : (backTo pos (starEach [.Tuple [.Name (Str.ofString T.name) p2, .Name (Str.ofString U.name) p3] k4 p4] X.env)).any (·.1) = false := by rfl) :
    ME X W (.Call (.Name "isinstance" p) [a, .Tuple [.Name (Str.ofString T.name) p2, .Name (Str.ofString U.name) p3] k4 p4] [] pos) (eUn (gIsAny [T, U]) m) :=
  me_of (pe_callB call_isiT hl hm (by rfl) (pa_cons ha (pa_cons (pe_tup (pa_cons (pe_bltn (v := .ty T.name) hl2 hm2 hv2 rfl hn2 hdb2) (pa_cons (pe_bltn (v := .ty U.name) hl3 hm3 hv3 rfl hn3 hdb3) pa_nil hs5) hs4)) pa_nil hs2) hs) (by decide) (by decide) hs hpl)
    fun L S σ τ H Q rs rl q => ⟨L, S, σ, rs, rl, q.bind fun v S1 L1 H1 x k1 rs1 rv1 h1 => by
    unfold gIsAny at h1
    cases ht : tyOf v S1 with
    | none => rw [ht] at h1; exact h1.elim
    | some t =>
      rw [ht] at h1
      refine ⟨by rw [sizeLine_eq]; simp, fun tp htp => ?_⟩
      have k2 : Ex X.K L1 H1 L1 (upd H1 tp (.tup [.ty T.name, .ty U.name])) := Ex.new_ htp
      have e1 : PySem.W.kitOne X.K (.type t.name) (.type T.name) = some (isTy t T) := kit_ty (isTy_kit t T hT)
      have e2 : PySem.W.kitOne X.K (.type t.name) (.type U.name) = some (isTy t U) := kit_ty (isTy_kit t U hU)
      refine ⟨x, tp, [.ty T.name, .ty U.name], .type t.name, [.type T.name, .type U.name], isTy t T || isTy t U, rfl, upd_same, .cons (.ty _) (.cons (.ty _) .nil), ty_rv (rs1.new htp) (RV.mono k2 _ _ rv1) ht, ?_, ?_⟩
      · refine kitAny_cons e1 (fun h => ?_) (fun h => by rw [h]; rfl)
        rw [h]
        exact kitAny_cons e2 (fun h2 => by rw [h2]; exact kitAny_nil) (fun h2 => by rw [h2]; rfl)
      · have h2 : (.bl ([T, U].any (isTy t)) : Val) = .bl (isTy t T || isTy t U) := by simp
        dsimp only at h1
        rw [h2] at h1
        exact h1 L1 _ _ k2 (rs1.new htp) (.bl _)⟩
end

/-! ### == -/
mutual
def toD : Val → Option PyData
  | .non => some .none
  | .bl b => some (.bool b)
  | .int i => some (.int i)
  | .str s => some (.str s)
  | .tup vs => match toDs vs with
    | some ds => some (.tuple ds)
    | none => none
  | .loc _ => none
  | .sc _ => none
def toDs : List Val → Option (List PyData)
  | [] => some []
  | v :: vs => match toD v, toDs vs with
    | some d, some ds => some (d :: ds)
    | _, _ => none
end
mutual
theorem toD_dp {K : PySem.W.Frag} {L : List Addr} {H : Hp} : ∀ (v : Val) (x : V) (d : PyData), RV K L H v x → toD v = some d → Dp K H x d
  | .non, _, _, r, h => by cases r; cases h; exact .non
  | .bl b, _, _, r, h => by cases r; cases h; exact .bl b
  | .int i, _, _, r, h => by cases r; cases h; exact .int i
  | .str s, _, _, r, h => by cases r; cases h; exact .str s
  | .tup vs, _, _, r, h => by
    cases r with
    | tup ht hr =>
      unfold toD at h
      cases e : toDs vs with
      | none => rw [e] at h; cases h
      | some ds =>
        rw [e] at h
        cases h
        exact .tup ht (toDs_dp vs _ ds hr e)
  | .loc _, _, _, _, h => by cases h
  | .sc _, _, _, _, h => by cases h
theorem toDs_dp {K : PySem.W.Frag} {L : List Addr} {H : Hp} : ∀ (vs : List Val) (xs : List V) (ds : List PyData), RVs K L H vs xs → toDs vs = some ds → DpAll K H xs ds
  | [], _, _, r, h => by cases r; cases h; exact .nil
  | v :: vs, _, _, r, h => by
    cases r with
    | cons a b =>
      unfold toDs at h
      cases e1 : toD v with
      | none => rw [e1] at h; cases h
      | some d =>
        rw [e1] at h
        cases e2 : toDs vs with
        | none => rw [e2] at h; cases h
        | some ds =>
          rw [e2] at h
          cases h
          exact .cons (toD_dp v _ d a e1) (toDs_dp vs _ ds b e2)
end
def shapedB (d : PyData) : Bool := SeqAt.shaped d
/-- == of data -/
def eqB (v w : Val) : Option Bool := match v, w with
  | .int i, .int j => some (decide (i = j))
  | .bl i, .bl j => some (i == j)
  | .str i, .str j => some (i == j)
  | .non, .non => some true
  | _, _ => match toD v, toD w with
    | some d, some e => if SeqAt.shaped d = true ∧ SeqAt.shaped e = true then some (PyData.eqv d e) else none
    | _, _ => none
def gEq : G2 := fun v w S => match eqB v w with
  | some b => .ok (.bl b) S
  | none => .fail
def gNe : G2 := fun v w S => match eqB v w with
  | some b => .ok (.bl (!b)) S
  | none => .fail
theorem eqB_rd {K : PySem.W.Frag} {L : List Addr} {H : Hp} {v w : Val} {x y : V} {b : Bool} (rv : RV K L H v x) (rw' : RV K L H w y) (h : eqB v w = some b) :
    (scal x y = true ∧ decide (x = y) = b) ∨ ∃ d e, Dp K H x d ∧ Dp K H y e ∧ SeqAt.shaped d = true ∧ SeqAt.shaped e = true ∧ PyData.eqv d e = b := by
  have deep : (match toD v, toD w with
    | some d, some e => if SeqAt.shaped d = true ∧ SeqAt.shaped e = true then some (PyData.eqv d e) else none
    | _, _ => none) = some b → ∃ d e, Dp K H x d ∧ Dp K H y e ∧ SeqAt.shaped d = true ∧ SeqAt.shaped e = true ∧ PyData.eqv d e = b := fun q => by
    cases e1 : toD v with
    | none => rw [e1] at q; cases q
    | some d =>
      rw [e1] at q
      cases e2 : toD w with
      | none => rw [e2] at q; cases q
      | some e =>
        rw [e2] at q
        dsimp only at q
        split at q
        · rename_i hs
          cases q
          exact ⟨d, e, toD_dp _ _ _ rv e1, toD_dp _ _ _ rw' e2, hs.1, hs.2, rfl⟩
        · cases q
  unfold eqB at h
  split at h
  · cases rv; cases rw'; cases h
    exact .inl ⟨rfl, by simp⟩
  · cases rv; cases rw'; cases h
    exact .inl ⟨rfl, by rw [dec_bl]⟩
  · cases rv; cases rw'; cases h
    exact .inl ⟨rfl, by rw [dec_str]⟩
  · cases rv; cases rw'; cases h
    exact .inl ⟨rfl, rfl⟩
  · exact .inr (deep h)
section
variable {X : Cx} {W : WX} {e a b c : Expr} {m n o : EM} {l l' : LM} {pos : Pos}
theorem abs_eq {K : PySem.W.Frag} {mg : Str → Option Value} : Abs2 K mg (fun x y H Q => rEq x y H Q ∨ rEqD K x y H Q) gEq := by
  intro L S H v w x y Q E rs rv rw' q
  unfold gEq at q
  cases he : eqB v w with
  | none => rw [he] at q; exact q.elim
  | some b =>
    rw [he] at q
    have q' := q.now rs (.bl b)
    rcases eqB_rd rv rw' he with ⟨h1, h2⟩ | ⟨d, e, h1, h2, h3, h4, h5⟩
    · exact .inl ⟨h1, by rw [h2]; exact q'⟩
    · exact .inr ⟨d, e, h1, h2, h3, h4, by rw [h5]; exact q'⟩
theorem abs_ne {K : PySem.W.Frag} {mg : Str → Option Value} : Abs2 K mg (fun x y H Q => rNe x y H Q ∨ rNeD K x y H Q) gNe := by
  intro L S H v w x y Q E rs rv rw' q
  unfold gNe at q
  cases he : eqB v w with
  | none => rw [he] at q; exact q.elim
  | some b =>
    rw [he] at q
    have q' := q.now rs (.bl (!b))
    rcases eqB_rd rv rw' he with ⟨h1, h2⟩ | ⟨d, e, h1, h2, h3, h4, h5⟩
    · exact .inl ⟨h1, by rw [h2]; exact q'⟩
    · exact .inr ⟨d, e, h1, h2, h3, h4, by rw [h5]; exact q'⟩
theorem me_eq (hu : X.A.units + 64 < cLine) (ha : ME X W a m) (hb : ME X W b n) : ME X W (.Compare a [.Eq] [b] pos) (eBin gEq m n) := me_cmp (opr_or op_eq (op_eqD hu)) abs_eq ha hb (nomark _)
theorem me_ne (hu : X.A.units + 64 < cLine) (ha : ME X W a m) (hb : ME X W b n) : ME X W (.Compare a [.NotEq] [b] pos) (eBin gNe m n) := me_cmp (opr_or op_ne (op_neD hu)) abs_ne ha hb (nomark _)
theorem mt_eq (hu : X.A.units + 64 < cLine) (ha : ME X W a m) (hb : ME X W b n) : MT X W (.Compare a [.Eq] [b] pos) (tV (eBin gEq m n)) := mt_cmp (opr_or op_eq (op_eqD hu)) abs_eq ha hb (nomark _)
theorem mt_ne (hu : X.A.units + 64 < cLine) (ha : ME X W a m) (hb : ME X W b n) : MT X W (.Compare a [.NotEq] [b] pos) (tV (eBin gNe m n)) := mt_cmp (opr_or op_ne (op_neD hu)) abs_ne ha hb (nomark _)
/-! calls of builtins with values -/
def gLen : GN := fun vs S => match vs with
  | [.tup ws] => .ok (.int ws.length) S
  | [.sc ws] => .ok (.int ws.length) S
  | [.loc l] => match S[l]? with
    | some (.lst ws) => .ok (.int ws.length) S
    | _ => .fail
  | _ => .fail
theorem rvs_one {K : PySem.W.Frag} {L : List Addr} {H : Hp} {v : Val} {xs : List V} (r : RVs K L H [v] xs) : ∃ x, xs = [x] ∧ RV K L H v x := by
  cases r with
  | cons a b => cases b; exact ⟨_, rfl, a⟩
theorem abs_len {K : PySem.W.Frag} {mg : Str → Option Value} : AbsN K mg (fun xs H Q => ∃ p ys, xs = [.ref p] ∧ (SqL K H p ys ∨ SqT K H p ys) ∧ Q (.int ys.length) H) gLen := by
  intro L S H vs xs Q E rs rv q
  unfold gLen at q
  split at q
  · obtain ⟨x, rfl, r⟩ := rvs_one rv
    cases r with
    | tup ht hr => exact ⟨_, _, rfl, .inr ht, by rw [← hr.len]; exact q.now rs (.int _)⟩
  · obtain ⟨x, rfl, r⟩ := rvs_one rv
    cases r with
    | sc ht hr => exact ⟨_, _, rfl, .inl ht.seq, by rw [← hr.len]; exact q.now rs (.int _)⟩
  · obtain ⟨x, rfl, r⟩ := rvs_one rv
    rename_i k
    cases hs : S[k]? with
    | none => rw [hs] at q; exact q.elim
    | some ob =>
      rw [hs] at q
      cases ob with
      | ins C fs => exact q.elim
      | lst ws =>
        cases r with
        | loc hl =>
          obtain ⟨ys, h1, h2⟩ := rs.lst hl hs
          exact ⟨_, _, rfl, .inl (SqL.of h1), by rw [← h2.len]; exact q.now rs (.int _)⟩
  · exact q.elim
theorem me_len {p : Pos} {ms : AM} (hl : Gl X "len") (hm : X.mg "len" = none) (ha : MA X W [e] ms) (he : starEach [e] X.env = (false, eval e X.env) :: starEach [] X.env := by rfl) : ME X W (.Call (.Name "len" p) [e] [] pos) (eApp gLen ms) :=
  me_callB call_len_seq abs_len hl hm PySem.boot_len ha (by decide) (by decide) he
def gInt : GN := fun vs S => match vs with
  | [.int i] => .ok (.int i) S
  | _ => .fail
theorem me_toInt {p : Pos} {ms : AM} (hl : Gl X "int") (hm : X.mg "int" = none) (ha : MA X W [e] ms) (he : starEach [e] X.env = (false, eval e X.env) :: starEach [] X.env := by rfl) : ME X W (.Call (.Name "int" p) [e] [] pos) (eApp gInt ms) :=
  me_callTy call_int1 (fun L S H vs xs Q E rs rv q => by
    unfold gInt at q
    split at q
    · obtain ⟨x, rfl, r⟩ := rvs_one rv
      cases r
      exact .inl ⟨_, rfl, q.now rs (.int _)⟩
    · exact q.elim) hl hm (by rfl) ha (by decide) (by decide) he
def gTuple : GN := fun vs S => match vs with
  | [.tup ws] => .ok (.tup ws) S
  | [.sc ws] => .ok (.tup ws) S
  | [.loc l] => match S[l]? with
    | some (.lst ws) => .ok (.tup ws) S
    | _ => .fail
  | _ => .fail
theorem me_tuple {p : Pos} {ms : AM} (hl : Gl X "tuple") (hm : X.mg "tuple" = none) (ha : MA X W [e] ms) (he : starEach [e] X.env = (false, eval e X.env) :: starEach [] X.env := by rfl) : ME X W (.Call (.Name "tuple" p) [e] [] pos) (eApp gTuple ms) :=
  me_callTy call_tuple_of (fun L S H vs xs Q E rs rv q => by
    unfold gTuple at q
    split at q
    · obtain ⟨x, rfl, r⟩ := rvs_one rv
      cases r with
      | tup ht hr => exact ⟨_, _, rfl, .inr ⟨ht, q.now rs (.tup ht hr)⟩⟩
    · obtain ⟨x, rfl, r⟩ := rvs_one rv
      cases r with
      | sc ht hr => exact ⟨_, _, rfl, .inl ⟨ht.seq, fun p hp => PR.tup rs hr q hp⟩⟩
    · obtain ⟨x, rfl, r⟩ := rvs_one rv
      rename_i k
      cases hs : S[k]? with
      | none => rw [hs] at q; exact q.elim
      | some ob =>
        rw [hs] at q
        cases ob with
        | ins C fs => exact q.elim
        | lst ws =>
          cases r with
          | loc hl =>
            obtain ⟨ys, h1, h2⟩ := rs.lst hl hs
            exact ⟨_, _, rfl, .inl ⟨SqL.of h1, fun p hp => PR.tup rs h2 q hp⟩⟩
    · exact q.elim) hl hm (by rfl) ha (by decide) (by decide) he
/-! methods of lists -/
def eAppend (m n : EM) : EM := fun σ S => (m σ S).bind fun v S1 => match v with
  | .loc l => match S1[l]? with
    | some (.lst _) => (n σ S1).bind fun w S2 => match S2[l]? with
      | some (.lst vs) => if vs.length < sizeLine then .ok .non (S2.set l (.lst (vs ++ [w]))) else .fail
      | _ => .fail
    | _ => .fail
  | _ => .fail
/-- a list of the store is written -/
theorem PR.put {K : PySem.W.Frag} {mg : Str → Option Value} {α β : Type} {rel : List Addr → Hp → α → β → Prop} {L : List Addr} {S : Sto} {H : Hp} {Q : β → Hp → Prop} {E : XK} {l : Nat} {p : Addr} {vs : List Val} {xs : List V} {v : α} {x : β} (q : PR K mg rel L H Q E (.ok v (S.set l (.lst vs)))) (rs : RS K L S H)
    (hl : L[l]? = some p) (r : RVs K L H vs xs) (h : ∀ H', Ex K L H L H' → rel L H' v x) : Q x (upd H p (.lst xs)) :=
  q L _ x (Ex.put_ rs hl) (rs.put hl ⟨xs, upd_same, RVs.mono (Ex.put_ rs hl) _ _ r⟩) (h _ (Ex.put_ rs hl))
theorem me_append {apos : Pos} (ha : ME X W a m) (hb : ME X W b n) (hbase : attributeBase a "append" X.env (eval a X.env) = eval a X.env := by rfl)
    (hfew : ((backTo pos (starEach [b] X.env)).all (fun x => !x.1) && (backToKw pos (keywordEach [] X.env)).all (fun x => x.1.isSome) && decide ([b].length + ([] : List Keyword).length + (if ([] : List Keyword).isEmpty then 0 else 1) < 30)) = true := by rfl)
    (hline : (apos.endLine == pos.line) = true := by rfl) (hs : starEach [b] X.env = (false, eval b X.env) :: starEach [] X.env := by rfl) (hplain : (backTo pos (starEach [] X.env)).any (·.1) = false := by rfl) :
    ME X W (.Call (.Attribute a "append" apos) [b] [] pos) (eAppend m n) :=
  me_of (pe_bm PySem.F.plainAttrs_list PySem.F.slot_list_append PySem.F.type_list_append mt_append ha (pa_cons hb pa_nil hs) hbase hfew hline hs hplain) fun L S σ τ H Q rs rl q => ⟨L, S, σ, rs, rl, q.bind fun v S1 L1 H1 x k1 rs1 rv1 h1 => by
    cases rv1 <;> try exact h1.elim
    rename_i l ad hl
    dsimp only at h1
    cases hs1 : S1[l]? with
    | none => rw [hs1] at h1; exact h1.elim
    | some ob =>
      rw [hs1] at h1
      cases ob with
      | ins C fs => exact h1.elim
      | lst us =>
        obtain ⟨xs1, y1, y2⟩ := rs1.lst hl hs1
        refine ⟨.inl ⟨rfl, xs1, SqL.of y1⟩, L1, S1, σ, rs1, rl.mono k1, PR.bind h1 fun w S2 L2 H2 y k2 rs2 rv2 h2 => ?_⟩
        have hl2 := pre_get k2.pre hl
        cases hs2 : S2[l]? with
        | none => rw [hs2] at h2; exact h2.elim
        | some ob =>
          rw [hs2] at h2
          cases ob with
          | ins C fs => exact h2.elim
          | lst vs =>
            dsimp only at h2
            split at h2
            · rename_i hz
              obtain ⟨xs, z1, z2⟩ := rs2.lst hl2 hs2
              exact ⟨ad, xs, y, rfl, rfl, z1, by rw [← z2.len]; exact hz, PR.put h2 rs2 hl2 (z2.app (.one rv2)) fun _ _ => .non⟩
            · exact h2.elim⟩
/-! o[i] = e -/
def sSetIx (e o i : EM) : SM := fun σ S => ofR (e σ S) σ fun v S1 => ofR (o σ S1) σ fun u S2 => ofR (i σ S2) σ fun w S3 => match u, w with
  | .loc l, .int k => match S3[l]? with
    | some (.lst vs) => match ixN vs.length k with
      | some j => some (.next σ, S3.set l (.lst (vs.set j v)))
      | none => none
    | _ => none
  | _, _ => none
theorem ms_setIx {tp : Pos} (he : ME X W e m) (ho : ME X W a n) (hi : ME X W b o) (hs : swapsWithSole [.Subscript a b tp] e pos.line X.env = pure false := by rfl) (hw : swappedStores [.Subscript a b tp] e X.env = pure none := by rfl) (h1 : (assignEach [.Subscript a b tp] X.env).map (·.2) = [assign (.Subscript a b tp) X.env] := by rfl)
    (ha : ∀ v, assign (.Subscript a b tp) X.env v = (do
      let ov ← holding [v] (eval a X.env)
      let iv ← holding [v, ov] (eval b X.env)
      standAt tp
      holding [v, ov, iv] (setItem ov iv v)
      release [v, ov, iv] []) := by intro _; rfl) : MS X W (.Assign [.Subscript a b tp] e pos) (sSetIx m n o) :=
  ms_of (ps_asg he (pg_sub ho hi set_list ha) hs hw h1) fun L S σ τ H D rs rl q => ⟨L, S, σ, rs, rl, q.ofR rl fun v S1 L1 H1 x k1 rs1 rv1 q1 => ⟨L1, S1, σ, rs1, rl.mono k1, q1.ofR (rl.mono k1) fun u S2 L2 H2 y k2 rs2 rv2 q2 => ⟨L2, S2, σ, rs2, (rl.mono k1).mono k2, q2.ofR ((rl.mono k1).mono k2) fun w S3 L3 H3 z k3 rs3 rv3 q3 => by
    have ru := RV.mono k3 _ _ rv2
    have re := RV.mono (k2.trans k3) _ _ rv1
    cases ru <;> try exact q3.elim
    cases rv3 <;> try exact q3.elim
    rename_i l ad hl k
    dsimp only at q3
    cases hs3 : S3[l]? with
    | none => rw [hs3] at q3; exact q3.elim
    | some ob =>
      rw [hs3] at q3
      cases ob with
      | ins C fs => exact q3.elim
      | lst vs =>
        obtain ⟨xs, z1, z2⟩ := rs3.lst hl hs3
        dsimp only at q3
        cases hj : ixN vs.length k with
        | none => rw [hj] at q3; exact q3.elim
        | some j =>
          rw [hj] at q3
          refine ⟨ad, xs, k, j, rfl, rfl, z1, by rw [← z2.len]; exact hj, ?_⟩
          exact q3 L3 _ τ (Ex.put_ rs3 hl) (rs3.put hl ⟨_, upd_same, RVs.mono (Ex.put_ rs3 hl) _ _ (z2.set j re)⟩) ((rl.mono (k1.trans (k2.trans k3))).mono (Ex.put_ rs3 hl))⟩⟩⟩
end
end AR
set_option linter.all false
set_option maxRecDepth 100000
set_option maxHeartbeats 4000000
/-! Chains; the law's end. -/
namespace AR
open PySem PySem.Spec PyProof.Rows L2
section
variable {X : Cx} {W : WX} {e a b c : Expr} {m n o : EM} {pos : Pos}
theorem me_chain_ {op op' : CmpOp} {r r' : R2} {g h : G2} (ho : OpR X (compareOp op) r) (ho' : OpR X (compareOp op') r') (hg : Abs2 X.K X.mg r g) (hh : Abs2 X.K X.mg r' h) (ha : ME X W a m) (hb : ME X W b n) (hc : ME X W c o)
    (hm : lastMarks [op, op'] [b, c] = false) : ME X W (.Compare a [op, op'] [b, c] pos) (eChain g h m n o) :=
  me_of (pe_chain ho ho' ha hb hc hm) fun L S σ τ H Q rs rl q => ⟨L, S, σ, rs, rl, q.bind fun v S1 L1 H1 x k1 rs1 rv1 h1 => ⟨L1, S1, σ, rs1, rl.mono k1, h1.bind fun w S2 L2 H2 y k2 rs2 rv2 h2 =>
    hg _ _ _ _ _ _ _ _ (fun c d H' => W c d τ H') rs2 (RV.mono k2 _ _ rv1) rv2 (h2.bind fun z S3 L3 H3 z3 k3 rs3 rv3 h3 => by
      cases rv3 <;> try exact h3.elim
      rename_i t
      refine ⟨t, rfl, ?_⟩
      cases t with
      | false => exact h3.now rs3 (.bl _)
      | true => exact ⟨L3, S3, σ, rs3, ((rl.mono k1).mono k2).mono k3, h3.bind fun u S4 L4 H4 u4 k4 rs4 rv4 h4 => hh _ _ _ _ _ _ _ _ _ rs4 (RV.mono (k3.trans k4) _ _ rv2) rv4 h4⟩)⟩⟩
theorem mt_chain_ {op op' : CmpOp} {r r' : R2} {g h : G2} (ho : OpR X (compareOp op) r) (ho' : OpR X (compareOp op') r') (hg : Abs2 X.K X.mg r g) (hh : Abs2 X.K X.mg r' h) (ha : ME X W a m) (hb : ME X W b n) (hc : ME X W c o)
    (hm : lastMarks [op, op'] [b, c] = false) : MT X W (.Compare a [op, op'] [b, c] pos) (tV (eChain g h m n o)) :=
  mt_of (pt_chain ho ho' ha hb hc hm) fun L S σ τ H Q rs rl q => by
    have q' : PB X.K X.mg L H Q (fun c d H' => W c d τ H') ((m σ S).bind fun v S1 => (n σ S1).bind fun w S2 => (g v w S2).bind fun r S3 => match r with
        | .bl true => (o σ S3).bind fun z S4 => (h w z S4).bind fun v S1 => match v with | .bl b => .ok b S1 | _ => .fail
        | .bl false => .ok false S3
        | _ => .fail) := by
      unfold tV eChain at q
      revert q
      cases m σ S with
      | exc c f v S => exact id
      | fail => exact id
      | ok v S1 =>
        simp only [Res.bind]
        cases n σ S1 with
        | exc c f v S => exact id
        | fail => exact id
        | ok w S2 =>
          simp only [Res.bind]
          cases g v w S2 with
          | exc c f v S => exact id
          | fail => exact id
          | ok r S3 =>
            simp only [Res.bind]
            cases r with
            | bl t =>
              cases t with
              | false => exact id
              | true =>
                dsimp only
                cases o σ S3 with
                | exc c f v S => exact id
                | fail => exact id
                | ok z S4 => exact id
            | non => exact id
            | int _ => exact id
            | str _ => exact id
            | tup _ => exact id
            | loc _ => exact id
            | sc _ => exact id
    exact ⟨L, S, σ, rs, rl, q'.bind fun v S1 L1 H1 x k1 rs1 rv1 h1 => ⟨L1, S1, σ, rs1, rl.mono k1, h1.bind fun w S2 L2 H2 y k2 rs2 rv2 h2 =>
    hg _ _ _ _ _ _ _ _ (fun c d H' => W c d τ H') rs2 (RV.mono k2 _ _ rv1) rv2 (h2.bind fun z S3 L3 H3 z3 k3 rs3 rv3 h3 => by
      cases rv3 <;> try exact h3.elim
      rename_i t
      refine ⟨t, rfl, ?_⟩
      cases t with
      | false => exact ⟨false, rfl, h3.now rs3 rfl⟩
      | true => exact ⟨L3, S3, σ, rs3, ((rl.mono k1).mono k2).mono k3, h3.bind fun u S4 L4 H4 u4 k4 rs4 rv4 h4 => hh _ _ _ _ _ _ _ _ (fun c d H' => W c d τ H') rs4 (RV.mono (k3.trans k4) _ _ rv2) rv4 (h4.bind fun z5 S5 L5 H5 x5 k5 rs5 rv5 h5 => by
        cases rv5 <;> try exact h5.elim
        exact ⟨_, rfl, h5.now rs5 rfl⟩)⟩)⟩⟩
theorem me_chain (ha : ME X W a m) (hb : ME X W b n) (hc : ME X W c o) (hm : lastMarks [.LtE, .LtE] [b, c] = false := by with_unfolding_all rfl) : ME X W (.Compare a [.LtE, .LtE] [b, c] pos) (eChain gLe gLe m n o) :=
  me_chain_ op_le op_le (abs_gI0 fun _ _ _ _ _ => .bl _) (abs_gI0 fun _ _ _ _ _ => .bl _) ha hb hc hm
theorem mt_chain (ha : ME X W a m) (hb : ME X W b n) (hc : ME X W c o) (hm : lastMarks [.LtE, .LtE] [b, c] = false := by with_unfolding_all rfl) : MT X W (.Compare a [.LtE, .LtE] [b, c] pos) (tV (eChain gLe gLe m n o)) :=
  mt_chain_ op_le op_le (abs_gI0 fun _ _ _ _ _ => .bl _) (abs_gI0 fun _ _ _ _ _ => .bl _) ha hb hc hm
end

/-! ### the law's end -/
def spLaw (K : PySem.W.Frag) : Sp := fun vs H Q _ => ∃ (a : Addr) (ns : List Int), vs = [.ref a] ∧ SqL K H a (ns.map V.int) ∧ Only H ∧ ns.length ≤ 63 ∧ ∀ H', Q (.bl true) H'
theorem rvs_ints {K : PySem.W.Frag} {L : List Addr} {H : Hp} : ∀ ns : List Int, RVs K L H (ns.map Val.int) (ns.map V.int)
  | [] => .nil
  | n :: ns => .cons (.int n) (rvs_ints ns)
theorem law_end {P : Program} {w : World} {K : PySem.W.Frag} {mg : Str → Option Value} {base : Heap} {f : Addr} {fd : FuncData} {ps : List Str} {k : Nat} {m : FM} (F : FnOk P w K mg base (L2.CX P w) k f fd ps (spF K mg 1 m))
    (h : ∀ ns : List Int, ns.length ≤ 63 → ∃ S, m [.sc (ns.map .int)] [] = .ok (.bl true) S) : FnOk P w K mg base (L2.CX P w) k f fd ps (spLaw K) :=
  F.imp fun vs H Q E ⟨a, ns, e, hS, hO, hl, q⟩ => by
    subst e
    obtain ⟨S, hm⟩ := h ns hl
    have fz : FzL K H a (ns.map V.int) := by
      rcases hS with (h1 | ⟨o, h1⟩) | h1
      · rcases hO a with z | ⟨o, xs, z⟩
        · rw [z] at h1; cases h1
        · rw [z] at h1; cases h1
      · exact .inl ⟨o, h1⟩
      · exact .inr h1
    refine ⟨rfl, [], [], [.sc (ns.map .int)], ⟨rfl, List.nodup_nil, fun i a o h1 _ => by simp at h1⟩, .cons (.sc fz (rvs_ints ns)) .nil, ?_⟩
    rw [hm]
    intro L' H' x _ _ r
    cases r
    exact q H'
theorem cx_out {P : Program} {w : World} {H : Hp} {s : Shared} {e : Value} {s' : Shared} (h : L2.CX P w [] H s (fun _ _ _ => False) e s') : False := by
  obtain ⟨_, _, _, _, _, _, _, _, _, _, _, _, z⟩ := h
  exact z
end AR
set_option linter.all false
set_option maxRecDepth 100000
set_option maxHeartbeats 4000000
/-! Reckoning with the functions. -/
namespace AR
open PySem PySem.Spec PyProof.Rows L2
section
variable {α β : Type} {σ : Slots} {S : Sto} {m n : EM} {ms : AM} {t u : TM} {l : LM} {p q : SM} {g h : G2} {g1 : G1} {gn : GN} {gl : GL} {i : Nat} {v w : Val} {k : α → Sto → Res β} {a : α}
@[simp] theorem bind_ok : (Res.ok a S).bind k = k a S := (rfl)
@[simp] theorem bind_exc {c f : Str} : (Res.exc c f v S : Res α).bind k = .exc c f v S := (rfl)
@[simp] theorem bind_fail : (Res.fail : Res α).bind k = .fail := (rfl)
@[simp] theorem nx_ok : (Res.ok a S).nx k = k a S := (rfl)
@[simp] theorem nx_fail : (Res.fail : Res α).nx k = .fail := (rfl)
@[simp] theorem nx_exc {c f : Str} : (Res.exc c f v S : Res α).nx k = .fail := (rfl)
@[simp] theorem ofR_ok {k : α → Sto → Option (Out × Sto)} : ofR (Res.ok a S) σ k = k a S := (rfl)
@[simp] theorem ofR_exc {c f : Str} {k : α → Sto → Option (Out × Sto)} : ofR (Res.exc c f v S : Res α) σ k = some (.exc c f v σ, S) := (rfl)
@[simp] theorem ofR_fail {k : α → Sto → Option (Out × Sto)} : ofR (Res.fail : Res α) σ k = none := (rfl)
@[simp] theorem eVar_s : eVar i σ S = match σ[i]? with | some (some v) => .ok v S | _ => .fail := (rfl)
@[simp] theorem eC_s : eC v σ S = .ok v S := (rfl)
@[simp] theorem eBin_s : eBin g m n σ S = (m σ S).bind fun v S1 => (n σ S1).bind fun w S2 => g v w S2 := (rfl)
@[simp] theorem eUn_s : eUn g1 m σ S = (m σ S).bind fun v S1 => g1 v S1 := (rfl)
@[simp] theorem eApp_s : eApp gn ms σ S = (ms σ S).bind fun v S1 => gn v S1 := (rfl)
@[simp] theorem aNil_s : aNil σ S = .ok [] S := (rfl)
@[simp] theorem aCons_s : aCons m ms σ S = (m σ S).bind fun v S1 => (ms σ S1).bind fun vs S2 => .ok (v :: vs) S2 := (rfl)
@[simp] theorem eAnd_s : eAnd m n σ S = (m σ S).bind fun v S1 => match v with | .bl true => n σ S1 | .bl false => .ok (.bl false) S1 | _ => .fail := (rfl)
@[simp] theorem eOr_s : eOr m n σ S = (m σ S).bind fun v S1 => match v with | .bl true => .ok (.bl true) S1 | .bl false => n σ S1 | _ => .fail := (rfl)
@[simp] theorem gNot_s {b : Bool} : gNot (.bl b) S = .ok (.bl (!b)) S := (rfl)
@[simp] theorem tV_s : tV m σ S = (m σ S).bind fun v S1 => match v with | .bl b => .ok b S1 | _ => .fail := (rfl)
@[simp] theorem tNt_s : tNt t σ S = (t σ S).bind fun b S1 => .ok (!b) S1 := (rfl)
@[simp] theorem tAn_s : tAn t u σ S = (t σ S).bind fun b S1 => if b = true then u σ S1 else .ok false S1 := (rfl)
@[simp] theorem tOrr_s : tOrr t u σ S = (t σ S).bind fun b S1 => if b = true then .ok true S1 else u σ S1 := (rfl)
@[simp] theorem tYesM_s : tYesM σ S = .ok true S := (rfl)
@[simp] theorem eIf_s : eIf t m n σ S = (t σ S).bind fun b S1 => if b = true then m σ S1 else n σ S1 := (rfl)
@[simp] theorem eTup_s : eTup ms σ S = (ms σ S).bind fun vs S1 => if vs.length ≤ sizeLine then .ok (.tup vs) S1 else .fail := (rfl)
@[simp] theorem lDisp_s : lDisp ms σ S = (ms σ S).bind fun vs S1 => if vs.length ≤ sizeLine then .ok vs S1 else .fail := (rfl)
@[simp] theorem eOfL_s : eOfL l σ S = (l σ S).bind fun vs S1 => .ok (.loc S1.length) (S1 ++ [.lst vs]) := (rfl)
@[simp] theorem eAppL_s : eAppL gl l σ S = (l σ S).bind fun vs S1 => gl vs S1 := (rfl)
@[simp] theorem gTupL_s {vs : List Val} : gTupL vs S = .ok (.tup vs) S := (rfl)
@[simp] theorem gLenL_s {vs : List Val} : gLenL vs S = .ok (.int vs.length) S := (rfl)
@[simp] theorem eCall_s {np : Nat} {f : FM} : eCall np f ms σ S = (ms σ S).bind fun as S1 => if as.length = np then f as S1 else .fail := (rfl)
@[simp] theorem sNext_s : sNext σ S = some (.next σ, S) := (rfl)
@[simp] theorem sBrk_s : sBrk σ S = some (.brk σ, S) := (rfl)
@[simp] theorem sCont_s : sCont σ S = some (.cont σ, S) := (rfl)
@[simp] theorem sSeq_s : sSeq p q σ S = match p σ S with | some (.next σ1, S1) => q σ1 S1 | r => r := (rfl)
@[simp] theorem sSet_s : sSet i m σ S = ofR (m σ S) σ fun v S1 => some (.next (σ.set i (some v)), S1) := (rfl)
@[simp] theorem sExpr_s : sExpr m σ S = ofR (m σ S) σ fun _ S1 => some (.next σ, S1) := (rfl)
@[simp] theorem sRet_s : sRet m σ S = ofR (m σ S) σ fun v S1 => some (.ret v, S1) := (rfl)
@[simp] theorem sRetN_s : sRetN σ S = some (.ret .non, S) := (rfl)
@[simp] theorem sIf_s : sIf t p q σ S = ofR (t σ S) σ fun c S1 => if c = true then p σ S1 else q σ S1 := (rfl)
@[simp] theorem sFor_s {mi : IM} {ga : GA} : sFor mi ga p σ S = ofR (mi σ S) σ fun r S1 => forM r.2 ga p (r.1 + 1) 0 σ S1 := (rfl)
@[simp] theorem gaName_is : (gaName i).is = [i] := (rfl)
@[simp] theorem gaName_dec : (gaName i).dec v S = some [v] := (rfl)
@[simp] theorem setAll_nil {vs : List Val} : setAll [] vs σ = σ := by cases vs <;> rfl
@[simp] theorem setAll_cons {is : List Nat} {vs : List Val} : setAll (i :: is) (v :: vs) σ = setAll is vs (σ.set i (some v)) := (rfl)
@[simp] theorem iRg1_s : iRg1 m σ S = (m σ S).bind fun v S1 => match v with | .int j => if -(2 ^ 62) ≤ j ∧ j < 2 ^ 62 then .ok (j.toNat, itRng 0 j.toNat) S1 else .fail | _ => .fail := (rfl)
@[simp] theorem iSeq_s : iSeq m σ S = (m σ S).bind fun v S1 => match v with | .tup vs => .ok (vs.length, itVs vs) S1 | .sc vs => .ok (vs.length, itVs vs) S1 | .loc l => (match S1[l]? with | some (.lst ws) => .ok (ws.length, itLst l ws.length) S1 | _ => .fail) | _ => .fail := (rfl)
@[simp] theorem iL_s : iL l σ S = (l σ S).bind fun vs S1 => .ok (vs.length, itVs vs) S1 := (rfl)
variable {i j : Int}
@[simp] theorem gAdd_int : gAdd (.int i) (.int j) S = .ok (.int (i + j)) S := (rfl)
@[simp] theorem gSub_int : gSub (.int i) (.int j) S = .ok (.int (i - j)) S := (rfl)
@[simp] theorem gMulI_int : gMulI (.int i) (.int j) S = if cMul i j then .ok (.int (i * j)) S else .fail := (rfl)
@[simp] theorem gMod_int : gMod (.int i) (.int j) S = if cMod i j then .ok (.int (i % j)) S else .fail := (rfl)
@[simp] theorem gFdiv_int : gFdiv (.int i) (.int j) S = if cDiv i j then .ok (.int (i / j)) S else .fail := (rfl)
@[simp] theorem gPow_int : gPow (.int i) (.int j) S = if cPow i j then .ok (.int (i ^ j.toNat)) S else .fail := (rfl)
@[simp] theorem gLt_int : gLt (.int i) (.int j) S = .ok (.bl (decide (i < j))) S := (rfl)
@[simp] theorem gLe_int : gLe (.int i) (.int j) S = .ok (.bl (decide (i ≤ j))) S := (rfl)
@[simp] theorem gGt_int : gGt (.int i) (.int j) S = .ok (.bl (decide (j < i))) S := (rfl)
@[simp] theorem gGe_int : gGe (.int i) (.int j) S = .ok (.bl (decide (j ≤ i))) S := (rfl)
@[simp] theorem gEq_int : gEq (.int i) (.int j) S = .ok (.bl (decide (i = j))) S := (rfl)
@[simp] theorem gNe_int : gNe (.int i) (.int j) S = .ok (.bl (!decide (i = j))) S := (rfl)
@[simp] theorem gInt_int : gInt [.int i] S = .ok (.int i) S := (rfl)
@[simp] theorem gNeg_int : gNeg (.int i) S = .ok (.int (-i)) S := (rfl)
@[simp] theorem gIsN_s : gIsN v S = .ok (.bl (isNon v)) S := (rfl)
@[simp] theorem gNotN_s : gNotN v S = .ok (.bl (!isNon v)) S := (rfl)
theorem cMod_pos (h : 0 < j) : cMod i j = true := decide_eq_true h
theorem cMul_r (h1 : -(2 ^ 64) < j) (h2 : j < 2 ^ 64) : cMul i j = true := decide_eq_true (.inr ⟨h1, h2⟩)
theorem cMul_l (h1 : -(2 ^ 64) < i) (h2 : i < 2 ^ 64) : cMul i j = true := decide_eq_true (.inl ⟨h1, h2⟩)
end
@[simp] theorem le_line0 : 0 ≤ sizeLine := by rw [sizeLine_eq]; decide
@[simp] theorem lt_line0 : 0 < sizeLine := by rw [sizeLine_eq]; decide
@[simp] theorem le_line1 : 1 ≤ sizeLine := by rw [sizeLine_eq]; decide
@[simp] theorem lt_line1 : 1 < sizeLine := by rw [sizeLine_eq]; decide
@[simp] theorem le_line2 : 2 ≤ sizeLine := by rw [sizeLine_eq]; decide
@[simp] theorem lt_line2 : 2 < sizeLine := by rw [sizeLine_eq]; decide
@[simp] theorem le_line3 : 3 ≤ sizeLine := by rw [sizeLine_eq]; decide
@[simp] theorem lt_line3 : 3 < sizeLine := by rw [sizeLine_eq]; decide
@[simp] theorem le_line4 : 4 ≤ sizeLine := by rw [sizeLine_eq]; decide
@[simp] theorem lt_line4 : 4 < sizeLine := by rw [sizeLine_eq]; decide
@[simp] theorem le_line5 : 5 ≤ sizeLine := by rw [sizeLine_eq]; decide
@[simp] theorem lt_line5 : 5 < sizeLine := by rw [sizeLine_eq]; decide
@[simp] theorem le_line6 : 6 ≤ sizeLine := by rw [sizeLine_eq]; decide
@[simp] theorem lt_line6 : 6 < sizeLine := by rw [sizeLine_eq]; decide
@[simp] theorem le_line7 : 7 ≤ sizeLine := by rw [sizeLine_eq]; decide
@[simp] theorem lt_line7 : 7 < sizeLine := by rw [sizeLine_eq]; decide
@[simp] theorem le_line8 : 8 ≤ sizeLine := by rw [sizeLine_eq]; decide
@[simp] theorem lt_line8 : 8 < sizeLine := by rw [sizeLine_eq]; decide
/-- THE RULE of a for: P between the turns, Q behind it -/
theorem forM_rule {it : ItF} {g : GA} {body : SM} {n : Nat} (Q : Option (Out × Sto) → Prop) (item : Nat → Option Val) (P : Nat → Slots → Sto → Prop)
    (hit : ∀ i σ S, i ≤ n → P i σ S → it i S = some (item i)) (hend : item n = none) (hQ : ∀ σ S, P n σ S → Q (some (.next σ, S)))
    (hs : ∀ i σ S, i < n → P i σ S → ∃ v vs, item i = some v ∧ g.dec v S = some vs ∧ match body (setAll g.is vs σ) S with
      | some (.next σ', S') => P (i + 1) σ' S'
      | some (.cont σ', S') => P (i + 1) σ' S'
      | some (.brk σ', S') => Q (some (.next σ', S'))
      | r => Q r) {σ : Slots} {S : Sto} (h0 : P 0 σ S) : Q (forM it g body (n + 1) 0 σ S) := by
  have key : ∀ (k i : Nat) (σ : Slots) (S : Sto), i + k = n → P i σ S → Q (forM it g body (k + 1) i σ S) := by
    intro k
    induction k with
    | zero =>
      intro i σ S e h
      have e : i = n := by omega
      subst e
      unfold forM
      rw [hit _ σ S (Nat.le_refl _) h, hend]
      exact hQ σ S h
    | succ k ih =>
      intro i σ S e h
      obtain ⟨v, vs, h1, h2, h3⟩ := hs i σ S (by omega) h
      unfold forM
      rw [hit i σ S (by omega) h, h1]
      dsimp only
      rw [h2]
      dsimp only
      generalize hb : body (setAll g.is vs σ) S = r at h3
      match r, h3 with
      | some (.next σ', S'), h3 => exact ih (i + 1) σ' S' (by omega) h3
      | some (.cont σ', S'), h3 => exact ih (i + 1) σ' S' (by omega) h3
      | some (.brk σ', S'), h3 => exact h3
      | some (.ret v', S'), h3 => exact h3
      | some (.exc c f v' σ', S'), h3 => exact h3
      | none, h3 => exact h3
  exact key n 0 σ S (by omega) h0
theorem itRng_at {lo : Int} {n i : Nat} {S : Sto} : itRng lo n i S = some (if i < n then some (.int (lo + i)) else none) := by
  unfold itRng
  split <;> rfl
theorem itLst_at {l n i : Nat} {S : Sto} {ws : List Val} (h : S[l]? = some (.lst ws)) (hn : ws.length = n) : itLst l n i S = some ws[i]? := by
  unfold itLst
  rw [h]
  dsimp only
  rw [if_pos hn]
end AR
set_option linter.all false
set_option maxRecDepth 100000
set_option maxHeartbeats 4000000
namespace My
open PySem PySem.Spec PyProof.Rows L2 AR
def topS (i : Nat) : Stmt := PySem.Challenge.pw_alikeruns_k07_when_stopping_nodes_are_du.main.body.getD i (.Pass ⟨0, 0, 0, 0⟩)
structure BT (mg : Str → Option Value) : Prop where
  z_Exception : mg "Exception" = none
  z_bool : mg "bool" = none
  z_int : mg "int" = none
  z_isinstance : mg "isinstance" = none
  z_len : mg "len" = none
  z_range : mg "range" = none
  z_str : mg "str" = none
  z_tuple : mg "tuple" = none
  c_MOST_NODES : ∃ t, mg "MOST_NODES" = some (.int (4) t)
section
variable {P : Program} {w : World} {K : PySem.W.Frag} {mg : Str → Option Value} {base : Heap}
abbrev s__law_named : Stmt := topS 19
abbrev N__law_named : List Str := ["mask", "nodes", "made", "left", "k"]
theorem sc__law_named : FnScope N__law_named ["mask", "nodes"] (defScope s__law_named) := ⟨rfl, rfl, rfl, by decide +kernel, rfl, by decide +kernel, by decide +kernel⟩
def lp__law_named_1 : SM :=
  (sSeq (sIf (tV (eBin gEq (eBin gMod (eApp gInt (aCons (eVar 3) aNil)) (eC (.int 2))) (eC (.int 1)))) (sExpr (eAppend (eVar 2) (eVar 4))) sNext)
  (sSet 3 (eBin gFdiv (eVar 3) (eC (.int 2)))))
def b__law_named : SM :=
  (sSeq (sSet 2 (eOfL (lDisp aNil)))
  (sSeq (sSet 3 (eVar 0))
  (sSeq (sFor (iRg1 (eVar 1)) (gaName 4) lp__law_named_1)
  (sRet (eVar 2)))))
def m__law_named : FM := callD 5 b__law_named
theorem ok__law_named {f : Addr} {fd : FuncData} (F : Fun K "_law_named" "_law_named" s__law_named f fd)  (B : BT mg) : FnOk P w K mg base (L2.CX P w) 1 f fd ["mask", "nodes"] (spF K mg 2 m__law_named) :=
  fn_ok (k := 0) F sc__law_named rfl rfl fun cdv A outer s H E hr tk hpo => by
    have nd := sc__law_named.nd
    exact (mb_cons (ms_set 2 nd (me_ofL (ml_disp ma_nil)))
    (mb_cons (ms_set 3 nd (me_var 0))
    (mb_cons (ms_for hpo rfl (mi_rg1 (by rfl) (B.z_range) (me_var 1)) (mg_name 4 nd) (mb_cons (ms_if (mt_eq hr.units (me_mod (me_toInt (by rfl) (B.z_int) (ma_cons (me_var 3) ma_nil)) me_int) me_int) (mb_one (ms_expr (me_append (me_var 2) (me_var 4)))) mb_nil)
    (mb_one (ms_set 3 nd (me_fdiv (me_var 3) me_int)))))
    (mb_one (ms_ret (me_var 2))))))
abbrev s__law_numbers : Stmt := topS 15
abbrev N__law_numbers : List Str := ["script", "row", "cell", "left", "k", "mixed"]
theorem sc__law_numbers : FnScope N__law_numbers ["script"] (defScope s__law_numbers) := ⟨rfl, rfl, rfl, by decide +kernel, rfl, by decide +kernel, by decide +kernel⟩
def lp__law_numbers_1 : SM :=
  (sSeq (sIf (tV (eBin gEq (eVar 3) (eC (.int 0)))) sBrk sNext)
  (sSeq (sExpr (eAppend (eVar 1) (eBin gMod (eApp gInt (aCons (eVar 3) aNil)) (eC (.int 997)))))
  (sSet 3 (eBin gFdiv (eVar 3) (eC (.int 997))))))
def lp__law_numbers_2 : SM :=
  (sSeq (sSet 5 (eBin gMod (eApp gInt (aCons (eBin gAdd (eBin gAdd (eBin gMulI (eVar 2) (eC (.int 48271))) (eBin gMulI (eVar 4) (eC (.int 69621)))) (eC (.int 11))) aNil)) (eC (.int 2147483647))))
  (sExpr (eAppend (eVar 1) (eBin gMod (eApp gInt (aCons (eBin gAdd (eBin gMulI (eVar 5) (eC (.int 16807))) (eVar 4)) aNil)) (eC (.int 2147483629))))))
def lp__law_numbers_3 : SM :=
  (sIf (tV (eBin gGe (eVar 2) (eBin gPow (eC (.int 10)) (eC (.int 18))))) (sSeq (sSet 3 (eVar 2))
  (sFor (iRg1 (eC (.int 60))) (gaName 4) lp__law_numbers_1)) (sFor (iRg1 (eC (.int 4))) (gaName 4) lp__law_numbers_2))
def b__law_numbers : SM :=
  (sSeq (sSet 1 (eOfL (lDisp aNil)))
  (sSeq (sFor (iSeq (eSl (eVar 0) oNone (oSome (eC (.int 63))))) (gaName 2) lp__law_numbers_3)
  (sSeq (sIf (tV (eBin gEq (eApp gLen (aCons (eVar 1) aNil)) (eC (.int 0)))) (sExpr (eAppend (eVar 1) (eC (.int 0)))) sNext)
  (sRet (eVar 1)))))
def m__law_numbers : FM := callD 6 b__law_numbers
theorem ok__law_numbers {f : Addr} {fd : FuncData} (F : Fun K "_law_numbers" "_law_numbers" s__law_numbers f fd)  (B : BT mg) : FnOk P w K mg base (L2.CX P w) 1 f fd ["script"] (spF K mg 1 m__law_numbers) :=
  fn_ok (k := 0) F sc__law_numbers rfl rfl fun cdv A outer s H E hr tk hpo => by
    have nd := sc__law_numbers.nd
    exact (mb_cons (ms_set 1 nd (me_ofL (ml_disp ma_nil)))
    (mb_cons (ms_for hpo rfl (mi_seq (me_sl (me_var 0) mo_none (mo_some me_int))) (mg_name 2 nd) (mb_one (ms_if (mt_ge (me_var 2) (me_pow me_int me_int)) (mb_cons (ms_set 3 nd (me_var 2))
    (mb_one (ms_for hpo rfl (mi_rg1 (by rfl) (B.z_range) me_int) (mg_name 4 nd) (mb_cons (ms_if (mt_eq hr.units (me_var 3) me_int) (mb_one ms_brk) mb_nil)
    (mb_cons (ms_expr (me_append (me_var 1) (me_mod (me_toInt (by rfl) (B.z_int) (ma_cons (me_var 3) ma_nil)) me_int)))
    (mb_one (ms_set 3 nd (me_fdiv (me_var 3) me_int)))))))) (mb_one (ms_for hpo rfl (mi_rg1 (by rfl) (B.z_range) me_int) (mg_name 4 nd) (mb_cons (ms_set 5 nd (me_mod (me_toInt (by rfl) (B.z_int) (ma_cons (me_add (me_add (me_mulI (me_var 2) me_int) (me_mulI (me_var 4) me_int)) me_int) ma_nil)) me_int))
    (mb_one (ms_expr (me_append (me_var 1) (me_mod (me_toInt (by rfl) (B.z_int) (ma_cons (me_add (me_mulI (me_var 5) me_int) (me_var 4)) ma_nil)) me_int))))))))))
    (mb_cons (ms_if (mt_eq hr.units (me_len (by rfl) (B.z_len) (ma_cons (me_var 1) ma_nil)) me_int) (mb_one (ms_expr (me_append (me_var 1) me_int))) mb_nil)
    (mb_one (ms_ret (me_var 1))))))
abbrev s__law_power : Stmt := topS 18
abbrev N__law_power : List Str := ["count", "made", "k"]
theorem sc__law_power : FnScope N__law_power ["count"] (defScope s__law_power) := ⟨rfl, rfl, rfl, by decide +kernel, rfl, by decide +kernel, by decide +kernel⟩
def lp__law_power_1 : SM :=
  (sSet 1 (eBin gMulI (eVar 1) (eC (.int 2))))
def b__law_power : SM :=
  (sSeq (sSet 1 (eC (.int 1)))
  (sSeq (sFor (iRg1 (eVar 0)) (gaName 2) lp__law_power_1)
  (sRet (eVar 1))))
def m__law_power : FM := callD 3 b__law_power
theorem ok__law_power {f : Addr} {fd : FuncData} (F : Fun K "_law_power" "_law_power" s__law_power f fd)  (B : BT mg) : FnOk P w K mg base (L2.CX P w) 1 f fd ["count"] (spF K mg 1 m__law_power) :=
  fn_ok (k := 0) F sc__law_power rfl rfl fun cdv A outer s H E hr tk hpo => by
    have nd := sc__law_power.nd
    exact (mb_cons (ms_set 1 nd me_int)
    (mb_cons (ms_for hpo rfl (mi_rg1 (by rfl) (B.z_range) (me_var 0)) (mg_name 2 nd) (mb_one (ms_set 1 nd (me_mulI (me_var 1) me_int))))
    (mb_one (ms_ret (me_var 1)))))
abbrev s__law_so : Stmt := topS 14
abbrev N__law_so : List Str := ["found", "meant", "k"]
theorem sc__law_so : FnScope N__law_so ["found", "meant"] (defScope s__law_so) := ⟨rfl, rfl, rfl, by decide +kernel, rfl, by decide +kernel, by decide +kernel⟩
def lp__law_so_1 (rec : FM) : SM :=
  (sIf (tNt (tTru (eCall 2 rec (aCons (eBin gIx (eVar 0) (eVar 2)) (aCons (eBin gIx (eVar 1) (eVar 2)) aNil))))) (sRet (eC (.bl false))) sNext)
def b__law_so (rec : FM) : SM :=
  (sSeq (sIf (tV (eUn gIsN (eVar 1))) (sRet (eUn gIsN (eVar 0))) sNext)
  (sSeq (sIf (tTru (eUn (gIs .tup) (eVar 1))) (sSeq (sIf (tOrr (tNt (tTru (eUn (gIs .tup) (eVar 0)))) (tV (eBin gNe (eApp gLen (aCons (eVar 0) aNil)) (eApp gLen (aCons (eVar 1) aNil))))) (sRet (eC (.bl false))) sNext)
  (sSeq (sFor (iRg1 (eApp gLen (aCons (eVar 1) aNil))) (gaName 2) (lp__law_so_1 rec))
  (sRet (eC (.bl true))))) sNext)
  (sSeq (sIf (tOrr (tTru (eUn (gIs .bool) (eVar 1))) (tTru (eUn (gIs .bool) (eVar 0)))) (sRet (eAnd (eUn (gIs .bool) (eVar 1)) (eAnd (eUn (gIs .bool) (eVar 0)) (eBin gEq (eVar 0) (eVar 1))))) sNext)
  (sSeq (sIf (tTru (eUn (gIs .int) (eVar 1))) (sRet (eAnd (eUn (gIs .int) (eVar 0)) (eBin gEq (eVar 0) (eVar 1)))) sNext)
  (sRet (eAnd (eUn (gIs .str) (eVar 1)) (eAnd (eUn (gIs .str) (eVar 0)) (eBin gEq (eVar 0) (eVar 1)))))))))
def m__law_so : Nat → FM
  | 0 => fun _ _ => .fail
  | k + 1 => callD 3 (b__law_so (m__law_so k))
theorem ok__law_so {f : Addr} {fd : FuncData} (F : Fun K "_law_so" "_law_so" s__law_so f fd) (gm : mg "_law_so" = some (.ref f)) (gb : Binds K fd ["found", "meant"] [])  (B : BT mg) : ∀ d : Nat, FnOk P w K mg base (L2.CX P w) (d + 0) f fd ["found", "meant"] (spF K mg 2 (m__law_so d))
  | 0 => ⟨fun vs H Q E h => h.1, fun _ _ _ _ _ _ _ _ _ _ _ _ _ h => (h.2.elim fun _ h => h.elim fun _ h => h.elim fun _ h => h.2.2.elim)⟩
  | d + 1 => fn_ok (k := d + 0) F sc__law_so rfl rfl fun cdv A outer s H E hr tk hpo => by
    have nd := sc__law_so.nd
    have hrec : Known P w K mg base "_law_so" 2 (d + 0) (m__law_so d) := ⟨f, fd, _, ok__law_so F gm gb  B d, gm, F.kp, gb⟩
    exact (mb_cons (ms_if (mt_isN (me_var 1)) (mb_one (ms_ret (me_isN (me_var 0)))) mb_nil)
    (mb_cons (ms_if (mt_truth (me_isi .tup rfl (by rfl) (B.z_isinstance) (by rfl) (B.z_tuple) (by rfl) (me_var 1))) (mb_cons (ms_if (mw_t (mw_or (mt_not (mt_truth (me_isi .tup rfl (by rfl) (B.z_isinstance) (by rfl) (B.z_tuple) (by rfl) (me_var 0)))) (mw_or1 (mt_ne hr.units (me_len (by rfl) (B.z_len) (ma_cons (me_var 0) ma_nil)) (me_len (by rfl) (B.z_len) (ma_cons (me_var 1) ma_nil)))))) (mb_one (ms_ret me_bl)) mb_nil)
    (mb_cons (ms_for hpo rfl (mi_rg1 (by rfl) (B.z_range) (me_len (by rfl) (B.z_len) (ma_cons (me_var 1) ma_nil))) (mg_name 2 nd) (mb_one (ms_if (mt_not (mt_truth (me_call hrec hr tk (by rfl) (ma_cons (me_ix (me_var 0) (me_var 2)) (ma_cons (me_ix (me_var 1) (me_var 2)) ma_nil))))) (mb_one (ms_ret me_bl)) mb_nil)))
    (mb_one (ms_ret me_bl)))) mb_nil)
    (mb_cons (ms_if (mw_t (mw_or (mt_truth (me_isi .bool rfl (by rfl) (B.z_isinstance) (by rfl) (B.z_bool) (by rfl) (me_var 1))) (mw_or1 (mt_truth (me_isi .bool rfl (by rfl) (B.z_isinstance) (by rfl) (B.z_bool) (by rfl) (me_var 0)))))) (mb_one (ms_ret (me_and (me_isi .bool rfl (by rfl) (B.z_isinstance) (by rfl) (B.z_bool) (by rfl) (me_var 1)) (me_and (me_isi .bool rfl (by rfl) (B.z_isinstance) (by rfl) (B.z_bool) (by rfl) (me_var 0)) (me_one (me_eq hr.units (me_var 0) (me_var 1))))))) mb_nil)
    (mb_cons (ms_if (mt_truth (me_isi .int rfl (by rfl) (B.z_isinstance) (by rfl) (B.z_int) (by rfl) (me_var 1))) (mb_one (ms_ret (me_and (me_isi .int rfl (by rfl) (B.z_isinstance) (by rfl) (B.z_int) (by rfl) (me_var 0)) (me_one (me_eq hr.units (me_var 0) (me_var 1)))))) mb_nil)
    (mb_one (ms_ret (me_and (me_isi .str rfl (by rfl) (B.z_isinstance) (by rfl) (B.z_str) (by rfl) (me_var 1)) (me_and (me_isi .str rfl (by rfl) (B.z_isinstance) (by rfl) (B.z_str) (by rfl) (me_var 0)) (me_one (me_eq hr.units (me_var 0) (me_var 1)))))))))))
abbrev s__law_draw : Stmt := topS 16
abbrev N__law_draw : List Str := ["row", "at", "limit", "mixed"]
theorem sc__law_draw : FnScope N__law_draw ["row", "at", "limit"] (defScope s__law_draw) := ⟨rfl, rfl, rfl, by decide +kernel, rfl, by decide +kernel, by decide +kernel⟩
def b__law_draw : SM :=
  (sSeq (sIf (tV (eBin gLt (eVar 1) (eApp gLen (aCons (eVar 0) aNil)))) (sRet (eBin gMod (eApp gInt (aCons (eBin gIx (eVar 0) (eVar 1)) aNil)) (eVar 2))) sNext)
  (sSeq (sSet 3 (eBin gMod (eApp gInt (aCons (eBin gAdd (eBin gAdd (eBin gMulI (eBin gIx (eVar 0) (eBin gMod (eApp gInt (aCons (eVar 1) aNil)) (eApp gLen (aCons (eVar 0) aNil)))) (eC (.int 40692))) (eBin gMulI (eVar 1) (eC (.int 7919)))) (eC (.int 3))) aNil)) (eC (.int 2147483399))))
  (sRet (eBin gMod (eApp gInt (aCons (eBin gMod (eApp gInt (aCons (eBin gAdd (eBin gMulI (eVar 3) (eC (.int 48271))) (eVar 1)) aNil)) (eC (.int 2147483647))) aNil)) (eVar 2)))))
def m__law_draw : FM := callD 4 b__law_draw
theorem ok__law_draw {f : Addr} {fd : FuncData} (F : Fun K "_law_draw" "_law_draw" s__law_draw f fd)  (B : BT mg) : FnOk P w K mg base (L2.CX P w) 1 f fd ["row", "at", "limit"] (spF K mg 3 m__law_draw) :=
  fn_ok (k := 0) F sc__law_draw rfl rfl fun cdv A outer s H E hr tk hpo => by
    have nd := sc__law_draw.nd
    exact (mb_cons (ms_if (mt_lt (me_var 1) (me_len (by rfl) (B.z_len) (ma_cons (me_var 0) ma_nil))) (mb_one (ms_ret (me_mod (me_toInt (by rfl) (B.z_int) (ma_cons (me_ix (me_var 0) (me_var 1)) ma_nil)) (me_var 2)))) mb_nil)
    (mb_cons (ms_set 3 nd (me_mod (me_toInt (by rfl) (B.z_int) (ma_cons (me_add (me_add (me_mulI (me_ix (me_var 0) (me_mod (me_toInt (by rfl) (B.z_int) (ma_cons (me_var 1) ma_nil)) (me_len (by rfl) (B.z_len) (ma_cons (me_var 0) ma_nil)))) me_int) (me_mulI (me_var 1) me_int)) me_int) ma_nil)) me_int))
    (mb_one (ms_ret (me_mod (me_toInt (by rfl) (B.z_int) (ma_cons (me_mod (me_toInt (by rfl) (B.z_int) (ma_cons (me_add (me_mulI (me_var 3) me_int) (me_var 1)) ma_nil)) me_int) ma_nil)) (me_var 2))))))
abbrev s__law_take : Stmt := topS 17
abbrev N__law_take : List Str := ["row", "spot", "limit"]
theorem sc__law_take : FnScope N__law_take ["row", "spot", "limit"] (defScope s__law_take) := ⟨rfl, rfl, rfl, by decide +kernel, rfl, by decide +kernel, by decide +kernel⟩
def b__law_take : SM :=
  (sSeq (sSetIx (eBin gAdd (eBin gIx (eVar 1) (eC (.int 0))) (eC (.int 1))) (eVar 1) (eC (.int 0)))
  (sRet (eCall 3 m__law_draw (aCons (eVar 0) (aCons (eBin gSub (eBin gIx (eVar 1) (eC (.int 0))) (eC (.int 1))) (aCons (eVar 2) aNil))))))
def m__law_take : FM := callD 3 b__law_take
theorem ok__law_take {f : Addr} {fd : FuncData} (F : Fun K "_law_take" "_law_take" s__law_take f fd) (kn__law_draw : Known P w K mg base "_law_draw" 3 1 m__law_draw) (B : BT mg) : FnOk P w K mg base (L2.CX P w) 2 f fd ["row", "spot", "limit"] (spF K mg 3 m__law_take) :=
  fn_ok (k := 1) F sc__law_take rfl rfl fun cdv A outer s H E hr tk hpo => by
    have nd := sc__law_take.nd
    exact (mb_cons (ms_setIx (me_add (me_ix (me_var 1) me_int) me_int) (me_var 1) me_int)
    (mb_one (ms_ret (me_call (kn__law_draw.mono (by decide)) hr tk (by rfl) (ma_cons (me_var 0) (ma_cons (me_sub (me_ix (me_var 1) me_int) me_int) (ma_cons (me_var 2) ma_nil)))))))
abbrev s_is_integer : Stmt := topS 2
abbrev N_is_integer : List Str := ["value"]
theorem sc_is_integer : FnScope N_is_integer ["value"] (defScope s_is_integer) := ⟨rfl, rfl, rfl, by decide +kernel, rfl, by decide +kernel, by decide +kernel⟩
def b_is_integer : SM :=
  (sRet (eAnd (eUn (gIs .int) (eVar 0)) (eUn gNot (eUn (gIs .bool) (eVar 0)))))
def m_is_integer : FM := callD 1 b_is_integer
theorem ok_is_integer {f : Addr} {fd : FuncData} (F : Fun K "is_integer" "is_integer" s_is_integer f fd)  (B : BT mg) : FnOk P w K mg base (L2.CX P w) 1 f fd ["value"] (spF K mg 1 m_is_integer) :=
  fn_ok (k := 0) F sc_is_integer rfl rfl fun cdv A outer s H E hr tk hpo => by
    have nd := sc_is_integer.nd
    exact (mb_one (ms_ret (me_and (me_isi .int rfl (by rfl) (B.z_isinstance) (by rfl) (B.z_int) (by rfl) (me_var 0)) (me_one (me_not (me_isi .bool rfl (by rfl) (B.z_isinstance) (by rfl) (B.z_bool) (by rfl) (me_var 0)))))))
abbrev s_is_number : Stmt := topS 3
abbrev N_is_number : List Str := ["value", "low", "high"]
theorem sc_is_number : FnScope N_is_number ["value", "low", "high"] (defScope s_is_number) := ⟨rfl, rfl, rfl, by decide +kernel, rfl, by decide +kernel, by decide +kernel⟩
def b_is_number : SM :=
  (sRet (eAnd (eCall 1 m_is_integer (aCons (eVar 0) aNil)) (eChain gLe gLe (eVar 1) (eVar 0) (eVar 2))))
def m_is_number : FM := callD 3 b_is_number
theorem ok_is_number {f : Addr} {fd : FuncData} (F : Fun K "is_number" "is_number" s_is_number f fd) (kn_is_integer : Known P w K mg base "is_integer" 1 1 m_is_integer) (B : BT mg) : FnOk P w K mg base (L2.CX P w) 2 f fd ["value", "low", "high"] (spF K mg 3 m_is_number) :=
  fn_ok (k := 1) F sc_is_number rfl rfl fun cdv A outer s H E hr tk hpo => by
    have nd := sc_is_number.nd
    exact (mb_one (ms_ret (me_and (me_call (kn_is_integer.mono (by decide)) hr tk (by rfl) (ma_cons (me_var 0) ma_nil)) (me_one (me_chain (me_var 1) (me_var 0) (me_var 2))))))
abbrev s__check_nodes : Stmt := topS 9
abbrev N__check_nodes : List Str := ["nodes"]
theorem sc__check_nodes : FnScope N__check_nodes ["nodes"] (defScope s__check_nodes) := ⟨rfl, rfl, rfl, by decide +kernel, rfl, by decide +kernel, by decide +kernel⟩
def b__check_nodes : SM :=
  (sIf (tNt (tTru (eCall 3 m_is_number (aCons (eVar 0) (aCons (eC (.int 1)) (aCons (eC (.int 4)) aNil)))))) sNever sNext)
def m__check_nodes : FM := callD 1 b__check_nodes
theorem ok__check_nodes {f : Addr} {fd : FuncData} (F : Fun K "_check_nodes" "_check_nodes" s__check_nodes f fd) (kn_is_number : Known P w K mg base "is_number" 3 2 m_is_number) (B : BT mg) : FnOk P w K mg base (L2.CX P w) 3 f fd ["nodes"] (spF K mg 1 m__check_nodes) :=
  fn_ok (k := 2) F sc__check_nodes rfl rfl fun cdv A outer s H E hr tk hpo => by
    have nd := sc__check_nodes.nd
    exact (mb_one (ms_if (mt_not (mt_truth (me_call (kn_is_number.mono (by decide)) hr tk (by rfl) (ma_cons (me_var 0) (ma_cons me_int (ma_cons (me_globInt (i := 4) (by rfl) B.c_MOST_NODES) ma_nil)))))) (mb_one ms_never) mb_nil))
abbrev s__check_stops : Stmt := topS 10
abbrev N__check_stops : List Str := ["nodes", "most"]
theorem sc__check_stops : FnScope N__check_stops ["nodes", "most"] (defScope s__check_stops) := ⟨rfl, rfl, rfl, by decide +kernel, rfl, by decide +kernel, by decide +kernel⟩
def b__check_stops : SM :=
  (sSeq (sExpr (eCall 1 m__check_nodes (aCons (eVar 0) aNil)))
  (sIf (tNt (tTru (eCall 3 m_is_number (aCons (eVar 1) (aCons (eC (.int 0)) (aCons (eVar 0) aNil)))))) sNever sNext))
def m__check_stops : FM := callD 2 b__check_stops
theorem ok__check_stops {f : Addr} {fd : FuncData} (F : Fun K "_check_stops" "_check_stops" s__check_stops f fd) (kn__check_nodes : Known P w K mg base "_check_nodes" 1 3 m__check_nodes) (kn_is_number : Known P w K mg base "is_number" 3 2 m_is_number) (B : BT mg) : FnOk P w K mg base (L2.CX P w) 4 f fd ["nodes", "most"] (spF K mg 2 m__check_stops) :=
  fn_ok (k := 3) F sc__check_stops rfl rfl fun cdv A outer s H E hr tk hpo => by
    have nd := sc__check_stops.nd
    exact (mb_cons (ms_expr (me_call (kn__check_nodes.mono (by decide)) hr tk (by rfl) (ma_cons (me_var 0) ma_nil)))
    (mb_one (ms_if (mt_not (mt_truth (me_call (kn_is_number.mono (by decide)) hr tk (by rfl) (ma_cons (me_var 1) (ma_cons me_int (ma_cons (me_var 0) ma_nil)))))) (mb_one ms_never) mb_nil)))
abbrev s__not_named : Stmt := topS 12
abbrev N__not_named : List Str := ["nodes", "mark", "node"]
theorem sc__not_named : FnScope N__not_named ["nodes", "mark"] (defScope s__not_named) := ⟨rfl, rfl, rfl, by decide +kernel, rfl, by decide +kernel, by decide +kernel⟩
def b__not_named : SM :=
  (sRet (eAppL gTupL (lLc [2] (iRg1 (eVar 0)) (gaName 2) (tV (eBin gEq (eBin gAnd (eBin gShr (eVar 1) (eVar 2)) (eC (.int 1))) (eC (.int 0)))) (eVar 2))))
def m__not_named : FM := callD 3 b__not_named
theorem ok__not_named {f : Addr} {fd : FuncData} (F : Fun K "_not_named" "_not_named" s__not_named f fd)  (B : BT mg) : FnOk P w K mg base (L2.CX P w) 1 f fd ["nodes", "mark"] (spF K mg 2 m__not_named) :=
  fn_ok (k := 0) F sc__not_named rfl rfl fun cdv A outer s H E hr tk hpo => by
    have nd := sc__not_named.nd
    exact (mb_one (ms_ret (me_tupleL (by rfl) (B.z_tuple) (ml_lc (own := [("node", 2)]) rfl nd (mi_rg1 (by rfl) (B.z_range) (me_var 0)) (blkOk_by (N := N__not_named) (sc := defScope s__not_named) (by decide +kernel)) (fun _ _ _ _ _ => (mg_name 2 nd)) (fun _ _ _ _ _ => (mts_one (mt_eq hr.units (me_band (me_shr (me_var 1) (me_var 2)) me_int) me_int))) (fun _ _ _ _ _ => (me_var 2))))))
abbrev s__stop_marks : Stmt := topS 11
abbrev N__stop_marks : List Str := ["nodes", "most", "mark"]
theorem sc__stop_marks : FnScope N__stop_marks ["nodes", "most"] (defScope s__stop_marks) := ⟨rfl, rfl, rfl, by decide +kernel, rfl, by decide +kernel, by decide +kernel⟩
def b__stop_marks : SM :=
  (sRet (eOfL (lLc [2] (iRg1 (eBin gShl (eC (.int 1)) (eVar 0))) (gaName 2) (tV (eBin gLe (eBin gSub (eVar 0) (eApp gLen (aCons (eCall 2 m__not_named (aCons (eVar 0) (aCons (eVar 2) aNil))) aNil))) (eVar 1))) (eVar 2))))
def m__stop_marks : FM := callD 3 b__stop_marks
theorem ok__stop_marks {f : Addr} {fd : FuncData} (F : Fun K "_stop_marks" "_stop_marks" s__stop_marks f fd) (kn__not_named : Known P w K mg base "_not_named" 2 1 m__not_named) (B : BT mg) : FnOk P w K mg base (L2.CX P w) 2 f fd ["nodes", "most"] (spF K mg 2 m__stop_marks) :=
  fn_ok (k := 1) F sc__stop_marks rfl rfl fun cdv A outer s H E hr tk hpo => by
    have nd := sc__stop_marks.nd
    exact (mb_one (ms_ret (me_ofL (ml_lc (own := [("mark", 2)]) rfl nd (mi_rg1 (by rfl) (B.z_range) (me_shl me_int (me_var 0))) (blkOk_by (N := N__stop_marks) (sc := defScope s__stop_marks) (by decide +kernel)) (fun _ _ _ _ _ => (mg_name 2 nd)) (fun _ _ _ _ _ => (mts_one (mt_le (me_sub (me_var 0) (me_len (by rfl) (B.z_len) (ma_cons (me_call (kn__not_named.mono (by decide)) hr takes0 (by rfl) (ma_cons (me_var 0) (ma_cons (me_var 2) ma_nil))) ma_nil))) (me_var 1)))) (fun _ _ _ _ _ => (me_var 2))))))
abbrev s_stops_due : Stmt := topS 8
abbrev N_stops_due : List Str := ["nodes", "most", "pairs", "mark", "stopped"]
theorem sc_stops_due : FnScope N_stops_due ["nodes", "most"] (defScope s_stops_due) := ⟨rfl, rfl, rfl, by decide +kernel, rfl, by decide +kernel, by decide +kernel⟩
def lp_stops_due_1 : SM :=
  (sSeq (sSet 4 (eBin gSub (eVar 0) (eApp gLen (aCons (eCall 2 m__not_named (aCons (eVar 0) (aCons (eVar 3) aNil))) aNil))))
  (sExpr (eAppend (eVar 2) (eTup (aCons (eVar 3) (aCons (eIf (tV (eBin gLe (eVar 4) (eBin gSub (eVar 1) (eC (.int 2))))) (eBin gAdd (eVar 4) (eC (.int 2))) (eBin gAdd (eVar 4) (eC (.int 1)))) aNil))))))
def b_stops_due : SM :=
  (sSeq (sExpr (eCall 2 m__check_stops (aCons (eVar 0) (aCons (eVar 1) aNil))))
  (sSeq (sSet 2 (eOfL (lDisp aNil)))
  (sSeq (sFor (iSeq (eCall 2 m__stop_marks (aCons (eVar 0) (aCons (eVar 1) aNil)))) (gaName 3) lp_stops_due_1)
  (sRet (eApp gTuple (aCons (eVar 2) aNil))))))
def m_stops_due : FM := callD 5 b_stops_due
theorem ok_stops_due {f : Addr} {fd : FuncData} (F : Fun K "stops_due" "stops_due" s_stops_due f fd) (kn__check_stops : Known P w K mg base "_check_stops" 2 4 m__check_stops) (kn__not_named : Known P w K mg base "_not_named" 2 1 m__not_named) (kn__stop_marks : Known P w K mg base "_stop_marks" 2 2 m__stop_marks) (B : BT mg) : FnOk P w K mg base (L2.CX P w) 5 f fd ["nodes", "most"] (spF K mg 2 m_stops_due) :=
  fn_ok (k := 4) F sc_stops_due rfl rfl fun cdv A outer s H E hr tk hpo => by
    have nd := sc_stops_due.nd
    exact (mb_cons (ms_expr (me_call (kn__check_stops.mono (by decide)) hr tk (by rfl) (ma_cons (me_var 0) (ma_cons (me_var 1) ma_nil))))
    (mb_cons (ms_set 2 nd (me_ofL (ml_disp ma_nil)))
    (mb_cons (ms_for hpo rfl (mi_seq (me_call (kn__stop_marks.mono (by decide)) hr tk (by rfl) (ma_cons (me_var 0) (ma_cons (me_var 1) ma_nil)))) (mg_name 3 nd) (mb_cons (ms_set 4 nd (me_sub (me_var 0) (me_len (by rfl) (B.z_len) (ma_cons (me_call (kn__not_named.mono (by decide)) hr tk (by rfl) (ma_cons (me_var 0) (ma_cons (me_var 3) ma_nil))) ma_nil))))
    (mb_one (ms_expr (me_append (me_var 2) (me_tup (ma_cons (me_var 3) (ma_cons (me_if (mt_le (me_var 4) (me_sub (me_var 1) me_int)) (me_add (me_var 4) me_int) (me_add (me_var 4) me_int)) ma_nil))))))))
    (mb_one (ms_ret (me_tuple (by rfl) (B.z_tuple) (ma_cons (me_var 2) ma_nil)))))))
abbrev s_law : Stmt := topS 20
abbrev N_law : List Str := ["script", "row", "spot", "nodes", "most", "made", "mark", "many"]
theorem sc_law : FnScope N_law ["script"] (defScope s_law) := ⟨rfl, rfl, rfl, by decide +kernel, rfl, by decide +kernel, by decide +kernel⟩
def lp_law_1 : SM :=
  (sSeq (sSet 7 (eApp gLen (aCons (eCall 2 m__law_named (aCons (eVar 6) (aCons (eVar 3) aNil))) aNil)))
  (sIf (tV (eBin gLe (eVar 7) (eVar 4))) (sExpr (eAppend (eVar 5) (eTup (aCons (eVar 6) (aCons (eIf (tV (eBin gLe (eVar 7) (eBin gSub (eVar 4) (eC (.int 2))))) (eBin gAdd (eVar 7) (eC (.int 2))) (eBin gAdd (eVar 7) (eC (.int 1)))) aNil))))) sNext))
def b_law : SM :=
  (sSeq (sSet 1 (eCall 1 m__law_numbers (aCons (eVar 0) aNil)))
  (sSeq (sSet 2 (eOfL (lDisp (aCons (eC (.int 0)) aNil))))
  (sSeq (sSet 3 (eBin gAdd (eC (.int 1)) (eCall 3 m__law_take (aCons (eVar 1) (aCons (eVar 2) (aCons (eC (.int 4)) aNil))))))
  (sSeq (sSet 4 (eCall 3 m__law_take (aCons (eVar 1) (aCons (eVar 2) (aCons (eBin gAdd (eVar 3) (eC (.int 1))) aNil)))))
  (sSeq (sSet 5 (eOfL (lDisp aNil)))
  (sSeq (sFor (iRg1 (eCall 1 m__law_power (aCons (eVar 3) aNil))) (gaName 6) lp_law_1)
  (sRet (eCall 2 (m__law_so 12) (aCons (eCall 2 m_stops_due (aCons (eVar 3) (aCons (eVar 4) aNil))) (aCons (eApp gTuple (aCons (eVar 5) aNil)) aNil))))))))))
def m_law : FM := callD 8 b_law
theorem ok_law {f : Addr} {fd : FuncData} (F : Fun K "law" "law" s_law f fd) (kn__law_named : Known P w K mg base "_law_named" 2 1 m__law_named) (kn__law_numbers : Known P w K mg base "_law_numbers" 1 1 m__law_numbers) (kn__law_power : Known P w K mg base "_law_power" 1 1 m__law_power) (kn__law_so : Known P w K mg base "_law_so" 2 12 (m__law_so 12)) (kn__law_take : Known P w K mg base "_law_take" 3 2 m__law_take) (kn_stops_due : Known P w K mg base "stops_due" 2 5 m_stops_due) (B : BT mg) : FnOk P w K mg base (L2.CX P w) 13 f fd ["script"] (spF K mg 1 m_law) :=
  fn_ok (k := 12) F sc_law rfl rfl fun cdv A outer s H E hr tk hpo => by
    have nd := sc_law.nd
    exact (mb_cons (ms_set 1 nd (me_call (kn__law_numbers.mono (by decide)) hr tk (by rfl) (ma_cons (me_var 0) ma_nil)))
    (mb_cons (ms_set 2 nd (me_ofL (ml_disp (ma_cons me_int ma_nil))))
    (mb_cons (ms_set 3 nd (me_add me_int (me_call (kn__law_take.mono (by decide)) hr tk (by rfl) (ma_cons (me_var 1) (ma_cons (me_var 2) (ma_cons me_int ma_nil))))))
    (mb_cons (ms_set 4 nd (me_call (kn__law_take.mono (by decide)) hr tk (by rfl) (ma_cons (me_var 1) (ma_cons (me_var 2) (ma_cons (me_add (me_var 3) me_int) ma_nil)))))
    (mb_cons (ms_set 5 nd (me_ofL (ml_disp ma_nil)))
    (mb_cons (ms_for hpo rfl (mi_rg1 (by rfl) (B.z_range) (me_call (kn__law_power.mono (by decide)) hr tk (by rfl) (ma_cons (me_var 3) ma_nil))) (mg_name 6 nd) (mb_cons (ms_set 7 nd (me_len (by rfl) (B.z_len) (ma_cons (me_call (kn__law_named.mono (by decide)) hr tk (by rfl) (ma_cons (me_var 6) (ma_cons (me_var 3) ma_nil))) ma_nil)))
    (mb_one (ms_if (mt_le (me_var 7) (me_var 4)) (mb_one (ms_expr (me_append (me_var 5) (me_tup (ma_cons (me_var 6) (ma_cons (me_if (mt_le (me_var 7) (me_sub (me_var 4) me_int)) (me_add (me_var 7) me_int) (me_add (me_var 7) me_int)) ma_nil)))))) mb_nil))))
    (mb_one (ms_ret (me_call (kn__law_so.mono (by decide)) hr tk (by rfl) (ma_cons (me_call (kn_stops_due.mono (by decide)) hr tk (by rfl) (ma_cons (me_var 3) (ma_cons (me_var 4) ma_nil))) (ma_cons (me_tuple (by rfl) (B.z_tuple) (ma_cons (me_var 5) ma_nil)) ma_nil)))))))))))
end
theorem all_mk {l : PySem.W.OpenLaw} {w : World} {K : PySem.W.Frag} {h : Heap} {mg : Str → Option Value} {fa : Addr} (X : K.In h) (G : h.Ns mainGlobals mg) (hfa : mg "law" = some (.ref fa))
    {od1 an1 : Option Addr} {sl1 : Array (Option Value)} {oc1 kV1 dc1 pm1 cd1 ct1 : Value} {f1 : Addr} {od2 an2 : Option Addr} {sl2 : Array (Option Value)} {oc2 kV2 dc2 pm2 cd2 ct2 : Value} {f2 : Addr} {od3 an3 : Option Addr} {sl3 : Array (Option Value)} {oc3 kV3 dc3 pm3 cd3 ct3 : Value} {f3 : Addr} {od4 an4 : Option Addr} {sl4 : Array (Option Value)} {oc4 kV4 dc4 pm4 cd4 ct4 : Value} {f4 : Addr} {od5 an5 : Option Addr} {sl5 : Array (Option Value)} {oc5 kV5 dc5 pm5 cd5 ct5 : Value} {f5 : Addr} {od6 an6 : Option Addr} {sl6 : Array (Option Value)} {oc6 kV6 dc6 pm6 cd6 ct6 : Value} {f6 : Addr} {od7 an7 : Option Addr} {sl7 : Array (Option Value)} {oc7 kV7 dc7 pm7 cd7 ct7 : Value} {f7 : Addr} {od8 an8 : Option Addr} {sl8 : Array (Option Value)} {oc8 kV8 dc8 pm8 cd8 ct8 : Value} {f8 : Addr} {od9 an9 : Option Addr} {sl9 : Array (Option Value)} {oc9 kV9 dc9 pm9 cd9 ct9 : Value} {f9 : Addr} {od10 an10 : Option Addr} {sl10 : Array (Option Value)} {oc10 kV10 dc10 pm10 cd10 ct10 : Value} {f10 : Addr} {od11 an11 : Option Addr} {sl11 : Array (Option Value)} {oc11 kV11 dc11 pm11 cd11 ct11 : Value} {f11 : Addr} {od12 an12 : Option Addr} {sl12 : Array (Option Value)} {oc12 kV12 dc12 pm12 cd12 ct12 : Value} {f12 : Addr} {od13 an13 : Option Addr} {sl13 : Array (Option Value)} {oc13 kV13 dc13 pm13 cd13 ct13 : Value} {f13 : Addr} {od14 an14 : Option Addr} {sl14 : Array (Option Value)} {oc14 kV14 dc14 pm14 cd14 ct14 : Value} {f14 : Addr} {t_MOST_NODES : Tok}
    (a1 : PySem.W.nsIn K mainGlobals "_law_named" = some (some (.ref f1))) (l1 : K.lookup f1 = some ⟨oc1, od1, .func (PySem.W.fnOf "_law_named" "_law_named" (defArgs s__law_named) (defBody s__law_named) (defScope s__law_named) .none kV1 dc1 pm1 an1 cd1 ct1), sl1⟩) (c1 : PySem.W.codeIn K cd1 "_law_named" = true) (k1 : PySem.W.keepIn K (.ref f1) = true)
    (a2 : PySem.W.nsIn K mainGlobals "_law_numbers" = some (some (.ref f2))) (l2 : K.lookup f2 = some ⟨oc2, od2, .func (PySem.W.fnOf "_law_numbers" "_law_numbers" (defArgs s__law_numbers) (defBody s__law_numbers) (defScope s__law_numbers) .none kV2 dc2 pm2 an2 cd2 ct2), sl2⟩) (c2 : PySem.W.codeIn K cd2 "_law_numbers" = true) (k2 : PySem.W.keepIn K (.ref f2) = true)
    (a3 : PySem.W.nsIn K mainGlobals "_law_power" = some (some (.ref f3))) (l3 : K.lookup f3 = some ⟨oc3, od3, .func (PySem.W.fnOf "_law_power" "_law_power" (defArgs s__law_power) (defBody s__law_power) (defScope s__law_power) .none kV3 dc3 pm3 an3 cd3 ct3), sl3⟩) (c3 : PySem.W.codeIn K cd3 "_law_power" = true) (k3 : PySem.W.keepIn K (.ref f3) = true)
    (a4 : PySem.W.nsIn K mainGlobals "_law_so" = some (some (.ref f4))) (l4 : K.lookup f4 = some ⟨oc4, od4, .func (PySem.W.fnOf "_law_so" "_law_so" (defArgs s__law_so) (defBody s__law_so) (defScope s__law_so) .none kV4 dc4 pm4 an4 cd4 ct4), sl4⟩) (c4 : PySem.W.codeIn K cd4 "_law_so" = true) (k4 : PySem.W.keepIn K (.ref f4) = true)
    (a5 : PySem.W.nsIn K mainGlobals "_law_draw" = some (some (.ref f5))) (l5 : K.lookup f5 = some ⟨oc5, od5, .func (PySem.W.fnOf "_law_draw" "_law_draw" (defArgs s__law_draw) (defBody s__law_draw) (defScope s__law_draw) .none kV5 dc5 pm5 an5 cd5 ct5), sl5⟩) (c5 : PySem.W.codeIn K cd5 "_law_draw" = true) (k5 : PySem.W.keepIn K (.ref f5) = true)
    (a6 : PySem.W.nsIn K mainGlobals "_law_take" = some (some (.ref f6))) (l6 : K.lookup f6 = some ⟨oc6, od6, .func (PySem.W.fnOf "_law_take" "_law_take" (defArgs s__law_take) (defBody s__law_take) (defScope s__law_take) .none kV6 dc6 pm6 an6 cd6 ct6), sl6⟩) (c6 : PySem.W.codeIn K cd6 "_law_take" = true) (k6 : PySem.W.keepIn K (.ref f6) = true)
    (a7 : PySem.W.nsIn K mainGlobals "is_integer" = some (some (.ref f7))) (l7 : K.lookup f7 = some ⟨oc7, od7, .func (PySem.W.fnOf "is_integer" "is_integer" (defArgs s_is_integer) (defBody s_is_integer) (defScope s_is_integer) .none kV7 dc7 pm7 an7 cd7 ct7), sl7⟩) (c7 : PySem.W.codeIn K cd7 "is_integer" = true) (k7 : PySem.W.keepIn K (.ref f7) = true)
    (a8 : PySem.W.nsIn K mainGlobals "is_number" = some (some (.ref f8))) (l8 : K.lookup f8 = some ⟨oc8, od8, .func (PySem.W.fnOf "is_number" "is_number" (defArgs s_is_number) (defBody s_is_number) (defScope s_is_number) .none kV8 dc8 pm8 an8 cd8 ct8), sl8⟩) (c8 : PySem.W.codeIn K cd8 "is_number" = true) (k8 : PySem.W.keepIn K (.ref f8) = true)
    (a9 : PySem.W.nsIn K mainGlobals "_check_nodes" = some (some (.ref f9))) (l9 : K.lookup f9 = some ⟨oc9, od9, .func (PySem.W.fnOf "_check_nodes" "_check_nodes" (defArgs s__check_nodes) (defBody s__check_nodes) (defScope s__check_nodes) .none kV9 dc9 pm9 an9 cd9 ct9), sl9⟩) (c9 : PySem.W.codeIn K cd9 "_check_nodes" = true) (k9 : PySem.W.keepIn K (.ref f9) = true)
    (a10 : PySem.W.nsIn K mainGlobals "_check_stops" = some (some (.ref f10))) (l10 : K.lookup f10 = some ⟨oc10, od10, .func (PySem.W.fnOf "_check_stops" "_check_stops" (defArgs s__check_stops) (defBody s__check_stops) (defScope s__check_stops) .none kV10 dc10 pm10 an10 cd10 ct10), sl10⟩) (c10 : PySem.W.codeIn K cd10 "_check_stops" = true) (k10 : PySem.W.keepIn K (.ref f10) = true)
    (a11 : PySem.W.nsIn K mainGlobals "_not_named" = some (some (.ref f11))) (l11 : K.lookup f11 = some ⟨oc11, od11, .func (PySem.W.fnOf "_not_named" "_not_named" (defArgs s__not_named) (defBody s__not_named) (defScope s__not_named) .none kV11 dc11 pm11 an11 cd11 ct11), sl11⟩) (c11 : PySem.W.codeIn K cd11 "_not_named" = true) (k11 : PySem.W.keepIn K (.ref f11) = true)
    (a12 : PySem.W.nsIn K mainGlobals "_stop_marks" = some (some (.ref f12))) (l12 : K.lookup f12 = some ⟨oc12, od12, .func (PySem.W.fnOf "_stop_marks" "_stop_marks" (defArgs s__stop_marks) (defBody s__stop_marks) (defScope s__stop_marks) .none kV12 dc12 pm12 an12 cd12 ct12), sl12⟩) (c12 : PySem.W.codeIn K cd12 "_stop_marks" = true) (k12 : PySem.W.keepIn K (.ref f12) = true)
    (a13 : PySem.W.nsIn K mainGlobals "stops_due" = some (some (.ref f13))) (l13 : K.lookup f13 = some ⟨oc13, od13, .func (PySem.W.fnOf "stops_due" "stops_due" (defArgs s_stops_due) (defBody s_stops_due) (defScope s_stops_due) .none kV13 dc13 pm13 an13 cd13 ct13), sl13⟩) (c13 : PySem.W.codeIn K cd13 "stops_due" = true) (k13 : PySem.W.keepIn K (.ref f13) = true)
    (a14 : PySem.W.nsIn K mainGlobals "law" = some (some (.ref f14))) (l14 : K.lookup f14 = some ⟨oc14, od14, .func (PySem.W.fnOf "law" "law" (defArgs s_law) (defBody s_law) (defScope s_law) .none kV14 dc14 pm14 an14 cd14 ct14), sl14⟩) (c14 : PySem.W.codeIn K cd14 "law" = true) (k14 : PySem.W.keepIn K (.ref f14) = true)
    (z_Exception : PySem.W.nsIn K mainGlobals "Exception" = some none)
    (z_bool : PySem.W.nsIn K mainGlobals "bool" = some none)
    (z_int : PySem.W.nsIn K mainGlobals "int" = some none)
    (z_isinstance : PySem.W.nsIn K mainGlobals "isinstance" = some none)
    (z_len : PySem.W.nsIn K mainGlobals "len" = some none)
    (z_range : PySem.W.nsIn K mainGlobals "range" = some none)
    (z_str : PySem.W.nsIn K mainGlobals "str" = some none)
    (z_tuple : PySem.W.nsIn K mainGlobals "tuple" = some none)
    (c_MOST_NODES : PySem.W.nsIn K mainGlobals "MOST_NODES" = some (some (.int (4) t_MOST_NODES)))
    (hm : ∀ ns : List Int, ns.length ≤ 63 → ∃ S, m_law [.sc (ns.map .int)] [] = .ok (.bl true) S) :
    ∃ fd : FuncData, (∀ (s : Shared) (v : Value), BindsTo s fd ⟨[v], []⟩ [("script", v)]) ∧ ∀ base : Heap, K.In base → base.Ns mainGlobals mg → FnOk l.prog w K mg base (L2.CX l.prog w) 13 fa fd ["script"] (spLaw K) := by
  have e := hfa.symm.trans (PySem.W.mg_of X G a14)
  cases e
  have B : BT mg := ⟨PySem.W.mg_none_of X G z_Exception, PySem.W.mg_none_of X G z_bool, PySem.W.mg_none_of X G z_int, PySem.W.mg_none_of X G z_isinstance, PySem.W.mg_none_of X G z_len, PySem.W.mg_none_of X G z_range, PySem.W.mg_none_of X G z_str, PySem.W.mg_none_of X G z_tuple, ⟨t_MOST_NODES, PySem.W.mg_of X G c_MOST_NODES⟩⟩
  have F1 := fun_mk (st := s__law_named) l1 c1 k1
  have b1 := F1.binds (ps := ["mask", "nodes"]) fun _ _ _ _ _ _ us hl => match us, hl with | [_, _], _ => rfl
  have F2 := fun_mk (st := s__law_numbers) l2 c2 k2
  have b2 := F2.binds (ps := ["script"]) fun _ _ _ _ _ _ us hl => match us, hl with | [_], _ => rfl
  have F3 := fun_mk (st := s__law_power) l3 c3 k3
  have b3 := F3.binds (ps := ["count"]) fun _ _ _ _ _ _ us hl => match us, hl with | [_], _ => rfl
  have F4 := fun_mk (st := s__law_so) l4 c4 k4
  have b4 := F4.binds (ps := ["found", "meant"]) fun _ _ _ _ _ _ us hl => match us, hl with | [_, _], _ => rfl
  have F5 := fun_mk (st := s__law_draw) l5 c5 k5
  have b5 := F5.binds (ps := ["row", "at", "limit"]) fun _ _ _ _ _ _ us hl => match us, hl with | [_, _, _], _ => rfl
  have F6 := fun_mk (st := s__law_take) l6 c6 k6
  have b6 := F6.binds (ps := ["row", "spot", "limit"]) fun _ _ _ _ _ _ us hl => match us, hl with | [_, _, _], _ => rfl
  have F7 := fun_mk (st := s_is_integer) l7 c7 k7
  have b7 := F7.binds (ps := ["value"]) fun _ _ _ _ _ _ us hl => match us, hl with | [_], _ => rfl
  have F8 := fun_mk (st := s_is_number) l8 c8 k8
  have b8 := F8.binds (ps := ["value", "low", "high"]) fun _ _ _ _ _ _ us hl => match us, hl with | [_, _, _], _ => rfl
  have F9 := fun_mk (st := s__check_nodes) l9 c9 k9
  have b9 := F9.binds (ps := ["nodes"]) fun _ _ _ _ _ _ us hl => match us, hl with | [_], _ => rfl
  have F10 := fun_mk (st := s__check_stops) l10 c10 k10
  have b10 := F10.binds (ps := ["nodes", "most"]) fun _ _ _ _ _ _ us hl => match us, hl with | [_, _], _ => rfl
  have F11 := fun_mk (st := s__not_named) l11 c11 k11
  have b11 := F11.binds (ps := ["nodes", "mark"]) fun _ _ _ _ _ _ us hl => match us, hl with | [_, _], _ => rfl
  have F12 := fun_mk (st := s__stop_marks) l12 c12 k12
  have b12 := F12.binds (ps := ["nodes", "most"]) fun _ _ _ _ _ _ us hl => match us, hl with | [_, _], _ => rfl
  have F13 := fun_mk (st := s_stops_due) l13 c13 k13
  have b13 := F13.binds (ps := ["nodes", "most"]) fun _ _ _ _ _ _ us hl => match us, hl with | [_, _], _ => rfl
  have F14 := fun_mk (st := s_law) l14 c14 k14
  have b14 := F14.binds (ps := ["script"]) fun _ _ _ _ _ _ us hl => match us, hl with | [_], _ => rfl
  refine ⟨PySem.W.fnOf "law" "law" (defArgs s_law) (defBody s_law) (defScope s_law) .none kV14 dc14 pm14 an14 cd14 ct14, fun s v => .of_eq rfl, fun base _ _ => ?_⟩
  have kn__law_named : Known l.prog w K mg base "_law_named" 2 1 m__law_named := ⟨f1, _, _, ok__law_named F1  B, PySem.W.mg_of X G a1, k1, b1⟩
  have kn__law_numbers : Known l.prog w K mg base "_law_numbers" 1 1 m__law_numbers := ⟨f2, _, _, ok__law_numbers F2  B, PySem.W.mg_of X G a2, k2, b2⟩
  have kn__law_power : Known l.prog w K mg base "_law_power" 1 1 m__law_power := ⟨f3, _, _, ok__law_power F3  B, PySem.W.mg_of X G a3, k3, b3⟩
  have kn__law_so : Known l.prog w K mg base "_law_so" 2 12 (m__law_so 12) := ⟨f4, _, _, ok__law_so F4 (PySem.W.mg_of X G a4) b4  B 12, PySem.W.mg_of X G a4, k4, b4⟩
  have kn__law_draw : Known l.prog w K mg base "_law_draw" 3 1 m__law_draw := ⟨f5, _, _, ok__law_draw F5  B, PySem.W.mg_of X G a5, k5, b5⟩
  have kn__law_take : Known l.prog w K mg base "_law_take" 3 2 m__law_take := ⟨f6, _, _, ok__law_take F6 kn__law_draw B, PySem.W.mg_of X G a6, k6, b6⟩
  have kn_is_integer : Known l.prog w K mg base "is_integer" 1 1 m_is_integer := ⟨f7, _, _, ok_is_integer F7  B, PySem.W.mg_of X G a7, k7, b7⟩
  have kn_is_number : Known l.prog w K mg base "is_number" 3 2 m_is_number := ⟨f8, _, _, ok_is_number F8 kn_is_integer B, PySem.W.mg_of X G a8, k8, b8⟩
  have kn__check_nodes : Known l.prog w K mg base "_check_nodes" 1 3 m__check_nodes := ⟨f9, _, _, ok__check_nodes F9 kn_is_number B, PySem.W.mg_of X G a9, k9, b9⟩
  have kn__check_stops : Known l.prog w K mg base "_check_stops" 2 4 m__check_stops := ⟨f10, _, _, ok__check_stops F10 kn__check_nodes kn_is_number B, PySem.W.mg_of X G a10, k10, b10⟩
  have kn__not_named : Known l.prog w K mg base "_not_named" 2 1 m__not_named := ⟨f11, _, _, ok__not_named F11  B, PySem.W.mg_of X G a11, k11, b11⟩
  have kn__stop_marks : Known l.prog w K mg base "_stop_marks" 2 2 m__stop_marks := ⟨f12, _, _, ok__stop_marks F12 kn__not_named B, PySem.W.mg_of X G a12, k12, b12⟩
  have kn_stops_due : Known l.prog w K mg base "stops_due" 2 5 m_stops_due := ⟨f13, _, _, ok_stops_due F13 kn__check_stops kn__not_named kn__stop_marks B, PySem.W.mg_of X G a13, k13, b13⟩
  exact law_end (ok_law F14 kn__law_named kn__law_numbers kn__law_power kn__law_so kn__law_take kn_stops_due B) hm
end My
set_option linter.all false
set_option maxRecDepth 100000
set_option maxHeartbeats 4000000
namespace My
open PySem PySem.Spec PyProof.Rows L2 AR

/-! ### what the law draws -/
theorem at_nat {row : List Int} {i : Int} (h0 : 0 ≤ i) (h1 : i < row.length) : ∃ x, x ∈ row ∧ atI (row.map Val.int) i = some (.int x) := by
  have hn : i.toNat < row.length := by omega
  refine ⟨row[i.toNat], List.getElem_mem hn, ?_⟩
  have e : ((i.toNat : Nat) : Int) = i := by omega
  have q : (row.map Val.int)[i.toNat]? = some (.int row[i.toNat]) := by rw [List.getElem?_map, List.getElem?_eq_getElem hn]; rfl
  have q2 := atI_nat q
  rw [e] at q2
  exact q2
theorem draw_ok {row : List Int} (h0 : row ≠ []) {ix limit : Int} (ha : 0 ≤ ix) (hl : 0 < limit) {S : Sto} {l : Nat} (hS : S[l]? = some (.lst (row.map .int))) :
    ∃ r : Int, 0 ≤ r ∧ r < limit ∧ m__law_draw [.loc l, .int ix, .int limit] S = .ok (.int r) S := by
  have hn : 0 < (row.length : Int) := by
    have := List.length_pos_iff.mpr h0
    omega
  unfold m__law_draw callD b__law_draw
  by_cases hi : ix < row.length
  · obtain ⟨x, hx, e⟩ := at_nat ha hi
    refine ⟨x % limit, Int.emod_nonneg _ (by omega), Int.emod_lt_of_pos _ hl, ?_⟩
    simp [gLen, hS, gIx, e, hi, cMod_pos hl]
  · have hm0 : 0 ≤ ix % (row.length : Int) := Int.emod_nonneg _ (by omega)
    have hm1 : ix % (row.length : Int) < row.length := Int.emod_lt_of_pos _ hn
    obtain ⟨x, hx, e⟩ := at_nat hm0 hm1
    have c1 : cMul x 40692 = true := cMul_r (by decide) (by decide)
    have c2 : cMul ix 7919 = true := cMul_r (by decide) (by decide)
    have c3 : ∀ y, cMod y 2147483399 = true := fun y => cMod_pos (by decide)
    have c4 : ∀ y, cMod y 2147483647 = true := fun y => cMod_pos (by decide)
    have c5 : ∀ y, cMul y 48271 = true := fun y => cMul_r (by decide) (by decide)
    refine ⟨((x * 40692 + ix * 7919 + 3) % 2147483399 * 48271 + ix) % 2147483647 % limit, Int.emod_nonneg _ (by omega), Int.emod_lt_of_pos _ hl, ?_⟩
    simp [gLen, hS, gIx, e, hi, cMod_pos hl, cMod_pos hn, c1, c2, c3, c4, c5]
theorem take_ok {row : List Int} (h0 : row ≠ []) {k limit : Int} (hk : 0 ≤ k) (hl : 0 < limit) {S : Sto} {l s : Nat} (hS : S[l]? = some (.lst (row.map .int))) (hs : S[s]? = some (.lst [.int k])) (hls : l ≠ s) :
    ∃ r : Int, 0 ≤ r ∧ r < limit ∧ m__law_take [.loc l, .loc s, .int limit] S = .ok (.int r) (S.set s (.lst [.int (k + 1)])) := by
  have hlen : s < S.length := (List.getElem?_eq_some_iff.mp hs).1
  have hS' : (S.set s (.lst [.int (k + 1)]))[l]? = some (.lst (row.map .int)) := by rw [List.getElem?_set_ne (Ne.symm hls)]; exact hS
  have hs' : (S.set s (.lst [.int (k + 1)]))[s]? = some (.lst [.int (k + 1)]) := List.getElem?_set_self hlen
  have a0 : ∀ v : Val, atI [v] 0 = some v := fun v => rfl
  have i0 : ixN 1 0 = some 0 := rfl
  obtain ⟨r, r0, r1, e⟩ := draw_ok h0 (ix := k) (by omega) hl hS'
  refine ⟨r, r0, r1, ?_⟩
  unfold m__law_take callD b__law_take
  simp [gIx, hs, hs', a0, i0, sSetIx, e]
/-- the numbers: a list that is not empty -/
structure Row (row : List Int) : Prop where
  ne : row ≠ []
  len : row.length ≤ 3780
section
variable {S R : Sto} {o o' : Ob}
@[simp] theorem at_here : (S ++ o :: R)[S.length]? = some o := by rw [List.getElem?_append_right (Nat.le_refl _), Nat.sub_self]; rfl
@[simp] theorem at_next {o2 : Ob} : (S ++ o :: o2 :: R)[S.length + 1]? = some o2 := by rw [List.getElem?_append_right (Nat.le_add_right _ 1), Nat.add_sub_cancel_left]; rfl
@[simp] theorem set_here : (S ++ o :: R).set S.length o' = S ++ o' :: R := by rw [List.set_append_right _ _ (Nat.le_refl _), Nat.sub_self]; rfl
end
theorem small_line {n : Nat} (h : n < 100000) : n < sizeLine := by rw [sizeLine_eq]; omega
def NumP (S R : Sto) (v0 : Val) (n : Nat) (σ : Slots) (S' : Sto) : Prop := ∃ (acc : List Int) (x2 x3 x4 x5 : Option Val), σ = [some v0, some (.loc S.length), x2, x3, x4, x5] ∧ S' = S ++ .lst (acc.map .int) :: R ∧ acc.length ≤ n
theorem num_loop3 {S R : Sto} {v0 : Val} {n : Nat} (hn : n < 4000) {σ : Slots} {S' : Sto} {cell : Int} (h : ∃ (acc : List Int) (x3 x4 x5 : Option Val), σ = [some v0, some (.loc S.length), some (.int cell), x3, x4, x5] ∧ S' = S ++ .lst (acc.map .int) :: R ∧ acc.length ≤ n) :
    ∃ σ' S2, AR.forM (itRng 0 4) (gaName 4) lp__law_numbers_2 5 0 σ S' = some (.next σ', S2) ∧ NumP S R v0 (n + 4) σ' S2 := by
  have c3 : ∀ y, cMul y 48271 = true := fun y => cMul_r (by decide) (by decide)
  have c4 : ∀ y, cMul y 69621 = true := fun y => cMul_r (by decide) (by decide)
  have c5 : ∀ y, cMul y 16807 = true := fun y => cMul_r (by decide) (by decide)
  have c6 : ∀ y, cMod y 2147483647 = true := fun y => cMod_pos (by decide)
  have c7 : ∀ y, cMod y 2147483629 = true := fun y => cMod_pos (by decide)
  refine forM_rule (n := 4) (fun r => ∃ σ' S2, r = some (.next σ', S2) ∧ NumP S R v0 (n + 4) σ' S2) (fun i => if i < 4 then some (.int (0 + i)) else none)
    (fun i σ S' => ∃ (acc : List Int) (x3 x4 x5 : Option Val), σ = [some v0, some (.loc S.length), some (.int cell), x3, x4, x5] ∧ S' = S ++ .lst (acc.map .int) :: R ∧ acc.length ≤ n + i) (fun i σ S' _ _ => itRng_at) rfl ?_ ?_ ?_
  · rintro σ S' ⟨acc, x3, x4, x5, rfl, rfl, hl⟩
    exact ⟨_, _, rfl, acc, _, _, _, _, rfl, rfl, hl⟩
  · rintro i σ S' hi ⟨acc, x3, x4, x5, rfl, rfl, hl⟩
    refine ⟨.int (0 + i), [.int (0 + i)], by rw [if_pos hi], rfl, ?_⟩
    have hz : acc.length < sizeLine := small_line (by omega)
    simp [lp__law_numbers_2, eAppend, c3, c4, c5, c6, c7, hz]
    exact ⟨acc ++ [_], by rw [List.map_append]; rfl, by rw [List.length_append, List.length_singleton]; omega⟩
  · obtain ⟨acc, x3, x4, x5, h1, h2, h3⟩ := h
    exact ⟨acc, x3, x4, x5, h1, h2, by omega⟩
theorem num_loop1 {S R : Sto} {v0 : Val} {n : Nat} (hn : n < 4000) {σ : Slots} {S' : Sto} {cell : Int} (h : ∃ (acc : List Int) (x4 x5 : Option Val), σ = [some v0, some (.loc S.length), some (.int cell), some (.int cell), x4, x5] ∧ S' = S ++ .lst (acc.map .int) :: R ∧ acc.length ≤ n) :
    ∃ σ' S2, AR.forM (itRng 0 60) (gaName 4) lp__law_numbers_1 61 0 σ S' = some (.next σ', S2) ∧ NumP S R v0 (n + 60) σ' S2 := by
  have c1 : ∀ y, cMod y 997 = true := fun y => cMod_pos (by decide)
  have c2 : ∀ y, cDiv y 997 = true := fun y => by unfold cDiv; decide
  refine forM_rule (n := 60) (fun r => ∃ σ' S2, r = some (.next σ', S2) ∧ NumP S R v0 (n + 60) σ' S2) (fun i => if i < 60 then some (.int (0 + i)) else none)
    (fun i σ S' => ∃ (acc : List Int) (l : Int) (x4 x5 : Option Val), σ = [some v0, some (.loc S.length), some (.int cell), some (.int l), x4, x5] ∧ S' = S ++ .lst (acc.map .int) :: R ∧ acc.length ≤ n + i) (fun i σ S' _ _ => itRng_at) rfl ?_ ?_ ?_
  · rintro σ S' ⟨acc, l, x4, x5, rfl, rfl, hl⟩
    exact ⟨_, _, rfl, acc, _, _, _, _, rfl, rfl, hl⟩
  · rintro i σ S' hi ⟨acc, l, x4, x5, rfl, rfl, hl⟩
    refine ⟨.int (0 + i), [.int (0 + i)], by rw [if_pos hi], rfl, ?_⟩
    have hz : acc.length < sizeLine := small_line (by omega)
    by_cases h0 : l = 0
    · simp [lp__law_numbers_1, h0]
      exact ⟨_, _, ⟨rfl, rfl⟩, acc, _, _, _, _, rfl, rfl, by omega⟩
    · simp [lp__law_numbers_1, eAppend, c1, c2, hz, h0]
      exact ⟨acc ++ [_], by rw [List.map_append]; rfl, by rw [List.length_append, List.length_singleton]; omega⟩
  · obtain ⟨acc, x4, x5, h1, h2, h3⟩ := h
    exact ⟨acc, _, x4, x5, h1, h2, by omega⟩
theorem NumP.mono {S R : Sto} {v0 : Val} {n m : Nat} {σ : Slots} {S' : Sto} (h : NumP S R v0 n σ S') (hn : n ≤ m) : NumP S R v0 m σ S' := by
  obtain ⟨acc, a, b, c, d, h1, h2, h3⟩ := h
  exact ⟨acc, a, b, c, d, h1, h2, Nat.le_trans h3 hn⟩
theorem numbers_ok {ns : List Int} (hn : ns.length ≤ 63) (S : Sto) : ∃ row, Row row ∧ m__law_numbers [.sc (ns.map .int)] S = .ok (.loc S.length) (S ++ [.lst (row.map .int), .lst (ns.map .int)]) := by
  have hcut : cutA (ns.map Val.int) none (some 63) = ns.map Val.int := by
    unfold cutA
    show (List.take (HT.sIx (ns.map Val.int).length (ns.map Val.int).length (some ((63 : Nat) : Int)) - 0) _) = _
    rw [HT.sIx_nat]
    exact List.take_of_length_le (by rw [HT.sIx_none, List.drop_zero, List.length_map]; omega)
  have p18 : cPow 10 18 = true := by decide
  have loop : ∃ σ' S2, AR.forM (itLst (S.length + 1) ns.length) (gaName 2) lp__law_numbers_3 (ns.length + 1) 0 [some (.sc (ns.map .int)), some (.loc S.length), none, none, none, none] (S ++ [.lst [], .lst (ns.map .int)]) = some (.next σ', S2) ∧ NumP S [.lst (ns.map .int)] (.sc (ns.map .int)) (60 * ns.length) σ' S2 := by
    refine forM_rule (n := ns.length) (fun r => ∃ σ' S2, r = some (.next σ', S2) ∧ NumP S [.lst (ns.map .int)] (.sc (ns.map .int)) (60 * ns.length) σ' S2) (fun i => (ns.map Val.int)[i]?)
      (fun i σ S' => NumP S [.lst (ns.map .int)] (.sc (ns.map .int)) (60 * i) σ S') ?_ (by simp) ?_ ?_ ⟨[], none, none, none, none, rfl, rfl, Nat.zero_le _⟩
    · rintro i σ S' hi ⟨acc, x2, x3, x4, x5, rfl, rfl, hl⟩
      exact itLst_at (by simp) (by simp)
    · intro σ S' h
      exact ⟨σ, S', rfl, h⟩
    · rintro i σ S' hi ⟨acc, x2, x3, x4, x5, rfl, rfl, hl⟩
      refine ⟨.int ns[i], [.int ns[i]], by simp [hi], rfl, ?_⟩
      have hl2 : 60 * i < 4000 := by omega
      by_cases hc : 1000000000000000000 ≤ ns[i]
      · obtain ⟨σ', S2, e, h⟩ := num_loop1 (S := S) (R := [.lst (ns.map .int)]) (v0 := .sc (ns.map .int)) (n := 60 * i) hl2 (σ := [some (.sc (ns.map .int)), some (.loc S.length), some (.int ns[i]), some (.int ns[i]), x4, x5]) (S' := S ++ .lst (acc.map .int) :: [.lst (ns.map .int)]) ⟨acc, x4, x5, rfl, rfl, hl⟩
        simp [lp__law_numbers_3, p18, hc, e]
        exact h.mono (by omega)
      · obtain ⟨σ', S2, e, h⟩ := num_loop3 (S := S) (R := [.lst (ns.map .int)]) (v0 := .sc (ns.map .int)) (n := 60 * i) hl2 (σ := [some (.sc (ns.map .int)), some (.loc S.length), some (.int ns[i]), x3, x4, x5]) (S' := S ++ .lst (acc.map .int) :: [.lst (ns.map .int)]) ⟨acc, x3, x4, x5, rfl, rfl, hl⟩
        simp [lp__law_numbers_3, p18, hc, e]
        exact h.mono (by omega)
  obtain ⟨σ', S2, e, acc, x2, x3, x4, x5, rfl, rfl, hl⟩ := loop
  unfold m__law_numbers callD b__law_numbers
  have hz : acc.length < sizeLine := small_line (by omega)
  cases acc with
  | nil =>
    refine ⟨[0], ⟨by simp, by simp⟩, ?_⟩
    have hz0 : 0 < sizeLine := hz
    simp [eSl, oNone, oSome, hcut, e, gLen, eAppend, hz0]
  | cons x xs =>
    refine ⟨x :: xs, ⟨by simp, by omega⟩, ?_⟩
    have ne : ¬ ((xs.length : Int) + 1 = 0) := by omega
    simp [eSl, oNone, oSome, hcut, e, gLen, ne]
end My
set_option linter.all false
set_option maxRecDepth 100000
set_option maxHeartbeats 4000000
namespace My
open PySem PySem.Spec PyProof.Rows L2 AR
/-- the law behind its draws -/
def lawTail : SM :=
  (sSeq (sSet 5 (eOfL (lDisp aNil)))
  (sSeq (sFor (iRg1 (eCall 1 m__law_power (aCons (eVar 3) aNil))) (gaName 6) lp_law_1)
  (sRet (eCall 2 (m__law_so 12) (aCons (eCall 2 m_stops_due (aCons (eVar 3) (aCons (eVar 4) aNil))) (aCons (eApp gTuple (aCons (eVar 5) aNil)) aNil))))))
def isTrue1 : Option (Out × Sto) → Bool
  | some (.ret (.bl true), _) => true
  | _ => false
theorem isTrue1_of {r : Option (Out × Sto)} (h : isTrue1 r = true) : ∃ S, r = some (.ret (.bl true), S) := by
  unfold isTrue1 at h
  split at h
  · exact ⟨_, rfl⟩
  · cases h
section
variable (v : Val) (a b c : Ob)
abbrev at_ (n m : Int) : Bool := isTrue1 (lawTail [some v, some (.loc 0), some (.loc 2), some (.int n), some (.int m), none, none, none] [a, b, c])
theorem t10 : at_ v a b c 1 0 = true := by kernel_rfl
theorem t11 : at_ v a b c 1 1 = true := by kernel_rfl
theorem t20 : at_ v a b c 2 0 = true := by kernel_rfl
theorem t21 : at_ v a b c 2 1 = true := by kernel_rfl
theorem t22 : at_ v a b c 2 2 = true := by kernel_rfl
theorem t30 : at_ v a b c 3 0 = true := by kernel_rfl
theorem t31 : at_ v a b c 3 1 = true := by kernel_rfl
theorem t32 : at_ v a b c 3 2 = true := by kernel_rfl
theorem t33 : at_ v a b c 3 3 = true := by kernel_rfl
theorem t40 : at_ v a b c 4 0 = true := by kernel_rfl
theorem t41 : at_ v a b c 4 1 = true := by kernel_rfl
theorem t42 : at_ v a b c 4 2 = true := by kernel_rfl
theorem t43 : at_ v a b c 4 3 = true := by kernel_rfl
theorem t44 : at_ v a b c 4 4 = true := by kernel_rfl
theorem tail_ok {n m : Int} (h1 : 1 ≤ n) (h2 : n ≤ 4) (h3 : 0 ≤ m) (h4 : m ≤ n) : at_ v a b c n m = true := by
  rcases (by omega : n = 1 ∨ n = 2 ∨ n = 3 ∨ n = 4) with rfl | rfl | rfl | rfl
  · rcases (by omega : m = 0 ∨ m = 1) with rfl | rfl
    · exact t10 v a b c
    · exact t11 v a b c
  · rcases (by omega : m = 0 ∨ m = 1 ∨ m = 2) with rfl | rfl | rfl
    · exact t20 v a b c
    · exact t21 v a b c
    · exact t22 v a b c
  · rcases (by omega : m = 0 ∨ m = 1 ∨ m = 2 ∨ m = 3) with rfl | rfl | rfl | rfl
    · exact t30 v a b c
    · exact t31 v a b c
    · exact t32 v a b c
    · exact t33 v a b c
  · rcases (by omega : m = 0 ∨ m = 1 ∨ m = 2 ∨ m = 3 ∨ m = 4) with rfl | rfl | rfl | rfl | rfl
    · exact t40 v a b c
    · exact t41 v a b c
    · exact t42 v a b c
    · exact t43 v a b c
    · exact t44 v a b c
end
theorem law_true (ns : List Int) (hn : ns.length ≤ 63) : ∃ S, m_law [.sc (ns.map .int)] [] = .ok (.bl true) S := by
  obtain ⟨row, hr, e⟩ := numbers_ok hn []
  have e : m__law_numbers [.sc (ns.map .int)] [] = .ok (.loc 0) [.lst (row.map .int), .lst (ns.map .int)] := e
  obtain ⟨r1, a0, a1, e1⟩ := take_ok hr.ne (k := 0) (limit := 4) (by omega) (by omega) (S := [.lst (row.map .int), .lst (ns.map .int), .lst [.int 0]]) (l := 0) (s := 2) rfl rfl (by decide)
  have e1 : m__law_take [.loc 0, .loc 2, .int 4] [.lst (row.map .int), .lst (ns.map .int), .lst [.int 0]] = .ok (.int r1) [.lst (row.map .int), .lst (ns.map .int), .lst [.int 1]] := e1
  obtain ⟨r2, b0, b1, e2⟩ := take_ok hr.ne (k := 1) (limit := 1 + r1 + 1) (by omega) (by omega) (S := [.lst (row.map .int), .lst (ns.map .int), .lst [.int 1]]) (l := 0) (s := 2) rfl rfl (by decide)
  have e2 : m__law_take [.loc 0, .loc 2, .int (1 + r1 + 1)] [.lst (row.map .int), .lst (ns.map .int), .lst [.int 1]] = .ok (.int r2) [.lst (row.map .int), .lst (ns.map .int), .lst [.int 2]] := e2
  obtain ⟨S, hS⟩ := isTrue1_of (tail_ok (.sc (ns.map .int)) (.lst (row.map .int)) (.lst (ns.map .int)) (.lst [.int 2]) (n := 1 + r1) (m := r2) (by omega) (by omega) b0 (by omega))
  refine ⟨S, ?_⟩
  have split : b_law = sSeq (sSet 1 (eCall 1 m__law_numbers (aCons (eVar 0) aNil))) (sSeq (sSet 2 (eOfL (lDisp (aCons (eC (.int 0)) aNil))))
    (sSeq (sSet 3 (eBin gAdd (eC (.int 1)) (eCall 3 m__law_take (aCons (eVar 1) (aCons (eVar 2) (aCons (eC (.int 4)) aNil))))))
    (sSeq (sSet 4 (eCall 3 m__law_take (aCons (eVar 1) (aCons (eVar 2) (aCons (eBin gAdd (eVar 3) (eC (.int 1))) aNil))))) lawTail))) := rfl
  unfold m_law callD
  rw [split]
  simp [e, e1, e2, hS]
end My
open PySem PySem.W PyProof.Rows
set_option maxRecDepth 100000 in
set_option maxHeartbeats 0 in
theorem PySem.Challenge.cw_alikeruns_k07_when_stopping_nodes_are_du_holds : PySem.Challenge.rw_alikeruns_k07_when_stopping_nodes_are_du.Holds := by
  w_on; o_law; k_head; (case hw => w_witness2)
  k_fill
  refine L2.walk_of (l := PySem.Challenge.rw_alikeruns_k07_when_stopping_nodes_are_du) (n := 63) (k := 13) (x := "script") (CX := fun w => L2.CX PySem.Challenge.rw_alikeruns_k07_when_stopping_nodes_are_du.prog w) (sp := fun w => AR.spLaw _) rfl (by decide) rfl ⟨rfl, by decide, by decide⟩ (fun w h Y => PySem.W.kIn_of Y) ?F (fun _ _ a ns hl hO hS => ⟨a, ns, rfl, hS, hO, hl, fun _ => rfl⟩) (fun _ _ _ _ _ h => AR.cx_out h)
  case F =>
    intro w mg fa h KX G hmg
    refine' My.all_mk KX G hmg ?a1 ?l1 ?c1 ?k1 ?a2 ?l2 ?c2 ?k2 ?a3 ?l3 ?c3 ?k3 ?a4 ?l4 ?c4 ?k4 ?a5 ?l5 ?c5 ?k5 ?a6 ?l6 ?c6 ?k6 ?a7 ?l7 ?c7 ?k7 ?a8 ?l8 ?c8 ?k8 ?a9 ?l9 ?c9 ?k9 ?a10 ?l10 ?c10 ?k10 ?a11 ?l11 ?c11 ?k11 ?a12 ?l12 ?c12 ?k12 ?a13 ?l13 ?c13 ?k13 ?a14 ?l14 ?c14 ?k14 ?z_Exception ?z_bool ?z_int ?z_isinstance ?z_len ?z_range ?z_str ?z_tuple ?c_MOST_NODES My.law_true
    (case a1 => k_is); (case l1 => k_is); (case c1 => k_is); (case k1 => k_is); (case a2 => k_is); (case l2 => k_is); (case c2 => k_is); (case k2 => k_is); (case a3 => k_is); (case l3 => k_is); (case c3 => k_is); (case k3 => k_is); (case a4 => k_is); (case l4 => k_is); (case c4 => k_is); (case k4 => k_is); (case a5 => k_is); (case l5 => k_is); (case c5 => k_is); (case k5 => k_is); (case a6 => k_is); (case l6 => k_is); (case c6 => k_is); (case k6 => k_is); (case a7 => k_is); (case l7 => k_is); (case c7 => k_is); (case k7 => k_is); (case a8 => k_is); (case l8 => k_is); (case c8 => k_is); (case k8 => k_is); (case a9 => k_is); (case l9 => k_is); (case c9 => k_is); (case k9 => k_is); (case a10 => k_is); (case l10 => k_is); (case c10 => k_is); (case k10 => k_is); (case a11 => k_is); (case l11 => k_is); (case c11 => k_is); (case k11 => k_is); (case a12 => k_is); (case l12 => k_is); (case c12 => k_is); (case k12 => k_is); (case a13 => k_is); (case l13 => k_is); (case c13 => k_is); (case k13 => k_is); (case a14 => k_is); (case l14 => k_is); (case c14 => k_is); (case k14 => k_is); (case z_Exception => k_is); (case z_bool => k_is); (case z_int => k_is); (case z_isinstance => k_is); (case z_len => k_is); (case z_range => k_is); (case z_str => k_is); (case z_tuple => k_is); (case c_MOST_NODES => k_is)
