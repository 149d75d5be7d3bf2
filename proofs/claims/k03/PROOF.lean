import PyProof.Rows.All
import Wide.All
import OpenK.AllK
import Wide.FinOn
import HandS.ForMost
import HandS.Exc
import HandS.Walk
import KE.DataEq
import HandS.IsInst
import HandS.Style
import HandS.Wide
import HandS.TupAny
import HandS.RaiseMore
import HandS.Iter
import HandS.Comp
import HandS.Defaults
import HandS.HeadEnd
import HandS.WordsExc
import HandS.NoneIn
import HandS.Text
import HandS.TryMany
import HandS.ExcInit
import HandS.ExcField
import HandS.Head0
import HandS.Head1
import HandS.Head2
import HandS.HeadHook1
import HandS.HeadHook2
import KE.KExcIs
import PyProof.CollectIter
import PyProof.WalksMore
import PyProof.MakeMany
import HandS.MakeKwOnly
import PySem.Challenge.RW_addednames_k03_additions
set_option Elab.async false
set_option linter.all false
set_option maxRecDepth 100000
set_option maxHeartbeats 4000000
/-! Ev0: values as trees, what an address holds as a tree, states, outcomes. -/
namespace Ev
open PySem PySem.Spec L2

/-- a value with all that hangs on it -/
inductive T where
  | non | bl (b : Bool) | int (i : Int) | str (s : Str)
  | tup (ts : List T) | lst (ts : List T)
  | dK (kvs : List (Key × T)) | dT (kvs : List (List Key × T))
  | ins (c : Nat) (fs : List (Str × T))
  deriving Inhabited

/-- the written part, and where the classes stand -/
structure Gr where
  K : PySem.W.Frag
  ca : Nat → Addr

/-- a list: tracked, known, or an object of the written part -/
def LstAt (K : PySem.W.Frag) (F : Hp) (a : Addr) (xs : List V) : Prop :=
  Rd F a (.lst xs) ∨ ∃ (its : List Value) (n : Nat), K.lookup a = some { cls := .type "list", data := .seq its.toArray n } ∧ its.length ≤ sizeLine ∧ Vals xs its
theorem LstAt.sq {K : PySem.W.Frag} {F : Hp} {a : Addr} {xs : List V} (h : LstAt K F a xs) : SqL K F a xs := by
  rcases h with h | ⟨its, n, h1, h2, h3⟩
  · exact .inl h
  · exact .inr ⟨_, its.toArray, n, h1, rfl, rfl, rfl, by simpa using h2, by simpa using h3⟩
theorem LstAt.obj {X : Cx} {pins : List (Addr × Obj)} {σ : L2.St} {H : Hp} {s : Shared} {a : Addr} {xs : List V} (I : Inv X pins σ H s) (h : LstAt X.K H a xs) :
    ∃ (its : List Value) (n : Nat), Vals xs its ∧ s.heap.get? a = some { cls := .type "list", data := .seq its.toArray n } := by
  rcases h with h | ⟨its, n, h1, h2, h3⟩
  · obtain ⟨_, its, n, r, e⟩ := h.ok I.hok
    exact ⟨its, n, r, e⟩
  · exact ⟨its, n, h3, I.kIn _ _ h1⟩
mutual
def Rep (G : Gr) (F : Hp) : T → V → Prop
  | .non, x => x = .non
  | .bl b, x => x = .bl b
  | .int i, x => x = .int i
  | .str s, x => x = .str s
  | .tup ts, x => ∃ a xs, x = .ref a ∧ SqT G.K F a xs ∧ RepL G F ts xs
  | .lst ts, x => ∃ a xs, x = .ref a ∧ LstAt G.K F a xs ∧ RepL G F ts xs
  | .dK kvs, x => ∃ a vs, x = .ref a ∧ F a = some (.dK vs) ∧ RepK G F kvs vs
  | .dT kvs, x => ∃ a vs, x = .ref a ∧ F a = some (.dT vs) ∧ RepD G F kvs vs
  | .ins c fs, x => ∃ a dx vs, x = .ref a ∧ F a = some (.ins (G.ca c) dx vs) ∧ RepF G F fs vs
def RepL (G : Gr) (F : Hp) : List T → List V → Prop
  | [], xs => xs = []
  | t :: ts, xs => ∃ x r, xs = x :: r ∧ Rep G F t x ∧ RepL G F ts r
def RepK (G : Gr) (F : Hp) : List (Key × T) → List (Key × V) → Prop
  | [], xs => xs = []
  | (k, t) :: ts, xs => ∃ x r, xs = (k, x) :: r ∧ Rep G F t x ∧ RepK G F ts r
def RepD (G : Gr) (F : Hp) : List (List Key × T) → List (List Key × V) → Prop
  | [], xs => xs = []
  | (k, t) :: ts, xs => ∃ x r, xs = (k, x) :: r ∧ Rep G F t x ∧ RepD G F ts r
def RepF (G : Gr) (F : Hp) : List (Str × T) → List (Str × V) → Prop
  | [], xs => xs = []
  | (k, t) :: ts, xs => ∃ x r, xs = (k, x) :: r ∧ Rep G F t x ∧ RepF G F ts r
end

/-- a heap that knows more -/
def Le (F F' : Hp) : Prop := ∀ a o, F a = some o → F' a = some o
theorem Le.rfl {F : Hp} : Le F F := fun _ _ h => h
theorem Le.trans {F F' F'' : Hp} (h : Le F F') (h' : Le F' F'') : Le F F'' := fun a o e => h' a o (h a o e)
theorem Le.upd {F : Hp} {a : Addr} {o : HO} (h : F a = none) : Le F (upd F a o) := fun b u e => by rw [upd_ne (ne_of_none e h)]; exact e
theorem Le.ne {F F' : Hp} {a : Addr} (h : Le F F') (n : F a ≠ none) : F' a ≠ none := by
  cases e : F a with
  | none => exact absurd e n
  | some o => rw [h _ _ e]; exact fun z => nomatch z
theorem Le.sqT {K : PySem.W.Frag} {F F' : Hp} {a : Addr} {xs : List V} (h : Le F F') (q : SqT K F a xs) : SqT K F' a xs := by
  rcases q with (q | ⟨o, q⟩) | q
  · exact .inl (.inl (h _ _ q))
  · exact .inl (.inr ⟨o, h _ _ q⟩)
  · exact .inr q
theorem Le.rd {F F' : Hp} {a : Addr} {u : HO} (h : Le F F') (q : Rd F a u) : Rd F' a u := by
  rcases q with q | ⟨o, q⟩
  · exact .inl (h _ _ q)
  · exact .inr ⟨o, h _ _ q⟩

theorem Le.lstAt {K : PySem.W.Frag} {F F' : Hp} {a : Addr} {xs : List V} (h : Le F F') (q : LstAt K F a xs) : LstAt K F' a xs := by
  rcases q with q | q
  · exact .inl (h.rd q)
  · exact .inr q
mutual
theorem Rep.mono {G : Gr} {F F' : Hp} (h : Le F F') : ∀ (t : T) {x : V}, Rep G F t x → Rep G F' t x
  | .non, _, r => by simpa only [Rep] using r
  | .bl _, _, r => by simpa only [Rep] using r
  | .int _, _, r => by simpa only [Rep] using r
  | .str _, _, r => by simpa only [Rep] using r
  | .tup ts, _, r => by
    simp only [Rep] at r ⊢
    obtain ⟨a, xs, e, q, l⟩ := r
    exact ⟨a, xs, e, h.sqT q, RepL.mono h ts l⟩
  | .lst ts, _, r => by
    simp only [Rep] at r ⊢
    obtain ⟨a, xs, e, q, l⟩ := r
    exact ⟨a, xs, e, h.lstAt q, RepL.mono h ts l⟩
  | .dK ts, _, r => by
    simp only [Rep] at r ⊢
    obtain ⟨a, xs, e, q, l⟩ := r
    exact ⟨a, xs, e, h _ _ q, RepK.mono h ts l⟩
  | .dT ts, _, r => by
    simp only [Rep] at r ⊢
    obtain ⟨a, xs, e, q, l⟩ := r
    exact ⟨a, xs, e, h _ _ q, RepD.mono h ts l⟩
  | .ins c ts, _, r => by
    simp only [Rep] at r ⊢
    obtain ⟨a, dx, xs, e, q, l⟩ := r
    exact ⟨a, dx, xs, e, h _ _ q, RepF.mono h ts l⟩
theorem RepL.mono {G : Gr} {F F' : Hp} (h : Le F F') : ∀ (ts : List T) {xs : List V}, RepL G F ts xs → RepL G F' ts xs
  | [], _, r => by simpa only [RepL] using r
  | t :: ts, _, r => by
    simp only [RepL] at r ⊢
    obtain ⟨x, r, e, q, l⟩ := r
    exact ⟨x, r, e, Rep.mono h t q, RepL.mono h ts l⟩
theorem RepK.mono {G : Gr} {F F' : Hp} (h : Le F F') : ∀ (ts : List (Key × T)) {xs : List (Key × V)}, RepK G F ts xs → RepK G F' ts xs
  | [], _, r => by simpa only [RepK] using r
  | (k, t) :: ts, _, r => by
    simp only [RepK] at r ⊢
    obtain ⟨x, r, e, q, l⟩ := r
    exact ⟨x, r, e, Rep.mono h t q, RepK.mono h ts l⟩
theorem RepD.mono {G : Gr} {F F' : Hp} (h : Le F F') : ∀ (ts : List (List Key × T)) {xs : List (List Key × V)}, RepD G F ts xs → RepD G F' ts xs
  | [], _, r => by simpa only [RepD] using r
  | (k, t) :: ts, _, r => by
    simp only [RepD] at r ⊢
    obtain ⟨x, r, e, q, l⟩ := r
    exact ⟨x, r, e, Rep.mono h t q, RepD.mono h ts l⟩
theorem RepF.mono {G : Gr} {F F' : Hp} (h : Le F F') : ∀ (ts : List (Str × T)) {xs : List (Str × V)}, RepF G F ts xs → RepF G F' ts xs
  | [], _, r => by simpa only [RepF] using r
  | (k, t) :: ts, _, r => by
    simp only [RepF] at r ⊢
    obtain ⟨x, r, e, q, l⟩ := r
    exact ⟨x, r, e, Rep.mono h t q, RepF.mono h ts l⟩
end

section
variable {G : Gr} {F : Hp} {t : T} {ts us : List T} {x : V} {xs ys : List V}
theorem RepL.nil : RepL G F [] [] := by simp only [RepL]
theorem RepL.cons (h : Rep G F t x) (r : RepL G F ts xs) : RepL G F (t :: ts) (x :: xs) := by simp only [RepL]; exact ⟨x, xs, rfl, h, r⟩
theorem RepL.uncons (h : RepL G F (t :: ts) xs) : ∃ x r, xs = x :: r ∧ Rep G F t x ∧ RepL G F ts r := by simpa only [RepL] using h
theorem RepL.unnil (h : RepL G F [] xs) : xs = [] := by simpa only [RepL] using h
theorem RepL.length : ∀ {ts : List T} {xs : List V}, RepL G F ts xs → xs.length = ts.length
  | [], xs, h => by rw [h.unnil]; rfl
  | t :: ts, xs, h => by
    obtain ⟨x, r, e, _, q⟩ := h.uncons
    subst e
    simp [RepL.length q]
theorem RepL.append : ∀ {ts : List T} {xs : List V}, RepL G F ts xs → RepL G F us ys → RepL G F (ts ++ us) (xs ++ ys)
  | [], xs, h, q => by rw [h.unnil]; exact q
  | t :: ts, xs, h, q => by
    obtain ⟨x, r, e, h1, h2⟩ := h.uncons
    subst e
    exact .cons h1 (RepL.append h2 q)
theorem RepL.get : ∀ {ts : List T} {xs : List V} {i : Nat} {t : T}, RepL G F ts xs → ts[i]? = some t → ∃ x, xs[i]? = some x ∧ Rep G F t x
  | [], _, _, _, _, e => by simp at e
  | t :: ts, xs, 0, u, h, e => by
    obtain ⟨x, r, e1, h1, h2⟩ := h.uncons
    subst e1
    simp at e
    subst e
    exact ⟨x, rfl, h1⟩
  | t :: ts, xs, i + 1, u, h, e => by
    obtain ⟨x, r, e1, h1, h2⟩ := h.uncons
    subst e1
    simpa using RepL.get (i := i) h2 (by simpa using e)
theorem RepL.getV : ∀ {ts : List T} {xs : List V} {i : Nat} {x : V}, RepL G F ts xs → xs[i]? = some x → ∃ t, ts[i]? = some t ∧ Rep G F t x
  | [], xs, i, x, h, e => by rw [h.unnil] at e; simp at e
  | t :: ts, xs, 0, u, h, e => by
    obtain ⟨x, r, e1, h1, h2⟩ := h.uncons
    subst e1
    simp at e
    subst e
    exact ⟨t, rfl, h1⟩
  | t :: ts, xs, i + 1, u, h, e => by
    obtain ⟨x, r, e1, h1, h2⟩ := h.uncons
    subst e1
    simpa using RepL.getV (i := i) h2 (by simpa using e)
theorem RepL.set : ∀ {ts : List T} {xs : List V} (i : Nat), RepL G F ts xs → Rep G F t x → RepL G F (ts.set i t) (xs.set i x)
  | [], xs, i, h, q => by rw [h.unnil]; exact .nil
  | t :: ts, xs, 0, h, q => by
    obtain ⟨x, r, e1, h1, h2⟩ := h.uncons
    subst e1
    exact .cons q h2
  | t :: ts, xs, i + 1, h, q => by
    obtain ⟨x, r, e1, h1, h2⟩ := h.uncons
    subst e1
    exact .cons h1 (RepL.set i h2 q)
theorem RepL.take : ∀ {ts : List T} {xs : List V} (n : Nat), RepL G F ts xs → RepL G F (ts.take n) (xs.take n)
  | ts, xs, 0, h => by simp only [List.take_zero]; exact .nil
  | [], xs, n + 1, h => by rw [h.unnil]; exact .nil
  | t :: ts, xs, n + 1, h => by
    obtain ⟨x, r, e1, h1, h2⟩ := h.uncons
    subst e1
    exact .cons h1 (RepL.take n h2)
theorem RepL.drop : ∀ {ts : List T} {xs : List V} (n : Nat), RepL G F ts xs → RepL G F (ts.drop n) (xs.drop n)
  | ts, xs, 0, h => h
  | [], xs, n + 1, h => by rw [h.unnil]; exact .nil
  | t :: ts, xs, n + 1, h => by
    obtain ⟨x, r, e1, h1, h2⟩ := h.uncons
    subst e1
    exact RepL.drop n h2
end

/-! ### states -/
inductive Sl where
  | un | fz (t : T) | ow (t : T) | io (t : T)
  deriving Inhabited
abbrev Env := List Sl
/-- a value at hand: frozen, new and one's own, the object of the slot i -/
inductive Rv where
  | fz (t : T) | ow (t : T) | bo (i : Nat)
/-- what stands at an own object's address -/
def Top (G : Gr) (F : Hp) (o : HO) : T → Prop
  | .lst ts => ∃ xs, o = .lst xs ∧ RepL G F ts xs
  | .dK kvs => ∃ vs, o = .dK vs ∧ RepK G F kvs vs
  | .dT kvs => ∃ vs, o = .dT vs ∧ RepD G F kvs vs
  | .ins c fs => ∃ dx vs, o = .ins (G.ca c) dx vs ∧ RepF G F fs vs
  | _ => False
theorem Top.mono {G : Gr} {F F' : Hp} (h : Le F F') {o : HO} : ∀ {t : T}, Top G F o t → Top G F' o t
  | .lst ts, ⟨xs, e, r⟩ => ⟨xs, e, RepL.mono h ts r⟩
  | .dK ts, ⟨xs, e, r⟩ => ⟨xs, e, RepK.mono h ts r⟩
  | .dT ts, ⟨xs, e, r⟩ => ⟨xs, e, RepD.mono h ts r⟩
  | .ins c ts, ⟨dx, xs, e, r⟩ => ⟨dx, xs, e, RepF.mono h ts r⟩
/-- an own object becomes a frozen one -/
theorem Top.rep {G : Gr} {F : Hp} {o : HO} {a : Addr} (e : F a = some o) : ∀ {t : T}, Top G F o t → Rep G F t (.ref a)
  | .lst ts, ⟨xs, q, r⟩ => by simp only [Rep]; subst q; exact ⟨a, xs, rfl, .inl (.inl e), r⟩
  | .dK ts, ⟨xs, q, r⟩ => by simp only [Rep]; subst q; exact ⟨a, xs, rfl, e, r⟩
  | .dT ts, ⟨xs, q, r⟩ => by simp only [Rep]; subst q; exact ⟨a, xs, rfl, e, r⟩
  | .ins c ts, ⟨dx, xs, q, r⟩ => by simp only [Rep]; subst q; exact ⟨a, dx, xs, rfl, e, r⟩
def isDk : HO → Bool
  | .dK _ => true
  | .dT _ => true
  | _ => false
/-- it stands there (a dict may be walked) -/
def Hd (H : Hp) (a : Addr) (o : HO) : Prop := H a = some o ∨ (isDk o = true ∧ ∃ ob, H a = some (.frz ob o))
theorem Hd.rd {H : Hp} {a : Addr} {o : HO} (h : Hd H a o) : Rd H a o := by
  rcases h with h | ⟨_, ob, h⟩
  · exact .inl h
  · exact .inr ⟨ob, h⟩
theorem Hd.some {H : Hp} {a : Addr} {o : HO} (h : Hd H a o) : ∃ u, H a = some u := by
  rcases h with h | ⟨_, ob, h⟩
  · exact ⟨_, h⟩
  · exact ⟨_, h⟩
def SlOk (G : Gr) (F H : Hp) (x : Option V) : Sl → Prop
  | .un => True
  | .fz t => ∃ v, x = Option.some v ∧ Rep G F t v
  | .ow t => ∃ a o, x = Option.some (.ref a) ∧ H a = Option.some o ∧ F a = none ∧ Top G F o t
  | .io t => ∃ a o, x = Option.some (.ref a) ∧ H a = Option.some o ∧ F a = none ∧ Top G F o t
/-- what is around: objects that are to stay, the places of the arguments that are changed in place -/
structure Amb where
  h : Hp
  p : Nat → Option Addr
  l : Hp
/-- the slot i has an object of its own -/
def OwnAt (env : Env) (i : Nat) (t : T) : Prop := env[i]? = some (.ow t) ∨ env[i]? = some (.io t)

/-- the state: frozen objects F, others that are to stay Tm, the slots' own objects -/
structure Sok (G : Gr) (Tm : Amb) (F H : Hp) (σ : St) (env : Env) : Prop where
  sub : ∀ a o, F a = some o → Hd H a o
  tm : ∀ a o, Tm.h a = some o → H a = some o ∧ F a = none
  len : σ.length = env.length
  slot : ∀ (i : Nat) s, env[i]? = some s → ∃ x, σ[i]? = some x ∧ SlOk G F H x s
  apart : ∀ (i j : Nat) a t u, OwnAt env i t → σ[i]? = some (some (.ref a)) → OwnAt env j u → σ[j]? = some (some (.ref a)) → i = j
  tmo : ∀ (i : Nat) a t, OwnAt env i t → σ[i]? = some (some (.ref a)) → Tm.h a = none
  lk : ∀ a o, Tm.l a = some o → H a = some o ∧ F a ≠ none
  pio : ∀ (i : Nat) t, env[i]? = some (.io t) → ∃ a, Tm.p i = some a ∧ σ[i]? = some (some (.ref a))

/-! ### outcomes -/
inductive Out (α : Type) where
  | ok (a : α) (e : Env)
  | ex (c : Nat) (fs : List (Str × T)) (e : Env)
  | no
abbrev M (α : Type) := Env → Out α
def Out.bind {α β : Type} (m : Out α) (k : α → M β) : Out β := match m with
  | .ok a e => k a e
  | .ex c fs e => .ex c fs e
  | .no => .no
def M.bind {α β : Type} (m : M α) (k : α → M β) : M β := fun e => (m e).bind k
def M.pure {α : Type} (a : α) : M α := fun e => .ok a e
def M.no {α : Type} : M α := fun _ => .no
def M.of {α : Type} : Option α → M α
  | some a => M.pure a
  | none => M.no

/-- where a body runs: its context, what it wishes of exceptions -/
structure Cy where
  X : Cx
  ca : Nat → Addr
  W : WX
abbrev Cy.G (C : Cy) : Gr := ⟨C.X.K, C.ca⟩

abbrev RelT (α β : Type) := Amb → Hp → Hp → St → Env → α → β → Prop
/-- what an outcome asks of the goal -/
def At {α β : Type} (C : Cy) (R : RelT α β) (Tm : Amb) (F : Hp) (σ : St) (Q : β → Hp → Prop) : Out α → Prop
  | .ok a env => ∀ b F' H', Le F F' → Sok C.G Tm F' H' σ env → R Tm F' H' σ env a b → Q b H'
  | .ex c fs env => ∀ d F' H' vs, Le F F' → Sok C.G Tm F' H' σ env → H' d = some (.xd vs) → RepF C.G F' fs vs → C.W (.ref (C.ca c)) (some d) σ H'
  | .no => False
def tG {α β : Type} (C : Cy) (R : RelT α β) (f : M α) : St → Hp → (β → Hp → Prop) → Prop := fun σ H Q => ∃ Tm F env, Sok C.G Tm F H σ env ∧ At C R Tm F σ Q (f env)

section
variable {α β γ δ : Type} {C : Cy} {R : RelT α β} {R' : RelT γ δ} {Tm : Amb} {F F' H : Hp} {σ : St} {Q : β → Hp → Prop} {Q' : δ → Hp → Prop}
theorem At.weak (h : Le F F') : ∀ {m : Out α}, At C R Tm F σ Q m → At C R Tm F' σ Q m
  | .ok a env, q => fun b F2 H2 l s r => q b F2 H2 (h.trans l) s r
  | .ex c fs env, q => fun d F2 H2 vs l s e r => q d F2 H2 vs (h.trans l) s e r
  | .no, q => q
theorem At.bind {m : Out α} {k : α → M γ} {Q1 : β → Hp → Prop} (h : At C R' Tm F σ Q' (m.bind k))
    (step : ∀ a env b F' H', Le F F' → Sok C.G Tm F' H' σ env → R Tm F' H' σ env a b → At C R' Tm F' σ Q' (k a env) → Q1 b H') : At C R Tm F σ Q1 m := by
  cases m with
  | ok a env => exact fun b F' H' l s r => step a env b F' H' l s r (At.weak l h)
  | ex c fs env => exact h
  | no => exact h
theorem At.mono {m : Out α} {Q1 : β → Hp → Prop} (h : At C R Tm F σ Q m) (hq : ∀ b H, Q b H → Q1 b H) : At C R Tm F σ Q1 m := by
  cases m with
  | ok a env => exact fun b F' H' l s r => hq _ _ (h b F' H' l s r)
  | ex c fs env => exact h
  | no => exact h
end
end Ev
/-! Ev1: judgements; names, constants; what is at hand, frozen, held. -/
namespace Ev
open PySem PySem.Spec L2

section
variable {G : Gr} {Tm : Amb} {F H : Hp} {σ : St} {env : Env}
theorem Sok.sqT (S : Sok G Tm F H σ env) {a : Addr} {xs : List V} (q : SqT G.K F a xs) : SqT G.K H a xs := by
  rcases q with (q | ⟨o, q⟩) | q
  · exact .inl (S.sub _ _ q).rd
  · rcases S.sub _ _ q with h | ⟨h, _⟩
    · exact .inl (.inr ⟨o, h⟩)
    · cases h
  · exact .inr q
theorem Sok.rd (S : Sok G Tm F H σ env) {a : Addr} {u : HO} (q : Rd F a u) : Rd H a u := by
  rcases q with q | ⟨o, q⟩
  · exact (S.sub _ _ q).rd
  · rcases S.sub _ _ q with h | ⟨h, _⟩
    · exact .inr ⟨o, h⟩
    · cases h
theorem Sok.lstAt (S : Sok G Tm F H σ env) {a : Addr} {xs : List V} (q : LstAt G.K F a xs) : LstAt G.K H a xs := by
  rcases q with q | q
  · exact .inl (S.rd q)
  · exact .inr q
theorem Sok.new (S : Sok G Tm F H σ env) {a : Addr} (h : H a = none) : F a = none ∧ Tm.h a = none := by
  constructor
  · cases e : F a with
    | none => rfl
    | some o =>
      obtain ⟨u, q⟩ := (S.sub _ _ e).some
      rw [h] at q
      cases q
  · cases e : Tm.h a with
    | none => rfl
    | some o =>
      have q := (S.tm _ _ e).1
      rw [h] at q
      cases q
theorem SlOk.mono {F F' H : Hp} {x : Option V} (h : Le F F') : ∀ {s : Sl}, (∀ a t, (s = .ow t ∨ s = .io t) → x = some (.ref a) → F' a = none) → SlOk G F H x s → SlOk G F' H x s
  | .un, _, q => q
  | .fz t, _, ⟨v, e, r⟩ => ⟨v, e, Rep.mono h t r⟩
  | .ow t, n, ⟨a, o, e, r, f, p⟩ => ⟨a, o, e, r, n a t (.inl rfl) e, p.mono h⟩
  | .io t, n, ⟨a, o, e, r, f, p⟩ => ⟨a, o, e, r, n a t (.inr rfl) e, p.mono h⟩
theorem SlOk.own {x : Option V} {s : Sl} {t : T} (h : s = .ow t ∨ s = .io t) (k : SlOk G F H x s) : ∃ a o, x = some (.ref a) ∧ H a = some o ∧ F a = none ∧ Top G F o t := by
  rcases h with h | h
  · subst h
    exact k
  · subst h
    exact k
theorem OwnAt.get {i : Nat} {t : T} (h : OwnAt env i t) : ∃ s, env[i]? = some s ∧ (s = .ow t ∨ s = .io t) := by
  rcases h with h | h
  · exact ⟨_, h, .inl rfl⟩
  · exact ⟨_, h, .inr rfl⟩
theorem OwnAt.of {i : Nat} {t : T} {s : Sl} (h : s = .ow t ∨ s = .io t) (e : env[i]? = some s) : OwnAt env i t := by
  rcases h with h | h
  · subst h
    exact .inl e
  · subst h
    exact .inr e
/-- an object of one's own is frozen; the slot i, if it is there, with it -/
theorem Sok.freeze (S : Sok G Tm F H σ env) {a : Addr} {o : HO} {t : T} {env' : Env} (ha : H a = some o) (hf : F a = none) (ht : Tm.h a = none) (top : Top G F o t) (hl : env'.length = env.length)
    (he : ∀ (i : Nat) s, env'[i]? = some s → (env[i]? = some s ∧ ∀ u, (s = .ow u ∨ s = .io u) → σ[i]? ≠ some (some (.ref a))) ∨ (s = .fz t ∧ σ[i]? = some (some (.ref a)))) :
    ∃ F', Le F F' ∧ Sok G Tm F' H σ env' ∧ Rep G F' t (.ref a) := by
  have le : Le F (upd F a o) := Le.upd hf
  have rep : Rep G (upd F a o) t (.ref a) := Top.rep upd_same (top.mono le)
  have back : ∀ {i : Nat} {u : T}, OwnAt env' i u → OwnAt env i u := fun {i u} h => by
    obtain ⟨s, e, k⟩ := h.get
    rcases he i s e with ⟨e1, _⟩ | ⟨e1, _⟩
    · exact .of k e1
    · subst e1
      rcases k with k | k <;> cases k
  refine ⟨upd F a o, le, ⟨fun b u e => ?_, fun b u e => ?_, by rw [S.len, hl], fun i s e => ?_, fun i j b t1 u1 h1 h2 h3 h4 => S.apart i j b t1 u1 (back h1) h2 (back h3) h4, fun i b t1 h1 h2 => S.tmo i b t1 (back h1) h2, fun b u e => ⟨(S.lk b u e).1, le.ne (S.lk b u e).2⟩, fun i u h => ?_⟩, rep⟩
  · by_cases hb : b = a
    · subst hb
      rw [upd_same] at e
      cases e
      exact .inl ha
    · rw [upd_ne hb] at e
      exact S.sub _ _ e
  · have q := S.tm _ _ e
    refine ⟨q.1, ?_⟩
    rw [upd_ne (fun z => by rw [z, ht] at e; cases e)]
    exact q.2
  · rcases he i s e with ⟨e1, n⟩ | ⟨e1, e2⟩
    · obtain ⟨x, hx, k⟩ := S.slot i s e1
      refine ⟨x, hx, SlOk.mono le (fun b u es ex => ?_) k⟩
      have nb : b ≠ a := fun z => n u es (by rw [hx, ex, z])
      rw [upd_ne nb]
      obtain ⟨b', o', e', _, f', _⟩ := k.own es
      rw [ex] at e'
      cases e'
      exact f'
    · subst e1
      exact ⟨_, e2, _, rfl, rep⟩
  · rcases he i _ h with ⟨e1, _⟩ | ⟨e1, _⟩
    · exact S.pio i u e1
    · cases e1
end

/-! ### how outcomes stand to values -/
abbrev RvR (G : Gr) : RelT Rv V := fun Tm F H σ env r x => match r with
  | .fz t => Rep G F t x
  | .ow t => ∃ a o, x = .ref a ∧ H a = some o ∧ F a = none ∧ Tm.h a = none ∧ Top G F o t ∧ ∀ (i : Nat) u, OwnAt env i u → σ[i]? ≠ some (some (.ref a))
  | .bo i => σ[i]? = some (some x) ∧ ∃ t, OwnAt env i t
/-- held: nothing new among it -/
abbrev HoR (G : Gr) : RelT Rv V := fun _ F _ σ _ r x => match r with
  | .fz t => Rep G F t x
  | .ow _ => False
  | .bo i => σ[i]? = some (some x)
abbrev TR (G : Gr) : RelT T V := fun _ F _ _ _ t x => Rep G F t x
abbrev TLR (G : Gr) : RelT (List T) (List V) := fun _ F _ _ _ ts xs => RepL G F ts xs
abbrev BR : RelT Bool Bool := fun _ _ _ _ _ b c => b = c
/-- seen: its top in the heap, what hangs on it frozen -/
def Pk (G : Gr) (F H : Hp) (t : T) (x : V) : Prop := Rep G F t x ∨ ∃ a o, x = .ref a ∧ H a = some o ∧ Top G F o t

abbrev EvE (C : Cy) (e : Expr) (f : M Rv) : Prop := PE C.X e (tG C (RvR C.G) f)
abbrev EvT (C : Cy) (e : Expr) (f : M T) : Prop := PE C.X e (tG C (TR C.G) f)
abbrev EvH (C : Cy) (e : Expr) (f : M Rv) : Prop := PE C.X e (tG C (HoR C.G) f)
abbrev EvB (C : Cy) (e : Expr) (f : M Bool) : Prop := PT C.X e (tG C BR f)
abbrev EvA (C : Cy) (es : List Expr) (f : M (List T)) : Prop := PA C.X es (tG C (TLR C.G) f)

theorem pe_imp {X : Cx} {e : Expr} {t t' : TE} (h : PE X e t) (i : ∀ σ H Q, t' σ H Q → t σ H Q) : PE X e t' := ⟨fun pins s σ H Q I q => h.run pins s σ H Q I (i σ H Q q)⟩
theorem pt_imp {X : Cx} {e : Expr} {t t' : TT} (h : PT X e t) (i : ∀ σ H Q, t' σ H Q → t σ H Q) : PT X e t' := ⟨fun pins s σ H Q I q => h.run pins s σ H Q I (i σ H Q q)⟩
theorem pa_imp {X : Cx} {e : List Expr} {t t' : TA} (h : PA X e t) (i : ∀ σ H Q, t' σ H Q → t σ H Q) : PA X e t' := ⟨fun pos pins s σ H Q I q => h.run pos pins s σ H Q I (i σ H Q q)⟩
theorem ps_imp {X : Cx} {e : Stmt} {t t' : TS} (h : PS X e t) (i : ∀ D σ H, t' D σ H → t D σ H) : PS X e t' := ⟨fun pins s σ H D I q => h.run pins s σ H D I (i D σ H q)⟩
theorem pss_imp {X : Cx} {e : List Stmt} {t t' : TS} (h : PSs X e t) (i : ∀ D σ H, t' D σ H → t D σ H) : PSs X e t' := ⟨fun pins s σ H D I q => h.run pins s σ H D I (i D σ H q)⟩

/-- frozen -/
def frz : Rv → M T
  | .fz t => M.pure t
  | .ow t => M.pure t
  | .bo i => fun e => match e[i]? with
    | some (.ow t) => .ok t (e.set i (.fz t))
    | _ => .no
/-- held -/
def hld : Rv → M Rv
  | .fz t => M.pure (.fz t)
  | .ow t => M.pure (.fz t)
  | .bo i => M.pure (.bo i)
/-- seen -/
def pk : Rv → M T
  | .fz t => M.pure t
  | .ow t => M.no
  | .bo i => fun e => match e[i]? with
    | some (.ow t) => .ok t e
    | some (.io t) => .ok t e
    | some (.fz t) => .ok t e
    | _ => .no
section
variable {G : Gr} {Tm : Amb} {F H : Hp} {σ : St} {env env' : Env} {r : Rv} {t : T} {x : V}
theorem frz_ok (S : Sok G Tm F H σ env) (h : RvR G Tm F H σ env r x) (e : frz r env = .ok t env') : ∃ F', Le F F' ∧ Sok G Tm F' H σ env' ∧ Rep G F' t x := by
  cases r with
  | fz u =>
    cases e
    exact ⟨F, Le.rfl, S, h⟩
  | ow u =>
    cases e
    obtain ⟨a, o, rfl, h1, h2, h3, h4, h5⟩ := h
    exact S.freeze h1 h2 h3 h4 rfl fun i s e => .inl ⟨e, fun w es => h5 i w (.of es e)⟩
  | bo i =>
    obtain ⟨h1, u, h2⟩ := h
    have e' : (match env[i]? with
      | some (.ow t) => Out.ok t (env.set i (.fz t))
      | _ => .no) = .ok t env' := e
    rcases h2 with h2 | h2
    · rw [h2] at e'
      cases e'
      obtain ⟨y, hy, a, o, ey, ha, hf, top⟩ := S.slot i _ h2
      rw [hy] at h1
      cases h1
      cases ey
      refine S.freeze ha hf (S.tmo i a t (.inl h2) hy) top (by simp) fun j s e => ?_
      by_cases hj : j = i
      · subst hj
        rw [List.getElem?_set_self (by rw [← S.len]; exact (List.getElem?_eq_some_iff.mp hy).1)] at e
        cases e
        exact .inr ⟨rfl, hy⟩
      · rw [List.getElem?_set_ne (Ne.symm hj)] at e
        exact .inl ⟨e, fun w es q => hj (S.apart j i a w t (.of es e) q (.inl h2) hy)⟩
    · rw [h2] at e'
      cases e'
theorem hld_ok (S : Sok G Tm F H σ env) (h : RvR G Tm F H σ env r x) {r' : Rv} (e : hld r env = .ok r' env') : ∃ F', Le F F' ∧ Sok G Tm F' H σ env' ∧ HoR G Tm F' H σ env' r' x := by
  cases r with
  | fz u =>
    cases e
    exact ⟨F, Le.rfl, S, h⟩
  | ow u =>
    cases e
    exact frz_ok (r := .ow u) S h rfl
  | bo i =>
    cases e
    exact ⟨F, Le.rfl, S, h.1⟩
theorem HoR.mono {Tm' : Amb} {F' H' : Hp} {env' : Env} (le : Le F F') (h : HoR G Tm F H σ env r x) : HoR G Tm' F' H' σ env' r x := by
  cases r with
  | fz u => exact Rep.mono le u h
  | ow u => exact h
  | bo i => exact h
theorem pk_ok (S : Sok G Tm F H σ env) (h : HoR G Tm F H σ env r x) (e : pk r env = .ok t env') : env' = env ∧ Pk G F H t x := by
  cases r with
  | fz u =>
    cases e
    exact ⟨rfl, .inl h⟩
  | ow u => exact h.elim
  | bo i =>
    have e' : (match env[i]? with
      | some (.ow t) => Out.ok t env
      | some (.io t) => Out.ok t env
      | some (.fz t) => .ok t env
      | _ => .no) = .ok t env' := e
    cases hs : env[i]? with
    | none =>
      rw [hs] at e'
      cases e'
    | some s =>
      rw [hs] at e'
      obtain ⟨y, hy, k⟩ := S.slot i _ hs
      have hx : σ[i]? = some (some x) := h
      rw [hy] at hx
      cases hx
      cases s with
      | un => cases e'
      | fz u =>
        cases e'
        obtain ⟨v, ev, rv⟩ := k
        cases ev
        exact ⟨rfl, .inl rv⟩
      | ow u =>
        cases e'
        obtain ⟨a, o, ev, ha, _, top⟩ := k
        cases ev
        exact ⟨rfl, .inr ⟨a, o, rfl, ha, top⟩⟩
      | io u =>
        cases e'
        obtain ⟨a, o, ev, ha, _, top⟩ := k
        cases ev
        exact ⟨rfl, .inr ⟨a, o, rfl, ha, top⟩⟩
end

/-! ### the ways between -/
section
variable {C : Cy} {e : Expr} {f : M Rv} {Tm : Amb} {F : Hp} {σ : St} {Q : V → Hp → Prop}
theorem At.of_frz {m : Out Rv} (h : At C (TR C.G) Tm F σ Q (m.bind frz)) : At C (RvR C.G) Tm F σ Q m := by
  cases m with
  | ok r env =>
    intro x F' H' le S rv
    have h' : At C (TR C.G) Tm F' σ Q (frz r env) := At.weak le h
    cases q : frz r env with
    | ok t env' =>
      rw [q] at h'
      obtain ⟨F2, l2, S2, rep⟩ := frz_ok S rv q
      exact h' x F2 H' l2 S2 rep
    | ex c fs env' => cases r <;> first | cases q | (unfold frz at q; dsimp only at q; split at q <;> cases q)
    | no =>
      rw [q] at h'
      exact h'.elim
  | ex c fs env => exact h
  | no => exact h
theorem At.of_hld {m : Out Rv} (h : At C (HoR C.G) Tm F σ Q (m.bind hld)) : At C (RvR C.G) Tm F σ Q m := by
  cases m with
  | ok r env =>
    intro x F' H' le S rv
    have h' : At C (HoR C.G) Tm F' σ Q (hld r env) := At.weak le h
    cases q : hld r env with
    | ok t env' =>
      rw [q] at h'
      obtain ⟨F2, l2, S2, rep⟩ := hld_ok S rv q
      exact h' x F2 H' l2 S2 rep
    | ex c fs env' => cases r <;> cases q
    | no =>
      rw [q] at h'
      exact h'.elim
  | ex c fs env => exact h
  | no => exact h
def frzE (f : M Rv) : M T := M.bind f frz
def hldE (f : M Rv) : M Rv := M.bind f hld
theorem ev_t (h : EvE C e f) : EvT C e (frzE f) := pe_imp h fun σ H Q ⟨Tm, F, env, S, q⟩ => ⟨Tm, F, env, S, At.of_frz q⟩
theorem ev_h (h : EvE C e f) : EvH C e (hldE f) := pe_imp h fun σ H Q ⟨Tm, F, env, S, q⟩ => ⟨Tm, F, env, S, At.of_hld q⟩
def fzE (g : M T) : M Rv := M.bind g fun t => M.pure (.fz t)
theorem ev_e {g : M T} (h : EvT C e g) : EvE C e (fzE g) := pe_imp h fun σ H Q ⟨Tm, F, env, S, q⟩ => ⟨Tm, F, env, S, by
  have q' : At C (RvR C.G) Tm F σ Q ((g env).bind fun t => M.pure (.fz t)) := q
  revert q'
  cases g env with
  | ok t env' => exact fun q' x F' H' l S r => q' x F' H' l S r
  | ex c fs env' => exact fun q' => q'
  | no => exact fun q' => q'⟩

/-! ### names, constants -/
def rdS (i : Nat) : M Rv := fun e => match e[i]? with
  | some (.fz t) => .ok (.fz t) e
  | some (.ow _) => .ok (.bo i) e
  | some (.io _) => .ok (.bo i) e
  | _ => .no
theorem ev_name {i : Nat} {x : Str} {pos : Pos} (hN : C.X.N[i]? = some x) (hv : Vis C.X.env.scope x) (hd : (x == ("__debug__" : Str)) = false := by decide +kernel) (hcd : (x == ("__classdict__" : Str)) = false := by decide +kernel) : EvE C (.Name x pos) (rdS i) := by
  refine pe_imp (pe_var hN hv hd hcd) fun σ H Q ⟨Tm, F, env, S, q⟩ => ?_
  unfold rdS at q
  cases hs : env[i]? with
  | none =>
    rw [hs] at q
    exact q.elim
  | some s =>
    rw [hs] at q
    obtain ⟨y, hy, k⟩ := S.slot i _ hs
    cases s with
    | un => exact q.elim
    | fz t =>
      obtain ⟨v, ev, rv⟩ := k
      subst ev
      exact ⟨v, hy, q v F H Le.rfl S rv⟩
    | ow t =>
      obtain ⟨a, o, ev, ha, hf, top⟩ := k
      subst ev
      exact ⟨_, hy, q _ F H Le.rfl S ⟨hy, t, .inl hs⟩⟩
    | io t =>
      obtain ⟨a, o, ev, ha, hf, top⟩ := k
      subst ev
      exact ⟨_, hy, q _ F H Le.rfl S ⟨hy, t, .inr hs⟩⟩
theorem ev_con {v : V} {t : T} (h : PE C.X e (tC v)) (r : ∀ F, Rep C.G F t v) : EvT C e (M.pure t) := by
  refine pe_imp h fun σ H Q ⟨Tm, F, env, S, q⟩ => ?_
  exact q v F H Le.rfl S (r F)
theorem ev_int {i j pos} : EvT C (.Constant (.int i) j pos) (M.pure (.int i)) := ev_con pe_int fun F => by simp only [Rep]
theorem ev_str {i j pos} : EvT C (.Constant (.str i) j pos) (M.pure (.str i)) := ev_con pe_str fun F => by simp only [Rep]
theorem ev_bl {i j pos} : EvT C (.Constant (.bool i) j pos) (M.pure (.bl i)) := ev_con pe_bl fun F => by simp only [Rep]
theorem ev_non {j pos} : EvT C (.Constant .none j pos) (M.pure .non) := ev_con pe_non fun F => by simp only [Rep]
theorem ev_glob {x : Str} {v : V} {t : T} {u : Value} {pos : Pos} (hg : Gl C.X x) (hm : C.X.mg x = some u) (r : RelV v u) (rt : ∀ F, Rep C.G F t v) (hd : (x == ("__debug__" : Str)) = false := by decide +kernel) : EvT C (.Name x pos) (M.pure t) := ev_con (pe_glob hg hm r hd) rt

end
end Ev
/-! Ev2: new objects; operators, comparisons, tests, built-ins. -/
namespace Ev
open PySem PySem.Spec L2

section
variable {G : Gr} {Tm : Amb} {F H : Hp} {σ : St} {env : Env}
theorem Hd.upd {a p : Addr} {o u : HO} (h : Hd H a o) (n : H p = none) : Hd (L2.upd H p u) a o := by
  rcases h with h | ⟨k, ob, h⟩
  · exact .inl (by rw [upd_ne (ne_of_none h n)]; exact h)
  · exact .inr ⟨k, ob, by rw [upd_ne (ne_of_none h n)]; exact h⟩
theorem Sok.alloc (S : Sok G Tm F H σ env) {p : Addr} {o : HO} (n : H p = none) : Sok G Tm F (L2.upd H p o) σ env := by
  refine ⟨fun a u e => (S.sub a u e).upd n, fun a u e => ⟨?_, (S.tm a u e).2⟩, S.len, fun i s e => ?_, S.apart, S.tmo, fun a u e => ⟨by rw [upd_ne (ne_of_none (S.lk a u e).1 n)]; exact (S.lk a u e).1, (S.lk a u e).2⟩, S.pio⟩
  · rw [upd_ne (ne_of_none (S.tm a u e).1 n)]
    exact (S.tm a u e).1
  · obtain ⟨x, hx, k⟩ := S.slot i s e
    refine ⟨x, hx, ?_⟩
    cases s with
    | un => exact k
    | fz t => exact k
    | ow t =>
      obtain ⟨a, u, e1, e2, e3, e4⟩ := k
      exact ⟨a, u, e1, by rw [upd_ne (ne_of_none e2 n)]; exact e2, e3, e4⟩
    | io t =>
      obtain ⟨a, u, e1, e2, e3, e4⟩ := k
      exact ⟨a, u, e1, by rw [upd_ne (ne_of_none e2 n)]; exact e2, e3, e4⟩
theorem Sok.allocF (S : Sok G Tm F H σ env) {p : Addr} {o : HO} (n : H p = none) : Sok G Tm (L2.upd F p o) (L2.upd H p o) σ env := by
  have A := S.alloc (o := o) n
  have le : Le F (L2.upd F p o) := Le.upd (S.new n).1
  have np : ∀ {a : Addr} {u : HO}, H a = some u → a ≠ p := fun h z => by rw [z, n] at h; cases h
  refine ⟨fun a u e => ?_, fun a u e => ⟨(A.tm a u e).1, ?_⟩, S.len, fun i s e => ?_, S.apart, S.tmo, fun a u e => ⟨(A.lk a u e).1, le.ne (A.lk a u e).2⟩, S.pio⟩
  · by_cases h : a = p
    · subst h
      rw [upd_same] at e
      cases e
      exact .inl upd_same
    · rw [upd_ne h] at e
      exact A.sub a u e
  · rw [upd_ne (np (S.tm a u e).1)]
    exact (S.tm a u e).2
  · obtain ⟨x, hx, k⟩ := S.slot i s e
    obtain ⟨y, hy, k'⟩ := A.slot i s e
    rw [hx] at hy
    cases hy
    refine ⟨x, hx, SlOk.mono le (fun a t es ex => ?_) k'⟩
    obtain ⟨b, u, e1, e2, e3, _⟩ := k.own es
    rw [ex] at e1
    cases e1
    rw [upd_ne (np e2)]
    exact e3
theorem RvR.new (S : Sok G Tm F H σ env) {p : Addr} {o : HO} {t : T} (n : H p = none) (top : Top G F o t) : RvR G Tm F (L2.upd H p o) σ env (.ow t) (.ref p) := by
  refine ⟨p, o, rfl, upd_same, (S.new n).1, (S.new n).2, top, fun i u e z => ?_⟩
  obtain ⟨s, es, k⟩ := e.get
  obtain ⟨x, hx, ok⟩ := S.slot i _ es
  obtain ⟨a, w, e1, e2, _⟩ := ok.own k
  rw [z] at hx
  cases hx
  cases e1
  rw [n] at e2
  cases e2
end

/-! ### readings of trees -/
section
variable {G : Gr} {Tm : Amb} {F H : Hp} {σ : St} {env : Env} {x : V}
theorem rep_non (h : Rep G F .non x) : x = .non := by simpa only [Rep] using h
theorem rep_bl {b : Bool} (h : Rep G F (.bl b) x) : x = .bl b := by simpa only [Rep] using h
theorem rep_int {i : Int} (h : Rep G F (.int i) x) : x = .int i := by simpa only [Rep] using h
theorem rep_str {i : Str} (h : Rep G F (.str i) x) : x = .str i := by simpa only [Rep] using h
theorem rep_tup {ts : List T} (h : Rep G F (.tup ts) x) : ∃ a xs, x = .ref a ∧ SqT G.K F a xs ∧ RepL G F ts xs := by simpa only [Rep] using h
theorem rep_lst {ts : List T} (h : Rep G F (.lst ts) x) : ∃ a xs, x = .ref a ∧ LstAt G.K F a xs ∧ RepL G F ts xs := by simpa only [Rep] using h
theorem mk_int (i : Int) : Rep G F (.int i) (.int i) := by simp only [Rep]
theorem mk_bl (i : Bool) : Rep G F (.bl i) (.bl i) := by simp only [Rep]
theorem mk_str (i : Str) : Rep G F (.str i) (.str i) := by simp only [Rep]
theorem mk_non : Rep G F .non .non := by simp only [Rep]
theorem pk_non (h : Pk G F H .non x) : x = .non := by
  rcases h with h | ⟨a, o, _, _, k⟩
  · exact rep_non h
  · exact k.elim
theorem pk_bl {b : Bool} (h : Pk G F H (.bl b) x) : x = .bl b := by
  rcases h with h | ⟨a, o, _, _, k⟩
  · exact rep_bl h
  · exact k.elim
theorem pk_int {b : Int} (h : Pk G F H (.int b) x) : x = .int b := by
  rcases h with h | ⟨a, o, _, _, k⟩
  · exact rep_int h
  · exact k.elim
theorem pk_str {b : Str} (h : Pk G F H (.str b) x) : x = .str b := by
  rcases h with h | ⟨a, o, _, _, k⟩
  · exact rep_str h
  · exact k.elim
theorem pk_tup (S : Sok G Tm F H σ env) {ts : List T} (h : Pk G F H (.tup ts) x) : ∃ a xs, x = .ref a ∧ SqT G.K H a xs ∧ RepL G F ts xs := by
  rcases h with h | ⟨a, o, _, _, k⟩
  · obtain ⟨a, xs, e, q, r⟩ := rep_tup h
    exact ⟨a, xs, e, S.sqT q, r⟩
  · exact k.elim
theorem pk_lst (S : Sok G Tm F H σ env) {ts : List T} (h : Pk G F H (.lst ts) x) : ∃ a xs, x = .ref a ∧ LstAt G.K H a xs ∧ RepL G F ts xs := by
  rcases h with h | ⟨a, o, e, ho, xs, eo, r⟩
  · obtain ⟨a, xs, e, q, r⟩ := rep_lst h
    exact ⟨a, xs, e, S.lstAt q, r⟩
  · subst eo
    exact ⟨a, xs, e, .inl (.inl ho), r⟩
theorem pk_dK (S : Sok G Tm F H σ env) {ts : List (Key × T)} (h : Pk G F H (.dK ts) x) : ∃ a xs, x = .ref a ∧ Hd H a (.dK xs) ∧ RepK G F ts xs := by
  rcases h with h | ⟨a, o, e, ho, xs, eo, r⟩
  · simp only [Rep] at h
    obtain ⟨a, xs, e, q, r⟩ := h
    exact ⟨a, xs, e, S.sub _ _ q, r⟩
  · subst eo
    exact ⟨a, xs, e, .inl ho, r⟩
theorem pk_dT (S : Sok G Tm F H σ env) {ts : List (List Key × T)} (h : Pk G F H (.dT ts) x) : ∃ a xs, x = .ref a ∧ Hd H a (.dT xs) ∧ RepD G F ts xs := by
  rcases h with h | ⟨a, o, e, ho, xs, eo, r⟩
  · simp only [Rep] at h
    obtain ⟨a, xs, e, q, r⟩ := h
    exact ⟨a, xs, e, S.sub _ _ q, r⟩
  · subst eo
    exact ⟨a, xs, e, .inl ho, r⟩
theorem pk_ins (S : Sok G Tm F H σ env) {c : Nat} {ts : List (Str × T)} (h : Pk G F H (.ins c ts) x) : ∃ a dx xs, x = .ref a ∧ H a = some (.ins (G.ca c) dx xs) ∧ RepF G F ts xs := by
  rcases h with h | ⟨a, o, e, ho, dx, xs, eo, r⟩
  · simp only [Rep] at h
    obtain ⟨a, dx, xs, e, q, r⟩ := h
    rcases S.sub _ _ q with z | ⟨z, _⟩
    · exact ⟨a, dx, xs, e, z, r⟩
    · cases z
  · subst eo
    exact ⟨a, dx, xs, e, ho, r⟩
end

/-! ### operators upon frozen values -/
section
variable {C : Cy} {a b c : Expr} {pos : Pos}
abbrev Post (C : Cy) (Tm : Amb) (F : Hp) (σ : St) (env : Env) (Q : V → Hp → Prop) (w : Rv) : Prop :=
  ∀ z F' H', Le F F' → Sok C.G Tm F' H' σ env → RvR C.G Tm F' H' σ env w z → Q z H'
def opM (g : T → T → Option Rv) (f1 f2 : M T) : M Rv := M.bind f1 fun a => M.bind f2 fun b => M.of (g a b)
/-- a rule for an operator: by trees -/
def OpOk (C : Cy) (op : Operator) (g : T → T → Option Rv) : Prop := ∃ r, OpR C.X (binaryOp op) r ∧
  ∀ {Tm : Amb} {F H : Hp} {σ : St} {env : Env} {x y : V} {t u : T} {w : Rv} {Q : V → Hp → Prop}, Sok C.G Tm F H σ env → Rep C.G F t x → Rep C.G F u y → g t u = some w → Post C Tm F σ env Q w → r x y H Q
theorem ev_op {op : Operator} {g : T → T → Option Rv} {f1 f2 : M T} (ho : OpOk C op g) (h1 : EvT C a f1) (h2 : EvT C b f2) : EvE C (.BinOp a op b pos) (opM g f1 f2) := by
  obtain ⟨r, ho, hr⟩ := ho
  refine pe_imp (pe_op ho h1 h2) fun σ H Q ⟨Tm, F, env, S, q⟩ => ⟨Tm, F, env, S, ?_⟩
  refine At.bind (R' := RvR C.G) (Q' := Q) q fun t env1 x F1 H1 le1 S1 r1 q1 => ⟨Tm, F1, env1, S1, ?_⟩
  refine At.bind (R' := RvR C.G) (Q' := Q) q1 fun u env2 y F2 H2 le2 S2 r2 q2 => ?_
  cases hw : g t u with
  | none =>
    rw [hw] at q2
    exact q2.elim
  | some w =>
    rw [hw] at q2
    exact hr S2 (Rep.mono le2 t r1) r2 hw q2
def addT : T → T → Option Rv
  | .int i, .int j => some (.fz (.int (i + j)))
  | .str i, .str j => if i.length + j.length ≤ sizeLine then some (.fz (.str (i ++ j))) else none
  | .lst i, .lst j => if i.length + j.length ≤ sizeLine then some (.ow (.lst (i ++ j))) else none
  | .tup i, .tup j => if i.length + j.length ≤ sizeLine then some (.fz (.tup (i ++ j))) else none
  | _, _ => none
def subT : T → T → Option Rv
  | .int i, .int j => some (.fz (.int (i - j)))
  | _, _ => none
def mulT : T → T → Option Rv
  | .int i, .int j => if (-(2 ^ 64) < i ∧ i < 2 ^ 64) ∨ (-(2 ^ 64) < j ∧ j < 2 ^ 64) then some (.fz (.int (i * j))) else none
  | _, _ => none
def modT : T → T → Option Rv
  | .int i, .int j => if 0 < j then some (.fz (.int (i % j))) else none
  | _, _ => none
def fdivT : T → T → Option Rv
  | .int i, .int j => if 0 < j ∧ j < 2 ^ 64 then some (.fz (.int (i / j))) else none
  | _, _ => none
def powT : T → T → Option Rv
  | .int i, .int j => if 0 ≤ j ∧ j ≤ 1000000 ∧ i.natAbs < 2 ^ 64 then some (.fz (.int (i ^ j.toNat))) else none
  | _, _ => none
/-- two lists, tracked or known -/
theorem op_catL : OpR C.X (binaryOp .Add) (fun x y H Q => ∃ l b xs zs, x = .ref l ∧ y = .ref b ∧ LstAt C.X.K H l xs ∧ LstAt C.X.K H b zs ∧ xs.length + zs.length ≤ sizeLine ∧ ∀ p, H p = none → Q (.ref p) (upd H p (.lst (xs ++ zs)))) := by
  intro pins s σ H x y v u Q I rx ry h
  obtain ⟨l, b, xs, zs, rfl, rfl, hL, hB, hz, q⟩ := h
  cases rx
  cases ry
  obtain ⟨its, n, r, e⟩ := LstAt.obj I hL
  obtain ⟨its2, n2, r2, e2⟩ := LstAt.obj I hB
  have hl := Paired.length r
  have hl2 := Paired.length r2
  refine PySem.P.add_list e e2 ?_ (by rw [List.size_toArray, List.size_toArray]; omega)
  have ea : its.toArray ++ its2.toArray = (its ++ its2).toArray := by simp
  rw [ea]
  exact ⟨.ref _, _, I.lnew (t' := s.toks) (r.append r2) (by rw [List.length_append]; omega), rfl, q _ I.fresh⟩
theorem ok_add : OpOk C .Add addT := by
  refine ⟨_, (op_add.or op_add_str).or (op_catL.or op_catA), fun {Tm F H σ env x y t u w Q} S rx ry hw q => ?_⟩
  cases t <;> cases u <;> first | (cases hw; done) | skip
  · rename_i i j
    cases hw
    exact .inl (.inl ⟨i, j, rep_int rx, rep_int ry, q _ F H Le.rfl S (mk_int _)⟩)
  · rename_i i j
    simp only [addT] at hw
    split at hw
    · rename_i hz
      cases hw
      exact .inl (.inr ⟨i, j, rep_str rx, rep_str ry, hz, q _ F H Le.rfl S (mk_str _)⟩)
    · cases hw
  · rename_i i j
    simp only [addT] at hw
    split at hw
    · rename_i hz
      cases hw
      obtain ⟨p1, xs, rfl, h1, r1⟩ := rep_tup rx
      obtain ⟨p2, ys, rfl, h2, r2⟩ := rep_tup ry
      have l1 := r1.length
      have l2 := r2.length
      refine .inr (.inr ⟨p1, p2, xs, ys, rfl, rfl, S.sqT h1, S.sqT h2, by rw [l1, l2]; exact hz, fun e => ?_, fun _ e => ?_, fun _ _ p np => ?_⟩)
      · subst e
        have : i = [] := List.length_eq_zero_iff.mp (by rw [← l1]; rfl)
        subst this
        exact q _ F H Le.rfl S ry
      · subst e
        have : j = [] := List.length_eq_zero_iff.mp (by rw [← l2]; rfl)
        subst this
        exact q _ F H Le.rfl S (by rw [List.append_nil]; exact rx)
      · have le := Le.upd (o := .tup (xs ++ ys)) (S.new np).1
        refine q _ _ _ le (S.allocF np) ?_
        simp only [Rep]
        exact ⟨p, _, rfl, .inl (.inl upd_same), (RepL.mono le _ r1).append (RepL.mono le _ r2)⟩
    · cases hw
  · rename_i i j
    simp only [addT] at hw
    split at hw
    · rename_i hz
      cases hw
      obtain ⟨p1, xs, rfl, h1, r1⟩ := rep_lst rx
      obtain ⟨p2, ys, rfl, h2, r2⟩ := rep_lst ry
      have l1 := r1.length
      have l2 := r2.length
      refine .inr (.inl ⟨p1, p2, xs, ys, rfl, rfl, S.lstAt h1, S.lstAt h2, by rw [l1, l2]; exact hz, fun p np => ?_⟩)
      exact q _ F _ Le.rfl (S.alloc np) (RvR.new S np ⟨_, rfl, r1.append r2⟩)
    · cases hw
theorem ok_sub : OpOk C .Sub subT := by
  refine ⟨_, op_sub, fun {Tm F H σ env x y t u w Q} S rx ry hw q => ?_⟩
  cases t <;> cases u <;> first | (cases hw; done) | skip
  cases hw
  exact ⟨_, _, rep_int rx, rep_int ry, q _ F H Le.rfl S (mk_int _)⟩
theorem ok_mul : OpOk C .Mult mulT := by
  refine ⟨_, op_mul, fun {Tm F H σ env x y t u w Q} S rx ry hw q => ?_⟩
  cases t <;> cases u <;> first | (cases hw; done) | skip
  simp only [mulT] at hw
  split at hw
  · rename_i hz
    cases hw
    exact ⟨_, _, rep_int rx, rep_int ry, hz, q _ F H Le.rfl S (mk_int _)⟩
  · cases hw
theorem ok_mod : OpOk C .Mod modT := by
  refine ⟨_, op_mod, fun {Tm F H σ env x y t u w Q} S rx ry hw q => ?_⟩
  cases t <;> cases u <;> first | (cases hw; done) | skip
  simp only [modT] at hw
  split at hw
  · rename_i hz
    cases hw
    exact ⟨_, _, rep_int rx, rep_int ry, hz, q _ F H Le.rfl S (mk_int _)⟩
  · cases hw
theorem ok_fdiv : OpOk C .FloorDiv fdivT := by
  refine ⟨_, op_fdivW, fun {Tm F H σ env x y t u w Q} S rx ry hw q => ?_⟩
  cases t <;> cases u <;> first | (cases hw; done) | skip
  rename_i i j
  simp only [fdivT] at hw
  split at hw
  · rename_i hz
    cases hw
    exact ⟨_, _, rep_int rx, rep_int ry, wide_div (b := 64) hz.1 (by have := hz.2; omega) (by decide) (by decide), q _ F H Le.rfl S (mk_int _)⟩
  · cases hw
theorem ok_pow : OpOk C .Pow powT := by
  refine ⟨_, op_pow, fun {Tm F H σ env x y t u w Q} S rx ry hw q => ?_⟩
  cases t <;> cases u <;> first | (cases hw; done) | skip
  simp only [powT] at hw
  split at hw
  · rename_i hz
    cases hw
    exact ⟨_, _, rep_int rx, rep_int ry, hz, q _ F H Le.rfl S (mk_int _)⟩
  · cases hw
def negT : T → Option T
  | .int i => some (.int (-i))
  | _ => none
theorem ev_neg {f : M T} (h : EvT C a f) : EvT C (.UnaryOp .USub a pos) (M.bind f fun t => M.of (negT t)) := by
  refine pe_imp (pe_un un_neg h) fun σ H Q ⟨Tm, F, env, S, q⟩ => ⟨Tm, F, env, S, ?_⟩
  refine At.bind (R' := TR C.G) (Q' := Q) q fun t env1 x F1 H1 le1 S1 r1 q1 => ?_
  cases t <;> first | exact q1.elim | skip
  exact ⟨_, rep_int r1, q1 _ F1 H1 Le.rfl S1 (mk_int _)⟩

/-! ### comparisons -/
mutual
def toD : T → PyData
  | .non => .none
  | .bl b => .bool b
  | .int i => .int i
  | .str s => .str s
  | .tup ts => .tuple (toDs ts)
  | .lst ts => .list (toDs ts)
  | .dK _ => .dict []
  | .dT _ => .dict []
  | .ins _ _ => .dict []
def toDs : List T → List PyData
  | [] => []
  | t :: ts => toD t :: toDs ts
end
mutual
theorem Rep.dp {G : Gr} {Tm : Amb} {F H : Hp} {σ : St} {env : Env} (S : Sok G Tm F H σ env) : ∀ (t : T) {x : V}, (toD t).plain = true → Rep G F t x → Dp G.K H x (toD t)
  | .non, x, _, r => by rw [rep_non r]; simp only [toD]; exact .non
  | .bl b, x, _, r => by rw [rep_bl r]; simp only [toD]; exact .bl b
  | .int i, x, _, r => by rw [rep_int r]; simp only [toD]; exact .int i
  | .str i, x, _, r => by rw [rep_str r]; simp only [toD]; exact .str i
  | .tup ts, x, p, r => by
    obtain ⟨a, xs, rfl, q, l⟩ := rep_tup r
    simp only [toD] at p ⊢
    exact .tup (S.sqT q) (RepL.dp S ts (by simpa only [PyData.plain] using p) l)
  | .lst ts, x, p, r => by
    obtain ⟨a, xs, rfl, q, l⟩ := rep_lst r
    simp only [toD] at p ⊢
    exact .lst (S.lstAt q).sq (RepL.dp S ts (by simpa only [PyData.plain] using p) l)
  | .dK _, x, p, r => by
    simp only [toD] at p
    cases p
  | .dT _, x, p, r => by
    simp only [toD] at p
    cases p
  | .ins _ _, x, p, r => by
    simp only [toD] at p
    cases p
theorem RepL.dp {G : Gr} {Tm : Amb} {F H : Hp} {σ : St} {env : Env} (S : Sok G Tm F H σ env) : ∀ (ts : List T) {xs : List V}, PyData.plainAll (toDs ts) = true → RepL G F ts xs → DpAll G.K H xs (toDs ts)
  | [], xs, _, r => by rw [r.unnil]; simp only [toDs]; exact .nil
  | t :: ts, xs, p, r => by
    obtain ⟨x, r, e, h1, h2⟩ := r.uncons
    subst e
    simp only [toDs] at p ⊢
    have p' : (toD t).plain = true ∧ PyData.plainAll (toDs ts) = true := by simpa only [PyData.plainAll, Bool.and_eq_true] using p
    exact .cons (Rep.dp S t p'.1 h1) (RepL.dp S ts p'.2 h2)
end
theorem Pk.dp {G : Gr} {Tm : Amb} {F H : Hp} {σ : St} {env : Env} (S : Sok G Tm F H σ env) {t : T} {x : V} (p : (toD t).plain = true) (h : Pk G F H t x) : Dp G.K H x (toD t) := by
  rcases h with h | ⟨a, o, e, ho, k⟩
  · exact Rep.dp S t p h
  · subst e
    cases t with
    | lst ts =>
      obtain ⟨xs, eo, r⟩ := k
      subst eo
      simp only [toD] at p ⊢
      exact .lst (.inl (.inl ho)) (RepL.dp S ts (by simpa only [PyData.plain] using p) r)
    | dK _ =>
      simp only [toD] at p
      cases p
    | dT _ =>
      simp only [toD] at p
      cases p
    | ins _ _ =>
      simp only [toD] at p
      cases p
    | _ => exact k.elim
/-- a room that all bodies have -/
abbrev Rm (C : Cy) : Prop := C.X.A.units + 190 < cLine
def eqT (t u : T) : Option Bool := if (toD t).plain = true ∧ (toD u).plain = true ∧ min (toD t).depth (toD u).depth ≤ 100 then some (PyData.eqv (toD t) (toD u)) else none
/-- a rule for a comparison: by trees -/
def CmpOk (C : Cy) (op : CmpOp) (g : T → T → Option Bool) : Prop := ∃ r, OpR C.X (compareOp op) r ∧
  ∀ {Tm : Amb} {F H : Hp} {σ : St} {env : Env} {x y : V} {t u : T} {w : Bool} {Q : V → Hp → Prop}, Sok C.G Tm F H σ env → Pk C.G F H t x → Pk C.G F H u y → g t u = some w → Q (.bl w) H → r x y H Q
theorem op_eqP (hu : Rm C) : OpR C.X (compareOp .Eq) (fun x y H Q => ∃ d e, Dp C.X.K H x d ∧ Dp C.X.K H y e ∧ d.plain = true ∧ e.plain = true ∧ min d.depth e.depth ≤ 100 ∧ Q (.bl (PyData.eqv d e)) H) := by
  intro pins s σ H x y v u Q I rx ry h
  obtain ⟨d, e, hd, he, sd, se, hm, q⟩ := h
  obtain ⟨as, r1⟩ := Dp.reads I d x v hd rx
  obtain ⟨bs, r2⟩ := Dp.reads I e y u he ry
  exact PySem.SeqAt.eq_plain r1 r2 sd se (by have := hu; omega) ⟨.bl _, H, I, rfl, q⟩
theorem op_neP (hu : Rm C) : OpR C.X (compareOp .NotEq) (fun x y H Q => ∃ d e, Dp C.X.K H x d ∧ Dp C.X.K H y e ∧ d.plain = true ∧ e.plain = true ∧ min d.depth e.depth ≤ 100 ∧ Q (.bl (!PyData.eqv d e)) H) := by
  intro pins s σ H x y v u Q I rx ry h
  obtain ⟨d, e, hd, he, sd, se, hm, q⟩ := h
  obtain ⟨as, r1⟩ := Dp.reads I d x v hd rx
  obtain ⟨bs, r2⟩ := Dp.reads I e y u he ry
  exact PySem.SeqAt.ne_plain r1 r2 sd se (by have := hu; omega) ⟨.bl _, H, I, rfl, q⟩
theorem ok_eq (hu : Rm C) : CmpOk C .Eq eqT := by
  refine ⟨_, op_eqP hu, fun {Tm F H σ env x y t u w Q} S rx ry hw q => ?_⟩
  unfold eqT at hw
  split at hw
  · rename_i h
    cases hw
    exact ⟨_, _, rx.dp S h.1, ry.dp S h.2.1, h.1, h.2.1, h.2.2, q⟩
  · cases hw
def neT (t u : T) : Option Bool := (eqT t u).map not
theorem ok_ne (hu : Rm C) : CmpOk C .NotEq neT := by
  refine ⟨_, op_neP hu, fun {Tm F H σ env x y t u w Q} S rx ry hw q => ?_⟩
  unfold neT eqT at hw
  split at hw
  · rename_i h
    cases hw
    exact ⟨_, _, rx.dp S h.1, ry.dp S h.2.1, h.1, h.2.1, h.2.2, q⟩
  · cases hw
def ltT : T → T → Option Bool
  | .int i, .int j => some (decide (i < j))
  | .str i, .str j => some (decide (i.cps.toList < j.cps.toList))
  | _, _ => none
def leT : T → T → Option Bool
  | .int i, .int j => some (decide (i ≤ j))
  | .str i, .str j => some (!decide (j.cps.toList < i.cps.toList))
  | _, _ => none
def gtT : T → T → Option Bool
  | .int i, .int j => some (decide (j < i))
  | .str i, .str j => some (decide (j.cps.toList < i.cps.toList))
  | _, _ => none
def geT : T → T → Option Bool
  | .int i, .int j => some (decide (j ≤ i))
  | .str i, .str j => some (!decide (i.cps.toList < j.cps.toList))
  | _, _ => none
theorem ok_lt : CmpOk C .Lt ltT := by
  refine ⟨_, op_lt.or op_lt_str, fun {Tm F H σ env x y t u w Q} S rx ry hw q => ?_⟩
  cases t <;> cases u <;> first | (cases hw; done) | skip
  · cases hw; exact .inl ⟨_, _, pk_int rx, pk_int ry, q⟩
  · cases hw; exact .inr ⟨_, _, pk_str rx, pk_str ry, q⟩
theorem ok_le : CmpOk C .LtE leT := by
  refine ⟨_, op_le.or op_le_str, fun {Tm F H σ env x y t u w Q} S rx ry hw q => ?_⟩
  cases t <;> cases u <;> first | (cases hw; done) | skip
  · cases hw; exact .inl ⟨_, _, pk_int rx, pk_int ry, q⟩
  · cases hw; exact .inr ⟨_, _, pk_str rx, pk_str ry, q⟩
theorem ok_gt : CmpOk C .Gt gtT := by
  refine ⟨_, op_gt.or op_gt_str, fun {Tm F H σ env x y t u w Q} S rx ry hw q => ?_⟩
  cases t <;> cases u <;> first | (cases hw; done) | skip
  · cases hw; exact .inl ⟨_, _, pk_int rx, pk_int ry, q⟩
  · cases hw; exact .inr ⟨_, _, pk_str rx, pk_str ry, q⟩
theorem ok_ge : CmpOk C .GtE geT := by
  refine ⟨_, op_ge.or op_ge_str, fun {Tm F H σ env x y t u w Q} S rx ry hw q => ?_⟩
  cases t <;> cases u <;> first | (cases hw; done) | skip
  · cases hw; exact .inl ⟨_, _, pk_int rx, pk_int ry, q⟩
  · cases hw; exact .inr ⟨_, _, pk_str rx, pk_str ry, q⟩
/-- is None, is a truth -/
def isT : T → T → Option Bool
  | .bl i, .bl j => some (decide (i = j))
  | .non, .non => some true
  | .bl _, .non => some false
  | .int _, .non => some false
  | .str _, .non => some false
  | .tup _, .non => some false
  | .lst _, .non => some false
  | .dK _, .non => some false
  | .dT _, .non => some false
  | .ins _ _, .non => some false
  | _, _ => none
def isnT (t u : T) : Option Bool := (isT t u).map not
theorem pk_ne_non {Tm : Amb} {F H : Hp} {σ : St} {env : Env} (S : Sok C.G Tm F H σ env) {t : T} {x : V} (h : Pk C.G F H t x) (n : isT t .non = some false) : decide (x = .non) = false := by
  have key : x ≠ .non := by
    cases t with
    | non => cases n
    | bl _ => rw [pk_bl h]; exact fun z => nomatch z
    | int _ => rw [pk_int h]; exact fun z => nomatch z
    | str _ => rw [pk_str h]; exact fun z => nomatch z
    | tup _ => obtain ⟨_, _, e, _⟩ := pk_tup S h; rw [e]; exact fun z => nomatch z
    | lst _ => obtain ⟨_, _, e, _⟩ := pk_lst S h; rw [e]; exact fun z => nomatch z
    | dK _ => obtain ⟨_, _, e, _⟩ := pk_dK S h; rw [e]; exact fun z => nomatch z
    | dT _ => obtain ⟨_, _, e, _⟩ := pk_dT S h; rw [e]; exact fun z => nomatch z
    | ins _ _ => obtain ⟨_, _, _, e, _⟩ := pk_ins S h; rw [e]; exact fun z => nomatch z
  simpa using key
theorem ok_is : CmpOk C .Is isT := by
  refine ⟨_, op_isN.or op_isBl, fun {Tm F H σ env x y t u w Q} S rx ry hw q => ?_⟩
  cases u with
  | non =>
    cases pk_non ry
    refine .inl ⟨rfl, ?_⟩
    cases w with
    | false => rw [pk_ne_non S rx hw]; exact q
    | true =>
      cases t <;> first | (cases hw; done) | skip
      rw [pk_non rx]
      exact q
  | bl j =>
    cases t <;> first | (cases hw; done) | skip
    cases hw
    exact .inr ⟨_, _, pk_bl rx, pk_bl ry, q⟩
  | _ => cases t <;> cases hw
theorem ok_isn : CmpOk C .IsNot isnT := by
  refine ⟨_, op_notN.or op_notBl, fun {Tm F H σ env x y t u w Q} S rx ry hw q => ?_⟩
  unfold isnT at hw
  cases hv : isT t u with
  | none => rw [hv] at hw; cases hw
  | some v =>
    rw [hv] at hw
    cases hw
    cases u with
    | non =>
      cases pk_non ry
      refine .inl ⟨rfl, ?_⟩
      cases v with
      | false => rw [pk_ne_non S rx hv]; exact q
      | true =>
        cases t <;> first | (cases hv; done) | skip
        rw [pk_non rx]
        exact q
    | bl j =>
      cases t <;> first | (cases hv; done) | skip
      cases hv
      exact .inr ⟨_, _, pk_bl rx, pk_bl ry, q⟩
    | _ => cases t <;> cases hv

def cmpM (g : T → T → Option Bool) (f1 f2 : M Rv) : M Bool := M.bind f1 fun r1 => M.bind f2 fun r2 => M.bind (pk r1) fun t => M.bind (pk r2) fun u => M.of (g t u)
/-- what a comparison's outcome gives its rule -/
theorem cmp_core {op : CmpOp} {g : T → T → Option Bool} {r : R2} {γ : Type} {R' : RelT Bool γ} {Q' : γ → Hp → Prop} {Qv : V → Hp → Prop} {Tm : Amb} {F H : Hp} {σ : St} {env : Env} {r1 r2 : Rv} {x y : V}
    (hr : ∀ {Tm : Amb} {F H : Hp} {σ : St} {env : Env} {x y : V} {t u : T} {w : Bool} {Q : V → Hp → Prop}, Sok C.G Tm F H σ env → Pk C.G F H t x → Pk C.G F H u y → g t u = some w → Q (.bl w) H → r x y H Q)
    (S : Sok C.G Tm F H σ env) (h1 : HoR C.G Tm F H σ env r1 x) (h2 : HoR C.G Tm F H σ env r2 y)
    (q : At C R' Tm F σ Q' ((M.bind (pk r1) fun t => M.bind (pk r2) fun u => M.of (g t u)) env)) (fin : ∀ w, At C R' Tm F σ Q' (.ok w env) → Qv (.bl w) H) : r x y H Qv := by
  have q0 : At C R' Tm F σ Q' ((pk r1 env).bind fun t => M.bind (pk r2) fun u => M.of (g t u)) := q
  cases e1 : pk r1 env with
  | ok t env1 =>
    obtain ⟨rfl, p1⟩ := pk_ok S h1 e1
    rw [e1] at q0
    have q1 : At C R' Tm F σ Q' ((pk r2 env1).bind fun u => M.of (g t u)) := q0
    cases e2 : pk r2 env1 with
    | ok u env2 =>
      obtain ⟨rfl, p2⟩ := pk_ok S h2 e2
      rw [e2] at q1
      have q2 : At C R' Tm F σ Q' (M.of (g t u) env2) := q1
      cases hw : g t u with
      | none =>
        rw [hw] at q2
        exact q2.elim
      | some w =>
        rw [hw] at q2
        exact hr S p1 p2 hw (fin w q2)
    | ex c fs e' => cases r2 <;> first | cases e2 | (unfold pk at e2; dsimp only at e2; split at e2 <;> cases e2)
    | no =>
      rw [e2] at q1
      exact q1.elim
  | ex c fs e' => cases r1 <;> first | cases e1 | (unfold pk at e1; dsimp only at e1; split at e1 <;> cases e1)
  | no =>
    rw [e1] at q0
    exact q0.elim
theorem ev_cmp {op : CmpOp} {g : T → T → Option Bool} {f1 f2 : M Rv} (ho : CmpOk C op g) (h1 : EvH C a f1) (h2 : EvH C b f2) (hm : behindInMarks op b = false) : EvT C (.Compare a [op] [b] pos) (M.bind (cmpM g f1 f2) fun w => M.pure (.bl w)) := by
  obtain ⟨r, ho, hr⟩ := ho
  refine pe_imp (pe_cmpR ho h1 h2 hm) fun σ H Q ⟨Tm, F, env, S, q⟩ => ⟨Tm, F, env, S, ?_⟩
  have q' : At C BR Tm F σ (fun w H' => Q (.bl w) H') (cmpM g f1 f2 env) := by
    revert q
    show At C (TR C.G) Tm F σ Q ((cmpM g f1 f2 env).bind fun w => M.pure (.bl w)) → _
    cases cmpM g f1 f2 env with
    | ok w e => exact fun q b F' H' l S e => by subst e; exact q _ F' H' l S (mk_bl _)
    | ex c fs e => exact fun q => q
    | no => exact fun q => q
  refine At.bind (R' := BR) (Q' := fun w H' => Q (.bl w) H') q' fun t env1 x F1 H1 le1 S1 r1 q1 => ⟨Tm, F1, env1, S1, ?_⟩
  refine At.bind (R' := BR) (Q' := fun w H' => Q (.bl w) H') q1 fun u env2 y F2 H2 le2 S2 r2 q2 => ?_
  exact cmp_core (op := op) hr S2 (r1.mono le2) r2 q2 fun w z => z w F2 H2 Le.rfl S2 rfl
theorem eb_cmp {op : CmpOp} {g : T → T → Option Bool} {f1 f2 : M Rv} (ho : CmpOk C op g) (h1 : EvH C a f1) (h2 : EvH C b f2) (hm : behindInMarks op b = false) : EvB C (.Compare a [op] [b] pos) (cmpM g f1 f2) := by
  obtain ⟨r, ho, hr⟩ := ho
  refine pt_imp (pt_cmpR ho h1 h2 hm) fun σ H Q ⟨Tm, F, env, S, q⟩ => ⟨Tm, F, env, S, ?_⟩
  refine At.bind (R' := BR) (Q' := Q) q fun t env1 x F1 H1 le1 S1 r1 q1 => ⟨Tm, F1, env1, S1, ?_⟩
  refine At.bind (R' := BR) (Q' := Q) q1 fun u env2 y F2 H2 le2 S2 r2 q2 => ?_
  exact cmp_core (op := op) hr S2 (r1.mono le2) r2 q2 fun w z => ⟨w, rfl, z w F2 H2 Le.rfl S2 rfl⟩
end
end Ev
/-! Ev3: chains, tests, argument lists, displays, built-ins, items, slices. -/
namespace Ev
open PySem PySem.Spec L2
section
variable {C : Cy} {a b c e : Expr} {es : List Expr} {pos : Pos}

/-! ### chains -/
def chainM (g g' : T → T → Option Bool) (f1 f2 f3 : M T) : M Bool := M.bind f1 fun t => M.bind f2 fun u => M.bind (M.of (g t u)) fun k => if k = true then M.bind f3 fun v => M.of (g' u v) else M.pure false
theorem chain_core {op op' : CmpOp} {g g' : T → T → Option Bool} {f1 f2 f3 : M T} (ho : CmpOk C op g) (ho' : CmpOk C op' g') (h1 : EvT C a f1) (h2 : EvT C b f2) (h3 : EvT C c f3)
    (hm : lastMarks [op, op'] [b, c] = false) : ∃ r r', OpR C.X (compareOp op) r ∧ OpR C.X (compareOp op') r' ∧ ∀ σ H (Q : Bool → Hp → Prop), tG C BR (chainM g g' f1 f2 f3) σ H Q →
      tChain r r' (tG C (TR C.G) f1) (tG C (TR C.G) f2) (tG C (TR C.G) f3) σ H fun x H' => ∃ k, x = .bl k ∧ Q k H' := by
  obtain ⟨r, ho, hr⟩ := ho
  obtain ⟨r', ho', hr'⟩ := ho'
  refine ⟨r, r', ho, ho', fun σ H Q ⟨Tm, F, env, S, q⟩ => ⟨Tm, F, env, S, ?_⟩⟩
  refine At.bind (R' := BR) (Q' := Q) q fun t env1 x F1 H1 le1 S1 r1 q1 => ⟨Tm, F1, env1, S1, ?_⟩
  refine At.bind (R' := BR) (Q' := Q) q1 fun u env2 y F2 H2 le2 S2 r2 q2 => ?_
  have q2' : At C BR Tm F2 σ Q ((M.of (g t u) env2).bind fun k => if k = true then M.bind f3 fun v => M.of (g' u v) else M.pure false) := q2
  cases hw : g t u with
  | none =>
    rw [hw] at q2'
    exact q2'.elim
  | some w =>
    rw [hw] at q2'
    refine hr S2 (.inl (Rep.mono le2 t r1)) (.inl r2) hw ⟨w, rfl, ?_⟩
    cases w with
    | false => exact ⟨false, rfl, q2' false F2 H2 Le.rfl S2 rfl⟩
    | true =>
      have q3 : At C BR Tm F2 σ Q (M.bind f3 (fun v => M.of (g' u v)) env2) := q2'
      refine ⟨Tm, F2, env2, S2, ?_⟩
      refine At.bind (R' := BR) (Q' := Q) q3 fun v env3 z F3 H3 le3 S3 r3 q4 => ?_
      cases hv : g' u v with
      | none =>
        rw [hv] at q4
        exact q4.elim
      | some k =>
        rw [hv] at q4
        exact hr' S3 (.inl (Rep.mono le3 u r2)) (.inl r3) hv ⟨k, rfl, q4 k F3 H3 Le.rfl S3 rfl⟩
theorem eb_chain {op op' : CmpOp} {g g' : T → T → Option Bool} {f1 f2 f3 : M T} (ho : CmpOk C op g) (ho' : CmpOk C op' g') (h1 : EvT C a f1) (h2 : EvT C b f2) (h3 : EvT C c f3)
    (hm : lastMarks [op, op'] [b, c] = false) : EvB C (.Compare a [op, op'] [b, c] pos) (chainM g g' f1 f2 f3) := by
  obtain ⟨r, r', k, k', h⟩ := chain_core (C := C) ho ho' h1 h2 h3 hm
  exact pt_imp (pt_chain k k' h1 h2 h3 hm) fun σ H Q q => h σ H Q q
theorem tChain_mono {r r' : R2} {ta tb tc : TE} {σ : St} {H : Hp} {Q Q' : VK} (ha : ∀ σ H Q Q', (∀ x H', Q x H' → Q' x H') → ta σ H Q → ta σ H Q') : True := True.intro
theorem ev_chain {op op' : CmpOp} {g g' : T → T → Option Bool} {f1 f2 f3 : M T} (ho : CmpOk C op g) (ho' : CmpOk C op' g') (h1 : EvT C a f1) (h2 : EvT C b f2) (h3 : EvT C c f3)
    (hm : lastMarks [op, op'] [b, c] = false) : EvT C (.Compare a [op, op'] [b, c] pos) (M.bind (chainM g g' f1 f2 f3) fun w => M.pure (.bl w)) := by
  obtain ⟨r, r', k, k', h⟩ := chain_core (C := C) ho ho' h1 h2 h3 hm
  refine ⟨fun pins s σ H Q I q => ?_⟩
  obtain ⟨Tm, F, env, S, q⟩ := q
  have q' : tG C BR (chainM g g' f1 f2 f3) σ H (fun w H' => Q (.bl w) H') := by
    refine ⟨Tm, F, env, S, ?_⟩
    revert q
    show At C (TR C.G) Tm F σ Q ((chainM g g' f1 f2 f3 env).bind fun w => M.pure (.bl w)) → _
    cases chainM g g' f1 f2 f3 env with
    | ok w e => exact fun q b F' H' l S e => by subst e; exact q _ F' H' l S (mk_bl _)
    | ex c fs e => exact fun q => q
    | no => exact fun q => q
  refine wpAny_mono ((pe_chain k k' h1 h2 h3 hm).run pins s σ H _ I (h σ H _ q')) (fun u s' ⟨x, H', I', rx, w, e, qw⟩ => ?_) fun _ _ z => z
  subst e
  exact ⟨_, H', I', rx, qw⟩

/-! ### tests -/
abbrev EvW (C : Cy) (e : Expr) (f : M Bool) : Prop := PW C.X e (tG C BR f)
theorem pw_imp {X : Cx} {e : Expr} {t t' : TT} (h : PW X e t) (i : ∀ σ H Q, t' σ H Q → t σ H Q) : PW X e t' := ⟨fun wh pins s σ H Q I q => h.run wh pins s σ H Q I (i σ H Q q)⟩
def notM (f : M Bool) : M Bool := M.bind f fun b => M.pure (!b)
def andM (f g : M Bool) : M Bool := M.bind f fun b => if b = true then g else M.pure false
def orM (f g : M Bool) : M Bool := M.bind f fun b => if b = true then M.pure true else g
theorem eb_not {f : M Bool} (h : EvB C a f) : EvB C (.UnaryOp .Not a pos) (notM f) := by
  refine pt_imp (pt_not h) fun σ H Q ⟨Tm, F, env, S, q⟩ => ⟨Tm, F, env, S, ?_⟩
  exact At.bind (R' := BR) (Q' := Q) q fun t env1 x F1 H1 le1 S1 r1 q1 => by
    have r1' : t = x := r1
    subst r1'
    exact q1 _ F1 H1 Le.rfl S1 rfl
theorem ew_and1 {f : M Bool} (h : EvB C a f) : EvW C (.BoolOp .And [a] pos) f := pw_and1 h
theorem ew_or1 {f : M Bool} (h : EvB C a f) : EvW C (.BoolOp .Or [a] pos) f := pw_or1 h
theorem ew_and {f g : M Bool} (h : EvB C a f) (h' : EvW C (.BoolOp .And (b :: es) pos) g) : EvW C (.BoolOp .And (a :: b :: es) pos) (andM f g) := by
  refine pw_imp (pw_and h h') fun σ H Q ⟨Tm, F, env, S, q⟩ => ⟨Tm, F, env, S, ?_⟩
  refine At.bind (R' := BR) (Q' := Q) q fun t env1 x F1 H1 le1 S1 r1 q1 => ?_
  have r1' : t = x := r1
  subst r1'
  cases t with
  | true => exact ⟨Tm, F1, env1, S1, q1⟩
  | false => exact q1 false F1 H1 Le.rfl S1 rfl
theorem ew_or {f g : M Bool} (h : EvB C a f) (h' : EvW C (.BoolOp .Or (b :: es) pos) g) : EvW C (.BoolOp .Or (a :: b :: es) pos) (orM f g) := by
  refine pw_imp (pw_or h h') fun σ H Q ⟨Tm, F, env, S, q⟩ => ⟨Tm, F, env, S, ?_⟩
  refine At.bind (R' := BR) (Q' := Q) q fun t env1 x F1 H1 le1 S1 r1 q1 => ?_
  have r1' : t = x := r1
  subst r1'
  cases t with
  | true => exact q1 true F1 H1 Le.rfl S1 rfl
  | false => exact ⟨Tm, F1, env1, S1, q1⟩
theorem eb_w {f : M Bool} (h : EvW C e f) : EvB C e f := h.pt
/-- and, or, not as values, of truths -/
def andV (f g : M T) : M T := M.bind f fun t => match t with
  | .bl true => g
  | .bl false => M.pure (.bl false)
  | _ => M.no
def orV (f g : M T) : M T := M.bind f fun t => match t with
  | .bl true => M.pure (.bl true)
  | .bl false => g
  | _ => M.no
theorem ev_one {op : BoolOp} {f : M T} (h : EvT C a f) : EvT C (.BoolOp op [a] pos) f := pe_one h
theorem ev_and {f g : M T} (h : EvT C a f) (h' : EvT C (.BoolOp .And (b :: es) pos) g) : EvT C (.BoolOp .And (a :: b :: es) pos) (andV f g) := by
  refine pe_imp (pe_and h h') fun σ H Q ⟨Tm, F, env, S, q⟩ => ⟨Tm, F, env, S, ?_⟩
  refine At.bind (R' := TR C.G) (Q' := Q) q fun t env1 x F1 H1 le1 S1 r1 q1 => ?_
  cases t <;> first | exact q1.elim | skip
  rename_i k
  cases k with
  | true => exact ⟨true, rep_bl r1, ⟨Tm, F1, env1, S1, q1⟩⟩
  | false => exact ⟨false, rep_bl r1, q1 _ F1 H1 Le.rfl S1 (mk_bl _)⟩
theorem ev_or {f g : M T} (h : EvT C a f) (h' : EvT C (.BoolOp .Or (b :: es) pos) g) : EvT C (.BoolOp .Or (a :: b :: es) pos) (orV f g) := by
  refine pe_imp (pe_or h h') fun σ H Q ⟨Tm, F, env, S, q⟩ => ⟨Tm, F, env, S, ?_⟩
  refine At.bind (R' := TR C.G) (Q' := Q) q fun t env1 x F1 H1 le1 S1 r1 q1 => ?_
  cases t <;> first | exact q1.elim | skip
  rename_i k
  cases k with
  | true => exact ⟨true, rep_bl r1, q1 _ F1 H1 Le.rfl S1 (mk_bl _)⟩
  | false => exact ⟨false, rep_bl r1, ⟨Tm, F1, env1, S1, q1⟩⟩
def notV (f : M T) : M T := M.bind f fun t => match t with
  | .bl k => M.pure (.bl (!k))
  | _ => M.no
theorem ev_not {f : M T} (h : EvT C a f) : EvT C (.UnaryOp .Not a pos) (notV f) := by
  refine pe_imp (pe_not h) fun σ H Q ⟨Tm, F, env, S, q⟩ => ⟨Tm, F, env, S, ?_⟩
  refine At.bind (R' := TR C.G) (Q' := Q) q fun t env1 x F1 H1 le1 S1 r1 q1 => ?_
  cases t <;> first | exact q1.elim | skip
  exact ⟨_, rep_bl r1, q1 _ F1 H1 Le.rfl S1 (mk_bl _)⟩
/-- a value's truth -/
def truT : T → Option Bool
  | .non => some false
  | .bl b => some b
  | .int i => some (i != 0)
  | .str s => if s.length ≤ sizeLine then some ((s.length : Int) != 0) else none
  | .tup ts => some (!ts.isEmpty)
  | .lst ts => some (!ts.isEmpty)
  | _ => none
theorem RepL.isEmpty {G : Gr} {F : Hp} {ts : List T} {xs : List V} (h : RepL G F ts xs) : xs.isEmpty = ts.isEmpty := by
  cases ts with
  | nil => rw [h.unnil] <;> rfl
  | cons t ts =>
    obtain ⟨x, r, e, _⟩ := h.uncons
    rw [e] <;> rfl
def truM (f : M Rv) : M Bool := M.bind f fun r => M.bind (pk r) fun t => M.of (truT t)
theorem pk_bind {γ δ : Type} {R' : RelT γ δ} {Q' : δ → Hp → Prop} {Tm : Amb} {F H : Hp} {σ : St} {env : Env} {r : Rv} {x : V} {k : T → M γ} {P : Prop} (S : Sok C.G Tm F H σ env) (h : HoR C.G Tm F H σ env r x)
    (q : At C R' Tm F σ Q' (M.bind (pk r) k env)) (step : ∀ t, Pk C.G F H t x → At C R' Tm F σ Q' (k t env) → P) : P := by
  have q0 : At C R' Tm F σ Q' ((pk r env).bind k) := q
  cases e1 : pk r env with
  | ok t env1 =>
    obtain ⟨rfl, p1⟩ := pk_ok S h e1
    rw [e1] at q0
    exact step t p1 q0
  | ex c fs e' => cases r <;> first | cases e1 | (unfold pk at e1; dsimp only at e1; split at e1 <;> cases e1)
  | no =>
    rw [e1] at q0
    exact q0.elim
theorem of_some {γ δ : Type} {R' : RelT γ δ} {Q' : δ → Hp → Prop} {Tm : Amb} {F : Hp} {σ : St} {env : Env} {g : Option γ} {P : Prop} (q : At C R' Tm F σ Q' (M.of g env)) (step : ∀ w, g = some w → At C R' Tm F σ Q' (.ok w env) → P) : P := by
  cases g with
  | none => exact q.elim
  | some w => exact step w rfl q
theorem eb_truth {f : M Rv} (h : EvH C a f) (he : ∀ whole, isTrue a C.X.env whole = (do let v ← whole; standAt a.pos; holding [v] (truthy v))) : EvB C a (truM f) := by
  refine pt_imp (pt_truth h he) fun σ H Q ⟨Tm, F, env, S, q⟩ => ⟨Tm, F, env, S, ?_⟩
  refine At.bind (R' := BR) (Q' := Q) q fun r env1 x F1 H1 le1 S1 r1 q1 => ?_
  refine pk_bind S1 r1 q1 fun t p1 q2 => of_some q2 fun w hw q3 => ⟨w, ?_, q3 w F1 H1 Le.rfl S1 rfl⟩
  cases t <;> first | (cases hw; done) | skip
  · cases hw
    rw [pk_non p1]
    rfl
  · cases hw
    rw [pk_bl p1]
    rfl
  · cases hw
    rw [pk_int p1]
    rfl
  · rw [pk_str p1]
    simp only [truT] at hw
    split at hw
    · rename_i hz
      cases hw
      exact ⟨hz, rfl⟩
    · cases hw
  · cases hw
    obtain ⟨p, xs, e, hq, r⟩ := pk_tup S1 p1
    rw [e]
    exact .inr (.inl ⟨xs, hq, by rw [r.isEmpty]⟩)
  · cases hw
    obtain ⟨p, xs, e, hq, r⟩ := pk_lst S1 p1
    rw [e]
    exact .inl ⟨xs, hq.sq, by rw [r.isEmpty]⟩
/-- an expression whose value is a truth, as a test -/
def blM (f : M T) : M Bool := M.bind f fun t => match t with
  | .bl b => M.pure b
  | _ => M.no
theorem eb_val {f : M T} (h : EvT C a f) (he : ∀ whole, isTrue a C.X.env whole = (do let v ← whole; standAt a.pos; holding [v] (truthy v))) : EvB C a (blM f) := by
  refine pt_imp (pt_val h he) fun σ H Q ⟨Tm, F, env, S, q⟩ => ⟨Tm, F, env, S, ?_⟩
  refine At.bind (R' := BR) (Q' := Q) q fun t env1 x F1 H1 le1 S1 r1 q1 => ?_
  cases t <;> first | exact q1.elim | skip
  exact ⟨_, rep_bl r1, q1 _ F1 H1 Le.rfl S1 rfl⟩
def ifM {α : Type} (f : M Bool) (g h : M α) : M α := M.bind f fun b => if b = true then g else h
theorem ev_if {f : M Bool} {g h : M Rv} (hf : EvB C c f) (hg : EvE C a g) (hh : EvE C b h) : EvE C (.IfExp c a b pos) (ifM f g h) := by
  refine pe_imp (pe_ifExp hf hg hh) fun σ H Q ⟨Tm, F, env, S, q⟩ => ⟨Tm, F, env, S, ?_⟩
  refine At.bind (R' := RvR C.G) (Q' := Q) q fun t env1 x F1 H1 le1 S1 r1 q1 => ?_
  have r1' : t = x := r1
  subst r1'
  cases t with
  | true => exact ⟨Tm, F1, env1, S1, q1⟩
  | false => exact ⟨Tm, F1, env1, S1, q1⟩

/-! ### argument lists, displays -/
def consM (f : M T) (g : M (List T)) : M (List T) := M.bind f fun t => M.bind g fun ts => M.pure (t :: ts)
theorem ea_nil : EvA C [] (M.pure []) := pa_imp pa_nil fun σ H Q ⟨Tm, F, env, S, q⟩ => q [] F H Le.rfl S .nil
theorem ea_cons {f : M T} {g : M (List T)} (h : EvT C e f) (h' : EvA C es g) (hs : starEach (e :: es) C.X.env = (false, eval e C.X.env) :: starEach es C.X.env := by rfl) : EvA C (e :: es) (consM f g) := by
  refine pa_imp (pa_cons h h' hs) fun σ H Q ⟨Tm, F, env, S, q⟩ => ⟨Tm, F, env, S, ?_⟩
  refine At.bind (R' := TLR C.G) (Q' := Q) q fun t env1 x F1 H1 le1 S1 r1 q1 => ⟨Tm, F1, env1, S1, ?_⟩
  refine At.bind (R' := TLR C.G) (Q' := Q) q1 fun ts env2 xs F2 H2 le2 S2 r2 q2 => ?_
  exact q2 _ F2 H2 Le.rfl S2 (.cons (Rep.mono le2 t r1) r2)
def lstM (f : M (List T)) : M Rv := M.bind f fun ts => if ts.length ≤ sizeLine then M.pure (.ow (.lst ts)) else M.no
def tupM (f : M (List T)) : M T := M.bind f fun ts => if ts.length ≤ sizeLine then M.pure (.tup ts) else M.no
theorem ev_lst {f : M (List T)} (h : EvA C es f) : EvE C (.List es pos) (lstM f) := by
  refine pe_imp (pe_lst h) fun σ H Q ⟨Tm, F, env, S, q⟩ => ⟨Tm, F, env, S, ?_⟩
  refine At.bind (R' := RvR C.G) (Q' := Q) q fun ts env1 xs F1 H1 le1 S1 r1 q1 => ?_
  by_cases hz : ts.length ≤ sizeLine
  · simp only [if_pos hz] at q1
    exact ⟨by rw [r1.length]; exact hz, fun p np => q1 _ F1 _ Le.rfl (S1.alloc np) (RvR.new S1 np ⟨_, rfl, r1⟩)⟩
  · simp only [if_neg hz] at q1
    exact q1.elim
theorem ev_tup {x1} {f : M (List T)} (h : EvA C es f) : EvT C (.Tuple es x1 pos) (tupM f) := by
  refine pe_imp (pe_tup h) fun σ H Q ⟨Tm, F, env, S, q⟩ => ⟨Tm, F, env, S, ?_⟩
  refine At.bind (R' := TR C.G) (Q' := Q) q fun ts env1 xs F1 H1 le1 S1 r1 q1 => ?_
  by_cases hz : ts.length ≤ sizeLine
  · simp only [if_pos hz] at q1
    refine ⟨by rw [r1.length]; exact hz, fun p np => ?_⟩
    have le := Le.upd (o := .tup xs) (S1.new np).1
    refine q1 _ _ _ le (S1.allocF np) ?_
    simp only [Rep]
    exact ⟨p, _, rfl, .inl (.inl upd_same), RepL.mono le _ r1⟩
  · simp only [if_neg hz] at q1
    exact q1.elim

/-! ### built-ins -/
/-- a rule for a built-in: by trees -/
def CallOk (C : Cy) (u : Value) (g : List T → Option Rv) : Prop := ∃ r, CallR C.X u r ∧
  ∀ {Tm : Amb} {F H : Hp} {σ : St} {env : Env} {xs : List V} {ts : List T} {w : Rv} {Q : V → Hp → Prop}, Sok C.G Tm F H σ env → RepL C.G F ts xs → g ts = some w → Post C Tm F σ env Q w → r xs H Q
/-- .. of one argument that is only looked at -/
def Call1Ok (C : Cy) (u : Value) (g : T → Option Rv) : Prop := ∃ r, CallR C.X u r ∧
  ∀ {Tm : Amb} {F H : Hp} {σ : St} {env : Env} {x : V} {t : T} {w : Rv} {Q : V → Hp → Prop}, Sok C.G Tm F H σ env → Pk C.G F H t x → g t = some w → Post C Tm F σ env Q w → r [x] H Q
def callM (g : List T → Option Rv) (f : M (List T)) : M Rv := M.bind f fun ts => M.of (g ts)
def call1M (g : T → Option Rv) (f : M Rv) : M Rv := M.bind f fun r => M.bind (pk r) fun t => M.of (g t)
section
variable {x : Str} {id : String} {p : Pos}
theorem ev_callB {g : List T → Option Rv} {f : M (List T)} (hc : CallOk C (.builtin id) g) (hg : Gl C.X x) (hm : C.X.mg x = none) (hv : bootBuiltins x = some (.builtin id)) (ha : EvA C (e :: es) f) (hn : x ≠ "__name__" := by decide) (hdb : (x == ("__debug__" : Str)) = false := by decide)
    (he : starEach (e :: es) C.X.env = (false, eval e C.X.env) :: starEach es C.X.env := by rfl) (hpl : (backTo pos (starEach es C.X.env)).any (·.1) = false := by rfl) : EvE C (.Call (.Name x p) (e :: es) [] pos) (callM g f) := by
  obtain ⟨r, hc, hr⟩ := hc
  refine pe_imp (pe_callB hc hg hm hv ha hn hdb he hpl) fun σ H Q ⟨Tm, F, env, S, q⟩ => ⟨Tm, F, env, S, ?_⟩
  refine At.bind (R' := RvR C.G) (Q' := Q) q fun ts env1 xs F1 H1 le1 S1 r1 q1 => of_some q1 fun w hw q2 => hr S1 r1 hw q2
theorem ev_callT {g : List T → Option Rv} {f : M (List T)} (hc : CallOk C (.type id) g) (hg : Gl C.X x) (hm : C.X.mg x = none) (hv : bootBuiltins x = some (.type id)) (ha : EvA C (e :: es) f) (hn : x ≠ "__name__" := by decide) (hdb : (x == ("__debug__" : Str)) = false := by decide)
    (he : starEach (e :: es) C.X.env = (false, eval e C.X.env) :: starEach es C.X.env := by rfl) (hpl : (backTo pos (starEach es C.X.env)).any (·.1) = false := by rfl) : EvE C (.Call (.Name x p) (e :: es) [] pos) (callM g f) := by
  obtain ⟨r, hc, hr⟩ := hc
  refine pe_imp (pe_callTy hc hg hm hv ha hn hdb he hpl) fun σ H Q ⟨Tm, F, env, S, q⟩ => ⟨Tm, F, env, S, ?_⟩
  refine At.bind (R' := RvR C.G) (Q' := Q) q fun ts env1 xs F1 H1 le1 S1 r1 q1 => of_some q1 fun w hw q2 => hr S1 r1 hw q2
theorem ev_call1B {g : T → Option Rv} {f : M Rv} (hc : Call1Ok C (.builtin id) g) (hg : Gl C.X x) (hm : C.X.mg x = none) (hv : bootBuiltins x = some (.builtin id)) (ha : EvH C e f) (hn : x ≠ "__name__" := by decide) (hdb : (x == ("__debug__" : Str)) = false := by decide)
    (he : starEach [e] C.X.env = (false, eval e C.X.env) :: starEach [] C.X.env := by rfl) (hpl : (backTo pos (starEach [] C.X.env)).any (·.1) = false := by rfl) : EvE C (.Call (.Name x p) [e] [] pos) (call1M g f) := by
  obtain ⟨r, hc, hr⟩ := hc
  refine pe_imp (pe_callB hc hg hm hv (pa_cons ha pa_nil he) hn hdb he hpl) fun σ H Q ⟨Tm, F, env, S, q⟩ => ⟨Tm, F, env, S, ?_⟩
  refine At.bind (R' := RvR C.G) (Q' := Q) q fun rv env1 x F1 H1 le1 S1 r1 q1 => ?_
  exact pk_bind S1 r1 q1 fun t p1 q2 => of_some q2 fun w hw q3 => hr S1 p1 hw q3
theorem ev_call1T {g : T → Option Rv} {f : M Rv} (hc : Call1Ok C (.type id) g) (hg : Gl C.X x) (hm : C.X.mg x = none) (hv : bootBuiltins x = some (.type id)) (ha : EvH C e f) (hn : x ≠ "__name__" := by decide) (hdb : (x == ("__debug__" : Str)) = false := by decide)
    (he : starEach [e] C.X.env = (false, eval e C.X.env) :: starEach [] C.X.env := by rfl) (hpl : (backTo pos (starEach [] C.X.env)).any (·.1) = false := by rfl) : EvE C (.Call (.Name x p) [e] [] pos) (call1M g f) := by
  obtain ⟨r, hc, hr⟩ := hc
  refine pe_imp (pe_callTy hc hg hm hv (pa_cons ha pa_nil he) hn hdb he hpl) fun σ H Q ⟨Tm, F, env, S, q⟩ => ⟨Tm, F, env, S, ?_⟩
  refine At.bind (R' := RvR C.G) (Q' := Q) q fun rv env1 x F1 H1 le1 S1 r1 q1 => ?_
  exact pk_bind S1 r1 q1 fun t p1 q2 => of_some q2 fun w hw q3 => hr S1 p1 hw q3
end
def lenT : T → Option Rv
  | .str s => if s.length ≤ sizeLine then some (.fz (.int s.length)) else none
  | .tup ts => some (.fz (.int ts.length))
  | .lst ts => some (.fz (.int ts.length))
  | _ => none
theorem ok_len : Call1Ok C (.builtin "len") lenT := by
  refine ⟨_, call_len, fun {Tm F H σ env x t w Q} S p hw q => ?_⟩
  cases t <;> first | (cases hw; done) | skip
  · simp only [lenT] at hw
    split at hw
    · rename_i hz
      cases hw
      exact ⟨_, _, rfl, by rw [pk_str p]; exact ⟨hz, rfl⟩, q _ F H Le.rfl S (mk_int _)⟩
    · cases hw
  · cases hw
    obtain ⟨a, xs, e, hq, r⟩ := pk_tup S p
    exact ⟨_, _, rfl, by rw [e]; exact .inr ⟨xs, hq, r.length.symm⟩, q _ F H Le.rfl S (mk_int _)⟩
  · cases hw
    obtain ⟨a, xs, e, hq, r⟩ := pk_lst S p
    exact ⟨_, _, rfl, by rw [e]; exact .inl ⟨xs, hq.sq, r.length.symm⟩, q _ F H Le.rfl S (mk_int _)⟩
def absT : T → Option Rv
  | .int i => some (.fz (.int (if i < 0 then -i else i)))
  | _ => none
theorem ok_abs : Call1Ok C (.builtin "abs") absT := by
  refine ⟨_, call_abs, fun {Tm F H σ env x t w Q} S p hw q => ?_⟩
  cases t <;> first | (cases hw; done) | skip
  cases hw
  exact ⟨_, by rw [pk_int p], q _ F H Le.rfl S (mk_int _)⟩
def intT : T → Option Rv
  | .int i => some (.fz (.int i))
  | .bl k => some (.fz (.int (if k = true then 1 else 0)))
  | _ => none
theorem ok_int : Call1Ok C (.type "int") intT := by
  refine ⟨_, call_int1, fun {Tm F H σ env x t w Q} S p hw q => ?_⟩
  cases t <;> first | (cases hw; done) | skip
  · cases hw
    exact .inr ⟨_, by rw [pk_bl p], q _ F H Le.rfl S (mk_int _)⟩
  · cases hw
    exact .inl ⟨_, by rw [pk_int p], q _ F H Le.rfl S (mk_int _)⟩
def maxT : List T → Option Rv
  | [.int i, .int j] => some (.fz (.int (if j > i then j else i)))
  | _ => none
def minT : List T → Option Rv
  | [.int i, .int j] => some (.fz (.int (if j < i then j else i)))
  | _ => none
theorem two_ints {G : Gr} {F : Hp} {i j : Int} {xs : List V} (r : RepL G F [.int i, .int j] xs) : xs = [.int i, .int j] := by
  obtain ⟨x, r1, e1, h1, h2⟩ := r.uncons
  obtain ⟨y, r2, e2, h3, h4⟩ := h2.uncons
  rw [e1, e2, h4.unnil, rep_int h1, rep_int h3]
theorem ok_max (hc : C.X.calm = true) : CallOk C (.builtin "max") maxT := by
  refine ⟨_, call_max2 hc, fun {Tm F H σ env xs ts w Q} S r hw q => ?_⟩
  unfold maxT at hw
  split at hw
  · cases hw
    exact ⟨_, _, two_ints r, q _ F H Le.rfl S (mk_int _)⟩
  · cases hw
theorem ok_min (hc : C.X.calm = true) : CallOk C (.builtin "min") minT := by
  refine ⟨_, call_min2 hc, fun {Tm F H σ env xs ts w Q} S r hw q => ?_⟩
  unfold minT at hw
  split at hw
  · cases hw
    exact ⟨_, _, two_ints r, q _ F H Le.rfl S (mk_int _)⟩
  · cases hw
def asInts : List T → Option (List Int)
  | [] => some []
  | .int i :: r => (asInts r).map (i :: ·)
  | _ => none
def asBls : List T → Option (List Bool)
  | [] => some []
  | .bl i :: r => (asBls r).map (i :: ·)
  | _ => none
def asStrs : List T → Option (List Str)
  | [] => some []
  | .str i :: r => (asStrs r).map (i :: ·)
  | _ => none
section
variable {G : Gr} {F : Hp}
theorem asInts_ok : ∀ {ts : List T} {xs : List V} {ns : List Int}, asInts ts = some ns → RepL G F ts xs → xs = ns.map V.int
  | [], xs, ns, e, r => by cases e; exact r.unnil
  | t :: ts, xs, ns, e, r => by
    cases t <;> first | (cases e; done) | skip
    obtain ⟨x, r1, e1, h1, h2⟩ := r.uncons
    simp only [asInts, Option.map_eq_some_iff] at e
    obtain ⟨ms, e2, e3⟩ := e
    subst e3
    rw [e1, rep_int h1, asInts_ok e2 h2] <;> rfl
theorem asBls_ok : ∀ {ts : List T} {xs : List V} {ns : List Bool}, asBls ts = some ns → RepL G F ts xs → xs = ns.map V.bl
  | [], xs, ns, e, r => by cases e; exact r.unnil
  | t :: ts, xs, ns, e, r => by
    cases t <;> first | (cases e; done) | skip
    obtain ⟨x, r1, e1, h1, h2⟩ := r.uncons
    simp only [asBls, Option.map_eq_some_iff] at e
    obtain ⟨ms, e2, e3⟩ := e
    subst e3
    rw [e1, rep_bl h1, asBls_ok e2 h2] <;> rfl
theorem asStrs_ok : ∀ {ts : List T} {xs : List V} {ns : List Str}, asStrs ts = some ns → RepL G F ts xs → xs = ns.map V.str
  | [], xs, ns, e, r => by cases e; exact r.unnil
  | t :: ts, xs, ns, e, r => by
    cases t <;> first | (cases e; done) | skip
    obtain ⟨x, r1, e1, h1, h2⟩ := r.uncons
    simp only [asStrs, Option.map_eq_some_iff] at e
    obtain ⟨ms, e2, e3⟩ := e
    subst e3
    rw [e1, rep_str h1, asStrs_ok e2 h2] <;> rfl
end
def sumT : T → Option Rv
  | .lst ts => (asInts ts).map fun ns => .fz (.int ns.sum)
  | _ => none
theorem ok_sum (hc : C.X.calm = true) : Call1Ok C (.builtin "sum") sumT := by
  refine ⟨_, cr_sum hc, fun {Tm F H σ env x t w Q} S p hw q => ?_⟩
  cases t <;> first | (cases hw; done) | skip
  obtain ⟨ns, e, e2⟩ := Option.map_eq_some_iff.mp hw
  subst e2
  obtain ⟨a, xs, e1, hq, r⟩ := pk_lst S p
  rw [asInts_ok e r] at hq
  exact ⟨a, ns, by rw [e1], hq.sq, q _ F H Le.rfl S (mk_int _)⟩
def allT : T → Option Rv
  | .lst ts => (asBls ts).map fun ns => .fz (.bl (ns.all id))
  | _ => none
theorem ok_all (hc : C.X.calm = true) : Call1Ok C (.builtin "all") allT := by
  refine ⟨_, cr_all hc, fun {Tm F H σ env x t w Q} S p hw q => ?_⟩
  cases t <;> first | (cases hw; done) | skip
  obtain ⟨ns, e, e2⟩ := Option.map_eq_some_iff.mp hw
  subst e2
  obtain ⟨a, xs, e1, hq, r⟩ := pk_lst S p
  rw [asBls_ok e r] at hq
  exact ⟨a, ns, by rw [e1], hq.sq, q _ F H Le.rfl S (mk_bl _)⟩
def anyT : T → Option Rv
  | .lst ts => (asBls ts).map fun ns => .fz (.bl (ns.any id))
  | _ => none
theorem ok_any (hc : C.X.calm = true) : Call1Ok C (.builtin "any") anyT := by
  refine ⟨_, cr_any hc, fun {Tm F H σ env x t w Q} S p hw q => ?_⟩
  cases t <;> first | (cases hw; done) | skip
  obtain ⟨ns, e, e2⟩ := Option.map_eq_some_iff.mp hw
  subst e2
  obtain ⟨a, xs, e1, hq, r⟩ := pk_lst S p
  rw [asBls_ok e r] at hq
  exact ⟨a, ns, by rw [e1], hq.sq, q _ F H Le.rfl S (mk_bl _)⟩

/-! ### items, slices -/
def itemT : T → T → Option Rv
  | .lst ts, .int i => (atI ts i).map .fz
  | .tup ts, .int i => (atI ts i).map .fz
  | .str s, .int i => if s.length ≤ sizeLine then (atI s.cps.toList i).map fun c => .fz (.str ⟨#[c]⟩) else none
  | _, _ => none
theorem RepL.atI {G : Gr} {F : Hp} {ts : List T} {xs : List V} {i : Int} {t : T} (r : RepL G F ts xs) (h : L2.atI ts i = some t) : ∃ x, L2.atI xs i = some x ∧ Rep G F t x := by
  unfold L2.atI at h ⊢
  rw [r.length]
  cases e : ixN ts.length i with
  | none =>
    rw [e] at h
    cases h
  | some j =>
    rw [e] at h
    exact r.get h
def itemM (f : M Rv) (g : M T) : M Rv := M.bind f fun r => M.bind g fun i => M.bind (pk r) fun t => M.of (itemT t i)
theorem ev_item {f : M Rv} {g : M T} (h : EvH C a f) (h' : EvT C b g) (hs : PlainIx b) : EvE C (.Subscript a b pos) (itemM f g) := by
  refine pe_imp (pe_ix ix_seq h h' hs) fun σ H Q ⟨Tm, F, env, S, q⟩ => ⟨Tm, F, env, S, ?_⟩
  refine At.bind (R' := RvR C.G) (Q' := Q) q fun r env1 x F1 H1 le1 S1 r1 q1 => ⟨Tm, F1, env1, S1, ?_⟩
  refine At.bind (R' := RvR C.G) (Q' := Q) q1 fun u env2 y F2 H2 le2 S2 r2 q2 => ?_
  refine pk_bind S2 (r1.mono le2) q2 fun t p1 q3 => of_some q3 fun w hw q4 => ?_
  cases t <;> cases u <;> first | (cases hw; done) | skip
  · simp only [itemT] at hw
    split at hw
    · rename_i hz
      obtain ⟨k, e, e2⟩ := Option.map_eq_some_iff.mp hw
      subst e2
      exact .inr (.inr ⟨_, _, _, pk_str p1, rep_int r2, hz, e, q4 _ F2 H2 Le.rfl S2 (mk_str _)⟩)
    · cases hw
  · obtain ⟨k, e, e2⟩ := Option.map_eq_some_iff.mp hw
    subst e2
    obtain ⟨p, xs, ex, hq, r⟩ := pk_tup S2 p1
    obtain ⟨z, hz, rz⟩ := r.atI e
    exact .inr (.inl ⟨p, xs, _, z, ex, rep_int r2, hq, hz, q4 _ F2 H2 Le.rfl S2 rz⟩)
  · obtain ⟨k, e, e2⟩ := Option.map_eq_some_iff.mp hw
    subst e2
    obtain ⟨p, xs, ex, hq, r⟩ := pk_lst S2 p1
    obtain ⟨z, hz, rz⟩ := r.atI e
    exact .inl ⟨p, xs, _, z, ex, rep_int r2, hq.sq, hz, q4 _ F2 H2 Le.rfl S2 rz⟩
/-- a slice's end -/
abbrev EvO (C : Cy) (e : Option Expr) (f : M (Option Int)) : Prop := PO C.X e (tG C (fun _ _ _ _ _ (i j : Option Int) => i = j) f)
theorem po_imp {X : Cx} {e : Option Expr} {t t' : TO} (h : PO X e t) (i : ∀ σ H Q, t' σ H Q → t σ H Q) : PO X e t' := ⟨fun pins s σ H Q I q => h.run pins s σ H Q I (i σ H Q q)⟩
theorem eo_none : EvO C none (M.pure none) := po_imp po_none fun σ H Q ⟨Tm, F, env, S, q⟩ => q none F H Le.rfl S rfl
def endM (f : M T) : M (Option Int) := M.bind f fun t => match t with
  | .int i => M.pure (some i)
  | _ => M.no
theorem eo_some {f : M T} (h : EvT C e f) : EvO C (some e) (endM f) := by
  refine po_imp (po_some h) fun σ H Q ⟨Tm, F, env, S, q⟩ => ⟨Tm, F, env, S, ?_⟩
  refine At.bind (R' := fun _ _ _ _ _ (i j : Option Int) => i = j) (Q' := Q) q fun t env1 x F1 H1 le1 S1 r1 q1 => ?_
  cases t <;> first | exact q1.elim | skip
  exact ⟨_, rep_int r1, q1 _ F1 H1 Le.rfl S1 rfl⟩
def cutL (ts : List T) (lo hi : Option Int) : List T := (ts.drop (HT.sIx ts.length 0 lo)).take (HT.sIx ts.length ts.length hi - HT.sIx ts.length 0 lo)
theorem RepL.cut {G : Gr} {F : Hp} {ts : List T} {xs : List V} {lo hi : Option Int} (r : RepL G F ts xs) : RepL G F (cutL ts lo hi) (cutV xs lo hi) := by
  unfold cutL cutV
  rw [r.length]
  exact (r.drop _).take _
def sliceT : T → Option Int → Option Int → Option Rv
  | .lst ts, lo, hi => some (.ow (.lst (cutL ts lo hi)))
  | .tup ts, lo, hi => some (.fz (.tup (cutL ts lo hi)))
  | .str s, lo, hi => if s.length ≤ sizeLine then some (.fz (.str (cutS s lo hi))) else none
  | _, _, _ => none
def sliceM (f : M Rv) (g g' : M (Option Int)) : M Rv := M.bind f fun r => M.bind g fun lo => M.bind g' fun hi => M.bind (pk r) fun t => M.of (sliceT t lo hi)
theorem sl_or {X : Cx} {r r' : V → Option Int → Option Int → Hp → VK → Prop} (h : SlR X r) (h' : SlR X r') : SlR X (fun x lo hi H Q => r x lo hi H Q ∨ r' x lo hi H Q) := by
  intro pins s σ H x v vl vu lo hi sl Q I rx hs pl pu q
  rcases q with q | q
  · exact h pins s σ H x v vl vu lo hi sl Q I rx hs pl pu q
  · exact h' pins s σ H x v vl vu lo hi sl Q I rx hs pl pu q
theorem ev_slice {lo hi : Option Expr} {p2 : Pos} {f : M Rv} {g g' : M (Option Int)} (h : EvH C a f) (hl : EvO C lo g) (hh : EvO C hi g') : EvE C (.Subscript a (.Slice lo hi none p2) pos) (sliceM f g g') := by
  refine pe_imp (pe_slice (sl_or sl_list (sl_or sl_tupA sl_str)) h hl hh) fun σ H Q ⟨Tm, F, env, S, q⟩ => ⟨Tm, F, env, S, ?_⟩
  refine At.bind (R' := RvR C.G) (Q' := Q) q fun r env1 x F1 H1 le1 S1 r1 q1 => ⟨Tm, F1, env1, S1, ?_⟩
  refine At.bind (R' := RvR C.G) (Q' := Q) q1 fun l env2 l' F2 H2 le2 S2 r2 q2 => ⟨Tm, F2, env2, S2, ?_⟩
  refine At.bind (R' := RvR C.G) (Q' := Q) q2 fun u env3 u' F3 H3 le3 S3 r3 q3 => ?_
  have r2' : l = l' := r2
  have r3' : u = u' := r3
  subst r2' r3'
  refine pk_bind S3 (r1.mono (le2.trans le3)) q3 fun t p1 q4 => of_some q4 fun w hw q5 => ?_
  cases t <;> first | (cases hw; done) | skip
  · simp only [sliceT] at hw
    split at hw
    · rename_i hz
      cases hw
      exact .inr (.inr ⟨_, pk_str p1, hz, q5 _ F3 H3 Le.rfl S3 (mk_str _)⟩)
    · cases hw
  · cases hw
    rename_i ts
    obtain ⟨p, xs, ex, hq, r⟩ := pk_tup S3 p1
    refine .inr (.inl ⟨p, xs, ex, hq, fun hw => ?_, fun hw q0 nq => ?_⟩)
    · have e : cutL ts l u = ts := by
        unfold cutL
        rw [r.length] at hw
        rw [hw.1, hw.2]
        simp
      refine q5 _ F3 H3 Le.rfl S3 ?_
      show Rep C.G F3 (.tup (cutL ts l u)) (.ref p)
      rw [e]
      rcases p1 with p1 | ⟨_, _, _, _, k⟩
      · rw [ex] at p1
        exact p1
      · exact k.elim
    · have le := Le.upd (o := .tup (cutV xs l u)) (S3.new nq).1
      refine q5 _ _ _ le (S3.allocF nq) ?_
      show Rep C.G _ (.tup (cutL ts l u)) (.ref q0)
      simp only [Rep]
      exact ⟨q0, _, rfl, .inl (.inl upd_same), RepL.mono le _ r.cut⟩
  · cases hw
    obtain ⟨p, xs, ex, hq, r⟩ := pk_lst S3 p1
    exact .inl ⟨p, xs, ex, hq.sq, fun q0 nq => q5 _ F3 _ Le.rfl (S3.alloc nq) (RvR.new S3 nq ⟨_, rfl, r.cut⟩)⟩
end
end Ev
/-! Ev4: statements. -/
namespace Ev
open PySem PySem.Spec L2
/-- how a statement ends -/
inductive SO where
  | nx (e : Env)
  | rt (r : Rv) (e : Env)
  | bk (e : Env)
  | ct (e : Env)
  | ex (c : Nat) (fs : List (Str × T)) (e : Env)
  | no
abbrev SM := Env → SO
def AtS (C : Cy) (Tm : Amb) (F : Hp) (D : Ends) : SO → Prop
  | .nx env => ∀ σ F' H, Le F F' → Sok C.G Tm F' H σ env → D.nx σ H
  | .rt r env => ∀ x σ F' H, Le F F' → Sok C.G Tm F' H σ env → RvR C.G Tm F' H σ env r x → D.rt x H
  | .bk env => ∀ σ F' H, Le F F' → Sok C.G Tm F' H σ env → D.bk σ H
  | .ct env => ∀ σ F' H, Le F F' → Sok C.G Tm F' H σ env → D.ct σ H
  | .ex c fs env => ∀ d σ F' H vs, Le F F' → Sok C.G Tm F' H σ env → H d = some (.xd vs) → RepF C.G F' fs vs → C.W (.ref (C.ca c)) (some d) σ H
  | .no => False
def tS (C : Cy) (f : SM) : TS := fun D σ H => ∃ Tm F env, Sok C.G Tm F H σ env ∧ AtS C Tm F D (f env)
abbrev EvS (C : Cy) (st : Stmt) (f : SM) : Prop := PS C.X st (tS C f)
abbrev EvSs (C : Cy) (st : List Stmt) (f : SM) : Prop := PSs C.X st (tS C f)
/-- behind an expression -/
def exprS {α : Type} (f : M α) (k : α → SM) : SM := fun env => match f env with
  | .ok a e => k a e
  | .ex c fs e => .ex c fs e
  | .no => .no
section
variable {C : Cy} {Tm : Amb} {F F' H : Hp} {D D' : Ends} {σ : St}
theorem AtS.weak (h : Le F F') : ∀ {m : SO}, AtS C Tm F D m → AtS C Tm F' D m
  | .nx env, q => fun σ F2 H2 l s => q σ F2 H2 (h.trans l) s
  | .rt r env, q => fun x σ F2 H2 l s k => q x σ F2 H2 (h.trans l) s k
  | .bk env, q => fun σ F2 H2 l s => q σ F2 H2 (h.trans l) s
  | .ct env, q => fun σ F2 H2 l s => q σ F2 H2 (h.trans l) s
  | .ex c fs env, q => fun d σ F2 H2 vs l s e r => q d σ F2 H2 vs (h.trans l) s e r
  | .no, q => q
theorem AtS.expr {α β : Type} {R : RelT α β} {f : M α} {k : α → SM} {env : Env} {Q : β → Hp → Prop} (h : AtS C Tm F D (exprS f k env))
    (step : ∀ a env' b F' H', Le F F' → Sok C.G Tm F' H' σ env' → R Tm F' H' σ env' a b → AtS C Tm F' D (k a env') → Q b H') : At C R Tm F σ Q (f env) := by
  unfold exprS at h
  cases q : f env with
  | ok a e =>
    rw [q] at h
    exact fun b F' H' l S r => step a e b F' H' l S r (AtS.weak l h)
  | ex c fs e =>
    rw [q] at h
    exact fun d F' H' vs l S e r => h d σ F' H' vs l S e r
  | no =>
    rw [q] at h
    exact h.elim
end

/-! ### slots written -/
def stT (i : Nat) (t : T) : Env → Option Env := fun e => match e[i]? with
  | none => none
  | some (.io _) => none
  | some _ => some (e.set i (.fz t))
def stO (i : Nat) (t : T) : Env → Option Env := fun e => match e[i]? with
  | none => none
  | some (.io _) => none
  | some _ => some (e.set i (.ow t))
section
variable {G : Gr} {Tm : Amb} {F H : Hp} {σ : St} {env env' : Env} {i : Nat} {t : T} {x : V}
theorem stT_at (e : stT i t env = some env') : ∃ s, env[i]? = some s ∧ (∀ u, s ≠ .io u) ∧ env' = env.set i (.fz t) := by
  unfold stT at e
  cases h : env[i]? with
  | none =>
    rw [h] at e
    cases e
  | some s =>
    rw [h] at e
    cases s with
    | io u => cases e
    | _ =>
      cases e
      exact ⟨_, rfl, fun u z => (by cases z), rfl⟩
theorem stO_at (e : stO i t env = some env') : ∃ s, env[i]? = some s ∧ (∀ u, s ≠ .io u) ∧ env' = env.set i (.ow t) := by
  unfold stO at e
  cases h : env[i]? with
  | none =>
    rw [h] at e
    cases e
  | some s =>
    rw [h] at e
    cases s with
    | io u => cases e
    | _ =>
      cases e
      exact ⟨_, rfl, fun u z => (by cases z), rfl⟩
theorem own_set {s : Sl} {j : Nat} {u : T} (hj : j ≠ i) (h : OwnAt (env.set i s) j u) : OwnAt env j u := by
  rcases h with h | h
  · rw [List.getElem?_set_ne (Ne.symm hj)] at h
    exact .inl h
  · rw [List.getElem?_set_ne (Ne.symm hj)] at h
    exact .inr h
theorem Sok.stT (S : Sok G Tm F H σ env) (r : Rep G F t x) (e : stT i t env = some env') : Sok G Tm F H (σ.set i (some x)) env' := by
  obtain ⟨s, hs, n, rfl⟩ := stT_at e
  have hi : i < env.length := (List.getElem?_eq_some_iff.mp hs).1
  have hi' : i < σ.length := by rw [S.len]; exact hi
  have nown : ∀ {j : Nat} {u : T}, OwnAt (env.set i (.fz t)) j u → j ≠ i := fun {j u} h z => by
    subst z
    rcases h with h | h <;> (rw [List.getElem?_set_self hi] at h; cases h)
  refine ⟨S.sub, S.tm, by simp [S.len], fun j s' e' => ?_, fun j k a t1 u1 h1 h2 h3 h4 => ?_, fun j a t1 h1 h2 => ?_, S.lk, fun j u h => ?_⟩
  · by_cases hj : j = i
    · subst hj
      rw [List.getElem?_set_self hi] at e'
      cases e'
      exact ⟨_, List.getElem?_set_self hi', _, rfl, r⟩
    · rw [List.getElem?_set_ne (Ne.symm hj)] at e' ⊢
      exact S.slot j s' e'
  · have n1 := nown h1
    have n3 := nown h3
    rw [List.getElem?_set_ne (Ne.symm n1)] at h2
    rw [List.getElem?_set_ne (Ne.symm n3)] at h4
    exact S.apart j k a t1 u1 (own_set n1 h1) h2 (own_set n3 h3) h4
  · have n1 := nown h1
    rw [List.getElem?_set_ne (Ne.symm n1)] at h2
    exact S.tmo j a t1 (own_set n1 h1) h2
  · have n1 := nown (.inr h)
    rw [List.getElem?_set_ne (Ne.symm n1)] at h
    obtain ⟨a, e1, e2⟩ := S.pio j u h
    exact ⟨a, e1, by rw [List.getElem?_set_ne (Ne.symm n1)]; exact e2⟩
theorem Sok.stO (S : Sok G Tm F H σ env) (r : RvR G Tm F H σ env (.ow t) x) (e : stO i t env = some env') : Sok G Tm F H (σ.set i (some x)) env' := by
  obtain ⟨s, hs, n, rfl⟩ := stO_at e
  obtain ⟨p, o, rfl, hp, hf, ht, top, hn⟩ := r
  have hi : i < env.length := (List.getElem?_eq_some_iff.mp hs).1
  have hi' : i < σ.length := by rw [S.len]; exact hi
  refine ⟨S.sub, S.tm, by simp [S.len], fun j s' e' => ?_, fun j k a t1 u1 h1 h2 h3 h4 => ?_, fun j a t1 h1 h2 => ?_, S.lk, fun j u h => ?_⟩
  · by_cases hj : j = i
    · subst hj
      rw [List.getElem?_set_self hi] at e'
      cases e'
      exact ⟨_, List.getElem?_set_self hi', p, o, rfl, hp, hf, top⟩
    · rw [List.getElem?_set_ne (Ne.symm hj)] at e' ⊢
      exact S.slot j s' e'
  · by_cases hj : j = i
    · subst hj
      rw [List.getElem?_set_self hi'] at h2
      cases h2
      by_cases hk : k = j
      · exact hk.symm
      · rw [List.getElem?_set_ne (Ne.symm hk)] at h4
        exact absurd h4 (hn k u1 (own_set hk h3))
    · rw [List.getElem?_set_ne (Ne.symm hj)] at h2
      by_cases hk : k = i
      · subst hk
        rw [List.getElem?_set_self hi'] at h4
        cases h4
        exact absurd h2 (hn j t1 (own_set hj h1))
      · rw [List.getElem?_set_ne (Ne.symm hk)] at h4
        exact S.apart j k a t1 u1 (own_set hj h1) h2 (own_set hk h3) h4
  · by_cases hj : j = i
    · subst hj
      rw [List.getElem?_set_self hi'] at h2
      cases h2
      exact ht
    · rw [List.getElem?_set_ne (Ne.symm hj)] at h2
      exact S.tmo j a t1 (own_set hj h1) h2
  · have hj : j ≠ i := fun z => by
      subst z
      rw [List.getElem?_set_self hi] at h
      cases h
    rw [List.getElem?_set_ne (Ne.symm hj)] at h
    obtain ⟨a, e1, e2⟩ := S.pio j u h
    exact ⟨a, e1, by rw [List.getElem?_set_ne (Ne.symm hj)]; exact e2⟩
/-- an own object is changed -/
def chO (j : Nat) (t : T) : Env → Option Env := fun e => match e[j]? with
  | some (.ow _) => some (e.set j (.ow t))
  | some (.io _) => some (e.set j (.io t))
  | _ => none
theorem Sok.chO (S : Sok G Tm F H σ env) {j : Nat} {a : Addr} {o : HO} (hx : σ[j]? = some (some (.ref a))) (top : Top G F o t) (e : chO j t env = some env') : Sok G Tm F (upd H a o) σ env' := by
  have key : ∃ (u : T) (s' : Sl), OwnAt env j u ∧ (s' = .ow t ∨ s' = .io t) ∧ env' = env.set j s' ∧ (∀ w, s' = .io w → ∃ w', env[j]? = some (.io w')) := by
    unfold Ev.chO at e
    cases h : env[j]? with
    | none =>
      rw [h] at e
      cases e
    | some s =>
      rw [h] at e
      cases s with
      | ow u =>
        cases e
        exact ⟨u, _, .inl h, .inl rfl, rfl, fun w z => (by cases z)⟩
      | io u =>
        cases e
        exact ⟨u, _, .inr h, .inr rfl, rfl, fun w z => ⟨u, rfl⟩⟩
      | un => cases e
      | fz u => cases e
  obtain ⟨u, s', ow, es, rfl, hio⟩ := key
  obtain ⟨s0, e0, k0⟩ := ow.get
  obtain ⟨y, hy, ok0⟩ := S.slot j _ e0
  rw [hx] at hy
  cases hy
  obtain ⟨b, o0, eb, hb, fb, _⟩ := ok0.own k0
  cases eb
  have hj : j < env.length := (List.getElem?_eq_some_iff.mp e0).1
  have back : ∀ {k : Nat} {w : T}, OwnAt (env.set j s') k w → ∃ w', OwnAt env k w' := fun {k w} h => by
    by_cases hk : k = j
    · subst hk
      exact ⟨u, ow⟩
    · exact ⟨w, own_set hk h⟩
  refine ⟨fun b u1 e1 => ?_, fun b u1 e1 => ⟨?_, (S.tm b u1 e1).2⟩, by simp [S.len], fun k s1 e1 => ?_, fun k l b t1 u1 h1 h2 h3 h4 => ?_, fun k b t1 h1 h2 => ?_, fun b u1 e1 => ⟨?_, (S.lk b u1 e1).2⟩, fun k w h => ?_⟩
  · have nb : b ≠ a := fun z => by
      rw [z, fb] at e1
      cases e1
    rcases S.sub b u1 e1 with q | ⟨q1, ob, q⟩
    · exact .inl (by rw [upd_ne nb]; exact q)
    · exact .inr ⟨q1, ob, by rw [upd_ne nb]; exact q⟩
  · have nb : b ≠ a := fun z => by
      rw [z, S.tmo j a u ow hx] at e1
      cases e1
    rw [upd_ne nb]
    exact (S.tm b u1 e1).1
  · by_cases hk : k = j
    · subst hk
      rw [List.getElem?_set_self hj] at e1
      cases e1
      refine ⟨_, hx, ?_⟩
      rcases es with es | es
      · subst es
        exact ⟨a, o, rfl, upd_same, fb, top⟩
      · subst es
        exact ⟨a, o, rfl, upd_same, fb, top⟩
    · rw [List.getElem?_set_ne (Ne.symm hk)] at e1
      obtain ⟨z, hz, ok⟩ := S.slot k s1 e1
      refine ⟨z, hz, ?_⟩
      have mv : ∀ {w : T}, (s1 = .ow w ∨ s1 = .io w) → ∃ c oc, z = some (.ref c) ∧ upd H a o c = some oc ∧ F c = none ∧ Top G F oc w := fun {w} kw => by
        obtain ⟨c, oc, ez, hc, fc, tc⟩ := ok.own kw
        refine ⟨c, oc, ez, ?_, fc, tc⟩
        have nc : c ≠ a := fun q => hk (S.apart k j a w u (.of kw e1) (by rw [hz, ez, q]) ow hx)
        rw [upd_ne nc]
        exact hc
      cases s1 with
      | un => exact ok
      | fz w => exact ok
      | ow w => exact mv (.inl rfl)
      | io w => exact mv (.inr rfl)
  · obtain ⟨w1, o1⟩ := back h1
    obtain ⟨w2, o2⟩ := back h3
    exact S.apart k l b w1 w2 o1 h2 o2 h4
  · obtain ⟨w1, o1⟩ := back h1
    exact S.tmo k b w1 o1 h2
  · rw [upd_ne (fun z => (S.lk b u1 e1).2 (by rw [z]; exact fb))]
    exact (S.lk b u1 e1).1
  · by_cases hk : k = j
    · subst hk
      rw [List.getElem?_set_self hj] at h
      cases h
      obtain ⟨w', e'⟩ := hio w rfl
      exact S.pio k w' e'
    · rw [List.getElem?_set_ne (Ne.symm hk)] at h
      exact S.pio k w h
end

/-! ### statements -/
section
variable {C : Cy} {a b c e : Expr} {es : List Expr} {pos pos' : Pos} {st : Stmt} {sts : List Stmt} {f g : SM}
def seqS (f g : SM) : SM := fun env => match f env with
  | .nx e => g e
  | o => o
def nilS : SM := fun env => .nx env
theorem es_nil : EvSs C [] nilS := pss_imp pss_nil fun D σ H ⟨Tm, F, env, S, q⟩ => q σ F H Le.rfl S
theorem es_cons (h : EvS C st f) (h' : EvSs C sts g) : EvSs C (st :: sts) (seqS f g) := by
  refine pss_imp (pss_cons h h') fun D σ H ⟨Tm, F, env, S, q⟩ => ⟨Tm, F, env, S, ?_⟩
  unfold seqS at q
  cases e : f env with
  | nx env1 =>
    rw [e] at q
    exact fun σ' F' H' l S' => ⟨Tm, F', env1, S', AtS.weak l q⟩
  | rt r env1 => rw [e] at q; exact q
  | bk env1 => rw [e] at q; exact q
  | ct env1 => rw [e] at q; exact q
  | ex c fs env1 => rw [e] at q; exact q
  | no => rw [e] at q; exact q
theorem es_one (h : EvS C st f) : EvSs C [st] f := pss_one h
theorem e_pass : EvS C (.Pass pos) nilS := ps_imp ps_pass fun D σ H ⟨Tm, F, env, S, q⟩ => q σ F H Le.rfl S
def ifS (c : M Bool) (f g : SM) : SM := exprS c fun b => if b = true then f else g
theorem e_if {m : M Bool} {as bs : List Stmt} (hc : EvB C c m) (hf : EvSs C as f) (hg : EvSs C bs g) : EvS C (.If c as bs pos) (ifS m f g) := by
  refine ps_imp (ps_if hc hf hg) fun D σ H ⟨Tm, F, env, S, q⟩ => ⟨Tm, F, env, S, ?_⟩
  refine AtS.expr q fun b env1 b' F1 H1 le1 S1 r1 q1 => ?_
  have r1' : b = b' := r1
  subst r1'
  cases b with
  | true => exact ⟨Tm, F1, env1, S1, q1⟩
  | false => exact ⟨Tm, F1, env1, S1, q1⟩
def retS (m : M Rv) : SM := exprS m fun r env => .rt r env
theorem e_ret {m : M Rv} (h : EvE C e m) : EvS C (.Return (some e) pos) (retS m) := by
  refine ps_imp (ps_ret h) fun D σ H ⟨Tm, F, env, S, q⟩ => ⟨Tm, F, env, S, ?_⟩
  exact AtS.expr q fun b env1 x F1 H1 le1 S1 r1 q1 => q1 x σ F1 H1 Le.rfl S1 r1
theorem e_retN : EvS C (.Return none pos) (fun env => .rt (.fz .non) env) := ps_imp ps_retN fun D σ H ⟨Tm, F, env, S, q⟩ => q .non σ F H Le.rfl S mk_non
def dropS (m : M Rv) : SM := exprS m fun r env => .nx env
theorem e_expr {m : M Rv} (h : EvE C e m) (hs : swapsWith e none pos.line C.X.env = pure false := by rfl) : EvS C (.Expr e pos) (dropS m) := by
  refine ps_imp (ps_expr h hs) fun D σ H ⟨Tm, F, env, S, q⟩ => ⟨Tm, F, env, S, ?_⟩
  exact AtS.expr q fun b env1 x F1 H1 le1 S1 r1 q1 => q1 σ F1 H1 Le.rfl S1
theorem e_doc {x j} : EvS C (.Expr (.Constant (.str x) j pos) pos') nilS := ps_imp ps_doc fun D σ H ⟨Tm, F, env, S, q⟩ => q σ F H Le.rfl S
/-- name = value -/
def asgS (i : Nat) (m : M Rv) : SM := exprS m fun r env => match r with
  | .ow t => (match stO i t env with
    | some e => .nx e
    | none => .no)
  | r => exprS (frz r) (fun t env => match stT i t env with
    | some e => .nx e
    | none => .no) env
theorem asg_core {m : M Rv} {D : Ends} {σ : St} {Tm : Amb} {F : Hp} {env : Env} {i : Nat} (q : AtS C Tm F D (asgS i m env)) : At C (RvR C.G) Tm F σ (fun x H => D.nx (σ.set i (some x)) H) (m env) := by
  refine AtS.expr q fun r env1 x F1 H1 le1 S1 r1 q1 => ?_
  have viaF : ∀ r : Rv, RvR C.G Tm F1 H1 σ env1 r x → AtS C Tm F1 D (exprS (frz r) (fun t env => match stT i t env with
    | some e => .nx e
    | none => .no) env1) → D.nx (σ.set i (some x)) H1 := fun r rr qq => by
    unfold exprS at qq
    cases e : frz r env1 with
    | ok t env2 =>
      rw [e] at qq
      obtain ⟨F2, le2, S2, rep⟩ := frz_ok S1 rr e
      dsimp only at qq
      cases e3 : stT i t env2 with
      | none =>
        rw [e3] at qq
        exact qq.elim
      | some env3 =>
        rw [e3] at qq
        exact qq _ F2 H1 le2 (S2.stT rep e3)
    | ex c fs env' => cases r <;> first | cases e | (unfold frz at e; dsimp only at e; split at e <;> cases e)
    | no =>
      rw [e] at qq
      exact qq.elim
  cases r with
  | ow t =>
    dsimp only at q1
    cases e3 : stO i t env1 with
    | none =>
      rw [e3] at q1
      exact q1.elim
    | some env3 =>
      rw [e3] at q1
      exact q1 _ F1 H1 Le.rfl (S1.stO r1 e3)
  | fz t => exact viaF _ r1 q1
  | bo j => exact viaF _ r1 q1
theorem e_asg {i : Nat} {x : Str} {m : M Rv} (hN : C.X.N.Nodup) (hi : C.X.N[i]? = some x) (hx : Loc C.X.env.scope x) (h : EvE C e m) (hs : swapsWith e (some (.Name x pos')) pos.line C.X.env = pure false := by rfl)
    (hf : C.X.fn x = true ∨ C.X.env.scope.names.lookup x = some .local := by first | exact .inl rfl | exact .inr rfl) : EvS C (.Assign [.Name x pos'] e pos) (asgS i m) := by
  refine ps_imp (ps_set hN hi hx h hs hf) fun D σ H ⟨Tm, F, env, S, q⟩ => ⟨Tm, F, env, S, asg_core q⟩

/-! ### targets -/
abbrev TM := T → Env → Option Env
/-- the slots js are stored, no other -/
def Keep (js : List Nat) (σ σ' : St) : Prop := σ'.length = σ.length ∧ ∀ j, j ∉ js → σ'[j]? = σ[j]?
def tGt (G : Gr) (js : List Nat) (f : TM) : TG := fun v σ H Q => ∃ Tm F env t env', Sok G Tm F H σ env ∧ Rep G F t v ∧ f t env = some env' ∧ ∀ σ', Sok G Tm F H σ' env' → Keep js σ σ' → Q σ' H
abbrev EvG (C : Cy) (tg : Expr) (js : List Nat) (f : TM) : Prop := PG C.X tg (tGt C.G js f)
theorem pg_imp {X : Cx} {e : Expr} {t t' : TG} (h : PG X e t) (i : ∀ v σ H Q, t' v σ H Q → t v σ H Q) : PG X e t' := ⟨fun pins s σ H v u Q I r q => h.run pins s σ H v u Q I r (i v σ H Q q)⟩
theorem eg_name {i : Nat} {x : Str} (hN : C.X.N.Nodup) (hi : C.X.N[i]? = some x) (hx : Loc C.X.env.scope x) (hf : C.X.fn x = true ∨ C.X.env.scope.names.lookup x = some .local := by first | exact .inl rfl | exact .inr rfl) : EvG C (.Name x pos) [i] (stT i) :=
  pg_imp (pg_name hN hi hx hf) fun v σ H Q ⟨Tm, F, env, t, env', S, r, e, q⟩ => q _ (S.stT r e) ⟨List.length_set, fun j hj => List.getElem?_set_ne fun z => hj (by simp [z])⟩
abbrev TMs := List T → Env → Option Env
def tGts (G : Gr) (js : List Nat) (f : TMs) : TGs := fun vs σ H Q => ∃ Tm F env ts env', Sok G Tm F H σ env ∧ RepL G F ts vs ∧ f ts env = some env' ∧ ∀ σ', Sok G Tm F H σ' env' → Keep js σ σ' → Q σ' H
abbrev EvGs (C : Cy) (tg : List Expr) (js : List Nat) (f : TMs) : Prop := PGs C.X tg (tGts C.G js f)
theorem pgs_imp {X : Cx} {e : List Expr} {t t' : TGs} (h : PGs X e t) (i : ∀ v σ H Q, t' v σ H Q → t v σ H Q) : PGs X e t' := ⟨fun pins s σ H v u Q I r q => h.run pins s σ H v u Q I r (i v σ H Q q)⟩
def tgNil : TMs := fun ts env => match ts with
  | [] => some env
  | _ => none
def tgCons (f : TM) (g : TMs) : TMs := fun ts env => match ts with
  | [] => none
  | t :: r => (f t env).bind (g r)
theorem eg_nil : EvGs C [] [] tgNil := by
  refine pgs_imp pgs_nil fun v σ H Q ⟨Tm, F, env, ts, env', S, r, e, q⟩ => ?_
  cases ts with
  | nil =>
    cases e
    exact ⟨r.unnil, q σ S ⟨rfl, fun _ _ => rfl⟩⟩
  | cons t r => cases e
theorem eg_cons {tg : Expr} {tgs : List Expr} {js ks : List Nat} {f : TM} {g : TMs} (h : EvG C tg js f) (h' : EvGs C tgs ks g) (hs : (assignEach (tg :: tgs) C.X.env).map (·.2) = assign tg C.X.env :: (assignEach tgs C.X.env).map (·.2) := by rfl) : EvGs C (tg :: tgs) (js ++ ks) (tgCons f g) := by
  refine pgs_imp (pgs_cons h h' hs) fun v σ H Q ⟨Tm, F, env, ts, env', S, r, e, q⟩ => ?_
  cases ts with
  | nil => cases e
  | cons t ts =>
    obtain ⟨x, xs, ex, h1, h2⟩ := r.uncons
    obtain ⟨env1, e1, e2⟩ := Option.bind_eq_some_iff.mp e
    refine ⟨x, xs, ex, Tm, F, env, t, env1, S, h1, e1, fun σ1 S1 k1 => ?_⟩
    exact ⟨Tm, F, env1, ts, env', S1, h2, e2, fun σ2 S2 k2 => q σ2 S2 ⟨k2.1.trans k1.1, fun j hj => (k2.2 j fun z => hj (List.mem_append_right _ z)).trans (k1.2 j fun z => hj (List.mem_append_left _ z))⟩⟩
def tgTup (n : Nat) (g : TMs) : TM := fun t env => match t with
  | .tup ts => if ts.length = n then g ts env else none
  | _ => none
theorem eg_tup {tgs : List Expr} {k n : Nat} {js : List Nat} {g : TMs} (hc : C.X.calm = true) (h : EvGs C tgs js g) (hn : (assignEach tgs C.X.env).length = n := by rfl) (hst : (assignEach tgs C.X.env).findIdx? (·.1) = none := by rfl) : EvG C (.Tuple tgs k pos) js (tgTup n g) := by
  refine pg_imp (pg_tup hc h hn hst) fun v σ H Q ⟨Tm, F, env, t, env', S, r, e, q⟩ => ?_
  cases t <;> first | (cases e; done) | skip
  rename_i ts
  simp only [tgTup] at e
  split at e
  · rename_i hl
    obtain ⟨p, xs, ev, hq, rl⟩ := rep_tup r
    exact ⟨p, xs, ev, S.sqT hq, by rw [rl.length]; exact hl, Tm, F, env, ts, env', S, rl, e, q⟩
  · cases e
/-- target = value -/
def asgGS (m : M T) (f : TM) : SM := exprS m fun t env => match f t env with
  | some e => .nx e
  | none => .no
theorem e_asgG {tg : Expr} {m : M T} {js : List Nat} {f : TM} (h : EvT C e m) (hg : EvG C tg js f) (hs : swapsWithSole [tg] e pos.line C.X.env = pure false := by rfl) (hw : swappedStores [tg] e C.X.env = pure none := by rfl)
    (h1 : (assignEach [tg] C.X.env).map (·.2) = [assign tg C.X.env] := by rfl) : EvS C (.Assign [tg] e pos) (asgGS m f) := by
  refine ps_imp (ps_asg h hg hs hw h1) fun D σ H ⟨Tm, F, env, S, q⟩ => ⟨Tm, F, env, S, ?_⟩
  refine AtS.expr q fun t env1 x F1 H1 le1 S1 r1 q1 => ?_
  cases e3 : f t env1 with
  | none =>
    rw [e3] at q1
    exact q1.elim
  | some env3 =>
    rw [e3] at q1
    exact ⟨Tm, F1, env1, t, env3, S1, r1, e3, fun σ' S' _ => q1 σ' F1 H1 Le.rfl S'⟩
/-- a, b = x, y -/
def parS (i j : Nat) (m : M (List T)) : SM := exprS m fun ts env => match ts with
  | [t, u] => (match (stT i t env).bind (stT j u) with
    | some e => .nx e
    | none => .no)
  | _ => .no
theorem e_par {i j : Nat} {x y : Str} {px py pt : Pos} {kt k2 pt2} {m : M (List T)} (hc : C.X.calm = true) (hN : C.X.N.Nodup) (hi : C.X.N[i]? = some x) (hj : C.X.N[j]? = some y) (hij : i ≠ j)
    (hx : C.X.env.scope.names.lookup x = some .local) (hy : C.X.env.scope.names.lookup y = some .local) (h : EvA C [a, b] m)
    (hw : swappedStores [.Tuple [.Name x px, .Name y py] kt pt] (.Tuple [a, b] k2 pt2) C.X.env = pure (some [x, y]))
    (hs : swapsWithSole [.Tuple [.Name x px, .Name y py] kt pt] (.Tuple [a, b] k2 pt2) pos.line C.X.env = pure false := by rfl) :
    EvS C (.Assign [.Tuple [.Name x px, .Name y py] kt pt] (.Tuple [a, b] k2 pt2) pos) (parS i j m) := by
  refine ps_imp (ps_par hc hN hi hj hij hx hy h hw hs) fun D σ H ⟨Tm, F, env, S, q⟩ => ⟨Tm, F, env, S, ?_⟩
  refine AtS.expr q fun ts env1 xs F1 H1 le1 S1 r1 q1 => ?_
  cases ts with
  | nil => exact q1.elim
  | cons t ts =>
    cases ts with
    | nil => exact q1.elim
    | cons u ts =>
      cases ts with
      | cons _ _ => exact q1.elim
      | nil =>
        obtain ⟨v1, r1', e1, h1, h2⟩ := r1.uncons
        obtain ⟨v2, r2', e2, h3, h4⟩ := h2.uncons
        refine ⟨v1, v2, by rw [e1, e2, h4.unnil], ?_⟩
        dsimp only at q1
        cases e3 : (stT i t env1).bind (stT j u) with
        | none =>
          rw [e3] at q1
          exact q1.elim
        | some env3 =>
          rw [e3] at q1
          obtain ⟨env2, k1, k2⟩ := Option.bind_eq_some_iff.mp e3
          exact q1 _ F1 H1 Le.rfl ((S1.stT h1 k1).stT h3 k2)

/-! ### what is changed in place -/
def setT : T → T → T → Option T
  | .lst ts, .int k, v => (ixN ts.length k).map fun j => .lst (ts.set j v)
  | _, _, _ => none
/-- o[i] = v, o a name -/
def setS (m : M T) (f : M Rv) (g : M T) : SM := exprS m fun v => exprS f fun r => match r with
  | .bo j => exprS g fun i env => (match env[j]? with
    | some (.ow t) => (match (setT t i v).bind fun t' => chO j t' env with
      | some e => .nx e
      | none => .no)
    | some (.io t) => (match (setT t i v).bind fun t' => chO j t' env with
      | some e => .nx e
      | none => .no)
    | _ => .no)
  | _ => fun _ => .no
theorem e_set {m g : M T} {f : M Rv} {spos : Pos} (h : EvT C e m) (ho : EvE C a f) (hi : EvT C b g)
    (ha : ∀ v, assign (.Subscript a b spos) C.X.env v = (do
      let ov ← holding [v] (eval a C.X.env)
      let iv ← holding [v, ov] (eval b C.X.env)
      standAt spos
      holding [v, ov, iv] (setItem ov iv v)
      release [v, ov, iv] []) := by intro _; rfl)
    (hs : swapsWithSole [.Subscript a b spos] e pos.line C.X.env = pure false := by rfl) (hw : swappedStores [.Subscript a b spos] e C.X.env = pure none := by rfl)
    (h1 : (assignEach [.Subscript a b spos] C.X.env).map (·.2) = [assign (.Subscript a b spos) C.X.env] := by rfl) : EvS C (.Assign [.Subscript a b spos] e pos) (setS m f g) := by
  refine ps_imp (ps_asg h (pg_sub ho hi set_list ha) hs hw h1) fun D σ H ⟨Tm, F, env, S, q⟩ => ⟨Tm, F, env, S, ?_⟩
  refine AtS.expr q fun v env1 x F1 H1 le1 S1 r1 q1 => ⟨Tm, F1, env1, S1, ?_⟩
  refine AtS.expr q1 fun r env2 o F2 H2 le2 S2 r2 q2 => ?_
  cases r with
  | fz _ => exact q2.elim
  | ow _ => exact q2.elim
  | bo j =>
    refine ⟨Tm, F2, env2, S2, ?_⟩
    refine AtS.expr q2 fun i env3 y F3 H3 le3 S3 r3 q3 => ?_
    have go : ∀ t, OwnAt env3 j t → AtS C Tm F3 D (match (setT t i v).bind fun t' => chO j t' env3 with
      | some e => .nx e
      | none => .no) → rSetL o y x H3 fun H' => D.nx σ H' := fun t own qq => by
      cases e3 : (setT t i v).bind fun t' => chO j t' env3 with
      | none =>
        rw [e3] at qq
        exact qq.elim
      | some env4 =>
        rw [e3] at qq
        obtain ⟨t', k1, k2⟩ := Option.bind_eq_some_iff.mp e3
        obtain ⟨s0, e0, k0⟩ := own.get
        obtain ⟨z, hz, ok⟩ := S3.slot j _ e0
        obtain ⟨p, ob, ez, hp, fp, top⟩ := ok.own k0
        have hx : σ[j]? = some (some o) := r2.1
        rw [hz] at hx
        cases hx
        cases ez
        cases t <;> cases i <;> first | (cases k1; done) | skip
        rename_i ts ix
        simp only [setT, Option.map_eq_some_iff] at k1
        obtain ⟨n, kn, kt⟩ := k1
        subst kt
        obtain ⟨xs, eo, rl⟩ := top
        subst eo
        refine ⟨p, xs, _, n, rfl, rep_int r3, hp, by rw [rl.length]; exact kn, ?_⟩
        exact qq σ F3 _ Le.rfl (S3.chO (t := .lst (ts.set n v)) hz ⟨_, rfl, rl.set n (Rep.mono (le2.trans le3) v r1)⟩ k2)
    cases e4 : env3[j]? with
    | none =>
      rw [e4] at q3
      exact q3.elim
    | some s =>
      rw [e4] at q3
      cases s with
      | un => exact q3.elim
      | fz _ => exact q3.elim
      | ow t => exact go t (.inl e4) q3
      | io t => exact go t (.inr e4) q3
end
end Ev
/-! Ev5: what is walked; for, while; list comprehensions. -/
namespace Ev
open PySem PySem.Spec L2
/-- it walks ts, while F is known and the locks hold -/
structure Wk (G : Gr) (J : It) (ts : List T) (F : Hp) (lk : List (Addr × HO)) : Prop where
  go : ∀ i Tm F2 H σ env, i < ts.length → Le F F2 → Sok G Tm F2 H σ env → (∀ p ∈ lk, Tm.l p.1 = some p.2) → J.go i H
  yld : ∀ i Tm F2 H σ env x H', i < ts.length → Le F F2 → Sok G Tm F2 H σ env → (∀ p ∈ lk, Tm.l p.1 = some p.2) → J.yld i H x H' → ∃ F3 t, Le F2 F3 ∧ Sok G Tm F3 H' σ env ∧ ts[i]? = some t ∧ Rep G F3 t x ∧ ∀ a o, H a = some o → H' a = some o
  stop : ∀ Tm F2 H σ env, Le F F2 → Sok G Tm F2 H σ env → (∀ p ∈ lk, Tm.l p.1 = some p.2) → J.stop ts.length H
abbrev WkR (G : Gr) (lk : List (Addr × HO)) : RelT (List T) It := fun _ F _ _ _ ts J => Wk G J ts F lk
abbrev EvI (C : Cy) (tg e : Expr) (f : M (List T)) : Prop := PI C.X tg e (tG C (WkR C.G []) f)
theorem pi_imp {X : Cx} {tg e : Expr} {t t' : TI} (h : PI X tg e t) (i : ∀ σ H Q, t' σ H Q → t σ H Q) : PI X tg e t' := ⟨fun pins s σ H Q I q => h.run pins s σ H Q I (i σ H Q q)⟩
section
variable {G : Gr} {F : Hp}
theorem wk_list {a : Addr} {xs : List V} {ts : List T} (h : LstAt G.K F a xs) (r : RepL G F ts xs) : Wk G (Itl G.K a) ts F [] := by
  refine ⟨fun i Tm F2 H σ env hi le S _ => ?_, fun i Tm F2 H σ env x H' hi le S _ y => ?_, fun Tm F2 H σ env le S _ => ?_⟩
  · obtain ⟨x, hx, _⟩ := r.get (List.getElem?_eq_getElem hi)
    exact ⟨xs, x, (S.lstAt (le.lstAt h)).sq, hx⟩
  · obtain ⟨e, y⟩ := y
    subst e
    obtain ⟨t, ht, rt⟩ := r.getV (y xs ((S.lstAt (le.lstAt h)).sq))
    exact ⟨F2, t, Le.rfl, S, ht, Rep.mono le t rt, fun _ _ h => h⟩
  · exact ⟨xs, (S.lstAt (le.lstAt h)).sq, by rw [r.length]; exact Nat.le_refl _⟩
theorem wk_tup {a : Addr} {xs : List V} {ts : List T} (h : SqT G.K F a xs) (r : RepL G F ts xs) : Wk G (Itt G.K a) ts F [] := by
  refine ⟨fun i Tm F2 H σ env hi le S _ => ?_, fun i Tm F2 H σ env x H' hi le S _ y => ?_, fun Tm F2 H σ env le S _ => ?_⟩
  · obtain ⟨x, hx, _⟩ := r.get (List.getElem?_eq_getElem hi)
    exact ⟨xs, x, S.sqT (le.sqT h), hx⟩
  · obtain ⟨e, y⟩ := y
    subst e
    obtain ⟨t, ht, rt⟩ := r.getV (y xs (S.sqT (le.sqT h)))
    exact ⟨F2, t, Le.rfl, S, ht, Rep.mono le t rt, fun _ _ h => h⟩
  · exact ⟨xs, S.sqT (le.sqT h), by rw [r.length]; exact Nat.le_refl _⟩
def signs (z : Str) : List T := z.cps.toList.map fun c => T.str ⟨#[c]⟩
theorem wk_str {z : Str} : Wk G (Its z) (signs z) F [] := by
  have hl : (signs z).length = z.cps.size := by simp [signs]
  refine ⟨fun i Tm F2 H σ env hi le S _ => ?_, fun i Tm F2 H σ env x H' hi le S _ y => ?_, fun Tm F2 H σ env le S _ => ?_⟩
  · show i < z.cps.size
    omega
  · obtain ⟨e, c, hc, ex⟩ := y
    subst e ex
    exact ⟨F2, .str ⟨#[c]⟩, Le.rfl, S, by simp [signs, hc], mk_str _, fun _ _ h => h⟩
  · show z.cps.size ≤ _
    omega
def ups (lo : Int) (n : Nat) : List T := (List.range n).map fun i => T.int (lo + (i : Nat))
theorem wk_range {lo : Int} {n : Nat} : Wk G (Itr lo n) (ups lo n) F [] := by
  have hl : (ups lo n).length = n := by simp [ups]
  refine ⟨fun i Tm F2 H σ env hi le S _ => ?_, fun i Tm F2 H σ env x H' hi le S _ y => ?_, fun Tm F2 H σ env le S _ => ?_⟩
  · show i < n
    omega
  · obtain ⟨e, ex⟩ := y
    subst e ex
    rw [hl] at hi
    exact ⟨F2, .int (lo + i), Le.rfl, S, by simp [ups, hi], mk_int _, fun _ _ h => h⟩
  · show n ≤ _
    omega
end
section
variable {C : Cy} {tg e : Expr} {pos : Pos}
/-- the items of a list, a tuple, a text -/
def seqT : T → Option (List T)
  | .lst ts => some ts
  | .tup ts => some ts
  | .str s => some (signs s)
  | _ => none
/-- a list, a tuple or a text, walked: by cases behind its own evaluation -/
theorem ei_seq {f : M T} (h : EvT C e f) : EvI C tg e (M.bind f fun t => M.of (seqT t)) := by
  refine ⟨fun pins s σ H R I hw => ?_⟩
  obtain ⟨Tm, F, env, S, q⟩ := hw
  have hx : tG C (TR C.G) f σ H fun x H1 => (∃ a xs, x = .ref a ∧ SqL C.X.K H1 a xs ∧ R (Itl C.X.K a) H1) ∨ (∃ a xs, x = .ref a ∧ SqT C.X.K H1 a xs ∧ R (Itt C.X.K a) H1) ∨ ∃ z, x = .str z ∧ R (Its z) H1 := by
    refine ⟨Tm, F, env, S, ?_⟩
    refine At.bind (R' := WkR C.G []) (Q' := R) q fun t env1 x F1 H1 le1 S1 r1 q1 => of_some q1 fun ts hts q2 => ?_
    cases t <;> first | (cases hts; done) | skip
    · cases hts
      exact .inr (.inr ⟨_, rep_str r1, q2 _ F1 H1 Le.rfl S1 wk_str⟩)
    · cases hts
      obtain ⟨a, xs, ex, hq, rl⟩ := rep_tup r1
      exact .inr (.inl ⟨a, xs, ex, S1.sqT hq, q2 _ F1 H1 Le.rfl S1 (wk_tup hq rl)⟩)
    · cases hts
      obtain ⟨a, xs, ex, hq, rl⟩ := rep_lst r1
      exact .inl ⟨a, xs, ex, (S1.lstAt hq).sq, q2 _ F1 H1 Le.rfl S1 (wk_list hq rl)⟩
  refine thn (h.run pins s σ H _ I hx) fun v s1 ⟨x, H1, I1, r1, q1⟩ => ?_
  rcases q1 with ⟨a, xs, ex, hq, q1⟩ | ⟨a, xs, ex, hq, q1⟩ | ⟨z, ex, q1⟩
  · subst ex
    obtain rfl : v = Value.ref a := r1
    obtain ⟨its, rv, p, hz⟩ := I1.list hq
    have nw : FpOk C.X pins H1 s1.heap.objs.size := I1.fpOk (Nat.le_refl _) (I1.hok.fresh (Nat.le_refl _))
    refine wpAny_pyIter_list p.isList ⟨s1.heap.objs.size, [s1.heap.objs.size], fun i h => h.IsListIter s1.heap.objs.size a i, Itl C.X.K a, H1, rfl,
      I1.kept (t' := s1.toks) fun b o e => Heap.get?_push_of_some _ e, turn_list a _, ⟨_, Heap.get?_push_size _ rfl, rfl, rfl⟩, fun b hb => ?_, q1⟩
    rw [List.mem_singleton.mp hb]
    exact nw
  · subst ex
    obtain rfl : v = Value.ref a := r1
    obtain ⟨its, rv, p, hz⟩ := I1.tuple hq
    have nw : FpOk C.X pins H1 s1.heap.objs.size := I1.fpOk (Nat.le_refl _) (I1.hok.fresh (Nat.le_refl _))
    refine wpAny_pyIter_tuple (show s1.heap.IsTuple a its.toArray from p) ⟨s1.heap.objs.size, [s1.heap.objs.size], fun i h => h.IsTupleIter s1.heap.objs.size a i, Itt C.X.K a, H1, rfl,
      I1.kept (t' := s1.toks) fun b o e => Heap.get?_push_of_some _ e, turn_tuple a _, ⟨_, Heap.get?_push_size _ rfl, rfl, rfl⟩, fun b hb => ?_, q1⟩
    rw [List.mem_singleton.mp hb]
    exact nw
  · subst ex
    obtain ⟨t, rfl⟩ : ∃ t, v = Value.str z t := r1
    cases ha : z.cps.all (· < 128) with
    | false => exact wpAny_pyIter_wide ha (pi_one (tk := s1.toks) I1 _ (turn_str _ z t "str_iterator" (.inr rfl)) ⟨_, Heap.get?_push_size _ rfl, rfl, rfl⟩ q1)
    | true => exact wpAny_pyIter_ascii ha (pi_one (tk := s1.toks) I1 _ (turn_str _ z t "str_ascii_iterator" (.inl rfl)) ⟨_, Heap.get?_push_size _ rfl, rfl, rfl⟩ q1)
def rng1 : List T → Option (List T)
  | [.int j] => if -(2 ^ 62) ≤ j ∧ j < 2 ^ 62 then some (ups 0 j.toNat) else none
  | _ => none
def rng2 : List T → Option (List T)
  | [.int i, .int j] => if -(2 ^ 62) ≤ i ∧ i < 2 ^ 62 ∧ -(2 ^ 62) ≤ j ∧ j < 2 ^ 62 then some (ups i (j - i).toNat) else none
  | _ => none
theorem ei_range1 {a : Expr} {f : M (List T)} {p : Pos} (hg : Gl C.X "range") (hm : C.X.mg "range" = none) (ha : EvA C [a] f) (hs : starEach [a] C.X.env = [(false, eval a C.X.env)] := by rfl) : EvI C tg (.Call (.Name "range" p) [a] [] pos) (M.bind f fun ts => M.of (rng1 ts)) := by
  refine pi_imp (pi_range1 hg hm ha hs) fun σ H R ⟨Tm, F, env, S, q⟩ => ⟨Tm, F, env, S, ?_⟩
  refine At.bind (R' := WkR C.G []) (Q' := R) q fun ts env1 xs F1 H1 le1 S1 r1 q1 => of_some q1 fun us hus q2 => ?_
  unfold rng1 at hus
  split at hus
  · split at hus
    · rename_i hz
      cases hus
      obtain ⟨x, r, ex, h1, h2⟩ := r1.uncons
      exact ⟨_, by rw [ex, h2.unnil, rep_int h1], hz.1, hz.2, q2 _ F1 H1 Le.rfl S1 wk_range⟩
    · cases hus
  · cases hus
theorem ei_range2 {a b : Expr} {f : M (List T)} {p : Pos} (hg : Gl C.X "range") (hm : C.X.mg "range" = none) (ha : EvA C [a, b] f) (hs : starEach [a, b] C.X.env = [(false, eval a C.X.env), (false, eval b C.X.env)] := by rfl)
    (hs2 : starEach [b] C.X.env = [(false, eval b C.X.env)] := by rfl) : EvI C tg (.Call (.Name "range" p) [a, b] [] pos) (M.bind f fun ts => M.of (rng2 ts)) := by
  refine pi_imp (pi_range2 hg hm ha hs hs2) fun σ H R ⟨Tm, F, env, S, q⟩ => ⟨Tm, F, env, S, ?_⟩
  refine At.bind (R' := WkR C.G []) (Q' := R) q fun ts env1 xs F1 H1 le1 S1 r1 q1 => of_some q1 fun us hus q2 => ?_
  unfold rng2 at hus
  split at hus
  · split at hus
    · rename_i hz
      cases hus
      exact ⟨_, _, two_ints r1, hz, q2 _ F1 H1 Le.rfl S1 wk_range⟩
    · cases hus
  · cases hus

/-! ### for -/
def loopS (tg : TM) (body : SM) : List T → SM
  | [] => nilS
  | t :: ts => fun env => match tg t env with
    | none => .no
    | some e1 => match body e1 with
      | .nx e => loopS tg body ts e
      | .ct e => loopS tg body ts e
      | .bk e => .nx e
      | .rt r e => .rt r e
      | .ex c fs e => .ex c fs e
      | .no => .no
def forS (f : M (List T)) (tg : TM) (body : SM) : SM := exprS f fun ts => loopS tg body ts
abbrev Own (C : Cy) : Prop := PassesOwn (model C.X.prog C.X.w) C.X.A C.X.env C.X.xe
theorem e_for {iter : Expr} {body : List Stmt} {f : M (List T)} {js : List Nat} {g : TM} {b : SM} (hp : Own C) (hc : C.X.calm = true) (hi : EvI C tg iter f) (hg : EvG C tg js g) (hb : EvSs C body b)
    (hs : ∀ x, foldedSetIterable iter C.X.env x = pure x := by intro _; rfl) : EvS C (.For tg iter body [] pos) (forS f g b) := by
  refine ps_imp (ps_for hp hc hi hg hb hs) fun D σ H ⟨Tm, F, env, S, q⟩ => ⟨Tm, F, env, S, ?_⟩
  refine AtS.expr q fun ts env1 J F1 H1 le1 S1 w q1 => ?_
  refine ⟨fun i m σ H => m = ts.length - i ∧ i ≤ ts.length ∧ ∃ F2 env2, Le F1 F2 ∧ Sok C.G Tm F2 H σ env2 ∧ AtS C Tm F2 D (loopS g b (ts.drop i) env2), ⟨ts.length, by simp, Nat.zero_le _, F1, env1, Le.rfl, S1, q1⟩, ?_⟩
  rintro i m σ2 H2 ⟨rfl, hi, F2, env2, le2, S2, q2⟩
  by_cases hlt : i < ts.length
  · refine .inr ⟨w.go i Tm F2 H2 σ2 env2 hlt le2 S2 (fun _ z => nomatch z), fun σ' H' => ∃ F3 env3, Le F1 F3 ∧ Sok C.G Tm F3 H' σ' env3 ∧ AtS C Tm F3 D (loopS g b (ts.drop (i + 1)) env3), fun σ' H' ⟨F3, env3, l3, S3, q3⟩ => ⟨_, (by omega : ts.length - (i + 1) < ts.length - i), rfl, hlt, F3, env3, l3, S3, q3⟩, fun x H' y => ?_⟩
    obtain ⟨F3, t, l3, S3, ht, rt, _⟩ := w.yld i Tm F2 H2 σ2 env2 x H' hlt le2 S2 (fun _ z => nomatch z) y
    have ed : ts.drop i = t :: ts.drop (i + 1) := by
      have h2 := List.getElem?_eq_some_iff.mp ht
      rw [List.drop_eq_getElem_cons hlt, h2.2]
    rw [ed] at q2
    simp only [loopS] at q2
    cases e1 : g t env2 with
    | none =>
      rw [e1] at q2
      exact q2.elim
    | some env3 =>
      rw [e1] at q2
      refine ⟨Tm, F3, env2, t, env3, S3, rt, e1, fun σ' S' _ => ⟨Tm, F3, env3, S', ?_⟩⟩
      dsimp only at q2
      cases e2 : b env3 with
      | nx env4 =>
        rw [e2] at q2
        exact fun σ4 F4 H4 l4 S4 => ⟨F4, env4, (le2.trans l3).trans l4, S4, AtS.weak (l3.trans l4) q2⟩
      | ct env4 =>
        rw [e2] at q2
        exact fun σ4 F4 H4 l4 S4 => ⟨F4, env4, (le2.trans l3).trans l4, S4, AtS.weak (l3.trans l4) q2⟩
      | bk env4 =>
        rw [e2] at q2
        exact AtS.weak (m := .nx env4) l3 q2
      | rt r env4 =>
        rw [e2] at q2
        exact AtS.weak (m := .rt r env4) l3 q2
      | ex c fs env4 =>
        rw [e2] at q2
        exact AtS.weak (m := .ex c fs env4) l3 q2
      | no =>
        rw [e2] at q2
        exact q2.elim
  · have e : i = ts.length := by omega
    subst e
    refine .inl ⟨w.stop Tm F2 H2 σ2 env2 le2 S2 (fun _ z => nomatch z), ?_⟩
    rw [List.drop_length] at q2
    exact q2 σ2 F2 H2 Le.rfl S2

/-! ### while -/
def whileS (c : M Bool) (body : SM) : Nat → SM
  | 0 => fun _ => .no
  | n + 1 => exprS c fun k => if k = true then fun env => (match body env with
      | .nx e => whileS c body n e
      | .ct e => whileS c body n e
      | .bk e => .nx e
      | .rt r e => .rt r e
      | .ex c fs e => .ex c fs e
      | .no => .no) else nilS
theorem e_while {c : Expr} {body : List Stmt} {m : M Bool} {b : SM} {n : Nat} (hp : Own C) (hc : EvB C c m) (hb : EvSs C body b) : EvS C (.While c body [] pos) (whileS m b n) := by
  refine ps_imp (ps_while hp hc hb) fun D σ H ⟨Tm, F, env, S, q⟩ => ?_
  refine ⟨fun k σ H => ∃ F2 env2, Le F F2 ∧ Sok C.G Tm F2 H σ env2 ∧ AtS C Tm F2 D (whileS m b k env2), ⟨n, F, env, Le.rfl, S, q⟩, ?_⟩
  rintro k σ2 H2 ⟨F2, env2, le2, S2, q2⟩
  cases k with
  | zero => exact q2.elim
  | succ k =>
    refine ⟨Tm, F2, env2, S2, ?_⟩
    refine AtS.expr q2 fun t env3 t' F3 H3 le3 S3 r3 q3 => ?_
    have r3' : t = t' := r3
    subst r3'
    cases t with
    | false => exact q3 σ2 F3 H3 Le.rfl S3
    | true =>
      rw [if_pos rfl] at q3 ⊢
      refine ⟨fun σ' H' => ∃ F5 env5, Le F F5 ∧ Sok C.G Tm F5 H' σ' env5 ∧ AtS C Tm F5 D (whileS m b k env5), fun σ' H' w => ⟨k, Nat.lt_succ_self k, w⟩, Tm, F3, env3, S3, ?_⟩
      cases e2 : b env3 with
      | nx env4 =>
        rw [e2] at q3
        exact fun σ4 F4 H4 l4 S4 => ⟨F4, env4, (le2.trans le3).trans l4, S4, AtS.weak l4 q3⟩
      | ct env4 =>
        rw [e2] at q3
        exact fun σ4 F4 H4 l4 S4 => ⟨F4, env4, (le2.trans le3).trans l4, S4, AtS.weak l4 q3⟩
      | bk env4 =>
        rw [e2] at q3
        exact q3
      | rt r env4 =>
        rw [e2] at q3
        exact q3
      | ex c fs env4 =>
        rw [e2] at q3
        exact q3
      | no =>
        rw [e2] at q3
        exact q3.elim
end
end Ev
/-! Ev6: list comprehensions. -/
namespace Ev
open PySem PySem.Spec L2
/-- the block's own slots, unset -/
def unE : List Nat → Env → Env
  | [], e => e
  | v :: vs, e => (unE vs e).set v .un
/-- .. as they were -/
def asE (e0 : Env) : List Nat → Env → Env
  | [], e => e
  | v :: vs, e => (asE e0 vs e).set v ((e0[v]?).getD .un)
def okE (e : Env) (vs : List Nat) : Bool := vs.all fun v => match e[v]? with
  | some .un => true
  | some (.fz _) => true
  | _ => false
/-- [elt for tg in ts if tt] -/
def compL (tg : TM) (tt : M Bool) (elt : M T) (vs : List Nat) : List T → M (List T)
  | [] => M.pure []
  | t :: ts => fun e0 => match okE e0 vs with
    | false => .no
    | true => match tg t (unE vs e0) with
      | none => .no
      | some e1 => match tt e1 with
        | .ok true e2 => (match elt e2 with
          | .ok v e3 => (match compL tg tt elt vs ts (asE e0 vs e3) with
            | .ok us e4 => .ok (v :: us) e4
            | _ => .no)
          | _ => .no)
        | .ok false e2 => (match compL tg tt elt vs ts (asE e0 vs e2) with
          | .ok us e4 => .ok us e4
          | _ => .no)
        | _ => .no
def compM (f : M (List T)) (tg : TM) (tt : M Bool) (elt : M T) (vs : List Nat) : M Rv := M.bind f fun ts => if ts.length ≤ sizeLine then M.bind (compL tg tt elt vs ts) fun us => M.pure (.ow (.lst us)) else M.no

section
variable {G : Gr} {Tm : Amb} {F H : Hp} {σ σ' : St} {env env' : Env} {vs : List Nat}
theorem unE_len : ∀ vs : List Nat, (unE vs env).length = env.length
  | [] => rfl
  | v :: vs => by unfold unE; rw [List.length_set, unE_len vs]
theorem asE_len {e0 : Env} : ∀ vs : List Nat, (asE e0 vs env).length = env.length
  | [] => rfl
  | v :: vs => by unfold asE; rw [List.length_set, asE_len vs]
theorem unE_out {j : Nat} : ∀ {vs : List Nat}, j ∉ vs → (unE vs env)[j]? = env[j]?
  | [], _ => rfl
  | v :: vs, h => by
    unfold unE
    rw [List.getElem?_set_ne (fun z => h (by simp [z])), unE_out fun z => h (List.mem_cons_of_mem _ z)]
theorem unE_in {j : Nat} {s : Sl} : ∀ {vs : List Nat}, j ∈ vs → (unE vs env)[j]? = some s → s = .un
  | [], h, _ => nomatch h
  | v :: vs, h, e => by
    unfold unE at e
    by_cases hv : v = j
    · subst hv
      by_cases hl : v < (unE vs env).length
      · rw [List.getElem?_set_self hl] at e
        exact (Option.some.inj e).symm
      · rw [List.getElem?_eq_none (by simpa using hl)] at e
        cases e
    · rw [List.getElem?_set_ne hv] at e
      exact unE_in (by rcases List.mem_cons.mp h with z | z; exact absurd z.symm hv; exact z) e
theorem asE_out {e0 : Env} {j : Nat} : ∀ {vs : List Nat}, j ∉ vs → (asE e0 vs env)[j]? = env[j]?
  | [], _ => rfl
  | v :: vs, h => by
    unfold asE
    rw [List.getElem?_set_ne (fun z => h (by simp [z])), asE_out fun z => h (List.mem_cons_of_mem _ z)]
theorem asE_in {e0 : Env} {j : Nat} {s : Sl} : ∀ {vs : List Nat}, j ∈ vs → (asE e0 vs env)[j]? = some s → s = (e0[j]?).getD .un
  | [], h, _ => nomatch h
  | v :: vs, h, e => by
    unfold asE at e
    by_cases hv : v = j
    · subst hv
      by_cases hl : v < (asE e0 vs env).length
      · rw [List.getElem?_set_self hl] at e
        exact (Option.some.inj e).symm
      · rw [List.getElem?_eq_none (by simpa using hl)] at e
        cases e
    · rw [List.getElem?_set_ne hv] at e
      exact asE_in (by rcases List.mem_cons.mp h with z | z; exact absurd z.symm hv; exact z) e
theorem wipe_in {j : Nat} : ∀ {vs : List Nat}, j ∈ vs → j < σ.length → (wipe σ vs)[j]? = some none
  | [], h, _ => nomatch h
  | v :: vs, h, hl => by
    unfold wipe
    by_cases hv : v = j
    · subst hv
      rw [List.getElem?_set_self (by rw [wipe_length]; exact hl)]
    · rw [List.getElem?_set_ne hv]
      exact wipe_in (by rcases List.mem_cons.mp h with z | z; exact absurd z.symm hv; exact z) hl
theorem wipe_keep (hl : σ'.length = σ.length) (k : ∀ j, j ∉ vs → σ'[j]? = σ[j]?) : wipe σ' vs = wipe σ vs := by
  apply List.ext_getElem?
  intro j
  by_cases h : j ∈ vs
  · by_cases hj : j < σ.length
    · rw [wipe_in h hj, wipe_in h (by rw [hl]; exact hj)]
    · rw [List.getElem?_eq_none (by rw [wipe_length]; omega), List.getElem?_eq_none (by rw [wipe_length]; omega)]
  · rw [wipe_out h, wipe_out h, k j h]
theorem okE_at (h : okE env vs = true) {j : Nat} (hj : j ∈ vs) : env[j]? = some .un ∨ ∃ t, env[j]? = some (.fz t) := by
  have := List.all_eq_true.mp h j hj
  split at this
  · rename_i e
    exact .inl e
  · rename_i t e
    exact .inr ⟨t, e⟩
  · cases this
/-- into the block -/
theorem Sok.enter (S : Sok G Tm F H σ env) (h : okE env vs = true) : Sok G Tm F H (wipe σ vs) (unE vs env) := by
  have back : ∀ {i : Nat} {t : T}, OwnAt (unE vs env) i t → OwnAt env i t ∧ i ∉ vs := fun {i t} o => by
    obtain ⟨s, e, k⟩ := o.get
    have ni : i ∉ vs := fun z => by
      have q := unE_in z e
      subst q
      rcases k with k | k <;> cases k
    rw [unE_out ni] at e
    exact ⟨.of k e, ni⟩
  refine ⟨S.sub, S.tm, by rw [wipe_length, unE_len, S.len], fun i s e => ?_, fun i j a t u h1 h2 h3 h4 => ?_, fun i a t h1 h2 => ?_, S.lk, fun i t e => ?_⟩
  · by_cases hi : i ∈ vs
    · have q := unE_in hi e
      subst q
      have hl : i < σ.length := by
        have := (List.getElem?_eq_some_iff.mp e).1
        rw [unE_len, ← S.len] at this
        exact this
      exact ⟨none, wipe_in hi hl, True.intro⟩
    · rw [unE_out hi] at e
      rw [wipe_out hi]
      exact S.slot i s e
  · obtain ⟨o1, n1⟩ := back h1
    obtain ⟨o3, n3⟩ := back h3
    rw [wipe_out n1] at h2
    rw [wipe_out n3] at h4
    exact S.apart i j a t u o1 h2 o3 h4
  · obtain ⟨o1, n1⟩ := back h1
    rw [wipe_out n1] at h2
    exact S.tmo i a t o1 h2
  · obtain ⟨o1, n1⟩ := back (.inr e)
    rw [unE_out n1] at e
    rw [wipe_out n1]
    exact S.pio i t e
/-- back from the block: σ as it was, the other slots as they are now -/
theorem Sok.leave {F0 H0 : Hp} {Tm0 : Amb} {e0 : Env} (S0 : Sok G Tm0 F0 H0 σ e0) (h : okE e0 vs = true) (le : Le F0 F) (S : Sok G Tm F H σ' env) (k : ∀ j, j ∉ vs → σ'[j]? = σ[j]?) (hl : env.length = e0.length) : Sok G Tm F H σ (asE e0 vs env) := by
  have back : ∀ {i : Nat} {t : T}, OwnAt (asE e0 vs env) i t → OwnAt env i t ∧ i ∉ vs := fun {i t} o => by
    obtain ⟨s, e, ks⟩ := o.get
    have ni : i ∉ vs := fun z => by
      have q := asE_in z e
      rcases okE_at h z with w | ⟨u, w⟩
      · rw [w] at q
        subst q
        rcases ks with ks | ks <;> cases ks
      · rw [w] at q
        subst q
        rcases ks with ks | ks <;> cases ks
    rw [asE_out ni] at e
    exact ⟨.of ks e, ni⟩
  refine ⟨S.sub, S.tm, by rw [asE_len, hl, S0.len], fun i s e => ?_, fun i j a t u h1 h2 h3 h4 => ?_, fun i a t h1 h2 => ?_, S.lk, fun i t e => ?_⟩
  · by_cases hi : i ∈ vs
    · have q := asE_in hi e
      rcases okE_at h hi with w | ⟨u, w⟩
      · rw [w] at q
        obtain ⟨x, hx, ok⟩ := S0.slot i _ w
        have q' : s = .un := q
        subst q'
        exact ⟨x, hx, ok⟩
      · rw [w] at q
        obtain ⟨x, hx, v, ev, rv⟩ := S0.slot i _ w
        have q' : s = .fz u := q
        subst q'
        exact ⟨x, hx, v, ev, Rep.mono le u rv⟩
    · rw [asE_out hi] at e
      obtain ⟨x, hx, ok⟩ := S.slot i s e
      exact ⟨x, by rw [← k i hi]; exact hx, ok⟩
  · obtain ⟨o1, n1⟩ := back h1
    obtain ⟨o3, n3⟩ := back h3
    rw [← k i n1] at h2
    rw [← k j n3] at h4
    exact S.apart i j a t u o1 h2 o3 h4
  · obtain ⟨o1, n1⟩ := back h1
    rw [← k i n1] at h2
    exact S.tmo i a t o1 h2
  · obtain ⟨o1, n1⟩ := back (.inr e)
    rw [asE_out n1] at e
    obtain ⟨a, e1, e2⟩ := S.pio i t e
    exact ⟨a, e1, by rw [← k i n1]; exact e2⟩
/-- one more object that is to stay -/
abbrev Amb.with (Tm : Amb) (D : Addr) (o : HO) : Amb := { Tm with h := upd Tm.h D o }
theorem Sok.withD (S : Sok G Tm F H σ env) {D : Addr} {o : HO} (n : H D = none) : Sok G (Tm.with D o) F (upd H D o) σ env := by
  have A := S.alloc (o := o) n
  refine ⟨A.sub, fun a u e => ?_, A.len, A.slot, A.apart, fun i a t h1 h2 => ?_, A.lk, A.pio⟩
  · by_cases h : a = D
    · subst h
      have e' : upd Tm.h a o a = some u := e
      rw [upd_same] at e'
      cases e'
      exact ⟨upd_same, (S.new n).1⟩
    · have e' : upd Tm.h D o a = some u := e
      rw [upd_ne h] at e'
      exact A.tm a u e'
  · have na : a ≠ D := fun z => by
      obtain ⟨s, e, k⟩ := h1.get
      obtain ⟨x, hx, ok⟩ := S.slot i s e
      obtain ⟨b, ob, eb, hb, _⟩ := ok.own k
      rw [h2] at hx
      cases hx
      cases eb
      rw [z, n] at hb
      cases hb
    show upd Tm.h D o a = none
    rw [upd_ne na]
    exact S.tmo i a t h1 h2
/-- .. changed -/
theorem Sok.chD {o u : HO} {D : Addr} (S : Sok G (Tm.with D o) F H σ env) : Sok G (Tm.with D u) F (upd H D u) σ env := by
  have hD := S.tm D o upd_same
  have ne : ∀ {a : Addr} {w : HO}, F a = some w → a ≠ D := fun h z => by rw [z, hD.2] at h; cases h
  refine ⟨fun a w e => ?_, fun a w e => ?_, S.len, fun i s e => ?_, S.apart, fun i a t h1 h2 => ?_, fun a w e => ?_, S.pio⟩
  · rcases S.sub a w e with q | ⟨q1, ob, q⟩
    · exact .inl (by rw [upd_ne (ne e)]; exact q)
    · exact .inr ⟨q1, ob, by rw [upd_ne (ne e)]; exact q⟩
  · by_cases h : a = D
    · subst h
      have e' : upd Tm.h a u a = some w := e
      rw [upd_same] at e'
      cases e'
      exact ⟨upd_same, hD.2⟩
    · have e' : upd Tm.h D u a = some w := e
      rw [upd_ne h] at e'
      have q := S.tm a w (by show upd Tm.h D o a = some w; rw [upd_ne h]; exact e')
      exact ⟨by rw [upd_ne h]; exact q.1, q.2⟩
  · obtain ⟨x, hx, ok⟩ := S.slot i s e
    refine ⟨x, hx, ?_⟩
    have mv : ∀ {t : T}, (s = .ow t ∨ s = .io t) → ∃ c oc, x = some (.ref c) ∧ upd H D u c = some oc ∧ F c = none ∧ Top G F oc t := fun {t} k => by
      obtain ⟨c, oc, ez, hc, fc, tc⟩ := ok.own k
      refine ⟨c, oc, ez, ?_, fc, tc⟩
      have nc : c ≠ D := fun z => by
        have q := S.tmo i c t (.of k e) (by rw [hx, ez])
        rw [z] at q
        have q' : upd Tm.h D o D = none := q
        rw [upd_same] at q'
        cases q'
      rw [upd_ne nc]
      exact hc
    cases s with
    | un => exact ok
    | fz t => exact ok
    | ow t => exact mv (.inl rfl)
    | io t => exact mv (.inr rfl)
  · have q := S.tmo i a t h1 h2
    by_cases h : a = D
    · subst h
      have q' : upd Tm.h a o a = none := q
      rw [upd_same] at q'
      cases q'
    · have q' : upd Tm.h D o a = none := q
      rw [upd_ne h] at q'
      show upd Tm.h D u a = none
      rw [upd_ne h]
      exact q'
  · have q := S.lk a w e
    refine ⟨?_, q.2⟩
    have na : a ≠ D := fun z => q.2 (by rw [z]; exact hD.2)
    rw [upd_ne na]
    exact q.1
/-- .. let go: it is one's own -/
theorem Sok.outD {o : HO} {D : Addr} (S : Sok G (Tm.with D o) F H σ env) (n : Tm.h D = none) : Sok G Tm F H σ env := by
  refine ⟨S.sub, fun a w e => ?_, S.len, S.slot, S.apart, fun i a t h1 h2 => ?_, S.lk, S.pio⟩
  · have na : a ≠ D := fun z => by rw [z, n] at e; cases e
    exact S.tm a w (by show upd Tm.h D o a = some w; rw [upd_ne na]; exact e)
  · have q := S.tmo i a t h1 h2
    by_cases h : a = D
    · subst h
      exact n
    · have q' : upd Tm.h D o a = none := q
      rw [upd_ne h] at q'
      exact q'
theorem RvR.outD {ts : List T} {xs : List V} {D : Addr} (S : Sok G (Tm.with D (.lst xs)) F H σ env) (n : Tm.h D = none) (r : RepL G F ts xs) : RvR G Tm F H σ env (.ow (.lst ts)) (.ref D) := by
  have hD := S.tm D _ upd_same
  refine ⟨D, _, rfl, hD.1, hD.2, n, ⟨_, rfl, r⟩, fun i u o z => ?_⟩
  have q := S.tmo i D u o z
  have q' : upd Tm.h D (.lst xs) D = none := q
  rw [upd_same] at q'
  cases q'
end

/-! ### the comprehension -/
abbrev Cy.blk (C : Cy) (s : Shared) (H : Hp) (scope : Scope) (cenv : PySem.Env) (fp : List Addr) : Cy := ⟨C.X.blk s H scope cenv fp, C.ca, fun _ _ _ _ => False⟩
abbrev EvTs (C : Cy) (ifs : List Expr) (f : M Bool) : Prop := PTs C.X ifs (tG C BR f)
theorem et_nil {C : Cy} : EvTs C [] (M.pure true) := ⟨fun pins s σ H Q I ⟨Tm, F, env, S, q⟩ => pts_nil.run pins s σ H Q I (q true F H Le.rfl S rfl)⟩
theorem et_one {C : Cy} {c : Expr} {f : M Bool} (h : EvB C c f) : EvTs C [c] f := pts_one h
/-- what lets nothing out -/
abbrev Cy.fl (C : Cy) : Cy := ⟨C.X, C.ca, fun _ _ _ _ => False⟩
section
variable {C : Cy} {elt tg iter : Expr} {ifs : List Expr} {scope : Scope} {own : List (Str × Nat)} {pos : Pos} {f : M (List T)} {js : List Nat} {g : TM} {tt : M Bool} {m : M T}
theorem comp_core {σ : St} {H : Hp} {Q : VK} {vs : List Nat} (hj : ∀ j ∈ js, j ∈ vs) (hq : tG C (RvR C.G) (compM f g tt m vs) σ H Q) :
    tLc (tG C (WkR C.G []) f) (tGt C.G js g) (tG C.fl BR tt) (tG C.fl (TR C.G) m) vs σ H Q := by
  obtain ⟨Tm, F, env, S, q⟩ := hq
  refine ⟨Tm, F, env, S, ?_⟩
  refine At.bind (R' := RvR C.G) (Q' := Q) q fun ts env1 J F1 H1 le1 S1 w q1 => ?_
  intro D nD
  by_cases hz : ts.length ≤ sizeLine
  case neg =>
    rw [if_neg hz] at q1
    exact q1.elim
  rw [if_pos hz] at q1
  have q2 : At C (RvR C.G) Tm F1 σ Q ((compL g tt m vs ts env1).bind fun us => M.pure (.ow (.lst us))) := q1
  have tD : Tm.h D = none := (S1.new nD).2
  refine ⟨fun i k H => k = ts.length - i ∧ i ≤ ts.length ∧ ∃ F2 env2 acc us, Le F1 F2 ∧ acc.length ≤ i ∧ Sok C.G (Tm.with D (.lst acc)) F2 H σ env2 ∧ RepL C.G F2 us acc ∧
    At C (RvR C.G) Tm F2 σ Q ((compL g tt m vs (ts.drop i) env2).bind fun ws => M.pure (.ow (.lst (us ++ ws)))), ⟨ts.length, by simp, Nat.zero_le _, F1, env1, [], [], Le.rfl, Nat.zero_le _, S1.withD nD, .nil, q2⟩, ?_⟩
  rintro i k H2 ⟨rfl, hi, F2, env2, acc, us, le2, hacc, S2, racc, q3⟩
  by_cases hlt : i < ts.length
  · refine .inr ⟨w.go i _ F2 H2 σ env2 hlt le2 S2 (fun _ z => nomatch z), fun H' => ∃ F5 env5 acc5 us5, Le F1 F5 ∧ acc5.length ≤ i + 1 ∧ Sok C.G (Tm.with D (.lst acc5)) F5 H' σ env5 ∧ RepL C.G F5 us5 acc5 ∧
      At C (RvR C.G) Tm F5 σ Q ((compL g tt m vs (ts.drop (i + 1)) env5).bind fun ws => M.pure (.ow (.lst (us5 ++ ws)))), fun H' ⟨F5, env5, acc5, us5, l5, h5, S5, r5, q5⟩ => ⟨_, (by omega : ts.length - (i + 1) < ts.length - i), rfl, hlt, F5, env5, acc5, us5, l5, h5, S5, r5, q5⟩, fun x H' y => ?_⟩
    obtain ⟨F3, t, l3, S3, ht, rt, _⟩ := w.yld i _ F2 H2 σ env2 x H' hlt le2 S2 (fun _ z => nomatch z) y
    have ed : ts.drop i = t :: ts.drop (i + 1) := by
      have h2 := List.getElem?_eq_some_iff.mp ht
      rw [List.drop_eq_getElem_cons hlt, h2.2]
    rw [ed] at q3
    simp only [compL] at q3
    cases ho : okE env2 vs with
    | false =>
      rw [ho] at q3
      exact q3.elim
    | true =>
      rw [ho] at q3
      dsimp only at q3
      have S4 := S3.enter (vs := vs) ho
      cases e1 : g t (unE vs env2) with
      | none =>
        rw [e1] at q3
        exact q3.elim
      | some env3 =>
        rw [e1] at q3
        dsimp only at q3
        refine ⟨_, F3, _, t, env3, S4, rt, e1, fun σ5 S5 k5 => ?_⟩
        have kk : ∀ j, j ∉ vs → σ5[j]? = σ[j]? := fun j hn => (k5.2 j fun z => hn (hj j z)).trans (wipe_out hn)
        have hl5 : σ5.length = σ.length := k5.1.trans (wipe_length _ _)
        have back : ∀ {F6 H6 : Hp} {env6 : Env} {acc6 : List V} {o : HO}, Le F2 F6 → Sok C.G (Tm.with D o) F6 H6 σ5 env6 → Sok C.G (Tm.with D o) F6 H6 σ (asE env2 vs env6) := fun {F6 H6 env6 acc6 o} l6 S6 =>
          S2.leave ho l6 S6 kk (by rw [← S6.len, hl5, S2.len])
        refine ⟨wipe_keep hl5 kk, _, F3, env3, S5, ?_⟩
        cases et : tt env3 with
        | no =>
          rw [et] at q3
          exact q3.elim
        | ex c fs e =>
          rw [et] at q3
          exact q3.elim
        | ok kb env4 =>
          rw [et] at q3
          intro b F4 H4 l4 S6 eb
          have eb' : kb = b := eb
          subst eb'
          cases kb with
          | false =>
            rw [if_neg Bool.false_ne_true]
            dsimp only at q3
            refine ⟨F4, asE env2 vs env4, acc, us, le2.trans (l3.trans l4), Nat.le_succ_of_le hacc, back (acc6 := acc) (l3.trans l4) S6, RepL.mono (l3.trans l4) _ racc, ?_⟩
            refine At.weak (l3.trans l4) ?_
            revert q3
            cases compL g tt m vs (ts.drop (i + 1)) (asE env2 vs env4) with
            | ok ws e => exact fun q => q
            | ex c fs e => exact fun q => q.elim
            | no => exact fun q => q.elim
          | true =>
            rw [if_pos rfl]
            dsimp only at q3
            refine ⟨_, F4, env4, S6, ?_⟩
            cases em : m env4 with
            | no =>
              rw [em] at q3
              exact q3.elim
            | ex c fs e =>
              rw [em] at q3
              exact q3.elim
            | ok v env5 =>
              rw [em] at q3
              dsimp only at q3
              intro yv F5 H5 l5 S7 ry
              have l25 : Le F2 F5 := l3.trans (l4.trans l5)
              refine ⟨acc, (S7.tm D _ upd_same).1, by omega, F5, asE env2 vs env5, acc ++ [yv], us ++ [v], le2.trans l25, by rw [List.length_append, List.length_singleton]; omega, back (acc6 := acc) l25 S7.chD, (RepL.mono l25 _ racc).append (.cons ry .nil), ?_⟩
              refine At.weak l25 ?_
              revert q3
              cases compL g tt m vs (ts.drop (i + 1)) (asE env2 vs env5) with
              | ok ws e =>
                intro q
                have ea : (us ++ [v]) ++ ws = us ++ v :: ws := by simp
                show At C (RvR C.G) Tm F2 σ Q (.ok (.ow (.lst ((us ++ [v]) ++ ws))) e)
                rw [ea]
                exact q
              | ex c fs e => exact fun q => q.elim
              | no => exact fun q => q.elim
  · have e : i = ts.length := by omega
    subst e
    rw [List.drop_length] at q3
    refine .inl ⟨w.stop _ F2 H2 σ env2 le2 S2 (fun _ z => nomatch z), ?_⟩
    have q4 : At C (RvR C.G) Tm F2 σ Q (.ok (.ow (.lst (us ++ []))) env2) := q3
    rw [List.append_nil] at q4
    exact q4 _ F2 H2 Le.rfl (S2.outD tD) (RvR.outD S2 tD racc)
theorem ev_comp (hc : C.X.calm = true) (hN : C.X.N.Nodup) (hi : EvI C tg iter f) (ok : BlkOk C.X.N C.X.env.scope scope own) (hj : ∀ j ∈ js, j ∈ own.map (·.2))
    (hg : ∀ (s : Shared) (H : Hp) (A : Addr) (cl : List (Str × Addr)) (fp : List Addr), EvG (C.blk s H scope (compEnvC scope cl A C.X.env) fp) tg js g) (ht : ∀ (s : Shared) (H : Hp) (A : Addr) (cl : List (Str × Addr)) (fp : List Addr), EvTs (C.blk s H scope (compEnvC scope cl A C.X.env) fp) ifs tt)
    (he : ∀ (s : Shared) (H : Hp) (A : Addr) (cl : List (Str × Addr)) (fp : List Addr), EvT (C.blk s H scope (compEnvC scope cl A C.X.env) fp) elt m) (hs : ∀ x, foldedSetIterable iter C.X.env x = pure x := by intro _; rfl) :
    EvE C (.ListComp elt [⟨tg, iter, ifs, 0⟩] scope pos) (compM f g tt m (own.map (·.2))) :=
  pe_imp (pe_lc hc hN hi ok hg ht he hs) fun σ H Q q => comp_core hj q
/-- name = [..] -/
theorem e_setc {i : Nat} {y : Str} {py spos : Pos} (hc : C.X.calm = true) (hN : C.X.N.Nodup) (hy : C.X.N[i]? = some y) (hyl : C.X.env.scope.names.lookup y = some .local)
    (hsw : swapsWith (.ListComp elt [⟨tg, iter, ifs, 0⟩] scope pos) (some (.Name y py)) spos.line C.X.env = pure true) (hi : EvI C tg iter f) (ok : BlkOk C.X.N C.X.env.scope scope own) (hj : ∀ j ∈ js, j ∈ own.map (·.2))
    (hg : ∀ (s : Shared) (H : Hp) (A : Addr) (cl : List (Str × Addr)) (fp : List Addr), EvG (C.blk s H scope (compEnvC scope cl A C.X.env) fp) tg js g) (ht : ∀ (s : Shared) (H : Hp) (A : Addr) (cl : List (Str × Addr)) (fp : List Addr), EvTs (C.blk s H scope (compEnvC scope cl A C.X.env) fp) ifs tt)
    (he : ∀ (s : Shared) (H : Hp) (A : Addr) (cl : List (Str × Addr)) (fp : List Addr), EvT (C.blk s H scope (compEnvC scope cl A C.X.env) fp) elt m) (hs : ∀ x, foldedSetIterable iter C.X.env x = pure x := by intro _; rfl) :
    EvS C (.Assign [.Name y py] (.ListComp elt [⟨tg, iter, ifs, 0⟩] scope pos) spos) (asgS i (compM f g tt m (own.map (·.2)))) :=
  ps_imp (ps_setLc hc hN hy hyl hsw hi ok hg ht he hs) fun D σ H ⟨Tm, F, env, S, q⟩ => comp_core hj ⟨Tm, F, env, S, asg_core q⟩
end
end Ev
/-! Ev7: defs and calls. -/
namespace Ev
open PySem PySem.Spec L2
/-- what a def's outcome asks -/
def AtD (G : Gr) (Tm : Amb) (F : Hp) (Q : VK) (E : XK) : SO → Prop
  | .nx env => ∀ σ F' H, Le F F' → Sok G Tm F' H σ env → Q .non H
  | .rt r env => ∀ x σ F' H, Le F F' → Sok G Tm F' H σ env → RvR G Tm F' H σ env r x → Q x H
  | .ex c fs env => ∀ d σ F' H vs, Le F F' → Sok G Tm F' H σ env → H d = some (.xd vs) → RepF G F' fs vs → E (.ref (G.ca c)) (some d) H
  | _ => False
/-- the slots at a def's entry: n arguments, of m names -/
def st0 (m : Nat) (vs : List V) : St := vs.map some ++ List.replicate (m - vs.length) none
def spT (G : Gr) (n m : Nat) (d : SM) : Sp := fun vs H Q E => vs.length = n ∧ ∃ Tm F env, Sok G Tm F H (st0 m vs) env ∧ AtD G Tm F Q E (d env)
/-- a def keeps to d: the depth of guards known besides -/
structure FnT (P : Program) (w : World) (K : PySem.W.Frag) (mg : Str → Option Value) (base : Heap) (ca : Nat → Addr) (k : Nat) (f : Addr) (fd : FuncData) (ps : List Str) (m : Nat) (d : SM) : Prop where
  go : ∀ {A : Around} {outer : List PySem.Env} {s : Shared} {H : Hp} {args : Args} {us : List Value} {vs : List V} {Q : VK} {E : XK}, Room k A → A.guards = some [] → Env0 P w K mg base A outer s H →
    BindsTo s fd args (ps.zip us) → Vals vs us → spT ⟨K, ca⟩ ps.length m d vs H Q E → codeAny (model P w) A (.call (.ref f) args) (CR (L2.CX P w) outer P w H s Q E) s
section
variable {P : Program} {w : World} {K : PySem.W.Frag} {mg : Str → Option Value} {base : Heap} {ca : Nat → Addr} {k : Nat} {f : Addr} {fd : FuncData} {ps : List Str} {m : Nat} {d : SM}
theorem FnT.up {j : Nat} (F : FnT P w K mg base ca j f fd ps m d) (h : j ≤ k) : FnT P w K mg base ca k f fd ps m d := ⟨fun r g e b v s => F.go (r.mono h) g e b v s⟩
/-- the context of a def's body -/
abbrev cyOf (P : Program) (w : World) (K : PySem.W.Frag) (mg : Str → Option Value) (base : Heap) (ca : Nat → Addr) (N : List Str) (qual : Str) (scope : Scope) (f : Addr) (cd : Value) (A : Around) (outer : List PySem.Env) (s : Shared) (H : Hp) (E : XK) : Cy :=
  ⟨cxOf (L2.CX P w) P w K mg base N qual scope f cd A outer s H E, ca, fun cls d _ H => E cls d H⟩
/-- what a body may lean on -/
structure Bod (C : Cy) (k : Nat) : Prop where
  room : Room k C.X.A
  grd : C.X.A.guards = some []
  tk : Takes C.X C.W
  own : Own C
  calm : C.X.calm = true
  stk : C.X.stack = C.X.env :: C.X.outer
  frm : C.X.env.frame = some C.X.env.locals
theorem Bod.rm {C : Cy} (B : Bod C k) : Rm C := by
  have := B.room.un
  show C.X.A.units + 190 < cLine
  omega
theorem fn_body {x qual : Str} {params : Arguments} {body : List Stmt} {scope : Scope} {dvs : List V} {kws : List (Str × V)} {N : List Str} (F : FunD K x qual params body scope dvs kws f fd) (S : FnScope N ps scope) (hm : N.length = m)
    (hb : ∀ (cd : Value) (A : Around) (outer : List PySem.Env) (s : Shared) (H : Hp) (E : XK), Bod (cyOf P w K mg base ca N qual scope f cd A outer s H E) k → EvSs (cyOf P w K mg base ca N qual scope f cd A outer s H E) body d) :
    FnT P w K mg base ca (k + 1) f fd ps m d := by
  obtain ⟨oc, od, dV, kV, doc, pm, an, cdv, ct, osl, rfl, lk, hcd, _, _⟩ := F.ex
  refine ⟨fun {A outer s H args us vs Q E} hr hg e0 hbd rv hsp => ?_⟩
  obtain ⟨hl, Tm, FF, env, Sk, q⟩ := hsp
  have KX : K.In s.heap := e0.mod.kin.keeps fun b o e => (e0.bs b o e).1
  have NL : s.heap.NoLimit := e0.mod.nolimit.keeps fun b o e => (e0.bs b o e).1
  have kinds : ∀ y ∈ ps.zip us, scope.names.lookup y.1 = some .local ∨ (scope.names.lookup y.1 = some .cell ∧ ((cellsFrom (s.heap.objs.size + 1) scope.names []).lookup y.1).isSome = true) := by
    rintro ⟨n, v⟩ hy
    exact (S.par n (List.of_mem_zip hy).1).imp id fun q => ⟨q, PySem.W.cellsFrom_some _ _ _ (.inl q)⟩
  refine codeAny_call_function hr.depth (KX _ _ lk) rfl S.co S.gen rfl (PySem.W.codeRec_of KX hcd) (hbd _ _ _ _ ?_)
  refine wpAny_newFunctionEnv_cells S.kind kinds fun env1 he s1 x1 => ?_
  subst he
  refine ⟨NL.keeps x1.toInCall.keep, codeAny_func ?_⟩
  have I := inv_start (CX := L2.CX P w) (E := E) (mg := mg) (K := K) (P := P) (w := w) (base := base) (f := f) (cd := cdv) (qual := qual) S hr.hd e0 hl rv x1
  have B : Bod (cyOf P w K mg base ca N qual scope f cdv A outer s H E) k := {
    room := hr.deeper _
    grd := hg
    tk := takes_of rfl rfl rfl rfl
    own := passes_of rfl
    calm := rfl
    stk := rfl
    frm := rfl }
  have es : L2.start N vs = st0 m vs := by
    unfold L2.start st0
    rw [hm]
  have body := (hb cdv A outer s H E B).run [] s1 (L2.start N vs) H { nx := fun _ H' => Q .non H', rt := Q } I ⟨Tm, FF, env, by rw [es]; exact Sk, by
    revert q
    cases d env with
    | nx e => exact fun q => q
    | rt r e => exact fun q => q
    | ex c fs e => exact fun q => q
    | bk e => exact fun q => q.elim
    | ct e => exact fun q => q.elim
    | no => exact fun q => q.elim⟩
  refine wpAny_mono body (fun fl s2 hs => ?_) fun _ _ z => z
  cases fl with
  | ret u =>
    obtain ⟨v, σ2, H2, J, r, q⟩ := hs
    exact ⟨v, H2, J.os, J.bare, J.base, J.hok, r, q⟩
  | next =>
    obtain ⟨σ2, H2, J, q⟩ := hs
    exact ⟨V.non, H2, J.os, J.bare, J.base, J.hok, rfl, q⟩
  | brk =>
    obtain ⟨_, _, _, q⟩ := hs
    exact q.elim
  | cont =>
    obtain ⟨_, _, _, q⟩ := hs
    exact q.elim
end

/-! ### arguments -/
/-- frozen, or the object of a slot, to be changed in place -/
inductive Ar where
  | fz (t : T)
  | io (i : Nat)
def ArOk (G : Gr) (F : Hp) (σ : St) (x : V) : Ar → Prop
  | .fz t => Rep G F t x
  | .io i => σ[i]? = some (some x)
def ArL (G : Gr) (F : Hp) (σ : St) : List Ar → List V → Prop
  | [], xs => xs = []
  | a :: as, xs => ∃ x r, xs = x :: r ∧ ArOk G F σ x a ∧ ArL G F σ as r
abbrev ArR (G : Gr) : RelT (List Ar) (List V) := fun _ F _ σ _ as xs => ArL G F σ as xs
abbrev EvAr (C : Cy) (es : List Expr) (f : M (List Ar)) : Prop := PA C.X es (tG C (ArR C.G) f)
section
variable {G : Gr} {F F' : Hp} {σ : St}
theorem ArOk.mono (le : Le F F') {x : V} : ∀ {a : Ar}, ArOk G F σ x a → ArOk G F' σ x a
  | .fz t, h => Rep.mono le t h
  | .io i, h => h
theorem ArL.mono (le : Le F F') : ∀ {as : List Ar} {xs : List V}, ArL G F σ as xs → ArL G F' σ as xs
  | [], _, h => h
  | a :: as, _, ⟨x, r, e, h, t⟩ => ⟨x, r, e, h.mono le, ArL.mono le t⟩
theorem ArL.length : ∀ {as : List Ar} {xs : List V}, ArL G F σ as xs → xs.length = as.length
  | [], _, h => by rw [show _ = [] from h] <;> rfl
  | a :: as, _, ⟨x, r, e, h, t⟩ => by rw [e, List.length_cons, List.length_cons, ArL.length t]
theorem ArL.get : ∀ {as : List Ar} {xs : List V} {p : Nat} {a : Ar}, ArL G F σ as xs → as[p]? = some a → ∃ x, xs[p]? = some x ∧ ArOk G F σ x a
  | [], _, _, _, _, e => by simp at e
  | a :: as, _, 0, b, ⟨x, r, e, h, t⟩, e2 => by
    simp at e2
    subst e e2
    exact ⟨x, rfl, h⟩
  | a :: as, _, p + 1, b, ⟨x, r, e, h, t⟩, e2 => by
    subst e
    simpa using ArL.get (p := p) t (by simpa using e2)
end
section
variable {C : Cy} {e : Expr} {es : List Expr}
def arCons (f : M T) (g : M (List Ar)) : M (List Ar) := M.bind f fun t => M.bind g fun as => M.pure (.fz t :: as)
def arIo (f : M Rv) (g : M (List Ar)) : M (List Ar) := M.bind f fun r => match r with
  | .bo i => M.bind g fun as => M.pure (.io i :: as)
  | _ => M.no
theorem er_nil : EvAr C [] (M.pure []) := pa_imp pa_nil fun σ H Q ⟨Tm, F, env, S, q⟩ => q [] F H Le.rfl S rfl
theorem er_cons {f : M T} {g : M (List Ar)} (h : EvT C e f) (h' : EvAr C es g) (hs : starEach (e :: es) C.X.env = (false, eval e C.X.env) :: starEach es C.X.env := by rfl) : EvAr C (e :: es) (arCons f g) := by
  refine pa_imp (pa_cons h h' hs) fun σ H Q ⟨Tm, F, env, S, q⟩ => ⟨Tm, F, env, S, ?_⟩
  refine At.bind (R' := ArR C.G) (Q' := Q) q fun t env1 x F1 H1 le1 S1 r1 q1 => ⟨Tm, F1, env1, S1, ?_⟩
  refine At.bind (R' := ArR C.G) (Q' := Q) q1 fun as env2 xs F2 H2 le2 S2 r2 q2 => ?_
  exact q2 _ F2 H2 Le.rfl S2 ⟨x, xs, rfl, Rep.mono le2 t r1, r2⟩
theorem er_io {f : M Rv} {g : M (List Ar)} (h : EvE C e f) (h' : EvAr C es g) (hs : starEach (e :: es) C.X.env = (false, eval e C.X.env) :: starEach es C.X.env := by rfl) : EvAr C (e :: es) (arIo f g) := by
  refine pa_imp (pa_cons h h' hs) fun σ H Q ⟨Tm, F, env, S, q⟩ => ⟨Tm, F, env, S, ?_⟩
  refine At.bind (R' := ArR C.G) (Q' := Q) q fun r env1 x F1 H1 le1 S1 r1 q1 => ⟨Tm, F1, env1, S1, ?_⟩
  cases r with
  | fz _ => exact q1.elim
  | ow _ => exact q1.elim
  | bo i =>
    refine At.bind (R' := ArR C.G) (Q' := Q) q1 fun as env2 xs F2 H2 le2 S2 r2 q2 => ?_
    exact q2 _ F2 H2 Le.rfl S2 ⟨x, xs, rfl, r1.1, r2⟩
end

/-! ### in and out of a def -/
def ownT (s : Sl) : Option T := match s with
  | .ow t => some t
  | .io t => some t
  | _ => none
/-- the callee's slots -/
def inE (env : Env) : List Ar → Option Env
  | [] => some []
  | .fz t :: as => (inE env as).map (.fz t :: ·)
  | .io i :: as => ((env[i]?).bind ownT).bind fun t => (inE env as).map (.io t :: ·)
def isIo (i : Nat) : Ar → Bool
  | .io j => j == i
  | _ => false
def iosOf : List Ar → List Nat
  | [] => []
  | .fz _ :: as => iosOf as
  | .io i :: as => i :: iosOf as
/-- the caller's slots behind it: what was changed in place -/
def newS (as : List Ar) (ce : Env) (i : Nat) (s : Sl) : Sl := match as.findIdx? (isIo i) with
  | none => s
  | some p => match ce[p]?, s with
    | some (.io t), .ow _ => .ow t
    | some (.io t), .io _ => .io t
    | _, s => s
def outE (as : List Ar) (ce : Env) : Nat → Env → Env
  | _, [] => []
  | i, s :: r => newS as ce i s :: outE as ce (i + 1) r
/-- all that was handed in to be changed is there -/
def allIo (ce : Env) : Nat → List Ar → Bool
  | _, [] => true
  | p, .fz _ :: as => allIo ce (p + 1) as
  | p, .io _ :: as => (match ce[p]? with
    | some (.io _) => true
    | _ => false) && allIo ce (p + 1) as
/-- a call of the def d, of m names -/
def callD (d : SM) (m : Nat) (as : List Ar) : M Rv := fun env => match inE env as with
  | none => .no
  | some ie => if (iosOf as).Nodup then (match d (ie ++ List.replicate (m - as.length) .un) with
    | .nx ce => if allIo ce 0 as = true then .ok (.fz .non) (outE as ce 0 env) else .no
    | .rt r ce => if allIo ce 0 as = true then (match r with
      | .fz t => .ok (.fz t) (outE as ce 0 env)
      | .ow t => .ok (.ow t) (outE as ce 0 env)
      | .bo j => match ce[j]? with
        | some (.ow t) => .ok (.ow t) (outE as ce 0 env)
        | _ => .no) else .no
    | .ex c fs ce => if allIo ce 0 as = true then .ex c fs (outE as ce 0 env) else .no
    | _ => .no) else .no
section
variable {G : Gr} {Tm : Amb} {F H : Hp} {σ : St} {env : Env}
theorem outE_get {as : List Ar} {ce : Env} : ∀ {env : Env} {k i : Nat}, (outE as ce k env)[i]? = (env[i]?).map (newS as ce (k + i))
  | [], k, i => by simp [outE]
  | s :: r, k, 0 => by simp [outE]
  | s :: r, k, i + 1 => by
    have h := outE_get (as := as) (ce := ce) (env := r) (k := k + 1) (i := i)
    simp only [outE, List.getElem?_cons_succ, h]
    congr 1
    rw [show k + 1 + i = k + (i + 1) by omega]
theorem outE_len {as : List Ar} {ce : Env} : ∀ {env : Env} {k : Nat}, (outE as ce k env).length = env.length
  | [], _ => rfl
  | s :: r, k => by simp [outE, outE_len]
theorem inE_len : ∀ {as : List Ar} {ie : Env}, inE env as = some ie → ie.length = as.length
  | [], ie, h => by cases h; rfl
  | .fz t :: as, ie, h => by
    obtain ⟨r, e, e2⟩ := Option.map_eq_some_iff.mp h
    subst e2
    simp [inE_len e]
  | .io i :: as, ie, h => by
    obtain ⟨t, e, e2⟩ := Option.bind_eq_some_iff.mp h
    obtain ⟨r, e3, e4⟩ := Option.map_eq_some_iff.mp e2
    subst e4
    simp [inE_len e3]
theorem inE_fz : ∀ {as : List Ar} {ie : Env} {p : Nat} {t : T}, inE env as = some ie → as[p]? = some (.fz t) → ie[p]? = some (.fz t)
  | [], _, _, _, _, h => by simp at h
  | .fz u :: as, ie, p, t, h, e => by
    obtain ⟨r, e1, e2⟩ := Option.map_eq_some_iff.mp h
    subst e2
    cases p with
    | zero => simpa using e
    | succ p => simpa using inE_fz e1 (by simpa using e)
  | .io i :: as, ie, p, t, h, e => by
    obtain ⟨u, e0, e1⟩ := Option.bind_eq_some_iff.mp h
    obtain ⟨r, e3, e4⟩ := Option.map_eq_some_iff.mp e1
    subst e4
    cases p with
    | zero => simp at e
    | succ p => simpa using inE_fz e3 (by simpa using e)
theorem inE_io : ∀ {as : List Ar} {ie : Env} {p i : Nat}, inE env as = some ie → as[p]? = some (.io i) → ∃ t, OwnAt env i t ∧ ie[p]? = some (.io t)
  | [], _, _, _, _, h => by simp at h
  | .fz u :: as, ie, p, i, h, e => by
    obtain ⟨r, e1, e2⟩ := Option.map_eq_some_iff.mp h
    subst e2
    cases p with
    | zero => simp at e
    | succ p => simpa using inE_io e1 (by simpa using e)
  | .io j :: as, ie, p, i, h, e => by
    obtain ⟨u, e0, e1⟩ := Option.bind_eq_some_iff.mp h
    obtain ⟨r, e3, e4⟩ := Option.map_eq_some_iff.mp e1
    subst e4
    cases p with
    | zero =>
      simp at e
      subst e
      obtain ⟨s, e5, e6⟩ := Option.bind_eq_some_iff.mp e0
      refine ⟨u, ?_, by simp⟩
      cases s <;> first | (cases e6; done) | skip
      · cases e6
        exact .inl e5
      · cases e6
        exact .inr e5
    | succ p => simpa using inE_io e3 (by simpa using e)
theorem mem_ios : ∀ {as : List Ar} {p i : Nat}, as[p]? = some (.io i) → i ∈ iosOf as
  | [], _, _, h => by simp at h
  | .fz t :: as, 0, i, h => by simp at h
  | .fz t :: as, p + 1, i, h => mem_ios (as := as) (p := p) (by simpa using h)
  | .io j :: as, 0, i, h => by
    simp at h
    subst h
    exact List.mem_cons_self ..
  | .io j :: as, p + 1, i, h => List.mem_cons_of_mem _ (mem_ios (as := as) (p := p) (by simpa using h))
theorem ios_mem : ∀ {as : List Ar} {i : Nat}, i ∈ iosOf as → ∃ p : Nat, as[p]? = some (Ar.io i)
  | [], _, h => nomatch h
  | .fz t :: as, i, h => by
    obtain ⟨p, e⟩ := ios_mem (as := as) h
    exact ⟨p + 1, by simpa using e⟩
  | .io j :: as, i, h => by
    rcases List.mem_cons.mp h with h | h
    · subst h
      exact ⟨0, rfl⟩
    · obtain ⟨p, e⟩ := ios_mem (as := as) h
      exact ⟨p + 1, by simpa using e⟩
theorem ios_inj : ∀ {as : List Ar} {p q i : Nat}, (iosOf as).Nodup → as[p]? = some (.io i) → as[q]? = some (.io i) → p = q
  | [], _, _, _, _, h, _ => by simp at h
  | .fz t :: as, 0, _, _, _, h, _ => by simp at h
  | .fz t :: as, _ + 1, 0, _, _, _, h => by simp at h
  | .fz t :: as, p + 1, q + 1, i, n, h1, h2 => congrArg (· + 1) (ios_inj (as := as) (p := p) (q := q) n (by simpa using h1) (by simpa using h2))
  | .io j :: as, 0, 0, _, _, _, _ => rfl
  | .io j :: as, 0, q + 1, i, n, h1, h2 => by
    simp at h1
    subst h1
    exact absurd (mem_ios (as := as) (p := q) (by simpa using h2)) (List.nodup_cons.mp n).1
  | .io j :: as, p + 1, 0, i, n, h1, h2 => by
    simp at h2
    subst h2
    exact absurd (mem_ios (as := as) (p := p) (by simpa using h1)) (List.nodup_cons.mp n).1
  | .io j :: as, p + 1, q + 1, i, n, h1, h2 => congrArg (· + 1) (ios_inj (as := as) (p := p) (q := q) (List.nodup_cons.mp n).2 (by simpa using h1) (by simpa using h2))
theorem allIo_at {ce : Env} : ∀ {as : List Ar} {k p i : Nat}, allIo ce k as = true → as[p]? = some (.io i) → ∃ t, ce[k + p]? = some (.io t)
  | [], _, _, _, _, h => by simp at h
  | .fz t :: as, k, 0, _, _, h => by simp at h
  | .fz t :: as, k, p + 1, i, a, h => by
    have := allIo_at (as := as) (k := k + 1) (p := p) a (by simpa using h)
    rw [show k + (p + 1) = k + 1 + p by omega]
    exact this
  | .io j :: as, k, 0, i, a, h => by
    simp only [allIo, Bool.and_eq_true] at a
    have := a.1
    split at this
    · rename_i t e
      exact ⟨t, e⟩
    · cases this
  | .io j :: as, k, p + 1, i, a, h => by
    simp only [allIo, Bool.and_eq_true] at a
    have := allIo_at (as := as) (k := k + 1) (p := p) a.2 (by simpa using h)
    rw [show k + (p + 1) = k + 1 + p by omega]
    exact this
theorem find_io {as : List Ar} {p i : Nat} (n : (iosOf as).Nodup) (h : as[p]? = some (.io i)) : as.findIdx? (isIo i) = some p := by
  cases e : as.findIdx? (isIo i) with
  | none =>
    have q := List.findIdx?_eq_none_iff.mp e (.io i) (List.mem_of_getElem? h)
    simp [isIo] at q
  | some q =>
    obtain ⟨hq, h1, _⟩ := List.findIdx?_eq_some_iff_getElem.mp e
    have e2 : as[q]? = some as[q] := List.getElem?_eq_getElem hq
    cases ea : as[q] with
    | fz t =>
      rw [ea] at h1
      cases h1
    | io j =>
      rw [ea] at h1
      have ej : j = i := by simpa [isIo] using h1
      subst ej
      rw [ea] at e2
      rw [ios_inj n h e2]
theorem find_no {as : List Ar} {i : Nat} (h : i ∉ iosOf as) : as.findIdx? (isIo i) = none := by
  refine List.findIdx?_eq_none_iff.mpr fun a ha => ?_
  cases a with
  | fz t => rfl
  | io j =>
    obtain ⟨p, e⟩ := List.getElem?_of_mem ha
    have : j ∈ iosOf as := mem_ios e
    have nj : j ≠ i := fun z => h (by rw [← z]; exact this)
    simpa [isIo] using nj
open Classical in
/-- what is around the callee -/
noncomputable def amb (Tm : Amb) (F H : Hp) (σ : St) (as : List Ar) : Amb where
  h := fun a => if F a = none ∧ ∀ i ∈ iosOf as, σ[i]? ≠ some (some (.ref a)) then H a else none
  p := fun q => match as[q]? with
    | some (.io i) => (match σ[i]? with
      | some (some (.ref a)) => some a
      | _ => none)
    | _ => none
  l := Tm.l
theorem amb_h {as : List Ar} {a : Addr} {o : HO} (h : (amb Tm F H σ as).h a = some o) : F a = none ∧ (∀ i ∈ iosOf as, σ[i]? ≠ some (some (.ref a))) ∧ H a = some o := by
  unfold amb at h
  dsimp only at h
  split at h
  · rename_i q
    exact ⟨q.1, q.2, h⟩
  · cases h
theorem amb_of {as : List Ar} {a : Addr} (h1 : F a = none) (h2 : ∀ i ∈ iosOf as, σ[i]? ≠ some (some (.ref a))) : (amb Tm F H σ as).h a = H a := by
  unfold amb
  dsimp only
  rw [if_pos ⟨h1, h2⟩]
theorem amb_io {as : List Ar} {a : Addr} {i : Nat} (h : i ∈ iosOf as) (e : σ[i]? = some (some (.ref a))) : (amb Tm F H σ as).h a = none := by
  unfold amb
  dsimp only
  rw [if_neg fun q => q.2 i h e]
theorem st0_get {m p : Nat} {vs : List V} {x : V} (h : vs[p]? = some x) : (st0 m vs)[p]? = some (some x) := by
  unfold st0
  have hl := (List.getElem?_eq_some_iff.mp h).1
  rw [List.getElem?_append_left (by simpa using hl), List.getElem?_map, h]
  rfl
/-- at the callee's entry -/
theorem Sok.into (S : Sok G Tm F H σ env) {as : List Ar} {vs : List V} {ie : Env} {m : Nat} (r : ArL G F σ as vs) (hi : inE env as = some ie) (n : (iosOf as).Nodup) (hm : as.length ≤ m) :
    Sok G (amb Tm F H σ as) F H (st0 m vs) (ie ++ List.replicate (m - as.length) .un) := by
  have ll := r.length
  have li := inE_len hi
  have at_ : ∀ {p : Nat} {s : Sl}, (ie ++ List.replicate (m - as.length) Sl.un)[p]? = some s → s = .un ∨ (p < as.length ∧ ie[p]? = some s) := fun {p s} e => by
    by_cases hp : p < ie.length
    · rw [List.getElem?_append_left hp] at e
      exact .inr ⟨by omega, e⟩
    · rw [List.getElem?_append_right (by omega), List.getElem?_replicate] at e
      split at e
      · exact .inl (Option.some.inj e).symm
      · cases e
  -- an own slot of the callee is one of the caller's
  have own_ : ∀ {p : Nat} {t : T}, OwnAt (ie ++ List.replicate (m - as.length) Sl.un) p t → ∃ i x, as[p]? = some (.io i) ∧ OwnAt env i t ∧ (ie ++ List.replicate (m - as.length) Sl.un)[p]? = some (.io t) ∧ vs[p]? = some x ∧ σ[i]? = some (some x) := fun {p t} o => by
    obtain ⟨s, e, k⟩ := o.get
    rcases at_ e with q | ⟨hp, q⟩
    · subst q
      rcases k with k | k <;> cases k
    · cases ea : as[p]? with
      | none =>
        rw [List.getElem?_eq_none_iff] at ea
        omega
      | some a =>
        cases a with
        | fz u =>
          have := inE_fz hi ea
          rw [q] at this
          cases this
          rcases k with k | k <;> cases k
        | io i =>
          obtain ⟨u, ou, eu⟩ := inE_io hi ea
          rw [q] at eu
          cases eu
          rcases k with k | k
          · cases k
          · cases k
            obtain ⟨x, hx, ok⟩ := r.get ea
            exact ⟨i, x, rfl, ou, e, hx, ok⟩
  refine ⟨S.sub, fun a o e => ?_, ?_, fun p s e => ?_, fun p q a t u h1 h2 h3 h4 => ?_, fun p a t h1 h2 => ?_, S.lk, fun p t e => ?_⟩
  · obtain ⟨q1, _, q2⟩ := amb_h e
    exact ⟨q2, q1⟩
  · unfold st0
    simp only [List.length_append, List.length_map, List.length_replicate]
    omega
  · rcases at_ e with q | ⟨hp, q⟩
    · subst q
      have hl : p < (st0 m vs).length := by
        have := (List.getElem?_eq_some_iff.mp e).1
        unfold st0
        simp only [List.length_append, List.length_map, List.length_replicate] at this ⊢
        omega
      exact ⟨_, List.getElem?_eq_getElem hl, True.intro⟩
    · cases ea : as[p]? with
      | none =>
        rw [List.getElem?_eq_none_iff] at ea
        omega
      | some a =>
        obtain ⟨x, hx, ok⟩ := r.get ea
        refine ⟨_, st0_get hx, ?_⟩
        cases a with
        | fz u =>
          have := inE_fz hi ea
          rw [q] at this
          cases this
          exact ⟨x, rfl, ok⟩
        | io i =>
          obtain ⟨u, ou, eu⟩ := inE_io hi ea
          rw [q] at eu
          cases eu
          obtain ⟨s0, e0, k0⟩ := ou.get
          obtain ⟨y, hy, oky⟩ := S.slot i s0 e0
          rw [show σ[i]? = some (some x) from ok] at hy
          cases hy
          exact oky.own k0
  · obtain ⟨i, x, ea, oi, _, hx, ex⟩ := own_ h1
    obtain ⟨j, y, eb, oj, _, hy, ey⟩ := own_ h3
    rw [st0_get hx] at h2
    rw [st0_get hy] at h4
    cases h2
    cases h4
    have eij := S.apart i j a _ _ oi ex oj ey
    subst eij
    exact ios_inj n ea eb
  · obtain ⟨i, x, ea, oi, _, hx, ex⟩ := own_ h1
    rw [st0_get hx] at h2
    cases h2
    exact amb_io (mem_ios ea) ex
  · obtain ⟨i, x, ea, oi, _, hx, ex⟩ := own_ (.inr e)
    obtain ⟨s0, e0, k0⟩ := oi.get
    obtain ⟨y, hy, oky⟩ := S.slot i s0 e0
    obtain ⟨b, ob, eb, _⟩ := oky.own k0
    rw [ex] at hy
    cases hy
    cases eb
    refine ⟨b, ?_, st0_get hx⟩
    show (match as[p]? with
      | some (.io i) => (match σ[i]? with
        | some (some (.ref a)) => some a
        | _ => none)
      | _ => none) = some b
    rw [ea]
    dsimp only
    rw [ex]
/-- behind the callee -/
theorem Sok.outof {F' H' : Hp} {σ' : St} {ce : Env} (S : Sok G Tm F H σ env) {as : List Ar} (le : Le F F') (S' : Sok G (amb Tm F H σ as) F' H' σ' ce) (n : (iosOf as).Nodup) (ha : allIo ce 0 as = true) (hi : (inE env as).isSome = true) :
    Sok G Tm F' H' σ (outE as ce 0 env) := by
  obtain ⟨ie, hi⟩ := Option.isSome_iff_exists.mp hi
  have back : ∀ {i : Nat} {s : Sl}, (outE as ce 0 env)[i]? = some s → ∃ s0, env[i]? = some s0 ∧ s = newS as ce i s0 := fun {i s} e => by
    rw [outE_get, Nat.zero_add] at e
    obtain ⟨s0, e0, e1⟩ := Option.map_eq_some_iff.mp e
    exact ⟨s0, e0, e1.symm⟩
  -- a slot that was handed in
  have kind : ∀ {i : Nat} {s0 : Sl}, env[i]? = some s0 → (i ∉ iosOf as ∧ newS as ce i s0 = s0) ∨ ∃ (p : Nat) (t u : T), as[p]? = some (Ar.io i) ∧ ce[p]? = some (Sl.io t) ∧ ((s0 = .ow u ∧ newS as ce i s0 = .ow t) ∨ (s0 = .io u ∧ newS as ce i s0 = .io t)) := fun {i s0} e => by
    by_cases hm : i ∈ iosOf as
    · obtain ⟨p, ea⟩ := ios_mem hm
      obtain ⟨t, et⟩ := allIo_at ha ea
      rw [Nat.zero_add] at et
      obtain ⟨u, ou, _⟩ := inE_io hi ea
      refine .inr ⟨p, t, u, ea, et, ?_⟩
      unfold newS
      rw [find_io n ea]
      dsimp only
      rw [et]
      rcases ou with ou | ou
      · rw [e] at ou
        cases ou
        exact .inl ⟨rfl, rfl⟩
      · rw [e] at ou
        cases ou
        exact .inr ⟨rfl, rfl⟩
    · refine .inl ⟨hm, ?_⟩
      unfold newS
      rw [find_no hm]
  have ownB : ∀ {i : Nat} {t : T}, OwnAt (outE as ce 0 env) i t → ∃ u, OwnAt env i u := fun {i t} o => by
    obtain ⟨s, e, k⟩ := o.get
    obtain ⟨s0, e0, e1⟩ := back e
    rcases kind e0 with ⟨_, q⟩ | ⟨p, t', u, _, _, q⟩
    · rw [q] at e1
      subst e1
      exact ⟨t, .of k e0⟩
    · rcases q with ⟨q, _⟩ | ⟨q, _⟩
      · subst q
        exact ⟨u, .inl e0⟩
      · subst q
        exact ⟨u, .inr e0⟩
  refine ⟨S'.sub, fun a o e => ?_, by rw [outE_len, S.len], fun i s e => ?_, fun i j a t u h1 h2 h3 h4 => ?_, fun i a t h1 h2 => ?_, S'.lk, fun i t e => ?_⟩
  · have q := S.tm a o e
    refine S'.tm a o ?_
    rw [amb_of q.2 fun i hm z => ?_]
    · exact q.1
    · obtain ⟨p, ea⟩ := ios_mem hm
      obtain ⟨u, ou, _⟩ := inE_io hi ea
      rw [S.tmo i a u ou z] at e
      cases e
  · obtain ⟨s0, e0, e1⟩ := back e
    obtain ⟨x, hx, ok⟩ := S.slot i s0 e0
    refine ⟨x, hx, ?_⟩
    rcases kind e0 with ⟨hm, q⟩ | ⟨p, t, u, ea, ec, q⟩
    · rw [q] at e1
      subst e1
      have mv : ∀ {t : T}, (s = .ow t ∨ s = .io t) → ∃ b ob, x = some (.ref b) ∧ H' b = some ob ∧ F' b = none ∧ Top G F' ob t := fun {t} k => by
        obtain ⟨b, ob, ex, hb, fb, top⟩ := ok.own k
        have q := S'.tm b ob (by
          rw [amb_of fb fun j hj z => ?_]
          · exact hb
          · obtain ⟨pj, eaj⟩ := ios_mem hj
            obtain ⟨uj, ouj, _⟩ := inE_io hi eaj
            exact hm (by rw [S.apart i j b t uj (.of k e0) (by rw [hx, ex]) ouj z]; exact hj))
        exact ⟨b, ob, ex, q.1, q.2, top.mono le⟩
      cases s with
      | un => exact True.intro
      | fz t =>
        obtain ⟨v, ev, rv⟩ := ok
        exact ⟨v, ev, Rep.mono le t rv⟩
      | ow t => exact mv (.inl rfl)
      | io t => exact mv (.inr rfl)
    · have k0 : s0 = .ow u ∨ s0 = .io u := by
        rcases q with ⟨q, _⟩ | ⟨q, _⟩
        · exact .inl q
        · exact .inr q
      obtain ⟨b, ob, ex, hb, fb, top⟩ := ok.own k0
      obtain ⟨b', e3, e4⟩ := S'.pio p t ec
      have e5 : (amb Tm F H σ as).p p = some b := by
        show (match as[p]? with
          | some (.io i) => (match σ[i]? with
            | some (some (.ref a)) => some a
            | _ => none)
          | _ => none) = some b
        rw [ea]
        dsimp only
        rw [hx, ex]
      rw [e5] at e3
      cases e3
      obtain ⟨y, hy, oky⟩ := S'.slot p _ ec
      rw [e4] at hy
      cases hy
      obtain ⟨c, oc, ec2, hc, fc, tc⟩ := oky
      cases ec2
      have res : ∃ b2 ob2, x = some (.ref b2) ∧ H' b2 = some ob2 ∧ F' b2 = none ∧ Top G F' ob2 t := ⟨b, oc, ex, hc, fc, tc⟩
      rcases q with ⟨_, q⟩ | ⟨_, q⟩
      · rw [q] at e1
        subst e1
        exact res
      · rw [q] at e1
        subst e1
        exact res
  · obtain ⟨t', o1⟩ := ownB h1
    obtain ⟨u', o2⟩ := ownB h3
    exact S.apart i j a t' u' o1 h2 o2 h4
  · obtain ⟨t', o1⟩ := ownB h1
    exact S.tmo i a t' o1 h2
  · obtain ⟨s0, e0, e1⟩ := back e
    rcases kind e0 with ⟨_, q⟩ | ⟨p, t', u, _, _, q⟩
    · rw [q] at e1
      subst e1
      exact S.pio i t e0
    · rcases q with ⟨q1, q2⟩ | ⟨q1, q2⟩
      · rw [q2] at e1
        cases e1
      · subst q1
        exact S.pio i u e0
/-- a new object that the callee hands back -/
theorem own_back {F' H' : Hp} {σ' : St} {ce : Env} {a : Addr} {o : HO} {t : T} (S : Sok G Tm F H σ env) {as : List Ar} (S' : Sok G (amb Tm F H σ as) F' H' σ' ce) (n : (iosOf as).Nodup) (ha : allIo ce 0 as = true) (hi : (inE env as).isSome = true)
    (h1 : H' a = some o) (h2 : F' a = none) (le : Le F F') (top : Top G F' o t) (h3 : (amb Tm F H σ as).h a = none) (h4 : ∀ (p : Nat) u, ce[p]? = some (.io u) → σ'[p]? ≠ some (some (.ref a))) :
    RvR G Tm F' H' σ (outE as ce 0 env) (.ow t) (.ref a) := by
  obtain ⟨ie, hi⟩ := Option.isSome_iff_exists.mp hi
  have fa : F a = none := by
    cases e : F a with
    | none => rfl
    | some u =>
      rw [le a u e] at h2
      cases h2
  have nio : ∀ i ∈ iosOf as, σ[i]? ≠ some (some (.ref a)) := fun i hm z => by
    obtain ⟨p, ea⟩ := ios_mem hm
    obtain ⟨u, eu⟩ := allIo_at ha ea
    rw [Nat.zero_add] at eu
    obtain ⟨b, e3, e4⟩ := S'.pio p u eu
    have e5 : (amb Tm F H σ as).p p = some a := by
      show (match as[p]? with
        | some (.io i) => (match σ[i]? with
          | some (some (.ref a)) => some a
          | _ => none)
        | _ => none) = some a
      rw [ea]
      dsimp only
      rw [z]
    rw [e5] at e3
    cases e3
    exact h4 p u eu e4
  have ha0 : H a = none := by
    rw [← amb_of (Tm := Tm) (H := H) fa nio]
    exact h3
  refine ⟨a, o, rfl, h1, h2, ?_, top, fun i u ou z => ?_⟩
  · cases e : Tm.h a with
    | none => rfl
    | some u =>
      have := (S.tm a u e).1
      rw [ha0] at this
      cases this
  · obtain ⟨s, e, k⟩ := ou.get
    rw [outE_get, Nat.zero_add] at e
    obtain ⟨s0, e0, e1⟩ := Option.map_eq_some_iff.mp e
    by_cases hm : i ∈ iosOf as
    · exact nio i hm z
    · have : newS as ce i s0 = s0 := by
        unfold newS
        rw [find_no hm]
      rw [this] at e1
      subst e1
      obtain ⟨x, hx, ok⟩ := S.slot i _ e0
      obtain ⟨b, ob, ex, hb, _⟩ := ok.own k
      rw [z] at hx
      cases hx
      cases ex
      rw [ha0] at hb
      cases hb
end
end Ev
/-! Ev8: calls of the text's own defs; a law's call. -/
namespace Ev
open PySem PySem.Spec L2
/-- what a call leans on -/
structure Bk (C : Cy) (k : Nat) : Prop where
  room : Room k C.X.A
  grd : C.X.A.guards = some []
  tk : Takes C.X C.W
theorem Bod.bk {C : Cy} {k : Nat} (B : Bod C k) : Bk C k := ⟨B.room, B.grd, B.tk⟩
theorem Bk.blk {C : Cy} {k : Nat} (B : Bk C k) (s : Shared) (H : Hp) (scope : Scope) (cenv : PySem.Env) (fp : List Addr) : Bk (C.blk s H scope cenv fp) k := ⟨B.room, B.grd, takes0⟩
theorem Bk.rm {C : Cy} {k : Nat} (B : Bk C k) : Rm C := by
  have := B.room.un
  show C.X.A.units + 190 < cLine
  omega
def callA (n : Nat) (d : SM) (m : Nat) (as : List Ar) : M Rv := if as.length = n then callD d m as else M.no
theorem ArL.append {G : Gr} {F : Hp} {σ : St} {bs : List Ar} {ys : List V} : ∀ {as : List Ar} {xs : List V}, ArL G F σ as xs → ArL G F σ bs ys → ArL G F σ (as ++ bs) (xs ++ ys)
  | [], _, h, h' => by rw [show _ = [] from h]; exact h'
  | a :: as, _, ⟨x, r, e, h, t⟩, h' => ⟨x, r ++ _, by rw [e] <;> rfl, h, ArL.append t h'⟩
theorem ArL.consts {G : Gr} {F : Hp} {σ : St} : ∀ {ts : List T} {xs : List V}, RepL G F ts xs → ArL G F σ (ts.map Ar.fz) xs
  | [], _, h => h.unnil
  | t :: ts, _, h => by
    obtain ⟨x, r, e, h1, h2⟩ := h.uncons
    exact ⟨x, r, e, h1, ArL.consts h2⟩
section
variable {C : Cy} {k j : Nat} {f : Addr} {fd : FuncData} {ps : List Str} {m : Nat} {d : SM} {ds : List Value} {dvs : List V} {dts : List T}
abbrev FnC (C : Cy) (k : Nat) (f : Addr) (fd : FuncData) (ps : List Str) (m : Nat) (d : SM) : Prop := FnT C.X.prog C.X.w C.X.K C.X.mg C.X.base C.ca k f fd ps m d
/-- a call as the caller sees it -/
theorem call_sp {σ : St} {H : Hp} {Q : VK} {vs : List V} {Tm : Amb} {F0 : Hp} {env : Env} {as : List Ar} {n : Nat} (hm : n ≤ m) (S : Sok C.G Tm F0 H σ env) (ra : ArL C.G F0 σ as vs)
    (q : At C (RvR C.G) Tm F0 σ Q (callA n d m as env)) : spT C.G n m d vs H Q (fun cls dd H' => C.W cls dd σ H') := by
  unfold callA at q
  by_cases hl : as.length = n
  case neg =>
    rw [if_neg hl] at q
    exact q.elim
  rw [if_pos hl] at q
  unfold callD at q
  cases ei : inE env as with
  | none =>
    rw [ei] at q
    exact q.elim
  | some ie =>
    rw [ei] at q
    dsimp only at q
    by_cases hn : (iosOf as).Nodup
    case neg =>
      rw [if_neg hn] at q
      exact q.elim
    rw [if_pos hn] at q
    refine ⟨by rw [ra.length, hl], amb Tm F0 H σ as, F0, _, S.into ra ei hn (by omega), ?_⟩
    have hs : (inE env as).isSome = true := by rw [ei] <;> rfl
    cases ed : d (ie ++ List.replicate (m - as.length) .un) with
    | nx ce =>
      rw [ed] at q
      dsimp only at q
      by_cases ha : allIo ce 0 as = true
      case neg =>
        rw [if_neg ha] at q
        exact q.elim
      rw [if_pos ha] at q
      exact fun σ' F' H' le S' => q _ F' H' le (S.outof le S' hn ha hs) mk_non
    | rt r ce =>
      rw [ed] at q
      dsimp only at q
      by_cases ha : allIo ce 0 as = true
      case neg =>
        rw [if_neg ha] at q
        exact q.elim
      rw [if_pos ha] at q
      intro x σ' F' H' le S' rv
      cases r with
      | fz t => exact q _ F' H' le (S.outof le S' hn ha hs) rv
      | ow t =>
        obtain ⟨a, o, rfl, h1, h2, h3, top, h4⟩ := rv
        exact q _ F' H' le (S.outof le S' hn ha hs) (own_back S S' hn ha hs h1 h2 le top h3 fun p u e => h4 p u (.inr e))
      | bo i =>
        dsimp only at q
        obtain ⟨hx, t0, ot⟩ := rv
        cases es : ce[i]? with
        | none =>
          rw [es] at q
          exact q.elim
        | some s =>
          rw [es] at q
          cases s with
          | un => exact q.elim
          | fz _ => exact q.elim
          | io _ => exact q.elim
          | ow t =>
            obtain ⟨y, hy, a, o, ey, h1, h2, top⟩ := S'.slot i _ es
            rw [hx] at hy
            cases hy
            cases ey
            refine q _ F' H' le (S.outof le S' hn ha hs) (own_back S S' hn ha hs h1 h2 le top (S'.tmo i a t (.inl es) hx) fun p u e z => ?_)
            have := S'.apart p i a u t (.inr e) z (.inl es) hx
            subst this
            rw [es] at e
            cases e
    | ex c fs ce =>
      rw [ed] at q
      dsimp only at q
      by_cases ha : allIo ce 0 as = true
      case neg =>
        rw [if_neg ha] at q
        exact q.elim
      rw [if_pos ha] at q
      exact fun dd σ' F' H' ws le S' e r => q dd F' H' ws le (S.outof le S' hn ha hs) e r
    | bk ce =>
      rw [ed] at q
      exact q.elim
    | ct ce =>
      rw [ed] at q
      exact q.elim
    | no =>
      rw [ed] at q
      exact q.elim
theorem call_run (F : FnC C k f fd ps m d) (B : Bk C k) (hb : Binds C.X.K fd ps ds) (hd : Vals dvs ds) {pins : List (Addr × Obj)} {s : Shared} {σ : St} {H : Hp} {Q : VK} {us : List Value} {vs : List V} (I : Inv C.X pins σ H s) (rv : Vals vs us)
    (h : spT C.G ps.length m d (vs ++ dvs) H Q (fun cls dd H' => C.W cls dd σ H')) : wpAny (model C.X.prog C.X.w) C.X.A (call (.ref f) us) (EP C.X pins σ Q) C.X.xe s := by
  have r2 := rv.append hd
  have hl : (us ++ ds).length = ps.length := by rw [← r2.length]; exact h.1
  refine wpAny_call (codeAny_mono (F.go B.room B.grd I.env0 (hb s us I.kIn hl) r2 h) fun r s' hq => ?_)
  match r, hq with
  | .error e, hq => exact B.tk _ _ (XE.of_call I (fun _ _ _ z => z) hq)
  | .ok (.ret u), hq => exact I.after hq
  | .ok .next, hq => exact False.elim hq
  | .ok .brk, hq => exact False.elim hq
  | .ok .cont, hq => exact False.elim hq
variable {x : Str} {p pos : Pos} {e : Expr} {es : List Expr} {fa : M (List Ar)}
theorem ev_call (F : FnC C k f fd ps m d) (B : Bk C j) (hj : k ≤ j) (hm : ps.length ≤ m) (hg : Gl C.X x) (hx : C.X.mg x = some (.ref f)) (hk : PySem.W.keepIn C.X.K (.ref f) = true) (hb : Binds C.X.K fd ps ds) (hd : Vals dvs ds) (ht : ∀ F, RepL C.G F dts dvs) (ha : EvAr C (e :: es) fa)
    (hdb : (x == ("__debug__" : Str)) = false := by decide +kernel) (he : starEach (e :: es) C.X.env = (false, eval e C.X.env) :: starEach es C.X.env := by rfl) (hpl : (backTo pos (starEach es C.X.env)).any (·.1) = false := by rfl) :
    EvE C (.Call (.Name x p) (e :: es) [] pos) (M.bind fa fun as => callA ps.length d m (as ++ dts.map Ar.fz)) := by
  refine ⟨fun pins s σ H Q I ⟨Tm, F0, env, S, q⟩ => ?_⟩
  refine wpAny_Call_Name_kw (ld_glob I hg hx ?_ hdb)
  have q1 : tG C (ArR C.G) fa σ H fun vs H1 => spT C.G ps.length m d (vs ++ dvs) H1 Q (fun cls dd H' => C.W cls dd σ H') := by
    refine ⟨Tm, F0, env, S, At.bind (R' := RvR C.G) (Q' := Q) q fun as env1 xs F1 H1 le1 S1 r1 q2 => ?_⟩
    exact call_sp hm S1 (r1.append (ArL.consts (ht F1))) q2
  refine PySem.W.callWith_K (h₀ := C.X.base) I.ok.mod.kin hk (thn (ha.run pos pins s σ H _ I q1) fun us s1 ⟨vs, H1, I1, r, h⟩ => ⟨I1.kIn, ?_⟩) he hpl
  exact call_run (F.up hj) B hb hd I1 r h
theorem ev_call0 (F : FnC C k f fd ps m d) (B : Bk C j) (hj : k ≤ j) (hm : ps.length ≤ m) (hg : Gl C.X x) (hx : C.X.mg x = some (.ref f)) (hk : PySem.W.keepIn C.X.K (.ref f) = true) (hb : Binds C.X.K fd ps ds) (hd : Vals dvs ds) (ht : ∀ F, RepL C.G F dts dvs)
    (hdb : (x == ("__debug__" : Str)) = false := by decide +kernel) : EvE C (.Call (.Name x p) [] [] pos) (callA ps.length d m (dts.map Ar.fz)) := by
  refine ⟨fun pins s σ H Q I ⟨Tm, F0, env, S, q⟩ => ?_⟩
  refine wpAny_Call_Name_kw (ld_glob I hg hx ?_ hdb)
  exact PySem.W.callWith_K0 I.kIn hk (call_run (us := []) (vs := []) (F.up hj) B hb hd I .nil (call_sp hm S (ArL.consts (ht F0)) q))
end

/-! ### a law's call -/
section
variable {P : Program} {w : World} {K : PySem.W.Frag} {mg mb : Str → Option Value} {ca : Nat → Addr} {k : Nat} {fa a : Addr} {fd : FuncData} {x : Str} {m : Nat} {d : SM} {s₁ : Shared} {vs : List Value} {ns : List Int}
/-- the script's value, as a tree -/
def scr (ns : List Int) : T := .lst (ns.map T.int)
theorem scr_rep {G : Gr} {F : Hp} (h : LstAt G.K F a (ns.map V.int)) : Rep G F (scr ns) (.ref a) := by
  unfold scr
  simp only [Rep]
  refine ⟨a, _, rfl, h, ?_⟩
  induction ns with
  | nil => exact .nil
  | cons n ns ih => exact .cons (mk_int n) (by
      clear h ih
      induction ns with
      | nil => exact .nil
      | cons n ns ih => exact .cons (mk_int n) ih)
/-- the law is true of the script: the outcome of its def is True -/
def True_ (o : SO) : Prop := ∃ e, o = .rt (.fz (.bl true)) e
theorem law_true (KX : K.In s₁.heap) (hns : s₁.heap.Ns mainGlobals mg) (hbn : s₁.heap.Ns builtinsNs mb) (hbb : ∀ x : Str, x ≠ "__name__" → mb x = bootBuiltins x) (hlim : s₁.heap.NoLimit) (hgen : s₁.gens = #[])
    (ha : s₁.heap.get? a = some { cls := .type "list", data := .seq vs.toArray }) (hi : PyProof.Rows.IntsAre vs ns) (hl : ns.length ≤ sizeLine) (hr : Room k callerA)
    (FF : ∀ base : Heap, K.In base → base.Ns mainGlobals mg → FnT P w K mg base ca k fa fd [x] m d) (hm : 1 ≤ m) (hbind : ∀ (s : Shared) (u : Value), BindsTo s fd ⟨[u], []⟩ [(x, u)])
    (ht : True_ (d (.fz (scr ns) :: List.replicate (m - 1) .un))) :
    codeAny (model P w) callerA (.call (.ref fa) ⟨[.ref a], []⟩) (fun r s' => r = .ok (.ret (.bool true)) ∧ OldK s₁.heap s'.heap ∧ s'.os = s₁.os ∧ PyProof.Rows.AllBare s'.gens) s₁ := by
  have rv := vals_ints hi
  have lenV := hi.length
  obtain ⟨ee, ht⟩ := ht
  have main : ∀ H : Hp, Only H → LstAt K H a (ns.map V.int) → HOk P w H s₁.heap → (∀ b, H b ≠ none → b = a) → (H a ≠ none → K.lookup a = none) →
      codeAny (model P w) callerA (.call (.ref fa) ⟨[.ref a], []⟩) (fun r s' => r = .ok (.ret (.bool true)) ∧ OldK s₁.heap s'.heap ∧ s'.os = s₁.os ∧ PyProof.Rows.AllBare s'.gens) s₁ := by
    intro H hO hS hok hA hK
    have only : ∀ {b : Addr}, b ≠ a → H b = none := fun {b} n => by
      cases q : H b with
      | none => rfl
      | some u => exact absurd (hA b (by rw [q]; exact fun z => nomatch z)) n
    have dicts : ∀ {b : Addr} {o : Obj} {es : Array DictEntry} {ep : Nat}, s₁.heap.get? b = some o → o.data = .dict es ep → H b = none := fun {b o es ep} e dd => by
      refine only fun z => ?_
      rw [z, ha] at e
      cases e
      exact nomatch (show Data.seq vs.toArray 0 = Data.dict es ep from dd)
    have nsH : ∀ {b : Addr} {mm : Str → Option Value}, s₁.heap.Ns b mm → (hidT s₁.heap H).Ns b mm := fun {b mm} ⟨o, es, ep, e, dd, r⟩ => ⟨o, es, ep, hidT_get e (dicts e dd), dd, r⟩
    have kB : K.In (hidT s₁.heap H) := fun b o e => by
      refine hidT_get (KX b o e) ?_
      by_cases hb : b = a
      · cases q : H b with
        | none => rfl
        | some u =>
          rw [hb] at q e
          have z := hK (by rw [q]; exact fun z => nomatch z)
          rw [z] at e
          cases e
      · exact only hb
    obtain ⟨mc, l1, l2⟩ := hlim
    have e0 : Env0 P w K mg (hidT s₁.heap H) callerA [] s₁ H := {
      frames := rfl
      mod := ⟨kB, nsH hns, ⟨mb, nsH hbn, hbb⟩, mc, nsH l1, l2⟩
      bs := fun b o e => of_hidT e
      bsz := Nat.le_of_eq (hidT_size _ _)
      funs := trivial
      frf := fun b hb => nomatch hb
      hok := hok
      bare := .of_eq hgen }
    have hsp : spT ⟨K, ca⟩ 1 m d [.ref a] H (fun v _ => v = .bl true) (fun _ _ _ => False) := by
      refine ⟨rfl, ⟨fun _ => none, fun _ => none, fun _ => none⟩, H, .fz (scr ns) :: List.replicate (m - 1) .un, ⟨fun b o e => .inl e, fun b o e => (nomatch e), ?_, fun i s e => ?_, fun i j b t u h1 => ?_, fun i b t h1 _ => rfl, fun b o e => (nomatch e), fun i t e => ?_⟩, ?_⟩
      · unfold st0
        simp only [List.length_append, List.length_map, List.length_replicate, List.length_cons, List.length_nil]
        omega
      · cases i with
        | zero =>
          cases e
          exact ⟨some (.ref a), rfl, .ref a, rfl, scr_rep hS⟩
        | succ i =>
          rw [List.getElem?_cons_succ, List.getElem?_replicate] at e
          split at e
          · rename_i hlt
            cases e
            refine ⟨none, ?_, True.intro⟩
            show ([some (V.ref a)] ++ List.replicate (m - 1) none)[i + 1]? = some none
            rw [List.getElem?_append_right (by simp)]
            simp [hlt]
          · cases e
      · rcases h1 with h1 | h1
        · cases i with
          | zero => cases h1
          | succ i =>
            rw [List.getElem?_cons_succ, List.getElem?_replicate] at h1
            split at h1 <;> cases h1
        · cases i with
          | zero => cases h1
          | succ i =>
            rw [List.getElem?_cons_succ, List.getElem?_replicate] at h1
            split at h1 <;> cases h1
      · cases i with
        | zero => cases e
        | succ i =>
          rw [List.getElem?_cons_succ, List.getElem?_replicate] at e
          split at e <;> cases e
      · rw [ht]
        exact fun y σ F' H' _ _ r => rep_bl r
    refine codeAny_mono ((FF _ kB (nsH hns)).go hr rfl e0 (us := [.ref a]) (hbind s₁ (.ref a)) (vs := [.ref a]) (.cons rfl .nil) hsp) fun r s' h => ?_
    match r, h with
    | .error e, h =>
      obtain ⟨_, _, _, _, _, _, _, _, _, _, _, _, z⟩ := h
      exact z.elim
    | .ok .next, h => exact False.elim h
    | .ok .brk, h => exact False.elim h
    | .ok .cont, h => exact False.elim h
    | .ok (.ret u), h =>
      obtain ⟨v, H', os, bare, un, hok', r', q⟩ := h
      have q' : v = .bl true := q
      subst q'
      have ru : u = Value.bool true := r'
      subst ru
      refine ⟨rfl, OldK.of_keep fun b o e => ?_, os, bare⟩
      rcases hO b with z | ⟨ob, xs, z⟩
      · exact un.keep b o e z (fun y => nomatch y) (fun y => nomatch y)
      · obtain ⟨e1, _⟩ := hok b _ z
        obtain ⟨e2, _⟩ := hok' b _ (un.frzs b ob _ z)
        rw [e] at e1
        cases e1
        exact e2
  have hl2 : vs.length ≤ sizeLine := by rw [lenV]; exact hl
  cases hk : K.lookup a with
  | some o =>
    have e := KX a o hk
    rw [ha] at e
    cases e
    exact main (fun _ => none) (fun _ => .inl rfl) (.inr ⟨vs, 0, hk, hl2, rv⟩) (fun b u z => nomatch z) (fun b z => absurd rfl z) fun z => absurd rfl z
  | none =>
    let Hs : Hp := upd (fun _ => none) a (.frz { cls := .type "list", data := .seq vs.toArray } (.lst (ns.map V.int)))
    have hs : Hs a = some (.frz { cls := .type "list", data := .seq vs.toArray } (.lst (ns.map V.int))) := upd_same
    have hn : ∀ {b : Addr}, b ≠ a → Hs b = none := fun {b} n => upd_ne n
    refine main Hs (fun b => ?_) (.inl (.inr ⟨_, hs⟩)) (fun b u z => ?_) (fun b z => ?_) fun _ => hk
    · by_cases hb : b = a
      · exact .inr ⟨_, _, by rw [hb]; exact hs⟩
      · exact .inl (hn hb)
    · by_cases hb : b = a
      · subst hb
        rw [hs] at z
        cases z
        exact ⟨ha, by rw [List.length_map]; exact hl, vs, 0, rv, ha⟩
      · rw [hn hb] at z
        cases z
    · by_cases hb : b = a
      · exact hb
      · exact absurd (hn hb) z
end
/-- the end of a law over a head by facts -/
theorem law_walk {l : PySem.W.OpenLaw} {n k m : Nat} {q : Program} {loose : List Str} {XP : (Str → Option Value) → Heap → Prop} {YP : World → Heap → Prop} {dr : DefRec} {x : Str} {d : SM}
    (hn : l.most = some n) (hn2 : n ≤ sizeLine) (hdf : dr.params.defaults = []) (hr : Room k callerA) (hm : 1 ≤ m)
    (F : ∀ (w : World) (mg : Str → Option Value) (fa : Addr) (h : Heap), YP w h → h.Ns mainGlobals mg → mg dr.name = some (.ref fa) →
      ∃ (K : PySem.W.Frag) (ca : Nat → Addr) (fd : FuncData), K.In h ∧ (∀ (s : Shared) (u : Value), BindsTo s fd ⟨[u], []⟩ [(x, u)]) ∧ ∀ base : Heap, K.In base → base.Ns mainGlobals mg → FnT l.prog w K mg base ca k fa fd [x] m d)
    (ht : ∀ ns : List Int, ns.length ≤ n → True_ (d (.fz (scr ns) :: List.replicate (m - 1) .un))) :
    PySem.W.WalkO q loose XP YP l.row.toRowW dr [] (fun f vs => PySem.call f vs) := by
  refine Att.attach_call hn hdf fun w s₀ s₁ mg mb fa o pm cd doc a vs ns G Y ho hd hcd hmg hobj hints hlen hg => ?_
  obtain ⟨K, ca, fd, KX, hb, hF⟩ := F w mg fa _ Y G.T.g hmg
  exact law_true KX G.T.g G.T.b G.T.builtins G.T.nolimit hg hobj hints (Nat.le_trans hlen hn2) hr hF hm hb (ht ns hlen)
end Ev
/-! Ev9: unpacking, join, repr, isinstance of built-in types. -/
namespace Ev
open PySem PySem.Spec L2
section
variable {C : Cy} {a b c e : Expr} {es : List Expr} {pos pos' : Pos}
def tgSeq (n : Nat) (g : TMs) : TM := fun t env => match t with
  | .tup ts => if ts.length = n then g ts env else none
  | .lst ts => if ts.length = n then g ts env else none
  | _ => none
theorem eg_seq {tgs : List Expr} {k n : Nat} {js : List Nat} {g : TMs} (hc : C.X.calm = true) (h : EvGs C tgs js g) (hn : (assignEach tgs C.X.env).length = n := by rfl) (hst : (assignEach tgs C.X.env).findIdx? (·.1) = none := by rfl) : EvG C (.Tuple tgs k pos) js (tgSeq n g) := by
  refine ⟨fun pins s σ H v u Q I rv hw => ?_⟩
  obtain ⟨Tm, F, env, t, env', S, r, e, q⟩ := hw
  cases t <;> first | (cases e; done) | skip
  · rename_i ts
    simp only [tgSeq] at e
    split at e
    · rename_i hl
      obtain ⟨p, xs, ev, hq, rl⟩ := rep_tup r
      exact (pg_tup hc h hn hst).run pins s σ H v u Q I rv ⟨p, xs, ev, S.sqT hq, by rw [rl.length]; exact hl, Tm, F, env, ts, env', S, rl, e, q⟩
    · cases e
  · rename_i ts
    simp only [tgSeq] at e
    split at e
    · rename_i hl
      obtain ⟨p, xs, ev, hq, rl⟩ := rep_lst r
      exact (pg_unl hc h hn hst).run pins s σ H v u Q I rv ⟨p, xs, ev, (S.lstAt hq).sq, by rw [rl.length]; exact hl, Tm, F, env, ts, env', S, rl, e, q⟩
    · cases e

/-! ### join -/
def joinT : T → T → Option Rv
  | .str z, .lst ts => (asStrs ts).bind fun ys => if (ys.map (·.length)).sum + ys.length * z.length ≤ 16777216 then some (.fz (.str (Txt.join z ys))) else none
  | .str z, .tup ts => (asStrs ts).bind fun ys => if (ys.map (·.length)).sum + ys.length * z.length ≤ 16777216 then some (.fz (.str (Txt.join z ys))) else none
  | _, _ => none
def joinM (f g : M T) : M Rv := M.bind f fun t => match t with
  | .str z => M.bind g fun u => M.of (joinT (.str z) u)
  | _ => M.no
theorem ev_join {apos : Pos} {f : M T} {g : M T} (h : EvT C a f) (h' : EvT C e g) (hs : starEach [e] C.X.env = [(false, eval e C.X.env)] := by rfl) (hbase : attributeBase a "join" C.X.env (eval a C.X.env) = eval a C.X.env := by rfl) (hline : (apos.endLine == pos.line) = true := by rfl) :
    EvE C (.Call (.Attribute a "join" apos) [e] [] pos) (joinM f g) := by
  refine pe_imp (pe_join h h' hs hbase hline) fun σ H Q ⟨Tm, F, env, S, q⟩ => ⟨Tm, F, env, S, ?_⟩
  refine At.bind (R' := RvR C.G) (Q' := Q) q fun t env1 x F1 H1 le1 S1 r1 q1 => ?_
  cases t <;> first | exact q1.elim | skip
  rename_i z
  refine ⟨⟨z, rep_str r1⟩, Tm, F1, env1, S1, ?_⟩
  refine At.bind (R' := RvR C.G) (Q' := Q) q1 fun u env2 y F2 H2 le2 S2 r2 q2 => of_some q2 fun w hw q3 => ?_
  cases u <;> first | (cases hw; done) | skip
  · obtain ⟨ys, e1, e2⟩ := Option.bind_eq_some_iff.mp hw
    split at e2
    · rename_i hz
      cases e2
      obtain ⟨p, xs, ex, hq, rl⟩ := rep_tup r2
      rw [asStrs_ok e1 rl] at hq
      exact ⟨z, p, ys, rep_str r1, by rw [ex], .inr (S2.sqT hq), hz, q3 _ F2 H2 Le.rfl S2 (mk_str _)⟩
    · cases e2
  · obtain ⟨ys, e1, e2⟩ := Option.bind_eq_some_iff.mp hw
    split at e2
    · rename_i hz
      cases e2
      obtain ⟨p, xs, ex, hq, rl⟩ := rep_lst r2
      rw [asStrs_ok e1 rl] at hq
      exact ⟨z, p, ys, rep_str r1, by rw [ex], .inl (S2.lstAt hq).sq, hz, q3 _ F2 H2 Le.rfl S2 (mk_str _)⟩
    · cases e2

/-! ### repr -/
mutual
theorem plain_nodict : ∀ d : PyData, d.plain = true → d.hasDict = false
  | .none, _ => rfl
  | .bool _, _ => rfl
  | .int _, _ => rfl
  | .str _, _ => rfl
  | .list xs, h => by
    simp only [PyData.hasDict]
    exact plain_nodicts xs (by simpa only [PyData.plain] using h)
  | .tuple xs, h => by
    simp only [PyData.hasDict]
    exact plain_nodicts xs (by simpa only [PyData.plain] using h)
  | .dict _, h => by cases h
theorem plain_nodicts : ∀ xs : List PyData, PyData.plainAll xs = true → PyData.hasDictAll xs = false
  | [], _ => rfl
  | x :: xs, h => by
    have h' : x.plain = true ∧ PyData.plainAll xs = true := by simpa only [PyData.plainAll, Bool.and_eq_true] using h
    simp only [PyData.hasDictAll, plain_nodict x h'.1, plain_nodicts xs h'.2, Bool.or_self]
end
def reprT (t : T) : Option Rv := if (toD t).plain = true ∧ (toD t).showable = true ∧ (toD t).depth ≤ 100 ∧ (toD t).shown.length ≤ sizeLine then some (.fz (.str (toD t).shown)) else none
theorem call_reprD (hg : C.X.A.guards = some []) (hu : Rm C) : CallR C.X (.builtin "repr") (fun xs H Q => ∃ x d, xs = [x] ∧ Dp C.X.K H x d ∧ d.plain = true ∧ d.showable = true ∧ d.depth ≤ 100 ∧ d.shown.length ≤ sizeLine ∧ Q (.str d.shown) H) := by
  intro pins s σ H xs us Q I r h
  obtain ⟨x, d, rfl, hd, hp, hs, hdp, hz, q⟩ := h
  obtain ⟨u, rfl, ru⟩ := vals1 r
  obtain ⟨as, rd⟩ := Dp.reads I d x u hd ru
  have fin : ∀ tk t, EP C.X pins σ Q (.str d.shown t) { s with toks := tk } := fun tk t => ⟨.str _, H, I.tok tk, ⟨t, rfl⟩, q⟩
  cases hd with
  | non =>
    cases ru
    exact PySem.P.repr_of_none (fin _ _)
  | bl b =>
    cases ru
    exact PySem.P.repr_of_bool (fin _ _)
  | int i =>
    obtain ⟨t, rfl⟩ := ru
    exact PySem.P.repr_of_int (by simpa [PyData.showable] using hs) (fin _ _)
  | str z =>
    obtain ⟨t, rfl⟩ := ru
    exact PySem.P.repr_of_str (fin _ _) (by simpa [PyData.shown] using hz)
  | lst h1 h2 =>
    cases ru
    refine PySem.repr_of_reads' rd hs (fun z => absurd z (by rw [plain_nodict _ hp]; exact Bool.false_ne_true)) hg (by have := hu; omega) (fun b o e => e) (fun h' u tk k => ?_) hz
    exact ⟨.str _, H, I.kept k, ⟨u, rfl⟩, q⟩
  | tup h1 h2 =>
    cases ru
    refine PySem.repr_of_reads' rd hs (fun z => absurd z (by rw [plain_nodict _ hp]; exact Bool.false_ne_true)) hg (by have := hu; omega) (fun b o e => e) (fun h' u tk k => ?_) hz
    exact ⟨.str _, H, I.kept k, ⟨u, rfl⟩, q⟩
theorem ok_repr (hg : C.X.A.guards = some []) (hu : Rm C) : Call1Ok C (.builtin "repr") reprT := by
  refine ⟨_, call_reprD hg hu, fun {Tm F H σ env x t w Q} S p hw q => ?_⟩
  unfold reprT at hw
  split at hw
  · rename_i hz
    cases hw
    exact ⟨x, _, rfl, p.dp S hz.1, hz.1, hz.2.1, hz.2.2.1, hz.2.2.2, q _ F H Le.rfl S (mk_str _)⟩
  · cases hw

/-! ### isinstance with a built-in type -/
def tyN : T → Option String
  | .non => some "NoneType"
  | .bl _ => some "bool"
  | .int _ => some "int"
  | .str _ => some "str"
  | .tup _ => some "tuple"
  | .lst _ => some "list"
  | .dK _ => some "dict"
  | _ => none
def subTy : String → String → Option Bool
  | "NoneType", "str" => some false
  | "NoneType", "int" => some false
  | "NoneType", "bool" => some false
  | "NoneType", "tuple" => some false
  | "NoneType", "list" => some false
  | "NoneType", "dict" => some false
  | "bool", "str" => some false
  | "bool", "int" => some true
  | "bool", "bool" => some true
  | "bool", "tuple" => some false
  | "bool", "list" => some false
  | "bool", "dict" => some false
  | "int", "str" => some false
  | "int", "int" => some true
  | "int", "bool" => some false
  | "int", "tuple" => some false
  | "int", "list" => some false
  | "int", "dict" => some false
  | "str", "str" => some true
  | "str", "int" => some false
  | "str", "bool" => some false
  | "str", "tuple" => some false
  | "str", "list" => some false
  | "str", "dict" => some false
  | "tuple", "str" => some false
  | "tuple", "int" => some false
  | "tuple", "bool" => some false
  | "tuple", "tuple" => some true
  | "tuple", "list" => some false
  | "tuple", "dict" => some false
  | "list", "str" => some false
  | "list", "int" => some false
  | "list", "bool" => some false
  | "list", "tuple" => some false
  | "list", "list" => some true
  | "list", "dict" => some false
  | "dict", "str" => some false
  | "dict", "int" => some false
  | "dict", "bool" => some false
  | "dict", "tuple" => some false
  | "dict", "list" => some false
  | "dict", "dict" => some true
  | _, _ => none
theorem subTy_ok {K : PySem.W.Frag} {a b : String} {r : Bool} (h : subTy a b = some r) : PySem.W.kitOne K (.type a) (.type b) = some r := by
  unfold subTy at h
  split at h <;> first | (cases h; exact kit_ty (by decide +kernel)) | cases h
theorem Pk.ty {Tm : Amb} {F H : Hp} {σ : St} {env : Env} (S : Sok C.G Tm F H σ env) {t : T} {x : V} {n : String} (p : Pk C.G F H t x) (h : tyN t = some n) : TyX C.X.K H x (.type n) := by
  cases t <;> first | (cases h; done) | skip
  · cases h
    rw [pk_non p]
    exact .base .non
  · cases h
    rw [pk_bl p]
    exact .base (.bl _)
  · cases h
    rw [pk_int p]
    exact .base (.int _)
  · cases h
    rw [pk_str p]
    exact .base (.str _)
  · cases h
    obtain ⟨q, xs, e, hq, _⟩ := pk_tup S p
    rw [e]
    rcases hq with (hq | ⟨o, hq⟩) | ⟨o, its, m, k1, k2, _⟩
    · exact .base (.tup hq)
    · exact .fTuple hq
    · exact .kTuple k1 k2
  · cases h
    obtain ⟨q, xs, e, hq, _⟩ := pk_lst S p
    rw [e]
    rcases hq with (hq | ⟨o, hq⟩) | ⟨its, m, k1, _⟩
    · exact .base (.lst hq)
    · exact .base (.frz hq)
    · exact .kList k1 rfl
  · cases h
    obtain ⟨q, xs, e, hq, _⟩ := pk_dK S p
    rw [e]
    rcases hq with hq | ⟨_, o, hq⟩
    · exact .base (.dK hq)
    · exact .fDict hq
def isiT (n : String) (t : T) : Option Bool := (tyN t).bind fun a => subTy a n
def isiM (n : String) (f : M Rv) : M T := M.bind f fun r => M.bind (pk r) fun t => M.bind (M.of (isiT n t)) fun b => M.pure (.bl b)
theorem ev_isi {n : Str} {T : String} {p p2 : Pos} {f : M Rv} (h : EvH C a f) (hg : Gl C.X "isinstance") (hm : C.X.mg "isinstance" = none) (hg2 : Gl C.X n) (hm2 : C.X.mg n = none) (hv : bootBuiltins n = some (.type T)) (hn : n ≠ "__name__" := by decide +kernel) (hd : (n == ("__debug__" : Str)) = false := by decide +kernel)
    (he : starEach [a, .Name n p2] C.X.env = (false, eval a C.X.env) :: starEach [.Name n p2] C.X.env := by rfl) (hpl : (backTo pos (starEach [.Name n p2] C.X.env)).any (·.1) = false := by rfl) :
    EvT C (.Call (.Name "isinstance" p) [a, .Name n p2] [] pos) (isiM T f) := by
  refine pe_imp (pe_callB call_isi hg hm PyProof.Rows.boot_isinstance (pa_cons h (pa_cons (pe_bltn (v := .ty T) hg2 hm2 hv rfl hn hd) pa_nil) he) (by decide) (by decide) he hpl) fun σ H Q ⟨Tm, F, env, S, q⟩ => ⟨Tm, F, env, S, ?_⟩
  refine At.bind (R' := TR C.G) (Q' := Q) q fun r env1 x F1 H1 le1 S1 r1 q1 => ?_
  refine pk_bind S1 r1 q1 fun t p1 q2 => ?_
  have q2' : At C (TR C.G) Tm F1 σ Q ((M.of (isiT T t) env1).bind fun b => M.pure (.bl b)) := q2
  cases hi : isiT T t with
  | none =>
    rw [hi] at q2'
    exact q2'.elim
  | some k =>
    rw [hi] at q2'
    obtain ⟨nm, e1, e2⟩ := Option.bind_eq_some_iff.mp hi
    exact ⟨x, .ty T, .type nm, .type T, k, rfl, .ty T, p1.ty S1 e1, subTy_ok e2, q2' _ F1 H1 Le.rfl S1 (mk_bl _)⟩
end
end Ev
/-! Ev9b: names of built-ins. -/
namespace Ev
open PySem PySem.Spec L2
theorem bb_len : bootBuiltins "len" = some (.builtin "len") := by decide +kernel
theorem bb_abs : bootBuiltins "abs" = some (.builtin "abs") := by decide +kernel
theorem bb_sum : bootBuiltins "sum" = some (.builtin "sum") := by decide +kernel
theorem bb_max : bootBuiltins "max" = some (.builtin "max") := by decide +kernel
theorem bb_min : bootBuiltins "min" = some (.builtin "min") := by decide +kernel
theorem bb_all : bootBuiltins "all" = some (.builtin "all") := by decide +kernel
theorem bb_any : bootBuiltins "any" = some (.builtin "any") := by decide +kernel
theorem bb_repr : bootBuiltins "repr" = some (.builtin "repr") := by decide +kernel
theorem bb_int : bootBuiltins "int" = some (.type "int") := by decide +kernel
theorem bb_str : bootBuiltins "str" = some (.type "str") := by decide +kernel
theorem bb_bool : bootBuiltins "bool" = some (.type "bool") := by decide +kernel
theorem bb_list : bootBuiltins "list" = some (.type "list") := by decide +kernel
theorem bb_tuple : bootBuiltins "tuple" = some (.type "tuple") := by decide +kernel
theorem bb_dict : bootBuiltins "dict" = some (.type "dict") := by decide +kernel
theorem bb_set : bootBuiltins "set" = some (.type "set") := by decide +kernel
theorem bb_sorted : bootBuiltins "sorted" = some (.builtin "sorted") := by decide +kernel
/-! ### facts of a def's scope, by one look each -/
def tabB (sc : Scope) (tb : List (Str × NameKind)) : Bool := tb.all fun p => decide (sc.names.lookup p.1 = some p.2)
theorem tab_at {sc : Scope} {tb : List (Str × NameKind)} (h : tabB sc tb = true) {x : Str} {k : NameKind} (i : Nat) (e : tb[i]? = some (x, k) := by rfl) : sc.names.lookup x = some k :=
  of_decide_eq_true (List.all_eq_true.mp h (x, k) (List.mem_of_getElem? e))
end Ev
namespace Ev
open PySem PySem.Spec L2
variable {C : Cy} {pos : Pos}
theorem ev_dct0 : EvE C (.Dict [] [] pos) (M.pure (.ow (.dK []))) := by
  refine pe_imp pe_dnewK fun σ H Q ⟨Tm, F, env, S, q⟩ p np => ?_
  exact q _ F _ Le.rfl (S.alloc np) (RvR.new S np ⟨_, rfl, by simp only [RepK]⟩)
end Ev
/-! Ev10: meanings worked out: by cases, applied. -/
namespace Ev
open PySem PySem.Spec L2
/-! ### applied -/
def SO.seq (o : SO) (g : SM) : SO := match o with
  | .nx e => g e
  | o => o
theorem seqS_ap (f g : SM) (e : Env) : seqS f g e = (f e).seq g := rfl
theorem seq_nx (e : Env) (g : SM) : (SO.nx e).seq g = g e := rfl
theorem seq_rt (r : Rv) (e : Env) (g : SM) : (SO.rt r e).seq g = .rt r e := rfl
theorem nilS_ap (e : Env) : nilS e = .nx e := rfl
def Out.so {α : Type} (o : Out α) (k : α → SM) : SO := match o with
  | .ok a e => k a e
  | .ex c fs e => .ex c fs e
  | .no => .no
theorem exprS_ap {α : Type} (f : M α) (k : α → SM) (e : Env) : exprS f k e = (f e).so k := rfl
theorem so_ok {α : Type} (a : α) (e : Env) (k : α → SM) : (Out.ok a e).so k = k a e := rfl
theorem ifS_ap (c : M Bool) (f g : SM) (e : Env) : ifS c f g e = (c e).so fun b => if b = true then f else g := rfl
theorem so_if (b : Bool) (e : Env) (f g : SM) : (Out.ok b e).so (fun b => if b = true then f else g) = if b = true then f e else g e := by
  cases b <;> rfl
theorem retS_ap (m : M Rv) (e : Env) : retS m e = (m e).so fun r env => .rt r env := rfl
theorem dropS_ap (m : M Rv) (e : Env) : dropS m e = (m e).so fun r env => .nx env := rfl
def opS : Option Env → SO
  | some e => .nx e
  | none => .no
theorem opS_some (e : Env) : opS (some e) = .nx e := rfl
def asK (i : Nat) (r : Rv) : SM := match r with
  | .ow t => fun env => opS (stO i t env)
  | r => exprS (frz r) fun t env => opS (stT i t env)
theorem asgS_ap (i : Nat) (m : M Rv) (e : Env) : asgS i m e = (m e).so (asK i) := by
  unfold asgS exprS Out.so
  cases m e with
  | ok r e1 =>
    cases r <;> simp only [asK, exprS]
    · unfold frz M.pure
      simp only
      cases stT i _ e1 <;> rfl
    · cases stO i _ e1 <;> rfl
    · generalize frz (Rv.bo _) e1 = o
      cases o with
      | ok t e2 =>
        simp only
        cases stT i t e2 <;> rfl
      | ex c fs e2 => rfl
      | no => rfl
  | ex c fs e1 => rfl
  | no => rfl
theorem asK_ow (i : Nat) (t : T) (e : Env) : asK i (.ow t) e = opS (stO i t e) := rfl
theorem asK_fz (i : Nat) (t : T) (e : Env) : asK i (.fz t) e = opS (stT i t e) := rfl
theorem asK_bo (i j : Nat) (e : Env) : asK i (.bo j) e = (frz (.bo j) e).so fun t env => opS (stT i t env) := rfl
theorem asgGS_ap (m : M T) (f : TM) (e : Env) : asgGS m f e = (m e).so fun t env => opS (f t env) := by
  unfold asgGS exprS Out.so
  cases m e with
  | ok t e1 => simp only; cases f t e1 <;> rfl
  | ex c fs e1 => rfl
  | no => rfl
theorem bind_ap {α β : Type} (m : M α) (k : α → M β) (e : Env) : M.bind m k e = (m e).bind k := rfl
theorem obind_ok {α β : Type} (a : α) (e : Env) (k : α → M β) : (Out.ok a e).bind k = k a e := rfl
theorem pure_ap {α : Type} (a : α) (e : Env) : M.pure a e = .ok a e := rfl
theorem of_ap {α : Type} (a : α) (e : Env) : M.of (some a) e = .ok a e := rfl
theorem frzE_ap (f : M Rv) (e : Env) : frzE f e = (f e).bind frz := rfl
theorem hldE_ap (f : M Rv) (e : Env) : hldE f e = (f e).bind hld := rfl
theorem fzE_ap (g : M T) (e : Env) : fzE g e = (g e).bind fun t => M.pure (.fz t) := rfl
theorem frz_fz (t : T) (e : Env) : frz (.fz t) e = .ok t e := rfl
theorem frz_ow (t : T) (e : Env) : frz (.ow t) e = .ok t e := rfl
theorem frz_bo (i : Nat) (e : Env) : frz (.bo i) e = match e[i]? with
  | some (.ow t) => .ok t (e.set i (.fz t))
  | _ => .no := rfl
theorem hld_fz (t : T) (e : Env) : hld (.fz t) e = .ok (.fz t) e := rfl
theorem hld_ow (t : T) (e : Env) : hld (.ow t) e = .ok (.fz t) e := rfl
theorem hld_bo (i : Nat) (e : Env) : hld (.bo i) e = .ok (.bo i) e := rfl
theorem pk_fz (t : T) (e : Env) : pk (.fz t) e = .ok t e := rfl
theorem opM_ap (g : T → T → Option Rv) (f1 f2 : M T) (e : Env) : opM g f1 f2 e = (f1 e).bind fun a => M.bind f2 fun b => M.of (g a b) := rfl
theorem cmpM_ap (g : T → T → Option Bool) (f1 f2 : M Rv) (e : Env) : cmpM g f1 f2 e = (f1 e).bind fun r1 => M.bind f2 fun r2 => M.bind (pk r1) fun t => M.bind (pk r2) fun u => M.of (g t u) := rfl
theorem chainM_ap (g g' : T → T → Option Bool) (f1 f2 f3 : M T) (e : Env) : chainM g g' f1 f2 f3 e = (f1 e).bind fun t => M.bind f2 fun u => M.bind (M.of (g t u)) fun k => if k = true then M.bind f3 fun v => M.of (g' u v) else M.pure false := rfl
theorem notM_ap (f : M Bool) (e : Env) : notM f e = (f e).bind fun b => M.pure (!b) := rfl
theorem andM_ap (f g : M Bool) (e : Env) : andM f g e = (f e).bind fun b => if b = true then g else M.pure false := rfl
theorem orM_ap (f g : M Bool) (e : Env) : orM f g e = (f e).bind fun b => if b = true then M.pure true else g := rfl
theorem ite_ap {α : Type} {c : Prop} [Decidable c] (f g : M α) (e : Env) : (if c then f else g) e = if c then f e else g e := by split <;> rfl
theorem iteS_ap {c : Prop} [Decidable c] (f g : SM) (e : Env) : (if c then f else g) e = if c then f e else g e := by split <;> rfl
def andK (g : M T) : T → M T
  | .bl true => g
  | .bl false => M.pure (.bl false)
  | _ => M.no
theorem truM_ap (f : M Rv) (e : Env) : truM f e = (f e).bind fun r => M.bind (pk r) fun t => M.of (truT t) := rfl
theorem ifM_ap {α : Type} (f : M Bool) (g h : M α) (e : Env) : ifM f g h e = (f e).bind fun b => if b = true then g else h := rfl
theorem consM_ap (f : M T) (g : M (List T)) (e : Env) : consM f g e = (f e).bind fun t => M.bind g fun ts => M.pure (t :: ts) := rfl
theorem lstM_ap (f : M (List T)) (e : Env) : lstM f e = (f e).bind fun ts => if ts.length ≤ sizeLine then M.pure (.ow (.lst ts)) else M.no := rfl
theorem tupM_ap (f : M (List T)) (e : Env) : tupM f e = (f e).bind fun ts => if ts.length ≤ sizeLine then M.pure (.tup ts) else M.no := rfl
theorem callM_ap (g : List T → Option Rv) (f : M (List T)) (e : Env) : callM g f e = (f e).bind fun ts => M.of (g ts) := rfl
theorem call1M_ap (g : T → Option Rv) (f : M Rv) (e : Env) : call1M g f e = (f e).bind fun r => M.bind (pk r) fun t => M.of (g t) := rfl
theorem itemM_ap (f : M Rv) (g : M T) (e : Env) : itemM f g e = (f e).bind fun r => M.bind g fun i => M.bind (pk r) fun t => M.of (itemT t i) := rfl
theorem sliceM_ap (f : M Rv) (g g' : M (Option Int)) (e : Env) : sliceM f g g' e = (f e).bind fun r => M.bind g fun lo => M.bind g' fun hi => M.bind (pk r) fun t => M.of (sliceT t lo hi) := rfl
theorem arCons_ap (f : M T) (g : M (List Ar)) (e : Env) : arCons f g e = (f e).bind fun t => M.bind g fun as => M.pure (.fz t :: as) := rfl
theorem endM_ap (f : M T) (e : Env) : endM f e = (f e).bind fun t => match t with
  | .int i => M.pure (some i)
  | _ => M.no := rfl
/-! ### calls -/
theorem inE_fzs {env : Env} : ∀ ts : List T, inE env (ts.map Ar.fz) = some (ts.map Sl.fz)
  | [] => rfl
  | t :: ts => by rw [List.map_cons, inE, inE_fzs ts]; rfl
theorem iosOf_fz : ∀ ts : List T, iosOf (ts.map Ar.fz) = []
  | [] => rfl
  | t :: ts => by rw [List.map_cons, iosOf, iosOf_fz ts]
theorem allIo_fz {ce : Env} : ∀ (ts : List T) (p : Nat), allIo ce p (ts.map Ar.fz) = true
  | [], _ => rfl
  | t :: ts, p => by rw [List.map_cons, allIo, allIo_fz ts]
theorem idx_fz (i : Nat) : ∀ ts : List T, (ts.map Ar.fz).findIdx? (isIo i) = none
  | [] => rfl
  | t :: ts => by rw [List.map_cons, List.findIdx?_cons]; simp [isIo, idx_fz i ts]
theorem outE_fz {ts : List T} {ce : Env} : ∀ (env : Env) (i : Nat), outE (ts.map Ar.fz) ce i env = env
  | [], _ => rfl
  | s :: r, i => by
    rw [outE, outE_fz r]
    unfold newS
    rw [idx_fz i ts]
/-- a call whose arguments are all frozen -/
theorem call_fz {d : SM} {m n : Nat} {ts : List T} {env ce : Env} {t : T} (hl : ts.length = n) (h : d (ts.map Sl.fz ++ List.replicate (m - n) .un) = .rt (.fz t) ce) :
    callA n d m (ts.map Ar.fz) env = .ok (.fz t) env := by
  unfold callA callD
  rw [List.length_map, if_pos hl, inE_fzs, iosOf_fz, hl]
  simp only [h, allIo_fz, outE_fz, if_true, List.nodup_nil]
theorem call_ow {d : SM} {m n : Nat} {ts : List T} {env ce : Env} {t : T} (hl : ts.length = n) (h : d (ts.map Sl.fz ++ List.replicate (m - n) .un) = .rt (.ow t) ce) :
    callA n d m (ts.map Ar.fz) env = .ok (.ow t) env := by
  unfold callA callD
  rw [List.length_map, if_pos hl, inE_fzs, iosOf_fz, hl]
  simp only [h, allIo_fz, outE_fz, if_true, List.nodup_nil]
/-- the slot behind a change in place -/
def putSl (s : Sl) (t : T) : Sl := match s with
  | .ow _ => .ow t
  | .io _ => .io t
  | s => s
theorem outE_io {i : Nat} {ts : List T} {t : T} {ce : Env} (hc : ce[0]? = some (.io t)) : ∀ (env : Env) (k : Nat), outE (.io i :: ts.map Ar.fz) ce k env = if k ≤ i then (match env[i - k]? with
    | some s => env.set (i - k) (putSl s t)
    | none => env) else env
  | [], k => by simp [outE]
  | s :: r, k => by
    rw [outE, outE_io hc r]
    have hn : newS (.io i :: ts.map Ar.fz) ce k s = if i = k then putSl s t else s := by
      unfold newS
      rw [List.findIdx?_cons]
      by_cases e : i = k
      · subst e
        simp only [isIo, beq_self_eq_true, if_true, hc]
        cases s <;> rfl
      · simp only [isIo, beq_eq_false_iff_ne.mpr e, Bool.false_eq_true, if_false, idx_fz, Option.map_none, if_neg e]
    rw [hn]
    by_cases e : i = k
    · subst e
      rw [if_neg (by omega : ¬ i + 1 ≤ i), if_pos rfl, if_pos (Nat.le_refl i), Nat.sub_self]
      rfl
    · by_cases h : k ≤ i
      · have h1 : k + 1 ≤ i := by omega
        obtain ⟨j, hj⟩ : ∃ j, i - k = j + 1 := ⟨i - k - 1, by omega⟩
        have hj2 : i - (k + 1) = j := by omega
        simp only [if_neg e, if_pos h, if_pos h1, hj, hj2, List.getElem?_cons_succ, List.set_cons_succ]
        cases r[j]? <;> rfl
      · simp only [if_neg e, if_neg h, if_neg (by omega : ¬ k + 1 ≤ i)]
/-- a call that changes its first argument in place -/
theorem call_io {d : SM} {m n i : Nat} {ts : List T} {env ce : Env} {t u : T} {r : T} {s : Sl} (hl : ts.length + 1 = n) (hi : env[i]? = some s) (ho : ownT s = some t) (h : d (.io t :: ts.map Sl.fz ++ List.replicate (m - n) .un) = .rt (.fz r) ce) (hc : ce[0]? = some (.io u)) :
    callA n d m (.io i :: ts.map Ar.fz) env = .ok (.fz r) (env.set i (putSl s u)) := by
  unfold callA callD
  have hin : inE env (.io i :: ts.map Ar.fz) = some (.io t :: ts.map Sl.fz) := by
    rw [inE, hi, inE_fzs]
    show (Option.bind (ownT s) fun t => some (.io t :: ts.map Sl.fz)) = _
    rw [ho]; rfl
  have hn : (iosOf (.io i :: ts.map Ar.fz)).Nodup := by rw [iosOf, iosOf_fz]; simp
  have ha : allIo ce 0 (.io i :: ts.map Ar.fz) = true := by
    rw [allIo, hc, allIo_fz]; rfl
  have hk : (Ar.io i :: ts.map Ar.fz).length = n := by simp [hl]
  rw [if_pos hk, hin]
  simp only [hk]
  rw [if_pos hn]
  have h' : d ((Sl.io t :: List.map Sl.fz ts) ++ List.replicate (m - n) Sl.un) = SO.rt (Rv.fz r) ce := h
  rw [h']
  simp only [ha, if_true]
  rw [outE_io hc, if_pos (Nat.zero_le _), Nat.sub_zero, hi]
theorem call_ioO {d : SM} {m n i : Nat} {ts : List T} {env ce : Env} {t u : T} {r : T} {s : Sl} (hl : ts.length + 1 = n) (hi : env[i]? = some s) (ho : ownT s = some t) (h : d (.io t :: ts.map Sl.fz ++ List.replicate (m - n) .un) = .rt (.ow r) ce) (hc : ce[0]? = some (.io u)) :
    callA n d m (.io i :: ts.map Ar.fz) env = .ok (.ow r) (env.set i (putSl s u)) := by
  unfold callA callD
  have hin : inE env (.io i :: ts.map Ar.fz) = some (.io t :: ts.map Sl.fz) := by
    rw [inE, hi, inE_fzs]
    show (Option.bind (ownT s) fun t => some (.io t :: ts.map Sl.fz)) = _
    rw [ho]; rfl
  have hn : (iosOf (.io i :: ts.map Ar.fz)).Nodup := by rw [iosOf, iosOf_fz]; simp
  have ha : allIo ce 0 (.io i :: ts.map Ar.fz) = true := by
    rw [allIo, hc, allIo_fz]; rfl
  have hk : (Ar.io i :: ts.map Ar.fz).length = n := by simp [hl]
  rw [if_pos hk, hin]
  simp only [hk]
  rw [if_pos hn]
  have h' : d ((Sl.io t :: List.map Sl.fz ts) ++ List.replicate (m - n) Sl.un) = SO.rt (Rv.ow r) ce := h
  rw [h']
  simp only [ha, if_true]
  rw [outE_io hc, if_pos (Nat.zero_le _), Nat.sub_zero, hi]
end Ev
/-! Ev11: the draws that all laws share. -/
namespace Ev
open PySem PySem.Spec L2
def pl (p : Int × Int) : T := .lst [.int p.1, .int p.2]
def nxt (b : Int) : Int := (b * 48271 + 11) % 2147483647
def dr (n : Int) (p : Int × Int) : Int × (Int × Int) :=
  if 0 < p.1 then (p.1 % n, (p.1 / n, p.2)) else ((nxt p.2 * nxt p.2) % 2147483629 / 16 % n, (p.1, nxt p.2))
theorem dr_lt {n : Int} (h : 0 < n) (p : Int × Int) : 0 ≤ (dr n p).1 ∧ (dr n p).1 < n := by
  unfold dr
  split
  · exact ⟨Int.emod_nonneg _ (by omega), Int.emod_lt_of_pos _ h⟩
  · exact ⟨Int.emod_nonneg _ (by omega), Int.emod_lt_of_pos _ h⟩
def drawD : SM := (seqS (ifS (cmpM gtT (hldE (itemM (hldE (rdS 0)) (M.pure (.int 0)))) (hldE (fzE (M.pure (.int 0))))) (seqS (asgS 2 (opM modT (frzE (call1M intT (hldE (itemM (hldE (rdS 0)) (M.pure (.int 0)))))) (frzE (rdS 1))))
  (seqS (setS (frzE (opM fdivT (frzE (itemM (hldE (rdS 0)) (M.pure (.int 0)))) (frzE (rdS 1)))) (rdS 0) (M.pure (.int 0)))
  (retS (rdS 2)))) nilS)
  (seqS (setS (frzE (opM modT (frzE (call1M intT (hldE (opM addT (frzE (opM mulT (frzE (itemM (hldE (rdS 0)) (M.pure (.int 1)))) (M.pure (.int 48271)))) (M.pure (.int 11)))))) (M.pure (.int 2147483647)))) (rdS 0) (M.pure (.int 1)))
  (retS (opM modT (frzE (call1M intT (hldE (opM fdivT (frzE (opM modT (frzE (opM mulT (frzE (itemM (hldE (rdS 0)) (M.pure (.int 1)))) (frzE (itemM (hldE (rdS 0)) (M.pure (.int 1)))))) (M.pure (.int 2147483629)))) (M.pure (.int 16)))))) (frzE (rdS 1))))))
def pickD : SM := (retS (itemM (hldE (rdS 1)) (frzE (M.bind (arIo (rdS 0) (arCons (frzE (call1M lenT (hldE (rdS 1)))) (M.pure []))) fun as => callA 2 drawD 3 (as ++ List.map Ar.fz [])))))
theorem setS_io {m : M T} {f : M Rv} {g : M T} {e : Env} {v i t t' : T} {j : Nat} {e1 : Env} (hm : m e = .ok v e) (hf : f e = .ok (.bo j) e) (hg : g e = .ok i e) (hj : e[j]? = some (.io t)) (hs : setT t i v = some t') (hc : chO j t' e = some e1) : setS m f g e = .nx e1 := by
  unfold setS exprS
  simp only [hm, hf, hg, hj, hs, Option.bind_some, hc]
theorem at0 (a b : T) : L2.atI [a, b] 0 = some a := rfl
theorem at1 (a b : T) : L2.atI [a, b] 1 = some b := rfl
theorem ixN20 : L2.ixN 2 0 = some 0 := rfl
theorem ixN21 : L2.ixN 2 1 = some 1 := rfl
theorem draw_ok (p : Int × Int) {n : Int} (h : 0 < n) (h2 : n < 2 ^ 64) : ∃ z, drawD [.io (pl p), .fz (.int n), .un] = .rt (.fz (.int (dr n p).1)) [.io (pl (dr n p).2), .fz (.int n), z] := by
  obtain ⟨a, b⟩ := p
  by_cases ha : 0 < a
  · refine ⟨.fz (.int (a % n)), ?_⟩
    simp only [drawD, seqS_ap, seq_nx, seq_rt, nilS_ap, exprS_ap, so_ok, ifS_ap, so_if, retS_ap, dropS_ap, opS_some, asgS_ap, asK_ow, asK_fz, asK_bo, asgGS_ap, bind_ap, obind_ok, pure_ap, of_ap, frzE_ap, hldE_ap, fzE_ap, frz_fz, frz_ow, frz_bo, hld_fz, hld_ow, hld_bo, pk_fz, opM_ap, cmpM_ap, chainM_ap, notM_ap, andM_ap, orM_ap, ite_ap, iteS_ap, truM_ap, ifM_ap, consM_ap, lstM_ap, tupM_ap, callM_ap, call1M_ap, itemM_ap, sliceM_ap, arCons_ap, endM_ap, rdS, pk, stT, stO, chO, List.getElem?_cons_zero, List.getElem?_cons_succ, List.set_cons_zero, List.set_cons_succ, setS, pl, dr, itemT, at0, at1, Option.map_some, gtT, decide_eq_true ha, modT, fdivT, intT, if_pos h, if_pos ha, if_pos (And.intro h h2), setT, ixN20, ixN21, List.length_cons, List.length_nil, Nat.zero_add, Nat.reduceAdd, Option.bind_some, if_true]
  · have hb : 0 ≤ nxt b := Int.emod_nonneg _ (by decide)
    have hb2 : nxt b < 2147483647 := Int.emod_lt_of_pos _ (by decide)
    have e1 : (if -(2 ^ 64) < b ∧ b < 2 ^ 64 ∨ -(2 ^ 64) < (48271 : Int) ∧ (48271 : Int) < 2 ^ 64 then some (Rv.fz (.int (b * 48271))) else none) = some (.fz (.int (b * 48271))) := if_pos (.inr ⟨by decide, by decide⟩)
    have e2 : (if -(2 ^ 64) < nxt b ∧ nxt b < 2 ^ 64 ∨ -(2 ^ 64) < nxt b ∧ nxt b < 2 ^ 64 then some (Rv.fz (.int (nxt b * nxt b))) else none) = some (.fz (.int (nxt b * nxt b))) := if_pos (.inr ⟨by omega, by omega⟩)
    have e3 : (b * 48271 + 11) % 2147483647 = nxt b := rfl
    refine ⟨.un, ?_⟩
    simp only [drawD, seqS_ap, seq_nx, seq_rt, nilS_ap, exprS_ap, so_ok, ifS_ap, so_if, retS_ap, dropS_ap, opS_some, asgS_ap, asK_ow, asK_fz, asK_bo, asgGS_ap, bind_ap, obind_ok, pure_ap, of_ap, frzE_ap, hldE_ap, fzE_ap, frz_fz, frz_ow, frz_bo, hld_fz, hld_ow, hld_bo, pk_fz, opM_ap, cmpM_ap, chainM_ap, notM_ap, andM_ap, orM_ap, ite_ap, iteS_ap, truM_ap, ifM_ap, consM_ap, lstM_ap, tupM_ap, callM_ap, call1M_ap, itemM_ap, sliceM_ap, arCons_ap, endM_ap, rdS, pk, stT, stO, chO, List.getElem?_cons_zero, List.getElem?_cons_succ, List.set_cons_zero, List.set_cons_succ, setS, pl, dr, itemT, at0, at1, Option.map_some, gtT, decide_eq_false ha, modT, fdivT, intT, mulT, addT, e1, if_pos h, if_neg ha, setT, ixN20, ixN21, List.length_cons, List.length_nil, Nat.zero_add, Nat.reduceAdd, Option.bind_some, if_true, Bool.false_eq_true, if_false, (by decide : (0 : Int) < 2147483647), (by decide : (0 : Int) < 2147483629), (by decide : (0 : Int) < 16 ∧ (16 : Int) < 2 ^ 64), e3, e2, and_self]
end Ev
/-! Ev12: pools, picks. -/
namespace Ev
open PySem PySem.Spec L2
def poolD : SM := (seqS (asgS 2 (opM addT (frzE (opM mulT (M.pure (.int 7)) (frzE (call1M sumT (hldE (sliceM (hldE (rdS 0)) (M.pure none) (endM (M.pure (.int 63))))))))) (frzE (rdS 1))))
  (seqS (ifS (cmpM ltT (hldE (rdS 1)) (hldE (call1M lenT (hldE (rdS 0))))) (asgS 2 (itemM (hldE (rdS 0)) (frzE (rdS 1)))) nilS)
  (seqS (asgS 3 (call1M absT (hldE (rdS 2))))
  (seqS (asgS 4 (opM addT (frzE (opM addT (frzE (opM addT (frzE (opM modT (frzE (call1M intT (hldE (rdS 3)))) (M.pure (.int 2147483629)))) (frzE (opM mulT (frzE (opM mulT (M.pure (.int 7919)) (frzE (rdS 1)))) (frzE (rdS 1)))))) (frzE (opM mulT (M.pure (.int 31)) (frzE (rdS 1)))))) (M.pure (.int 17))))
  (seqS (asgS 4 (opM modT (frzE (call1M intT (hldE (opM mulT (frzE (rdS 4)) (M.pure (.int 48271)))))) (M.pure (.int 2147483647))))
  (retS (lstM (consM (frzE (opM mulT (frzE (rdS 3)) (frzE (call1M intT (hldE (fzE (M.bind (cmpM geT (hldE (rdS 3)) (hldE (opM powT (M.pure (.int 10)) (M.pure (.int 18))))) fun w => M.pure (.bl w)))))))) (consM (frzE (opM modT (frzE (call1M intT (hldE (opM mulT (frzE (rdS 4)) (frzE (rdS 4)))))) (M.pure (.int 2147483629)))) (M.pure []))))))))))
theorem mul_l {i : Int} (j : Int) (h : -(2 ^ 64) < i) (h2 : i < 2 ^ 64) : mulT (.int i) (.int j) = some (.fz (.int (i * j))) := if_pos (.inl ⟨h, h2⟩)
theorem mul_r (i : Int) {j : Int} (h : -(2 ^ 64) < j) (h2 : j < 2 ^ 64) : mulT (.int i) (.int j) = some (.fz (.int (i * j))) := if_pos (.inr ⟨h, h2⟩)
theorem mod_n (i : Int) {j : Int} (h : 0 < j) : modT (.int i) (.int j) = some (.fz (.int (i % j))) := if_pos h
theorem add_n (i j : Int) : addT (.int i) (.int j) = some (.fz (.int (i + j))) := rfl
theorem asInts_map : ∀ ns : List Int, asInts (ns.map T.int) = some ns
  | [] => rfl
  | n :: ns => by rw [List.map_cons, asInts, asInts_map ns]; rfl
theorem cutL_map (f : Int → T) (ns : List Int) (lo hi : Option Int) : ∃ ms : List Int, cutL (ns.map f) lo hi = ms.map f := ⟨_, by unfold cutL; rw [← List.map_drop, ← List.map_take]⟩
theorem atI_map (ns : List Int) {k : Int} (h : 0 ≤ k) (h2 : k < ns.length) : ∃ n, L2.atI (ns.map T.int) k = some (.int n) := by
  unfold L2.atI L2.ixN
  rw [List.length_map, if_pos h, if_pos h2]
  refine ⟨ns[k.toNat]'(by omega), ?_⟩
  simp only [Option.bind_some, List.getElem?_map]
  rw [List.getElem?_eq_getElem (by omega)]
  rfl
theorem pool_ok {ns : List Int} {k : Int} (hk : 0 ≤ k) (hk2 : k < 2 ^ 62) : ∃ p ce, poolD [.fz (scr ns), .fz (.int k), .un, .un, .un] = .rt (.ow (pl p)) ce := by
  obtain ⟨ms, hm⟩ := cutL_map T.int ns none (some 63)
  have hsum : sumT (.lst (ms.map T.int)) = some (.fz (.int ms.sum)) := by show Option.map _ (asInts _) = _; rw [asInts_map]; rfl
  have e1 := mul_l (i := 7) ms.sum (by decide) (by decide)
  have e2 := mul_l (i := 7919) k (by decide) (by decide)
  have e3 := mul_r (7919 * k) (j := k) (by omega) (by omega)
  have e4 := mul_l (i := 31) k (by decide) (by decide)
  have e5 : ∀ x : Int, mulT (.int x) (.int 48271) = some (.fz (.int (x * 48271))) := fun x => mul_r x (by decide) (by decide)
  have e6 : ∀ x : Int, modT (.int x) (.int 2147483629) = some (.fz (.int (x % 2147483629))) := fun x => mod_n x (by decide)
  have e7 : ∀ x : Int, modT (.int x) (.int 2147483647) = some (.fz (.int (x % 2147483647))) := fun x => mod_n x (by decide)
  have e8 : ∀ x : Int, mulT (.int (x % 2147483647)) (.int (x % 2147483647)) = some (.fz (.int (x % 2147483647 * (x % 2147483647)))) := fun x => by
    have h1 : 0 ≤ x % 2147483647 := Int.emod_nonneg _ (by decide)
    have h2 : x % 2147483647 < 2147483647 := Int.emod_lt_of_pos _ (by decide)
    exact mul_l _ (by omega) (by omega)
  have e9 : ∀ (x : Int) (b : Bool), mulT (.int x) (.int (if b = true then 1 else 0)) = some (.fz (.int (x * if b = true then 1 else 0))) := fun x b => mul_r x (by cases b <;> decide) (by cases b <;> decide)
  have e10 : powT (.int 10) (.int 18) = some (.fz (.int (10 ^ 18))) := rfl
  have e11 : ∀ a b : T, (if [a, b].length ≤ sizeLine then (M.pure (.ow (.lst [a, b])) : M Rv) else M.no) = M.pure (.ow (.lst [a, b])) := fun a b => if_pos (by rw [List.length_cons, List.length_cons, List.length_nil]; decide)
  have e12 : ∀ (a b : T) (e : Env), (if [a, b].length ≤ sizeLine then (M.pure (.ow (.lst [a, b])) : M Rv) e else M.no e) = .ok (.ow (.lst [a, b])) e := fun a b e => if_pos (by rw [List.length_cons, List.length_cons, List.length_nil]; decide)
  by_cases h : k < ns.length
  · obtain ⟨n, hn⟩ := atI_map ns hk h
    simp only [poolD, seqS_ap, seq_nx, seq_rt, nilS_ap, exprS_ap, so_ok, ifS_ap, so_if, retS_ap, dropS_ap, opS_some, asgS_ap, asK_ow, asK_fz, asK_bo, asgGS_ap, bind_ap, obind_ok, pure_ap, of_ap, frzE_ap, hldE_ap, fzE_ap, frz_fz, frz_ow, frz_bo, hld_fz, hld_ow, hld_bo, pk_fz, opM_ap, cmpM_ap, chainM_ap, notM_ap, andM_ap, orM_ap, ite_ap, iteS_ap, truM_ap, ifM_ap, consM_ap, lstM_ap, tupM_ap, callM_ap, call1M_ap, itemM_ap, sliceM_ap, arCons_ap, endM_ap, rdS, pk, stT, stO, chO, List.getElem?_cons_zero, List.getElem?_cons_succ, List.set_cons_zero, List.set_cons_succ, scr, sliceT, hm, hsum, e1, add_n, lenT, List.length_map, ltT, decide_eq_true h, if_true, itemT, hn, Option.map_some, absT, intT, e6, e2, e3, e4, e5, e7, e8, geT, e10, e9, e11, pl]
    exact ⟨(_, _), _, rfl⟩
  · simp only [poolD, seqS_ap, seq_nx, seq_rt, nilS_ap, exprS_ap, so_ok, ifS_ap, so_if, retS_ap, dropS_ap, opS_some, asgS_ap, asK_ow, asK_fz, asK_bo, asgGS_ap, bind_ap, obind_ok, pure_ap, of_ap, frzE_ap, hldE_ap, fzE_ap, frz_fz, frz_ow, frz_bo, hld_fz, hld_ow, hld_bo, pk_fz, opM_ap, cmpM_ap, chainM_ap, notM_ap, andM_ap, orM_ap, ite_ap, iteS_ap, truM_ap, ifM_ap, consM_ap, lstM_ap, tupM_ap, callM_ap, call1M_ap, itemM_ap, sliceM_ap, arCons_ap, endM_ap, rdS, pk, stT, stO, chO, List.getElem?_cons_zero, List.getElem?_cons_succ, List.set_cons_zero, List.set_cons_succ, scr, sliceT, hm, hsum, e1, add_n, lenT, List.length_map, ltT, decide_eq_false h, Bool.false_eq_true, if_false, itemT, Option.map_some, absT, intT, e6, e2, e3, e4, e5, e7, e8, geT, e10, e9, e11, pl]
    exact ⟨(_, _), _, rfl⟩
theorem draw0 {p : Int × Int} {n : Int} {r : Env} (h : 0 < n) (h2 : n < 2 ^ 64) : callA 2 drawD 3 [.io 0, .fz (.int n)] (.io (pl p) :: r) = .ok (.fz (.int (dr n p).1)) (.io (pl (dr n p).2) :: r) := by
  obtain ⟨z, hz⟩ := draw_ok p h h2
  exact call_io (d := drawD) (m := 3) (n := 2) (i := 0) (ts := [.int n]) (env := .io (pl p) :: r) (s := .io (pl p)) (t := pl p) (u := pl (dr n p).2) (ce := [.io (pl (dr n p).2), .fz (.int n), z]) rfl rfl rfl hz rfl
theorem arIo_ap (f : M Rv) (g : M (List Ar)) (e : Env) : arIo f g e = (f e).bind fun r => match r with
  | .bo i => M.bind g fun as => M.pure (.io i :: as)
  | _ => M.no := rfl
theorem atI_some {α : Type} {xs : List α} {i : Int} (h : 0 ≤ i) (h2 : i < xs.length) : ∃ x, x ∈ xs ∧ L2.atI xs i = some x := by
  unfold L2.atI L2.ixN
  rw [if_pos h, if_pos h2]
  refine ⟨xs[i.toNat]'(by omega), List.getElem_mem _, ?_⟩
  simp only [Option.bind_some]
  rw [List.getElem?_eq_getElem (by omega)]
theorem compL_step {tg : TM} {tt : M Bool} {elt : M T} {vs : List Nat} {t v : T} {ts us : List T} {e0 e1 e2 e3 e4 : Env} (ok : okE e0 vs = true) (st : tg t (unE vs e0) = some e1) (ht : tt e1 = .ok true e2) (el : elt e2 = .ok v e3) (ih : compL tg tt elt vs ts (asE e0 vs e3) = .ok us e4) :
    compL tg tt elt vs (t :: ts) e0 = .ok (v :: us) e4 := by
  simp only [compL, ok, st, ht, el, ih]
theorem pick_str (p : Int × Int) (s : Str) (h : 0 < s.length) (h2 : s.length ≤ sizeLine) : ∃ c, c ∈ s.cps.toList ∧ pickD [.io (pl p), .fz (.str s)] = .rt (.fz (.str ⟨#[c]⟩)) [.io (pl (dr s.length p).2), .fz (.str s)] := by
  have hn : (0 : Int) < (s.length : Int) := by omega
  have hs : sizeLine = 16777216 := rfl
  have hn2 : (s.length : Int) < 2 ^ 64 := by omega
  obtain ⟨l1, l2⟩ := dr_lt hn p
  obtain ⟨c, hc, ec⟩ := atI_some (xs := s.cps.toList) l1 (by simpa [Str.length] using l2)
  refine ⟨c, hc, ?_⟩
  simp only [pickD, seqS_ap, seq_nx, seq_rt, nilS_ap, exprS_ap, so_ok, ifS_ap, so_if, retS_ap, dropS_ap, opS_some, asgS_ap, asK_ow, asK_fz, asK_bo, asgGS_ap, bind_ap, obind_ok, pure_ap, of_ap, frzE_ap, hldE_ap, fzE_ap, frz_fz, frz_ow, frz_bo, hld_fz, hld_ow, hld_bo, pk_fz, opM_ap, cmpM_ap, chainM_ap, notM_ap, andM_ap, orM_ap, ite_ap, iteS_ap, truM_ap, ifM_ap, consM_ap, lstM_ap, tupM_ap, callM_ap, call1M_ap, itemM_ap, sliceM_ap, arCons_ap, endM_ap, rdS, pk, stT, stO, chO, List.getElem?_cons_zero, List.getElem?_cons_succ, List.set_cons_zero, List.set_cons_succ, arIo_ap, lenT, if_pos h2, List.map_nil, List.append_nil, draw0 hn hn2, itemT, ec, Option.map_some]
theorem pick_lst (p : Int × Int) (ts : List T) (h : 0 < ts.length) (h2 : ts.length < 2 ^ 64) : ∃ t, t ∈ ts ∧ pickD [.io (pl p), .fz (.lst ts)] = .rt (.fz t) [.io (pl (dr ts.length p).2), .fz (.lst ts)] := by
  have hn : (0 : Int) < (ts.length : Int) := by omega
  have hn2 : (ts.length : Int) < 2 ^ 64 := by omega
  obtain ⟨l1, l2⟩ := dr_lt hn p
  obtain ⟨c, hc, ec⟩ := atI_some (xs := ts) l1 l2
  refine ⟨c, hc, ?_⟩
  simp only [pickD, seqS_ap, seq_nx, seq_rt, nilS_ap, exprS_ap, so_ok, ifS_ap, so_if, retS_ap, dropS_ap, opS_some, asgS_ap, asK_ow, asK_fz, asK_bo, asgGS_ap, bind_ap, obind_ok, pure_ap, of_ap, frzE_ap, hldE_ap, fzE_ap, frz_fz, frz_ow, frz_bo, hld_fz, hld_ow, hld_bo, pk_fz, opM_ap, cmpM_ap, chainM_ap, notM_ap, andM_ap, orM_ap, ite_ap, iteS_ap, truM_ap, ifM_ap, consM_ap, lstM_ap, tupM_ap, callM_ap, call1M_ap, itemM_ap, sliceM_ap, arCons_ap, endM_ap, rdS, pk, stT, stO, chO, List.getElem?_cons_zero, List.getElem?_cons_succ, List.set_cons_zero, List.set_cons_succ, arIo_ap, lenT, List.map_nil, List.append_nil, draw0 hn hn2, itemT, ec, Option.map_some]
theorem pick0s (p : Int × Int) (s : Str) (h : 0 < s.length) (h2 : s.length ≤ sizeLine) : ∃ c p', c ∈ s.cps.toList ∧ ∀ r : Env, callA 2 pickD 2 [.io 0, .fz (.str s)] (.io (pl p) :: r) = .ok (.fz (.str ⟨#[c]⟩)) (.io (pl p') :: r) := by
  obtain ⟨c, hc, e⟩ := pick_str p s h h2
  exact ⟨c, _, hc, fun r => call_io (d := pickD) (m := 2) (n := 2) (i := 0) (ts := [.str s]) (env := .io (pl p) :: r) (s := .io (pl p)) (t := pl p) (u := pl (dr s.length p).2) (ce := [.io (pl (dr s.length p).2), .fz (.str s)]) rfl rfl rfl e rfl⟩
theorem pick0l (p : Int × Int) (ts : List T) (h : 0 < ts.length) (h2 : ts.length < 2 ^ 64) : ∃ t p', t ∈ ts ∧ ∀ r : Env, callA 2 pickD 2 [.io 0, .fz (.lst ts)] (.io (pl p) :: r) = .ok (.fz t) (.io (pl p') :: r) := by
  obtain ⟨t, ht, e⟩ := pick_lst p ts h h2
  exact ⟨t, _, ht, fun r => call_io (d := pickD) (m := 2) (n := 2) (i := 0) (ts := [.lst ts]) (env := .io (pl p) :: r) (s := .io (pl p)) (t := pl p) (u := pl (dr ts.length p).2) (ce := [.io (pl (dr ts.length p).2), .fz (.lst ts)]) rfl rfl rfl e rfl⟩
end Ev
/-! Ev13: own classes: fields, their store, methods, instances made. -/
namespace Ev
open PySem PySem.Spec L2
theorem rep_ins {G : Gr} {F : Hp} {c : Nat} {fs : List (Str × T)} {x : V} (h : Rep G F (.ins c fs) x) : ∃ a dx vs, x = .ref a ∧ F a = some (.ins (G.ca c) dx vs) ∧ RepF G F fs vs := by simpa only [Rep] using h
section
variable {G : Gr} {F : Hp}
theorem RepF.nil : RepF G F [] [] := by simp only [RepF]
theorem RepF.cons {k : Str} {t : T} {ts : List (Str × T)} {x : V} {xs : List (Str × V)} (h : Rep G F t x) (r : RepF G F ts xs) : RepF G F ((k, t) :: ts) ((k, x) :: xs) := by simp only [RepF]; exact ⟨x, xs, rfl, h, r⟩
theorem RepF.uncons {k : Str} {t : T} {ts : List (Str × T)} {xs : List (Str × V)} (h : RepF G F ((k, t) :: ts) xs) : ∃ x r, xs = (k, x) :: r ∧ Rep G F t x ∧ RepF G F ts r := by simpa only [RepF] using h
theorem RepF.unnil {xs : List (Str × V)} (h : RepF G F [] xs) : xs = [] := by simpa only [RepF] using h
theorem RepF.length : ∀ {ts : List (Str × T)} {xs : List (Str × V)}, RepF G F ts xs → xs.length = ts.length
  | [], xs, h => by rw [h.unnil]; rfl
  | (k, t) :: ts, xs, h => by
    obtain ⟨x, r, e, _, q⟩ := h.uncons
    subst e
    simp [RepF.length q]
theorem RepF.lookup {f : Str} : ∀ {ts : List (Str × T)} {xs : List (Str × V)} {t : T}, RepF G F ts xs → ts.lookup f = some t → ∃ x, xs.lookup f = some x ∧ Rep G F t x
  | [], xs, t, h, e => by cases e
  | (k, u) :: ts, xs, t, h, e => by
    obtain ⟨x, r, e1, h1, h2⟩ := h.uncons
    subst e1
    rw [List.lookup_cons] at e ⊢
    cases hk : f == k with
    | true =>
      rw [hk] at e
      cases e
      exact ⟨x, rfl, h1⟩
    | false =>
      rw [hk] at e
      exact RepF.lookup h2 e
theorem RepF.lookN {f : Str} : ∀ {ts : List (Str × T)} {xs : List (Str × V)}, RepF G F ts xs → ts.lookup f = none → xs.lookup f = none
  | [], xs, h, e => by rw [h.unnil]; rfl
  | (k, u) :: ts, xs, h, e => by
    obtain ⟨x, r, e1, h1, h2⟩ := h.uncons
    subst e1
    rw [List.lookup_cons] at e ⊢
    cases hk : f == k with
    | true =>
      rw [hk] at e
      cases e
    | false =>
      rw [hk] at e
      exact RepF.lookN h2 e
def putT (f : Str) (v : T) : List (Str × T) → List (Str × T)
  | [] => [(f, v)]
  | (g, x) :: r => if g = f then (g, v) :: r else (g, x) :: putT f v r
theorem RepF.put {f : Str} {v : T} {y : V} (hv : Rep G F v y) : ∀ {ts : List (Str × T)} {xs : List (Str × V)}, RepF G F ts xs → RepF G F (putT f v ts) (putF f y xs)
  | [], xs, h => by rw [h.unnil]; exact .cons hv .nil
  | (k, t) :: ts, xs, h => by
    obtain ⟨x, r, e, h1, h2⟩ := h.uncons
    subst e
    unfold putT putF
    by_cases hk : k = f
    · rw [if_pos hk, if_pos hk]; exact .cons hv h2
    · rw [if_neg hk, if_neg hk]; exact .cons h1 (RepF.put hv h2)
end
section
variable {C : Cy} {pos pos' : Pos} {f : Str}
/-- a field of an own instance: of one of the classes cs -/
def attrT (cs : List Nat) (f : Str) : T → Option T
  | .ins c fs => if c ∈ cs then fs.lookup f else none
  | _ => none
def attrM (cs : List Nat) (f : Str) (m : M Rv) : M T := M.bind m fun r => M.bind (pk r) fun t => M.of (attrT cs f t)
/-- classes whose instances have the field, plainly -/
def FldOk (C : Cy) (cs : List Nat) (f : Str) : Prop := ∀ c ∈ cs, Cls C.X.K (C.ca c) ∧ NoAttr C.X.K (C.ca c) f
theorem ev_attr {cs : List Nat} {e : Expr} {m : M Rv} (hc : FldOk C cs f) (he : EvH C e m) (hb : attributeBase e f C.X.env (eval e C.X.env) = eval e C.X.env := by rfl) : EvT C (.Attribute e f pos) (attrM cs f m) := by
  refine pe_imp (pe_fld he hb) fun σ H Q ⟨Tm, F, env, S, q⟩ => ⟨Tm, F, env, S, ?_⟩
  refine At.bind (R' := TR C.G) (Q' := Q) q fun r env1 x F1 H1 le1 S1 r1 q1 => ?_
  refine pk_bind S1 r1 q1 fun t p1 q3 => of_some q3 fun w hw q4 => ?_
  cases t <;> first | (cases hw; done) | skip
  rename_i c fs
  simp only [attrT] at hw
  split at hw
  · rename_i hm
    obtain ⟨a, dx, vs, rfl, ha, rf⟩ := pk_ins S1 p1
    obtain ⟨v, hv, rv⟩ := rf.lookup hw
    exact ⟨a, _, dx, vs, v, rfl, ha, (hc c hm).1, (hc c hm).2, hv, q4 v F1 H1 Le.rfl S1 rv⟩
  · cases hw
/-- o.f = value, o a slot's own instance -/
def fldS (cs : List Nat) (f : Str) (m : M T) (g : M Rv) : SM := exprS m fun v => exprS g fun r => match r with
  | .bo j => fun env => (match env[j]? with
    | some (.ow (.ins c fs)) => if c ∈ cs ∧ fs.length < 1000 then (match chO j (.ins c (putT f v fs)) env with
      | some e => .nx e
      | none => .no) else .no
    | some (.io (.ins c fs)) => if c ∈ cs ∧ fs.length < 1000 then (match chO j (.ins c (putT f v fs)) env with
      | some e => .nx e
      | none => .no) else .no
    | _ => .no)
  | _ => fun _ => .no
theorem e_fld {cs : List Nat} {o value : Expr} {m : M T} {g : M Rv} (hc : FldOk C cs f) (hv : EvT C value m) (ho : EvE C o g) (hs : swapsWith value (some (.Attribute o f pos')) pos.line C.X.env = pure false := by rfl) :
    EvS C (.Assign [.Attribute o f pos'] value pos) (fldS cs f m g) := by
  refine ps_imp (ps_fld ho hv hs) fun D σ H ⟨Tm, F, env, S, q⟩ => ⟨Tm, F, env, S, ?_⟩
  refine AtS.expr q fun v env1 y F1 H1 le1 S1 r1 q1 => ⟨Tm, F1, env1, S1, ?_⟩
  refine AtS.expr q1 fun r env2 x F2 H2 le2 S2 r2 q2 => ?_
  cases r with
  | fz t => exact q2.elim
  | ow t => exact q2.elim
  | bo j =>
    obtain ⟨hx, t0, ot⟩ := r2
    have go : ∀ {c : Nat} {fs : List (Str × T)}, OwnAt env2 j (.ins c fs) → AtS C Tm F2 D (if c ∈ cs ∧ fs.length < 1000 then (match chO j (.ins c (putT f v fs)) env2 with
        | some e => .nx e
        | none => .no) else .no) → ∃ a C_1 dx fs_1, x = .ref a ∧ H2 a = some (.ins C_1 dx fs_1) ∧ Cls C.X.K C_1 ∧ NoAttr C.X.K C_1 f ∧ fs_1.length < 1000 ∧ D.nx σ (upd H2 a (.ins C_1 dx (putF f y fs_1))) := fun {c fs} ow q3 => by
      split at q3
      · rename_i hm
        obtain ⟨s, es, k⟩ := ow.get
        obtain ⟨z, hz, ok⟩ := S2.slot j _ es
        obtain ⟨a, o, ez, ha, _, dx, vs, eo, rf⟩ := ok.own k
        subst eo
        rw [hx] at hz
        cases hz
        cases ez
        refine ⟨a, _, dx, vs, rfl, ha, (hc c hm.1).1, (hc c hm.1).2, by rw [rf.length]; exact hm.2, ?_⟩
        cases ec : chO j (.ins c (putT f v fs)) env2 with
        | none =>
          rw [ec] at q3
          exact q3.elim
        | some e =>
          rw [ec] at q3
          exact q3 σ F2 _ Le.rfl (S2.chO (t := .ins c (putT f v fs)) hx ⟨dx, _, rfl, rf.put (Rep.mono le2 v r1)⟩ ec)
      · exact q3.elim
    dsimp only at q2
    cases es : env2[j]? with
    | none =>
      rw [es] at q2
      exact q2.elim
    | some s =>
      rw [es] at q2
      cases s with
      | un => exact q2.elim
      | fz t => exact q2.elim
      | ow t =>
        cases t <;> first | exact q2.elim | skip
        exact go (.inl es) q2
      | io t =>
        cases t <;> first | exact q2.elim | skip
        exact go (.inr es) q2
end
end Ev
/-! Ev14: methods, instances made. -/
namespace Ev
open PySem PySem.Spec L2
section
variable {G : Gr} {Tm : Amb} {F H : Hp} {σ : St} {env : Env}
theorem own_push {s : Sl} {i : Nat} {t : T} (h : OwnAt (env ++ [s]) i t) : (i < env.length ∧ OwnAt env i t) ∨ (i = env.length ∧ (s = .ow t ∨ s = .io t)) := by
  by_cases hi : i < env.length
  · refine .inl ⟨hi, ?_⟩
    unfold OwnAt at h ⊢
    rwa [List.getElem?_append_left hi] at h
  · have e : i = env.length := by
      obtain ⟨s', e, _⟩ := h.get
      have := (List.getElem?_eq_some_iff.mp e).1
      simp at this
      omega
    subst e
    refine .inr ⟨rfl, ?_⟩
    unfold OwnAt at h
    rw [List.getElem?_append_right (Nat.le_refl _), Nat.sub_self] at h
    simpa using h
/-- one more slot: a new object of its own -/
theorem Sok.push (S : Sok G Tm F H σ env) {x : Addr} {o : HO} {t : T} (hx : H x = some o) (hF : F x = none) (hT : Tm.h x = none) (top : Top G F o t) (hn : ∀ i u, OwnAt env i u → σ[i]? ≠ some (some (.ref x))) :
    Sok G Tm F H (σ ++ [some (.ref x)]) (env ++ [.ow t]) := by
  have hl := S.len
  have at_ : ∀ {i : Nat} {y : Option V}, i < env.length → (σ ++ [some (V.ref x)])[i]? = some y → σ[i]? = some y := fun {i y} hi e => by
    rwa [List.getElem?_append_left (by omega)] at e
  have last : ∀ {y : Option V}, (σ ++ [some (V.ref x)])[env.length]? = some y → y = some (.ref x) := fun {y} e => by
    rw [List.getElem?_append_right (by omega), hl, Nat.sub_self] at e
    simpa using e.symm
  refine ⟨S.sub, S.tm, by simp [hl], fun i s e => ?_, fun i j a u v h1 h2 h3 h4 => ?_, fun i a u h1 h2 => ?_, S.lk, fun i u e => ?_⟩
  · by_cases hi : i < env.length
    · rw [List.getElem?_append_left hi] at e
      obtain ⟨y, hy, k⟩ := S.slot i s e
      exact ⟨y, by rw [List.getElem?_append_left (by omega)]; exact hy, k⟩
    · have hi2 : i = env.length := by
        have := (List.getElem?_eq_some_iff.mp e).1
        simp at this
        omega
      subst hi2
      rw [List.getElem?_append_right (Nat.le_refl _), Nat.sub_self] at e
      have es : s = .ow t := by simpa using e.symm
      subst es
      exact ⟨_, by rw [List.getElem?_append_right (by omega), hl, Nat.sub_self]; rfl, x, o, rfl, hx, hF, top⟩
  · rcases own_push h1 with ⟨i1, o1⟩ | ⟨i1, o1⟩ <;> rcases own_push h3 with ⟨j1, p1⟩ | ⟨j1, p1⟩
    · exact S.apart i j a u v o1 (at_ i1 h2) p1 (at_ j1 h4)
    · subst j1
      have := last h4
      cases this
      exact absurd (at_ i1 h2) (hn i u o1)
    · subst i1
      have := last h2
      cases this
      exact absurd (at_ j1 h4) (hn j v p1)
    · omega
  · rcases own_push h1 with ⟨i1, o1⟩ | ⟨i1, o1⟩
    · exact S.tmo i a u o1 (at_ i1 h2)
    · subst i1
      have := last h2
      cases this
      exact hT
  · by_cases hi : i < env.length
    · rw [List.getElem?_append_left hi] at e
      obtain ⟨a, e1, e2⟩ := S.pio i u e
      exact ⟨a, e1, by rw [List.getElem?_append_left (by omega)]; exact e2⟩
    · have hi2 : i = env.length := by
        have := (List.getElem?_eq_some_iff.mp e).1
        simp at this
        omega
      subst hi2
      rw [List.getElem?_append_right (Nat.le_refl _), Nat.sub_self] at e
      simp at e
theorem take_get {e' : Env} {n i : Nat} {s : Sl} (h : (e'.take n)[i]? = some s) : i < n ∧ e'[i]? = some s := by
  rw [List.getElem?_take] at h
  split at h
  · rename_i hi
    exact ⟨hi, h⟩
  · cases h
theorem own_take {e' : Env} {n i : Nat} {t : T} (h : OwnAt (e'.take n) i t) : i < n ∧ OwnAt e' i t := by
  rcases h with h | h
  · exact ⟨(take_get h).1, .inl (take_get h).2⟩
  · exact ⟨(take_get h).1, .inr (take_get h).2⟩
/-- .. taken off -/
theorem Sok.pop {y : Option V} {e' : Env} (S : Sok G Tm F H (σ ++ [y]) e') : Sok G Tm F H σ (e'.take σ.length) := by
  have hl : σ.length + 1 = e'.length := by have := S.len; simpa using this
  have at_ : ∀ {i : Nat} {z : Option V}, i < σ.length → (σ ++ [y])[i]? = some z → σ[i]? = some z := fun {i z} hi e => by
    rwa [List.getElem?_append_left hi] at e
  have up : ∀ {i : Nat} {z : Option V}, i < σ.length → σ[i]? = some z → (σ ++ [y])[i]? = some z := fun {i z} hi e => by
    rw [List.getElem?_append_left hi]; exact e
  refine ⟨S.sub, S.tm, by simp; omega, fun i s e => ?_, fun i j a u v h1 h2 h3 h4 => ?_, fun i a u h1 h2 => ?_, S.lk, fun i u e => ?_⟩
  · obtain ⟨hi, e⟩ := take_get e
    obtain ⟨z, hz, k⟩ := S.slot i s e
    exact ⟨z, at_ hi hz, k⟩
  · obtain ⟨hi, o1⟩ := own_take h1
    obtain ⟨hj, o2⟩ := own_take h3
    exact S.apart i j a u v o1 (up hi h2) o2 (up hj h4)
  · obtain ⟨hi, o1⟩ := own_take h1
    exact S.tmo i a u o1 (up hi h2)
  · obtain ⟨hi, e⟩ := take_get e
    obtain ⟨a, e1, e2⟩ := S.pio i u e
    exact ⟨a, e1, at_ hi e2⟩
end
/-! ### instances made -/
def makeA (ci n : Nat) (d : SM) (m : Nat) (as : List Ar) : M Rv := fun env => match callA n d m (.io env.length :: as) (env ++ [.ow (.ins ci [])]) with
  | .ok (.fz .non) e' => (match e'[env.length]? with
    | some (.ow t) => .ok (.ow t) (e'.take env.length)
    | _ => .no)
  | .ex c fs e' => .ex c fs (e'.take env.length)
  | _ => .no
section
variable {C : Cy} {k j ci : Nat} {f : Addr} {fd : FuncData} {ps : List Str} {m : Nat} {d : SM} {ds : List Value} {dvs : List V} {dts : List T}
/-- a class called, as the caller sees it -/
theorem make_sp {σ : St} {H : Hp} {Q : VK} {vs : List V} {Tm : Amb} {F0 : Hp} {env : Env} {as : List Ar} {n : Nat} (hm : n ≤ m) (S : Sok C.G Tm F0 H σ env) (ra : ArL C.G F0 σ as vs)
    (q : At C (RvR C.G) Tm F0 σ Q (makeA ci n d m as env)) {x dx : Addr} (nx : H x = none) (nd : H dx = none) (ne : dx ≠ x) :
    spT C.G n m d (.ref x :: vs) (upd (upd H dx (.own x)) x (.ins (C.ca ci) dx [])) (fun v H2 => v = .non ∧ Q (.ref x) H2) (fun cls dd H' => C.W cls dd σ H') := by
  have nx2 : upd H dx (.own x) x = none := by rw [upd_ne (Ne.symm ne)]; exact nx
  have S1 := (S.alloc (o := .own x) nd).alloc (o := .ins (C.ca ci) dx []) nx2
  have hl := S.len
  have S2 : Sok C.G Tm F0 (upd (upd H dx (.own x)) x (.ins (C.ca ci) dx [])) (σ ++ [some (.ref x)]) (env ++ [.ow (.ins ci [])]) := by
    refine S1.push (o := .ins (C.ca ci) dx []) upd_same (S.new nx).1 (S.new nx).2 ⟨dx, [], rfl, .nil⟩ fun i u ow z => ?_
    obtain ⟨s, es, kk⟩ := ow.get
    obtain ⟨y, hy, ok⟩ := S.slot i _ es
    obtain ⟨a, w, e1, e2, _⟩ := ok.own kk
    rw [z] at hy
    cases hy
    cases e1
    rw [nx] at e2
    cases e2
  have hxl : (σ ++ [some (V.ref x)])[env.length]? = some (some (.ref x)) := by
    rw [List.getElem?_append_right (by omega), hl, Nat.sub_self]; rfl
  have ra2 : ArL C.G F0 (σ ++ [some (V.ref x)]) as vs := by
    clear q
    induction as generalizing vs with
    | nil => exact ra
    | cons a as ih =>
      obtain ⟨y, r, e, h1, h2⟩ := ra
      refine ⟨y, r, e, ?_, ih h2⟩
      cases a with
      | fz t => exact h1
      | io i =>
        have h1' : σ[i]? = some (some y) := h1
        have : i < σ.length := (List.getElem?_eq_some_iff.mp h1').1
        show (σ ++ [some (V.ref x)])[i]? = some (some y)
        rw [List.getElem?_append_left this]
        exact h1'
  have ra3 : ArL C.G F0 (σ ++ [some (V.ref x)]) (.io env.length :: as) (.ref x :: vs) := ⟨_, _, rfl, hxl, ra2⟩
  refine call_sp (C := ⟨C.X, C.ca, fun cls dd _ H' => C.W cls dd σ H'⟩) (Q := fun v H2 => v = .non ∧ Q (.ref x) H2) hm S2 ra3 ?_
  unfold makeA at q
  cases ec : callA n d m (.io env.length :: as) (env ++ [.ow (.ins ci [])]) with
  | no =>
    rw [ec] at q
    exact q.elim
  | ex c fs e' =>
    rw [ec] at q
    intro dd F' H' ws le S' e r
    have S3 := S'.pop
    rw [hl] at S3
    exact q dd F' H' ws le S3 e r
  | ok r e' =>
    rw [ec] at q
    cases r with
    | ow t => exact q.elim
    | bo i => exact q.elim
    | fz t =>
      cases t <;> first | exact q.elim | skip
      dsimp only at q
      intro b F' H' le S' rb
      have eb : b = .non := rep_non rb
      refine ⟨eb, ?_⟩
      cases es : e'[env.length]? with
      | none =>
        rw [es] at q
        exact q.elim
      | some s =>
        rw [es] at q
        cases s with
        | un => exact q.elim
        | fz t => exact q.elim
        | io t => exact q.elim
        | ow t =>
          have S3 := S'.pop
          rw [hl] at S3
          obtain ⟨y, hy, a, o, ey, h1, h2, top⟩ := S'.slot env.length _ es
          rw [hxl] at hy
          cases hy
          cases ey
          refine q (.ref x) F' H' le S3 ⟨x, o, rfl, h1, h2, S'.tmo env.length x t (.inl es) hxl, top, fun i u ow z => ?_⟩
          obtain ⟨hi, ow'⟩ := own_take ow
          have z' : (σ ++ [some (V.ref x)])[i]? = some (some (.ref x)) := by
            rw [List.getElem?_append_left (by omega)]; exact z
          have := S'.apart i env.length x u t ow' z' (.inl es) hxl
          omega
theorem make_run (M : Mk C.X.K (C.ca ci) f) (F : FnC C k f fd ps m d) (B : Bk C (k + 1)) (hb : Binds C.X.K fd ps ds) (hd : Vals dvs ds) {pins : List (Addr × Obj)} {s : Shared} {σ : St} {H : Hp} {Q : VK} {us : List Value} {vs : List V} (I : Inv C.X pins σ H s) (rv : Vals vs us)
    (h : ∀ x dx, H x = none → H dx = none → dx ≠ x → spT C.G ps.length m d (.ref x :: (vs ++ dvs)) (upd (upd H dx (.own x)) x (.ins (C.ca ci) dx [])) (fun v H2 => v = .non ∧ Q (.ref x) H2) (fun cls dd H' => C.W cls dd σ H')) :
    wpAny (model C.X.prog C.X.w) C.X.A (call (.ref (C.ca ci)) us) (EP C.X pins σ Q) C.X.xe s := by
  have hq := h (s.heap.objs.size + 1) s.heap.objs.size (I.hok.fresh (Nat.le_succ _)) (I.hok.fresh (Nat.le_refl _)) (Nat.ne_of_lt (Nat.lt_succ_self _))
  have I2 := Inv.made (C := C.ca ci) I
  have r2 : Vals (V.ref (s.heap.objs.size + 1) :: (vs ++ dvs)) (Value.ref (s.heap.objs.size + 1) :: (us ++ ds)) := .cons rfl (rv.append hd)
  have hl : (Value.ref (s.heap.objs.size + 1) :: us ++ ds).length = ps.length := by
    have e := r2.length
    rw [hq.1] at e
    exact e.symm
  refine wpAny_call (make_map (f := f) I.kIn M.makes M.init (beq_iff_eq.mp M.fn) (codeAny_mono (F.go (B.room.make (C.ca ci) us []) B.grd (I2.env0.make (C.ca ci) us []) (hb _ (Value.ref (s.heap.objs.size + 1) :: us) I2.kIn hl) r2 hq) fun r s' hq' => ?_))
  match r, hq' with
  | .error e, hq' => exact B.tk _ _ (XE.of_call I2 (fun _ _ _ z => z) hq')
  | .ok (.ret u), hq' =>
    obtain ⟨v, H', I3, rv, ev, q3⟩ := I2.after hq'
    subst ev
    exact ⟨rv, ⟨V.ref (s.heap.objs.size + 1), H', I3, rfl, q3⟩⟩
  | .ok .next, hq' => exact False.elim hq'
  | .ok .brk, hq' => exact False.elim hq'
  | .ok .cont, hq' => exact False.elim hq'
variable {x mth : Str} {p pos apos : Pos} {e o : Expr} {es : List Expr} {fa : M (List Ar)} {fo : M T}
theorem ev_make (MK : Mk C.X.K (C.ca ci) f) (F : FnC C k f fd ps m d) (B : Bk C j) (hj : k + 1 ≤ j) (hm : ps.length ≤ m) (hg : Gl C.X x) (hx : C.X.mg x = some (.ref (C.ca ci))) (hb : Binds C.X.K fd ps ds) (hd : Vals dvs ds) (ht : ∀ F, RepL C.G F dts dvs) (ha : EvAr C (e :: es) fa)
    (hdb : (x == ("__debug__" : Str)) = false := by decide +kernel) (he : starEach (e :: es) C.X.env = (false, eval e C.X.env) :: starEach es C.X.env := by rfl) (hpl : (backTo pos (starEach es C.X.env)).any (·.1) = false := by rfl) :
    EvE C (.Call (.Name x p) (e :: es) [] pos) (M.bind fa fun as => makeA ci ps.length d m (as ++ dts.map Ar.fz)) := by
  obtain ⟨j', rfl⟩ : ∃ j', j = j' + 1 := ⟨j - 1, by omega⟩
  refine ⟨fun pins s σ H Q I ⟨Tm, F0, env, S, q⟩ => ?_⟩
  refine wpAny_Call_Name_kw (ld_glob I hg hx ?_ hdb)
  have q1 : tG C (ArR C.G) fa σ H fun vs H1 => ∀ x dx, H1 x = none → H1 dx = none → dx ≠ x → spT C.G ps.length m d (.ref x :: (vs ++ dvs)) (upd (upd H1 dx (.own x)) x (.ins (C.ca ci) dx [])) (fun v H2 => v = .non ∧ Q (.ref x) H2) (fun cls dd H' => C.W cls dd σ H') := by
    refine ⟨Tm, F0, env, S, At.bind (R' := RvR C.G) (Q' := Q) q fun as env1 xs F1 H1 le1 S1 r1 q2 => fun x dx nx nd ne => ?_⟩
    exact make_sp hm S1 (r1.append (ArL.consts (ht F1))) q2 nx nd ne
  refine PySem.W.callWith_K (h₀ := C.X.base) I.ok.mod.kin MK.kp (thn (ha.run pos pins s σ H _ I q1) fun us s1 ⟨vs, H1, I1, r, h⟩ => ⟨I1.kIn, ?_⟩) he hpl
  exact make_run MK (F.up (by omega)) B hb hd I1 r h
theorem ev_make0 (MK : Mk C.X.K (C.ca ci) f) (F : FnC C k f fd ps m d) (B : Bk C j) (hj : k + 1 ≤ j) (hm : ps.length ≤ m) (hg : Gl C.X x) (hx : C.X.mg x = some (.ref (C.ca ci))) (hb : Binds C.X.K fd ps ds) (hd : Vals dvs ds) (ht : ∀ F, RepL C.G F dts dvs)
    (hdb : (x == ("__debug__" : Str)) = false := by decide +kernel) : EvE C (.Call (.Name x p) [] [] pos) (makeA ci ps.length d m (dts.map Ar.fz)) := by
  obtain ⟨j', rfl⟩ : ∃ j', j = j' + 1 := ⟨j - 1, by omega⟩
  refine ⟨fun pins s σ H Q I ⟨Tm, F0, env, S, q⟩ => ?_⟩
  refine wpAny_Call_Name_kw (ld_glob I hg hx ?_ hdb)
  exact PySem.W.callWith_K0 I.kIn MK.kp (make_run (us := []) (vs := []) MK (F.up (by omega)) B hb hd I .nil fun x dx nx nd ne => make_sp hm S (ArL.consts (ht F0)) q nx nd ne)
/-! ### methods -/
/-- an instance of the class ci without a field of the method's name -/
def isOf (ci : Nat) (mth : Str) : T → Bool
  | .ins c fs => c == ci && (fs.lookup mth).isNone
  | _ => false
def methM (ci : Nat) (mth : Str) (fo : M T) (k : T → M Rv) : M Rv := M.bind fo fun t => if isOf ci mth t = true then k t else M.no
theorem frz_ins {Tm : Amb} {F H : Hp} {σ : St} {env : Env} (S : Sok C.G Tm F H σ env) {t : T} {x : V} (r : Rep C.G F t x) (h : isOf ci mth t = true) : ∃ a dx vs, x = .ref a ∧ H a = some (.ins (C.ca ci) dx vs) ∧ vs.lookup mth = none := by
  cases t <;> first | (cases h; done) | skip
  rename_i c fs
  simp only [isOf, Bool.and_eq_true, beq_iff_eq, Option.isNone_iff_eq_none] at h
  obtain ⟨rfl, hl⟩ := h
  obtain ⟨a, dx, vs, rfl, ha, rf⟩ := rep_ins r
  refine ⟨a, dx, vs, rfl, ?_, rf.lookN hl⟩
  rcases S.sub _ _ ha with q | ⟨q, _⟩
  · exact q
  · cases q
theorem ev_meth {pl : Sem Bool} (c : Cls C.X.K (C.ca ci)) (hmt : Meth C.X.K (C.ca ci) mth f) (F : FnC C k f fd ps m d) (B : Bk C j) (hj : k ≤ j) (hm : ps.length ≤ m) (hb : Binds C.X.K fd ps ds) (hd : Vals dvs ds) (ht : ∀ F, RepL C.G F dts dvs) (ho : EvT C o fo) (ha : EvAr C (e :: es) fa)
    (hst : starEach (e :: es) C.X.env = (false, eval e C.X.env) :: starEach es C.X.env := by rfl) (hpl : (backTo pos (starEach es C.X.env)).any (·.1) = false := by rfl)
    (het : eval (.Call (.Attribute o mth apos) (e :: es) [] pos) C.X.env = (do
      let ov ← eval o C.X.env
      standAt apos.atName
      let (f, first) ← holding [ov] (getMethod ov mth pl)
      callWith pos f first (backTo pos (starEach (e :: es) C.X.env)) (backToKw pos (keywordEach [] C.X.env))) := by rfl) :
    EvE C (.Call (.Attribute o mth apos) (e :: es) [] pos) (methM ci mth fo fun t => M.bind fa fun as => callA ps.length d m (.fz t :: as ++ dts.map Ar.fz)) := by
  refine ⟨fun pins s σ H Q I ⟨Tm, F0, env, S, q⟩ => ?_⟩
  have q1 : tG C (TR C.G) fo σ H fun x H1 => ∃ a dx vs, x = .ref a ∧ H1 a = some (.ins (C.ca ci) dx vs) ∧ vs.lookup mth = none ∧ tG C (ArR C.G) fa σ H1 fun ws H2 => spT C.G ps.length m d ((x :: ws) ++ dvs) H2 Q (fun cls dd H' => C.W cls dd σ H') := by
    refine ⟨Tm, F0, env, S, At.bind (R' := RvR C.G) (Q' := Q) q fun t env1 x F1 H1 le1 S1 r1 q2 => ?_⟩
    by_cases hi : isOf ci mth t = true
    · rw [if_pos hi] at q2
      obtain ⟨a, dx, vs, ex, e1, e2⟩ := frz_ins S1 r1 hi
      refine ⟨a, dx, vs, ex, e1, e2, Tm, F1, env1, S1, At.bind (R' := RvR C.G) (Q' := Q) q2 fun as env2 xs F2 H2 le2 S2 r2 q3 => ?_⟩
      exact call_sp hm S2 (ArL.append (as := .fz t :: as) ⟨x, xs, rfl, Rep.mono le2 t r1, r2⟩ (ArL.consts (ht F2))) q3
    · rw [if_neg hi] at q2
      exact q2.elim
  refine PySem.W.methodCall_KW (pl := pl) (thn (ho.run pins s σ H _ I q1) fun u s1 ⟨x, H1, I1, rx, a, dx, fs, ex, ea, l, q⟩ => ?_) het
  subst ex
  obtain rfl : u = Value.ref a := rx
  refine getmeth_ok I1 ea c hmt l ?_
  refine PySem.W.callWith_K (first := [.ref a]) (h₀ := C.X.base) I.ok.mod.kin hmt.kp (thn (ha.run pos pins s1 σ H1 _ I1 q) fun us s2 ⟨vs, H2, I2, r, q2⟩ => ⟨I2.kIn, ?_⟩) hst hpl
  exact call_run (us := .ref a :: us) (vs := .ref a :: vs) (F.up hj) B hb hd I2 (.cons rfl r) q2
theorem ev_meth0 {pl : Sem Bool} (c : Cls C.X.K (C.ca ci)) (hmt : Meth C.X.K (C.ca ci) mth f) (F : FnC C k f fd ps m d) (B : Bk C j) (hj : k ≤ j) (hm : ps.length ≤ m) (hb : Binds C.X.K fd ps ds) (hd : Vals dvs ds) (ht : ∀ F, RepL C.G F dts dvs) (ho : EvT C o fo)
    (het : eval (.Call (.Attribute o mth apos) [] [] pos) C.X.env = (do
      let ov ← eval o C.X.env
      standAt apos.atName
      let (f, first) ← holding [ov] (getMethod ov mth pl)
      callWith pos f first (backTo pos (starEach [] C.X.env)) (backToKw pos (keywordEach [] C.X.env))) := by rfl) :
    EvE C (.Call (.Attribute o mth apos) [] [] pos) (methM ci mth fo fun t => callA ps.length d m (.fz t :: dts.map Ar.fz)) := by
  refine ⟨fun pins s σ H Q I ⟨Tm, F0, env, S, q⟩ => ?_⟩
  have q1 : tG C (TR C.G) fo σ H fun x H1 => ∃ a dx vs, x = .ref a ∧ H1 a = some (.ins (C.ca ci) dx vs) ∧ vs.lookup mth = none ∧ spT C.G ps.length m d (x :: dvs) H1 Q (fun cls dd H' => C.W cls dd σ H') := by
    refine ⟨Tm, F0, env, S, At.bind (R' := RvR C.G) (Q' := Q) q fun t env1 x F1 H1 le1 S1 r1 q2 => ?_⟩
    by_cases hi : isOf ci mth t = true
    · rw [if_pos hi] at q2
      obtain ⟨a, dx, vs, ex, e1, e2⟩ := frz_ins S1 r1 hi
      exact ⟨a, dx, vs, ex, e1, e2, call_sp hm S1 (as := .fz t :: dts.map Ar.fz) ⟨x, dvs, rfl, r1, ArL.consts (ht F1)⟩ q2⟩
    · rw [if_neg hi] at q2
      exact q2.elim
  refine PySem.W.methodCall_KW (pl := pl) (thn (ho.run pins s σ H _ I q1) fun u s1 ⟨x, H1, I1, rx, a, dx, fs, ex, ea, l, q⟩ => ?_) het
  subst ex
  obtain rfl : u = Value.ref a := rx
  refine getmeth_ok I1 ea c hmt l ?_
  exact PySem.W.callWith_K0 (first := [.ref a]) I1.kIn hmt.kp (call_run (us := [.ref a]) (vs := [.ref a]) (F.up hj) B hb hd I1 (.cons rfl .nil) q)
end
end Ev
/-! Ev15: == by an own __eq__. -/
namespace Ev
open PySem PySem.Spec L2
section
variable {C : Cy} {k j ci : Nat} {f : Addr} {fd : FuncData} {ps : List Str} {m : Nat} {d : SM}
/-- what the right side may be -/
inductive TyR (C : Cy) (ci : Nat) (H : Hp) : V → Prop where
  | bt {y : V} {n : String} (ty : TyX C.X.K H y (.type n)) (hn : PySem.W.notFirst C.X.K (C.ca ci) (.type n) = true) : TyR C ci H y
  | same {b dx : Addr} {vs : List (Str × V)} (hb : H b = some (.ins (C.ca ci) dx vs)) : TyR C ci H (.ref b)
theorem op_eqOwn (hmt : Meth C.X.K (C.ca ci) "__eq__" f) (F : FnC C k f fd ps m d) (B : Bk C j) (hj : k ≤ j) (hb : Binds C.X.K fd ps []) :
    OpR C.X (compareOp .Eq) (fun x y H Q => ∃ a dx vs, x = .ref a ∧ H a = some (.ins (C.ca ci) dx vs) ∧ TyR C ci H y ∧ spT C.G ps.length m d [x, y] H (fun v H2 => ∃ b, v = .bl b ∧ Q (.bl b) H2) (fun _ _ _ => False)) := by
  intro pins s σ H x y v u Q I rx ry h
  obtain ⟨a, dx, vs, rfl, ha, ty, hsp⟩ := h
  cases rx
  obtain ⟨mA, J, _⟩ := ins_get I.hok ha
  obtain ⟨od, J, _⟩ := J.look
  obtain ⟨m', hF⟩ := I.fr
  have fin : wpAny (model C.X.prog C.X.w) C.X.A (call (.ref f) [.ref a, u]) (PySem.W.CmpBack (EP C.X pins σ Q)) C.X.xe s := by
    have hl : [Value.ref a, u].length = ps.length := by rw [← hsp.1]; rfl
    have r2 : Vals [V.ref a, y] [Value.ref a, u] := .cons rfl (.cons ry .nil)
    refine wpAny_call (codeAny_mono ((F.up hj).go B.room B.grd I.env0 (by
      have := hb s [.ref a, u] I.kIn (by simpa using hl)
      simpa using this) r2 hsp) fun r s' hq => ?_)
    match r, hq with
    | .error e, hq => exact B.tk _ _ (XE.of_call I (fun _ _ _ z => False.elim z) hq)
    | .ok (.ret w), hq =>
      obtain ⟨z, H', I', rz, b, ez, q⟩ := I.after hq
      subst ez
      cases rz
      exact ⟨.bl b, H', I', rfl, q⟩
    | .ok .next, hq => exact False.elim hq
    | .ok .brk, hq => exact False.elim hq
    | .ok .cont, hq => exact False.elim hq
  show wpAny (model C.X.prog C.X.w) C.X.A (richCompare .Eq (.ref a) u) (EP C.X pins σ Q) C.X.xe s
  cases ty with
  | @bt _ n ty hn =>
    obtain ⟨P, kit, hP, _⟩ := kit_of I ry ty
    exact PySem.W.cmp_K (op := .Eq) (tb := .type n) B.room.units0 hF I.ok.mod.kin J (kit.ty _ _ I.kIn hP) hn hmt.at_ hmt.fn fin
  | @same b dy ws hb' =>
    cases ry
    obtain ⟨mB, J', _⟩ := ins_get I.hok hb'
    obtain ⟨od', J', _⟩ := J'.look
    exact PySem.W.cmp_K (op := .Eq) (tb := .ref (C.ca ci)) B.room.units0 hF I.ok.mod.kin J J'.type (by simp [PySem.W.notFirst]) hmt.at_ hmt.fn fin
/-- the right sides of such a comparison, as trees -/
def okR (ci : Nat) : T → Bool
  | .non => true
  | .bl _ => true
  | .int _ => true
  | .str _ => true
  | .tup _ => true
  | .lst _ => true
  | .dK _ => true
  | .ins c _ => c == ci
  | _ => false
theorem notFirst_bt {K : PySem.W.Frag} {A : Addr} {n : String} (h : n ∈ ["NoneType", "bool", "int", "str", "tuple", "list", "dict"]) : PySem.W.notFirst K A (.type n) = true := by
  simp only [List.mem_cons, List.not_mem_nil, or_false] at h
  rcases h with h | h | h | h | h | h | h <;> subst h <;> rfl
theorem okR_ty {Tm : Amb} {F H : Hp} {σ : St} {env : Env} (S : Sok C.G Tm F H σ env) {t : T} {y : V} (r : Rep C.G F t y) (h : okR ci t = true) : TyR C ci H y := by
  have pk : Pk C.G F H t y := .inl r
  cases t <;> first | (cases h; done) | skip
  · exact .bt (pk.ty S rfl) (notFirst_bt (by decide))
  · exact .bt (pk.ty S rfl) (notFirst_bt (by decide))
  · exact .bt (pk.ty S rfl) (notFirst_bt (by decide))
  · exact .bt (pk.ty S rfl) (notFirst_bt (by decide))
  · exact .bt (pk.ty S rfl) (notFirst_bt (by decide))
  · exact .bt (pk.ty S rfl) (notFirst_bt (by decide))
  · exact .bt (pk.ty S rfl) (notFirst_bt (by decide))
  · rename_i c fs
    have hc : c = ci := by simpa [okR] using h
    subst hc
    obtain ⟨a, dx, vs, rfl, ha, _⟩ := rep_ins r
    rcases S.sub _ _ ha with q | ⟨q, _⟩
    · exact .same q
    · cases q
def isCi (ci : Nat) : T → Bool
  | .ins c _ => c == ci
  | _ => false
/-- t == u, t an instance of the class ci with an own __eq__ d -/
def eqO (ci n : Nat) (d : SM) (m : Nat) (t u : T) : M T := fun env => if isCi ci t = true ∧ okR ci u = true then (match callA n d m [.fz t, .fz u] env with
  | .ok (.fz (.bl b)) e => .ok (.bl b) e
  | _ => .no) else .no
theorem ev_eqO {a b : Expr} {pos : Pos} {f1 f2 : M T} (hmt : Meth C.X.K (C.ca ci) "__eq__" f) (F : FnC C k f fd ps m d) (B : Bk C j) (hj : k ≤ j) (hm : ps.length ≤ m) (hb : Binds C.X.K fd ps []) (h1 : EvT C a f1) (h2 : EvT C b f2) (hmk : behindInMarks .Eq b = false) :
    EvT C (.Compare a [.Eq] [b] pos) (M.bind f1 fun t => M.bind f2 fun u => eqO ci ps.length d m t u) := by
  refine pe_imp (pe_cmpR (op_eqOwn hmt F B hj hb) h1 h2 hmk) fun σ H Q ⟨Tm, F0, env, S, q⟩ => ⟨Tm, F0, env, S, ?_⟩
  refine At.bind (R' := TR C.G) (Q' := Q) q fun t env1 x F1 H1 le1 S1 r1 q1 => ⟨Tm, F1, env1, S1, ?_⟩
  refine At.bind (R' := TR C.G) (Q' := Q) q1 fun u env2 y F2 H2 le2 S2 r2 q2 => ?_
  unfold eqO at q2
  by_cases hc : isCi ci t = true ∧ okR ci u = true
  case neg =>
    rw [if_neg hc] at q2
    exact q2.elim
  rw [if_pos hc] at q2
  have rt := Rep.mono le2 t r1
  have hi : ∃ a dx vs, x = .ref a ∧ H2 a = some (.ins (C.ca ci) dx vs) := by
    cases t <;> first | (cases hc.1; done) | skip
    rename_i c fs
    have e : c = ci := by simpa [isCi] using hc.1
    subst e
    obtain ⟨a, dx, vs, ex, ha, _⟩ := rep_ins rt
    rcases S2.sub _ _ ha with q | ⟨q, _⟩
    · exact ⟨a, dx, vs, ex, q⟩
    · cases q
  obtain ⟨a, dx, vs, ex, ha⟩ := hi
  refine ⟨a, dx, vs, ex, ha, okR_ty S2 r2 hc.2, ?_⟩
  refine call_sp (C := ⟨C.X, C.ca, fun _ _ _ _ => False⟩) (Q := fun v H2 => ∃ b, v = .bl b ∧ Q (.bl b) H2) hm S2 (as := [.fz t, .fz u]) ⟨x, [y], rfl, rt, y, [], rfl, r2, rfl⟩ ?_
  cases ec : callA ps.length d m [.fz t, .fz u] env2 with
  | no =>
    rw [ec] at q2
    exact q2.elim
  | ex c fs e' =>
    rw [ec] at q2
    exact q2.elim
  | ok r e' =>
    rw [ec] at q2
    cases r with
    | ow t => exact q2.elim
    | bo i => exact q2.elim
    | fz w =>
      cases w <;> first | exact q2.elim | skip
      intro z F' H' le S' rz
      exact ⟨_, rep_bl rz, q2 _ F' H' le S' (mk_bl _)⟩
end
end Ev
/-! Ev16: try with several clauses that name the exception. -/
namespace Ev
open PySem PySem.Spec PyProof.Rows L2
/-- the ends behind a clause whose name is in the slot i -/
def offE (D : Ends) (i : Nat) : Ends := ⟨fun σ H => D.nx (σ.set i none) H, D.rt, fun σ H => D.bk (σ.set i none) H, fun σ H => D.ct (σ.set i none) H⟩
abbrev Cl : Type := Value × Nat × (Addr → Value → Option Addr → TS)
/-- what the clauses ask of an exception -/
def askC (K : PySem.W.Frag) (Wo : WX) (D : Ends) : List Cl → WX
  | [] => Wo
  | q :: r => fun cls d σ H => ∃ yes, PySem.W.exmOne K cls q.1 = some yes ∧ (yes = true → ∀ ea, H ea = none → q.2.2 ea cls d (offE D q.2.1) (σ.set q.2.1 (some (.ref ea))) H) ∧ (yes = false → askC K Wo D r cls d σ H)
inductive ClsOk (X : Cx) : List ExceptHandler → List Cl → Prop
  | nil : ClsOk X [] []
  | cons {x nm : Str} {c : Value} {i : Nat} {ts : Addr → Value → Option Addr → TS} {st : Stmt} {sts : List Stmt} {p1 p2 : Pos} {hds : List ExceptHandler} {l : List Cl} (at_ : X.N[i]? = some nm) (kd : X.env.kindOf nm = some .local) (cn : Names X x c)
      (su : ∀ (ea : Addr) (ob : Obj) (cls : Value) (d : Option Addr) (pn : List (Addr × Obj)), Zc cls d ob → (∃ vs, ob.data = .fields vs) → PSs (X.suite ea ((ea, ob) :: pn)) (st :: sts) (ts ea cls d)) (rest : ClsOk X hds l) :
      ClsOk X (.ExceptHandler (some (.Name x p1)) (some nm) (st :: sts) p2 :: hds) ((c, i, ts) :: l)
section
variable {X : Cx} {body : List Stmt} {hd0 : ExceptHandler} {hds : List ExceptHandler} {l : List Cl} {pos : Pos} {tb : WX → TS} {Wo : WX}
abbrev catchW (X : Cx) (pins : List (Addr × Obj)) (D : Ends) (hs : List ExceptHandler) : Value → Shared → Prop := fun u sA =>
  wpAny (model X.prog X.w) X.A (noteFrame u X.env)
    (fun _ sB => wpAny (model X.prog X.w) X.A (setFlight u none)
      (fun _ sC => wpAny (model X.prog X.w) X.A (handleBy u X.env hs) (SP X pins D) X.xe sC) X.xe sB) X.xe sA
theorem try_clauses (stk : X.stack = X.env :: X.outer) (frm : X.env.frame = some X.env.locals) (nd : X.N.Nodup) (tk : Takes X Wo)
    (bd : ∀ (W : WX) (pn : List (Addr × Obj)) (wish : Value → Shared → Prop), Takes (X.tr pn wish) W → PassesOwn (model X.prog X.w) X.A X.env wish → PSs (X.tr pn wish) body (tb W))
    (hk : ClsOk X (hd0 :: hds) l) : PS X (.Try body (hd0 :: hds) [] [] pos) (fun D σ H => tb (askC X.K Wo D l) D σ H) := by
  constructor
  intro pins s σ H D inv goal
  have okX := inv.ok
  have frames : X.A.frames = some (X.env :: X.outer) := okX.frames.trans (congrArg some stk)
  apply wpAny_Try_except
  refine wpAny_mono ((bd (askC X.K Wo D l) (X.pn ++ pins) (catchW X pins D (hd0 :: hds)) (fun u s' air => ?air) PassesOwn.looking).run [] s σ H D (inv.toTry _) goal) (fun fl s1 out => ?out) fun _ _ z => z
  case out =>
    cases fl with
    | next => exact let ⟨σ1, H1, J, q⟩ := out; wpAny_execs_nil ⟨σ1, H1, J.ofTry okX, q⟩
    | brk => exact let ⟨σ1, H1, J, q⟩ := out; ⟨σ1, H1, J.ofTry okX, q⟩
    | cont => exact let ⟨σ1, H1, J, q⟩ := out; ⟨σ1, H1, J.ofTry okX, q⟩
    | ret v => exact let ⟨v1, σ1, H1, J, r, q⟩ := out; ⟨v1, σ1, H1, J.ofTry okX, r, q⟩
  case air =>
    obtain ⟨ea, G0, sI, _, σ1, H1, cls, d, rfl, J0, base0, ups, air, none0, os0, bare0, ask⟩ := air
    have J1 : Inv X pins σ1 H1 sI := J0.ofTry okX
    have air1 : Sky G0 (X.env :: X.outer) ea (Zc cls d) X.env.locals s'.heap := stk ▸ air
    show wpAny (model X.prog X.w) X.A (noteFrame (.ref ea) X.env) _ _ _
    refine Sky.land Zc.steady frames frm air1 fun hA flA upA => ?_
    have upsA := ups.trans upA
    have JA : Inv X pins σ1 H1 { s' with heap := hA } := J1.landed base0 flA.1 upsA os0 bare0
    obtain ⟨obA, fsA, getA, zcA, datA⟩ := flA.there
    have outside : ea ∉ frs (X.env :: X.outer) := fun mem => by
      obtain ⟨_, ob', get', nof⟩ := flA.2.2.1.mem mem
      rw [getA] at get'
      cases get'
      exact nof _ datA
    have offL : ea ≠ X.env.locals := fun z => outside (List.mem_filterMap.mpr ⟨X.env, List.mem_cons_self, by rw [frm, z]⟩)
    have offF : ea ∉ X.fs := fun mem => by
      obtain ⟨en, hen, q⟩ := List.mem_filterMap.mp mem
      exact outside (List.mem_filterMap.mpr ⟨en, List.mem_cons_of_mem _ hen, q⟩)
    have SA := JA.suite getA datA none0 offL offF
    have walk : ∀ {hs' : List ExceptHandler} {l' : List Cl}, ClsOk X hs' l' → askC X.K Wo D l' cls d σ1 H1 → wpAny (model X.prog X.w) X.A (handleBy (.ref ea) X.env hs') (SP X pins D) X.xe { s' with heap := hA } := by
      intro hs' l' ok'
      induction ok' with
      | nil =>
        intro wish
        apply wpAny_handleBy_nil
        obtain ⟨_, _, _, ob, fs, tb0, _, _, get1, zc1, dat1, tb1, _⟩ := id flA
        unfold PySem.passOn
        apply wpAny_bind
        apply wpAny_field get1 dat1 tb1
        rw [if_neg (by simp : ¬ ((Value.ref tb0 == Value.none) = true))]
        have thrown : wpAny (model X.prog X.w) X.A (setFlight (.ref ea) X.env.frame) (fun _ s4 => wpAny (model X.prog X.w) X.A (throw (.ref ea) : Sem Flow) (SP X pins D) X.xe s4) X.xe { s' with heap := hA } := by
          rw [frm]
          apply HandSPX.setFlight_upZ flA
          intro hB airB upB
          apply wpAny_throw
          exact tk _ _ ⟨ea, G0, sI, pins, σ1, H1, cls, d, rfl, J1, base0, upsA.trans upB, .inr (.inr (stk.symm ▸ airB)), none0, os0, bare0, wish⟩
        first
          | exact wpAny_bind (wpAny_pure (wpAny_bind thrown))
          | exact wpAny_bind thrown
      | @cons x nm c i ts st sts p1 p2 hds2 l2 at_ kd cn su rest ih =>
        intro wish
        obtain ⟨yes, em, onYes, onNo⟩ := wish
        refine wpAny_handleBy_cons (codeAny_handlers_test ?_) fun q => nomatch q
        have lookTy : PySem.W.Looks (model X.prog X.w) hA (typeOf (.ref ea)) cls := fun _ _ _ _ keep q => wpAny_typeOf_ref (keep _ _ getA) (zcA.1.symm ▸ q)
        have lookEm := PySem.W.exm_one (M := model X.prog X.w) JA.kIn lookTy em
        have named : ∀ {Q : Value → Shared → Prop} {E : Value → Shared → Prop}, Q c { s' with heap := hA } → wpAny (model X.prog X.w) (X.A.mark (some (.ref ea))) (eval (.Name x p1) X.env) Q E { s' with heap := hA } := by
          intro Q E q
          obtain ⟨gl, ndb, own | ⟨free, boot, nn⟩⟩ := cn
          · exact ld_glob (X := X.suite ea ((ea, obA) :: (X.pn ++ pins))) SA gl own q ndb
          · exact ld_blt (X := X.suite ea ((ea, obA) :: (X.pn ++ pins))) SA gl free boot q nn ndb
        apply named
        apply lookEm.here
        cases yes with
        | false => exact ih (onNo rfl)
        | true =>
          apply codeAny_handlers_suite_as
          refine HandSPX.lands_againZ flA fun hB flB upB => ?_
          have JB : Inv X pins σ1 H1 { s' with heap := hB } := J1.landed base0 flB.1 (upsA.trans upB) os0 bare0
          obtain ⟨obB, fsB, getB, zcB, datB⟩ := flB.there
          have SB := JB.suite getB datB none0 offL offF
          refine store_ok (X := X.suite ea ((ea, obB) :: (X.pn ++ pins))) (v := .ref ea) SB nd at_ (.inl kd) rfl (fun s5 S5 => ?_) (.inr kd)
          have gone : ∀ {s6 : Shared} {σ6 : L2.St} {H6 : Hp} {Q : Shared → Prop}, Inv (X.suite ea ((ea, obB) :: (X.pn ++ pins))) [] σ6 H6 s6 → (∀ s7, Inv X pins (σ6.set i none) H6 s7 → Q s7) →
              wpAny (model X.prog X.w) X.A (do bindName X.env nm .none; unbindBehindTheSuite X.env nm p2) (fun _ s7 => Q s7) X.xe s6 := fun S6 q => gone_ok (S6.unsuite okX) nd at_ kd q
          refine wpAny_mono ((su ea obB cls d (X.pn ++ pins) zcB ⟨_, datB⟩).run [] s5 _ H1 (offE D i) S5 (onYes rfl ea none0)) (fun fl s6 out => ?_) fun _ _ z => z.elim
          cases fl with
          | next => exact let ⟨σ6, H6, S6, q⟩ := out; gone S6 fun s7 J7 => ⟨_, _, J7, q⟩
          | brk => exact let ⟨σ6, H6, S6, q⟩ := out; gone S6 fun s7 J7 => ⟨_, _, J7, q⟩
          | cont => exact let ⟨σ6, H6, S6, q⟩ := out; gone S6 fun s7 J7 => ⟨_, _, J7, q⟩
          | ret v => exact let ⟨v6, σ6, H6, S6, r, q⟩ := out; gone S6 fun s7 J7 => ⟨_, _, _, J7, r, q⟩
    exact walk hk ask
end
end Ev
/-! Ev17: own exceptions over ValueError: raised, caught, looked at. -/
namespace Ev
open PySem PySem.Spec L2
/-! ### what the head tells of such a class -/
def oexB (K : PySem.W.Frag) (C : Addr) : Bool := match K.lookup C with
  | some ⟨.type "type", _, .cls cd, sl⟩ => (match cd.mro, sl.toList with
    | .ref D :: bm, [_, _, _, _, some (.builtin n), _] => D == C && (n == "ValueError.__new__" && (cd.hasDict && (!cd.hasDel && PySem.HandSPX.refsVE bm)))
    | _, _ => false)
  | _ => false
def excB (K : PySem.W.Frag) (C : Addr) (attr : Str) : Bool :=
  oexB K C && (He.eqO (PySem.W.findIn K (.ref C) "__setattr__") (some (some (.builtin "object.__setattr__"))) && (decide (PySem.W.subIn K (.ref C) (.type "BaseException") = some true) && (decide (PySem.W.typeIn K (.ref C) = some (.type "type")) &&
  (PySem.W.keepIn K (.ref C) && (He.eqO (PySem.W.findIn K (.ref C) attr) (some none) && (xfB K C && ((PySem.W.clsIn K C).isSome && (He.eqO (PySem.W.findIn K (.ref C) "__class__") (some (some (.builtin "object.__class__"))) &&
  (He.eqO (PySem.W.specialIn K (.builtin "object.__class__") "__get__") (some (some (.builtin "getset_descriptor.__get__"))) && (decide (PySem.W.takesIn K (.builtin "object.__class__") = some true) && decide (PySem.W.mroIn K C (.type "object") = some true)))))))))))
structure ExcF (K : PySem.W.Frag) (C : Addr) (attr : Str) : Prop where
  oex : OexC K C
  noat : PySem.W.findIn K (.ref C) attr = some none
  xf : XfC K C
  cls : (PySem.W.clsIn K C).isSome = true
  cat : PySem.W.findIn K (.ref C) "__class__" = some (some (.builtin "object.__class__"))
  get : PySem.W.specialIn K (.builtin "object.__class__") "__get__" = some (some (.builtin "getset_descriptor.__get__"))
  tks : PySem.W.takesIn K (.builtin "object.__class__") = some true
  obj : PySem.W.mroIn K C (.type "object") = some true
theorem oexB_ok {K : PySem.W.Frag} {C : Addr} (h : oexB K C = true) : ∃ nm q N bs bm sn sub ab col dd k0 k1 k2 k3 k5, K.lookup C = some (excClassObj nm q C N bs bm true sn sub ab col dd k0 k1 k2 k3 k5 "ValueError.__new__") ∧ PySem.HandSPX.refsVE bm = true := by
  unfold oexB at h
  split at h
  case h_2 => cases h
  rename_i dd cd sl lk
  split at h
  case h_2 => cases h
  rename_i D bm k0 k1 k2 k3 n k5 em es
  simp only [Bool.and_eq_true, beq_iff_eq, Bool.not_eq_true'] at h
  obtain ⟨rfl, rfl, hd, hx, hv⟩ := h
  obtain ⟨nm, bs, mro, ns, qn, hdd, sn, sub, ab, col, del⟩ := cd
  simp only at em hd hx
  subst em hd hx
  obtain ⟨l⟩ := sl
  simp only at es
  subst es
  exact ⟨nm, qn, ns, bs, bm, sn, sub, ab, col, dd, k0, k1, k2, k3, k5, lk, hv⟩
theorem excB_ok {K : PySem.W.Frag} {C : Addr} {attr : Str} (h : excB K C attr = true) : ExcF K C attr := by
  unfold excB at h
  obtain ⟨h1, h⟩ := He.ba h
  obtain ⟨h2, h⟩ := He.ba h
  obtain ⟨h3, h⟩ := He.ba h
  obtain ⟨h4, h⟩ := He.ba h
  obtain ⟨h5, h⟩ := He.ba h
  obtain ⟨h6, h⟩ := He.ba h
  obtain ⟨h7, h⟩ := He.ba h
  obtain ⟨h8, h⟩ := He.ba h
  obtain ⟨h9, h⟩ := He.ba h
  obtain ⟨h10, h⟩ := He.ba h
  obtain ⟨h11, h12⟩ := He.ba h
  exact ⟨⟨oexB_ok h1, He.eqO_ok h2, of_decide_eq_true h3, of_decide_eq_true h4, h5⟩, He.eqO_ok h6, xfB_ok h7, h8, He.eqO_ok h9, He.eqO_ok h10, of_decide_eq_true h11, of_decide_eq_true h12⟩
/-! ### its __init__: self.attr = param -/
section
variable {P : Program} {w : World} {K : PySem.W.Frag} {mg : Str → Option Value} {base : Heap} {f : Addr} {fd : FuncData}
def spInit (C : Addr) (attr : Str) : Sp := fun vs H Q _ => ∃ a y, vs = [.ref a, y] ∧ H a = some (exo a C none) ∧ ∀ dx, H dx = none → dx ≠ a → Q .non (upd (upd H dx (exd dx [(attr, y)])) a (exo a C (some dx)))
theorem init_ok {x qual : Str} {params : Arguments} {scope : Scope} {dvs : List V} {kws : List (Str × V)} {C : Addr} {attr par : Str} {p1 p2 p3 p4 : Pos} (E0_ : ExcF K C attr)
    (F : FunD K x qual params [.Assign [.Attribute (.Name "self" p1) attr p2] (.Name par p3) p4] scope dvs kws f fd) (S : FnScope ["self", par] ["self", par] scope)
    (h1 : scope.names.lookup ("self" : Str) = some NameKind.local := by rfl) (h2 : scope.names.lookup par = some NameKind.local := by rfl)
    (n1 : (par == ("__debug__" : Str)) = false := by decide +kernel) (n2 : (par == ("__classdict__" : Str)) = false := by decide +kernel)
    (hs : ∀ env : PySem.Env, swapsWith (.Name par p3) (some (.Attribute (.Name "self" p1) attr p2)) p4.line env = pure false := by intro _; rfl) :
    FnOk P w K mg base CX0 1 f fd ["self", par] (spInit C attr) := by
  refine F.ok S (fun vs H Q E h => ?_) (fun cdv A outer s H vs Q E hr h => ?_)
  · obtain ⟨a, y, rfl, _⟩ := h
    rfl
  · obtain ⟨a, y, rfl, ha, q⟩ := h
    refine ⟨_, PSs.nox (pss_one (ps_ost (pe_var (i := 0) rfl (.inl h1) (by decide +kernel) (by decide +kernel)) (pe_var (i := 1) rfl (.inl h2) n1 n2) (hs _))), ?_⟩
    exact ⟨y, rfl, .ref a, rfl, a, C, rfl, E0_.oex, E0_.noat, .inl ⟨ha, q⟩⟩
end
/-! ### raised -/
section
variable {C : Cy} {k j ci : Nat} {f : Addr} {fd : FuncData} {attr par x : Str} {e : Expr} {p pos pos2 : Pos} {m : M T}
def raiseS (ci : Nat) (attr : Str) (m : M T) : SM := exprS m fun t env => .ex ci [(attr, t)] env
theorem e_raise (X : ExcF C.X.K (C.ca ci) attr) (F : FnOk C.X.prog C.X.w C.X.K C.X.mg C.X.base CX0 k f fd ["self", par] (spInit (C.ca ci) attr)) (B : Bod C j) (hj : k + 1 ≤ j) (iC : PySem.W.findIn C.X.K (.ref (C.ca ci)) "__init__" = some (some (.ref f))) (tI : PySem.W.isFn C.X.K (.ref f) = true)
    (hb : Binds C.X.K fd ["self", par] []) (hg : Gl C.X x) (hm : C.X.mg x = some (.ref (C.ca ci))) (he : EvT C e m) (hdb : (x == ("__debug__" : Str)) = false := by decide +kernel) (hst : starEach [e] C.X.env = [(false, eval e C.X.env)] := by rfl) :
    EvS C (.Raise (some (.Call (.Name x p) [e] [] pos)) none pos2) (raiseS ci attr m) := by
  have ha : EvA C [e] (consM m (M.pure [])) := ea_cons he ea_nil hst
  refine ps_imp (ps_raise B.calm B.tk (pmk_oex (ds := []) (dvs := []) X.oex iC (beq_iff_eq.mp tI) F (B.room.mono hj) hb .nil (fun _ _ _ _ _ _ _ h => h.elim) hg hm ha hdb hst rfl)) fun D σ H ⟨Tm, F0, env, S, q⟩ => ⟨Tm, F0, env, S, ?_⟩
  have q' : At C (TLR C.G) Tm F0 σ (fun vs H1 => vs.length ≤ 1000 ∧ ∀ a, H1 a = none → spInit (C.ca ci) attr (.ref a :: (vs ++ [])) (upd H1 a (exo a (C.ca ci) none))
      (fun v H2 => v = .non ∧ ∃ (d : Addr) (fs : List (Str × V)), H2 a = some (exo a (C.ca ci) (some d)) ∧ H2 d = some (exd d fs) ∧ H1 d = none ∧ C.W (.ref (C.ca ci)) (some d) σ (upd (del H2 a) d (.xd fs))) (fun _ _ _ => False)) (consM m (M.pure []) env) := by
    have q0 : AtS C Tm F0 D ((m env).so fun t env => .ex ci [(attr, t)] env) := q
    show At C _ Tm F0 σ _ ((m env).bind fun t => M.bind (M.pure []) fun ts => M.pure (t :: ts))
    cases em : m env with
    | no =>
      rw [em] at q0
      exact q0.elim
    | ex c fs e1 =>
      rw [em] at q0
      exact fun d F' H' vs le S' e r => q0 d σ F' H' vs le S' e r
    | ok t e1 =>
      rw [em] at q0
      have q1 : AtS C Tm F0 D (.ex ci [(attr, t)] e1) := q0
      intro xs F' H' le S' r
      obtain ⟨y, r', ex, ry, rn⟩ := RepL.uncons r
      have en := rn.unnil
      subst en ex
      refine ⟨by simp, fun a na => ⟨a, y, rfl, upd_same, fun dx nd ne => ⟨rfl, dx, [(attr, y)], upd_same, by rw [upd_ne ne, upd_same], ?_, ?_⟩⟩⟩
      · rw [upd_ne ne] at nd
        exact nd
      · rw [upd_ne ne] at nd
        have same : upd (del (upd (upd (upd H' a (exo a (C.ca ci) none)) dx (exd dx [(attr, y)])) a (exo a (C.ca ci) (some dx))) a) dx (.xd [(attr, y)]) = upd H' dx (.xd [(attr, y)]) := by
          funext b
          by_cases h1 : b = dx
          · rw [h1, upd_same, upd_same]
          · rw [upd_ne h1, upd_ne h1]
            by_cases h2 : b = a
            · rw [h2, del_same, na]
            · rw [del_ne h2, upd_ne h2, upd_ne h1, upd_ne h2]
        rw [same]
        exact q1 dx σ F' _ [(attr, y)] le (S'.alloc nd) upd_same (.cons ry .nil)
  exact q'
end
end Ev
/-! Ev18: what a clause returns; try as a statement. -/
namespace Ev
open PySem PySem.Spec L2
abbrev XG : Type := Nat → List (Str × T) → Option T
abbrev XGs : Type := Nat → List (Str × T) → Option (List T)
section
variable (C : Cy) (i : Nat) (ea : Addr) (cls : Value) (d : Option Addr)
/-- a reading in a clause: R says of the result's tree and value -/
def rdX {α β : Type} (R : Hp → α → β → Prop) (g : Nat → List (Str × T) → Option α) : St → Hp → (β → Hp → Prop) → Prop := fun σ' H Q => ∃ Tm F env σ0 ci fs dd vs t, cls = .ref (C.ca ci) ∧ d = some dd ∧ σ'[i]? = some (some (.ref ea)) ∧ Sok C.G Tm F H σ0 env ∧ H dd = some (.xd vs) ∧ RepF C.G F fs vs ∧ g ci fs = some t ∧
  ∀ x F' H', Le F F' → Sok C.G Tm F' H' σ0 env → H' dd = some (.xd vs) → R F' t x → Q x H'
end
/-- the surroundings of a clause's suite -/
structure Sx (C : Cy) (i : Nat) (n : Str) (ea : Addr) (ob : Obj) (cls : Value) (d : Option Addr) : Prop where
  grd : C.X.A.guards = some []
  rm : Rm C
  at_ : C.X.N[i]? = some n
  loc : C.X.env.scope.names.lookup n = some .local
  zc : Zc cls d ob
  dat : ∃ vs, ob.data = .fields vs
abbrev EvX (C : Cy) (i : Nat) (ea : Addr) (ob : Obj) (pn : List (Addr × Obj)) (cls : Value) (d : Option Addr) (e : Expr) (g : XG) : Prop := PE (C.X.suite ea ((ea, ob) :: pn)) e (rdX C i ea cls d (fun F t x => Rep C.G F t x) g)
abbrev EvXs (C : Cy) (i : Nat) (ea : Addr) (ob : Obj) (pn : List (Addr × Obj)) (cls : Value) (d : Option Addr) (es : List Expr) (g : XGs) : Prop := PA (C.X.suite ea ((ea, ob) :: pn)) es (rdX C i ea cls d (fun F t x => RepL C.G F t x) g)
section
variable {C : Cy} {i : Nat} {n : Str} {ea : Addr} {ob : Obj} {pn : List (Addr × Obj)} {cls : Value} {d : Option Addr} {e : Expr} {es : List Expr} {g : XG} {gs : XGs} {pos p1 p2 p : Pos}
theorem x_con {v : V} {t : T} (h : PE (C.X.suite ea ((ea, ob) :: pn)) e (tC v)) (r : ∀ F, Rep C.G F t v) : EvX C i ea ob pn cls d e (fun _ _ => some t) := by
  refine pe_imp h fun σ H Q ⟨Tm, F, env, σ0, ci, fs, dd, vs, u, e1, e2, e3, S, hx, rf, eg, q⟩ => ?_
  cases eg
  exact q v F H Le.rfl S hx (r F)
theorem x_str {s : Str} {k : Nat} : EvX C i ea ob pn cls d (.Constant (.str s) k pos) (fun _ _ => some (.str s)) := x_con pe_str fun F => mk_str s
theorem x_attr {attr : Str} {cs : List Nat} (Z : Sx C i n ea ob cls d) (hc : ∀ c ∈ cs, ExcF C.X.K (C.ca c) attr) (h1 : (n == ("__debug__" : Str)) = false := by decide +kernel) (h2 : (n == ("__classdict__" : Str)) = false := by decide +kernel)
    (hb : attributeBase (.Name n p1) attr C.X.env (eval (.Name n p1) C.X.env) = eval (.Name n p1) C.X.env := by rfl) :
    EvX C i ea ob pn cls d (.Attribute (.Name n p1) attr pos) (fun ci fs => if ci ∈ cs then fs.lookup attr else none) := by
  refine ⟨fun pins s σ H Q I ⟨Tm, F, env, σ0, ci, fs, dd, vs, t, e1, e2, e3, S, hx, rf, eg, q⟩ => ?_⟩
  have eg2 : (if ci ∈ cs then fs.lookup attr else none) = some t := eg
  split at eg2
  case isFalse => cases eg2
  rename_i hm
  have X := hc ci hm
  obtain ⟨v, hv, rv⟩ := rf.lookup eg2
  exact (pe_xf (e := .Name n p1) (n := attr) (pos := pos) X.xf X.noat Z.zc Z.dat (pe_var (X := C.X.suite ea ((ea, ob) :: pn)) (i := i) Z.at_ (.inl Z.loc) h1 h2) hb).run pins s σ H Q I ⟨.ref ea, e3, rfl, e1, dd, vs, v, e2, hx, hv, q v F H Le.rfl S hx rv⟩
def reprX (g : XG) : XG := fun ci fs => (g ci fs).bind fun t => match reprT t with
  | some (.fz u) => some u
  | _ => none
theorem x_repr (Z : Sx C i n ea ob cls d) (hg : Gl C.X "repr") (hm : C.X.mg "repr" = none) (hv : bootBuiltins "repr" = some (.builtin "repr")) (h : EvX C i ea ob pn cls d e g) (he : starEach [e] C.X.env = [(false, eval e C.X.env)] := by rfl) :
    EvX C i ea ob pn cls d (.Call (.Name "repr" p) [e] [] pos) (reprX g) := by
  have cr := call_reprD (C := ⟨C.X.suite ea ((ea, ob) :: pn), C.ca, fun _ _ _ _ => False⟩) Z.grd Z.rm
  refine pe_imp (pe_callB cr hg hm hv (pa_cons h pa_nil he) (by decide) (by decide) he rfl) fun σ H Q ⟨Tm, F, env, σ0, ci, fs, dd, vs, t, e1, e2, e3, S, hx, rf, eg, q⟩ => ?_
  obtain ⟨u, eu, er⟩ := Option.bind_eq_some_iff.mp eg
  refine ⟨Tm, F, env, σ0, ci, fs, dd, vs, u, e1, e2, e3, S, hx, rf, eu, fun x F' H' le S' hx' rx => ?_⟩
  unfold reprT at er
  split at er
  · rename_i w ew
    cases er
    split at ew
    · rename_i hh
      cases ew
      exact ⟨x, toD u, rfl, Rep.dp S' u hh.1 rx, hh.1, hh.2.1, hh.2.2.1, hh.2.2.2, q _ F' H' le S' hx' (mk_str _)⟩
    · cases ew
  · cases er
/-- isinstance(e, D), e the clause's exception -/
theorem call_isX {u : Value} {em : Nat → Option Bool} {attr : Str} {cs : List Nat} (Z : Sx C i n ea ob cls d) (hc : ∀ c ∈ cs, ExcF C.X.K (C.ca c) attr) (hk : ∀ c b, em c = some b → c ∈ cs ∧ PySem.W.kitOne C.X.K (.ref (C.ca c)) u = some b) :
    CallR (C.X.suite ea ((ea, ob) :: pn)) (.builtin "isinstance") (fun xs H Q => ∃ (c : V) (ci : Nat) (b : Bool) (dd : Addr) (vs : List (Str × V)), xs = [.ref ea, c] ∧ ClsV c u ∧ cls = .ref (C.ca ci) ∧ d = some dd ∧ H dd = some (.xd vs) ∧ em ci = some b ∧ Q (.bl b) H) := by
  intro pins s σ H xs us Q I r h
  obtain ⟨c, ci, b, dd, vs, rfl, k, ec, ed, hx, hem, q⟩ := h
  obtain ⟨u1, u2, rfl, r1, r2⟩ := vals2 r
  have e2 := k.eq r2
  subst e2
  cases r1
  obtain ⟨hm, kk⟩ := hk ci b hem
  have X := hc ci hm
  obtain ⟨get, _⟩ := I.pin (ea, ob) (List.mem_append_left _ List.mem_cons_self)
  obtain ⟨fv, hd⟩ := Z.dat
  have ok : ObjOk C.X.prog C.X.w H s.heap dd (.xd vs) := I.hok dd _ hx
  obtain ⟨mA, hns, _⟩ := ok
  obtain ⟨od, ho, _⟩ := lookIn_ns hns
  have z1 : ob.cls = .ref (C.ca ci) := Z.zc.1.trans ec
  have z2 : ob.dict = some dd := Z.zc.2.trans ed
  have J : PySem.W.InstAt s.heap ea ob (C.ca ci) (some od) := ⟨get, z1, by unfold PySem.W.notCls; rw [hd] <;> rfl, by rw [z2]; exact ho⟩
  have kit := PySem.W.kitx_exc (K := C.X.K) (x := ea) (ox := ob) (od := some od) X.cls X.xf.ga X.xf.gg X.xf.exC X.cat X.get X.tks X.obj
  exact PySem.W.kia_one kit I.kIn J kk (fun z => nomatch z) fun tk => ⟨.bl b, H, I.tok tk, rfl, q⟩
theorem x_isi {c : V} {u : Value} {em : Nat → Option Bool} {attr nc : Str} {cs : List Nat} (Z : Sx C i n ea ob cls d) (hc : ∀ c ∈ cs, ExcF C.X.K (C.ca c) attr) (hk : ∀ c b, em c = some b → c ∈ cs ∧ PySem.W.kitOne C.X.K (.ref (C.ca c)) u = some b)
    (hg : Gl C.X "isinstance") (hm : C.X.mg "isinstance" = none) (kc : ClsV c u) (hu : PE (C.X.suite ea ((ea, ob) :: pn)) (.Name nc p2) (tC c)) (h1 : (n == ("__debug__" : Str)) = false := by decide +kernel) (h2 : (n == ("__classdict__" : Str)) = false := by decide +kernel) :
    EvX C i ea ob pn cls d (.Call (.Name "isinstance" p) [.Name n p1, .Name nc p2] [] pos) (fun ci _ => (em ci).map T.bl) := by
  refine pe_imp (pe_callB (call_isX Z hc hk) hg hm PyProof.Rows.boot_isinstance (pa_cons (pe_var (X := C.X.suite ea ((ea, ob) :: pn)) (i := i) Z.at_ (.inl Z.loc) h1 h2) (pa_cons hu pa_nil rfl) rfl) (by decide) (by decide) rfl rfl) fun σ H Q ⟨Tm, F, env, σ0, ci, fs, dd, vs, t, e1, e2, e3, S, hx, rf, eg, q⟩ => ?_
  obtain ⟨b, eb, et⟩ := Option.map_eq_some_iff.mp eg
  subst et
  exact ⟨.ref ea, e3, c, ci, b, dd, vs, rfl, kc, e1, e2, hx, eb, q _ F H Le.rfl S hx (mk_bl b)⟩
theorem x_nil : EvXs C i ea ob pn cls d [] (fun _ _ => some []) := by
  refine pa_imp pa_nil fun σ H Q ⟨Tm, F, env, σ0, ci, fs, dd, vs, t, e1, e2, e3, S, hx, rf, eg, q⟩ => ?_
  cases eg
  exact q [] F H Le.rfl S hx .nil
def consX (g : XG) (gs : XGs) : XGs := fun ci fs => (g ci fs).bind fun t => (gs ci fs).map (t :: ·)
theorem x_cons (h : EvX C i ea ob pn cls d e g) (h' : EvXs C i ea ob pn cls d es gs) (hs : starEach (e :: es) C.X.env = (false, eval e C.X.env) :: starEach es C.X.env := by rfl) : EvXs C i ea ob pn cls d (e :: es) (consX g gs) := by
  refine pa_imp (pa_cons h h' hs) fun σ H Q ⟨Tm, F, env, σ0, ci, fs, dd, vs, ts, e1, e2, e3, S, hx, rf, eg, q⟩ => ?_
  obtain ⟨t, et, er⟩ := Option.bind_eq_some_iff.mp eg
  obtain ⟨us, eu, ec⟩ := Option.map_eq_some_iff.mp er
  subst ec
  refine ⟨Tm, F, env, σ0, ci, fs, dd, vs, t, e1, e2, e3, S, hx, rf, et, fun x F' H' le S' hx' rx => ?_⟩
  refine ⟨Tm, F', env, σ0, ci, fs, dd, vs, us, e1, e2, e3, S', hx', RepF.mono le _ rf, eu, fun xs F2 H2 le2 S2 hx2 rs => ?_⟩
  exact q (x :: xs) F2 H2 (le.trans le2) S2 hx2 (.cons (Rep.mono le2 t rx) rs)
def lstX (gs : XGs) : XG := fun ci fs => (gs ci fs).bind fun ts => if ts.length ≤ sizeLine then some (.lst ts) else none
theorem x_lst (h : EvXs C i ea ob pn cls d es gs) : EvX C i ea ob pn cls d (.List es pos) (lstX gs) := by
  refine pe_imp (pe_lst h) fun σ H Q ⟨Tm, F, env, σ0, ci, fs, dd, vs, t, e1, e2, e3, S, hx, rf, eg, q⟩ => ?_
  obtain ⟨ts, et, ec⟩ := Option.bind_eq_some_iff.mp eg
  split at ec
  case isFalse => cases ec
  rename_i hl
  cases ec
  refine ⟨Tm, F, env, σ0, ci, fs, dd, vs, ts, e1, e2, e3, S, hx, rf, et, fun xs F' H' le S' hx' rs => ⟨by rw [rs.length]; exact hl, fun p np => ?_⟩⟩
  have le2 := Le.upd (o := .lst xs) (S'.new np).1
  refine q _ _ _ (le.trans le2) (S'.allocF np) (by rw [upd_ne (ne_of_none hx' np)]; exact hx') ?_
  simp only [Rep]
  exact ⟨p, xs, rfl, .inl (.inl upd_same), RepL.mono le2 _ rs⟩
end
/-! ### the statement -/
structure XC where
  i : Nat
  em : Nat → Option Bool
  g : XG
def tryC (ci : Nat) (fs : List (Str × T)) (env : Env) : List XC → SO
  | [] => .ex ci fs env
  | q :: r => match q.em ci with
    | some true => if q.i < env.length then (match q.g ci fs with
      | some t => .rt (.fz t) env
      | none => .no) else .no
    | some false => tryC ci fs env r
    | none => .no
def tryS (b : SM) (l : List XC) : SM := fun env => match b env with
  | .ex ci fs e => tryC ci fs e l
  | o => o
/-- the clauses keep to their readings -/
inductive XOk (C : Cy) : List ExceptHandler → List XC → List Value → Prop
  | nil : XOk C [] [] []
  | cons {x n : Str} {q : XC} {e : Expr} {p1 p2 p3 : Pos} {hds : List ExceptHandler} {l : List XC} {c : Value} {cs : List Value} (at_ : C.X.N[q.i]? = some n) (loc : C.X.env.scope.names.lookup n = some .local) (kd : C.X.env.kindOf n = some .local) (cn : Names C.X x c)
      (em : ∀ k b, q.em k = some b → PySem.W.exmOne C.X.K (.ref (C.ca k)) c = some b)
      (su : ∀ (ea : Addr) (ob : Obj) (cls : Value) (d : Option Addr) (pn : List (Addr × Obj)), Sx C q.i n ea ob cls d → EvX C q.i ea ob pn cls d e q.g) (rest : XOk C hds l cs) :
      XOk C (.ExceptHandler (some (.Name x p1)) (some n) [.Return (some e) p3] p2 :: hds) (q :: l) (c :: cs)
section
variable {C : Cy} {k : Nat}
def clOf (C : Cy) (c : Value) (q : XC) : Cl := ⟨c, q.i, fun ea cls d D σ H => rdX C q.i ea cls d (fun F t x => Rep C.G F t x) q.g σ H D.rt⟩
theorem XOk.to (B : Bod C k) {hds : List ExceptHandler} {l : List XC} {cs : List Value} (h : XOk C hds l cs) : ClsOk C.X hds (cs.zipWith (clOf C) l) := by
  induction h with
  | nil => exact .nil
  | cons at_ loc kd cn em su rest ih =>
    refine .cons at_ kd cn (fun ea ob cls d pn zc dat => ?_) ih
    exact pss_one (ps_ret (su ea ob cls d pn ⟨B.grd, B.rm, at_, loc, zc, dat⟩))
/-- from what try asks to what its clauses ask -/
theorem tryC_ask {Tm : Amb} {F : Hp} {D : Ends} {hds : List ExceptHandler} {l : List XC} {cs : List Value} (hk : XOk C hds l cs) {ci : Nat} {fs : List (Str × T)} {env : Env} (q : AtS C Tm F D (tryC ci fs env l)) (d : Addr) (σ : St) (F' H : Hp) (vs : List (Str × V)) (le : Le F F') (S : Sok C.G Tm F' H σ env) (hx : H d = some (.xd vs)) (rf : RepF C.G F' fs vs) :
    askC C.X.K C.W D (cs.zipWith (clOf C) l) (.ref (C.ca ci)) (some d) σ H := by
  induction hk with
  | nil => exact q d σ F' H vs le S hx rf
  | @cons x n qx e p1 p2 p3 hds l c cs at_ loc kd cn em su rest ih =>
    simp only [tryC] at q
    cases ee : qx.em ci with
    | none =>
      rw [ee] at q
      exact q.elim
    | some b =>
      rw [ee] at q
      refine ⟨b, em ci b ee, fun hb ea na => ?_, fun hb => ?_⟩
      · subst hb
        dsimp only at q
        by_cases hl : qx.i < env.length
        case neg =>
          rw [if_neg hl] at q
          exact q.elim
        rw [if_pos hl] at q
        cases eg : qx.g ci fs with
        | none =>
          rw [eg] at q
          exact q.elim
        | some t =>
          rw [eg] at q
          have hi : qx.i < σ.length := by rw [S.len]; exact hl
          refine ⟨Tm, F', env, σ, ci, fs, d, vs, t, rfl, rfl, List.getElem?_set_self hi, S, hx, rf, eg, fun y F2 H2 le2 S2 _ ry => ?_⟩
          exact q y σ F2 H2 (le.trans le2) S2 ry
      · subst hb
        exact ih q
theorem e_try {body : List Stmt} {b : SM} {hd : ExceptHandler} {hds : List ExceptHandler} {l : List XC} {cs : List Value} {pos : Pos} (B : Bod C k) (nd : C.X.N.Nodup)
    (hb : ∀ (W : WX) (pn : List (Addr × Obj)) (wish : Value → Shared → Prop), Bod ⟨C.X.tr pn wish, C.ca, W⟩ k → EvSs ⟨C.X.tr pn wish, C.ca, W⟩ body b) (hk : XOk C (hd :: hds) l cs) : EvS C (.Try body (hd :: hds) [] [] pos) (tryS b l) := by
  refine ps_imp (try_clauses (tb := fun W => tS ⟨C.X, C.ca, W⟩ b) B.stk B.frm nd B.tk (fun W pn wish tk own => hb W pn wish ⟨B.room, B.grd, tk, own, B.calm, B.stk, B.frm⟩) (hk.to B)) fun D σ H ⟨Tm, F, env, S, q⟩ => ⟨Tm, F, env, S, ?_⟩
  unfold tryS at q
  cases eb : b env with
  | nx e => rw [eb] at q; exact q
  | rt r e => rw [eb] at q; exact q
  | bk e => rw [eb] at q; exact q
  | ct e => rw [eb] at q; exact q
  | no => rw [eb] at q; exact q
  | ex ci fs e =>
    rw [eb] at q
    exact fun d σ' F' H' vs le S' hx rf => tryC_ask hk q d σ' F' H' vs le S' hx rf
end
end Ev
/-! Ev19: a, *b = t. -/
namespace Ev
open PySem PySem.Spec L2
section
variable {prog : Program} {w : World} {A : Around} {E : Value → Shared → Prop} {s : Shared}
/-- what is left of a walk is a walk -/
theorem walk_rest {I : Addr} {fp wr : List Addr} {G : Array GenState → Array GenState → Prop} {n : Nat} {P : Nat → Value → Prop} {St : Nat → Shared → Prop} (W : WalksS prog w A I fp wr G n P St) (k : Nat) (hk : k ≤ n) :
    WalksS prog w A I fp wr G (n - k) (fun i => P (k + i)) (fun i => St (k + i)) where
  sub := W.sub
  grefl := W.grefl
  gtrans := W.gtrans
  frame := fun i => W.frame (k + i)
  item := fun i s Q E hi st hQ => W.item (k + i) s Q E (by omega) st fun v s' p t => hQ v s' p (by rw [Nat.add_assoc] at t; exact t)
  done := fun s Q E st hQ => W.done s Q E (by rw [show k + (n - k) = n by omega] at st; exact st) hQ
  self := fun i => W.self (k + i)
theorem items_drop {items acc : Array Value} {k n : Nat} (hn : n = items.size - k) (h : ItemsOf (fun i v => items[k + i]? = some v) acc n) : acc.toList = items.toList.drop k := by
  apply List.ext_getElem?
  intro i
  rw [Array.getElem?_toList, List.getElem?_drop, Array.getElem?_toList]
  by_cases h1 : i < n
  · have h2 : i < acc.size := by rw [h.1]; exact h1
    have e : acc[i]? = some acc[i] := Array.getElem?_eq_getElem h2
    rw [e]
    exact (h.2 i _ e).symm
  · rw [Array.getElem?_eq_none (by rw [h.1]; omega), Array.getElem?_eq_none (by omega)]
/-- one starred target among n, at i: what is drawn of a tuple -/
theorem unpack_star {t : Addr} {items : Array Value} {n i : Nat} {Q : List Value → Shared → Prop} (hh : A.handled = none) (ht : PyProof.Rows.IsTup s.heap t items) (hi : i ≤ n - 1) (hz : n - 1 ≤ items.size) (hs : items.size ≤ sizeLine)
    (hQ : ∀ (h' : Heap) (tk : Nat), s.toks ≤ tk → (∀ b o, s.heap.get? b = some o → h'.get? b = some o) →
      Q (items.toList.take i ++ [.ref h'.objs.size] ++ (items.toList.drop i).drop ((items.toList.drop i).length - (n - 1 - i))) { s with heap := h'.push { cls := .type "list", data := .seq ((items.toList.drop i).take ((items.toList.drop i).length - (n - 1 - i))).toArray }, toks := tk }) :
    wpAny (model prog w) A (unpackItems (.ref t) n (some i)) Q E s := by
  have hlt : t ≠ s.heap.objs.size := by obtain ⟨o, ho, _⟩ := ht; exact Nat.ne_of_lt (Heap.lt_size ho)
  have hlt' : t < s.heap.objs.size := by obtain ⟨o, ho, _⟩ := ht; exact Heap.lt_size ho
  unfold unpackItems
  refine wpAny_bind ?_
  unfold notIterableAtAll
  refine wpAny_bind (wpAny_specialOf ht.typeIs PyProof.Rows.slot_tuple_iter.lookup ?_)
  refine wpAny_pure ?_
  simp only [Bool.false_eq_true, if_false]
  refine wpAny_bind (wpAny_holding (PyProof.Rows.iter_tuple ht ?_))
  refine wpAny_bind (wpAny_holding (PyProof.Rows.draw_tuple hlt i 0 _ _ ⟨_, Heap.get?_push_size _ rfl, rfl, rfl⟩ (ht.push _) (by omega) fun h1 it1 sb1 => ?_))
  rw [List.drop_zero]
  have lt_ : (items.toList.take i).length = i := by simp; omega
  rw [if_neg (by rw [lt_]; omega)]
  have t1 : PyProof.Rows.IsTup h1 t items := (ht.push _).extBut sb1.extBut hlt
  rw [Nat.zero_add] at it1
  have sz1 : s.heap.objs.size < h1.objs.size := by
    obtain ⟨o, ho, _⟩ := it1
    exact Heap.lt_size ho
  have keep1 : ∀ b o, s.heap.get? b = some o → h1.get? b = some o := fun b o e => sb1.extBut b o (Nat.ne_of_lt (Heap.lt_size e)) (Heap.get?_push_of_some _ e)
  have W := walk_rest ((Walks.tuple (prog := prog) (w := w) (A := A.in1) hh s.heap.objs.size t hlt items).toS) i (by omega : i ≤ items.size)
  refine wpAny_bind (wpAny_holding (wpAny_collect_iter (s := { s with heap := h1 }) (.inr (.inr (.inr rfl))) W (fun j s' st => st.1.typeIs) ⟨by rw [Nat.add_zero]; exact it1, t1⟩ (fun b hb => ?_) (by simp) (fun s2 acc mv ac => ?_) (by show _ ≤ sizeLine; omega)))
  · rcases List.mem_cons.mp hb with rfl | hb
    · exact sz1
    · rcases List.mem_cons.mp hb with rfl | hb
      · exact Nat.lt_trans hlt' sz1
      · cases hb
  have ea := items_drop rfl ac
  rw [ea]
  have lr : (items.toList.drop i).length = items.size - i := by simp
  rw [if_neg (by rw [lr]; omega)]
  have keep2 : ∀ b o, s.heap.get? b = some o → s2.heap.get? b = some o := fun b o e => mv.heap b o (by
    intro hb
    rcases List.mem_cons.mp hb with rfl | hb
    · exact Nat.lt_irrefl _ (Heap.lt_size e)
    · cases hb) (keep1 b o e)
  refine wpAny_bind (wpAny_newList ?_ (by
    rw [List.length_take, lr]
    omega))
  refine wpAny_pure ?_
  obtain ⟨h2, g2, d2, tk2, os2⟩ := s2
  have e1 : g2 = s.gens := mv.gens
  have e2 : d2 = s.drawn := mv.drawn
  have e3 : os2 = s.os := mv.os
  subst e1 e2 e3
  exact hQ h2 tk2 mv.toks keep2
end
/-- a starred target among n, at i; the others by t -/
def gStar (K : PySem.W.Frag) (n i : Nat) (t : TGs) : TG := fun v σ H Q => ∃ a xs, v = .ref a ∧ SqT K H a xs ∧ n - 1 ≤ xs.length ∧ ∀ p, H p = none →
  t (xs.take i ++ [.ref p] ++ (xs.drop i).drop ((xs.drop i).length - (n - 1 - i))) σ (upd H p (.lst ((xs.drop i).take ((xs.drop i).length - (n - 1 - i))))) Q
theorem vals_take {vs : List V} {us : List Value} (h : Vals vs us) (k : Nat) : Vals (vs.take k) (us.take k) := by
  induction h generalizing k with
  | nil => simp; exact .nil
  | cons a b ih =>
    cases k with
    | zero => simp; exact .nil
    | succ k => simpa using .cons a (ih k)
theorem vals_drop {vs : List V} {us : List Value} (h : Vals vs us) (k : Nat) : Vals (vs.drop k) (us.drop k) := by
  induction h generalizing k with
  | nil => simp; exact .nil
  | cons a b ih =>
    cases k with
    | zero => simpa using .cons a b
    | succ k => simpa using ih k
theorem pg_star {X : Cx} {es fs : List Expr} {k n i : Nat} {pos : Pos} {t : TGs} (hc : X.calm = true) (h : PGs X fs t) (hn : (assignEach es X.env).length = n) (hst : (assignEach es X.env).findIdx? (·.1) = some i) (hi : i ≤ n - 1)
    (hm : (assignEach es X.env).map (·.2) = (assignEach fs X.env).map (·.2)) : PG X (.Tuple es k pos) (gStar X.K n i t) := by
  refine ⟨fun pins s σ H v u Q I r hw => ?_⟩
  obtain ⟨a, xs, e1, hq, hl, hw⟩ := hw
  subst e1
  cases r
  obtain ⟨its, rv, ht, hz⟩ := I.tuple hq
  have ll := rv.length
  rw [PyProof.Rows.assign_Tuple]
  refine wpAny_bind (wpAny_standAt ?_)
  unfold unpack
  rw [hn, hst]
  refine wpAny_bind (wpAny_holding (unpack_star (I.ok.hd hc) ht hi (by simp; omega) (by simp; omega) fun h' tk htk keep => ?_))
  have I1 : Inv X pins σ H { s with heap := h', toks := tk } := I.kept (t' := tk) keep
  have I2 := I1.laid (t' := tk) (a := h'.objs.size) (o := .lst ((xs.drop i).take ((xs.drop i).length - (n - 1 - i)))) (h' := h'.push { cls := .type "list", data := .seq ((its.drop i).take ((its.drop i).length - (n - 1 - i))).toArray }) (fun b u e => Heap.get?_push_of_some _ e) (Nat.le_refl _)
    ⟨by rw [List.length_take, List.length_drop]; omega, (its.drop i).take ((its.drop i).length - (n - 1 - i)), 0, by
      have e : (xs.drop i).length = (its.drop i).length := by rw [List.length_drop, List.length_drop, ll]
      rw [e]
      exact vals_take (vals_drop rv i) _, Heap.get?_push_size _ rfl⟩
  rw [hm]
  refine h.run pins _ σ _ _ _ Q I2 ?_ (hw _ (I1.hok.fresh (Nat.le_refl _)))
  have e : (xs.drop i).length = (its.drop i).length := by rw [List.length_drop, List.length_drop, ll]
  rw [e]
  have one : Vals [V.ref h'.objs.size] [Value.ref h'.objs.size] := .cons rfl .nil
  exact ((vals_take rv i).append one).append (vals_drop (vals_drop rv i) _)
/-- .. as a statement -/
def starS (m : M T) (n i : Nat) (g : TMs) : SM := exprS m fun t env => match t with
  | .tup ts => if n - 1 ≤ ts.length then (match g (ts.take i ++ [.lst ((ts.drop i).take ((ts.drop i).length - (n - 1 - i)))] ++ (ts.drop i).drop ((ts.drop i).length - (n - 1 - i))) env with
    | some e => .nx e
    | none => .no) else .no
  | _ => .no
section
variable {C : Cy} {es fs : List Expr} {e : Expr} {k n i : Nat} {p pos : Pos} {m : M T} {js : List Nat} {g : TMs}
theorem e_star (hc : C.X.calm = true) (h : EvT C e m) (hg : EvGs C fs js g) (hn : (assignEach es C.X.env).length = n) (hst : (assignEach es C.X.env).findIdx? (·.1) = some i) (hi : i ≤ n - 1) (hm : (assignEach es C.X.env).map (·.2) = (assignEach fs C.X.env).map (·.2))
    (hs : swapsWithSole [.Tuple es k p] e pos.line C.X.env = pure false := by rfl) (hw : swappedStores [.Tuple es k p] e C.X.env = pure none := by rfl) : EvS C (.Assign [.Tuple es k p] e pos) (starS m n i g) := by
  refine ps_imp (ps_asg h (pg_star hc hg hn hst hi hm) hs hw rfl) fun D σ H ⟨Tm, F, env, S, q⟩ => ⟨Tm, F, env, S, ?_⟩
  refine AtS.expr q fun t env1 x F1 H1 le1 S1 r1 q1 => ?_
  cases t <;> first | exact q1.elim | skip
  rename_i ts
  obtain ⟨a, xs, ex, hq, rl⟩ := rep_tup r1
  have ll := rl.length
  dsimp only at q1
  by_cases hl : n - 1 ≤ ts.length
  case neg =>
    rw [if_neg hl] at q1
    exact q1.elim
  rw [if_pos hl] at q1
  refine ⟨a, xs, ex, S1.sqT hq, by omega, fun p np => ?_⟩
  have ed : (xs.drop i).length = (ts.drop i).length := by rw [List.length_drop, List.length_drop, ll]
  rw [ed]
  have le2 := Le.upd (o := .lst ((xs.drop i).take ((ts.drop i).length - (n - 1 - i)))) (S1.new np).1
  have S2 := S1.allocF (o := .lst ((xs.drop i).take ((ts.drop i).length - (n - 1 - i)))) np
  cases eg : g (ts.take i ++ [.lst ((ts.drop i).take ((ts.drop i).length - (n - 1 - i)))] ++ (ts.drop i).drop ((ts.drop i).length - (n - 1 - i))) env1 with
  | none =>
    rw [eg] at q1
    exact q1.elim
  | some env2 =>
    rw [eg] at q1
    refine ⟨Tm, _, env1, _, env2, S2, ?_, eg, fun σ' S' _ => q1 σ' _ _ le2 S'⟩
    have rl2 := RepL.mono le2 _ rl
    refine ((rl2.take i).append (.cons ?_ .nil)).append ((rl2.drop i).drop _)
    simp only [Rep]
    exact ⟨p, _, rfl, .inl (.inl upd_same), (rl2.drop i).take _⟩
end
end Ev
/-! Ev20: enumerate, append, in. -/
namespace Ev
open PySem PySem.Spec L2
/-! ### enumerate -/
def enumT (ts : List T) : List T := ts.zipIdx.map fun p => .tup [.int (p.2 : Nat), p.1]
theorem enumT_len (ts : List T) : (enumT ts).length = ts.length := by simp [enumT]
theorem enumT_get (ts : List T) (i : Nat) : (enumT ts)[i]? = (ts[i]?).map fun t => .tup [.int (i : Nat), t] := by
  unfold enumT
  rw [List.getElem?_map, List.getElem?_zipIdx]
  cases ts[i]? <;> simp
theorem wk_enum {G : Gr} {F : Hp} {a : Addr} {xs : List V} {ts : List T} (h : LstAt G.K F a xs) (r : RepL G F ts xs) : Wk G (Ite G.K a) (enumT ts) F [] := by
  refine ⟨fun i Tm F2 H σ env hi le S _ => ?_, fun i Tm F2 H σ env x H' hi le S _ y => ?_, fun Tm F2 H σ env le S _ => ?_⟩
  · rw [enumT_len] at hi
    obtain ⟨x, hx, _⟩ := r.get (List.getElem?_eq_getElem hi)
    exact ⟨xs, x, (S.lstAt (le.lstAt h)).sq, hx⟩
  · rw [enumT_len] at hi
    obtain ⟨p, x, ev, np, eh, hx⟩ := y
    subst ev eh
    have hx' := hx xs (S.lstAt (le.lstAt h)).sq
    obtain ⟨t, ht, rt⟩ := r.getV hx'
    have le2 := Le.upd (o := .tup [.int (i : Nat), x]) (S.new np).1
    refine ⟨_, .tup [.int (i : Nat), t], le2, S.allocF np, by rw [enumT_get, ht]; rfl, ?_, fun b o e => by rw [upd_ne (ne_of_none e np)]; exact e⟩
    simp only [Rep]
    exact ⟨p, _, rfl, .inl (.inl upd_same), .cons (mk_int _) (.cons (Rep.mono (le.trans le2) t rt) .nil)⟩
  · exact ⟨xs, (S.lstAt (le.lstAt h)).sq, by rw [r.length, enumT_len]; exact Nat.le_refl _⟩
section
variable {C : Cy} {e o : Expr} {elts : List Expr} {kk : Nat} {p pos apos cpos tpos : Pos} {f : M T} {g : M Rv}
def enT : List T → Option (List T)
  | [.lst ts] => some (enumT ts)
  | _ => none
theorem ei_enum {f : M (List T)} (hg : Gl C.X "enumerate") (hm : C.X.mg "enumerate" = none) (ha : EvA C [e] f) (hs : starEach [e] C.X.env = [(false, eval e C.X.env)] := by rfl) :
    EvI C (.Tuple elts kk tpos) (.Call (.Name "enumerate" p) [e] [] pos) (M.bind f fun ts => M.of (enT ts)) := by
  refine pi_imp (pi_enum hg hm ha hs) fun σ H R ⟨Tm, F, env, S, q⟩ => ⟨Tm, F, env, S, ?_⟩
  refine At.bind (R' := WkR C.G []) (Q' := R) q fun ts env1 xs F1 H1 le1 S1 r1 q1 => of_some q1 fun us hus q2 => ?_
  unfold enT at hus
  split at hus
  case h_2 => cases hus
  cases hus
  obtain ⟨x, r, ex, h1, h2⟩ := r1.uncons
  obtain ⟨a, ys, ey, hq, rl⟩ := rep_lst h1
  exact ⟨a, ys, by rw [ex, h2.unnil, ey], (S1.lstAt hq).sq, q2 _ F1 H1 Le.rfl S1 (wk_enum hq rl)⟩
/-! ### in: a text in a row of texts -/
def inT : T → T → Option Bool
  | .str s, .tup us => (asStrs us).map fun ys => ys.any (· == s)
  | .str s, .lst us => (asStrs us).map fun ys => ys.any (· == s)
  | _, _ => none
def ninT (t u : T) : Option Bool := (inT t u).map not
theorem asStrs_rep {G : Gr} {F : Hp} : ∀ {ts : List T} {xs : List V} {ys : List Str}, asStrs ts = some ys → RepL G F ts xs → xs = ys.map V.str
  | [], xs, ys, e, r => by cases e; exact r.unnil
  | t :: ts, xs, ys, e, r => by
    cases t <;> first | (cases e; done) | skip
    rename_i z
    obtain ⟨zs, e1, e2⟩ := Option.map_eq_some_iff.mp (show (asStrs ts).map (z :: ·) = some ys from e)
    subst e2
    obtain ⟨x, r', ex, h1, h2⟩ := r.uncons
    rw [ex, rep_str h1, asStrs_rep e1 h2]
    rfl
theorem flat_strs (ys : List Str) : (ys.map V.str).all flatV = true := by
  induction ys with
  | nil => rfl
  | cons y ys ih => rw [List.map_cons, List.all_cons, ih]; rfl
theorem inV_strs (s : Str) (ys : List Str) : inV (.str s) (ys.map V.str) = ys.any (· == s) := by
  unfold inV
  rw [List.any_map]
  rfl
theorem in_row {Tm : Amb} {F H : Hp} {σ : St} {env : Env} {x y : V} {t u : T} {w : Bool} (S : Sok C.G Tm F H σ env) (p1 : Pk C.G F H t x) (p2 : Pk C.G F H u y) (hw : inT t u = some w) : ∃ p xs, y = .ref p ∧ (SqL C.X.K H p xs ∨ SqT C.X.K H p xs) ∧ flatV x = true ∧ xs.all flatV = true ∧ inV x xs = w := by
  cases t <;> first | (cases hw; done) | skip
  rename_i s
  have ex := pk_str p1
  subst ex
  cases u <;> first | (cases hw; done) | skip
  · rename_i us
    obtain ⟨ys, e1, e2⟩ := Option.map_eq_some_iff.mp hw
    obtain ⟨a, xs, ey, hq, rl⟩ := pk_tup S p2
    have e3 := asStrs_rep e1 rl
    subst e3
    exact ⟨a, _, ey, .inr hq, rfl, flat_strs ys, by rw [inV_strs]; exact e2⟩
  · rename_i us
    obtain ⟨ys, e1, e2⟩ := Option.map_eq_some_iff.mp hw
    obtain ⟨a, xs, ey, hq, rl⟩ := pk_lst S p2
    have e3 := asStrs_rep e1 rl
    subst e3
    exact ⟨a, _, ey, .inl hq.sq, rfl, flat_strs ys, by rw [inV_strs]; exact e2⟩
theorem ok_in : CmpOk C .In inT := by
  refine ⟨_, op_in_seq, fun {Tm F H σ env x y t u w Q} S p1 p2 hw q => ?_⟩
  obtain ⟨p, xs, e1, e2, e3, e4, e5⟩ := in_row S p1 p2 hw
  refine ⟨p, xs, e1, e2, e3, e4, ?_⟩
  rw [if_neg (by decide), e5]
  exact q
theorem ok_nin : CmpOk C .NotIn ninT := by
  refine ⟨_, op_notIn_seq, fun {Tm F H σ env x y t u w Q} S p1 p2 hw q => ?_⟩
  obtain ⟨b, hb, e0⟩ := Option.map_eq_some_iff.mp hw
  obtain ⟨p, xs, e1, e2, e3, e4, e5⟩ := in_row S p1 p2 hb
  refine ⟨p, xs, e1, e2, e3, e4, ?_⟩
  rw [if_pos rfl, e5, e0]
  exact q
/-! ### xs.append(v) -/
def appK (j : Nat) (t : T) : M Rv := fun env => match env[j]? with
  | some (.ow (.lst ts)) => if ts.length < sizeLine then (match chO j (.lst (ts ++ [t])) env with
    | some e => .ok (.fz .non) e
    | none => .no) else .no
  | some (.io (.lst ts)) => if ts.length < sizeLine then (match chO j (.lst (ts ++ [t])) env with
    | some e => .ok (.fz .non) e
    | none => .no) else .no
  | _ => .no
/-- a slot's own list -/
def isLs (env : Env) (j : Nat) : Bool := match env[j]? with
  | some (.ow (.lst _)) => true
  | some (.io (.lst _)) => true
  | _ => false
def appM (g : M Rv) (f : M T) : M Rv := M.bind g fun r => match r with
  | .bo j => fun env => if isLs env j = true then (M.bind f fun t => appK j t) env else .no
  | _ => M.no
theorem own_lst {Tm : Amb} {F H : Hp} {σ : St} {env : Env} {j : Nat} {ts : List T} {x : V} (S : Sok C.G Tm F H σ env) (ow : OwnAt env j (.lst ts)) (hx : σ[j]? = some (some x)) : ∃ a xs, x = .ref a ∧ H a = some (.lst xs) ∧ RepL C.G F ts xs := by
  obtain ⟨s, es, k⟩ := ow.get
  obtain ⟨z, hz, ok⟩ := S.slot j _ es
  obtain ⟨a, o, ez, ha, _, xs, eo, rl⟩ := ok.own k
  subst eo
  rw [hx] at hz
  cases hz
  cases ez
  exact ⟨a, xs, rfl, ha, rl⟩
theorem ev_app (ho : EvE C o g) (he : EvT C e f) (hs : starEach [e] C.X.env = [(false, eval e C.X.env)] := by rfl) (hbase : attributeBase o "append" C.X.env (eval o C.X.env) = eval o C.X.env := by rfl) (hline : (apos.endLine == cpos.line) = true := by rfl)
    (hfew : ((backTo cpos (starEach [e] C.X.env)).all (fun x => !x.1) && (backToKw cpos (keywordEach [] C.X.env)).all (fun x => x.1.isSome) && decide (([e] : List Expr).length + ([] : List Keyword).length + (if ([] : List Keyword).isEmpty then 0 else 1) < 30)) = true := by rfl) :
    EvE C (.Call (.Attribute o "append" apos) [e] [] cpos) (appM g f) := by
  have ha : EvA C [e] (consM f (M.pure [])) := ea_cons he ea_nil hs
  refine pe_imp (pe_bm PySem.F.plainAttrs_list PySem.F.slot_list_append PySem.F.type_list_append mt_append ho ha hbase hfew hline hs rfl) fun σ H Q ⟨Tm, F, env, S, q⟩ => ⟨Tm, F, env, S, ?_⟩
  refine At.bind (R' := RvR C.G) (Q' := Q) q fun r env1 x F1 H1 le1 S1 r1 q1 => ?_
  cases r with
  | fz t => exact q1.elim
  | ow t => exact q1.elim
  | bo j =>
    obtain ⟨hx, t0, ot⟩ := r1
    replace q1 : At C (RvR C.G) Tm F1 σ Q (if isLs env1 j = true then (M.bind f fun t => appK j t) env1 else Out.no) := q1
    by_cases hi : isLs env1 j = true
    case neg =>
      rw [if_neg hi] at q1
      exact q1.elim
    rw [if_pos hi] at q1
    have ol : ∃ ts, OwnAt env1 j (.lst ts) := by
      unfold isLs at hi
      split at hi
      · exact ⟨_, .inl ‹_›⟩
      · exact ⟨_, .inr ‹_›⟩
      · cases hi
    obtain ⟨ts0, ol⟩ := ol
    obtain ⟨a, xs, ex, hl, rl⟩ := own_lst S1 ol hx
    subst ex
    refine ⟨.inl ⟨rfl, xs, .inl (.inl hl)⟩, Tm, F1, env1, S1, ?_⟩
    have q2 : At C (RvR C.G) Tm F1 σ Q ((f env1).bind fun t => appK j t) := q1
    show At C (TLR C.G) Tm F1 σ _ ((f env1).bind fun t => M.bind (M.pure []) fun ts => M.pure (t :: ts))
    cases ef : f env1 with
    | no =>
      rw [ef] at q2
      exact q2.elim
    | ex c fs e1 =>
      rw [ef] at q2
      exact q2
    | ok t env2 =>
      rw [ef] at q2
      have q3 : At C (RvR C.G) Tm F1 σ Q (appK j t env2) := q2
      intro ys F2 H2 le2 S2 r2
      obtain ⟨y, r', ey, ry, rn⟩ := RepL.uncons r2
      have en := rn.unnil
      subst en ey
      have go : ∀ {ts : List T}, OwnAt env2 j (.lst ts) → At C (RvR C.G) Tm F1 σ Q (if ts.length < sizeLine then (match chO j (.lst (ts ++ [t])) env2 with
          | some e => .ok (.fz .non) e
          | none => .no) else .no) → rAppend (.ref a) [y] H2 Q := fun {ts} ow q4 => by
        by_cases hz : ts.length < sizeLine
        case neg =>
          rw [if_neg hz] at q4
          exact q4.elim
        rw [if_pos hz] at q4
        obtain ⟨a2, zs, e2, hl2, rl2⟩ := own_lst S2 ow hx
        cases e2
        refine ⟨a, zs, y, rfl, rfl, hl2, by rw [rl2.length]; exact hz, ?_⟩
        cases ec : chO j (.lst (ts ++ [t])) env2 with
        | none =>
          rw [ec] at q4
          exact q4.elim
        | some e3 =>
          rw [ec] at q4
          exact q4 .non F2 _ le2 (S2.chO (t := .lst (ts ++ [t])) hx ⟨_, rfl, rl2.append (.cons ry .nil)⟩ ec) mk_non
      unfold appK at q3
      cases es : env2[j]? with
      | none =>
        rw [es] at q3
        exact q3.elim
      | some s =>
        rw [es] at q3
        cases s with
        | un => exact q3.elim
        | fz t => exact q3.elim
        | ow t =>
          cases t <;> first | exact q3.elim | skip
          exact go (.inl es) q3
        | io t =>
          cases t <;> first | exact q3.elim | skip
          exact go (.inr es) q3
end
end Ev
/-! Ev21: != by an own __eq__; isinstance of an own class; an instance made by keywords. -/
namespace Ev
open PySem PySem.Spec L2
section
variable {prog : Program} {w : World} {A : Around} {E : Value → Shared → Prop} {s : Shared} {K : PySem.W.Frag} {x D f : Addr} {ox : Obj} {od : Option Obj} {b : Value}
/-- object's __ne__, called: the own __eq__ turned about -/
theorem ne_entry (X : K.In s.heap) (J : PySem.W.InstAt s.heap x ox D od) (hs : PySem.W.findIn K (.ref D) "__eq__" = some (some (.ref f))) (hf : PySem.W.isFn K (.ref f) = true) (hu : A.units < cLine) {Q : Fin → Shared → Prop}
    (h : wpAny (model prog w) A (call (.ref f) [.ref x, b]) (fun v s' => ∃ r, v = .bool r ∧ Q (.done (.ret (.bool (!r)))) s') E s) : wpAny (model prog w) A (Builtin.«object.__ne__» ⟨[.ref x, b], []⟩) Q E s := by
  unfold Builtin.«object.__ne__»
  repeat (first
    | with_reducible refine wpAny_cRoomFor hu ?_
    | (refine wpAny_bind (m := callSpecialIfBound? (.ref x) (Str.ofString "__eq__") [b]) (PySem.W.ifBound_K X J hs hf (wpAny_mono h (fun v s' hv => by
        obtain ⟨r, rfl, hq⟩ := hv
        repeat (first | exact hq | exact wpAny_pure hq | exact wpAny_truthy_bool hq | (refine wpAny_bind (m := truthy (.bool _)) (wpAny_truthy_bool ?_)) | wp_step)) fun _ _ z => z)))
    | wp_step)
theorem ask_bltn {M : Model} {name : Str} {id : String} {args : List Value} {Q : Option Value → Shared → Prop} (X : K.In s.heap) (J : PySem.W.InstAt s.heap x ox D od) (hs : PySem.W.findIn K (.ref D) name = some (some (.builtin id))) (hb : ∀ self, bindSpecial (.builtin id) self = pure (.builtin id, [self]))
    (h : wpAny M A (call (.builtin id) (.ref x :: args)) (fun v => Q (some v)) E s) : wpAny M A (callSpecialIfBound? (.ref x) name args) Q E s := by
  have run : wpAny M A (do let v ← call (.builtin id) ([.ref x] ++ args); pure (some v)) Q E s := wpAny_bind (wpAny_mono h (fun _ _ z => wpAny_pure z) fun _ _ z => z)
  simp only [callSpecialIfBound?, bindSpecialIfBound?]
  apply wpAny_holding; apply wpAny_bind; apply wpAny_bind; apply wpAny_bind
  apply J.type.here; apply (PySem.W.looks_findIn X hs).here
  apply wpAny_bind; apply wpAny_askSetting; apply wpAny_ite
  simp only [hb]
  split
  · exact wpAny_bind (wpAny_pure (wpAny_pure (by exact run)))
  · exact wpAny_tryCatch (wpAny_bind (wpAny_pure (wpAny_pure (by exact run))))
theorem ne_asked (X : K.In s.heap) (J : PySem.W.InstAt s.heap x ox D od) (hn : PySem.W.findIn K (.ref D) "__ne__" = some (some (.builtin "object.__ne__"))) (ho : PySem.W.subIn K (.ref D) (.type "object") = some true)
    (hs : PySem.W.findIn K (.ref D) "__eq__" = some (some (.ref f))) (hf : PySem.W.isFn K (.ref f) = true) (hu : A.units + 1 < cLine) {Q : Value → Shared → Prop}
    (h : wpAny (model prog w) A.in1 (call (.ref f) [.ref x, b]) (fun v s' => ∃ r, v = .bool r ∧ Q (.bool (!r)) s') E s) :
    wpAny (model prog w) A (tryCompare (.ref x) "__ne__" b) (fun r s' => ∃ v, r = some v ∧ Q v s') E s := by
  unfold tryCompare
  apply wpAny_bind
  apply ask_bltn X J hn F.cmp_object.ne.bind
  apply wpAny_call
  apply codeAny_call_builtin F.cmp_object.ne.plain F.cmpEntry_ne
  refine PySem.W.check_slot F.cmpKind_ne F.cmpSplit_ne ?_ (F.cmpArgs_ne _ _) (ne_entry (A := A.in1) X J hs hf hu (wpAny_mono h (fun v s' hv => ?_) fun _ _ z => z))
  · exact (J.type).andThen (PySem.W.looks_subIn X ho)
  · obtain ⟨r, rfl, hq⟩ := hv
    first | exact ⟨r, rfl, wpAny_pure ⟨_, rfl, hq⟩⟩ | exact ⟨r, rfl, wpAny_pure (wpAny_pure ⟨_, rfl, hq⟩)⟩
theorem ne_run {tb : Value} (X : K.In s.heap) (J : PySem.W.InstAt s.heap x ox D od) (hb : PySem.W.Looks (model prog w) s.heap (typeOf b) tb) (hnf : PySem.W.notFirst K D tb = true) (hn : PySem.W.findIn K (.ref D) "__ne__" = some (some (.builtin "object.__ne__")))
    (ho : PySem.W.subIn K (.ref D) (.type "object") = some true) (hs : PySem.W.findIn K (.ref D) "__eq__" = some (some (.ref f))) (hf : PySem.W.isFn K (.ref f) = true) (hu : A.units + 1 < cLine) {Q : Value → Shared → Prop}
    (h : wpAny (model prog w) A.in1 (call (.ref f) [.ref x, b]) (fun v s' => ∃ r, v = .bool r ∧ Q (.bool (!r)) s') E s) : wpAny (model prog w) A (richCompare .NotEq (.ref x) b) Q E s := by
  have asked := ne_asked (A := A) X J hn ho hs hf hu h
  have last : wpAny (model prog w) A (tryCompare (.ref x) "__ne__" b) (fun r s' => ∃ v, r = some v ∧ wpAny (model prog w) A (pure v : Sem Value) Q E s') E s := wpAny_mono asked (fun r s' ⟨v, e, q⟩ => ⟨v, e, wpAny_pure q⟩) fun _ _ z => z
  unfold richCompare
  simp only [oneThing_ref]
  apply wpAny_holding; apply wpAny_bind; refine wpAny_cRoomFor (Nat.lt_of_succ_lt hu) ?_
  apply wpAny_bind; apply J.type.here; apply wpAny_bind; apply hb.here
  split
  case isTrue q =>
    have sub : PySem.W.subIn K tb (.ref D) = some false := (Bool.or_eq_true_iff.mp hnf).elim (fun z => by rw [beq_iff_eq.mp z] at q; simp at q) beq_iff_eq.mp
    apply wpAny_bind; apply (PySem.W.looks_subIn X sub).here
    simp only [Bool.false_eq_true, if_false]
    apply wpAny_bind; refine wpAny_mono last (fun r s' z => ?_) fun _ _ z => z
    obtain ⟨v, rfl, hq⟩ := z
    exact hq
  case isFalse q =>
    apply wpAny_bind; apply wpAny_pure
    simp only [Bool.false_eq_true, if_false]
    apply wpAny_bind; refine wpAny_mono last (fun r s' z => ?_) fun _ _ z => z
    obtain ⟨v, rfl, hq⟩ := z
    exact hq
end
/-! ### != -/
section
variable {C : Cy} {k j ci : Nat} {f : Addr} {fd : FuncData} {ps : List Str} {m : Nat} {d : SM}
/-- what the head tells of a class with an own __eq__ besides -/
structure NeF (K : PySem.W.Frag) (D : Addr) : Prop where
  ne : PySem.W.findIn K (.ref D) "__ne__" = some (some (.builtin "object.__ne__"))
  ob : PySem.W.subIn K (.ref D) (.type "object") = some true
theorem op_neOwn (N : NeF C.X.K (C.ca ci)) (hmt : Meth C.X.K (C.ca ci) "__eq__" f) (F : FnC C k f fd ps m d) (B : Bk C j) (hj : k + 1 ≤ j) (hb : Binds C.X.K fd ps []) :
    OpR C.X (compareOp .NotEq) (fun x y H Q => ∃ a dx vs, x = .ref a ∧ H a = some (.ins (C.ca ci) dx vs) ∧ TyR C ci H y ∧ spT C.G ps.length m d [x, y] H (fun v H2 => ∃ b, v = .bl b ∧ Q (.bl (!b)) H2) (fun _ _ _ => False)) := by
  intro pins s σ H x y v u Q I rx ry h
  obtain ⟨a, dx, vs, rfl, ha, ty, hsp⟩ := h
  cases rx
  obtain ⟨mA, J, _⟩ := ins_get I.hok ha
  obtain ⟨od, J, _⟩ := J.look
  have hu : C.X.A.units + 1 < cLine := by have := B.room.un; omega
  have run : wpAny (model C.X.prog C.X.w) C.X.A.in1 (call (.ref f) [.ref a, u]) (fun v s' => ∃ r, v = .bool r ∧ EP C.X pins σ Q (.bool (!r)) s') C.X.xe s := by
    have hl : [Value.ref a, u].length = ps.length := by rw [← hsp.1]; rfl
    have r2 : Vals [V.ref a, y] [Value.ref a, u] := .cons rfl (.cons ry .nil)
    obtain ⟨j', rfl⟩ : ∃ j', j = j' + 1 := ⟨j - 1, by omega⟩
    refine wpAny_call (codeAny_mono ((F.up (by omega : k ≤ j')).go B.room.in1 B.grd I.env0.in1 (by
      have := hb s [.ref a, u] I.kIn (by simpa using hl)
      simpa using this) r2 hsp) fun r s' hq => ?_)
    match r, hq with
    | .error e, hq => exact B.tk _ _ (XE.of_call I (fun _ _ _ z => False.elim z) hq)
    | .ok (.ret w), hq =>
      obtain ⟨z, H', I', rz, b, ez, q⟩ := I.after hq
      subst ez
      cases rz
      exact ⟨b, rfl, .bl (!b), H', I', rfl, q⟩
    | .ok .next, hq => exact False.elim hq
    | .ok .brk, hq => exact False.elim hq
    | .ok .cont, hq => exact False.elim hq
  show wpAny (model C.X.prog C.X.w) C.X.A (richCompare .NotEq (.ref a) u) (EP C.X pins σ Q) C.X.xe s
  cases ty with
  | @bt _ n ty hn =>
    obtain ⟨P, kit, hP, _⟩ := kit_of I ry ty
    exact ne_run I.kIn J (kit.ty _ _ I.kIn hP) hn N.ne N.ob hmt.at_ hmt.fn hu run
  | @same b dy ws hb' =>
    cases ry
    obtain ⟨mB, J', _⟩ := ins_get I.hok hb'
    obtain ⟨od', J', _⟩ := J'.look
    exact ne_run I.kIn J J'.type (by simp [PySem.W.notFirst]) N.ne N.ob hmt.at_ hmt.fn hu run
def neO (ci n : Nat) (d : SM) (m : Nat) (t u : T) : M T := M.bind (eqO ci n d m t u) fun b => match b with
  | .bl b => M.pure (.bl (!b))
  | _ => M.no
theorem ev_neO {a b : Expr} {pos : Pos} {f1 f2 : M T} (N : NeF C.X.K (C.ca ci)) (hmt : Meth C.X.K (C.ca ci) "__eq__" f) (F : FnC C k f fd ps m d) (B : Bk C j) (hj : k + 1 ≤ j) (hm : ps.length ≤ m) (hb : Binds C.X.K fd ps []) (h1 : EvT C a f1) (h2 : EvT C b f2) (hmk : behindInMarks .NotEq b = false) :
    EvT C (.Compare a [.NotEq] [b] pos) (M.bind f1 fun t => M.bind f2 fun u => neO ci ps.length d m t u) := by
  refine pe_imp (pe_cmpR (op_neOwn N hmt F B hj hb) h1 h2 hmk) fun σ H Q ⟨Tm, F0, env, S, q⟩ => ⟨Tm, F0, env, S, ?_⟩
  refine At.bind (R' := TR C.G) (Q' := Q) q fun t env1 x F1 H1 le1 S1 r1 q1 => ⟨Tm, F1, env1, S1, ?_⟩
  refine At.bind (R' := TR C.G) (Q' := Q) q1 fun u env2 y F2 H2 le2 S2 r2 q2 => ?_
  have q3 : At C (TR C.G) Tm F2 σ Q ((eqO ci ps.length d m t u env2).bind fun b => match b with
    | .bl b => M.pure (.bl (!b))
    | _ => M.no) := q2
  unfold eqO at q3
  by_cases hc : isCi ci t = true ∧ okR ci u = true
  case neg =>
    rw [if_neg hc] at q3
    exact q3.elim
  rw [if_pos hc] at q3
  have rt := Rep.mono le2 t r1
  have hi : ∃ a dx vs, x = .ref a ∧ H2 a = some (.ins (C.ca ci) dx vs) := by
    cases t <;> first | (cases hc.1; done) | skip
    rename_i c fs
    have e : c = ci := by simpa [isCi] using hc.1
    subst e
    obtain ⟨a, dx, vs, ex, ha, _⟩ := rep_ins rt
    rcases S2.sub _ _ ha with q | ⟨q, _⟩
    · exact ⟨a, dx, vs, ex, q⟩
    · cases q
  obtain ⟨a, dx, vs, ex, ha⟩ := hi
  refine ⟨a, dx, vs, ex, ha, okR_ty S2 r2 hc.2, ?_⟩
  refine call_sp (C := ⟨C.X, C.ca, fun _ _ _ _ => False⟩) (Q := fun v H2 => ∃ b, v = .bl b ∧ Q (.bl (!b)) H2) hm S2 (as := [.fz t, .fz u]) ⟨x, [y], rfl, rt, y, [], rfl, r2, rfl⟩ ?_
  cases ec : callA ps.length d m [.fz t, .fz u] env2 with
  | no =>
    rw [ec] at q3
    exact q3.elim
  | ex c fs e' =>
    rw [ec] at q3
    exact q3.elim
  | ok r e' =>
    rw [ec] at q3
    cases r with
    | ow t => exact q3.elim
    | bo i => exact q3.elim
    | fz w =>
      cases w <;> first | exact q3.elim | skip
      intro z F' H' le S' rz
      exact ⟨_, rep_bl rz, q3 _ F' H' le S' (mk_bl _)⟩
/-! ### isinstance of an own class -/
structure ClsF (K : PySem.W.Frag) (D : Addr) : Prop where
  cls : Cls K D
  cat : PySem.W.findIn K (.ref D) "__class__" = some (some (.builtin "object.__class__"))
  get : PySem.W.specialIn K (.builtin "object.__class__") "__get__" = some (some (.builtin "getset_descriptor.__get__"))
  tks : PySem.W.takesIn K (.builtin "object.__class__") = some true
  obj : PySem.W.mroIn K D (.type "object") = some true
  kit1 : PySem.W.kitOne K (.ref D) (.ref D) = some true
  kit0 : ∀ n ∈ ["NoneType", "bool", "int", "str", "tuple", "list", "dict"], PySem.W.kitOne K (.type n) (.ref D) = some false
def clsFB (K : PySem.W.Frag) (D : Addr) : Bool :=
  He.eqO (PySem.W.findIn K (.ref D) "__class__") (some (some (.builtin "object.__class__"))) && (He.eqO (PySem.W.specialIn K (.builtin "object.__class__") "__get__") (some (some (.builtin "getset_descriptor.__get__"))) &&
  (decide (PySem.W.takesIn K (.builtin "object.__class__") = some true) && (decide (PySem.W.mroIn K D (.type "object") = some true) && (decide (PySem.W.kitOne K (.ref D) (.ref D) = some true) &&
  (["NoneType", "bool", "int", "str", "tuple", "list", "dict"] : List String).all fun n => decide (PySem.W.kitOne K (.type n) (.ref D) = some false)))))
theorem clsFB_ok {K : PySem.W.Frag} {D : Addr} (c : Cls K D) (h : clsFB K D = true) : ClsF K D := by
  unfold clsFB at h
  obtain ⟨h1, h⟩ := He.ba h
  obtain ⟨h2, h⟩ := He.ba h
  obtain ⟨h3, h⟩ := He.ba h
  obtain ⟨h4, h⟩ := He.ba h
  obtain ⟨h5, h6⟩ := He.ba h
  exact ⟨c, He.eqO_ok h1, He.eqO_ok h2, of_decide_eq_true h3, of_decide_eq_true h4, of_decide_eq_true h5, fun n hn => of_decide_eq_true (List.all_eq_true.mp h6 n hn)⟩
def neFB (K : PySem.W.Frag) (D : Addr) : Bool := He.eqO (PySem.W.findIn K (.ref D) "__ne__") (some (some (.builtin "object.__ne__"))) && decide (PySem.W.subIn K (.ref D) (.type "object") = some true)
theorem neFB_ok {K : PySem.W.Frag} {D : Addr} (h : neFB K D = true) : NeF K D := by
  obtain ⟨h1, h2⟩ := He.ba h
  exact ⟨He.eqO_ok h1, of_decide_eq_true h2⟩
def isoT (ci : Nat) : T → Option Bool
  | .ins c _ => if c = ci then some true else none
  | t => (tyN t).map fun _ => false
def isoM (ci : Nat) (m : M Rv) : M T := M.bind m fun r => M.bind (pk r) fun t => M.bind (M.of (isoT ci t)) fun b => M.pure (.bl b)
theorem tyN_mem {t : T} {n : String} (h : tyN t = some n) : n ∈ ["NoneType", "bool", "int", "str", "tuple", "list", "dict"] := by
  cases t <;> first | (cases h; done) | (cases h; decide)
theorem ev_iso {n : Str} {p p2 pos : Pos} {a : Expr} {m : M Rv} (X : ClsF C.X.K (C.ca ci)) (h : EvH C a m) (hg : Gl C.X "isinstance") (hm : C.X.mg "isinstance" = none) (hg2 : Gl C.X n) (hm2 : C.X.mg n = some (.ref (C.ca ci))) (hd : (n == ("__debug__" : Str)) = false := by decide +kernel)
    (he : starEach [a, .Name n p2] C.X.env = (false, eval a C.X.env) :: starEach [.Name n p2] C.X.env := by rfl) (hpl : (backTo pos (starEach [.Name n p2] C.X.env)).any (·.1) = false := by rfl) :
    EvT C (.Call (.Name "isinstance" p) [a, .Name n p2] [] pos) (isoM ci m) := by
  refine pe_imp (pe_callB call_isi hg hm PyProof.Rows.boot_isinstance (pa_cons h (pa_cons (pe_glob (v := .ref (C.ca ci)) hg2 hm2 rfl hd) pa_nil) he) (by decide) (by decide) he hpl) fun σ H Q ⟨Tm, F, env, S, q⟩ => ⟨Tm, F, env, S, ?_⟩
  refine At.bind (R' := TR C.G) (Q' := Q) q fun r env1 x F1 H1 le1 S1 r1 q1 => ?_
  refine pk_bind S1 r1 q1 fun t p1 q2 => ?_
  have q2' : At C (TR C.G) Tm F1 σ Q ((M.of (isoT ci t) env1).bind fun b => M.pure (.bl b)) := q2
  cases hi : isoT ci t with
  | none =>
    rw [hi] at q2'
    exact q2'.elim
  | some b =>
    rw [hi] at q2'
    have fin := q2' (.bl b) F1 H1 Le.rfl S1 (mk_bl b)
    have bt : ∀ nm, tyN t = some nm → b = false → rIsi C.X.K [x, .ref (C.ca ci)] H1 Q := fun nm e1 e2 => by
      subst e2
      exact ⟨x, .ref (C.ca ci), .type nm, .ref (C.ca ci), false, rfl, .own _, p1.ty S1 e1, X.kit0 nm (tyN_mem e1), fin⟩
    cases t <;> first | (cases hi; done) | exact bt _ rfl (by cases hi; rfl) | skip
    rename_i c fs
    simp only [isoT] at hi
    split at hi
    case isFalse => cases hi
    rename_i hc
    cases hi
    subst hc
    obtain ⟨o, dx, vs, ex, ho, _⟩ := pk_ins S1 p1
    subst ex
    exact ⟨.ref o, .ref (C.ca c), .ref (C.ca c), .ref (C.ca c), true, rfl, .own _, .base (.ins ho X.cls X.cat X.get X.tks X.obj), X.kit1, fin⟩
end
end Ev
/-! Ev22: an instance made by keywords. -/
namespace Ev
open PySem PySem.Spec L2
def pick {α : Type} (ix : List Nat) (l : List α) : List α := ix.filterMap (l[·]?)
section
variable {C : Cy} {k j ci : Nat} {f : Addr} {fd : FuncData} {ps ks : List Str} {m : Nat} {d : SM} {ix : List Nat} {nm : Option Str} {e : Expr} {kws : List Keyword} {x : Str} {p pos kpos : Pos}
theorem pick_rep {G : Gr} {F : Hp} {ts : List T} {xs : List V} (r : RepL G F ts xs) : ∀ ix : List Nat, RepL G F (pick ix ts) (pick ix xs)
  | [] => .nil
  | i :: ix => by
    unfold pick
    rw [List.filterMap_cons, List.filterMap_cons]
    cases ht : ts[i]? with
    | none =>
      have hx : xs[i]? = none := by
        rw [List.getElem?_eq_none_iff] at ht ⊢
        rw [r.length]; exact ht
      rw [hx]
      exact pick_rep r ix
    | some t =>
      obtain ⟨y, hy, ry⟩ := r.get ht
      rw [hy]
      exact .cons ry (pick_rep r ix)
theorem pick_vals {xs : List V} {us : List Value} (r : Vals xs us) : ∀ ix : List Nat, Vals (pick ix xs) (pick ix us)
  | [] => .nil
  | i :: ix => by
    unfold pick
    rw [List.filterMap_cons, List.filterMap_cons]
    have hl := r.length
    cases hx : xs[i]? with
    | none =>
      have hu : us[i]? = none := by
        rw [List.getElem?_eq_none_iff] at hx ⊢
        omega
      rw [hu]
      exact pick_vals r ix
    | some y =>
      have : ∃ u, us[i]? = some u ∧ RelV y u := by
        clear hl
        induction r generalizing i with
        | nil => simp at hx
        | cons a b ih =>
          cases i with
          | zero => simp at hx ⊢; subst hx; exact a
          | succ i => simpa using ih i (by simpa using hx)
      obtain ⟨u, hu, ru⟩ := this
      rw [hu]
      exact .cons ru (pick_vals r ix)
abbrev EvK (C : Cy) (kws : List Keyword) (f : M (List T)) : Prop := PK C.X kws (tG C (TLR C.G) f)
theorem pk_imp' {X : Cx} {kws : List Keyword} {t t' : TA} (h : PK X kws t) (i : ∀ σ H Q, t' σ H Q → t σ H Q) : PK X kws t' := ⟨fun pos pins s σ H Q I q => h.run pos pins s σ H Q I (i σ H Q q)⟩
theorem ek_nil : EvK C [] (M.pure []) := pk_imp' pk_nil fun σ H Q ⟨Tm, F, env, S, q⟩ => q [] F H Le.rfl S .nil
theorem ek_cons {g : M T} {gs : M (List T)} (h : EvT C e g) (h' : EvK C kws gs) : EvK C (⟨nm, e, kpos⟩ :: kws) (consM g gs) := by
  refine pk_imp' (pk_cons h h') fun σ H Q ⟨Tm, F, env, S, q⟩ => ⟨Tm, F, env, S, ?_⟩
  refine At.bind (R' := TLR C.G) (Q' := Q) q fun t env1 x F1 H1 le1 S1 r1 q1 => ⟨Tm, F1, env1, S1, ?_⟩
  refine At.bind (R' := TLR C.G) (Q' := Q) q1 fun ts env2 xs F2 H2 le2 S2 r2 q2 => ?_
  exact q2 _ F2 H2 Le.rfl S2 (.cons (Rep.mono le2 t r1) r2)
theorem binds_kw {K : PySem.W.Frag} {y qual : Str} {params : Arguments} {body : List Stmt} {scope : Scope} {kws : List (Str × V)} (F : FunD K y qual params body scope [] kws f fd)
    (h : ∀ (kV doc pm : Value) (an : Option Addr) (cdv ct u : Value) (ws : List Value), ws.length = ks.length → bindArgs (PySem.W.fnOf y qual params body scope .none kV doc pm an cdv ct) ⟨[u], ks.zip ws⟩ = pure (ps.zip (u :: pick ix ws))) :
    ∀ (s : Shared) (u : Value) (ws : List Value), ws.length = ks.length → BindsTo s fd ⟨[u], ks.zip ws⟩ (ps.zip (u :: pick ix ws)) := by
  obtain ⟨oc, od, dV, kV, doc, pm, an, cdv, ct, osl, rfl, lk, hcd, hD, hK⟩ := F.ex
  rcases hD with ⟨_, rfl⟩ | ⟨z, _⟩
  · exact fun s u ws hl => .of_eq (h kV doc pm an cdv ct u ws hl)
  · exact absurd rfl z
def makeK (ci n : Nat) (d : SM) (m kn : Nat) (ix : List Nat) (fk : M (List T)) : M Rv := M.bind fk fun ts => if ts.length = kn then makeA ci n d m ((pick ix ts).map Ar.fz) else M.no
theorem ev_makeK {fk : M (List T)} (MK : Mk C.X.K (C.ca ci) f) (F : FnC C k f fd ps m d) (B : Bk C j) (hj : k + 1 ≤ j) (hm : ps.length ≤ m) (hg : Gl C.X x) (hx : C.X.mg x = some (.ref (C.ca ci)))
    (hb : ∀ (s : Shared) (u : Value) (ws : List Value), ws.length = ks.length → BindsTo s fd ⟨[u], ks.zip ws⟩ (ps.zip (u :: pick ix ws))) (hk : EvK C kws fk)
    (hall : (backToKw pos (keywordEach kws C.X.env)).all (·.1.isSome) = true := by rfl) (hks : (backToKw pos (keywordEach kws C.X.env)).filterMap (·.1) = ks := by rfl) (hdb : (x == ("__debug__" : Str)) = false := by decide +kernel)
    (hpl : ((backTo pos (starEach [] C.X.env)).any (·.1) || (backToKw pos (keywordEach kws C.X.env)).any (·.1.isNone)) = false := by rfl) :
    EvE C (.Call (.Name x p) [] kws pos) (makeK ci ps.length d m ks.length ix fk) := by
  obtain ⟨j', rfl⟩ : ∃ j', j = j' + 1 := ⟨j - 1, by omega⟩
  refine ⟨fun pins s σ H Q I ⟨Tm, F0, env, S, q⟩ => ?_⟩
  refine wpAny_Call_Name_kw (ld_glob I hg hx ?_ hdb)
  have q1 : tG C (TLR C.G) fk σ H fun zs H1 => zs.length = ks.length ∧ ∀ x dx, H1 x = none → H1 dx = none → dx ≠ x → spT C.G ps.length m d (.ref x :: pick ix zs) (upd (upd H1 dx (.own x)) x (.ins (C.ca ci) dx [])) (fun v H2 => v = .non ∧ Q (.ref x) H2) (fun cls dd H' => C.W cls dd σ H') := by
    refine ⟨Tm, F0, env, S, At.bind (R' := RvR C.G) (Q' := Q) q fun ts env1 zs F1 H1 le1 S1 r1 q2 => ?_⟩
    by_cases hl : ts.length = ks.length
    case neg =>
      rw [if_neg hl] at q2
      exact q2.elim
    rw [if_pos hl] at q2
    exact ⟨by rw [r1.length]; exact hl, fun x dx nx nd ne => make_sp hm S1 (ArL.consts (pick_rep r1 ix)) q2 nx nd ne⟩
  refine PySem.W.callWith_KW0 (h₀ := C.X.base) I.ok.mod.kin MK.kp hall ?_ hpl
  refine thn (hk.run pos pins s σ H _ I q1) fun ws s2 ⟨zs, H2, I2, rz, l2, h⟩ => ⟨I2.kIn, ?_⟩
  rw [hks]
  have lw : ws.length = ks.length := rz.length.symm.trans l2
  have hq := h (s2.heap.objs.size + 1) s2.heap.objs.size (I2.hok.fresh (Nat.le_succ _)) (I2.hok.fresh (Nat.le_refl _)) (Nat.ne_of_lt (Nat.lt_succ_self _))
  have I3 := Inv.made (C := C.ca ci) I2
  have r2 : Vals (V.ref (s2.heap.objs.size + 1) :: pick ix zs) (Value.ref (s2.heap.objs.size + 1) :: pick ix ws) := .cons rfl (pick_vals rz ix)
  refine wpAny_call (make_map (f := f) I2.kIn MK.makes MK.init (beq_iff_eq.mp MK.fn) (codeAny_mono ((F.up (by omega : k ≤ j')).go (B.room.make (C.ca ci) [] (ks.zip ws)) B.grd (I3.env0.make (C.ca ci) [] (ks.zip ws)) (hb _ (Value.ref (s2.heap.objs.size + 1)) ws lw) r2 hq) fun r s' hq' => ?_))
  match r, hq' with
  | .error e, hq' => exact B.tk _ _ (XE.of_call I3 (fun _ _ _ z => z) hq')
  | .ok (.ret u), hq' =>
    obtain ⟨v, H', I4, rv, ev, q3⟩ := I3.after hq'
    subst ev
    exact ⟨rv, ⟨V.ref (s2.heap.objs.size + 1), H', I4, rfl, q3⟩⟩
  | .ok .next, hq' => exact False.elim hq'
  | .ok .brk, hq' => exact False.elim hq'
  | .ok .cont, hq' => exact False.elim hq'
end
end Ev
/-! Ev23: own == as a test; the head's facts with tests of one's own. -/
namespace Ev
open PySem PySem.Spec L2
def blK : T → M Bool
  | .bl b => M.pure b
  | _ => M.no
def blN : T → M Bool
  | .bl b => M.pure (!b)
  | _ => M.no
section
variable {C : Cy} {k j ci : Nat} {f : Addr} {fd : FuncData} {ps : List Str} {m : Nat} {d : SM}
theorem eb_eqO {a b : Expr} {pos : Pos} {f1 f2 : M T} (hmt : Meth C.X.K (C.ca ci) "__eq__" f) (F : FnC C k f fd ps m d) (B : Bk C j) (hj : k ≤ j) (hm : ps.length ≤ m) (hb : Binds C.X.K fd ps []) (h1 : EvT C a f1) (h2 : EvT C b f2) (hmk : behindInMarks .Eq b = false) :
    EvB C (.Compare a [.Eq] [b] pos) (M.bind f1 fun t => M.bind f2 fun u => M.bind (eqO ci ps.length d m t u) blK) := by
  refine pt_imp (pt_cmpR (op_eqOwn hmt F B hj hb) h1 h2 hmk) fun σ H Q ⟨Tm, F0, env, S, q⟩ => ⟨Tm, F0, env, S, ?_⟩
  refine At.bind (R' := BR) (Q' := Q) q fun t env1 x F1 H1 le1 S1 r1 q1 => ⟨Tm, F1, env1, S1, ?_⟩
  refine At.bind (R' := BR) (Q' := Q) q1 fun u env2 y F2 H2 le2 S2 r2 q2 => ?_
  replace q2 : At C BR Tm F2 σ Q ((eqO ci ps.length d m t u env2).bind blK) := q2
  unfold eqO at q2
  by_cases hc : isCi ci t = true ∧ okR ci u = true
  case neg =>
    rw [if_neg hc] at q2
    exact q2.elim
  rw [if_pos hc] at q2
  have rt := Rep.mono le2 t r1
  have hi : ∃ a dx vs, x = .ref a ∧ H2 a = some (.ins (C.ca ci) dx vs) := by
    cases t <;> first | (cases hc.1; done) | skip
    rename_i c fs
    have e : c = ci := by simpa [isCi] using hc.1
    subst e
    obtain ⟨a, dx, vs, ex, ha, _⟩ := rep_ins rt
    rcases S2.sub _ _ ha with q | ⟨q, _⟩
    · exact ⟨a, dx, vs, ex, q⟩
    · cases q
  obtain ⟨a, dx, vs, ex, ha⟩ := hi
  refine ⟨a, dx, vs, ex, ha, okR_ty S2 r2 hc.2, ?_⟩
  refine call_sp (C := ⟨C.X, C.ca, fun _ _ _ _ => False⟩) (Q := fun v H2 => ∃ b, v = .bl b ∧ ∃ w, V.bl b = .bl w ∧ Q w H2) hm S2 (as := [.fz t, .fz u]) ⟨x, [y], rfl, rt, y, [], rfl, r2, rfl⟩ ?_
  cases ec : callA ps.length d m [.fz t, .fz u] env2 with
  | no =>
    rw [ec] at q2
    exact q2.elim
  | ex c fs e' =>
    rw [ec] at q2
    exact q2.elim
  | ok r e' =>
    rw [ec] at q2
    cases r with
    | ow t => exact q2.elim
    | bo i => exact q2.elim
    | fz w =>
      cases w <;> first | exact q2.elim | skip
      intro z F' H' le S' rz
      exact ⟨_, rep_bl rz, _, rfl, q2 _ F' H' le S' rfl⟩
theorem eb_neO {a b : Expr} {pos : Pos} {f1 f2 : M T} (N : NeF C.X.K (C.ca ci)) (hmt : Meth C.X.K (C.ca ci) "__eq__" f) (F : FnC C k f fd ps m d) (B : Bk C j) (hj : k + 1 ≤ j) (hm : ps.length ≤ m) (hb : Binds C.X.K fd ps []) (h1 : EvT C a f1) (h2 : EvT C b f2) (hmk : behindInMarks .NotEq b = false) :
    EvB C (.Compare a [.NotEq] [b] pos) (M.bind f1 fun t => M.bind f2 fun u => M.bind (eqO ci ps.length d m t u) blN) := by
  refine pt_imp (pt_cmpR (op_neOwn N hmt F B hj hb) h1 h2 hmk) fun σ H Q ⟨Tm, F0, env, S, q⟩ => ⟨Tm, F0, env, S, ?_⟩
  refine At.bind (R' := BR) (Q' := Q) q fun t env1 x F1 H1 le1 S1 r1 q1 => ⟨Tm, F1, env1, S1, ?_⟩
  refine At.bind (R' := BR) (Q' := Q) q1 fun u env2 y F2 H2 le2 S2 r2 q2 => ?_
  have q3 : At C BR Tm F2 σ Q ((eqO ci ps.length d m t u env2).bind blN) := q2
  unfold eqO at q3
  by_cases hc : isCi ci t = true ∧ okR ci u = true
  case neg =>
    rw [if_neg hc] at q3
    exact q3.elim
  rw [if_pos hc] at q3
  have rt := Rep.mono le2 t r1
  have hi : ∃ a dx vs, x = .ref a ∧ H2 a = some (.ins (C.ca ci) dx vs) := by
    cases t <;> first | (cases hc.1; done) | skip
    rename_i c fs
    have e : c = ci := by simpa [isCi] using hc.1
    subst e
    obtain ⟨a, dx, vs, ex, ha, _⟩ := rep_ins rt
    rcases S2.sub _ _ ha with q | ⟨q, _⟩
    · exact ⟨a, dx, vs, ex, q⟩
    · cases q
  obtain ⟨a, dx, vs, ex, ha⟩ := hi
  refine ⟨a, dx, vs, ex, ha, okR_ty S2 r2 hc.2, ?_⟩
  refine call_sp (C := ⟨C.X, C.ca, fun _ _ _ _ => False⟩) (Q := fun v H2 => ∃ b, v = .bl b ∧ ∃ w, V.bl (!b) = .bl w ∧ Q w H2) hm S2 (as := [.fz t, .fz u]) ⟨x, [y], rfl, rt, y, [], rfl, r2, rfl⟩ ?_
  cases ec : callA ps.length d m [.fz t, .fz u] env2 with
  | no =>
    rw [ec] at q3
    exact q3.elim
  | ex c fs e' =>
    rw [ec] at q3
    exact q3.elim
  | ok r e' =>
    rw [ec] at q3
    cases r with
    | ow t => exact q3.elim
    | bo i => exact q3.elim
    | fz w =>
      cases w <;> first | exact q3.elim | skip
      intro z F' H' le S' rz
      exact ⟨_, rep_bl rz, _, rfl, q3 _ F' H' le S' rfl⟩
end
/-! ### the head -/
def obX (n : Nat) (fa : List He.Fa) (fn : List He.DefD) (ex : PySem.W.Frag → Bool) (g : Addr → Option Obj) : Bool × He.AlD := (ex (He.frG g (He.asD g n)), He.obsDG n fa fn g)
def hookX (n : Nat) (fa : List He.Fa) (fn : List He.DefD) (ex : PySem.W.Frag → Bool) : PySem.W.Hook where
  α := Bool × He.AlD
  obs := fun s => obX n fa fn ex s.heap.get?
  val := fun _ => (true, He.valD fn)
  says := fun _ h => ∃ K : PySem.W.Frag, K.In h ∧ He.SaysD fa fn K ∧ ex K = true
  of := fun _ _ e => ⟨_, He.frG_in, congrArg Prod.snd e, congrArg Prod.fst e⟩
  keeps := fun _ _ _ ⟨K, hK, c, x⟩ z => ⟨K, PySem.W.Frag.In.keeps hK z, c, x⟩
theorem obX_eq {n : Nat} {fa : List He.Fa} {fn : List He.DefD} {ex : PySem.W.Frag → Bool} {g : Addr → Option Obj} {s : Shared} (h : ∀ a, g a = s.heap.get? a) : obX n fa fn ex g = (hookX n fa fn ex).obs s := by
  have e : g = s.heap.get? := funext h
  subst e
  rfl
def clsBody : Stmt → List Stmt
  | .ClassDef (body := b) .. => b
  | _ => []
end Ev
namespace K03
open PySem PySem.Spec L2 Ev
def top (i : Nat) : Stmt := PySem.Challenge.pw_addednames_k03_additions.main.body.getD i (.Pass ⟨0, 0, 0, 0⟩)
def mth (i j : Nat) : Stmt := (clsBody (top i)).getD j (.Pass ⟨0, 0, 0, 0⟩)
def caOf (K : PySem.W.Frag) (i : Nat) : Addr := He.ga K ((["NamesError", "BadPlace", "BadThing", "Addition"] : List Str).getD i "")
def emf_BadThing (k : Nat) : Option Bool := if k = 1 then some false else if k = 2 then some true else none
def emf_BadPlace (k : Nat) : Option Bool := if k = 1 then some true else if k = 2 then some false else none
def kf_BadThing_ValueError (k : Nat) : Option Bool := if k = 2 then some true else none
def kf_BadPlace_NamesError (k : Nat) : Option Bool := if k = 1 then some true else none
/-- what the top leaves -/
structure Fx (K : PySem.W.Frag) (mg : Str → Option Value) : Prop where
  g_is_name : mg "is_name" = some (.ref (He.ga K "is_name"))
  g_is_integer : mg "is_integer" = some (.ref (He.ga K "is_integer"))
  g_is_thing : mg "is_thing" = some (.ref (He.ga K "is_thing"))
  g_is_word : mg "is_word" = some (.ref (He.ga K "is_word"))
  g_is_place : mg "is_place" = some (.ref (He.ga K "is_place"))
  g_ulaw_pool : mg "_law_pool" = some (.ref (He.ga K "_law_pool"))
  g_ulaw_draw : mg "_law_draw" = some (.ref (He.ga K "_law_draw"))
  g_ulaw_pick : mg "_law_pick" = some (.ref (He.ga K "_law_pick"))
  g_ulaw_names : mg "_law_names" = some (.ref (He.ga K "_law_names"))
  g_ulaw_by_name : mg "_law_by_name" = some (.ref (He.ga K "_law_by_name"))
  g_ulaw_refused : mg "_law_refused" = some (.ref (He.ga K "_law_refused"))
  g_ulaw_odd_places : mg "_law_odd_places" = some (.ref (He.ga K "_law_odd_places"))
  g_law : mg "law" = some (.ref (He.ga K "law"))
  z_ValueError : mg "ValueError" = none
  z_abs : mg "abs" = none
  z_all : mg "all" = none
  z_bool : mg "bool" = none
  z_enumerate : mg "enumerate" = none
  z_int : mg "int" = none
  z_isinstance : mg "isinstance" = none
  z_len : mg "len" = none
  z_max : mg "max" = none
  z_min : mg "min" = none
  z_range : mg "range" = none
  z_repr : mg "repr" = none
  z_str : mg "str" = none
  z_sum : mg "sum" = none
  z_tuple : mg "tuple" = none
  c_LAST_THING : ∃ t, mg "LAST_THING" = some (.int 1000000000 t)
  c_MOST_LETTERS : ∃ t, mg "MOST_LETTERS" = some (.int 8 t)
  g_NamesError : mg "NamesError" = some (.ref (He.ga K "NamesError"))
  g_BadPlace : mg "BadPlace" = some (.ref (He.ga K "BadPlace"))
  x_BadPlace : ExcF K (He.ga K "BadPlace") "place"
  i_BadPlace : Meth K (He.ga K "BadPlace") "__init__" (He.ma K (He.ga K "BadPlace") "__init__")
  xs_BadPlace : ∀ c ∈ ([1] : List Nat), ExcF K (caOf K c) "place"
  g_BadThing : mg "BadThing" = some (.ref (He.ga K "BadThing"))
  x_BadThing : ExcF K (He.ga K "BadThing") "thing"
  i_BadThing : Meth K (He.ga K "BadThing") "__init__" (He.ma K (He.ga K "BadThing") "__init__")
  xs_BadThing : ∀ c ∈ ([2] : List Nat), ExcF K (caOf K c) "thing"
  g_Addition : mg "Addition" = some (.ref (He.ga K "Addition"))
  k_Addition : Cls K (He.ga K "Addition")
  mk_Addition : Mk K (He.ga K "Addition") (He.ma K (He.ga K "Addition") "__init__")
  m_Additionuu_inituu : Meth K (He.ga K "Addition") "__init__" (He.ma K (He.ga K "Addition") "__init__")
  m_Additionuu_equu : Meth K (He.ga K "Addition") "__eq__" (He.ma K (He.ga K "Addition") "__eq__")
  w_Addition : ClsF K (He.ga K "Addition")
  ne_Addition : NeF K (He.ga K "Addition")
  fl_kind : ∀ q ∈ ([3] : List Nat), Cls K (caOf K q) ∧ NoAttr K (caOf K q) "kind"
  fl_name : ∀ q ∈ ([3] : List Nat), Cls K (caOf K q) ∧ NoAttr K (caOf K q) "name"
  fl_place : ∀ q ∈ ([3] : List Nat), Cls K (caOf K q) ∧ NoAttr K (caOf K q) "place"
  fl_thing : ∀ q ∈ ([3] : List Nat), Cls K (caOf K q) ∧ NoAttr K (caOf K q) "thing"
  em_BadThing : ∀ k b, emf_BadThing k = some b → PySem.W.exmOne K (.ref (caOf K k)) (.ref (He.ga K "BadThing")) = some b
  em_BadPlace : ∀ k b, emf_BadPlace k = some b → PySem.W.exmOne K (.ref (caOf K k)) (.ref (He.ga K "BadPlace")) = some b
  kt_BadThing_ValueError : ∀ k b, kf_BadThing_ValueError k = some b → k ∈ ([2] : List Nat) ∧ PySem.W.kitOne K (.ref (caOf K k)) (.type "ValueError") = some b
  kt_BadPlace_NamesError : ∀ k b, kf_BadPlace_NamesError k = some b → k ∈ ([1] : List Nat) ∧ PySem.W.kitOne K (.ref (caOf K k)) (.ref (He.ga K "NamesError")) = some b
def D_is_name : He.DefD := ⟨("is_name", none), "is_name", "is_name", defArgs (top 7), defBody (top 7), defScope (top 7), [], []⟩
def D_is_integer : He.DefD := ⟨("is_integer", none), "is_integer", "is_integer", defArgs (top 9), defBody (top 9), defScope (top 9), [], []⟩
def D_is_thing : He.DefD := ⟨("is_thing", none), "is_thing", "is_thing", defArgs (top 8), defBody (top 8), defScope (top 8), [], []⟩
def D_is_word : He.DefD := ⟨("is_word", none), "is_word", "is_word", defArgs (top 10), defBody (top 10), defScope (top 10), [], []⟩
def D_is_place : He.DefD := ⟨("is_place", none), "is_place", "is_place", defArgs (top 12), defBody (top 12), defScope (top 12), [], []⟩
def D_Additionuu_inituu : He.DefD := ⟨("Addition", some "__init__"), "__init__", "Addition.__init__", defArgs (mth 13 0), defBody (mth 13 0), defScope (mth 13 0), [], []⟩
def D_Additionuu_equu : He.DefD := ⟨("Addition", some "__eq__"), "__eq__", "Addition.__eq__", defArgs (mth 13 1), defBody (mth 13 1), defScope (mth 13 1), [], []⟩
def D_ulaw_pool : He.DefD := ⟨("_law_pool", none), "_law_pool", "_law_pool", defArgs (top 15), defBody (top 15), defScope (top 15), [], []⟩
def D_ulaw_draw : He.DefD := ⟨("_law_draw", none), "_law_draw", "_law_draw", defArgs (top 16), defBody (top 16), defScope (top 16), [], []⟩
def D_ulaw_pick : He.DefD := ⟨("_law_pick", none), "_law_pick", "_law_pick", defArgs (top 17), defBody (top 17), defScope (top 17), [], []⟩
def D_ulaw_names : He.DefD := ⟨("_law_names", none), "_law_names", "_law_names", defArgs (top 18), defBody (top 18), defScope (top 18), [], []⟩
def D_ulaw_by_name : He.DefD := ⟨("_law_by_name", none), "_law_by_name", "_law_by_name", defArgs (top 19), defBody (top 19), defScope (top 19), [], []⟩
def D_ulaw_refused : He.DefD := ⟨("_law_refused", none), "_law_refused", "_law_refused", defArgs (top 20), defBody (top 20), defScope (top 20), [], []⟩
def D_ulaw_odd_places : He.DefD := ⟨("_law_odd_places", none), "_law_odd_places", "_law_odd_places", defArgs (top 21), defBody (top 21), defScope (top 21), [], []⟩
def D_law : He.DefD := ⟨("law", none), "law", "law", defArgs (top 22), defBody (top 22), defScope (top 22), [], []⟩
def I_BadPlace : He.DefD := ⟨("BadPlace", some "__init__"), "__init__", "BadPlace.__init__", defArgs (mth 2 0), defBody (mth 2 0), defScope (mth 2 0), [], []⟩
def I_BadThing : He.DefD := ⟨("BadThing", some "__init__"), "__init__", "BadThing.__init__", defArgs (mth 3 0), defBody (mth 3 0), defScope (mth 3 0), [], []⟩
def fnl : List He.DefD := [D_is_name, D_is_integer, D_is_thing, D_is_word, D_is_place, D_Additionuu_inituu, D_Additionuu_equu, D_ulaw_pool, D_ulaw_draw, D_ulaw_pick, D_ulaw_names, D_ulaw_by_name, D_ulaw_refused, D_ulaw_odd_places, D_law, I_BadPlace, I_BadThing]
def fal : List He.Fa := [.glo "is_name", .glo "is_integer", .glo "is_thing", .glo "is_word", .glo "is_place", .glo "_law_pool", .glo "_law_draw", .glo "_law_pick", .glo "_law_names", .glo "_law_by_name", .glo "_law_refused", .glo "_law_odd_places", .glo "law", .free "ValueError", .free "abs", .free "all", .free "bool", .free "enumerate", .free "int", .free "isinstance", .free "len", .free "max", .free "min", .free "range", .free "repr", .free "str", .free "sum", .free "tuple", .int "LAST_THING" 1000000000, .int "MOST_LETTERS" 8, .glo "NamesError", .glo "BadPlace", .meth "BadPlace" "__init__", .glo "BadThing", .meth "BadThing" "__init__", .glo "Addition", .cls "Addition", .mkr "Addition", .meth "Addition" "__init__", .meth "Addition" "__eq__", .noat "Addition" "kind", .noat "Addition" "name", .noat "Addition" "place", .noat "Addition" "thing", .exm "BadPlace" "BadThing" false, .exm "BadThing" "BadThing" true, .exm "BadPlace" "BadPlace" true, .exm "BadThing" "BadPlace" false]
def exL (K : PySem.W.Frag) : List Bool := [excB K (He.ga K "BadPlace") "place", excB K (He.ga K "BadThing") "thing", clsFB K (He.ga K "Addition"), neFB K (He.ga K "Addition"), decide (PySem.W.kitOne K (.ref (He.ga K "BadThing")) (.type "ValueError") = some true), decide (PySem.W.kitOne K (.ref (He.ga K "BadPlace")) (.ref (He.ga K "NamesError")) = some true)]
def exB (K : PySem.W.Frag) : Bool := (exL K).all id
theorem ex_at {K : PySem.W.Frag} {b : Bool} (h : exB K = true) {i : Nat} (e : (exL K)[i]? = some b) : b = true := List.all_eq_true.mp h b (List.mem_of_getElem? e)
theorem fx {K : PySem.W.Frag} {h : Heap} {mg : Str → Option Value} (X : K.In h) (G : h.Ns mainGlobals mg) (c : He.SaysD fal fnl K) (xb : exB K = true) : Fx K mg := {
  g_is_name := He.glo_ok X G (c.fact 0 (f := .glo "is_name") rfl)
  g_is_integer := He.glo_ok X G (c.fact 1 (f := .glo "is_integer") rfl)
  g_is_thing := He.glo_ok X G (c.fact 2 (f := .glo "is_thing") rfl)
  g_is_word := He.glo_ok X G (c.fact 3 (f := .glo "is_word") rfl)
  g_is_place := He.glo_ok X G (c.fact 4 (f := .glo "is_place") rfl)
  g_ulaw_pool := He.glo_ok X G (c.fact 5 (f := .glo "_law_pool") rfl)
  g_ulaw_draw := He.glo_ok X G (c.fact 6 (f := .glo "_law_draw") rfl)
  g_ulaw_pick := He.glo_ok X G (c.fact 7 (f := .glo "_law_pick") rfl)
  g_ulaw_names := He.glo_ok X G (c.fact 8 (f := .glo "_law_names") rfl)
  g_ulaw_by_name := He.glo_ok X G (c.fact 9 (f := .glo "_law_by_name") rfl)
  g_ulaw_refused := He.glo_ok X G (c.fact 10 (f := .glo "_law_refused") rfl)
  g_ulaw_odd_places := He.glo_ok X G (c.fact 11 (f := .glo "_law_odd_places") rfl)
  g_law := He.glo_ok X G (c.fact 12 (f := .glo "law") rfl)
  z_ValueError := He.free_ok X G (c.fact 13 (f := .free "ValueError") rfl)
  z_abs := He.free_ok X G (c.fact 14 (f := .free "abs") rfl)
  z_all := He.free_ok X G (c.fact 15 (f := .free "all") rfl)
  z_bool := He.free_ok X G (c.fact 16 (f := .free "bool") rfl)
  z_enumerate := He.free_ok X G (c.fact 17 (f := .free "enumerate") rfl)
  z_int := He.free_ok X G (c.fact 18 (f := .free "int") rfl)
  z_isinstance := He.free_ok X G (c.fact 19 (f := .free "isinstance") rfl)
  z_len := He.free_ok X G (c.fact 20 (f := .free "len") rfl)
  z_max := He.free_ok X G (c.fact 21 (f := .free "max") rfl)
  z_min := He.free_ok X G (c.fact 22 (f := .free "min") rfl)
  z_range := He.free_ok X G (c.fact 23 (f := .free "range") rfl)
  z_repr := He.free_ok X G (c.fact 24 (f := .free "repr") rfl)
  z_str := He.free_ok X G (c.fact 25 (f := .free "str") rfl)
  z_sum := He.free_ok X G (c.fact 26 (f := .free "sum") rfl)
  z_tuple := He.free_ok X G (c.fact 27 (f := .free "tuple") rfl)
  c_LAST_THING := He.int_ok X G (c.fact 28 (f := .int "LAST_THING" 1000000000) rfl)
  c_MOST_LETTERS := He.int_ok X G (c.fact 29 (f := .int "MOST_LETTERS" 8) rfl)
  g_NamesError := He.glo_ok X G (c.fact 30 (f := .glo "NamesError") rfl)
  g_BadPlace := He.glo_ok X G (c.fact 31 (f := .glo "BadPlace") rfl)
  x_BadPlace := excB_ok (ex_at xb (i := 0) rfl)
  i_BadPlace := He.meth_ok (c.fact 32 (f := .meth "BadPlace" "__init__") rfl)
  xs_BadPlace := fun c hc => by
    rcases List.mem_cons.mp hc with rfl | hc
    · exact excB_ok (ex_at xb (i := 0) rfl)
    · cases hc
  g_BadThing := He.glo_ok X G (c.fact 33 (f := .glo "BadThing") rfl)
  x_BadThing := excB_ok (ex_at xb (i := 1) rfl)
  i_BadThing := He.meth_ok (c.fact 34 (f := .meth "BadThing" "__init__") rfl)
  xs_BadThing := fun c hc => by
    rcases List.mem_cons.mp hc with rfl | hc
    · exact excB_ok (ex_at xb (i := 1) rfl)
    · cases hc
  g_Addition := He.glo_ok X G (c.fact 35 (f := .glo "Addition") rfl)
  k_Addition := He.cls_ok (c.fact 36 (f := .cls "Addition") rfl)
  mk_Addition := He.mkr_ok (c.fact 37 (f := .mkr "Addition") rfl)
  m_Additionuu_inituu := He.meth_ok (c.fact 38 (f := .meth "Addition" "__init__") rfl)
  m_Additionuu_equu := He.meth_ok (c.fact 39 (f := .meth "Addition" "__eq__") rfl)
  w_Addition := clsFB_ok (He.cls_ok (c.fact 36 (f := .cls "Addition") rfl)) (ex_at xb (i := 2) rfl)
  ne_Addition := neFB_ok (ex_at xb (i := 3) rfl)
  fl_kind := fun q hc => by
    rcases List.mem_cons.mp hc with rfl | hc
    · exact ⟨He.cls_ok (c.fact 36 (f := .cls "Addition") rfl), He.noat_ok (c.fact 40 (f := .noat "Addition" "kind") rfl)⟩
    cases hc
  fl_name := fun q hc => by
    rcases List.mem_cons.mp hc with rfl | hc
    · exact ⟨He.cls_ok (c.fact 36 (f := .cls "Addition") rfl), He.noat_ok (c.fact 41 (f := .noat "Addition" "name") rfl)⟩
    cases hc
  fl_place := fun q hc => by
    rcases List.mem_cons.mp hc with rfl | hc
    · exact ⟨He.cls_ok (c.fact 36 (f := .cls "Addition") rfl), He.noat_ok (c.fact 42 (f := .noat "Addition" "place") rfl)⟩
    cases hc
  fl_thing := fun q hc => by
    rcases List.mem_cons.mp hc with rfl | hc
    · exact ⟨He.cls_ok (c.fact 36 (f := .cls "Addition") rfl), He.noat_ok (c.fact 43 (f := .noat "Addition" "thing") rfl)⟩
    cases hc
  em_BadThing := fun k b h => by
    unfold emf_BadThing at h
    split at h
    · rename_i hk
      subst hk
      cases h
      exact He.exm_ok (c.fact 44 (f := .exm "BadPlace" "BadThing" false) rfl)
    rename_i hk; clear hk
    split at h
    · rename_i hk
      subst hk
      cases h
      exact He.exm_ok (c.fact 45 (f := .exm "BadThing" "BadThing" true) rfl)
    rename_i hk; clear hk
    cases h
  em_BadPlace := fun k b h => by
    unfold emf_BadPlace at h
    split at h
    · rename_i hk
      subst hk
      cases h
      exact He.exm_ok (c.fact 46 (f := .exm "BadPlace" "BadPlace" true) rfl)
    rename_i hk; clear hk
    split at h
    · rename_i hk
      subst hk
      cases h
      exact He.exm_ok (c.fact 47 (f := .exm "BadThing" "BadPlace" false) rfl)
    rename_i hk; clear hk
    cases h
  kt_BadThing_ValueError := fun k b h => by
    unfold kf_BadThing_ValueError at h
    split at h
    · rename_i hk
      subst hk
      cases h
      exact ⟨List.mem_cons_self, of_decide_eq_true (ex_at xb (i := 4) rfl)⟩
    · cases h
  kt_BadPlace_NamesError := fun k b h => by
    unfold kf_BadPlace_NamesError at h
    split at h
    · rename_i hk
      subst hk
      cases h
      exact ⟨List.mem_cons_self, of_decide_eq_true (ex_at xb (i := 5) rfl)⟩
    · cases h
  }
/-! ### is_name -/
abbrev N_is_name : List Str := ["value", "letter"]
abbrev sc_is_name : Scope := defScope (top 7)
def d_is_name : SM := (seqS (ifS (orM (notM (truM (hldE (fzE (isiM "str" (hldE (rdS 0))))))) (notM (chainM leT leT (M.pure (.int 1)) (frzE (call1M lenT (hldE (rdS 0)))) (frzE (fzE (M.pure (.int 8))))))) (retS (fzE (M.pure (.bl false)))) nilS)
  (retS (call1M allT (hldE (compM (M.bind (frzE (rdS 0)) fun t => M.of (seqT t)) (stT 1) (M.pure true) (M.bind (chainM leT leT (M.pure (.str "a")) (frzE (rdS 1)) (M.pure (.str "z"))) fun w => M.pure (.bl w)) (List.map Prod.snd ([("letter", 1)] : List (Str × Nat))))))))
theorem s_is_name : FnScope N_is_name ["value"] sc_is_name := ⟨rfl, rfl, rfl, by decide +kernel, rfl, by decide +kernel, by decide +kernel⟩
/-! ### is_integer -/
abbrev N_is_integer : List Str := ["value"]
abbrev sc_is_integer : Scope := defScope (top 9)
def d_is_integer : SM := (retS (fzE (andV (isiM "int" (hldE (rdS 0))) (notV (isiM "bool" (hldE (rdS 0)))))))
theorem s_is_integer : FnScope N_is_integer ["value"] sc_is_integer := ⟨rfl, rfl, rfl, by decide +kernel, rfl, by decide +kernel, by decide +kernel⟩
/-! ### is_thing -/
abbrev N_is_thing : List Str := ["value"]
abbrev sc_is_thing : Scope := defScope (top 8)
def d_is_thing : SM := (retS (fzE (andV (frzE (M.bind (arCons (frzE (rdS 0)) (M.pure [])) fun as => callA 1 d_is_integer 1 (as ++ List.map Ar.fz []))) (M.bind (chainM leT leT (M.pure (.int 1)) (frzE (rdS 0)) (frzE (fzE (M.pure (.int 1000000000))))) fun w => M.pure (.bl w)))))
theorem s_is_thing : FnScope N_is_thing ["value"] sc_is_thing := ⟨rfl, rfl, rfl, by decide +kernel, rfl, by decide +kernel, by decide +kernel⟩
/-! ### is_word -/
abbrev N_is_word : List Str := ["value", "words"]
abbrev sc_is_word : Scope := defScope (top 10)
def d_is_word : SM := (retS (fzE (andV (isiM "str" (hldE (rdS 0))) (M.bind (cmpM inT (hldE (rdS 0)) (hldE (rdS 1))) fun w => M.pure (.bl w)))))
theorem s_is_word : FnScope N_is_word ["value", "words"] sc_is_word := ⟨rfl, rfl, rfl, by decide +kernel, rfl, by decide +kernel, by decide +kernel⟩
/-! ### is_place -/
abbrev N_is_place : List Str := ["value", "kind", "many", "names", "name"]
abbrev sc_is_place : Scope := defScope (top 12)
def d_is_place : SM := (seqS (ifS (orM (notM (truM (hldE (fzE (isiM "tuple" (hldE (rdS 0))))))) (cmpM ltT (hldE (call1M lenT (hldE (rdS 0)))) (hldE (fzE (M.pure (.int 1)))))) (retS (fzE (M.pure (.bl false)))) nilS)
  (seqS (starS (frzE (rdS 0)) 2 1 (tgCons (stT 1) (tgCons (stT 3) tgNil)))
  (seqS (ifS (truM (hldE (M.bind (arCons (frzE (rdS 1)) (arCons (tupM (consM (M.pure (.str "name")) (consM (M.pure (.str "member")) (M.pure [])))) (M.pure []))) fun as => callA 2 d_is_word 2 (as ++ List.map Ar.fz [])))) (asgS 2 (fzE (M.pure (.int 2)))) (ifS (truM (hldE (M.bind (arCons (frzE (rdS 1)) (arCons (tupM (consM (M.pure (.str "spread")) (M.pure []))) (M.pure []))) fun as => callA 2 d_is_word 2 (as ++ List.map Ar.fz [])))) (asgS 2 (fzE (M.pure (.int 3)))) (retS (fzE (M.pure (.bl false))))))
  (retS (fzE (andV (M.bind (cmpM eqT (hldE (call1M lenT (hldE (rdS 3)))) (hldE (rdS 2))) fun w => M.pure (.bl w)) (frzE (call1M allT (hldE (compM (M.bind (frzE (rdS 3)) fun t => M.of (seqT t)) (stT 4) (M.pure true) (frzE (M.bind (arCons (frzE (rdS 4)) (M.pure [])) fun as => callA 1 d_is_name 2 (as ++ List.map Ar.fz []))) (List.map Prod.snd ([("name", 4)] : List (Str × Nat)))))))))))))
theorem s_is_place : FnScope N_is_place ["value"] sc_is_place := ⟨rfl, rfl, rfl, by decide +kernel, rfl, by decide +kernel, by decide +kernel⟩
/-! ### Additionuu_inituu -/
abbrev N_Additionuu_inituu : List Str := ["self", "place", "thing"]
abbrev sc_Additionuu_inituu : Scope := defScope (mth 13 0)
def d_Additionuu_inituu : SM := (seqS (ifS (notM (truM (hldE (M.bind (arCons (frzE (rdS 1)) (M.pure [])) fun as => callA 1 d_is_place 5 (as ++ List.map Ar.fz []))))) (raiseS 1 "place" (frzE (rdS 1))) nilS)
  (seqS (ifS (notM (truM (hldE (M.bind (arCons (frzE (rdS 2)) (M.pure [])) fun as => callA 1 d_is_thing 1 (as ++ List.map Ar.fz []))))) (raiseS 2 "thing" (frzE (rdS 2))) nilS)
  (seqS (fldS [3] "place" (frzE (rdS 1)) (rdS 0))
  (seqS (fldS [3] "thing" (frzE (rdS 2)) (rdS 0))
  (seqS (fldS [3] "kind" (frzE (itemM (hldE (rdS 1)) (M.pure (.int 0)))) (rdS 0))
  (fldS [3] "name" (frzE (itemM (hldE (rdS 1)) (M.bind (M.pure (.int 1)) fun t => M.of (negT t)))) (rdS 0)))))))
theorem s_Additionuu_inituu : FnScope N_Additionuu_inituu ["self", "place", "thing"] sc_Additionuu_inituu := ⟨rfl, rfl, rfl, by decide +kernel, rfl, by decide +kernel, by decide +kernel⟩
/-! ### Additionuu_equu -/
abbrev N_Additionuu_equu : List Str := ["self", "other"]
abbrev sc_Additionuu_equu : Scope := defScope (mth 13 1)
def d_Additionuu_equu : SM := (retS (fzE (andV (isoM 3 (hldE (rdS 1))) (andV (M.bind (cmpM eqT (hldE (fzE (attrM [3] "place" (hldE (rdS 0))))) (hldE (fzE (attrM [3] "place" (hldE (rdS 1)))))) fun w => M.pure (.bl w)) (M.bind (cmpM eqT (hldE (fzE (attrM [3] "thing" (hldE (rdS 0))))) (hldE (fzE (attrM [3] "thing" (hldE (rdS 1)))))) fun w => M.pure (.bl w))))))
theorem s_Additionuu_equu : FnScope N_Additionuu_equu ["self", "other"] sc_Additionuu_equu := ⟨rfl, rfl, rfl, by decide +kernel, rfl, by decide +kernel, by decide +kernel⟩
/-! ### ulaw_pool -/
abbrev N_ulaw_pool : List Str := ["_law_script", "_law_k", "_law_cell", "_law_size", "_law_mixed"]
abbrev sc_ulaw_pool : Scope := defScope (top 15)
def d_ulaw_pool : SM := (seqS (asgS 2 (opM addT (frzE (opM mulT (M.pure (.int 7)) (frzE (call1M sumT (hldE (sliceM (hldE (rdS 0)) (M.pure none) (endM (M.pure (.int 63))))))))) (frzE (rdS 1))))
  (seqS (ifS (cmpM ltT (hldE (rdS 1)) (hldE (call1M lenT (hldE (rdS 0))))) (asgS 2 (itemM (hldE (rdS 0)) (frzE (rdS 1)))) nilS)
  (seqS (asgS 3 (call1M absT (hldE (rdS 2))))
  (seqS (asgS 4 (opM addT (frzE (opM addT (frzE (opM addT (frzE (opM modT (frzE (call1M intT (hldE (rdS 3)))) (M.pure (.int 2147483629)))) (frzE (opM mulT (frzE (opM mulT (M.pure (.int 7919)) (frzE (rdS 1)))) (frzE (rdS 1)))))) (frzE (opM mulT (M.pure (.int 31)) (frzE (rdS 1)))))) (M.pure (.int 17))))
  (seqS (asgS 4 (opM modT (frzE (call1M intT (hldE (opM mulT (frzE (rdS 4)) (M.pure (.int 48271)))))) (M.pure (.int 2147483647))))
  (retS (lstM (consM (frzE (opM mulT (frzE (rdS 3)) (frzE (call1M intT (hldE (fzE (M.bind (cmpM geT (hldE (rdS 3)) (hldE (opM powT (M.pure (.int 10)) (M.pure (.int 18))))) fun w => M.pure (.bl w)))))))) (consM (frzE (opM modT (frzE (call1M intT (hldE (opM mulT (frzE (rdS 4)) (frzE (rdS 4)))))) (M.pure (.int 2147483629)))) (M.pure []))))))))))
theorem s_ulaw_pool : FnScope N_ulaw_pool ["_law_script", "_law_k"] sc_ulaw_pool := ⟨rfl, rfl, rfl, by decide +kernel, rfl, by decide +kernel, by decide +kernel⟩
/-! ### ulaw_draw -/
abbrev N_ulaw_draw : List Str := ["_law_pool_here", "_law_many", "_law_found"]
abbrev sc_ulaw_draw : Scope := defScope (top 16)
def d_ulaw_draw : SM := (seqS (ifS (cmpM gtT (hldE (itemM (hldE (rdS 0)) (M.pure (.int 0)))) (hldE (fzE (M.pure (.int 0))))) (seqS (asgS 2 (opM modT (frzE (call1M intT (hldE (itemM (hldE (rdS 0)) (M.pure (.int 0)))))) (frzE (rdS 1))))
  (seqS (setS (frzE (opM fdivT (frzE (itemM (hldE (rdS 0)) (M.pure (.int 0)))) (frzE (rdS 1)))) (rdS 0) (M.pure (.int 0)))
  (retS (rdS 2)))) nilS)
  (seqS (setS (frzE (opM modT (frzE (call1M intT (hldE (opM addT (frzE (opM mulT (frzE (itemM (hldE (rdS 0)) (M.pure (.int 1)))) (M.pure (.int 48271)))) (M.pure (.int 11)))))) (M.pure (.int 2147483647)))) (rdS 0) (M.pure (.int 1)))
  (retS (opM modT (frzE (call1M intT (hldE (opM fdivT (frzE (opM modT (frzE (opM mulT (frzE (itemM (hldE (rdS 0)) (M.pure (.int 1)))) (frzE (itemM (hldE (rdS 0)) (M.pure (.int 1)))))) (M.pure (.int 2147483629)))) (M.pure (.int 16)))))) (frzE (rdS 1))))))
theorem s_ulaw_draw : FnScope N_ulaw_draw ["_law_pool_here", "_law_many"] sc_ulaw_draw := ⟨rfl, rfl, rfl, by decide +kernel, rfl, by decide +kernel, by decide +kernel⟩
/-! ### ulaw_pick -/
abbrev N_ulaw_pick : List Str := ["_law_pool_here", "_law_row"]
abbrev sc_ulaw_pick : Scope := defScope (top 17)
def d_ulaw_pick : SM := (retS (itemM (hldE (rdS 1)) (frzE (M.bind (arIo (rdS 0) (arCons (frzE (call1M lenT (hldE (rdS 1)))) (M.pure []))) fun as => callA 2 d_ulaw_draw 3 (as ++ List.map Ar.fz [])))))
theorem s_ulaw_pick : FnScope N_ulaw_pick ["_law_pool_here", "_law_row"] sc_ulaw_pick := ⟨rfl, rfl, rfl, by decide +kernel, rfl, by decide +kernel, by decide +kernel⟩
/-! ### ulaw_names -/
abbrev N_ulaw_names : List Str := ["_law_pool_here", "_law_count", "_law_signs", "_law_origin", "_law_step", "_law_head", "_law_tail", "_law_k"]
abbrev sc_ulaw_names : Scope := defScope (top 18)
def d_ulaw_names : SM := (seqS (asgS 2 (fzE (M.pure (.str "abcdefghijklmnopqrstuvwxyz"))))
  (seqS (asgGS (tupM (consM (frzE (M.bind (arIo (rdS 0) (arCons (M.pure (.int 26)) (M.pure []))) fun as => callA 2 d_ulaw_draw 3 (as ++ List.map Ar.fz []))) (consM (frzE (opM addT (M.pure (.int 1)) (frzE (opM mulT (M.pure (.int 2)) (frzE (M.bind (arIo (rdS 0) (arCons (M.pure (.int 6)) (M.pure []))) fun as => callA 2 d_ulaw_draw 3 (as ++ List.map Ar.fz []))))))) (M.pure [])))) (tgSeq 2 (tgCons (stT 3) (tgCons (stT 4) tgNil))))
  (seqS (asgGS (frzE (M.bind (arIo (rdS 0) (arCons (frzE (lstM (consM (tupM (consM (M.pure (.str "")) (consM (M.pure (.str "")) (M.pure [])))) (consM (tupM (consM (M.pure (.str "")) (consM (M.pure (.str "q")) (M.pure [])))) (consM (tupM (consM (M.pure (.str "ab")) (consM (M.pure (.str "")) (M.pure [])))) (consM (tupM (consM (M.pure (.str "abcdefg")) (consM (M.pure (.str "")) (M.pure [])))) (consM (tupM (consM (M.pure (.str "")) (consM (M.pure (.str "abcdefg")) (M.pure [])))) (M.pure [])))))))) (M.pure []))) fun as => callA 2 d_ulaw_pick 2 (as ++ List.map Ar.fz []))) (tgSeq 2 (tgCons (stT 5) (tgCons (stT 6) tgNil))))
  (retS (compM (M.bind (consM (frzE (rdS 1)) (M.pure [])) fun ts => M.of (rng1 ts)) (stT 7) (M.pure true) (frzE (opM addT (frzE (opM addT (frzE (rdS 5)) (frzE (itemM (hldE (rdS 2)) (frzE (opM modT (frzE (opM addT (frzE (rdS 3)) (frzE (opM mulT (frzE (rdS 4)) (frzE (rdS 7)))))) (M.pure (.int 26)))))))) (frzE (rdS 6)))) (List.map Prod.snd ([("_law_k", 7)] : List (Str × Nat))))))))
theorem s_ulaw_names : FnScope N_ulaw_names ["_law_pool_here", "_law_count"] sc_ulaw_names := ⟨rfl, rfl, rfl, by decide +kernel, rfl, by decide +kernel, by decide +kernel⟩
/-! ### ulaw_by_name -/
abbrev N_ulaw_by_name : List Str := ["_law_spot", "_law_worth"]
abbrev sc_ulaw_by_name : Scope := defScope (top 19)
def d_ulaw_by_name : SM := (retS (makeK 3 3 d_Additionuu_inituu 3 2 [1, 0] (consM (frzE (rdS 1)) (consM (frzE (rdS 0)) (M.pure [])))))
theorem s_ulaw_by_name : FnScope N_ulaw_by_name ["_law_spot", "_law_worth"] sc_ulaw_by_name := ⟨rfl, rfl, rfl, by decide +kernel, rfl, by decide +kernel, by decide +kernel⟩
/-! ### ulaw_refused -/
abbrev N_ulaw_refused : List Str := ["_law_spot", "_law_worth", "e"]
abbrev sc_ulaw_refused : Scope := defScope (top 20)
def d_ulaw_refused : SM := (seqS (tryS (dropS (M.bind (arCons (frzE (rdS 0)) (arCons (frzE (rdS 1)) (M.pure []))) fun as => makeA 3 3 d_Additionuu_inituu 3 (as ++ List.map Ar.fz []))) (⟨2, emf_BadPlace, (lstX (consX (fun _ _ => some (.str "place")) (consX (reprX (fun ci fs => if ci ∈ [1] then fs.lookup ("place" : Str) else none)) (consX (fun ci _ => (kf_BadPlace_NamesError ci).map T.bl) (fun _ _ => some [])))))⟩ :: (⟨2, emf_BadThing, (lstX (consX (fun _ _ => some (.str "thing")) (consX (reprX (fun ci fs => if ci ∈ [2] then fs.lookup ("thing" : Str) else none)) (consX (fun ci _ => (kf_BadThing_ValueError ci).map T.bl) (fun _ _ => some [])))))⟩ :: [])))
  (retS (lstM (M.pure []))))
theorem s_ulaw_refused : FnScope N_ulaw_refused ["_law_spot", "_law_worth"] sc_ulaw_refused := ⟨rfl, rfl, rfl, by decide +kernel, rfl, by decide +kernel, by decide +kernel⟩
/-! ### ulaw_odd_places -/
abbrev N_ulaw_odd_places : List Str := ["_law_names_here", "_law_found", "_law_one", "_law_two", "_law_three", "_law_four"]
abbrev sc_ulaw_odd_places : Scope := defScope (top 21)
def d_ulaw_odd_places : SM := (seqS (asgGS (frzE (rdS 0)) (tgSeq 4 (tgCons (stT 2) (tgCons (stT 3) (tgCons (stT 4) (tgCons (stT 5) tgNil))))))
  (seqS (asgS 1 (lstM (consM (M.pure .non) (consM (M.pure (.int 5)) (consM (M.pure (.str "name")) (consM (tupM (M.pure [])) (consM (tupM (consM (M.pure (.str "name")) (M.pure []))) (consM (tupM (consM (M.pure (.str "name")) (consM (frzE (rdS 2)) (M.pure [])))) (consM (tupM (consM (M.pure (.str "name")) (consM (frzE (rdS 2)) (consM (frzE (rdS 3)) (consM (frzE (rdS 4)) (M.pure [])))))) (consM (frzE (lstM (consM (M.pure (.str "name")) (consM (frzE (rdS 2)) (consM (frzE (rdS 3)) (M.pure [])))))) (M.pure [])))))))))))
  (seqS (asgS 1 (opM addT (frzE (rdS 1)) (frzE (lstM (consM (tupM (consM (M.pure (.str "member")) (consM (frzE (rdS 2)) (consM (frzE (rdS 3)) (consM (frzE (rdS 4)) (M.pure [])))))) (consM (tupM (consM (M.pure (.str "spread")) (consM (frzE (rdS 2)) (consM (frzE (rdS 3)) (M.pure []))))) (consM (tupM (consM (M.pure (.str "spread")) (consM (frzE (rdS 2)) (consM (frzE (rdS 3)) (consM (frzE (rdS 4)) (consM (frzE (rdS 5)) (M.pure []))))))) (M.pure []))))))))
  (seqS (dropS (appM (rdS 1) (tupM (consM (frzE (rdS 2)) (consM (frzE (rdS 2)) (consM (frzE (rdS 3)) (M.pure [])))))))
  (seqS (asgS 1 (opM addT (frzE (rdS 1)) (frzE (lstM (consM (tupM (consM (M.pure (.str "Name")) (consM (frzE (rdS 2)) (consM (frzE (rdS 3)) (M.pure []))))) (consM (tupM (consM (M.pure (.str "name")) (consM (frzE (rdS 2)) (consM (M.pure .non) (M.pure []))))) (consM (tupM (consM (M.pure (.str "name")) (consM (M.pure (.int 1)) (consM (frzE (rdS 3)) (M.pure []))))) (consM (tupM (consM (M.pure (.str "member")) (consM (frzE (rdS 2)) (consM (M.pure (.str "")) (M.pure []))))) (consM (tupM (consM (M.pure (.str "name")) (consM (frzE (rdS 2)) (consM (M.pure (.str "A")) (M.pure []))))) (M.pure []))))))))))
  (retS (opM addT (frzE (rdS 1)) (frzE (lstM (consM (tupM (consM (M.pure (.str "spread")) (consM (frzE (rdS 2)) (consM (frzE (rdS 3)) (consM (M.pure (.str "abcdefghi")) (M.pure [])))))) (consM (tupM (consM (M.pure .non) (consM (frzE (rdS 2)) (consM (frzE (rdS 3)) (M.pure []))))) (consM (tupM (consM (M.pure (.str "member")) (consM (tupM (consM (frzE (rdS 2)) (M.pure []))) (consM (frzE (rdS 3)) (M.pure []))))) (consM (tupM (consM (M.pure (.bl true)) (consM (frzE (rdS 2)) (consM (frzE (rdS 3)) (M.pure []))))) (M.pure []))))))))))))))
theorem s_ulaw_odd_places : FnScope N_ulaw_odd_places ["_law_names_here"] sc_ulaw_odd_places := ⟨rfl, rfl, rfl, by decide +kernel, rfl, by decide +kernel, by decide +kernel⟩
/-! ### law -/
abbrev N_law : List Str := ["_law_script", "_law_k", "_law_pool_here", "_law_names_here", "_law_worth", "_law_places", "_law_spot", "_law_odd", "_law_one", "_law_two", "_law_three", "_law_four", "_law_at", "_law_made", "_law_other"]
abbrev sc_law : Scope := defScope (top 22)
def d_law : SM := (seqS (forS (M.bind (consM (frzE (callM maxT (consM (M.pure (.int 1)) (consM (frzE (callM minT (consM (frzE (call1M lenT (hldE (rdS 0)))) (consM (M.pure (.int 6)) (M.pure []))))) (M.pure []))))) (M.pure [])) fun ts => M.of (rng1 ts)) (stT 1) (seqS (asgS 2 (M.bind (arCons (frzE (rdS 0)) (arCons (frzE (rdS 1)) (M.pure []))) fun as => callA 2 d_ulaw_pool 5 (as ++ List.map Ar.fz [])))
  (seqS (asgS 3 (M.bind (arIo (rdS 2) (arCons (M.pure (.int 4)) (M.pure []))) fun as => callA 2 d_ulaw_names 8 (as ++ List.map Ar.fz [])))
  (seqS (asgGS (frzE (rdS 3)) (tgSeq 4 (tgCons (stT 8) (tgCons (stT 9) (tgCons (stT 10) (tgCons (stT 11) tgNil))))))
  (seqS (asgS 4 (opM addT (M.pure (.int 1)) (frzE (M.bind (arIo (rdS 2) (arCons (frzE (opM powT (M.pure (.int 10)) (M.pure (.int 9)))) (M.pure []))) fun as => callA 2 d_ulaw_draw 3 (as ++ List.map Ar.fz [])))))
  (seqS (asgS 5 (lstM (consM (tupM (consM (M.pure (.str "name")) (consM (frzE (rdS 8)) (consM (frzE (rdS 9)) (M.pure []))))) (consM (tupM (consM (M.pure (.str "member")) (consM (frzE (rdS 8)) (consM (frzE (rdS 9)) (M.pure []))))) (consM (tupM (consM (M.pure (.str "spread")) (consM (frzE (rdS 8)) (consM (frzE (rdS 9)) (consM (frzE (rdS 10)) (M.pure [])))))) (consM (tupM (consM (M.pure (.str "name")) (consM (frzE (rdS 9)) (consM (frzE (rdS 9)) (M.pure []))))) (M.pure [])))))))
  (seqS (forS (M.bind (consM (frzE (rdS 5)) (M.pure [])) fun ts => M.of (enT ts)) (tgSeq 2 (tgCons (stT 12) (tgCons (stT 6) tgNil))) (seqS (asgS 13 (M.bind (arCons (frzE (rdS 6)) (arCons (frzE (rdS 4)) (M.pure []))) fun as => makeA 3 3 d_Additionuu_inituu 3 (as ++ List.map Ar.fz [])))
  (seqS (ifS (cmpM neT (hldE (lstM (consM (attrM [3] "place" (hldE (rdS 13))) (consM (attrM [3] "thing" (hldE (rdS 13))) (consM (attrM [3] "kind" (hldE (rdS 13))) (consM (attrM [3] "name" (hldE (rdS 13))) (M.pure []))))))) (hldE (lstM (consM (frzE (rdS 6)) (consM (frzE (rdS 4)) (consM (frzE (itemM (hldE (rdS 6)) (M.pure (.int 0)))) (consM (frzE (itemM (hldE (rdS 6)) (frzE (opM subT (frzE (call1M lenT (hldE (rdS 6)))) (M.pure (.int 1)))))) (M.pure [])))))))) (retS (fzE (M.pure (.bl false)))) nilS)
  (seqS (ifS (orM (M.bind (frzE (rdS 13)) fun t => M.bind (frzE (M.bind (arCons (frzE (rdS 6)) (arCons (frzE (rdS 4)) (M.pure []))) fun as => callA 2 d_ulaw_by_name 2 (as ++ List.map Ar.fz []))) fun u => M.bind (eqO 3 2 d_Additionuu_equu 2 t u) blN) (notM (M.bind (frzE (rdS 13)) fun t => M.bind (frzE (M.bind (arCons (frzE (rdS 6)) (arCons (frzE (rdS 4)) (M.pure []))) fun as => makeA 3 3 d_Additionuu_inituu 3 (as ++ List.map Ar.fz []))) fun u => M.bind (eqO 3 2 d_Additionuu_equu 2 t u) blK))) (retS (fzE (M.pure (.bl false)))) nilS)
  (seqS (forS (M.bind (consM (M.pure (.int 4)) (M.pure [])) fun ts => M.of (rng1 ts)) (stT 14) (ifS (cmpM neT (hldE (fzE (M.bind (frzE (rdS 13)) fun t => M.bind (frzE (M.bind (arCons (frzE (itemM (hldE (rdS 5)) (frzE (rdS 14)))) (arCons (frzE (rdS 4)) (M.pure []))) fun as => makeA 3 3 d_Additionuu_inituu 3 (as ++ List.map Ar.fz []))) fun u => eqO 3 2 d_Additionuu_equu 2 t u))) (hldE (fzE (M.bind (cmpM eqT (hldE (rdS 14)) (hldE (rdS 12))) fun w => M.pure (.bl w))))) (retS (fzE (M.pure (.bl false)))) nilS))
  (seqS (ifS (orM (M.bind (frzE (rdS 13)) fun t => M.bind (frzE (M.bind (arCons (frzE (rdS 6)) (arCons (frzE (opM addT (frzE (opM modT (frzE (call1M intT (hldE (rdS 4)))) (frzE (opM powT (M.pure (.int 10)) (M.pure (.int 9)))))) (M.pure (.int 1)))) (M.pure []))) fun as => makeA 3 3 d_Additionuu_inituu 3 (as ++ List.map Ar.fz []))) fun u => M.bind (eqO 3 2 d_Additionuu_equu 2 t u) blK) (orM (M.bind (frzE (rdS 13)) fun t => M.bind (tupM (consM (frzE (rdS 6)) (consM (frzE (rdS 4)) (M.pure [])))) fun u => M.bind (eqO 3 2 d_Additionuu_equu 2 t u) blK) (M.bind (frzE (rdS 13)) fun t => M.bind (frzE (rdS 6)) fun u => M.bind (eqO 3 2 d_Additionuu_equu 2 t u) blK))) (retS (fzE (M.pure (.bl false)))) nilS)
  (seqS (asgS 7 (M.bind (arIo (rdS 2) (arCons (frzE (lstM (consM (M.pure (.int 0)) (consM (frzE (opM addT (frzE (opM powT (M.pure (.int 10)) (M.pure (.int 9)))) (M.pure (.int 1)))) (consM (M.pure (.bl true)) (consM (M.pure (.str "1")) (consM (M.pure .non) (consM (frzE (lstM (consM (frzE (rdS 4)) (M.pure [])))) (consM (M.bind (frzE (rdS 4)) fun t => M.of (negT t)) (M.pure [])))))))))) (M.pure []))) fun as => callA 2 d_ulaw_pick 2 (as ++ List.map Ar.fz [])))
  (ifS (cmpM neT (hldE (sliceM (hldE (M.bind (arCons (frzE (rdS 6)) (arCons (frzE (rdS 7)) (M.pure []))) fun as => callA 2 d_ulaw_refused 3 (as ++ List.map Ar.fz []))) (M.pure none) (endM (M.pure (.int 1))))) (hldE (lstM (consM (M.pure (.str "thing")) (M.pure []))))) (retS (fzE (M.pure (.bl false)))) nilS))))))))
  (seqS (forS (M.bind (frzE (M.bind (arCons (frzE (rdS 3)) (M.pure [])) fun as => callA 1 d_ulaw_odd_places 6 (as ++ List.map Ar.fz []))) fun t => M.of (seqT t)) (stT 6) (ifS (cmpM neT (hldE (M.bind (arCons (frzE (rdS 6)) (arCons (frzE (M.bind (arIo (rdS 2) (arCons (frzE (lstM (consM (frzE (rdS 4)) (consM (M.pure .non) (consM (M.pure (.int 0)) (M.pure [])))))) (M.pure []))) fun as => callA 2 d_ulaw_pick 2 (as ++ List.map Ar.fz []))) (M.pure []))) fun as => callA 2 d_ulaw_refused 3 (as ++ List.map Ar.fz []))) (hldE (lstM (consM (M.pure (.str "place")) (consM (frzE (call1M reprT (hldE (rdS 6)))) (consM (M.pure (.bl true)) (M.pure []))))))) (retS (fzE (M.pure (.bl false)))) nilS))
  (forS (M.bind (frzE (lstM (consM (M.pure (.int 0)) (consM (frzE (opM addT (frzE (opM powT (M.pure (.int 10)) (M.pure (.int 9)))) (M.pure (.int 1)))) (consM (M.pure (.bl true)) (consM (M.pure (.bl false)) (consM (M.pure (.str "1")) (consM (M.pure .non) (consM (frzE (lstM (consM (frzE (rdS 4)) (M.pure [])))) (consM (M.bind (frzE (rdS 4)) fun t => M.of (negT t)) (M.pure []))))))))))) fun t => M.of (seqT t)) (stT 7) (ifS (cmpM neT (hldE (M.bind (arCons (frzE (itemM (hldE (rdS 5)) (frzE (M.bind (arIo (rdS 2) (arCons (M.pure (.int 4)) (M.pure []))) fun as => callA 2 d_ulaw_draw 3 (as ++ List.map Ar.fz []))))) (arCons (frzE (rdS 7)) (M.pure []))) fun as => callA 2 d_ulaw_refused 3 (as ++ List.map Ar.fz []))) (hldE (lstM (consM (M.pure (.str "thing")) (consM (frzE (call1M reprT (hldE (rdS 7)))) (consM (M.pure (.bl true)) (M.pure []))))))) (retS (fzE (M.pure (.bl false)))) nilS))))))))))
  (retS (fzE (M.pure (.bl true)))))
theorem s_law : FnScope N_law ["_law_script"] sc_law := ⟨rfl, rfl, rfl, by decide +kernel, rfl, by decide +kernel, by decide +kernel⟩
section
variable {P : Program} {w : World} {K : PySem.W.Frag} {mg : Str → Option Value} {base : Heap}
theorem ini_BadPlace (X : Fx K mg) (c : He.SaysD fal fnl K) : ∃ fd, FnOk P w K mg base CX0 1 (He.ma K (He.ga K "BadPlace") "__init__") fd ["self", "place"] (spInit (He.ga K "BadPlace") "place") ∧ Binds K fd ["self", "place"] [] := by
  obtain ⟨fd, F⟩ := c.def_ 15 (d := I_BadPlace) rfl
  exact ⟨fd, init_ok (attr := "place") (par := "place") X.x_BadPlace F ⟨rfl, rfl, rfl, by decide +kernel, rfl, by decide +kernel, by decide +kernel⟩, F.bindsN fun _ _ _ _ _ _ us hl => match us, hl with | [_, _], _ => rfl⟩
theorem ini_BadThing (X : Fx K mg) (c : He.SaysD fal fnl K) : ∃ fd, FnOk P w K mg base CX0 1 (He.ma K (He.ga K "BadThing") "__init__") fd ["self", "thing"] (spInit (He.ga K "BadThing") "thing") ∧ Binds K fd ["self", "thing"] [] := by
  obtain ⟨fd, F⟩ := c.def_ 16 (d := I_BadThing) rfl
  exact ⟨fd, init_ok (attr := "thing") (par := "thing") X.x_BadThing F ⟨rfl, rfl, rfl, by decide +kernel, rfl, by decide +kernel, by decide +kernel⟩, F.bindsN fun _ _ _ _ _ _ us hl => match us, hl with | [_, _], _ => rfl⟩
theorem fnq_is_name (X : Fx K mg) (c : He.SaysD fal fnl K) {fd : FuncData} (F : FunD K D_is_name.name D_is_name.qual D_is_name.params D_is_name.body D_is_name.scope (He.DefD.dvs K D_is_name) (He.DefD.kws K D_is_name) (He.fAd K D_is_name.at_) fd) : FnT P w K mg base (caOf K) 1 (He.fAd K ("is_name", none)) fd ["value"] 2 d_is_name := by
  have S := s_is_name
  refine fn_body F S rfl (fun cd A outer s H E B => ?_)
  exact (es_cons (e_if (eb_w (ew_or (eb_not (eb_truth (ev_h (ev_e (ev_isi (ev_h (ev_name (i := 0) rfl (.inl rfl))) rfl X.z_isinstance rfl X.z_str bb_str))) (fun _ => rfl))) (ew_or1 (eb_not (eb_chain ok_le ok_le ev_int (ev_t (ev_call1B (x := "len") ok_len rfl X.z_len bb_len (ev_h (ev_name (i := 0) rfl (.inl rfl))))) (ev_t (ev_e (ev_glob (t := .int 8) (v := .int 8) rfl X.c_MOST_LETTERS.choose_spec ⟨_, rfl⟩ fun F => mk_int _))) (by with_unfolding_all rfl)))))) (es_one (e_ret (ev_e ev_bl))) es_nil)
  (es_one (e_ret (ev_call1B (x := "all") (ok_all B.calm) rfl X.z_all bb_all (ev_h (ev_comp B.calm S.nd (ei_seq (ev_t (ev_name (i := 0) rfl (.inl rfl)))) (blkOk_by (own := [("letter", 1)]) (N := N_is_name) (sc := sc_is_name) (by decide +kernel)) (by decide) (fun _ _ _ _ _ => (eg_name (i := 1) S.nd rfl (.inl rfl))) (fun _ _ _ _ _ => et_nil) (fun _ _ _ _ _ => (ev_chain ok_le ok_le ev_str (ev_t (ev_name (i := 1) rfl (.inl (by with_unfolding_all rfl)))) ev_str (by with_unfolding_all rfl)))))))))
theorem fn_is_name (X : Fx K mg) (c : He.SaysD fal fnl K) : ∃ fd, FnT P w K mg base (caOf K) 1 (He.fAd K ("is_name", none)) fd ["value"] 2 d_is_name ∧ Binds K fd ["value"] [] ∧ PySem.W.keepIn K (.ref (He.fAd K ("is_name", none))) = true ∧ FunD K D_is_name.name D_is_name.qual D_is_name.params D_is_name.body D_is_name.scope (He.DefD.dvs K D_is_name) (He.DefD.kws K D_is_name) (He.fAd K D_is_name.at_) fd := by
  obtain ⟨fd, F⟩ := c.def_ 0 (d := D_is_name) rfl
  exact ⟨fd, fnq_is_name X c F, F.bindsN fun _ _ _ _ _ _ us hl => match us, hl with | [_], _ => rfl, F.kp, F⟩
theorem fnq_is_integer (X : Fx K mg) (c : He.SaysD fal fnl K) {fd : FuncData} (F : FunD K D_is_integer.name D_is_integer.qual D_is_integer.params D_is_integer.body D_is_integer.scope (He.DefD.dvs K D_is_integer) (He.DefD.kws K D_is_integer) (He.fAd K D_is_integer.at_) fd) : FnT P w K mg base (caOf K) 1 (He.fAd K ("is_integer", none)) fd ["value"] 1 d_is_integer := by
  have S := s_is_integer
  refine fn_body F S rfl (fun cd A outer s H E B => ?_)
  exact (es_one (e_ret (ev_e (ev_and (ev_isi (ev_h (ev_name (i := 0) rfl (.inl rfl))) rfl X.z_isinstance rfl X.z_int bb_int) (ev_one (ev_not (ev_isi (ev_h (ev_name (i := 0) rfl (.inl rfl))) rfl X.z_isinstance rfl X.z_bool bb_bool)))))))
theorem fn_is_integer (X : Fx K mg) (c : He.SaysD fal fnl K) : ∃ fd, FnT P w K mg base (caOf K) 1 (He.fAd K ("is_integer", none)) fd ["value"] 1 d_is_integer ∧ Binds K fd ["value"] [] ∧ PySem.W.keepIn K (.ref (He.fAd K ("is_integer", none))) = true ∧ FunD K D_is_integer.name D_is_integer.qual D_is_integer.params D_is_integer.body D_is_integer.scope (He.DefD.dvs K D_is_integer) (He.DefD.kws K D_is_integer) (He.fAd K D_is_integer.at_) fd := by
  obtain ⟨fd, F⟩ := c.def_ 1 (d := D_is_integer) rfl
  exact ⟨fd, fnq_is_integer X c F, F.bindsN fun _ _ _ _ _ _ us hl => match us, hl with | [_], _ => rfl, F.kp, F⟩
theorem fnq_is_thing (X : Fx K mg) (c : He.SaysD fal fnl K) {fd : FuncData} (F : FunD K D_is_thing.name D_is_thing.qual D_is_thing.params D_is_thing.body D_is_thing.scope (He.DefD.dvs K D_is_thing) (He.DefD.kws K D_is_thing) (He.fAd K D_is_thing.at_) fd) : FnT P w K mg base (caOf K) 2 (He.fAd K ("is_thing", none)) fd ["value"] 1 d_is_thing := by
  obtain ⟨fd_is_integer, F_is_integer, b_is_integer, k_is_integer, Q_is_integer⟩ := fn_is_integer (P := P) (w := w) (base := base) X c
  have S := s_is_thing
  refine fn_body F S rfl (fun cd A outer s H E B => ?_)
  exact (es_one (e_ret (ev_e (ev_and (ev_t (ev_call (x := "is_integer") (dts := []) F_is_integer B.bk (by decide) (by decide) rfl X.g_is_integer k_is_integer b_is_integer .nil (fun _ => .nil) (er_cons (ev_t (ev_name (i := 0) rfl (.inl rfl))) er_nil))) (ev_one (ev_chain ok_le ok_le ev_int (ev_t (ev_name (i := 0) rfl (.inl rfl))) (ev_t (ev_e (ev_glob (t := .int 1000000000) (v := .int 1000000000) rfl X.c_LAST_THING.choose_spec ⟨_, rfl⟩ fun F => mk_int _))) (by with_unfolding_all rfl)))))))
theorem fn_is_thing (X : Fx K mg) (c : He.SaysD fal fnl K) : ∃ fd, FnT P w K mg base (caOf K) 2 (He.fAd K ("is_thing", none)) fd ["value"] 1 d_is_thing ∧ Binds K fd ["value"] [] ∧ PySem.W.keepIn K (.ref (He.fAd K ("is_thing", none))) = true ∧ FunD K D_is_thing.name D_is_thing.qual D_is_thing.params D_is_thing.body D_is_thing.scope (He.DefD.dvs K D_is_thing) (He.DefD.kws K D_is_thing) (He.fAd K D_is_thing.at_) fd := by
  obtain ⟨fd, F⟩ := c.def_ 2 (d := D_is_thing) rfl
  exact ⟨fd, fnq_is_thing X c F, F.bindsN fun _ _ _ _ _ _ us hl => match us, hl with | [_], _ => rfl, F.kp, F⟩
theorem fnq_is_word (X : Fx K mg) (c : He.SaysD fal fnl K) {fd : FuncData} (F : FunD K D_is_word.name D_is_word.qual D_is_word.params D_is_word.body D_is_word.scope (He.DefD.dvs K D_is_word) (He.DefD.kws K D_is_word) (He.fAd K D_is_word.at_) fd) : FnT P w K mg base (caOf K) 1 (He.fAd K ("is_word", none)) fd ["value", "words"] 2 d_is_word := by
  have S := s_is_word
  refine fn_body F S rfl (fun cd A outer s H E B => ?_)
  exact (es_one (e_ret (ev_e (ev_and (ev_isi (ev_h (ev_name (i := 0) rfl (.inl rfl))) rfl X.z_isinstance rfl X.z_str bb_str) (ev_one (ev_cmp ok_in (ev_h (ev_name (i := 0) rfl (.inl rfl))) (ev_h (ev_name (i := 1) rfl (.inl rfl))) rfl))))))
theorem fn_is_word (X : Fx K mg) (c : He.SaysD fal fnl K) : ∃ fd, FnT P w K mg base (caOf K) 1 (He.fAd K ("is_word", none)) fd ["value", "words"] 2 d_is_word ∧ Binds K fd ["value", "words"] [] ∧ PySem.W.keepIn K (.ref (He.fAd K ("is_word", none))) = true ∧ FunD K D_is_word.name D_is_word.qual D_is_word.params D_is_word.body D_is_word.scope (He.DefD.dvs K D_is_word) (He.DefD.kws K D_is_word) (He.fAd K D_is_word.at_) fd := by
  obtain ⟨fd, F⟩ := c.def_ 3 (d := D_is_word) rfl
  exact ⟨fd, fnq_is_word X c F, F.bindsN fun _ _ _ _ _ _ us hl => match us, hl with | [_, _], _ => rfl, F.kp, F⟩
theorem fnq_is_place (X : Fx K mg) (c : He.SaysD fal fnl K) {fd : FuncData} (F : FunD K D_is_place.name D_is_place.qual D_is_place.params D_is_place.body D_is_place.scope (He.DefD.dvs K D_is_place) (He.DefD.kws K D_is_place) (He.fAd K D_is_place.at_) fd) : FnT P w K mg base (caOf K) 2 (He.fAd K ("is_place", none)) fd ["value"] 5 d_is_place := by
  obtain ⟨fd_is_word, F_is_word, b_is_word, k_is_word, Q_is_word⟩ := fn_is_word (P := P) (w := w) (base := base) X c
  obtain ⟨fd_is_name, F_is_name, b_is_name, k_is_name, Q_is_name⟩ := fn_is_name (P := P) (w := w) (base := base) X c
  have S := s_is_place
  refine fn_body F S rfl (fun cd A outer s H E B => ?_)
  exact (es_cons (e_if (eb_w (ew_or (eb_not (eb_truth (ev_h (ev_e (ev_isi (ev_h (ev_name (i := 0) rfl (.inl rfl))) rfl X.z_isinstance rfl X.z_tuple bb_tuple))) (fun _ => rfl))) (ew_or1 (eb_cmp ok_lt (ev_h (ev_call1B (x := "len") ok_len rfl X.z_len bb_len (ev_h (ev_name (i := 0) rfl (.inl rfl))))) (ev_h (ev_e ev_int)) (nomark _))))) (es_one (e_ret (ev_e ev_bl))) es_nil)
  (es_cons (e_star (fs := [.Name "kind" _, .Name "names" _]) (n := 2) (i := 1) B.calm (ev_t (ev_name (i := 0) rfl (.inl rfl))) (eg_cons (eg_name (i := 1) S.nd rfl (.inl rfl)) (eg_cons (eg_name (i := 3) S.nd rfl (.inl rfl)) eg_nil)) rfl rfl (by decide) rfl)
  (es_cons (e_if (eb_truth (ev_h (ev_call (x := "is_word") (dts := []) F_is_word B.bk (by decide) (by decide) rfl X.g_is_word k_is_word b_is_word .nil (fun _ => .nil) (er_cons (ev_t (ev_name (i := 1) rfl (.inl rfl))) (er_cons (ev_tup (ea_cons ev_str (ea_cons ev_str ea_nil))) er_nil)))) (fun _ => rfl)) (es_one (e_asg (i := 2) S.nd rfl (.inl rfl) (ev_e ev_int))) (es_one (e_if (eb_truth (ev_h (ev_call (x := "is_word") (dts := []) F_is_word B.bk (by decide) (by decide) rfl X.g_is_word k_is_word b_is_word .nil (fun _ => .nil) (er_cons (ev_t (ev_name (i := 1) rfl (.inl rfl))) (er_cons (ev_tup (ea_cons ev_str ea_nil)) er_nil)))) (fun _ => rfl)) (es_one (e_asg (i := 2) S.nd rfl (.inl rfl) (ev_e ev_int))) (es_one (e_ret (ev_e ev_bl))))))
  (es_one (e_ret (ev_e (ev_and (ev_cmp (ok_eq B.rm) (ev_h (ev_call1B (x := "len") ok_len rfl X.z_len bb_len (ev_h (ev_name (i := 3) rfl (.inl rfl))))) (ev_h (ev_name (i := 2) rfl (.inl rfl))) (nomark _)) (ev_one (ev_t (ev_call1B (x := "all") (ok_all B.calm) rfl X.z_all bb_all (ev_h (ev_comp B.calm S.nd (ei_seq (ev_t (ev_name (i := 3) rfl (.inl rfl)))) (blkOk_by (own := [("name", 4)]) (N := N_is_place) (sc := sc_is_place) (by decide +kernel)) (by decide) (fun _ _ _ _ _ => (eg_name (i := 4) S.nd rfl (.inl rfl))) (fun _ _ _ _ _ => et_nil) (fun _ _ _ _ _ => (ev_t (ev_call (x := "is_name") (dts := []) F_is_name (B.bk.blk _ _ _ _ _) (by decide) (by decide) (by with_unfolding_all rfl) X.g_is_name k_is_name b_is_name .nil (fun _ => .nil) (er_cons (ev_t (ev_name (i := 4) rfl (.inl (by with_unfolding_all rfl)))) er_nil))))))))))))))))
theorem fn_is_place (X : Fx K mg) (c : He.SaysD fal fnl K) : ∃ fd, FnT P w K mg base (caOf K) 2 (He.fAd K ("is_place", none)) fd ["value"] 5 d_is_place ∧ Binds K fd ["value"] [] ∧ PySem.W.keepIn K (.ref (He.fAd K ("is_place", none))) = true ∧ FunD K D_is_place.name D_is_place.qual D_is_place.params D_is_place.body D_is_place.scope (He.DefD.dvs K D_is_place) (He.DefD.kws K D_is_place) (He.fAd K D_is_place.at_) fd := by
  obtain ⟨fd, F⟩ := c.def_ 4 (d := D_is_place) rfl
  exact ⟨fd, fnq_is_place X c F, F.bindsN fun _ _ _ _ _ _ us hl => match us, hl with | [_], _ => rfl, F.kp, F⟩
theorem fnq_Additionuu_inituu (X : Fx K mg) (c : He.SaysD fal fnl K) {fd : FuncData} (F : FunD K D_Additionuu_inituu.name D_Additionuu_inituu.qual D_Additionuu_inituu.params D_Additionuu_inituu.body D_Additionuu_inituu.scope (He.DefD.dvs K D_Additionuu_inituu) (He.DefD.kws K D_Additionuu_inituu) (He.fAd K D_Additionuu_inituu.at_) fd) : FnT P w K mg base (caOf K) 3 (He.fAd K ("Addition", some "__init__")) fd ["self", "place", "thing"] 3 d_Additionuu_inituu := by
  obtain ⟨fd_is_place, F_is_place, b_is_place, k_is_place, Q_is_place⟩ := fn_is_place (P := P) (w := w) (base := base) X c
  obtain ⟨fd_is_thing, F_is_thing, b_is_thing, k_is_thing, Q_is_thing⟩ := fn_is_thing (P := P) (w := w) (base := base) X c
  obtain ⟨rd_BadPlace, R_BadPlace, r_BadPlace⟩ := ini_BadPlace (P := P) (w := w) (base := base) X c
  obtain ⟨rd_BadThing, R_BadThing, r_BadThing⟩ := ini_BadThing (P := P) (w := w) (base := base) X c
  have S := s_Additionuu_inituu
  refine fn_body F S rfl (fun cd A outer s H E B => ?_)
  exact (es_cons (e_if (eb_not (eb_truth (ev_h (ev_call (x := "is_place") (dts := []) F_is_place B.bk (by decide) (by decide) rfl X.g_is_place k_is_place b_is_place .nil (fun _ => .nil) (er_cons (ev_t (ev_name (i := 1) rfl (.inl rfl))) er_nil))) (fun _ => rfl))) (es_one (e_raise (ci := 1) X.x_BadPlace R_BadPlace B (by decide) X.i_BadPlace.at_ X.i_BadPlace.fn r_BadPlace rfl X.g_BadPlace (ev_t (ev_name (i := 1) rfl (.inl rfl))))) es_nil)
  (es_cons (e_if (eb_not (eb_truth (ev_h (ev_call (x := "is_thing") (dts := []) F_is_thing B.bk (by decide) (by decide) rfl X.g_is_thing k_is_thing b_is_thing .nil (fun _ => .nil) (er_cons (ev_t (ev_name (i := 2) rfl (.inl rfl))) er_nil))) (fun _ => rfl))) (es_one (e_raise (ci := 2) X.x_BadThing R_BadThing B (by decide) X.i_BadThing.at_ X.i_BadThing.fn r_BadThing rfl X.g_BadThing (ev_t (ev_name (i := 2) rfl (.inl rfl))))) es_nil)
  (es_cons (e_fld (cs := [3]) X.fl_place (ev_t (ev_name (i := 1) rfl (.inl rfl))) (ev_name (i := 0) rfl (.inl rfl)))
  (es_cons (e_fld (cs := [3]) X.fl_thing (ev_t (ev_name (i := 2) rfl (.inl rfl))) (ev_name (i := 0) rfl (.inl rfl)))
  (es_cons (e_fld (cs := [3]) X.fl_kind (ev_t (ev_item (ev_h (ev_name (i := 1) rfl (.inl rfl))) ev_int (fun _ _ => rfl))) (ev_name (i := 0) rfl (.inl rfl)))
  (es_one (e_fld (cs := [3]) X.fl_name (ev_t (ev_item (ev_h (ev_name (i := 1) rfl (.inl rfl))) (ev_neg ev_int) (fun _ _ => rfl))) (ev_name (i := 0) rfl (.inl rfl)))))))))
theorem fn_Additionuu_inituu (X : Fx K mg) (c : He.SaysD fal fnl K) : ∃ fd, FnT P w K mg base (caOf K) 3 (He.fAd K ("Addition", some "__init__")) fd ["self", "place", "thing"] 3 d_Additionuu_inituu ∧ Binds K fd ["self", "place", "thing"] [] ∧ PySem.W.keepIn K (.ref (He.fAd K ("Addition", some "__init__"))) = true ∧ FunD K D_Additionuu_inituu.name D_Additionuu_inituu.qual D_Additionuu_inituu.params D_Additionuu_inituu.body D_Additionuu_inituu.scope (He.DefD.dvs K D_Additionuu_inituu) (He.DefD.kws K D_Additionuu_inituu) (He.fAd K D_Additionuu_inituu.at_) fd := by
  obtain ⟨fd, F⟩ := c.def_ 5 (d := D_Additionuu_inituu) rfl
  exact ⟨fd, fnq_Additionuu_inituu X c F, F.bindsN fun _ _ _ _ _ _ us hl => match us, hl with | [_, _, _], _ => rfl, F.kp, F⟩
theorem fnq_Additionuu_equu (X : Fx K mg) (c : He.SaysD fal fnl K) {fd : FuncData} (F : FunD K D_Additionuu_equu.name D_Additionuu_equu.qual D_Additionuu_equu.params D_Additionuu_equu.body D_Additionuu_equu.scope (He.DefD.dvs K D_Additionuu_equu) (He.DefD.kws K D_Additionuu_equu) (He.fAd K D_Additionuu_equu.at_) fd) : FnT P w K mg base (caOf K) 1 (He.fAd K ("Addition", some "__eq__")) fd ["self", "other"] 2 d_Additionuu_equu := by
  have S := s_Additionuu_equu
  refine fn_body F S rfl (fun cd A outer s H E B => ?_)
  exact (es_one (e_ret (ev_e (ev_and (ev_iso (ci := 3) X.w_Addition (ev_h (ev_name (i := 1) rfl (.inl rfl))) rfl X.z_isinstance rfl X.g_Addition) (ev_and (ev_cmp (ok_eq B.rm) (ev_h (ev_e (ev_attr (cs := [3]) X.fl_place (ev_h (ev_name (i := 0) rfl (.inl rfl)))))) (ev_h (ev_e (ev_attr (cs := [3]) X.fl_place (ev_h (ev_name (i := 1) rfl (.inl rfl)))))) (nomark _)) (ev_one (ev_cmp (ok_eq B.rm) (ev_h (ev_e (ev_attr (cs := [3]) X.fl_thing (ev_h (ev_name (i := 0) rfl (.inl rfl)))))) (ev_h (ev_e (ev_attr (cs := [3]) X.fl_thing (ev_h (ev_name (i := 1) rfl (.inl rfl)))))) (nomark _))))))))
theorem fn_Additionuu_equu (X : Fx K mg) (c : He.SaysD fal fnl K) : ∃ fd, FnT P w K mg base (caOf K) 1 (He.fAd K ("Addition", some "__eq__")) fd ["self", "other"] 2 d_Additionuu_equu ∧ Binds K fd ["self", "other"] [] ∧ PySem.W.keepIn K (.ref (He.fAd K ("Addition", some "__eq__"))) = true ∧ FunD K D_Additionuu_equu.name D_Additionuu_equu.qual D_Additionuu_equu.params D_Additionuu_equu.body D_Additionuu_equu.scope (He.DefD.dvs K D_Additionuu_equu) (He.DefD.kws K D_Additionuu_equu) (He.fAd K D_Additionuu_equu.at_) fd := by
  obtain ⟨fd, F⟩ := c.def_ 6 (d := D_Additionuu_equu) rfl
  exact ⟨fd, fnq_Additionuu_equu X c F, F.bindsN fun _ _ _ _ _ _ us hl => match us, hl with | [_, _], _ => rfl, F.kp, F⟩
theorem fnq_ulaw_pool (X : Fx K mg) (c : He.SaysD fal fnl K) {fd : FuncData} (F : FunD K D_ulaw_pool.name D_ulaw_pool.qual D_ulaw_pool.params D_ulaw_pool.body D_ulaw_pool.scope (He.DefD.dvs K D_ulaw_pool) (He.DefD.kws K D_ulaw_pool) (He.fAd K D_ulaw_pool.at_) fd) : FnT P w K mg base (caOf K) 1 (He.fAd K ("_law_pool", none)) fd ["_law_script", "_law_k"] 5 d_ulaw_pool := by
  have S := s_ulaw_pool
  refine fn_body F S rfl (fun cd A outer s H E B => ?_)
  exact (es_cons (e_asg (i := 2) S.nd rfl (.inl rfl) (ev_op ok_add (ev_t (ev_op ok_mul ev_int (ev_t (ev_call1B (x := "sum") (ok_sum B.calm) rfl X.z_sum bb_sum (ev_h (ev_slice (ev_h (ev_name (i := 0) rfl (.inl rfl))) eo_none (eo_some ev_int))))))) (ev_t (ev_name (i := 1) rfl (.inl rfl)))))
  (es_cons (e_if (eb_cmp ok_lt (ev_h (ev_name (i := 1) rfl (.inl rfl))) (ev_h (ev_call1B (x := "len") ok_len rfl X.z_len bb_len (ev_h (ev_name (i := 0) rfl (.inl rfl))))) (nomark _)) (es_one (e_asg (i := 2) S.nd rfl (.inl rfl) (ev_item (ev_h (ev_name (i := 0) rfl (.inl rfl))) (ev_t (ev_name (i := 1) rfl (.inl rfl))) (fun _ _ => rfl)))) es_nil)
  (es_cons (e_asg (i := 3) S.nd rfl (.inl rfl) (ev_call1B (x := "abs") ok_abs rfl X.z_abs bb_abs (ev_h (ev_name (i := 2) rfl (.inl rfl)))))
  (es_cons (e_asg (i := 4) S.nd rfl (.inl rfl) (ev_op ok_add (ev_t (ev_op ok_add (ev_t (ev_op ok_add (ev_t (ev_op ok_mod (ev_t (ev_call1T (x := "int") ok_int rfl X.z_int bb_int (ev_h (ev_name (i := 3) rfl (.inl rfl))))) ev_int)) (ev_t (ev_op ok_mul (ev_t (ev_op ok_mul ev_int (ev_t (ev_name (i := 1) rfl (.inl rfl))))) (ev_t (ev_name (i := 1) rfl (.inl rfl))))))) (ev_t (ev_op ok_mul ev_int (ev_t (ev_name (i := 1) rfl (.inl rfl))))))) ev_int))
  (es_cons (e_asg (i := 4) S.nd rfl (.inl rfl) (ev_op ok_mod (ev_t (ev_call1T (x := "int") ok_int rfl X.z_int bb_int (ev_h (ev_op ok_mul (ev_t (ev_name (i := 4) rfl (.inl rfl))) ev_int)))) ev_int))
  (es_one (e_ret (ev_lst (ea_cons (ev_t (ev_op ok_mul (ev_t (ev_name (i := 3) rfl (.inl rfl))) (ev_t (ev_call1T (x := "int") ok_int rfl X.z_int bb_int (ev_h (ev_e (ev_cmp ok_ge (ev_h (ev_name (i := 3) rfl (.inl rfl))) (ev_h (ev_op ok_pow ev_int ev_int)) (nomark _)))))))) (ea_cons (ev_t (ev_op ok_mod (ev_t (ev_call1T (x := "int") ok_int rfl X.z_int bb_int (ev_h (ev_op ok_mul (ev_t (ev_name (i := 4) rfl (.inl rfl))) (ev_t (ev_name (i := 4) rfl (.inl rfl))))))) ev_int)) ea_nil))))))))))
theorem fn_ulaw_pool (X : Fx K mg) (c : He.SaysD fal fnl K) : ∃ fd, FnT P w K mg base (caOf K) 1 (He.fAd K ("_law_pool", none)) fd ["_law_script", "_law_k"] 5 d_ulaw_pool ∧ Binds K fd ["_law_script", "_law_k"] [] ∧ PySem.W.keepIn K (.ref (He.fAd K ("_law_pool", none))) = true ∧ FunD K D_ulaw_pool.name D_ulaw_pool.qual D_ulaw_pool.params D_ulaw_pool.body D_ulaw_pool.scope (He.DefD.dvs K D_ulaw_pool) (He.DefD.kws K D_ulaw_pool) (He.fAd K D_ulaw_pool.at_) fd := by
  obtain ⟨fd, F⟩ := c.def_ 7 (d := D_ulaw_pool) rfl
  exact ⟨fd, fnq_ulaw_pool X c F, F.bindsN fun _ _ _ _ _ _ us hl => match us, hl with | [_, _], _ => rfl, F.kp, F⟩
theorem fnq_ulaw_draw (X : Fx K mg) (c : He.SaysD fal fnl K) {fd : FuncData} (F : FunD K D_ulaw_draw.name D_ulaw_draw.qual D_ulaw_draw.params D_ulaw_draw.body D_ulaw_draw.scope (He.DefD.dvs K D_ulaw_draw) (He.DefD.kws K D_ulaw_draw) (He.fAd K D_ulaw_draw.at_) fd) : FnT P w K mg base (caOf K) 1 (He.fAd K ("_law_draw", none)) fd ["_law_pool_here", "_law_many"] 3 d_ulaw_draw := by
  have S := s_ulaw_draw
  refine fn_body F S rfl (fun cd A outer s H E B => ?_)
  exact (es_cons (e_if (eb_cmp ok_gt (ev_h (ev_item (ev_h (ev_name (i := 0) rfl (.inl rfl))) ev_int (fun _ _ => rfl))) (ev_h (ev_e ev_int)) (nomark _)) (es_cons (e_asg (i := 2) S.nd rfl (.inl rfl) (ev_op ok_mod (ev_t (ev_call1T (x := "int") ok_int rfl X.z_int bb_int (ev_h (ev_item (ev_h (ev_name (i := 0) rfl (.inl rfl))) ev_int (fun _ _ => rfl))))) (ev_t (ev_name (i := 1) rfl (.inl rfl)))))
  (es_cons (e_set (ev_t (ev_op ok_fdiv (ev_t (ev_item (ev_h (ev_name (i := 0) rfl (.inl rfl))) ev_int (fun _ _ => rfl))) (ev_t (ev_name (i := 1) rfl (.inl rfl))))) (ev_name (i := 0) rfl (.inl rfl)) ev_int)
  (es_one (e_ret (ev_name (i := 2) rfl (.inl rfl)))))) es_nil)
  (es_cons (e_set (ev_t (ev_op ok_mod (ev_t (ev_call1T (x := "int") ok_int rfl X.z_int bb_int (ev_h (ev_op ok_add (ev_t (ev_op ok_mul (ev_t (ev_item (ev_h (ev_name (i := 0) rfl (.inl rfl))) ev_int (fun _ _ => rfl))) ev_int)) ev_int)))) ev_int)) (ev_name (i := 0) rfl (.inl rfl)) ev_int)
  (es_one (e_ret (ev_op ok_mod (ev_t (ev_call1T (x := "int") ok_int rfl X.z_int bb_int (ev_h (ev_op ok_fdiv (ev_t (ev_op ok_mod (ev_t (ev_op ok_mul (ev_t (ev_item (ev_h (ev_name (i := 0) rfl (.inl rfl))) ev_int (fun _ _ => rfl))) (ev_t (ev_item (ev_h (ev_name (i := 0) rfl (.inl rfl))) ev_int (fun _ _ => rfl))))) ev_int)) ev_int)))) (ev_t (ev_name (i := 1) rfl (.inl rfl))))))))
theorem fn_ulaw_draw (X : Fx K mg) (c : He.SaysD fal fnl K) : ∃ fd, FnT P w K mg base (caOf K) 1 (He.fAd K ("_law_draw", none)) fd ["_law_pool_here", "_law_many"] 3 d_ulaw_draw ∧ Binds K fd ["_law_pool_here", "_law_many"] [] ∧ PySem.W.keepIn K (.ref (He.fAd K ("_law_draw", none))) = true ∧ FunD K D_ulaw_draw.name D_ulaw_draw.qual D_ulaw_draw.params D_ulaw_draw.body D_ulaw_draw.scope (He.DefD.dvs K D_ulaw_draw) (He.DefD.kws K D_ulaw_draw) (He.fAd K D_ulaw_draw.at_) fd := by
  obtain ⟨fd, F⟩ := c.def_ 8 (d := D_ulaw_draw) rfl
  exact ⟨fd, fnq_ulaw_draw X c F, F.bindsN fun _ _ _ _ _ _ us hl => match us, hl with | [_, _], _ => rfl, F.kp, F⟩
theorem fnq_ulaw_pick (X : Fx K mg) (c : He.SaysD fal fnl K) {fd : FuncData} (F : FunD K D_ulaw_pick.name D_ulaw_pick.qual D_ulaw_pick.params D_ulaw_pick.body D_ulaw_pick.scope (He.DefD.dvs K D_ulaw_pick) (He.DefD.kws K D_ulaw_pick) (He.fAd K D_ulaw_pick.at_) fd) : FnT P w K mg base (caOf K) 2 (He.fAd K ("_law_pick", none)) fd ["_law_pool_here", "_law_row"] 2 d_ulaw_pick := by
  obtain ⟨fd_ulaw_draw, F_ulaw_draw, b_ulaw_draw, k_ulaw_draw, Q_ulaw_draw⟩ := fn_ulaw_draw (P := P) (w := w) (base := base) X c
  have S := s_ulaw_pick
  refine fn_body F S rfl (fun cd A outer s H E B => ?_)
  exact (es_one (e_ret (ev_item (ev_h (ev_name (i := 1) rfl (.inl rfl))) (ev_t (ev_call (x := "_law_draw") (dts := []) F_ulaw_draw B.bk (by decide) (by decide) rfl X.g_ulaw_draw k_ulaw_draw b_ulaw_draw .nil (fun _ => .nil) (er_io (ev_name (i := 0) rfl (.inl rfl)) (er_cons (ev_t (ev_call1B (x := "len") ok_len rfl X.z_len bb_len (ev_h (ev_name (i := 1) rfl (.inl rfl))))) er_nil)))) (fun _ _ => rfl))))
theorem fn_ulaw_pick (X : Fx K mg) (c : He.SaysD fal fnl K) : ∃ fd, FnT P w K mg base (caOf K) 2 (He.fAd K ("_law_pick", none)) fd ["_law_pool_here", "_law_row"] 2 d_ulaw_pick ∧ Binds K fd ["_law_pool_here", "_law_row"] [] ∧ PySem.W.keepIn K (.ref (He.fAd K ("_law_pick", none))) = true ∧ FunD K D_ulaw_pick.name D_ulaw_pick.qual D_ulaw_pick.params D_ulaw_pick.body D_ulaw_pick.scope (He.DefD.dvs K D_ulaw_pick) (He.DefD.kws K D_ulaw_pick) (He.fAd K D_ulaw_pick.at_) fd := by
  obtain ⟨fd, F⟩ := c.def_ 9 (d := D_ulaw_pick) rfl
  exact ⟨fd, fnq_ulaw_pick X c F, F.bindsN fun _ _ _ _ _ _ us hl => match us, hl with | [_, _], _ => rfl, F.kp, F⟩
theorem fnq_ulaw_names (X : Fx K mg) (c : He.SaysD fal fnl K) {fd : FuncData} (F : FunD K D_ulaw_names.name D_ulaw_names.qual D_ulaw_names.params D_ulaw_names.body D_ulaw_names.scope (He.DefD.dvs K D_ulaw_names) (He.DefD.kws K D_ulaw_names) (He.fAd K D_ulaw_names.at_) fd) : FnT P w K mg base (caOf K) 3 (He.fAd K ("_law_names", none)) fd ["_law_pool_here", "_law_count"] 8 d_ulaw_names := by
  obtain ⟨fd_ulaw_draw, F_ulaw_draw, b_ulaw_draw, k_ulaw_draw, Q_ulaw_draw⟩ := fn_ulaw_draw (P := P) (w := w) (base := base) X c
  obtain ⟨fd_ulaw_pick, F_ulaw_pick, b_ulaw_pick, k_ulaw_pick, Q_ulaw_pick⟩ := fn_ulaw_pick (P := P) (w := w) (base := base) X c
  have S := s_ulaw_names
  refine fn_body F S rfl (fun cd A outer s H E B => ?_)
  exact (es_cons (e_asg (i := 2) S.nd rfl (.inr rfl) (ev_e ev_str))
  (es_cons (e_asgG (ev_tup (ea_cons (ev_t (ev_call (x := "_law_draw") (dts := []) F_ulaw_draw B.bk (by decide) (by decide) rfl X.g_ulaw_draw k_ulaw_draw b_ulaw_draw .nil (fun _ => .nil) (er_io (ev_name (i := 0) rfl (.inl rfl)) (er_cons ev_int er_nil)))) (ea_cons (ev_t (ev_op ok_add ev_int (ev_t (ev_op ok_mul ev_int (ev_t (ev_call (x := "_law_draw") (dts := []) F_ulaw_draw B.bk (by decide) (by decide) rfl X.g_ulaw_draw k_ulaw_draw b_ulaw_draw .nil (fun _ => .nil) (er_io (ev_name (i := 0) rfl (.inl rfl)) (er_cons ev_int er_nil)))))))) ea_nil))) (eg_seq B.calm (eg_cons (eg_name (i := 3) S.nd rfl (.inr rfl)) (eg_cons (eg_name (i := 4) S.nd rfl (.inr rfl)) eg_nil))))
  (es_cons (e_asgG (ev_t (ev_call (x := "_law_pick") (dts := []) F_ulaw_pick B.bk (by decide) (by decide) rfl X.g_ulaw_pick k_ulaw_pick b_ulaw_pick .nil (fun _ => .nil) (er_io (ev_name (i := 0) rfl (.inl rfl)) (er_cons (ev_t (ev_lst (ea_cons (ev_tup (ea_cons ev_str (ea_cons ev_str ea_nil))) (ea_cons (ev_tup (ea_cons ev_str (ea_cons ev_str ea_nil))) (ea_cons (ev_tup (ea_cons ev_str (ea_cons ev_str ea_nil))) (ea_cons (ev_tup (ea_cons ev_str (ea_cons ev_str ea_nil))) (ea_cons (ev_tup (ea_cons ev_str (ea_cons ev_str ea_nil))) ea_nil))))))) er_nil)))) (eg_seq B.calm (eg_cons (eg_name (i := 5) S.nd rfl (.inr rfl)) (eg_cons (eg_name (i := 6) S.nd rfl (.inr rfl)) eg_nil))))
  (es_one (e_ret (ev_comp B.calm S.nd (ei_range1 rfl X.z_range (ea_cons (ev_t (ev_name (i := 1) rfl (.inl rfl))) ea_nil)) (blkOk_by (own := [("_law_k", 7)]) (N := N_ulaw_names) (sc := sc_ulaw_names) (by decide +kernel)) (by decide) (fun _ _ _ _ _ => (eg_name (i := 7) S.nd rfl (.inl rfl))) (fun _ _ _ _ _ => et_nil) (fun _ _ _ _ _ => (ev_t (ev_op ok_add (ev_t (ev_op ok_add (ev_t (ev_name (i := 5) rfl (.inr (.inl (by with_unfolding_all rfl))))) (ev_t (ev_item (ev_h (ev_name (i := 2) rfl (.inr (.inl (by with_unfolding_all rfl))))) (ev_t (ev_op ok_mod (ev_t (ev_op ok_add (ev_t (ev_name (i := 3) rfl (.inr (.inl (by with_unfolding_all rfl))))) (ev_t (ev_op ok_mul (ev_t (ev_name (i := 4) rfl (.inr (.inl (by with_unfolding_all rfl))))) (ev_t (ev_name (i := 7) rfl (.inl (by with_unfolding_all rfl)))))))) ev_int)) (fun _ _ => rfl))))) (ev_t (ev_name (i := 6) rfl (.inr (.inl (by with_unfolding_all rfl))))))))))))))
theorem fn_ulaw_names (X : Fx K mg) (c : He.SaysD fal fnl K) : ∃ fd, FnT P w K mg base (caOf K) 3 (He.fAd K ("_law_names", none)) fd ["_law_pool_here", "_law_count"] 8 d_ulaw_names ∧ Binds K fd ["_law_pool_here", "_law_count"] [] ∧ PySem.W.keepIn K (.ref (He.fAd K ("_law_names", none))) = true ∧ FunD K D_ulaw_names.name D_ulaw_names.qual D_ulaw_names.params D_ulaw_names.body D_ulaw_names.scope (He.DefD.dvs K D_ulaw_names) (He.DefD.kws K D_ulaw_names) (He.fAd K D_ulaw_names.at_) fd := by
  obtain ⟨fd, F⟩ := c.def_ 10 (d := D_ulaw_names) rfl
  exact ⟨fd, fnq_ulaw_names X c F, F.bindsN fun _ _ _ _ _ _ us hl => match us, hl with | [_, _], _ => rfl, F.kp, F⟩
theorem fnq_ulaw_by_name (X : Fx K mg) (c : He.SaysD fal fnl K) {fd : FuncData} (F : FunD K D_ulaw_by_name.name D_ulaw_by_name.qual D_ulaw_by_name.params D_ulaw_by_name.body D_ulaw_by_name.scope (He.DefD.dvs K D_ulaw_by_name) (He.DefD.kws K D_ulaw_by_name) (He.fAd K D_ulaw_by_name.at_) fd) : FnT P w K mg base (caOf K) 5 (He.fAd K ("_law_by_name", none)) fd ["_law_spot", "_law_worth"] 2 d_ulaw_by_name := by
  obtain ⟨fd_Additionuu_inituu, F_Additionuu_inituu, b_Additionuu_inituu, k_Additionuu_inituu, Q_Additionuu_inituu⟩ := fn_Additionuu_inituu (P := P) (w := w) (base := base) X c
  have S := s_ulaw_by_name
  refine fn_body F S rfl (fun cd A outer s H E B => ?_)
  exact (es_one (e_ret (ev_makeK (ci := 3) (x := "Addition") (ks := ["thing", "place"]) (ix := [1, 0]) X.mk_Addition F_Additionuu_inituu B.bk (by decide) (by decide) rfl X.g_Addition (binds_kw Q_Additionuu_inituu fun _ _ _ _ _ _ _ us hl => match us, hl with | [_, _], _ => rfl) (ek_cons (ev_t (ev_name (i := 1) rfl (.inl rfl))) (ek_cons (ev_t (ev_name (i := 0) rfl (.inl rfl))) ek_nil)))))
theorem fn_ulaw_by_name (X : Fx K mg) (c : He.SaysD fal fnl K) : ∃ fd, FnT P w K mg base (caOf K) 5 (He.fAd K ("_law_by_name", none)) fd ["_law_spot", "_law_worth"] 2 d_ulaw_by_name ∧ Binds K fd ["_law_spot", "_law_worth"] [] ∧ PySem.W.keepIn K (.ref (He.fAd K ("_law_by_name", none))) = true ∧ FunD K D_ulaw_by_name.name D_ulaw_by_name.qual D_ulaw_by_name.params D_ulaw_by_name.body D_ulaw_by_name.scope (He.DefD.dvs K D_ulaw_by_name) (He.DefD.kws K D_ulaw_by_name) (He.fAd K D_ulaw_by_name.at_) fd := by
  obtain ⟨fd, F⟩ := c.def_ 11 (d := D_ulaw_by_name) rfl
  exact ⟨fd, fnq_ulaw_by_name X c F, F.bindsN fun _ _ _ _ _ _ us hl => match us, hl with | [_, _], _ => rfl, F.kp, F⟩
theorem fnq_ulaw_refused (X : Fx K mg) (c : He.SaysD fal fnl K) {fd : FuncData} (F : FunD K D_ulaw_refused.name D_ulaw_refused.qual D_ulaw_refused.params D_ulaw_refused.body D_ulaw_refused.scope (He.DefD.dvs K D_ulaw_refused) (He.DefD.kws K D_ulaw_refused) (He.fAd K D_ulaw_refused.at_) fd) : FnT P w K mg base (caOf K) 5 (He.fAd K ("_law_refused", none)) fd ["_law_spot", "_law_worth"] 3 d_ulaw_refused := by
  obtain ⟨fd_Additionuu_inituu, F_Additionuu_inituu, b_Additionuu_inituu, k_Additionuu_inituu, Q_Additionuu_inituu⟩ := fn_Additionuu_inituu (P := P) (w := w) (base := base) X c
  have S := s_ulaw_refused
  refine fn_body F S rfl (fun cd A outer s H E B => ?_)
  exact (es_cons (e_try B S.nd (fun W pn wish B => (es_one (e_expr (ev_make (ci := 3) (x := "Addition") (dts := []) X.mk_Addition F_Additionuu_inituu B.bk (by decide) (by decide) rfl X.g_Addition b_Additionuu_inituu .nil (fun _ => .nil) (er_cons (ev_t (ev_name (i := 0) rfl (.inl rfl))) (er_cons (ev_t (ev_name (i := 1) rfl (.inl rfl))) er_nil)))))) (.cons rfl rfl rfl ⟨rfl, by decide +kernel, .inl X.g_BadPlace⟩ X.em_BadPlace (fun ea ob cls d pn Z => (x_lst (x_cons x_str (x_cons (x_repr Z rfl X.z_repr bb_repr (x_attr (cs := [1]) Z X.xs_BadPlace)) (x_cons (x_isi (em := kf_BadPlace_NamesError) (cs := [1]) Z X.xs_BadPlace X.kt_BadPlace_NamesError rfl X.z_isinstance (.own _) (pe_glob rfl X.g_NamesError rfl)) x_nil))))) (.cons rfl rfl rfl ⟨rfl, by decide +kernel, .inl X.g_BadThing⟩ X.em_BadThing (fun ea ob cls d pn Z => (x_lst (x_cons x_str (x_cons (x_repr Z rfl X.z_repr bb_repr (x_attr (cs := [2]) Z X.xs_BadThing)) (x_cons (x_isi (em := kf_BadThing_ValueError) (cs := [2]) Z X.xs_BadThing X.kt_BadThing_ValueError rfl X.z_isinstance (.ty _) (pe_bltn rfl X.z_ValueError PyProof.Rows.Boot.«ValueError» rfl (by decide +kernel) (by decide +kernel))) x_nil))))) .nil)))
  (es_one (e_ret (ev_lst ea_nil))))
theorem fn_ulaw_refused (X : Fx K mg) (c : He.SaysD fal fnl K) : ∃ fd, FnT P w K mg base (caOf K) 5 (He.fAd K ("_law_refused", none)) fd ["_law_spot", "_law_worth"] 3 d_ulaw_refused ∧ Binds K fd ["_law_spot", "_law_worth"] [] ∧ PySem.W.keepIn K (.ref (He.fAd K ("_law_refused", none))) = true ∧ FunD K D_ulaw_refused.name D_ulaw_refused.qual D_ulaw_refused.params D_ulaw_refused.body D_ulaw_refused.scope (He.DefD.dvs K D_ulaw_refused) (He.DefD.kws K D_ulaw_refused) (He.fAd K D_ulaw_refused.at_) fd := by
  obtain ⟨fd, F⟩ := c.def_ 12 (d := D_ulaw_refused) rfl
  exact ⟨fd, fnq_ulaw_refused X c F, F.bindsN fun _ _ _ _ _ _ us hl => match us, hl with | [_, _], _ => rfl, F.kp, F⟩
theorem fnq_ulaw_odd_places (X : Fx K mg) (c : He.SaysD fal fnl K) {fd : FuncData} (F : FunD K D_ulaw_odd_places.name D_ulaw_odd_places.qual D_ulaw_odd_places.params D_ulaw_odd_places.body D_ulaw_odd_places.scope (He.DefD.dvs K D_ulaw_odd_places) (He.DefD.kws K D_ulaw_odd_places) (He.fAd K D_ulaw_odd_places.at_) fd) : FnT P w K mg base (caOf K) 1 (He.fAd K ("_law_odd_places", none)) fd ["_law_names_here"] 6 d_ulaw_odd_places := by
  have S := s_ulaw_odd_places
  refine fn_body F S rfl (fun cd A outer s H E B => ?_)
  exact (es_cons (e_asgG (ev_t (ev_name (i := 0) rfl (.inl rfl))) (eg_seq B.calm (eg_cons (eg_name (i := 2) S.nd rfl (.inl rfl)) (eg_cons (eg_name (i := 3) S.nd rfl (.inl rfl)) (eg_cons (eg_name (i := 4) S.nd rfl (.inl rfl)) (eg_cons (eg_name (i := 5) S.nd rfl (.inl rfl)) eg_nil))))))
  (es_cons (e_asg (i := 1) S.nd rfl (.inl rfl) (ev_lst (ea_cons ev_non (ea_cons ev_int (ea_cons ev_str (ea_cons (ev_tup ea_nil) (ea_cons (ev_tup (ea_cons ev_str ea_nil)) (ea_cons (ev_tup (ea_cons ev_str (ea_cons (ev_t (ev_name (i := 2) rfl (.inl rfl))) ea_nil))) (ea_cons (ev_tup (ea_cons ev_str (ea_cons (ev_t (ev_name (i := 2) rfl (.inl rfl))) (ea_cons (ev_t (ev_name (i := 3) rfl (.inl rfl))) (ea_cons (ev_t (ev_name (i := 4) rfl (.inl rfl))) ea_nil))))) (ea_cons (ev_t (ev_lst (ea_cons ev_str (ea_cons (ev_t (ev_name (i := 2) rfl (.inl rfl))) (ea_cons (ev_t (ev_name (i := 3) rfl (.inl rfl))) ea_nil))))) ea_nil))))))))))
  (es_cons (e_asg (i := 1) S.nd rfl (.inl rfl) (ev_op ok_add (ev_t (ev_name (i := 1) rfl (.inl rfl))) (ev_t (ev_lst (ea_cons (ev_tup (ea_cons ev_str (ea_cons (ev_t (ev_name (i := 2) rfl (.inl rfl))) (ea_cons (ev_t (ev_name (i := 3) rfl (.inl rfl))) (ea_cons (ev_t (ev_name (i := 4) rfl (.inl rfl))) ea_nil))))) (ea_cons (ev_tup (ea_cons ev_str (ea_cons (ev_t (ev_name (i := 2) rfl (.inl rfl))) (ea_cons (ev_t (ev_name (i := 3) rfl (.inl rfl))) ea_nil)))) (ea_cons (ev_tup (ea_cons ev_str (ea_cons (ev_t (ev_name (i := 2) rfl (.inl rfl))) (ea_cons (ev_t (ev_name (i := 3) rfl (.inl rfl))) (ea_cons (ev_t (ev_name (i := 4) rfl (.inl rfl))) (ea_cons (ev_t (ev_name (i := 5) rfl (.inl rfl))) ea_nil)))))) ea_nil)))))))
  (es_cons (e_expr (ev_app (ev_name (i := 1) rfl (.inl rfl)) (ev_tup (ea_cons (ev_t (ev_name (i := 2) rfl (.inl rfl))) (ea_cons (ev_t (ev_name (i := 2) rfl (.inl rfl))) (ea_cons (ev_t (ev_name (i := 3) rfl (.inl rfl))) ea_nil))))))
  (es_cons (e_asg (i := 1) S.nd rfl (.inl rfl) (ev_op ok_add (ev_t (ev_name (i := 1) rfl (.inl rfl))) (ev_t (ev_lst (ea_cons (ev_tup (ea_cons ev_str (ea_cons (ev_t (ev_name (i := 2) rfl (.inl rfl))) (ea_cons (ev_t (ev_name (i := 3) rfl (.inl rfl))) ea_nil)))) (ea_cons (ev_tup (ea_cons ev_str (ea_cons (ev_t (ev_name (i := 2) rfl (.inl rfl))) (ea_cons ev_non ea_nil)))) (ea_cons (ev_tup (ea_cons ev_str (ea_cons ev_int (ea_cons (ev_t (ev_name (i := 3) rfl (.inl rfl))) ea_nil)))) (ea_cons (ev_tup (ea_cons ev_str (ea_cons (ev_t (ev_name (i := 2) rfl (.inl rfl))) (ea_cons ev_str ea_nil)))) (ea_cons (ev_tup (ea_cons ev_str (ea_cons (ev_t (ev_name (i := 2) rfl (.inl rfl))) (ea_cons ev_str ea_nil)))) ea_nil)))))))))
  (es_one (e_ret (ev_op ok_add (ev_t (ev_name (i := 1) rfl (.inl rfl))) (ev_t (ev_lst (ea_cons (ev_tup (ea_cons ev_str (ea_cons (ev_t (ev_name (i := 2) rfl (.inl rfl))) (ea_cons (ev_t (ev_name (i := 3) rfl (.inl rfl))) (ea_cons ev_str ea_nil))))) (ea_cons (ev_tup (ea_cons ev_non (ea_cons (ev_t (ev_name (i := 2) rfl (.inl rfl))) (ea_cons (ev_t (ev_name (i := 3) rfl (.inl rfl))) ea_nil)))) (ea_cons (ev_tup (ea_cons ev_str (ea_cons (ev_tup (ea_cons (ev_t (ev_name (i := 2) rfl (.inl rfl))) ea_nil)) (ea_cons (ev_t (ev_name (i := 3) rfl (.inl rfl))) ea_nil)))) (ea_cons (ev_tup (ea_cons ev_bl (ea_cons (ev_t (ev_name (i := 2) rfl (.inl rfl))) (ea_cons (ev_t (ev_name (i := 3) rfl (.inl rfl))) ea_nil)))) ea_nil))))))))))))))
theorem fn_ulaw_odd_places (X : Fx K mg) (c : He.SaysD fal fnl K) : ∃ fd, FnT P w K mg base (caOf K) 1 (He.fAd K ("_law_odd_places", none)) fd ["_law_names_here"] 6 d_ulaw_odd_places ∧ Binds K fd ["_law_names_here"] [] ∧ PySem.W.keepIn K (.ref (He.fAd K ("_law_odd_places", none))) = true ∧ FunD K D_ulaw_odd_places.name D_ulaw_odd_places.qual D_ulaw_odd_places.params D_ulaw_odd_places.body D_ulaw_odd_places.scope (He.DefD.dvs K D_ulaw_odd_places) (He.DefD.kws K D_ulaw_odd_places) (He.fAd K D_ulaw_odd_places.at_) fd := by
  obtain ⟨fd, F⟩ := c.def_ 13 (d := D_ulaw_odd_places) rfl
  exact ⟨fd, fnq_ulaw_odd_places X c F, F.bindsN fun _ _ _ _ _ _ us hl => match us, hl with | [_], _ => rfl, F.kp, F⟩
theorem fnq_law (X : Fx K mg) (c : He.SaysD fal fnl K) {fd : FuncData} (F : FunD K D_law.name D_law.qual D_law.params D_law.body D_law.scope (He.DefD.dvs K D_law) (He.DefD.kws K D_law) (He.fAd K D_law.at_) fd) : FnT P w K mg base (caOf K) 6 (He.fAd K ("law", none)) fd ["_law_script"] 15 d_law := by
  obtain ⟨fd_ulaw_pool, F_ulaw_pool, b_ulaw_pool, k_ulaw_pool, Q_ulaw_pool⟩ := fn_ulaw_pool (P := P) (w := w) (base := base) X c
  obtain ⟨fd_ulaw_names, F_ulaw_names, b_ulaw_names, k_ulaw_names, Q_ulaw_names⟩ := fn_ulaw_names (P := P) (w := w) (base := base) X c
  obtain ⟨fd_ulaw_draw, F_ulaw_draw, b_ulaw_draw, k_ulaw_draw, Q_ulaw_draw⟩ := fn_ulaw_draw (P := P) (w := w) (base := base) X c
  obtain ⟨fd_Additionuu_inituu, F_Additionuu_inituu, b_Additionuu_inituu, k_Additionuu_inituu, Q_Additionuu_inituu⟩ := fn_Additionuu_inituu (P := P) (w := w) (base := base) X c
  obtain ⟨fd_Additionuu_equu, F_Additionuu_equu, b_Additionuu_equu, k_Additionuu_equu, Q_Additionuu_equu⟩ := fn_Additionuu_equu (P := P) (w := w) (base := base) X c
  obtain ⟨fd_ulaw_by_name, F_ulaw_by_name, b_ulaw_by_name, k_ulaw_by_name, Q_ulaw_by_name⟩ := fn_ulaw_by_name (P := P) (w := w) (base := base) X c
  obtain ⟨fd_ulaw_pick, F_ulaw_pick, b_ulaw_pick, k_ulaw_pick, Q_ulaw_pick⟩ := fn_ulaw_pick (P := P) (w := w) (base := base) X c
  obtain ⟨fd_ulaw_refused, F_ulaw_refused, b_ulaw_refused, k_ulaw_refused, Q_ulaw_refused⟩ := fn_ulaw_refused (P := P) (w := w) (base := base) X c
  obtain ⟨fd_ulaw_odd_places, F_ulaw_odd_places, b_ulaw_odd_places, k_ulaw_odd_places, Q_ulaw_odd_places⟩ := fn_ulaw_odd_places (P := P) (w := w) (base := base) X c
  have S := s_law
  refine fn_body F S rfl (fun cd A outer s H E B => ?_)
  exact (es_cons (e_for B.own B.calm (ei_range1 rfl X.z_range (ea_cons (ev_t (ev_callB (x := "max") (ok_max B.calm) rfl X.z_max bb_max (ea_cons ev_int (ea_cons (ev_t (ev_callB (x := "min") (ok_min B.calm) rfl X.z_min bb_min (ea_cons (ev_t (ev_call1B (x := "len") ok_len rfl X.z_len bb_len (ev_h (ev_name (i := 0) rfl (.inl rfl))))) (ea_cons ev_int ea_nil)))) ea_nil)))) ea_nil)) (eg_name (i := 1) S.nd rfl (.inl rfl)) (es_cons (e_asg (i := 2) S.nd rfl (.inl rfl) (ev_call (x := "_law_pool") (dts := []) F_ulaw_pool B.bk (by decide) (by decide) rfl X.g_ulaw_pool k_ulaw_pool b_ulaw_pool .nil (fun _ => .nil) (er_cons (ev_t (ev_name (i := 0) rfl (.inl rfl))) (er_cons (ev_t (ev_name (i := 1) rfl (.inl rfl))) er_nil))))
  (es_cons (e_asg (i := 3) S.nd rfl (.inl rfl) (ev_call (x := "_law_names") (dts := []) F_ulaw_names B.bk (by decide) (by decide) rfl X.g_ulaw_names k_ulaw_names b_ulaw_names .nil (fun _ => .nil) (er_io (ev_name (i := 2) rfl (.inl rfl)) (er_cons ev_int er_nil))))
  (es_cons (e_asgG (ev_t (ev_name (i := 3) rfl (.inl rfl))) (eg_seq B.calm (eg_cons (eg_name (i := 8) S.nd rfl (.inl rfl)) (eg_cons (eg_name (i := 9) S.nd rfl (.inl rfl)) (eg_cons (eg_name (i := 10) S.nd rfl (.inl rfl)) (eg_cons (eg_name (i := 11) S.nd rfl (.inl rfl)) eg_nil))))))
  (es_cons (e_asg (i := 4) S.nd rfl (.inl rfl) (ev_op ok_add ev_int (ev_t (ev_call (x := "_law_draw") (dts := []) F_ulaw_draw B.bk (by decide) (by decide) rfl X.g_ulaw_draw k_ulaw_draw b_ulaw_draw .nil (fun _ => .nil) (er_io (ev_name (i := 2) rfl (.inl rfl)) (er_cons (ev_t (ev_op ok_pow ev_int ev_int)) er_nil))))))
  (es_cons (e_asg (i := 5) S.nd rfl (.inl rfl) (ev_lst (ea_cons (ev_tup (ea_cons ev_str (ea_cons (ev_t (ev_name (i := 8) rfl (.inl rfl))) (ea_cons (ev_t (ev_name (i := 9) rfl (.inl rfl))) ea_nil)))) (ea_cons (ev_tup (ea_cons ev_str (ea_cons (ev_t (ev_name (i := 8) rfl (.inl rfl))) (ea_cons (ev_t (ev_name (i := 9) rfl (.inl rfl))) ea_nil)))) (ea_cons (ev_tup (ea_cons ev_str (ea_cons (ev_t (ev_name (i := 8) rfl (.inl rfl))) (ea_cons (ev_t (ev_name (i := 9) rfl (.inl rfl))) (ea_cons (ev_t (ev_name (i := 10) rfl (.inl rfl))) ea_nil))))) (ea_cons (ev_tup (ea_cons ev_str (ea_cons (ev_t (ev_name (i := 9) rfl (.inl rfl))) (ea_cons (ev_t (ev_name (i := 9) rfl (.inl rfl))) ea_nil)))) ea_nil))))))
  (es_cons (e_for B.own B.calm (ei_enum rfl X.z_enumerate (ea_cons (ev_t (ev_name (i := 5) rfl (.inl rfl))) ea_nil)) (eg_seq B.calm (eg_cons (eg_name (i := 12) S.nd rfl (.inl rfl)) (eg_cons (eg_name (i := 6) S.nd rfl (.inl rfl)) eg_nil))) (es_cons (e_asg (i := 13) S.nd rfl (.inl rfl) (ev_make (ci := 3) (x := "Addition") (dts := []) X.mk_Addition F_Additionuu_inituu B.bk (by decide) (by decide) rfl X.g_Addition b_Additionuu_inituu .nil (fun _ => .nil) (er_cons (ev_t (ev_name (i := 6) rfl (.inl rfl))) (er_cons (ev_t (ev_name (i := 4) rfl (.inl rfl))) er_nil))))
  (es_cons (e_if (eb_cmp (ok_ne B.rm) (ev_h (ev_lst (ea_cons (ev_attr (cs := [3]) X.fl_place (ev_h (ev_name (i := 13) rfl (.inl rfl)))) (ea_cons (ev_attr (cs := [3]) X.fl_thing (ev_h (ev_name (i := 13) rfl (.inl rfl)))) (ea_cons (ev_attr (cs := [3]) X.fl_kind (ev_h (ev_name (i := 13) rfl (.inl rfl)))) (ea_cons (ev_attr (cs := [3]) X.fl_name (ev_h (ev_name (i := 13) rfl (.inl rfl)))) ea_nil)))))) (ev_h (ev_lst (ea_cons (ev_t (ev_name (i := 6) rfl (.inl rfl))) (ea_cons (ev_t (ev_name (i := 4) rfl (.inl rfl))) (ea_cons (ev_t (ev_item (ev_h (ev_name (i := 6) rfl (.inl rfl))) ev_int (fun _ _ => rfl))) (ea_cons (ev_t (ev_item (ev_h (ev_name (i := 6) rfl (.inl rfl))) (ev_t (ev_op ok_sub (ev_t (ev_call1B (x := "len") ok_len rfl X.z_len bb_len (ev_h (ev_name (i := 6) rfl (.inl rfl))))) ev_int)) (fun _ _ => rfl))) ea_nil)))))) (nomark _)) (es_one (e_ret (ev_e ev_bl))) es_nil)
  (es_cons (e_if (eb_w (ew_or (eb_neO (ci := 3) X.ne_Addition X.m_Additionuu_equu F_Additionuu_equu B.bk (by decide) (by decide) b_Additionuu_equu (ev_t (ev_name (i := 13) rfl (.inl rfl))) (ev_t (ev_call (x := "_law_by_name") (dts := []) F_ulaw_by_name B.bk (by decide) (by decide) rfl X.g_ulaw_by_name k_ulaw_by_name b_ulaw_by_name .nil (fun _ => .nil) (er_cons (ev_t (ev_name (i := 6) rfl (.inl rfl))) (er_cons (ev_t (ev_name (i := 4) rfl (.inl rfl))) er_nil)))) (nomark _)) (ew_or1 (eb_not (eb_eqO (ci := 3) X.m_Additionuu_equu F_Additionuu_equu B.bk (by decide) (by decide) b_Additionuu_equu (ev_t (ev_name (i := 13) rfl (.inl rfl))) (ev_t (ev_make (ci := 3) (x := "Addition") (dts := []) X.mk_Addition F_Additionuu_inituu B.bk (by decide) (by decide) rfl X.g_Addition b_Additionuu_inituu .nil (fun _ => .nil) (er_cons (ev_t (ev_name (i := 6) rfl (.inl rfl))) (er_cons (ev_t (ev_name (i := 4) rfl (.inl rfl))) er_nil)))) (nomark _)))))) (es_one (e_ret (ev_e ev_bl))) es_nil)
  (es_cons (e_for B.own B.calm (ei_range1 rfl X.z_range (ea_cons ev_int ea_nil)) (eg_name (i := 14) S.nd rfl (.inl rfl)) (es_one (e_if (eb_cmp (ok_ne B.rm) (ev_h (ev_e (ev_eqO (ci := 3) X.m_Additionuu_equu F_Additionuu_equu B.bk (by decide) (by decide) b_Additionuu_equu (ev_t (ev_name (i := 13) rfl (.inl rfl))) (ev_t (ev_make (ci := 3) (x := "Addition") (dts := []) X.mk_Addition F_Additionuu_inituu B.bk (by decide) (by decide) rfl X.g_Addition b_Additionuu_inituu .nil (fun _ => .nil) (er_cons (ev_t (ev_item (ev_h (ev_name (i := 5) rfl (.inl rfl))) (ev_t (ev_name (i := 14) rfl (.inl rfl))) (fun _ _ => rfl))) (er_cons (ev_t (ev_name (i := 4) rfl (.inl rfl))) er_nil)))) (nomark _)))) (ev_h (ev_e (ev_cmp (ok_eq B.rm) (ev_h (ev_name (i := 14) rfl (.inl rfl))) (ev_h (ev_name (i := 12) rfl (.inl rfl))) (nomark _)))) (nomark _)) (es_one (e_ret (ev_e ev_bl))) es_nil)))
  (es_cons (e_if (eb_w (ew_or (eb_eqO (ci := 3) X.m_Additionuu_equu F_Additionuu_equu B.bk (by decide) (by decide) b_Additionuu_equu (ev_t (ev_name (i := 13) rfl (.inl rfl))) (ev_t (ev_make (ci := 3) (x := "Addition") (dts := []) X.mk_Addition F_Additionuu_inituu B.bk (by decide) (by decide) rfl X.g_Addition b_Additionuu_inituu .nil (fun _ => .nil) (er_cons (ev_t (ev_name (i := 6) rfl (.inl rfl))) (er_cons (ev_t (ev_op ok_add (ev_t (ev_op ok_mod (ev_t (ev_call1T (x := "int") ok_int rfl X.z_int bb_int (ev_h (ev_name (i := 4) rfl (.inl rfl))))) (ev_t (ev_op ok_pow ev_int ev_int)))) ev_int)) er_nil)))) (nomark _)) (ew_or (eb_eqO (ci := 3) X.m_Additionuu_equu F_Additionuu_equu B.bk (by decide) (by decide) b_Additionuu_equu (ev_t (ev_name (i := 13) rfl (.inl rfl))) (ev_tup (ea_cons (ev_t (ev_name (i := 6) rfl (.inl rfl))) (ea_cons (ev_t (ev_name (i := 4) rfl (.inl rfl))) ea_nil))) (nomark _)) (ew_or1 (eb_eqO (ci := 3) X.m_Additionuu_equu F_Additionuu_equu B.bk (by decide) (by decide) b_Additionuu_equu (ev_t (ev_name (i := 13) rfl (.inl rfl))) (ev_t (ev_name (i := 6) rfl (.inl rfl))) (nomark _)))))) (es_one (e_ret (ev_e ev_bl))) es_nil)
  (es_cons (e_asg (i := 7) S.nd rfl (.inl rfl) (ev_call (x := "_law_pick") (dts := []) F_ulaw_pick B.bk (by decide) (by decide) rfl X.g_ulaw_pick k_ulaw_pick b_ulaw_pick .nil (fun _ => .nil) (er_io (ev_name (i := 2) rfl (.inl rfl)) (er_cons (ev_t (ev_lst (ea_cons ev_int (ea_cons (ev_t (ev_op ok_add (ev_t (ev_op ok_pow ev_int ev_int)) ev_int)) (ea_cons ev_bl (ea_cons ev_str (ea_cons ev_non (ea_cons (ev_t (ev_lst (ea_cons (ev_t (ev_name (i := 4) rfl (.inl rfl))) ea_nil))) (ea_cons (ev_neg (ev_t (ev_name (i := 4) rfl (.inl rfl)))) ea_nil))))))))) er_nil))))
  (es_one (e_if (eb_cmp (ok_ne B.rm) (ev_h (ev_slice (ev_h (ev_call (x := "_law_refused") (dts := []) F_ulaw_refused B.bk (by decide) (by decide) rfl X.g_ulaw_refused k_ulaw_refused b_ulaw_refused .nil (fun _ => .nil) (er_cons (ev_t (ev_name (i := 6) rfl (.inl rfl))) (er_cons (ev_t (ev_name (i := 7) rfl (.inl rfl))) er_nil)))) eo_none (eo_some ev_int))) (ev_h (ev_lst (ea_cons ev_str ea_nil))) (nomark _)) (es_one (e_ret (ev_e ev_bl))) es_nil)))))))))
  (es_cons (e_for B.own B.calm (ei_seq (ev_t (ev_call (x := "_law_odd_places") (dts := []) F_ulaw_odd_places B.bk (by decide) (by decide) rfl X.g_ulaw_odd_places k_ulaw_odd_places b_ulaw_odd_places .nil (fun _ => .nil) (er_cons (ev_t (ev_name (i := 3) rfl (.inl rfl))) er_nil)))) (eg_name (i := 6) S.nd rfl (.inl rfl)) (es_one (e_if (eb_cmp (ok_ne B.rm) (ev_h (ev_call (x := "_law_refused") (dts := []) F_ulaw_refused B.bk (by decide) (by decide) rfl X.g_ulaw_refused k_ulaw_refused b_ulaw_refused .nil (fun _ => .nil) (er_cons (ev_t (ev_name (i := 6) rfl (.inl rfl))) (er_cons (ev_t (ev_call (x := "_law_pick") (dts := []) F_ulaw_pick B.bk (by decide) (by decide) rfl X.g_ulaw_pick k_ulaw_pick b_ulaw_pick .nil (fun _ => .nil) (er_io (ev_name (i := 2) rfl (.inl rfl)) (er_cons (ev_t (ev_lst (ea_cons (ev_t (ev_name (i := 4) rfl (.inl rfl))) (ea_cons ev_non (ea_cons ev_int ea_nil))))) er_nil)))) er_nil)))) (ev_h (ev_lst (ea_cons ev_str (ea_cons (ev_t (ev_call1B (x := "repr") (ok_repr B.grd B.rm) rfl X.z_repr bb_repr (ev_h (ev_name (i := 6) rfl (.inl rfl))))) (ea_cons ev_bl ea_nil))))) (nomark _)) (es_one (e_ret (ev_e ev_bl))) es_nil)))
  (es_one (e_for B.own B.calm (ei_seq (ev_t (ev_lst (ea_cons ev_int (ea_cons (ev_t (ev_op ok_add (ev_t (ev_op ok_pow ev_int ev_int)) ev_int)) (ea_cons ev_bl (ea_cons ev_bl (ea_cons ev_str (ea_cons ev_non (ea_cons (ev_t (ev_lst (ea_cons (ev_t (ev_name (i := 4) rfl (.inl rfl))) ea_nil))) (ea_cons (ev_neg (ev_t (ev_name (i := 4) rfl (.inl rfl)))) ea_nil))))))))))) (eg_name (i := 7) S.nd rfl (.inl rfl)) (es_one (e_if (eb_cmp (ok_ne B.rm) (ev_h (ev_call (x := "_law_refused") (dts := []) F_ulaw_refused B.bk (by decide) (by decide) rfl X.g_ulaw_refused k_ulaw_refused b_ulaw_refused .nil (fun _ => .nil) (er_cons (ev_t (ev_item (ev_h (ev_name (i := 5) rfl (.inl rfl))) (ev_t (ev_call (x := "_law_draw") (dts := []) F_ulaw_draw B.bk (by decide) (by decide) rfl X.g_ulaw_draw k_ulaw_draw b_ulaw_draw .nil (fun _ => .nil) (er_io (ev_name (i := 2) rfl (.inl rfl)) (er_cons ev_int er_nil)))) (fun _ _ => rfl))) (er_cons (ev_t (ev_name (i := 7) rfl (.inl rfl))) er_nil)))) (ev_h (ev_lst (ea_cons ev_str (ea_cons (ev_t (ev_call1B (x := "repr") (ok_repr B.grd B.rm) rfl X.z_repr bb_repr (ev_h (ev_name (i := 7) rfl (.inl rfl))))) (ea_cons ev_bl ea_nil))))) (nomark _)) (es_one (e_ret (ev_e ev_bl))) es_nil))))))))))))
  (es_one (e_ret (ev_e ev_bl))))
theorem fn_law (X : Fx K mg) (c : He.SaysD fal fnl K) : ∃ fd, FnT P w K mg base (caOf K) 6 (He.fAd K ("law", none)) fd ["_law_script"] 15 d_law ∧ Binds K fd ["_law_script"] [] ∧ PySem.W.keepIn K (.ref (He.fAd K ("law", none))) = true ∧ FunD K D_law.name D_law.qual D_law.params D_law.body D_law.scope (He.DefD.dvs K D_law) (He.DefD.kws K D_law) (He.fAd K D_law.at_) fd := by
  obtain ⟨fd, F⟩ := c.def_ 14 (d := D_law) rfl
  exact ⟨fd, fnq_law X c F, F.bindsN fun _ _ _ _ _ _ us hl => match us, hl with | [_], _ => rfl, F.kp, F⟩
end
end K03

namespace K03
open PySem PySem.Spec L2 Ev
theorem draw_eq : d_ulaw_draw = drawD := rfl
theorem pick_eq : d_ulaw_pick = pickD := rfl
theorem pool_eq : d_ulaw_pool = poolD := rfl
def low (c : Nat) : Bool := decide (97 ≤ c) && decide (c ≤ 122)
def isN (s : Str) : Bool := decide (1 ≤ s.length) && decide (s.length ≤ 8) && s.cps.toList.all low
theorem le_a (c : Nat) : leT (.str "a") (.str ⟨#[c]⟩) = some (decide (97 ≤ c)) := by
  show some (!decide ([c] < [97])) = _
  congr 1
  by_cases h : 97 ≤ c
  · rw [decide_eq_true h, decide_eq_false]; rfl
    intro z
    cases z with
    | rel z => omega
    | cons z => cases z
  · rw [decide_eq_false h, decide_eq_true]; rfl
    exact .rel (by omega)
theorem le_z (c : Nat) : leT (.str ⟨#[c]⟩) (.str "z") = some (decide (c ≤ 122)) := by
  show some (!decide ([122] < [c])) = _
  congr 1
  by_cases h : c ≤ 122
  · rw [decide_eq_true h, decide_eq_false]; rfl
    intro z
    cases z with
    | rel z => omega
    | cons z => cases z
  · rw [decide_eq_false h, decide_eq_true]; rfl
    exact .rel (by omega)
abbrev lowM : M T := (M.bind (chainM leT leT (M.pure (.str "a")) (frzE (rdS 1)) (M.pure (.str "z"))) fun w => M.pure (.bl w))
theorem low_loop (t : T) (cs : List Nat) : compL (stT 1) (M.pure true) lowM [1] (cs.map fun c => T.str ⟨#[c]⟩) [.fz t, .un] = .ok (cs.map fun c => T.bl (low c)) [.fz t, .un] := by
  induction cs with
  | nil => rfl
  | cons c cs ih =>
    have e : lowM [.fz t, .fz (.str ⟨#[c]⟩)] = .ok (.bl (low c)) [.fz t, .fz (.str ⟨#[c]⟩)] := by
      simp only [lowM, seqS_ap, seq_nx, seq_rt, nilS_ap, exprS_ap, so_ok, ifS_ap, so_if, retS_ap, dropS_ap, opS_some, asgS_ap, asK_ow, asK_fz, asK_bo, asgGS_ap, bind_ap, obind_ok, pure_ap, of_ap, frzE_ap, hldE_ap, fzE_ap, frz_fz, frz_ow, frz_bo, hld_fz, hld_ow, hld_bo, pk_fz, opM_ap, cmpM_ap, chainM_ap, notM_ap, andM_ap, orM_ap, ite_ap, iteS_ap, truM_ap, ifM_ap, consM_ap, lstM_ap, tupM_ap, callM_ap, call1M_ap, itemM_ap, sliceM_ap, arCons_ap, endM_ap, rdS, pk, stT, stO, chO, List.getElem?_cons_zero, List.getElem?_cons_succ, List.set_cons_zero, List.set_cons_succ, le_a, le_z]
      by_cases h : 97 ≤ c
      · simp only [decide_eq_true h, if_true, seqS_ap, seq_nx, seq_rt, nilS_ap, exprS_ap, so_ok, ifS_ap, so_if, retS_ap, dropS_ap, opS_some, asgS_ap, asK_ow, asK_fz, asK_bo, asgGS_ap, bind_ap, obind_ok, pure_ap, of_ap, frzE_ap, hldE_ap, fzE_ap, frz_fz, frz_ow, frz_bo, hld_fz, hld_ow, hld_bo, pk_fz, opM_ap, cmpM_ap, chainM_ap, notM_ap, andM_ap, orM_ap, ite_ap, iteS_ap, truM_ap, ifM_ap, consM_ap, lstM_ap, tupM_ap, callM_ap, call1M_ap, itemM_ap, sliceM_ap, arCons_ap, endM_ap, rdS, pk, stT, stO, chO, List.getElem?_cons_zero, List.getElem?_cons_succ, List.set_cons_zero, List.set_cons_succ, low, Bool.true_and]
      · simp only [decide_eq_false h, Bool.false_eq_true, if_false, seqS_ap, seq_nx, seq_rt, nilS_ap, exprS_ap, so_ok, ifS_ap, so_if, retS_ap, dropS_ap, opS_some, asgS_ap, asK_ow, asK_fz, asK_bo, asgGS_ap, bind_ap, obind_ok, pure_ap, of_ap, frzE_ap, hldE_ap, fzE_ap, frz_fz, frz_ow, frz_bo, hld_fz, hld_ow, hld_bo, pk_fz, opM_ap, cmpM_ap, chainM_ap, notM_ap, andM_ap, orM_ap, ite_ap, iteS_ap, truM_ap, ifM_ap, consM_ap, lstM_ap, tupM_ap, callM_ap, call1M_ap, itemM_ap, sliceM_ap, arCons_ap, endM_ap, rdS, pk, stT, stO, chO, List.getElem?_cons_zero, List.getElem?_cons_succ, List.set_cons_zero, List.set_cons_succ, low, Bool.false_and]
    have ok : okE [.fz t, .un] [1] = true := rfl
    have un : unE [1] [.fz t, .un] = [.fz t, .un] := rfl
    have st : stT 1 (.str ⟨#[c]⟩) [.fz t, .un] = some [.fz t, .fz (.str ⟨#[c]⟩)] := rfl
    have as : asE [.fz t, .un] [1] [.fz t, .fz (.str ⟨#[c]⟩)] = [.fz t, .un] := rfl
    exact compL_step ok st rfl e ih
theorem asBls_map (f : Nat → Bool) : ∀ cs : List Nat, asBls (cs.map fun c => T.bl (f c)) = some (cs.map f)
  | [] => rfl
  | c :: cs => by rw [List.map_cons, asBls, asBls_map f cs]; rfl
theorem isn_str (s : Str) (h : s.length ≤ sizeLine) : ∃ ce, d_is_name [.fz (.str s), .un] = .rt (.fz (.bl (isN s))) ce := by
  have hi : isiT "str" (.str s) = some true := rfl
  have ht : truT (.bl true) = some true := rfl
  have hs : signs s = s.cps.toList.map fun c => T.str ⟨#[c]⟩ := rfl
  have hl : (s.cps.toList.map fun c => T.str ⟨#[c]⟩).length ≤ sizeLine := by rw [List.length_map]; simpa [Str.length] using h
  have ha : allT (.lst (s.cps.toList.map fun c => T.bl (low c))) = some (.fz (.bl ((s.cps.toList.map low).all id))) := by
    show Option.map _ (asBls _) = _
    rw [asBls_map]; rfl
  by_cases h1 : 1 ≤ s.length
  · have h1' : (1 : Int) ≤ (s.length : Int) := by omega
    by_cases h2 : s.length ≤ 8
    · have h2' : (s.length : Int) ≤ 8 := by omega
      simp only [d_is_name, seqS_ap, seq_nx, seq_rt, nilS_ap, exprS_ap, so_ok, ifS_ap, so_if, retS_ap, dropS_ap, opS_some, asgS_ap, asK_ow, asK_fz, asK_bo, asgGS_ap, bind_ap, obind_ok, pure_ap, of_ap, frzE_ap, hldE_ap, fzE_ap, frz_fz, frz_ow, frz_bo, hld_fz, hld_ow, hld_bo, pk_fz, opM_ap, cmpM_ap, chainM_ap, notM_ap, andM_ap, orM_ap, ite_ap, iteS_ap, truM_ap, ifM_ap, consM_ap, lstM_ap, tupM_ap, callM_ap, call1M_ap, itemM_ap, sliceM_ap, arCons_ap, endM_ap, rdS, pk, stT, stO, chO, List.getElem?_cons_zero, List.getElem?_cons_succ, List.set_cons_zero, List.set_cons_succ, isiM, hi, ht, lenT, if_pos h, leT, decide_eq_true h1', decide_eq_true h2', if_true, Bool.not_true, Bool.false_eq_true, if_false, compM, seqT, hs, if_pos hl]
      have := low_loop (.str s) s.cps.toList
      unfold lowM at this
      simp only [List.map_cons, List.map_nil, this, seqS_ap, seq_nx, seq_rt, nilS_ap, exprS_ap, so_ok, ifS_ap, so_if, retS_ap, dropS_ap, opS_some, asgS_ap, asK_ow, asK_fz, asK_bo, asgGS_ap, bind_ap, obind_ok, pure_ap, of_ap, frzE_ap, hldE_ap, fzE_ap, frz_fz, frz_ow, frz_bo, hld_fz, hld_ow, hld_bo, pk_fz, opM_ap, cmpM_ap, chainM_ap, notM_ap, andM_ap, orM_ap, ite_ap, iteS_ap, truM_ap, ifM_ap, consM_ap, lstM_ap, tupM_ap, callM_ap, call1M_ap, itemM_ap, sliceM_ap, arCons_ap, endM_ap, rdS, pk, stT, stO, chO, List.getElem?_cons_zero, List.getElem?_cons_succ, List.set_cons_zero, List.set_cons_succ, ha, if_pos hl]
      refine ⟨[.fz (.str s), .un], ?_⟩
      simp only [isN, decide_eq_true h1, decide_eq_true h2, Bool.true_and, List.all_map]
      rfl
    · have h2' : ¬ (s.length : Int) ≤ 8 := by omega
      simp only [d_is_name, seqS_ap, seq_nx, seq_rt, nilS_ap, exprS_ap, so_ok, ifS_ap, so_if, retS_ap, dropS_ap, opS_some, asgS_ap, asK_ow, asK_fz, asK_bo, asgGS_ap, bind_ap, obind_ok, pure_ap, of_ap, frzE_ap, hldE_ap, fzE_ap, frz_fz, frz_ow, frz_bo, hld_fz, hld_ow, hld_bo, pk_fz, opM_ap, cmpM_ap, chainM_ap, notM_ap, andM_ap, orM_ap, ite_ap, iteS_ap, truM_ap, ifM_ap, consM_ap, lstM_ap, tupM_ap, callM_ap, call1M_ap, itemM_ap, sliceM_ap, arCons_ap, endM_ap, rdS, pk, stT, stO, chO, List.getElem?_cons_zero, List.getElem?_cons_succ, List.set_cons_zero, List.set_cons_succ, isiM, hi, ht, lenT, if_pos h, leT, decide_eq_true h1', decide_eq_false h2', if_true, Bool.not_true, Bool.not_false, Bool.false_eq_true, if_false]
      exact ⟨_, by rw [isN, decide_eq_false h2, Bool.and_false, Bool.false_and]⟩
  · have h1' : ¬ (1 : Int) ≤ (s.length : Int) := by omega
    simp only [d_is_name, seqS_ap, seq_nx, seq_rt, nilS_ap, exprS_ap, so_ok, ifS_ap, so_if, retS_ap, dropS_ap, opS_some, asgS_ap, asK_ow, asK_fz, asK_bo, asgGS_ap, bind_ap, obind_ok, pure_ap, of_ap, frzE_ap, hldE_ap, fzE_ap, frz_fz, frz_ow, frz_bo, hld_fz, hld_ow, hld_bo, pk_fz, opM_ap, cmpM_ap, chainM_ap, notM_ap, andM_ap, orM_ap, ite_ap, iteS_ap, truM_ap, ifM_ap, consM_ap, lstM_ap, tupM_ap, callM_ap, call1M_ap, itemM_ap, sliceM_ap, arCons_ap, endM_ap, rdS, pk, stT, stO, chO, List.getElem?_cons_zero, List.getElem?_cons_succ, List.set_cons_zero, List.set_cons_succ, isiM, hi, ht, lenT, if_pos h, leT, decide_eq_false h1', if_true, Bool.not_true, Bool.not_false, Bool.false_eq_true, if_false]
    exact ⟨_, by rw [isN, decide_eq_false h1, Bool.false_and, Bool.false_and]⟩
/-- what is no text is no name -/
theorem isn_no (t : T) (h : isiT "str" t = some false) : ∃ ce, d_is_name [.fz t, .un] = .rt (.fz (.bl false)) ce := by
  have ht : truT (.bl false) = some false := rfl
  simp only [d_is_name, seqS_ap, seq_nx, seq_rt, nilS_ap, exprS_ap, so_ok, ifS_ap, so_if, retS_ap, dropS_ap, opS_some, asgS_ap, asK_ow, asK_fz, asK_bo, asgGS_ap, bind_ap, obind_ok, pure_ap, of_ap, frzE_ap, hldE_ap, fzE_ap, frz_fz, frz_ow, frz_bo, hld_fz, hld_ow, hld_bo, pk_fz, opM_ap, cmpM_ap, chainM_ap, notM_ap, andM_ap, orM_ap, ite_ap, iteS_ap, truM_ap, ifM_ap, consM_ap, lstM_ap, tupM_ap, callM_ap, call1M_ap, itemM_ap, sliceM_ap, arCons_ap, endM_ap, rdS, pk, stT, stO, chO, List.getElem?_cons_zero, List.getElem?_cons_succ, List.set_cons_zero, List.set_cons_succ, isiM, h, ht, Bool.not_false, if_true]
  exact ⟨_, rfl⟩
/-! ### things -/
def isT9 (n : Int) : Bool := decide (1 ≤ n) && decide (n ≤ 1000000000)
theorem isi_ok (t : T) {a b : Bool} (h : isiT "int" t = some a) (h2 : isiT "bool" t = some b) : ∃ ce, d_is_integer [.fz t] = .rt (.fz (.bl (a && !b))) ce := by
  cases a <;> simp only [d_is_integer, seqS_ap, seq_nx, seq_rt, nilS_ap, exprS_ap, so_ok, ifS_ap, so_if, retS_ap, dropS_ap, opS_some, asgS_ap, asK_ow, asK_fz, asK_bo, asgGS_ap, bind_ap, obind_ok, pure_ap, of_ap, frzE_ap, hldE_ap, fzE_ap, frz_fz, frz_ow, frz_bo, hld_fz, hld_ow, hld_bo, pk_fz, opM_ap, cmpM_ap, chainM_ap, notM_ap, andM_ap, orM_ap, ite_ap, iteS_ap, truM_ap, ifM_ap, consM_ap, lstM_ap, tupM_ap, callM_ap, call1M_ap, itemM_ap, sliceM_ap, arCons_ap, endM_ap, rdS, pk, stT, stO, chO, List.getElem?_cons_zero, List.getElem?_cons_succ, List.set_cons_zero, List.set_cons_succ, isiM, h, h2, andV, notV] <;> exact ⟨_, rfl⟩
theorem ist_no (t : T) {a b : Bool} (h : isiT "int" t = some a) (h2 : isiT "bool" t = some b) (h3 : (a && !b) = false) : ∃ ce, d_is_thing [.fz t] = .rt (.fz (.bl false)) ce := by
  obtain ⟨ce, e⟩ := isi_ok t h h2
  rw [h3] at e
  have c : ∀ env : Ev.Env, callA 1 d_is_integer 1 [.fz t] env = .ok (.fz (.bl false)) env := fun env => call_fz (ts := [t]) rfl e
  simp only [d_is_thing, seqS_ap, seq_nx, seq_rt, nilS_ap, exprS_ap, so_ok, ifS_ap, so_if, retS_ap, dropS_ap, opS_some, asgS_ap, asK_ow, asK_fz, asK_bo, asgGS_ap, bind_ap, obind_ok, pure_ap, of_ap, frzE_ap, hldE_ap, fzE_ap, frz_fz, frz_ow, frz_bo, hld_fz, hld_ow, hld_bo, pk_fz, opM_ap, cmpM_ap, chainM_ap, notM_ap, andM_ap, orM_ap, ite_ap, iteS_ap, truM_ap, ifM_ap, consM_ap, lstM_ap, tupM_ap, callM_ap, call1M_ap, itemM_ap, sliceM_ap, arCons_ap, endM_ap, rdS, pk, stT, stO, chO, List.getElem?_cons_zero, List.getElem?_cons_succ, List.set_cons_zero, List.set_cons_succ, andV, List.map_nil, List.append_nil, c]
  exact ⟨_, rfl⟩
theorem ist_int (n : Int) : ∃ ce, d_is_thing [.fz (.int n)] = .rt (.fz (.bl (isT9 n))) ce := by
  obtain ⟨ce, e⟩ := isi_ok (.int n) rfl rfl
  have c : ∀ env : Ev.Env, callA 1 d_is_integer 1 [.fz (.int n)] env = .ok (.fz (.bl true)) env := fun env => call_fz (ts := [.int n]) rfl e
  by_cases h : 1 ≤ n
  · simp only [d_is_thing, seqS_ap, seq_nx, seq_rt, nilS_ap, exprS_ap, so_ok, ifS_ap, so_if, retS_ap, dropS_ap, opS_some, asgS_ap, asK_ow, asK_fz, asK_bo, asgGS_ap, bind_ap, obind_ok, pure_ap, of_ap, frzE_ap, hldE_ap, fzE_ap, frz_fz, frz_ow, frz_bo, hld_fz, hld_ow, hld_bo, pk_fz, opM_ap, cmpM_ap, chainM_ap, notM_ap, andM_ap, orM_ap, ite_ap, iteS_ap, truM_ap, ifM_ap, consM_ap, lstM_ap, tupM_ap, callM_ap, call1M_ap, itemM_ap, sliceM_ap, arCons_ap, endM_ap, rdS, pk, stT, stO, chO, List.getElem?_cons_zero, List.getElem?_cons_succ, List.set_cons_zero, List.set_cons_succ, andV, List.map_nil, List.append_nil, c, leT, decide_eq_true h, if_true, isT9, Bool.true_and]
    exact ⟨_, rfl⟩
  · simp only [d_is_thing, seqS_ap, seq_nx, seq_rt, nilS_ap, exprS_ap, so_ok, ifS_ap, so_if, retS_ap, dropS_ap, opS_some, asgS_ap, asK_ow, asK_fz, asK_bo, asgGS_ap, bind_ap, obind_ok, pure_ap, of_ap, frzE_ap, hldE_ap, fzE_ap, frz_fz, frz_ow, frz_bo, hld_fz, hld_ow, hld_bo, pk_fz, opM_ap, cmpM_ap, chainM_ap, notM_ap, andM_ap, orM_ap, ite_ap, iteS_ap, truM_ap, ifM_ap, consM_ap, lstM_ap, tupM_ap, callM_ap, call1M_ap, itemM_ap, sliceM_ap, arCons_ap, endM_ap, rdS, pk, stT, stO, chO, List.getElem?_cons_zero, List.getElem?_cons_succ, List.set_cons_zero, List.set_cons_succ, andV, List.map_nil, List.append_nil, c, leT, decide_eq_false h, Bool.false_eq_true, if_false, isT9, Bool.false_and]
    exact ⟨_, rfl⟩
theorem app_len (a b : Str) : (a ++ b).length = a.length + b.length := by
  show (a.cps ++ b.cps).size = _
  rw [Array.size_append]; rfl
theorem isN_low (cs : List Nat) (h : cs.all low = true) : isN ⟨cs.toArray⟩ = (decide (1 ≤ cs.length) && decide (cs.length ≤ 8)) := by
  unfold isN Str.length
  simp only [List.size_toArray, h, Bool.and_true]
theorem name_call (s : Str) (h : s.length ≤ sizeLine) (env : Ev.Env) : callA 1 d_is_name 2 [.fz (.str s)] env = .ok (.fz (.bl (isN s))) env := by
  obtain ⟨ce, e⟩ := isn_str s h
  exact call_fz (ts := [.str s]) rfl e
theorem name_no (t : T) (h : isiT "str" t = some false) (env : Ev.Env) : callA 1 d_is_name 2 [.fz t] env = .ok (.fz (.bl false)) env := by
  obtain ⟨ce, e⟩ := isn_no t h
  exact call_fz (ts := [t]) rfl e
theorem thing_no (t : T) {a b : Bool} (h : isiT "int" t = some a) (h2 : isiT "bool" t = some b) (h3 : (a && !b) = false) (env : Ev.Env) : callA 1 d_is_thing 1 [.fz t] env = .ok (.fz (.bl false)) env := by
  obtain ⟨ce, e⟩ := ist_no t h h2 h3
  exact call_fz (ts := [t]) rfl e
theorem thing_int (n : Int) (env : Ev.Env) : callA 1 d_is_thing 1 [.fz (.int n)] env = .ok (.fz (.bl (isT9 n))) env := by
  obtain ⟨ce, e⟩ := ist_int n
  exact call_fz (ts := [.int n]) rfl e
theorem fin2 (a b : T) : ([a, b].length ≤ sizeLine) := by show 2 ≤ 16777216; decide
/-! ### words, places -/
theorem word_str (s : Str) (ws : List Str) : ∃ ce, d_is_word [.fz (.str s), .fz (.tup (ws.map T.str))] = .rt (.fz (.bl (ws.any (· == s)))) ce := by
  have hi : isiT "str" (.str s) = some true := rfl
  have hs : asStrs (ws.map T.str) = some ws := by
    clear hi
    induction ws with
    | nil => rfl
    | cons w ws ih => rw [List.map_cons, asStrs, ih]; rfl
  have hin : inT (.str s) (.tup (ws.map T.str)) = some (ws.any (· == s)) := by
    show Option.map _ (asStrs _) = _
    rw [hs]; rfl
  simp only [d_is_word, seqS_ap, seq_nx, seq_rt, nilS_ap, exprS_ap, so_ok, ifS_ap, so_if, retS_ap, dropS_ap, opS_some, asgS_ap, asK_ow, asK_fz, asK_bo, asgGS_ap, bind_ap, obind_ok, pure_ap, of_ap, frzE_ap, hldE_ap, fzE_ap, frz_fz, frz_ow, frz_bo, hld_fz, hld_ow, hld_bo, pk_fz, opM_ap, cmpM_ap, chainM_ap, notM_ap, andM_ap, orM_ap, ite_ap, iteS_ap, truM_ap, ifM_ap, consM_ap, lstM_ap, tupM_ap, callM_ap, call1M_ap, itemM_ap, sliceM_ap, arCons_ap, endM_ap, rdS, pk, stT, stO, chO, List.getElem?_cons_zero, List.getElem?_cons_succ, List.set_cons_zero, List.set_cons_succ, isiM, hi, andV, hin]
  exact ⟨_, rfl⟩
theorem word_no (t u : T) (h : isiT "str" t = some false) : ∃ ce, d_is_word [.fz t, .fz u] = .rt (.fz (.bl false)) ce := by
  simp only [d_is_word, seqS_ap, seq_nx, seq_rt, nilS_ap, exprS_ap, so_ok, ifS_ap, so_if, retS_ap, dropS_ap, opS_some, asgS_ap, asK_ow, asK_fz, asK_bo, asgGS_ap, bind_ap, obind_ok, pure_ap, of_ap, frzE_ap, hldE_ap, fzE_ap, frz_fz, frz_ow, frz_bo, hld_fz, hld_ow, hld_bo, pk_fz, opM_ap, cmpM_ap, chainM_ap, notM_ap, andM_ap, orM_ap, ite_ap, iteS_ap, truM_ap, ifM_ap, consM_ap, lstM_ap, tupM_ap, callM_ap, call1M_ap, itemM_ap, sliceM_ap, arCons_ap, endM_ap, rdS, pk, stT, stO, chO, List.getElem?_cons_zero, List.getElem?_cons_succ, List.set_cons_zero, List.set_cons_succ, isiM, h, andV]
  exact ⟨_, rfl⟩
/-- a value that is a text of a size, or none -/
def OkT (t : T) : Prop := (∃ s : Str, t = .str s ∧ s.length ≤ sizeLine) ∨ isiT "str" t = some false
def nmT : T → Bool
  | .str s => isN s
  | _ => false
def wdT (ws : List Str) : T → Bool
  | .str s => ws.any (· == s)
  | _ => false
theorem nm_call {t : T} (h : OkT t) (env : Ev.Env) : callA 1 d_is_name 2 [.fz t] env = .ok (.fz (.bl (nmT t))) env := by
  rcases h with ⟨s, rfl, hs⟩ | h
  · exact name_call s hs env
  · have : nmT t = false := by cases t <;> first | rfl | (cases h; done)
    rw [this]
    exact name_no t h env
theorem wd_call {t : T} (h : OkT t) (ws : List Str) (env : Ev.Env) : callA 2 d_is_word 2 [.fz t, .fz (.tup (ws.map T.str))] env = .ok (.fz (.bl (wdT ws t))) env := by
  rcases h with ⟨s, rfl, hs⟩ | h
  · obtain ⟨ce, e⟩ := word_str s ws
    exact call_fz (ts := [.str s, .tup (ws.map T.str)]) rfl e
  · have : wdT ws t = false := by cases t <;> first | rfl | (cases h; done)
    rw [this]
    obtain ⟨ce, e⟩ := word_no t (.tup (ws.map T.str)) h
    exact call_fz (ts := [t, .tup (ws.map T.str)]) rfl e
abbrev elt1 : M T := (frzE (M.bind (arCons (frzE (rdS 4)) (M.pure [])) fun as => callA 1 d_is_name 2 (as ++ List.map Ar.fz [])))
theorem names_loop (a b c d : Sl) (ts : List T) (h : ∀ t ∈ ts, OkT t) : compL (stT 4) (M.pure true) elt1 [4] ts [a, b, c, d, .un] = .ok (ts.map fun t => T.bl (nmT t)) [a, b, c, d, .un] := by
  induction ts with
  | nil => rfl
  | cons t ts ih =>
    have e : elt1 [a, b, c, d, .fz t] = .ok (.bl (nmT t)) [a, b, c, d, .fz t] := by
      simp only [elt1, seqS_ap, seq_nx, seq_rt, nilS_ap, exprS_ap, so_ok, ifS_ap, so_if, retS_ap, dropS_ap, opS_some, asgS_ap, asK_ow, asK_fz, asK_bo, asgGS_ap, bind_ap, obind_ok, pure_ap, of_ap, frzE_ap, hldE_ap, fzE_ap, frz_fz, frz_ow, frz_bo, hld_fz, hld_ow, hld_bo, pk_fz, opM_ap, cmpM_ap, chainM_ap, notM_ap, andM_ap, orM_ap, ite_ap, iteS_ap, truM_ap, ifM_ap, consM_ap, lstM_ap, tupM_ap, callM_ap, call1M_ap, itemM_ap, sliceM_ap, arCons_ap, endM_ap, rdS, pk, stT, stO, chO, List.getElem?_cons_zero, List.getElem?_cons_succ, List.set_cons_zero, List.set_cons_succ, List.map_nil, List.append_nil, nm_call (h t List.mem_cons_self)]
    exact compL_step rfl rfl rfl e (ih fun u hu => h u (List.mem_cons_of_mem _ hu))
theorem asBls_mapT (f : T → Bool) : ∀ cs : List T, asBls (cs.map fun c => T.bl (f c)) = some (cs.map f)
  | [] => rfl
  | c :: cs => by rw [List.map_cons, asBls, asBls_mapT f cs]; rfl
/-- the form of a place -/
def isP : List T → Bool
  | [] => false
  | k :: ns => if wdT ["name", "member"] k then decide (ns.length = 2) && ns.all nmT else if wdT ["spread"] k then decide (ns.length = 3) && ns.all nmT else false
theorem star_step (k : T) (ns : List T) : starS (frzE (rdS 0)) 2 1 (tgCons (stT 1) (tgCons (stT 3) tgNil)) [.fz (.tup (k :: ns)), .un, .un, .un, .un] = .nx [.fz (.tup (k :: ns)), .fz k, .un, .fz (.lst ns), .un] := by
  have star : (List.take 1 (k :: ns) ++ [T.lst ((List.drop 1 (k :: ns)).take ((List.drop 1 (k :: ns)).length - (2 - 1 - 1)))] ++ (List.drop 1 (k :: ns)).drop ((List.drop 1 (k :: ns)).length - (2 - 1 - 1))) = [k, .lst ns] := by simp
  have hge : 2 - 1 ≤ (k :: ns).length := by rw [List.length_cons]; omega
  simp only [starS, seqS_ap, seq_nx, seq_rt, nilS_ap, exprS_ap, so_ok, ifS_ap, so_if, retS_ap, dropS_ap, opS_some, asgS_ap, asK_ow, asK_fz, asK_bo, asgGS_ap, bind_ap, obind_ok, pure_ap, of_ap, frzE_ap, hldE_ap, fzE_ap, frz_fz, frz_ow, frz_bo, hld_fz, hld_ow, hld_bo, pk_fz, opM_ap, cmpM_ap, chainM_ap, notM_ap, andM_ap, orM_ap, ite_ap, iteS_ap, truM_ap, ifM_ap, consM_ap, lstM_ap, tupM_ap, callM_ap, call1M_ap, itemM_ap, sliceM_ap, arCons_ap, endM_ap, rdS, pk, stT, stO, chO, List.getElem?_cons_zero, List.getElem?_cons_succ, List.set_cons_zero, List.set_cons_succ, if_pos hge, star, tgCons, tgNil, Option.bind_some]
theorem eq_n (i j : Int) : eqT (.int i) (.int j) = some (decide (i = j)) := by
  show (if _ then _ else _) = _
  rw [if_pos ⟨rfl, rfl, by show min 0 0 ≤ 100; decide⟩]
  rfl
abbrev tailM : SM := (retS (fzE (andV (M.bind (cmpM eqT (hldE (call1M lenT (hldE (rdS 3)))) (hldE (rdS 2))) fun w => M.pure (.bl w)) (frzE (call1M allT (hldE (compM (M.bind (frzE (rdS 3)) fun t => M.of (seqT t)) (stT 4) (M.pure true) (frzE (M.bind (arCons (frzE (rdS 4)) (M.pure [])) fun as => callA 1 d_is_name 2 as)) (List.map Prod.snd ([("name", 4)] : List (Str × Nat))))))))))
theorem tail_ok (a : Sl) (k : T) (ns : List T) (n : Nat) (hns : ∀ t ∈ ns, OkT t) (hnl : ns.length ≤ sizeLine) : ∃ ce, tailM [a, .fz k, .fz (.int n), .fz (.lst ns), .un] = .rt (.fz (.bl (decide (ns.length = n) && ns.all nmT))) ce := by
  have nl := fun a b c d => names_loop a b c d ns hns
  unfold elt1 at nl
  simp only [List.map_nil, List.append_nil] at nl
  have al : allT (.lst (ns.map fun t => T.bl (nmT t))) = some (.fz (.bl (ns.all nmT))) := by
    show Option.map _ (asBls _) = _
    rw [asBls_mapT]
    simp [List.all_map]
  by_cases h : ns.length = n
  · have h' : ((ns.length : Nat) : Int) = (n : Int) := by omega
    simp only [tailM, seqS_ap, seq_nx, seq_rt, nilS_ap, exprS_ap, so_ok, ifS_ap, so_if, retS_ap, dropS_ap, opS_some, asgS_ap, asK_ow, asK_fz, asK_bo, asgGS_ap, bind_ap, obind_ok, pure_ap, of_ap, frzE_ap, hldE_ap, fzE_ap, frz_fz, frz_ow, frz_bo, hld_fz, hld_ow, hld_bo, pk_fz, opM_ap, cmpM_ap, chainM_ap, notM_ap, andM_ap, orM_ap, ite_ap, iteS_ap, truM_ap, ifM_ap, consM_ap, lstM_ap, tupM_ap, callM_ap, call1M_ap, itemM_ap, sliceM_ap, arCons_ap, endM_ap, rdS, pk, stT, stO, chO, List.getElem?_cons_zero, List.getElem?_cons_succ, List.set_cons_zero, List.set_cons_succ, lenT, eq_n, decide_eq_true h', andV, compM, seqT, if_pos hnl, List.map_cons, List.map_nil, nl, al, decide_eq_true h, Bool.true_and]
    exact ⟨_, rfl⟩
  · have h' : ¬ ((ns.length : Nat) : Int) = (n : Int) := by omega
    simp only [tailM, seqS_ap, seq_nx, seq_rt, nilS_ap, exprS_ap, so_ok, ifS_ap, so_if, retS_ap, dropS_ap, opS_some, asgS_ap, asK_ow, asK_fz, asK_bo, asgGS_ap, bind_ap, obind_ok, pure_ap, of_ap, frzE_ap, hldE_ap, fzE_ap, frz_fz, frz_ow, frz_bo, hld_fz, hld_ow, hld_bo, pk_fz, opM_ap, cmpM_ap, chainM_ap, notM_ap, andM_ap, orM_ap, ite_ap, iteS_ap, truM_ap, ifM_ap, consM_ap, lstM_ap, tupM_ap, callM_ap, call1M_ap, itemM_ap, sliceM_ap, arCons_ap, endM_ap, rdS, pk, stT, stO, chO, List.getElem?_cons_zero, List.getElem?_cons_succ, List.set_cons_zero, List.set_cons_succ, lenT, eq_n, decide_eq_false h', andV, decide_eq_false h, Bool.false_and]
    exact ⟨_, rfl⟩
abbrev pg1 : SM := (ifS (orM (notM (truM (hldE (fzE (isiM "tuple" (hldE (rdS 0))))))) (cmpM ltT (hldE (call1M lenT (hldE (rdS 0)))) (hldE (fzE (M.pure (.int 1)))))) (retS (fzE (M.pure (.bl false)))) nilS)
abbrev pg2 : SM := (starS (frzE (rdS 0)) 2 1 (tgCons (stT 1) (tgCons (stT 3) tgNil)))
abbrev pg3 : SM := (ifS (truM (hldE (M.bind (arCons (frzE (rdS 1)) (arCons (tupM (consM (M.pure (.str "name")) (consM (M.pure (.str "member")) (M.pure [])))) (M.pure []))) fun as => callA 2 d_is_word 2 (as ++ List.map Ar.fz [])))) (asgS 2 (fzE (M.pure (.int 2)))) (ifS (truM (hldE (M.bind (arCons (frzE (rdS 1)) (arCons (tupM (consM (M.pure (.str "spread")) (M.pure []))) (M.pure []))) fun as => callA 2 d_is_word 2 (as ++ List.map Ar.fz [])))) (asgS 2 (fzE (M.pure (.int 3)))) (retS (fzE (M.pure (.bl false))))))
abbrev pg4 : SM := (retS (fzE (andV (M.bind (cmpM eqT (hldE (call1M lenT (hldE (rdS 3)))) (hldE (rdS 2))) fun w => M.pure (.bl w)) (frzE (call1M allT (hldE (compM (M.bind (frzE (rdS 3)) fun t => M.of (seqT t)) (stT 4) (M.pure true) (frzE (M.bind (arCons (frzE (rdS 4)) (M.pure [])) fun as => callA 1 d_is_name 2 (as ++ List.map Ar.fz []))) (List.map Prod.snd ([("name", 4)] : List (Str × Nat))))))))))
theorem place_eq : d_is_place = seqS pg1 (seqS pg2 (seqS pg3 pg4)) := rfl
theorem pg1_ok (k : T) (ns : List T) (r : Ev.Env) : pg1 (.fz (.tup (k :: ns)) :: r) = .nx (.fz (.tup (k :: ns)) :: r) := by
  have ht : isiT "tuple" (.tup (k :: ns)) = some true := rfl
  have tr : truT (.bl true) = some true := rfl
  have lc : ltT (.int ((ns.length + 1 : Nat) : Int)) (.int 1) = some false := by
    show some (decide _) = _
    rw [decide_eq_false]
    omega
  simp only [pg1, seqS_ap, seq_nx, seq_rt, nilS_ap, exprS_ap, so_ok, ifS_ap, so_if, retS_ap, dropS_ap, opS_some, asgS_ap, asK_ow, asK_fz, asK_bo, asgGS_ap, bind_ap, obind_ok, pure_ap, of_ap, frzE_ap, hldE_ap, fzE_ap, frz_fz, frz_ow, frz_bo, hld_fz, hld_ow, hld_bo, pk_fz, opM_ap, cmpM_ap, chainM_ap, notM_ap, andM_ap, orM_ap, ite_ap, iteS_ap, truM_ap, ifM_ap, consM_ap, lstM_ap, tupM_ap, callM_ap, call1M_ap, itemM_ap, sliceM_ap, arCons_ap, endM_ap, rdS, pk, stT, stO, chO, List.getElem?_cons_zero, List.getElem?_cons_succ, List.set_cons_zero, List.set_cons_succ, isiM, ht, tr, Bool.not_true, Bool.false_eq_true, if_false, lenT, List.length_cons, lc]
theorem pg3_ok (a : Sl) {k : T} (hk : OkT k) (d e : Sl) : pg3 [a, .fz k, .un, d, e] = if wdT ["name", "member"] k then .nx [a, .fz k, .fz (.int 2), d, e] else if wdT ["spread"] k then .nx [a, .fz k, .fz (.int 3), d, e] else .rt (.fz (.bl false)) [a, .fz k, .un, d, e] := by
  have w2 : ∀ env : Ev.Env, callA 2 d_is_word 2 [.fz k, .fz (.tup [T.str "name", T.str "member"])] env = .ok (.fz (.bl (wdT ["name", "member"] k))) env := wd_call hk ["name", "member"]
  have w1 : ∀ env : Ev.Env, callA 2 d_is_word 2 [.fz k, .fz (.tup [T.str "spread"])] env = .ok (.fz (.bl (wdT ["spread"] k))) env := wd_call hk ["spread"]
  have trb : ∀ b : Bool, truT (.bl b) = some b := fun _ => rfl
  have s2 : (2 ≤ sizeLine) = True := eq_true (by decide)
  have s1 : (1 ≤ sizeLine) = True := eq_true (by decide)
  cases h1 : wdT ["name", "member"] k with
  | true =>
    rw [h1] at w2
    simp only [pg3, seqS_ap, seq_nx, seq_rt, nilS_ap, exprS_ap, so_ok, ifS_ap, so_if, retS_ap, dropS_ap, opS_some, asgS_ap, asK_ow, asK_fz, asK_bo, asgGS_ap, bind_ap, obind_ok, pure_ap, of_ap, frzE_ap, hldE_ap, fzE_ap, frz_fz, frz_ow, frz_bo, hld_fz, hld_ow, hld_bo, pk_fz, opM_ap, cmpM_ap, chainM_ap, notM_ap, andM_ap, orM_ap, ite_ap, iteS_ap, truM_ap, ifM_ap, consM_ap, lstM_ap, tupM_ap, callM_ap, call1M_ap, itemM_ap, sliceM_ap, arCons_ap, endM_ap, rdS, pk, stT, stO, chO, List.getElem?_cons_zero, List.getElem?_cons_succ, List.set_cons_zero, List.set_cons_succ, List.map_nil, List.append_nil, List.length_cons, List.length_nil, Nat.zero_add, Nat.reduceAdd, s2, s1, if_true, w2, trb]
  | false =>
    rw [h1] at w2
    cases h2 : wdT ["spread"] k with
    | true =>
      rw [h2] at w1
      simp only [pg3, seqS_ap, seq_nx, seq_rt, nilS_ap, exprS_ap, so_ok, ifS_ap, so_if, retS_ap, dropS_ap, opS_some, asgS_ap, asK_ow, asK_fz, asK_bo, asgGS_ap, bind_ap, obind_ok, pure_ap, of_ap, frzE_ap, hldE_ap, fzE_ap, frz_fz, frz_ow, frz_bo, hld_fz, hld_ow, hld_bo, pk_fz, opM_ap, cmpM_ap, chainM_ap, notM_ap, andM_ap, orM_ap, ite_ap, iteS_ap, truM_ap, ifM_ap, consM_ap, lstM_ap, tupM_ap, callM_ap, call1M_ap, itemM_ap, sliceM_ap, arCons_ap, endM_ap, rdS, pk, stT, stO, chO, List.getElem?_cons_zero, List.getElem?_cons_succ, List.set_cons_zero, List.set_cons_succ, List.map_nil, List.append_nil, List.length_cons, List.length_nil, Nat.zero_add, Nat.reduceAdd, s2, s1, if_true, w2, w1, trb, Bool.false_eq_true, if_false]
    | false =>
      rw [h2] at w1
      simp only [pg3, seqS_ap, seq_nx, seq_rt, nilS_ap, exprS_ap, so_ok, ifS_ap, so_if, retS_ap, dropS_ap, opS_some, asgS_ap, asK_ow, asK_fz, asK_bo, asgGS_ap, bind_ap, obind_ok, pure_ap, of_ap, frzE_ap, hldE_ap, fzE_ap, frz_fz, frz_ow, frz_bo, hld_fz, hld_ow, hld_bo, pk_fz, opM_ap, cmpM_ap, chainM_ap, notM_ap, andM_ap, orM_ap, ite_ap, iteS_ap, truM_ap, ifM_ap, consM_ap, lstM_ap, tupM_ap, callM_ap, call1M_ap, itemM_ap, sliceM_ap, arCons_ap, endM_ap, rdS, pk, stT, stO, chO, List.getElem?_cons_zero, List.getElem?_cons_succ, List.set_cons_zero, List.set_cons_succ, List.map_nil, List.append_nil, List.length_cons, List.length_nil, Nat.zero_add, Nat.reduceAdd, s2, s1, if_true, w2, w1, trb, Bool.false_eq_true, if_false]
theorem pg4_eq : pg4 = tailM := by
  unfold pg4 tailM
  simp only [List.map_nil, List.append_nil]
theorem place_tup (ts : List T) (h : ∀ t ∈ ts, OkT t) (hl : ts.length ≤ 1000) : ∃ ce, d_is_place [.fz (.tup ts), .un, .un, .un, .un] = .rt (.fz (.bl (isP ts))) ce := by
  cases ts with
  | nil =>
    have ht : isiT "tuple" (.tup []) = some true := rfl
    have tr : truT (.bl true) = some true := rfl
    have l0 : ltT (.int ((0 : Nat) : Int)) (.int 1) = some true := rfl
    rw [place_eq]
    simp only [pg1, seqS_ap, seq_nx, seq_rt, nilS_ap, exprS_ap, so_ok, ifS_ap, so_if, retS_ap, dropS_ap, opS_some, asgS_ap, asK_ow, asK_fz, asK_bo, asgGS_ap, bind_ap, obind_ok, pure_ap, of_ap, frzE_ap, hldE_ap, fzE_ap, frz_fz, frz_ow, frz_bo, hld_fz, hld_ow, hld_bo, pk_fz, opM_ap, cmpM_ap, chainM_ap, notM_ap, andM_ap, orM_ap, ite_ap, iteS_ap, truM_ap, ifM_ap, consM_ap, lstM_ap, tupM_ap, callM_ap, call1M_ap, itemM_ap, sliceM_ap, arCons_ap, endM_ap, rdS, pk, stT, stO, chO, List.getElem?_cons_zero, List.getElem?_cons_succ, List.set_cons_zero, List.set_cons_succ, isiM, ht, tr, Bool.not_true, Bool.false_eq_true, if_false, lenT, List.length_nil, l0, if_true]
    exact ⟨_, rfl⟩
  | cons k ns =>
    have hk := h k List.mem_cons_self
    have hns : ∀ t ∈ ns, OkT t := fun t m => h t (List.mem_cons_of_mem _ m)
    have hnl : ns.length ≤ sizeLine := by show _ ≤ 16777216; rw [List.length_cons] at hl; omega
    have p2 : pg2 [.fz (.tup (k :: ns)), .un, .un, .un, .un] = .nx [.fz (.tup (k :: ns)), .fz k, .un, .fz (.lst ns), .un] := star_step k ns
    rw [place_eq, seqS_ap, pg1_ok, seq_nx, seqS_ap, p2, seq_nx, seqS_ap, pg3_ok _ hk, pg4_eq]
    cases h1 : wdT ["name", "member"] k with
    | true =>
      have ip : isP (k :: ns) = (decide (ns.length = 2) && ns.all nmT) := by simp only [isP, h1, if_true]
      obtain ⟨ce, e⟩ := tail_ok (.fz (.tup (k :: ns))) k ns 2 hns hnl
      refine ⟨ce, ?_⟩
      rw [ip]
      simp only [if_true, seq_nx]
      exact e
    | false =>
      cases h2 : wdT ["spread"] k with
      | true =>
        have ip : isP (k :: ns) = (decide (ns.length = 3) && ns.all nmT) := by simp only [isP, h1, h2, if_true, Bool.false_eq_true, if_false]
        obtain ⟨ce, e⟩ := tail_ok (.fz (.tup (k :: ns))) k ns 3 hns hnl
        refine ⟨ce, ?_⟩
        rw [ip]
        simp only [Bool.false_eq_true, if_false, if_true, seq_nx]
        exact e
      | false =>
        have ip : isP (k :: ns) = false := by simp only [isP, h1, h2, Bool.false_eq_true, if_false]
        refine ⟨[.fz (.tup (k :: ns)), .fz k, .un, .fz (.lst ns), .un], ?_⟩
        rw [ip]
        simp only [Bool.false_eq_true, if_false, seq_rt]
theorem place_no (t : T) (h : isiT "tuple" t = some false) : ∃ ce, d_is_place [.fz t, .un, .un, .un, .un] = .rt (.fz (.bl false)) ce := by
  have tr : truT (.bl false) = some false := rfl
  rw [place_eq]
  simp only [pg1, seqS_ap, seq_nx, seq_rt, nilS_ap, exprS_ap, so_ok, ifS_ap, so_if, retS_ap, dropS_ap, opS_some, asgS_ap, asK_ow, asK_fz, asK_bo, asgGS_ap, bind_ap, obind_ok, pure_ap, of_ap, frzE_ap, hldE_ap, fzE_ap, frz_fz, frz_ow, frz_bo, hld_fz, hld_ow, hld_bo, pk_fz, opM_ap, cmpM_ap, chainM_ap, notM_ap, andM_ap, orM_ap, ite_ap, iteS_ap, truM_ap, ifM_ap, consM_ap, lstM_ap, tupM_ap, callM_ap, call1M_ap, itemM_ap, sliceM_ap, arCons_ap, endM_ap, rdS, pk, stT, stO, chO, List.getElem?_cons_zero, List.getElem?_cons_succ, List.set_cons_zero, List.set_cons_succ, isiM, h, tr, Bool.not_false, if_true]
  exact ⟨_, rfl⟩
/-! ### instances -/
theorem at_end {α : Type} (l : List α) (a : α) : (l ++ [a])[l.length]? = some a := by simp
theorem make_call {ci n m : Nat} {d : SM} {ts : List T} {env ce : Ev.Env} {t : T} {o : SO} (hl : ts.length + 1 = n) (h : d (.io (.ins ci []) :: ts.map Sl.fz ++ List.replicate (m - n) .un) = o) (hc : ce[0]? = some (.io t)) :
    (o = .nx ce → makeA ci n d m (ts.map Ar.fz) env = .ok (.ow t) env) ∧ (∀ c fs, o = .ex c fs ce → makeA ci n d m (ts.map Ar.fz) env = .ex c fs env) := by
  have hin : inE (env ++ [.ow (.ins ci [])]) (.io env.length :: ts.map Ar.fz) = some (.io (.ins ci []) :: ts.map Sl.fz) := by
    rw [inE, at_end, inE_fzs]
    rfl
  have hn : (iosOf (.io env.length :: ts.map Ar.fz)).Nodup := by rw [iosOf, iosOf_fz]; simp
  have ha : allIo ce 0 (.io env.length :: ts.map Ar.fz) = true := by rw [allIo, hc, allIo_fz]; rfl
  have hk : (Ar.io env.length :: ts.map Ar.fz).length = n := by simp [hl]
  have ho : outE (.io env.length :: ts.map Ar.fz) ce 0 (env ++ [.ow (.ins ci [])]) = env ++ [.ow t] := by
    rw [outE_io hc, if_pos (Nat.zero_le _), Nat.sub_zero, at_end]
    simp [putSl]
  have h' : d ((Sl.io (.ins ci []) :: List.map Sl.fz ts) ++ List.replicate (m - n) Sl.un) = o := h
  constructor
  · intro e
    subst e
    unfold makeA callA callD
    simp only [hk, if_true, hin, if_pos hn, h', ha, ho, at_end, List.take_left']
  · intro c fs e
    subst e
    unfold makeA callA callD
    simp only [hk, if_true, hin, if_pos hn, h', ha, ho]
    simp
def plT : T → Bool
  | .tup ts => isP ts
  | _ => false
def thT : T → Bool
  | .int n => isT9 n
  | _ => false
def OkP (t : T) : Prop := (∃ ts, t = .tup ts ∧ (∀ u ∈ ts, OkT u) ∧ ts.length ≤ 1000) ∨ isiT "tuple" t = some false
def OkW (t : T) : Prop := (∃ n, t = .int n) ∨ (∃ a b, isiT "int" t = some a ∧ isiT "bool" t = some b ∧ (a && !b) = false)
theorem pl_call {t : T} (h : OkP t) (env : Ev.Env) : callA 1 d_is_place 5 [.fz t] env = .ok (.fz (.bl (plT t))) env := by
  rcases h with ⟨ts, rfl, h1, h2⟩ | h
  · obtain ⟨ce, e⟩ := place_tup ts h1 h2
    exact call_fz (ts := [.tup ts]) rfl e
  · have : plT t = false := by cases t <;> first | rfl | (cases h; done)
    rw [this]
    obtain ⟨ce, e⟩ := place_no t h
    exact call_fz (ts := [t]) rfl e
theorem th_call {t : T} (h : OkW t) (env : Ev.Env) : callA 1 d_is_thing 1 [.fz t] env = .ok (.fz (.bl (thT t))) env := by
  rcases h with ⟨n, rfl⟩ | ⟨a, b, h1, h2, h3⟩
  · exact thing_int n env
  · have : thT t = false := by
      cases t <;> first | rfl | skip
      cases h1
      cases h2
      cases h3
    rw [this]
    exact thing_no t h1 h2 h3 env
def flds (p t k l : T) : List (Str × T) := [("place", p), ("thing", t), ("kind", k), ("name", l)]
theorem init_p {p t : T} (hp : OkP p) (h : plT p = false) : d_Additionuu_inituu [.io (.ins 3 []), .fz p, .fz t] = .ex 1 [("place", p)] [.io (.ins 3 []), .fz p, .fz t] := by
  have trb : ∀ b : Bool, truT (.bl b) = some b := fun _ => rfl
  simp only [d_Additionuu_inituu, seqS_ap, seq_nx, seq_rt, nilS_ap, exprS_ap, so_ok, ifS_ap, so_if, retS_ap, dropS_ap, opS_some, asgS_ap, asK_ow, asK_fz, asK_bo, asgGS_ap, bind_ap, obind_ok, pure_ap, of_ap, frzE_ap, hldE_ap, fzE_ap, frz_fz, frz_ow, frz_bo, hld_fz, hld_ow, hld_bo, pk_fz, opM_ap, cmpM_ap, chainM_ap, notM_ap, andM_ap, orM_ap, ite_ap, iteS_ap, truM_ap, ifM_ap, consM_ap, lstM_ap, tupM_ap, callM_ap, call1M_ap, itemM_ap, sliceM_ap, arCons_ap, endM_ap, rdS, pk, stT, stO, chO, List.getElem?_cons_zero, List.getElem?_cons_succ, List.set_cons_zero, List.set_cons_succ, List.map_nil, List.append_nil, pl_call hp, h, trb, Bool.not_false, if_true, raiseS]
  rfl
theorem init_t {p t : T} (hp : OkP p) (ht : OkW t) (h : plT p = true) (h2 : thT t = false) : d_Additionuu_inituu [.io (.ins 3 []), .fz p, .fz t] = .ex 2 [("thing", t)] [.io (.ins 3 []), .fz p, .fz t] := by
  have trb : ∀ b : Bool, truT (.bl b) = some b := fun _ => rfl
  simp only [d_Additionuu_inituu, seqS_ap, seq_nx, seq_rt, nilS_ap, exprS_ap, so_ok, ifS_ap, so_if, retS_ap, dropS_ap, opS_some, asgS_ap, asK_ow, asK_fz, asK_bo, asgGS_ap, bind_ap, obind_ok, pure_ap, of_ap, frzE_ap, hldE_ap, fzE_ap, frz_fz, frz_ow, frz_bo, hld_fz, hld_ow, hld_bo, pk_fz, opM_ap, cmpM_ap, chainM_ap, notM_ap, andM_ap, orM_ap, ite_ap, iteS_ap, truM_ap, ifM_ap, consM_ap, lstM_ap, tupM_ap, callM_ap, call1M_ap, itemM_ap, sliceM_ap, arCons_ap, endM_ap, rdS, pk, stT, stO, chO, List.getElem?_cons_zero, List.getElem?_cons_succ, List.set_cons_zero, List.set_cons_succ, List.map_nil, List.append_nil, pl_call hp, th_call ht, h, h2, trb, Bool.not_false, Bool.not_true, Bool.false_eq_true, if_false, if_true, raiseS]
  rfl
theorem fld_step {f : Str} {m : M T} {v : T} {fs fs' : List (Str × T)} {r : Ev.Env} (hm : m (.io (.ins 3 fs) :: r) = .ok v (.io (.ins 3 fs) :: r)) (hl : fs.length < 1000) (hp : putT f v fs = fs') : fldS [3] f m (rdS 0) (.io (.ins 3 fs) :: r) = .nx (.io (.ins 3 fs') :: r) := by
  have hc : (3 ∈ [3] ∧ fs.length < 1000) := ⟨by decide, hl⟩
  subst hp
  simp only [fldS, seqS_ap, seq_nx, seq_rt, nilS_ap, exprS_ap, so_ok, ifS_ap, so_if, retS_ap, dropS_ap, opS_some, asgS_ap, asK_ow, asK_fz, asK_bo, asgGS_ap, bind_ap, obind_ok, pure_ap, of_ap, frzE_ap, hldE_ap, fzE_ap, frz_fz, frz_ow, frz_bo, hld_fz, hld_ow, hld_bo, pk_fz, opM_ap, cmpM_ap, chainM_ap, notM_ap, andM_ap, orM_ap, ite_ap, iteS_ap, truM_ap, ifM_ap, consM_ap, lstM_ap, tupM_ap, callM_ap, call1M_ap, itemM_ap, sliceM_ap, arCons_ap, endM_ap, rdS, pk, stT, stO, chO, List.getElem?_cons_zero, List.getElem?_cons_succ, List.set_cons_zero, List.set_cons_succ, hm, if_pos hc]
theorem init_ok2 {k l t : T} {ns : List T} (hp : OkP (.tup (k :: ns))) (ht : OkW t) (h : plT (.tup (k :: ns)) = true) (h2 : thT t = true) (hl : (k :: ns)[(k :: ns).length - 1]? = some l) :
    d_Additionuu_inituu [.io (.ins 3 []), .fz (.tup (k :: ns)), .fz t] = .nx [.io (.ins 3 (flds (.tup (k :: ns)) t k l)), .fz (.tup (k :: ns)), .fz t] := by
  have trb : ∀ b : Bool, truT (.bl b) = some b := fun _ => rfl
  have a0 : L2.atI (k :: ns) 0 = some k := by
    unfold L2.atI L2.ixN
    rw [if_pos (by decide), if_pos (by rw [List.length_cons]; omega)]
    rfl
  have a1 : L2.atI (k :: ns) (-1) = some l := by
    unfold L2.atI L2.ixN
    rw [if_neg (by decide), if_pos (by rw [List.length_cons]; omega)]
    simp only [Option.bind_some]
    have e : (-1 + (((k :: ns).length : Nat) : Int)).toNat = (k :: ns).length - 1 := by rw [List.length_cons]; omega
    rw [e]
    exact hl
  simp only [d_Additionuu_inituu, seqS_ap, seq_nx, seq_rt, nilS_ap, exprS_ap, so_ok, ifS_ap, so_if, retS_ap, dropS_ap, opS_some, asgS_ap, asK_ow, asK_fz, asK_bo, asgGS_ap, bind_ap, obind_ok, pure_ap, of_ap, frzE_ap, hldE_ap, fzE_ap, frz_fz, frz_ow, frz_bo, hld_fz, hld_ow, hld_bo, pk_fz, opM_ap, cmpM_ap, chainM_ap, notM_ap, andM_ap, orM_ap, ite_ap, iteS_ap, truM_ap, ifM_ap, consM_ap, lstM_ap, tupM_ap, callM_ap, call1M_ap, itemM_ap, sliceM_ap, arCons_ap, endM_ap, rdS, pk, stT, stO, chO, List.getElem?_cons_zero, List.getElem?_cons_succ, List.set_cons_zero, List.set_cons_succ, List.map_nil, List.append_nil, pl_call hp, th_call ht, h, h2, trb, Bool.not_true, Bool.false_eq_true, if_false, raiseS]
  have l0 : (([] : List (Str × T))).length < 1000 := by decide
  have l1 : ∀ a : Str × T, [a].length < 1000 := fun a => by show 1 < 1000; decide
  have l2 : ∀ a b : Str × T, [a, b].length < 1000 := fun a b => by show 2 < 1000; decide
  have l3 : ∀ a b c : Str × T, [a, b, c].length < 1000 := fun a b c => by show 3 < 1000; decide
  rw [fld_step (v := .tup (k :: ns)) (fs' := [("place", .tup (k :: ns))]) (by simp only [seqS_ap, seq_nx, seq_rt, nilS_ap, exprS_ap, so_ok, ifS_ap, so_if, retS_ap, dropS_ap, opS_some, asgS_ap, asK_ow, asK_fz, asK_bo, asgGS_ap, bind_ap, obind_ok, pure_ap, of_ap, frzE_ap, hldE_ap, fzE_ap, frz_fz, frz_ow, frz_bo, hld_fz, hld_ow, hld_bo, pk_fz, opM_ap, cmpM_ap, chainM_ap, notM_ap, andM_ap, orM_ap, ite_ap, iteS_ap, truM_ap, ifM_ap, consM_ap, lstM_ap, tupM_ap, callM_ap, call1M_ap, itemM_ap, sliceM_ap, arCons_ap, endM_ap, rdS, pk, stT, stO, chO, List.getElem?_cons_zero, List.getElem?_cons_succ, List.set_cons_zero, List.set_cons_succ]) l0 rfl, seq_nx, seqS_ap, fld_step (v := t) (fs' := [("place", .tup (k :: ns)), ("thing", t)]) (by simp only [seqS_ap, seq_nx, seq_rt, nilS_ap, exprS_ap, so_ok, ifS_ap, so_if, retS_ap, dropS_ap, opS_some, asgS_ap, asK_ow, asK_fz, asK_bo, asgGS_ap, bind_ap, obind_ok, pure_ap, of_ap, frzE_ap, hldE_ap, fzE_ap, frz_fz, frz_ow, frz_bo, hld_fz, hld_ow, hld_bo, pk_fz, opM_ap, cmpM_ap, chainM_ap, notM_ap, andM_ap, orM_ap, ite_ap, iteS_ap, truM_ap, ifM_ap, consM_ap, lstM_ap, tupM_ap, callM_ap, call1M_ap, itemM_ap, sliceM_ap, arCons_ap, endM_ap, rdS, pk, stT, stO, chO, List.getElem?_cons_zero, List.getElem?_cons_succ, List.set_cons_zero, List.set_cons_succ]) (l1 _) rfl, seq_nx, seqS_ap,
    fld_step (v := k) (fs' := [("place", .tup (k :: ns)), ("thing", t), ("kind", k)]) (by simp only [seqS_ap, seq_nx, seq_rt, nilS_ap, exprS_ap, so_ok, ifS_ap, so_if, retS_ap, dropS_ap, opS_some, asgS_ap, asK_ow, asK_fz, asK_bo, asgGS_ap, bind_ap, obind_ok, pure_ap, of_ap, frzE_ap, hldE_ap, fzE_ap, frz_fz, frz_ow, frz_bo, hld_fz, hld_ow, hld_bo, pk_fz, opM_ap, cmpM_ap, chainM_ap, notM_ap, andM_ap, orM_ap, ite_ap, iteS_ap, truM_ap, ifM_ap, consM_ap, lstM_ap, tupM_ap, callM_ap, call1M_ap, itemM_ap, sliceM_ap, arCons_ap, endM_ap, rdS, pk, stT, stO, chO, List.getElem?_cons_zero, List.getElem?_cons_succ, List.set_cons_zero, List.set_cons_succ, itemT, a0, Option.map_some]) (l2 _ _) rfl, seq_nx, fld_step (v := l) (fs' := flds (.tup (k :: ns)) t k l) (by simp only [seqS_ap, seq_nx, seq_rt, nilS_ap, exprS_ap, so_ok, ifS_ap, so_if, retS_ap, dropS_ap, opS_some, asgS_ap, asK_ow, asK_fz, asK_bo, asgGS_ap, bind_ap, obind_ok, pure_ap, of_ap, frzE_ap, hldE_ap, fzE_ap, frz_fz, frz_ow, frz_bo, hld_fz, hld_ow, hld_bo, pk_fz, opM_ap, cmpM_ap, chainM_ap, notM_ap, andM_ap, orM_ap, ite_ap, iteS_ap, truM_ap, ifM_ap, consM_ap, lstM_ap, tupM_ap, callM_ap, call1M_ap, itemM_ap, sliceM_ap, arCons_ap, endM_ap, rdS, pk, stT, stO, chO, List.getElem?_cons_zero, List.getElem?_cons_succ, List.set_cons_zero, List.set_cons_succ, negT, itemT, a1, Option.map_some]) (l3 _ _ _) rfl]
theorem made {k l t : T} {ns : List T} (hp : OkP (.tup (k :: ns))) (ht : OkW t) (h : plT (.tup (k :: ns)) = true) (h2 : thT t = true) (hl : (k :: ns)[(k :: ns).length - 1]? = some l) (env : Ev.Env) :
    makeA 3 3 d_Additionuu_inituu 3 [.fz (.tup (k :: ns)), .fz t] env = .ok (.ow (.ins 3 (flds (.tup (k :: ns)) t k l))) env :=
  (make_call (ts := [.tup (k :: ns), t]) (ce := [.io (.ins 3 (flds (.tup (k :: ns)) t k l)), .fz (.tup (k :: ns)), .fz t]) rfl (init_ok2 hp ht h h2 hl) rfl).1 rfl
theorem made_p {p t : T} (hp : OkP p) (h : plT p = false) (env : Ev.Env) : makeA 3 3 d_Additionuu_inituu 3 [.fz p, .fz t] env = .ex 1 [("place", p)] env :=
  (make_call (ts := [p, t]) (ce := [.io (.ins 3 []), .fz p, .fz t]) rfl (init_p hp h) rfl).2 _ _ rfl
theorem made_t {p t : T} (hp : OkP p) (ht : OkW t) (h : plT p = true) (h2 : thT t = false) (env : Ev.Env) : makeA 3 3 d_Additionuu_inituu 3 [.fz p, .fz t] env = .ex 2 [("thing", t)] env :=
  (make_call (ts := [p, t]) (ce := [.io (.ins 3 []), .fz p, .fz t]) rfl (init_t hp ht h h2) rfl).2 _ _ rfl
/-! ### refused -/
def rsh (t : T) : T := .str (toD t).shown
def OkS (t : T) : Prop := reprT t = some (.fz (rsh t))
theorem fin3 (a b c : T) : ([a, b, c].length ≤ sizeLine) := by show 3 ≤ 16777216; decide
theorem refused_p {p t : T} (hp : OkP p) (h : plT p = false) (hs : OkS p) (env : Ev.Env) : callA 2 d_ulaw_refused 3 [.fz p, .fz t] env = .ok (.fz (.lst [.str "place", rsh p, .bl true])) env := by
  have e1 : emf_BadPlace 1 = some true := rfl
  have k1 : kf_BadPlace_NamesError 1 = some true := rfl
  have m1 : (1 ∈ [1]) = True := by simp
  have lk : List.lookup ("place" : Str) [(("place" : Str), p)] = some p := by simp [List.lookup]
  have i2 : (2 < [Sl.fz p, Sl.fz t, Sl.un].length) = True := by simp
  have res : lstX (consX (fun _ _ => some (.str "place")) (consX (reprX (fun ci fs => if ci ∈ [1] then fs.lookup ("place" : Str) else none)) (consX (fun ci _ => (kf_BadPlace_NamesError ci).map T.bl) (fun _ _ => some [])))) 1 [("place", p)] = some (.lst [.str "place", rsh p, .bl true]) := by
    simp only [lstX, consX, reprX, m1, if_true, lk, Option.bind_some, show reprT p = some (.fz (rsh p)) from hs, k1, Option.map_some, if_pos (fin3 _ _ _)]
  have d : d_ulaw_refused [.fz p, .fz t, .un] = .rt (.fz (.lst [.str "place", rsh p, .bl true])) [.fz p, .fz t, .un] := by
    simp only [d_ulaw_refused, tryS, seqS_ap, seq_nx, seq_rt, nilS_ap, exprS_ap, so_ok, ifS_ap, so_if, retS_ap, dropS_ap, opS_some, asgS_ap, asK_ow, asK_fz, asK_bo, asgGS_ap, bind_ap, obind_ok, pure_ap, of_ap, frzE_ap, hldE_ap, fzE_ap, frz_fz, frz_ow, frz_bo, hld_fz, hld_ow, hld_bo, pk_fz, opM_ap, cmpM_ap, chainM_ap, notM_ap, andM_ap, orM_ap, ite_ap, iteS_ap, truM_ap, ifM_ap, consM_ap, lstM_ap, tupM_ap, callM_ap, call1M_ap, itemM_ap, sliceM_ap, arCons_ap, endM_ap, rdS, pk, stT, stO, chO, List.getElem?_cons_zero, List.getElem?_cons_succ, List.set_cons_zero, List.set_cons_succ, List.map_nil, List.append_nil, made_p hp h, Out.bind, Out.so, tryC, e1, i2, if_true, res]
  exact call_fz (ts := [p, t]) rfl d
theorem refused_t {p t : T} (hp : OkP p) (ht : OkW t) (h : plT p = true) (h2 : thT t = false) (hs : OkS t) (env : Ev.Env) : callA 2 d_ulaw_refused 3 [.fz p, .fz t] env = .ok (.fz (.lst [.str "thing", rsh t, .bl true])) env := by
  have e1 : emf_BadPlace 2 = some false := rfl
  have e2 : emf_BadThing 2 = some true := rfl
  have k1 : kf_BadThing_ValueError 2 = some true := rfl
  have m1 : (2 ∈ [2]) = True := by simp
  have lk : List.lookup ("thing" : Str) [(("thing" : Str), t)] = some t := by simp [List.lookup]
  have i2 : (2 < [Sl.fz p, Sl.fz t, Sl.un].length) = True := by simp
  have res : lstX (consX (fun _ _ => some (.str "thing")) (consX (reprX (fun ci fs => if ci ∈ [2] then fs.lookup ("thing" : Str) else none)) (consX (fun ci _ => (kf_BadThing_ValueError ci).map T.bl) (fun _ _ => some [])))) 2 [("thing", t)] = some (.lst [.str "thing", rsh t, .bl true]) := by
    simp only [lstX, consX, reprX, m1, if_true, lk, Option.bind_some, show reprT t = some (.fz (rsh t)) from hs, k1, Option.map_some, if_pos (fin3 _ _ _)]
  have d : d_ulaw_refused [.fz p, .fz t, .un] = .rt (.fz (.lst [.str "thing", rsh t, .bl true])) [.fz p, .fz t, .un] := by
    simp only [d_ulaw_refused, tryS, seqS_ap, seq_nx, seq_rt, nilS_ap, exprS_ap, so_ok, ifS_ap, so_if, retS_ap, dropS_ap, opS_some, asgS_ap, asK_ow, asK_fz, asK_bo, asgGS_ap, bind_ap, obind_ok, pure_ap, of_ap, frzE_ap, hldE_ap, fzE_ap, frz_fz, frz_ow, frz_bo, hld_fz, hld_ow, hld_bo, pk_fz, opM_ap, cmpM_ap, chainM_ap, notM_ap, andM_ap, orM_ap, ite_ap, iteS_ap, truM_ap, ifM_ap, consM_ap, lstM_ap, tupM_ap, callM_ap, call1M_ap, itemM_ap, sliceM_ap, arCons_ap, endM_ap, rdS, pk, stT, stO, chO, List.getElem?_cons_zero, List.getElem?_cons_succ, List.set_cons_zero, List.set_cons_succ, List.map_nil, List.append_nil, made_t hp ht h h2, Out.bind, Out.so, tryC, e1, e2, i2, if_true, res]
  exact call_fz (ts := [p, t]) rfl d
/-! ### == -/
theorem eq_made (p t k l q u k' l' : T) (hp : eqT p q = some bp) (ht : eqT t u = some bt) (env : Ev.Env) : eqO 3 2 d_Additionuu_equu 2 (.ins 3 (flds p t k l)) (.ins 3 (flds q u k' l')) env = .ok (.bl (bp && bt)) env := by
  have d : ∃ ce, d_Additionuu_equu [.fz (.ins 3 (flds p t k l)), .fz (.ins 3 (flds q u k' l'))] = .rt (.fz (.bl (bp && bt))) ce := by
    have i3 : isoT 3 (.ins 3 (flds q u k' l')) = some true := rfl
    have a1 : attrT [3] "place" (.ins 3 (flds p t k l)) = some p := rfl
    have a2 : attrT [3] "place" (.ins 3 (flds q u k' l')) = some q := rfl
    have a3 : attrT [3] "thing" (.ins 3 (flds p t k l)) = some t := rfl
    have a4 : attrT [3] "thing" (.ins 3 (flds q u k' l')) = some u := rfl
    cases bp <;> simp only [d_Additionuu_equu, seqS_ap, seq_nx, seq_rt, nilS_ap, exprS_ap, so_ok, ifS_ap, so_if, retS_ap, dropS_ap, opS_some, asgS_ap, asK_ow, asK_fz, asK_bo, asgGS_ap, bind_ap, obind_ok, pure_ap, of_ap, frzE_ap, hldE_ap, fzE_ap, frz_fz, frz_ow, frz_bo, hld_fz, hld_ow, hld_bo, pk_fz, opM_ap, cmpM_ap, chainM_ap, notM_ap, andM_ap, orM_ap, ite_ap, iteS_ap, truM_ap, ifM_ap, consM_ap, lstM_ap, tupM_ap, callM_ap, call1M_ap, itemM_ap, sliceM_ap, arCons_ap, endM_ap, rdS, pk, stT, stO, chO, List.getElem?_cons_zero, List.getElem?_cons_succ, List.set_cons_zero, List.set_cons_succ, isoM, attrM, i3, a1, a2, a3, a4, hp, ht, andV, Bool.true_and, Bool.false_and] <;> exact ⟨_, rfl⟩
  obtain ⟨ce, d⟩ := d
  have c := call_fz (ts := [.ins 3 (flds p t k l), .ins 3 (flds q u k' l')]) (n := 2) (m := 2) (env := env) rfl d
  have cond : isCi 3 (.ins 3 (flds p t k l)) = true ∧ okR 3 (.ins 3 (flds q u k' l')) = true := ⟨rfl, rfl⟩
  unfold eqO
  rw [if_pos cond]
  simp only [List.map_cons, List.map_nil] at c
  rw [c]
theorem eq_tup (p t k l : T) (us : List T) (env : Ev.Env) : eqO 3 2 d_Additionuu_equu 2 (.ins 3 (flds p t k l)) (.tup us) env = .ok (.bl false) env := by
  have i3 : isoT 3 (.tup us) = some false := rfl
  have d : d_Additionuu_equu [.fz (.ins 3 (flds p t k l)), .fz (.tup us)] = .rt (.fz (.bl false)) [.fz (.ins 3 (flds p t k l)), .fz (.tup us)] := by
    simp only [d_Additionuu_equu, seqS_ap, seq_nx, seq_rt, nilS_ap, exprS_ap, so_ok, ifS_ap, so_if, retS_ap, dropS_ap, opS_some, asgS_ap, asK_ow, asK_fz, asK_bo, asgGS_ap, bind_ap, obind_ok, pure_ap, of_ap, frzE_ap, hldE_ap, fzE_ap, frz_fz, frz_ow, frz_bo, hld_fz, hld_ow, hld_bo, pk_fz, opM_ap, cmpM_ap, chainM_ap, notM_ap, andM_ap, orM_ap, ite_ap, iteS_ap, truM_ap, ifM_ap, consM_ap, lstM_ap, tupM_ap, callM_ap, call1M_ap, itemM_ap, sliceM_ap, arCons_ap, endM_ap, rdS, pk, stT, stO, chO, List.getElem?_cons_zero, List.getElem?_cons_succ, List.set_cons_zero, List.set_cons_succ, isoM, i3, andV]
  have c := call_fz (ts := [.ins 3 (flds p t k l), .tup us]) (n := 2) (m := 2) (env := env) rfl d
  have cond : isCi 3 (.ins 3 (flds p t k l)) = true ∧ okR 3 (.tup us) = true := ⟨rfl, rfl⟩
  unfold eqO
  rw [if_pos cond]
  simp only [List.map_cons, List.map_nil] at c
  rw [c]
/-! ### names -/
def NmOk (n : Str) : Prop := isN n = true ∧ n.cps.toList.all low = true ∧ n.length ≤ 8 ∧ n.length ≠ 4 ∧ n.length ≠ 6
def mid (h tl : Str) (c : Nat) : Str := h ++ ⟨#[c]⟩ ++ tl
def hts : List (Str × Str) := [("", ""), ("", "q"), ("ab", ""), ("abcdefg", ""), ("", "abcdefg")]
theorem mid_len (h tl : Str) (c : Nat) : (mid h tl c).length = h.length + 1 + tl.length := by
  unfold mid
  rw [app_len, app_len]
  rfl
theorem mid_low (h tl : Str) (c : Nat) : (mid h tl c).cps.toList.all low = (h.cps.toList.all low && low c && tl.cps.toList.all low) := by
  show ((h.cps ++ #[c]) ++ tl.cps).toList.all low = _
  simp [Bool.and_assoc]
theorem hts_ok : ∀ q ∈ hts, (q.1.cps.toList.all low && q.2.cps.toList.all low) = true ∧ q.1.length + 1 + q.2.length ≤ 8 ∧ q.1.length + 1 + q.2.length ≠ 4 ∧ q.1.length + 1 + q.2.length ≠ 6 := by decide +kernel
theorem mid_ok {q : Str × Str} (hq : q ∈ hts) {c : Nat} (hc : low c = true) : NmOk (mid q.1 q.2 c) := by
  obtain ⟨h1, h2, h3, h4⟩ := hts_ok q hq
  obtain ⟨ha, hb⟩ := Bool.and_eq_true_iff.mp h1
  have hl := mid_len q.1 q.2 c
  have hw : (mid q.1 q.2 c).cps.toList.all low = true := by rw [mid_low, ha, hc, hb]; rfl
  refine ⟨?_, hw, by omega, by omega, by omega⟩
  unfold isN
  rw [hw, decide_eq_true (by omega), decide_eq_true (by omega)]
  rfl
theorem mid_ne (h tl : Str) {c c' : Nat} (hc : c ≠ c') : mid h tl c ≠ mid h tl c' := by
  intro e
  have e2 : ((h.cps ++ #[c]) ++ tl.cps).toList = ((h.cps ++ #[c']) ++ tl.cps).toList := congrArg (fun z : Str => z.cps.toList) e
  simp at e2
  exact hc e2
abbrev signsZ : Str := "abcdefghijklmnopqrstuvwxyz"
theorem sign_at : ∀ n : Fin 26, L2.atI signsZ.cps.toList ((n.val : Nat) : Int) = some (97 + n.val) := by decide +kernel
theorem sign_int {i : Int} (h : 0 ≤ i) (h2 : i < 26) : L2.atI signsZ.cps.toList i = some (97 + i.toNat) := by
  have := sign_at ⟨i.toNat, by omega⟩
  have e : ((i.toNat : Nat) : Int) = i := by omega
  simpa only [e] using this
theorem low_sign {i : Int} (h : 0 ≤ i) (h2 : i < 26) : low (97 + i.toNat) = true := by
  unfold low
  rw [decide_eq_true (by omega), decide_eq_true (by omega)]
  rfl
abbrev eltN : M T := (frzE (opM addT (frzE (opM addT (frzE (rdS 5)) (frzE (itemM (hldE (rdS 2)) (frzE (opM modT (frzE (opM addT (frzE (rdS 3)) (frzE (opM mulT (frzE (rdS 4)) (frzE (rdS 7)))))) (M.pure (.int 26)))))))) (frzE (rdS 6))))
theorem nm_loop (a b : Sl) (o st : Int) (hst : 0 ≤ st) (hst2 : st < 100) (h tl : Str) (hh : h.length ≤ 8) (ht : tl.length ≤ 8) (ks : List Int) :
    compL (stT 7) (M.pure true) eltN [7] (ks.map T.int) [a, b, .fz (.str signsZ), .fz (.int o), .fz (.int st), .fz (.str h), .fz (.str tl), .un] = .ok (ks.map fun k => T.str (mid h tl (97 + ((o + st * k) % 26).toNat))) [a, b, .fz (.str signsZ), .fz (.int o), .fz (.int st), .fz (.str h), .fz (.str tl), .un] := by
  induction ks with
  | nil => rfl
  | cons k ks ih =>
    have i0 : 0 ≤ (o + st * k) % 26 := Int.emod_nonneg _ (by decide)
    have i1 : (o + st * k) % 26 < 26 := Int.emod_lt_of_pos _ (by decide)
    have sz : (signsZ.length ≤ sizeLine) := by decide +kernel
    have one : (⟨#[97 + ((o + st * k) % 26).toNat]⟩ : Str).length = 1 := rfl
    have z1 : h.length + (⟨#[97 + ((o + st * k) % 26).toNat]⟩ : Str).length ≤ sizeLine := by show _ ≤ 16777216; omega
    have z2 : (h ++ ⟨#[97 + ((o + st * k) % 26).toNat]⟩ : Str).length + tl.length ≤ sizeLine := by rw [app_len]; show _ ≤ 16777216; omega
    have e : eltN [a, b, .fz (.str signsZ), .fz (.int o), .fz (.int st), .fz (.str h), .fz (.str tl), .fz (.int k)] = .ok (.str (mid h tl (97 + ((o + st * k) % 26).toNat))) [a, b, .fz (.str signsZ), .fz (.int o), .fz (.int st), .fz (.str h), .fz (.str tl), .fz (.int k)] := by
      simp only [eltN, seqS_ap, seq_nx, seq_rt, nilS_ap, exprS_ap, so_ok, ifS_ap, so_if, retS_ap, dropS_ap, opS_some, asgS_ap, asK_ow, asK_fz, asK_bo, asgGS_ap, bind_ap, obind_ok, pure_ap, of_ap, frzE_ap, hldE_ap, fzE_ap, frz_fz, frz_ow, frz_bo, hld_fz, hld_ow, hld_bo, pk_fz, opM_ap, cmpM_ap, chainM_ap, notM_ap, andM_ap, orM_ap, ite_ap, iteS_ap, truM_ap, ifM_ap, consM_ap, lstM_ap, tupM_ap, callM_ap, call1M_ap, itemM_ap, sliceM_ap, arCons_ap, endM_ap, rdS, pk, stT, stO, chO, List.getElem?_cons_zero, List.getElem?_cons_succ, List.set_cons_zero, List.set_cons_succ, mul_l k (by omega : -(2 ^ 64) < st) (by omega), add_n, mod_n _ (by decide : (0 : Int) < 26), itemT, if_pos sz, sign_int i0 i1, Option.map_some, addT, if_pos z1, if_pos z2, mid]
    exact compL_step rfl rfl rfl e ih
theorem oks {t : T} (h0 : (toD t).plain = true) (h1 : (toD t).canLay0 = true) (h2 : (toD t).showable = true) (h3 : (toD t).depth ≤ 100) (h4 : (toD t).weight ≤ 5000) (h5 : (toD t).intsShort 1921 = true) : OkS t := by
  have hs := PyData.shown_le 1921 (by decide) _ (PyData.leavesShort_of_canLay0 1921 _ h1 h5)
  unfold OkS reprT
  rw [if_pos ⟨h0, h2, h3, by show _ ≤ 16777216; omega⟩]
  rfl
theorem nm_size {n : Str} (h : NmOk n) : n.cps.size ≤ 8 := h.2.2.1
theorem nm_strOk {n : Str} (h : NmOk n) : PyData.strOk n = true := by
  unfold PyData.strOk
  rw [← Array.all_toList]
  refine List.all_eq_true.mpr fun c hc => ?_
  have := List.all_eq_true.mp h.2.1 c hc
  unfold low at this
  simp at this
  simp
  omega
inductive Gd : Nat → T → Prop
  | non {k : Nat} : Gd k .non
  | bl {k : Nat} (b : Bool) : Gd k (.bl b)
  | int {k : Nat} {i : Int} (h : i.natAbs < 2 ^ 40) : Gd k (.int i)
  | str {k : Nat} {s : Str} (h : PyData.strOk s = true) (h2 : s.cps.size ≤ 10) : Gd k (.str s)
  | tup {k : Nat} {ts : List T} (h : ∀ t ∈ ts, Gd k t) (h2 : ts.length ≤ 8) : Gd (k + 1) (.tup ts)
  | lst {k : Nat} {ts : List T} (h : ∀ t ∈ ts, Gd k t) (h2 : ts.length ≤ 8) : Gd (k + 1) (.lst ts)
def wB : Nat → Nat
  | 0 => 41
  | k + 1 => 8 * (wB k + 1)
theorem wB_pos : ∀ k, 41 ≤ wB k
  | 0 => Nat.le_refl _
  | k + 1 => by have := wB_pos k; show 41 ≤ 8 * (wB k + 1); omega
structure Six (k : Nat) (d : PyData) : Prop where
  pl : d.plain = true
  cl : d.canLay0 = true
  sh : d.showable = true
  dp : d.depth ≤ k
  wt : d.weight ≤ wB k
  is_ : d.intsShort 1921 = true
structure SixA (k n : Nat) (ds : List PyData) : Prop where
  pl : PyData.plainAll ds = true
  cl : PyData.canLayAll0 ds = true
  sh : PyData.showableAll ds = true
  dp : PyData.depthAll ds ≤ k
  wt : PyData.weightAll ds ≤ n * (wB k + 1)
  is_ : PyData.intsShortAll 1921 ds = true
theorem six_all {k : Nat} {ts : List T} (h : ∀ t ∈ ts, Six k (toD t)) : SixA k ts.length (toDs ts) := by
  induction ts with
  | nil => exact ⟨rfl, rfl, rfl, Nat.zero_le _, Nat.zero_le _, rfl⟩
  | cons t ts ih =>
    obtain ⟨a1, a2, a3, a4, a5, a6⟩ := h t List.mem_cons_self
    obtain ⟨b1, b2, b3, b4, b5, b6⟩ := ih fun u hu => h u (List.mem_cons_of_mem _ hu)
    refine ⟨?_, ?_, ?_, ?_, ?_, ?_⟩
    · simp only [toDs, PyData.plainAll, a1, b1, Bool.and_self]
    · simp only [toDs, PyData.canLayAll0, a2, b2, Bool.and_self]
    · simp only [toDs, PyData.showableAll, a3, b3, Bool.and_self]
    · simp only [toDs, PyData.depthAll]; omega
    · simp only [toDs, PyData.weightAll, List.length_cons, Nat.add_mul, Nat.one_mul]; omega
    · simp only [toDs, PyData.intsShortAll, a6, b6, Bool.and_self]
theorem Gd.six {k : Nat} {t : T} (h : Gd k t) : Six k (toD t) := by
  induction h with
  | @non k => exact ⟨rfl, rfl, rfl, Nat.zero_le _, Nat.zero_le _, rfl⟩
  | @bl k b => exact ⟨rfl, rfl, rfl, Nat.zero_le _, Nat.zero_le _, rfl⟩
  | @int k i h =>
    have hl : i.natAbs = 0 ∨ i.natAbs.log2 < 40 := by
      by_cases z : i.natAbs = 0
      · exact .inl z
      · exact .inr ((Nat.log2_lt z).mpr h)
    have h2 : i.natAbs.log2 < 1920 := by
      rcases hl with z | z
      · rw [z]; decide
      · omega
    have hw := wB_pos k
    refine ⟨rfl, rfl, by simp only [toD, PyData.showable]; exact decide_eq_true h2, Nat.zero_le _, ?_, by simp only [toD, PyData.intsShort, PyData.shown_int]; exact decide_eq_true (PyProof.Rows.int_text_len_1921 h2)⟩
    simp only [toD, PyData.weight]
    split
    · omega
    · rename_i hz
      rcases hl with z | z
      · exact absurd (by simpa using z) hz
      · omega
  | @str k s h h2 =>
    have hw := wB_pos k
    exact ⟨rfl, by simp only [toD, PyData.canLay0]; exact h, rfl, Nat.zero_le _, by simp only [toD, PyData.weight]; omega, rfl⟩
  | @tup k ts h h2 ih =>
    obtain ⟨a1, a2, a3, a4, a5, a6⟩ := six_all ih
    refine ⟨by simp only [toD, PyData.plain]; exact a1, by simp only [toD, PyData.canLay0]; exact a2, by simp only [toD, PyData.showable]; exact a3, by simp only [toD, PyData.depth]; omega, ?_, by simp only [toD, PyData.intsShort]; exact a6⟩
    simp only [toD, PyData.weight, wB]
    exact Nat.le_trans a5 (Nat.mul_le_mul_right _ h2)
  | @lst k ts h h2 ih =>
    obtain ⟨a1, a2, a3, a4, a5, a6⟩ := six_all ih
    refine ⟨by simp only [toD, PyData.plain]; exact a1, by simp only [toD, PyData.canLay0]; exact a2, by simp only [toD, PyData.showable]; exact a3, by simp only [toD, PyData.depth]; omega, ?_, by simp only [toD, PyData.intsShort]; exact a6⟩
    simp only [toD, PyData.weight, wB]
    exact Nat.le_trans a5 (Nat.mul_le_mul_right _ h2)
theorem Gd.oks {t : T} (h : Gd 2 t) : OkS t := by
  obtain ⟨a1, a2, a3, a4, a5, a6⟩ := h.six
  have e : wB 2 = 2696 := rfl
  exact K03.oks a1 a2 a3 (by omega) (by omega) a6
theorem Gd.okT {k : Nat} {t : T} (h : Gd k t) : OkT t := by
  cases h with
  | non => exact .inr rfl
  | bl b => exact .inr rfl
  | int h => exact .inr rfl
  | @str _ s h h2 => exact .inl ⟨s, rfl, by show s.cps.size ≤ 16777216; omega⟩
  | tup h h2 => exact .inr rfl
  | lst h h2 => exact .inr rfl
theorem Gd.okP {k : Nat} {t : T} (h : Gd k t) : OkP t := by
  cases h with
  | non => exact .inr rfl
  | bl b => exact .inr rfl
  | int h => exact .inr rfl
  | str h h2 => exact .inr rfl
  | @tup k ts h h2 => exact .inl ⟨ts, rfl, fun u hu => (h u hu).okT, by omega⟩
  | lst h h2 => exact .inr rfl
theorem gnil {k : Nat} : ∀ t ∈ ([] : List T), Gd k t := fun _ h => nomatch h
theorem gcons {k : Nat} {t : T} {ts : List T} (h : Gd k t) (hs : ∀ u ∈ ts, Gd k u) : ∀ u ∈ t :: ts, Gd k u := fun u hu => by
  rcases List.mem_cons.mp hu with e | hu
  · rw [e]; exact h
  · exact hs u hu
theorem gnm {k : Nat} {n : Str} (h : NmOk n) : Gd k (.str n) := .str (nm_strOk h) (by have := nm_size h; omega)
def oddL (a b c d : Str) : List T :=
  [.non, .int 5, .str "name", .tup [], .tup [.str "name"], .tup [.str "name", .str a], .tup [.str "name", .str a, .str b, .str c], .lst [.str "name", .str a, .str b],
   .tup [.str "member", .str a, .str b, .str c], .tup [.str "spread", .str a, .str b], .tup [.str "spread", .str a, .str b, .str c, .str d], .tup [.str a, .str a, .str b],
   .tup [.str "Name", .str a, .str b], .tup [.str "name", .str a, .non], .tup [.str "name", .int 1, .str b], .tup [.str "member", .str a, .str ""], .tup [.str "name", .str a, .str "A"],
   .tup [.str "spread", .str a, .str b, .str "abcdefghi"], .tup [.non, .str a, .str b], .tup [.str "member", .tup [.str a], .str b], .tup [.bl true, .str a, .str b]]
theorem nm_word {n : Str} (h : NmOk n) (ws : List Str) (hw : ∀ w ∈ ws, w.length = 4 ∨ w.length = 6) : wdT ws (.str n) = false := by
  unfold wdT
  refine List.any_eq_false.mpr fun w hm => ?_
  intro e
  have e2 : w = n := by simpa using e
  subst e2
  rcases hw w hm with z | z
  · exact h.2.2.2.1 z
  · exact h.2.2.2.2 z
theorem odd_gd {a b c d : Str} (ha : NmOk a) (hb : NmOk b) (hc : NmOk c) (hd : NmOk d) : ∀ p ∈ oddL a b c d, Gd 2 p := by
  have con : ∀ s ∈ (["name", "member", "spread", "Name", "", "A", "abcdefghi"] : List Str), PyData.strOk s = true ∧ s.cps.size ≤ 10 := by decide +kernel
  have k1 : ∀ {k : Nat} (s : Str), s ∈ (["name", "member", "spread", "Name", "", "A", "abcdefghi"] : List Str) → Gd k (.str s) := fun s h => .str (con s h).1 (con s h).2
  have A : ∀ {k : Nat}, Gd k (.str a) := gnm ha
  have B : ∀ {k : Nat}, Gd k (.str b) := gnm hb
  have C : ∀ {k : Nat}, Gd k (.str c) := gnm hc
  have D : ∀ {k : Nat}, Gd k (.str d) := gnm hd
  have nm : ∀ {k : Nat}, Gd k (.str "name") := k1 _ (by simp)
  have mb : ∀ {k : Nat}, Gd k (.str "member") := k1 _ (by simp)
  have sp : ∀ {k : Nat}, Gd k (.str "spread") := k1 _ (by simp)
  have Nm : ∀ {k : Nat}, Gd k (.str "Name") := k1 _ (by simp)
  have em : ∀ {k : Nat}, Gd k (.str "") := k1 _ (by simp)
  have cA : ∀ {k : Nat}, Gd k (.str "A") := k1 _ (by simp)
  have lo : ∀ {k : Nat}, Gd k (.str "abcdefghi") := k1 _ (by simp)
  unfold oddL
  refine gcons .non (gcons (.int (by decide)) (gcons nm (gcons (.tup gnil (by decide)) (gcons (.tup (gcons nm gnil) (by simp)) (gcons (.tup (gcons nm (gcons A gnil)) (by simp)) (gcons (.tup (gcons nm (gcons A (gcons B (gcons C gnil)))) (by simp)) (gcons (.lst (gcons nm (gcons A (gcons B gnil))) (by simp)) ?_)))))))
  refine gcons (.tup (gcons mb (gcons A (gcons B (gcons C gnil)))) (by simp)) (gcons (.tup (gcons sp (gcons A (gcons B gnil))) (by simp)) (gcons (.tup (gcons sp (gcons A (gcons B (gcons C (gcons D gnil))))) (by simp)) (gcons (.tup (gcons A (gcons A (gcons B gnil))) (by simp)) ?_)))
  refine gcons (.tup (gcons Nm (gcons A (gcons B gnil))) (by simp)) (gcons (.tup (gcons nm (gcons A (gcons .non gnil))) (by simp)) (gcons (.tup (gcons nm (gcons (.int (by decide)) (gcons B gnil))) (by simp)) (gcons (.tup (gcons mb (gcons A (gcons em gnil))) (by simp)) (gcons (.tup (gcons nm (gcons A (gcons cA gnil))) (by simp)) ?_))))
  exact gcons (.tup (gcons sp (gcons A (gcons B (gcons lo gnil)))) (by simp)) (gcons (.tup (gcons .non (gcons A (gcons B gnil))) (by simp)) (gcons (.tup (gcons mb (gcons (.tup (gcons A gnil) (by simp)) (gcons B gnil))) (by simp)) (gcons (.tup (gcons (.bl true) (gcons A (gcons B gnil))) (by simp)) gnil)))
theorem odd_no {a b c d : Str} (ha : NmOk a) : ∀ p ∈ oddL a b c d, plT p = false := by
  have w1 : wdT ["name", "member"] (.str "name") = true := by decide +kernel
  have w2 : wdT ["name", "member"] (.str "member") = true := by decide +kernel
  have w3 : wdT ["name", "member"] (.str "spread") = false := by decide +kernel
  have w4 : wdT ["spread"] (.str "spread") = true := by decide +kernel
  have w5 : wdT ["name", "member"] (.str "Name") = false := by decide +kernel
  have w6 : wdT ["spread"] (.str "Name") = false := by decide +kernel
  have w7 : wdT ["name", "member"] (.str a) = false := nm_word ha _ (by decide +kernel)
  have w8 : wdT ["spread"] (.str a) = false := nm_word ha _ (by decide +kernel)
  have n1 : isN "" = false := by decide +kernel
  have n2 : isN "A" = false := by decide +kernel
  have n3 : isN "abcdefghi" = false := by decide +kernel
  have w9 : ∀ ws, wdT ws .non = false := fun _ => rfl
  have w0 : ∀ ws, wdT ws (.bl true) = false := fun _ => rfl
  intro p hp
  simp only [oddL, List.mem_cons, List.not_mem_nil, or_false] at hp
  rcases hp with h | h | h | h | h | h | h | h | h | h | h | h | h | h | h | h | h | h | h | h | h <;> subst h <;> simp [plT, isP, w1, w2, w3, w4, w5, w6, w7, w8, w9, w0, nmT, n1, n2, n3]
def hT (q : Str × Str) : T := .tup [.str q.1, .str q.2]
theorem names_ok (p : Int × Int) : ∃ n1 n2 n3 n4 p' ce, NmOk n1 ∧ NmOk n2 ∧ NmOk n3 ∧ NmOk n4 ∧ n1 ≠ n2 ∧ d_ulaw_names [.io (pl p), .fz (.int 4), .un, .un, .un, .un, .un, .un] = .rt (.ow (.lst [.str n1, .str n2, .str n3, .str n4])) (.io (pl p') :: ce) := by
  have d26 := @draw0 p 26 [.fz (.int 4), .fz (.str signsZ), .un, .un, .un, .un, .un] (by decide) (by decide)
  obtain ⟨o0, o1⟩ := dr_lt (n := 26) (by decide) p
  revert d26 o0 o1
  generalize (dr 26 p).1 = o
  generalize (dr 26 p).2 = p1
  intro d26 o0 o1
  have d6 := @draw0 p1 6 [.fz (.int 4), .fz (.str signsZ), .un, .un, .un, .un, .un] (by decide) (by decide)
  obtain ⟨s0, s1⟩ := dr_lt (n := 6) (by decide) p1
  revert d6 s0 s1
  generalize (dr 6 p1).1 = u
  generalize (dr 6 p1).2 = p2
  intro d6 s0 s1
  obtain ⟨t, p3, ht, e⟩ := pick0l p2 (hts.map hT) (by decide) (by decide)
  obtain ⟨q, hq, rfl⟩ := List.mem_map.mp ht
  have hrow : hts.map hT = [.tup [.str "", .str ""], .tup [.str "", .str "q"], .tup [.str "ab", .str ""], .tup [.str "abcdefg", .str ""], .tup [.str "", .str "abcdefg"]] := rfl
  rw [hrow] at e
  have hq8 : q.1.length ≤ 8 ∧ q.2.length ≤ 8 := by
    obtain ⟨_, z, _⟩ := hts_ok q hq
    omega
  have loop := nm_loop (.io (pl p3)) (.fz (.int 4)) o (1 + 2 * u) (by omega) (by omega) q.1 q.2 hq8.1 hq8.2 [0, 1, 2, 3]
  have r4 : rng1 [.int 4] = some (([0, 1, 2, 3] : List Int).map T.int) := rfl
  have l4 : (([0, 1, 2, 3] : List Int).map T.int).length ≤ sizeLine := by show 4 ≤ 16777216; decide
  have s2 : (2 ≤ sizeLine) = True := eq_true (by decide)
  have s5 : (5 ≤ sizeLine) = True := eq_true (by decide)
  have ok : ∀ i : Int, NmOk (mid q.1 q.2 (97 + (i % 26).toNat)) := fun i => mid_ok hq (low_sign (Int.emod_nonneg _ (by decide)) (Int.emod_lt_of_pos _ (by decide)))
  refine ⟨_, _, _, _, p3, [.fz (.int 4), .fz (.str signsZ), .fz (.int o), .fz (.int (1 + 2 * u)), .fz (.str q.1), .fz (.str q.2), .un], ok (o + (1 + 2 * u) * 0), ok (o + (1 + 2 * u) * 1), ok (o + (1 + 2 * u) * 2), ok (o + (1 + 2 * u) * 3), mid_ne _ _ (by omega), ?_⟩
  unfold eltN at loop
  have m2 : mulT (.int 2) (.int u) = some (.fz (.int (2 * u))) := mul_l u (by decide) (by decide)
  have t2 : ∀ a b : T, ([a, b].length = 2) = True := fun _ _ => eq_true rfl
  have p5 : ∀ env : Ev.Env, callA 2 d_ulaw_pick 2 [.io 0, .fz (.lst [.tup [.str "", .str ""], .tup [.str "", .str "q"], .tup [.str "ab", .str ""], .tup [.str "abcdefg", .str ""], .tup [.str "", .str "abcdefg"]])] (.io (pl p2) :: env) = .ok (.fz (hT q)) (.io (pl p3) :: env) := e
  simp only [d_ulaw_names, draw_eq, seqS_ap, seq_nx, seq_rt, nilS_ap, exprS_ap, so_ok, ifS_ap, so_if, retS_ap, dropS_ap, opS_some, asgS_ap, asK_ow, asK_fz, asK_bo, asgGS_ap, bind_ap, obind_ok, pure_ap, of_ap, frzE_ap, hldE_ap, fzE_ap, frz_fz, frz_ow, frz_bo, hld_fz, hld_ow, hld_bo, pk_fz, opM_ap, cmpM_ap, chainM_ap, notM_ap, andM_ap, orM_ap, ite_ap, iteS_ap, truM_ap, ifM_ap, consM_ap, lstM_ap, tupM_ap, callM_ap, call1M_ap, itemM_ap, sliceM_ap, arCons_ap, endM_ap, rdS, pk, stT, stO, chO, List.getElem?_cons_zero, List.getElem?_cons_succ, List.set_cons_zero, List.set_cons_succ, arIo_ap, List.map_nil, List.append_nil, d26, d6, m2, add_n, List.length_cons, List.length_nil, Nat.zero_add, Nat.reduceAdd, s2, s5, if_true, tgSeq, tgCons, tgNil, Option.bind_some, p5, hT, compM, r4, if_pos l4]
  simp only [List.map_cons, List.map_nil] at loop ⊢
  simp only [loop, seqS_ap, seq_nx, seq_rt, nilS_ap, exprS_ap, so_ok, ifS_ap, so_if, retS_ap, dropS_ap, opS_some, asgS_ap, asK_ow, asK_fz, asK_bo, asgGS_ap, bind_ap, obind_ok, pure_ap, of_ap, frzE_ap, hldE_ap, fzE_ap, frz_fz, frz_ow, frz_bo, hld_fz, hld_ow, hld_bo, pk_fz, opM_ap, cmpM_ap, chainM_ap, notM_ap, andM_ap, orM_ap, ite_ap, iteS_ap, truM_ap, ifM_ap, consM_ap, lstM_ap, tupM_ap, callM_ap, call1M_ap, itemM_ap, sliceM_ap, arCons_ap, endM_ap, rdS, pk, stT, stO, chO, List.getElem?_cons_zero, List.getElem?_cons_succ, List.set_cons_zero, List.set_cons_succ]
theorem names_call (p : Int × Int) : ∃ n1 n2 n3 n4 p', NmOk n1 ∧ NmOk n2 ∧ NmOk n3 ∧ NmOk n4 ∧ n1 ≠ n2 ∧ ∀ (a b : Sl) (r : Ev.Env), callA 2 d_ulaw_names 8 [.io 2, .fz (.int 4)] (a :: b :: .ow (pl p) :: r) = .ok (.ow (.lst [.str n1, .str n2, .str n3, .str n4])) (a :: b :: .ow (pl p') :: r) := by
  obtain ⟨n1, n2, n3, n4, p', ce, h1, h2, h3, h4, h5, e⟩ := names_ok p
  exact ⟨n1, n2, n3, n4, p', h1, h2, h3, h4, h5, fun a b r => call_ioO (d := d_ulaw_names) (m := 8) (n := 2) (i := 2) (ts := [.int 4]) (env := a :: b :: .ow (pl p) :: r) (s := .ow (pl p)) (t := pl p) (u := pl p') (ce := .io (pl p') :: ce) rfl rfl rfl e rfl⟩
theorem odd_call (a b c d : Str) (env : Ev.Env) : callA 1 d_ulaw_odd_places 6 [.fz (.lst [.str a, .str b, .str c, .str d])] env = .ok (.ow (.lst (oddL a b c d))) env := by
  have sz : ∀ n : Nat, n ≤ 100 → (n ≤ sizeLine) = True := fun n h => eq_true (by show n ≤ 16777216; omega)
  have l4 : ([T.str a, T.str b, T.str c, T.str d].length = 4) = True := eq_true rfl
  have lt8 : (11 < sizeLine) = True := eq_true (by decide)
  have d_ : ∃ ce, d_ulaw_odd_places [.fz (.lst [.str a, .str b, .str c, .str d]), .un, .un, .un, .un, .un] = .rt (.ow (.lst (oddL a b c d))) ce := by
    simp only [d_ulaw_odd_places, seqS_ap, seq_nx, seq_rt, nilS_ap, exprS_ap, so_ok, ifS_ap, so_if, retS_ap, dropS_ap, opS_some, asgS_ap, asK_ow, asK_fz, asK_bo, asgGS_ap, bind_ap, obind_ok, pure_ap, of_ap, frzE_ap, hldE_ap, fzE_ap, frz_fz, frz_ow, frz_bo, hld_fz, hld_ow, hld_bo, pk_fz, opM_ap, cmpM_ap, chainM_ap, notM_ap, andM_ap, orM_ap, ite_ap, iteS_ap, truM_ap, ifM_ap, consM_ap, lstM_ap, tupM_ap, callM_ap, call1M_ap, itemM_ap, sliceM_ap, arCons_ap, endM_ap, rdS, pk, stT, stO, chO, List.getElem?_cons_zero, List.getElem?_cons_succ, List.set_cons_zero, List.set_cons_succ, List.map_nil, tgSeq, l4, if_true, tgCons, tgNil, Option.bind_some, List.length_cons, List.length_nil, Nat.zero_add, Nat.reduceAdd, sz 0 (by decide), sz 1 (by decide), sz 2 (by decide), sz 3 (by decide), sz 4 (by decide), sz 5 (by decide), sz 8 (by decide), addT, List.cons_append, List.nil_append, sz 11 (by decide), sz 17 (by decide), sz 21 (by decide), appM, isLs, appK, lt8]
    exact ⟨_, rfl⟩
  obtain ⟨ce, d_⟩ := d_
  exact call_ow (ts := [.lst [.str a, .str b, .str c, .str d]]) rfl d_
/-! ### the four places -/
structure Nms where
  a : Str
  b : Str
  c : Str
  d : Str
structure NmsOk (z : Nms) : Prop where
  a : NmOk z.a
  b : NmOk z.b
  c : NmOk z.c
  d : NmOk z.d
  ne : z.a ≠ z.b
def ks (z : Nms) : List (T × List T × T) := [(.str "name", [.str z.a, .str z.b], .str z.b), (.str "member", [.str z.a, .str z.b], .str z.b), (.str "spread", [.str z.a, .str z.b, .str z.c], .str z.c), (.str "name", [.str z.b, .str z.b], .str z.b)]
def spot (q : T × List T × T) : T := .tup (q.1 :: q.2.1)
def spots (z : Nms) : List T := (ks z).map spot
structure KsOk (q : T × List T × T) : Prop where
  gd : Gd 2 (spot q)
  pl : plT (spot q) = true
  last : (q.1 :: q.2.1)[(q.1 :: q.2.1).length - 1]? = some q.2.2
theorem ks_ok {z : Nms} (h : NmsOk z) : ∀ q ∈ ks z, KsOk q := by
  have con : ∀ s ∈ (["name", "member", "spread"] : List Str), PyData.strOk s = true ∧ s.cps.size ≤ 10 := by decide +kernel
  have k1 : ∀ {k : Nat} (s : Str), s ∈ (["name", "member", "spread"] : List Str) → Gd k (.str s) := fun s h => .str (con s h).1 (con s h).2
  have w1 : wdT ["name", "member"] (.str "name") = true := by decide +kernel
  have w2 : wdT ["name", "member"] (.str "member") = true := by decide +kernel
  have w3 : wdT ["name", "member"] (.str "spread") = false := by decide +kernel
  have w4 : wdT ["spread"] (.str "spread") = true := by decide +kernel
  have a := h.a.1
  have b := h.b.1
  have c := h.c.1
  intro q hq
  simp only [ks, List.mem_cons, List.not_mem_nil, or_false] at hq
  rcases hq with e | e | e | e <;> subst e
  · exact ⟨.tup (gcons (k1 _ (by simp)) (gcons (gnm h.a) (gcons (gnm h.b) gnil))) (by simp), by simp [plT, spot, isP, w1, nmT, a, b], rfl⟩
  · exact ⟨.tup (gcons (k1 _ (by simp)) (gcons (gnm h.a) (gcons (gnm h.b) gnil))) (by simp), by simp [plT, spot, isP, w2, nmT, a, b], rfl⟩
  · exact ⟨.tup (gcons (k1 _ (by simp)) (gcons (gnm h.a) (gcons (gnm h.b) (gcons (gnm h.c) gnil)))) (by simp), by simp [plT, spot, isP, w3, w4, nmT, a, b, c], rfl⟩
  · exact ⟨.tup (gcons (k1 _ (by simp)) (gcons (gnm h.b) (gcons (gnm h.b) gnil))) (by simp), by simp [plT, spot, isP, w1, nmT, b], rfl⟩
def ins (q : T × List T × T) (w : T) : T := .ins 3 (flds (spot q) w q.1 q.2.2)
theorem made_q {q : T × List T × T} (h : KsOk q) {w : T} (hw : OkW w) (ht : thT w = true) (env : Ev.Env) : makeA 3 3 d_Additionuu_inituu 3 [.fz (spot q), .fz w] env = .ok (.ow (ins q w)) env := made (k := q.1) (ns := q.2.1) h.gd.okP hw h.pl ht h.last env
theorem by_name_q {q : T × List T × T} (h : KsOk q) {w : T} (hw : OkW w) (ht : thT w = true) (env : Ev.Env) : callA 2 d_ulaw_by_name 2 [.fz (spot q), .fz w] env = .ok (.ow (ins q w)) env := by
  have l2 : ([w, spot q].length = 2) = True := eq_true rfl
  have pk : pick [1, 0] [w, spot q] = [spot q, w] := rfl
  have d : d_ulaw_by_name [.fz (spot q), .fz w] = .rt (.ow (ins q w)) [.fz (spot q), .fz w] := by
    simp only [d_ulaw_by_name, makeK, seqS_ap, seq_nx, seq_rt, nilS_ap, exprS_ap, so_ok, ifS_ap, so_if, retS_ap, dropS_ap, opS_some, asgS_ap, asK_ow, asK_fz, asK_bo, asgGS_ap, bind_ap, obind_ok, pure_ap, of_ap, frzE_ap, hldE_ap, fzE_ap, frz_fz, frz_ow, frz_bo, hld_fz, hld_ow, hld_bo, pk_fz, opM_ap, cmpM_ap, chainM_ap, notM_ap, andM_ap, orM_ap, ite_ap, iteS_ap, truM_ap, ifM_ap, consM_ap, lstM_ap, tupM_ap, callM_ap, call1M_ap, itemM_ap, sliceM_ap, arCons_ap, endM_ap, rdS, pk, stT, stO, chO, List.getElem?_cons_zero, List.getElem?_cons_succ, List.set_cons_zero, List.set_cons_succ, l2, if_true, pk, List.map_cons, List.map_nil, made_q h hw ht]
  exact call_ow (ts := [spot q, w]) rfl d
theorem eqT_gd {t u : T} (h : Gd 2 t) (h' : Gd 2 u) : eqT t u = some (PyData.eqv (toD t) (toD u)) := by
  have a := h.six
  have b := h'.six
  unfold eqT
  rw [if_pos ⟨a.pl, b.pl, by have := a.dp; have := b.dp; omega⟩]
theorem eqv_spots {z : Nms} (h : NmsOk z) : ∀ i j : Fin 4, PyData.eqv (toD ((spots z)[i.val]'(i.isLt))) (toD ((spots z)[j.val]'(j.isLt))) = decide (i = j) := by
  have ne := h.ne
  have ne2 : z.b ≠ z.a := fun e => ne e.symm
  have s1 : (("name" : Str) == "member") = false := by decide +kernel
  have s2 : (("name" : Str) == "spread") = false := by decide +kernel
  have s3 : (("member" : Str) == "spread") = false := by decide +kernel
  have s4 : (("member" : Str) == "name") = false := by decide +kernel
  have s5 : (("spread" : Str) == "name") = false := by decide +kernel
  have s6 : (("spread" : Str) == "member") = false := by decide +kernel
  intro i j
  match i, j with
  | ⟨0, _⟩, ⟨0, _⟩ => simp [spots, ks, spot, toD, toDs, PyData.eqv, PyData.eqvAll]
  | ⟨0, _⟩, ⟨1, _⟩ => simp [spots, ks, spot, toD, toDs, PyData.eqv, PyData.eqvAll, s1]
  | ⟨0, _⟩, ⟨2, _⟩ => simp [spots, ks, spot, toD, toDs, PyData.eqv, PyData.eqvAll, s2]
  | ⟨0, _⟩, ⟨3, _⟩ => simp [spots, ks, spot, toD, toDs, PyData.eqv, PyData.eqvAll, ne]
  | ⟨1, _⟩, ⟨0, _⟩ => simp [spots, ks, spot, toD, toDs, PyData.eqv, PyData.eqvAll, s4]
  | ⟨1, _⟩, ⟨1, _⟩ => simp [spots, ks, spot, toD, toDs, PyData.eqv, PyData.eqvAll]
  | ⟨1, _⟩, ⟨2, _⟩ => simp [spots, ks, spot, toD, toDs, PyData.eqv, PyData.eqvAll, s3]
  | ⟨1, _⟩, ⟨3, _⟩ => simp [spots, ks, spot, toD, toDs, PyData.eqv, PyData.eqvAll, s4]
  | ⟨2, _⟩, ⟨0, _⟩ => simp [spots, ks, spot, toD, toDs, PyData.eqv, PyData.eqvAll, s5]
  | ⟨2, _⟩, ⟨1, _⟩ => simp [spots, ks, spot, toD, toDs, PyData.eqv, PyData.eqvAll, s6]
  | ⟨2, _⟩, ⟨2, _⟩ => simp [spots, ks, spot, toD, toDs, PyData.eqv, PyData.eqvAll]
  | ⟨2, _⟩, ⟨3, _⟩ => simp [spots, ks, spot, toD, toDs, PyData.eqv, PyData.eqvAll, s5]
  | ⟨3, _⟩, ⟨0, _⟩ => simp [spots, ks, spot, toD, toDs, PyData.eqv, PyData.eqvAll, ne2]
  | ⟨3, _⟩, ⟨1, _⟩ => simp [spots, ks, spot, toD, toDs, PyData.eqv, PyData.eqvAll, s1]
  | ⟨3, _⟩, ⟨2, _⟩ => simp [spots, ks, spot, toD, toDs, PyData.eqv, PyData.eqvAll, s2]
  | ⟨3, _⟩, ⟨3, _⟩ => simp [spots, ks, spot, toD, toDs, PyData.eqv, PyData.eqvAll]
end K03
namespace K03
open PySem PySem.Spec L2 Ev
abbrev eB1 : SM := (asgS 13 (M.bind (arCons (frzE (rdS 6)) (arCons (frzE (rdS 4)) (M.pure []))) fun as => makeA 3 3 d_Additionuu_inituu 3 (as ++ List.map Ar.fz [])))
abbrev eB2 : SM := (ifS (cmpM neT (hldE (lstM (consM (attrM [3] "place" (hldE (rdS 13))) (consM (attrM [3] "thing" (hldE (rdS 13))) (consM (attrM [3] "kind" (hldE (rdS 13))) (consM (attrM [3] "name" (hldE (rdS 13))) (M.pure []))))))) (hldE (lstM (consM (frzE (rdS 6)) (consM (frzE (rdS 4)) (consM (frzE (itemM (hldE (rdS 6)) (M.pure (.int 0)))) (consM (frzE (itemM (hldE (rdS 6)) (frzE (opM subT (frzE (call1M lenT (hldE (rdS 6)))) (M.pure (.int 1)))))) (M.pure [])))))))) (retS (fzE (M.pure (.bl false)))) nilS)
abbrev eB3 : SM := (ifS (orM (M.bind (frzE (rdS 13)) fun t => M.bind (frzE (M.bind (arCons (frzE (rdS 6)) (arCons (frzE (rdS 4)) (M.pure []))) fun as => callA 2 d_ulaw_by_name 2 (as ++ List.map Ar.fz []))) fun u => M.bind (eqO 3 2 d_Additionuu_equu 2 t u) blN) (notM (M.bind (frzE (rdS 13)) fun t => M.bind (frzE (M.bind (arCons (frzE (rdS 6)) (arCons (frzE (rdS 4)) (M.pure []))) fun as => makeA 3 3 d_Additionuu_inituu 3 (as ++ List.map Ar.fz []))) fun u => M.bind (eqO 3 2 d_Additionuu_equu 2 t u) blK))) (retS (fzE (M.pure (.bl false)))) nilS)
abbrev eB4 : SM := (forS (M.bind (consM (M.pure (.int 4)) (M.pure [])) fun ts => M.of (rng1 ts)) (stT 14) (ifS (cmpM neT (hldE (fzE (M.bind (frzE (rdS 13)) fun t => M.bind (frzE (M.bind (arCons (frzE (itemM (hldE (rdS 5)) (frzE (rdS 14)))) (arCons (frzE (rdS 4)) (M.pure []))) fun as => makeA 3 3 d_Additionuu_inituu 3 (as ++ List.map Ar.fz []))) fun u => eqO 3 2 d_Additionuu_equu 2 t u))) (hldE (fzE (M.bind (cmpM eqT (hldE (rdS 14)) (hldE (rdS 12))) fun w => M.pure (.bl w))))) (retS (fzE (M.pure (.bl false)))) nilS))
abbrev eB5 : SM := (ifS (orM (M.bind (frzE (rdS 13)) fun t => M.bind (frzE (M.bind (arCons (frzE (rdS 6)) (arCons (frzE (opM addT (frzE (opM modT (frzE (call1M intT (hldE (rdS 4)))) (frzE (opM powT (M.pure (.int 10)) (M.pure (.int 9)))))) (M.pure (.int 1)))) (M.pure []))) fun as => makeA 3 3 d_Additionuu_inituu 3 (as ++ List.map Ar.fz []))) fun u => M.bind (eqO 3 2 d_Additionuu_equu 2 t u) blK) (orM (M.bind (frzE (rdS 13)) fun t => M.bind (tupM (consM (frzE (rdS 6)) (consM (frzE (rdS 4)) (M.pure [])))) fun u => M.bind (eqO 3 2 d_Additionuu_equu 2 t u) blK) (M.bind (frzE (rdS 13)) fun t => M.bind (frzE (rdS 6)) fun u => M.bind (eqO 3 2 d_Additionuu_equu 2 t u) blK))) (retS (fzE (M.pure (.bl false)))) nilS)
abbrev eB6 : SM := (asgS 7 (M.bind (arIo (rdS 2) (arCons (frzE (lstM (consM (M.pure (.int 0)) (consM (frzE (opM addT (frzE (opM powT (M.pure (.int 10)) (M.pure (.int 9)))) (M.pure (.int 1)))) (consM (M.pure (.bl true)) (consM (M.pure (.str "1")) (consM (M.pure .non) (consM (frzE (lstM (consM (frzE (rdS 4)) (M.pure [])))) (consM (M.bind (frzE (rdS 4)) fun t => M.of (negT t)) (M.pure [])))))))))) (M.pure []))) fun as => callA 2 d_ulaw_pick 2 (as ++ List.map Ar.fz [])))
abbrev eB7 : SM := (ifS (cmpM neT (hldE (sliceM (hldE (M.bind (arCons (frzE (rdS 6)) (arCons (frzE (rdS 7)) (M.pure []))) fun as => callA 2 d_ulaw_refused 3 (as ++ List.map Ar.fz []))) (M.pure none) (endM (M.pure (.int 1))))) (hldE (lstM (consM (M.pure (.str "thing")) (M.pure []))))) (retS (fzE (M.pure (.bl false)))) nilS)
abbrev oB1 : SM := (asgS 2 (M.bind (arCons (frzE (rdS 0)) (arCons (frzE (rdS 1)) (M.pure []))) fun as => callA 2 d_ulaw_pool 5 (as ++ List.map Ar.fz [])))
abbrev oB2 : SM := (asgS 3 (M.bind (arIo (rdS 2) (arCons (M.pure (.int 4)) (M.pure []))) fun as => callA 2 d_ulaw_names 8 (as ++ List.map Ar.fz [])))
abbrev oB3 : SM := (asgGS (frzE (rdS 3)) (tgSeq 4 (tgCons (stT 8) (tgCons (stT 9) (tgCons (stT 10) (tgCons (stT 11) tgNil))))))
abbrev oB4 : SM := (asgS 4 (opM addT (M.pure (.int 1)) (frzE (M.bind (arIo (rdS 2) (arCons (frzE (opM powT (M.pure (.int 10)) (M.pure (.int 9)))) (M.pure []))) fun as => callA 2 d_ulaw_draw 3 (as ++ List.map Ar.fz [])))))
abbrev oB5 : SM := (asgS 5 (lstM (consM (tupM (consM (M.pure (.str "name")) (consM (frzE (rdS 8)) (consM (frzE (rdS 9)) (M.pure []))))) (consM (tupM (consM (M.pure (.str "member")) (consM (frzE (rdS 8)) (consM (frzE (rdS 9)) (M.pure []))))) (consM (tupM (consM (M.pure (.str "spread")) (consM (frzE (rdS 8)) (consM (frzE (rdS 9)) (consM (frzE (rdS 10)) (M.pure [])))))) (consM (tupM (consM (M.pure (.str "name")) (consM (frzE (rdS 9)) (consM (frzE (rdS 9)) (M.pure []))))) (M.pure [])))))))
abbrev pB : SM := (ifS (cmpM neT (hldE (M.bind (arCons (frzE (rdS 6)) (arCons (frzE (M.bind (arIo (rdS 2) (arCons (frzE (lstM (consM (frzE (rdS 4)) (consM (M.pure .non) (consM (M.pure (.int 0)) (M.pure [])))))) (M.pure []))) fun as => callA 2 d_ulaw_pick 2 (as ++ List.map Ar.fz []))) (M.pure []))) fun as => callA 2 d_ulaw_refused 3 (as ++ List.map Ar.fz []))) (hldE (lstM (consM (M.pure (.str "place")) (consM (frzE (call1M reprT (hldE (rdS 6)))) (consM (M.pure (.bl true)) (M.pure []))))))) (retS (fzE (M.pure (.bl false)))) nilS)
abbrev iB : SM := (ifS (cmpM neT (hldE (fzE (M.bind (frzE (rdS 13)) fun t => M.bind (frzE (M.bind (arCons (frzE (itemM (hldE (rdS 5)) (frzE (rdS 14)))) (arCons (frzE (rdS 4)) (M.pure []))) fun as => makeA 3 3 d_Additionuu_inituu 3 (as ++ List.map Ar.fz []))) fun u => eqO 3 2 d_Additionuu_equu 2 t u))) (hldE (fzE (M.bind (cmpM eqT (hldE (rdS 14)) (hldE (rdS 12))) fun w => M.pure (.bl w))))) (retS (fzE (M.pure (.bl false)))) nilS)
abbrev tB : SM := (ifS (cmpM neT (hldE (M.bind (arCons (frzE (itemM (hldE (rdS 5)) (frzE (M.bind (arIo (rdS 2) (arCons (M.pure (.int 4)) (M.pure []))) fun as => callA 2 d_ulaw_draw 3 (as ++ List.map Ar.fz []))))) (arCons (frzE (rdS 7)) (M.pure []))) fun as => callA 2 d_ulaw_refused 3 (as ++ List.map Ar.fz []))) (hldE (lstM (consM (M.pure (.str "thing")) (consM (frzE (call1M reprT (hldE (rdS 7)))) (consM (M.pure (.bl true)) (M.pure []))))))) (retS (fzE (M.pure (.bl false)))) nilS)
abbrev eBs : SM := seqS eB1 (seqS eB2 (seqS eB3 (seqS eB4 (seqS eB5 (seqS eB6 eB7)))))
abbrev oB6 : SM := (forS (M.bind (consM (frzE (rdS 5)) (M.pure [])) fun ts => M.of (enT ts)) (tgSeq 2 (tgCons (stT 12) (tgCons (stT 6) tgNil))) eBs)
abbrev oB7 : SM := (forS (M.bind (frzE (M.bind (arCons (frzE (rdS 3)) (M.pure [])) fun as => callA 1 d_ulaw_odd_places 6 (as ++ List.map Ar.fz []))) fun t => M.of (seqT t)) (stT 6) pB)
abbrev oB8 : SM := (forS (M.bind (frzE (lstM (consM (M.pure (.int 0)) (consM (frzE (opM addT (frzE (opM powT (M.pure (.int 10)) (M.pure (.int 9)))) (M.pure (.int 1)))) (consM (M.pure (.bl true)) (consM (M.pure (.bl false)) (consM (M.pure (.str "1")) (consM (M.pure .non) (consM (frzE (lstM (consM (frzE (rdS 4)) (M.pure [])))) (consM (M.bind (frzE (rdS 4)) fun t => M.of (negT t)) (M.pure []))))))))))) fun t => M.of (seqT t)) (stT 7) tB)
abbrev oBs : SM := seqS oB1 (seqS oB2 (seqS oB3 (seqS oB4 (seqS oB5 (seqS oB6 (seqS oB7 oB8))))))
theorem law_eq : d_law = seqS (forS (M.bind (consM (frzE (callM maxT (consM (M.pure (.int 1)) (consM (frzE (callM minT (consM (frzE (call1M lenT (hldE (rdS 0)))) (consM (M.pure (.int 6)) (M.pure []))))) (M.pure []))))) (M.pure [])) fun ts => M.of (rng1 ts)) (stT 1) oBs) (retS (fzE (M.pure (.bl true)))) := rfl
theorem ne_pl {t : T} (h : (toD t).plain = true) (h2 : (toD t).depth ≤ 100) : neT t t = some false := by
  unfold neT eqT
  rw [if_pos ⟨h, h, by omega⟩, PySem.SeqAt.eqv_refl_plain _ h]
  rfl
theorem ne_self {t : T} (h : Gd 2 t) : neT t t = some false := ne_pl h.six.pl (by have := h.six.dp; omega)
theorem eq_self {t : T} (h : Gd 2 t) : eqT t t = some true := by rw [eqT_gd h h, PySem.SeqAt.eqv_refl_plain _ h.six.pl]
theorem ne_three (a s : Str) : neT (.lst [.str a, .str s, .bl true]) (.lst [.str a, .str s, .bl true]) = some false := ne_pl rfl (by show 1 ≤ 100; decide)
theorem ne_bl (b : Bool) : neT (.bl b) (.bl b) = some false := by cases b <;> decide +kernel
structure FOk (q : T × List T × T) : Prop where
  k : KsOk q
  g : ∀ i : Int, i.natAbs < 2 ^ 40 → Gd 2 (.lst [spot q, .int i, q.1, q.2.2])
theorem ks_fok {z : Nms} (h : NmsOk z) : ∀ q ∈ ks z, FOk q := by
  intro q hq
  refine ⟨ks_ok h q hq, fun i hi => ?_⟩
  have con : ∀ s ∈ (["name", "member", "spread"] : List Str), PyData.strOk s = true ∧ s.cps.size ≤ 10 := by decide +kernel
  have k1 : ∀ {k : Nat} (s : Str), s ∈ (["name", "member", "spread"] : List Str) → Gd k (.str s) := fun s h => .str (con s h).1 (con s h).2
  simp only [ks, List.mem_cons, List.not_mem_nil, or_false] at hq
  rcases hq with e | e | e | e <;> subst e
  · exact .lst (gcons (.tup (gcons (k1 _ (by simp)) (gcons (gnm h.a) (gcons (gnm h.b) gnil))) (by simp)) (gcons (.int hi) (gcons (k1 _ (by simp)) (gcons (gnm h.b) gnil)))) (by simp)
  · exact .lst (gcons (.tup (gcons (k1 _ (by simp)) (gcons (gnm h.a) (gcons (gnm h.b) gnil))) (by simp)) (gcons (.int hi) (gcons (k1 _ (by simp)) (gcons (gnm h.b) gnil)))) (by simp)
  · exact .lst (gcons (.tup (gcons (k1 _ (by simp)) (gcons (gnm h.a) (gcons (gnm h.b) (gcons (gnm h.c) gnil)))) (by simp)) (gcons (.int hi) (gcons (k1 _ (by simp)) (gcons (gnm h.c) gnil)))) (by simp)
  · exact .lst (gcons (.tup (gcons (k1 _ (by simp)) (gcons (gnm h.b) (gcons (gnm h.b) gnil))) (by simp)) (gcons (.int hi) (gcons (k1 _ (by simp)) (gcons (gnm h.b) gnil)))) (by simp)
def W (w : Int) : Prop := 1 ≤ w ∧ w ≤ 1000000000
theorem W.ok {w : Int} (h : W w) : thT (.int w) = true := by
  show (decide (1 ≤ w) && decide (w ≤ 1000000000)) = true
  rw [decide_eq_true h.1, decide_eq_true h.2]; rfl
theorem made_w {q : T × List T × T} (h : FOk q) {w : Int} (hw : W w) (env : Ev.Env) : makeA 3 3 d_Additionuu_inituu 3 [.fz (spot q), .fz (.int w)] env = .ok (.ow (ins q (.int w))) env := made_q h.k (.inl ⟨_, rfl⟩) hw.ok env
theorem by_name_w {q : T × List T × T} (h : FOk q) {w : Int} (hw : W w) (env : Ev.Env) : callA 2 d_ulaw_by_name 2 [.fz (spot q), .fz (.int w)] env = .ok (.ow (ins q (.int w))) env := by_name_q h.k (.inl ⟨_, rfl⟩) hw.ok env
theorem eq_w {q q' : T × List T × T} (h : FOk q) (h' : FOk q') (w w' : Int) (env : Ev.Env) : eqO 3 2 d_Additionuu_equu 2 (ins q (.int w)) (ins q' (.int w')) env = .ok (.bl (PyData.eqv (toD (spot q)) (toD (spot q')) && decide (w = w'))) env :=
  eq_made _ _ _ _ _ _ _ _ (eqT_gd h.k.gd h'.k.gd) (eq_n w w') env
theorem eq_w1 {q : T × List T × T} (h : FOk q) (w w' : Int) (env : Ev.Env) : eqO 3 2 d_Additionuu_equu 2 (ins q (.int w)) (ins q (.int w')) env = .ok (.bl (decide (w = w'))) env := by
  rw [eq_w h h, PySem.SeqAt.eqv_refl_plain _ h.k.gd.six.pl, Bool.true_and]
theorem p9 : powT (.int 10) (.int 9) = some (.fz (.int 1000000000)) := by
  show (if (0 : Int) ≤ 9 ∧ (9 : Int) ≤ 1000000 ∧ (10 : Int).natAbs < 2 ^ 64 then some (Rv.fz (.int ((10 : Int) ^ (9 : Int).toNat))) else none) = _
  rw [if_pos (by decide)]
  rfl
section
variable {z : Nms} {q : T × List T × T} {w : Int} (S K P N L o a b c d at_ md ot : Sl)
theorem eB2_ok (h : FOk q) (hw : W w) : eB2 [S, K, P, N, .fz (.int w), L, .fz (spot q), o, a, b, c, d, at_, .ow (ins q (.int w)), ot] = .nx [S, K, P, N, .fz (.int w), L, .fz (spot q), o, a, b, c, d, at_, .ow (ins q (.int w)), ot] := by
  have ln : lenT (spot q) = some (.fz (.int ((q.1 :: q.2.1).length : Nat))) := rfl
  have a0 : itemT (spot q) (.int 0) = some (.fz q.1) := by
    show (L2.atI (q.1 :: q.2.1) 0).map Rv.fz = _
    unfold L2.atI L2.ixN
    rw [if_pos (by decide), if_pos (by rw [List.length_cons]; omega)]
    rfl
  have a1 : itemT (spot q) (.int (((q.1 :: q.2.1).length : Nat) - 1)) = some (.fz q.2.2) := by
    show (L2.atI (q.1 :: q.2.1) _).map Rv.fz = _
    unfold L2.atI L2.ixN
    rw [if_pos (by rw [List.length_cons]; omega), if_pos (by rw [List.length_cons]; omega)]
    simp only [Option.bind_some]
    have e : ((((q.1 :: q.2.1).length : Nat) : Int) - 1).toNat = (q.1 :: q.2.1).length - 1 := by rw [List.length_cons]; omega
    rw [e, h.k.last]
    rfl
  have f1 : attrT [3] "place" (ins q (.int w)) = some (spot q) := rfl
  have f2 : attrT [3] "thing" (ins q (.int w)) = some (.int w) := rfl
  have f3 : attrT [3] "kind" (ins q (.int w)) = some q.1 := rfl
  have f4 : attrT [3] "name" (ins q (.int w)) = some q.2.2 := rfl
  have l4 : ∀ x y u v : T, ([x, y, u, v].length ≤ sizeLine) = True := fun _ _ _ _ => eq_true (by show 4 ≤ 16777216; decide)
  have ne := ne_self (h.g w (by have := hw.1; have := hw.2; omega))
  simp only [eB2, seqS_ap, seq_nx, seq_rt, nilS_ap, exprS_ap, so_ok, ifS_ap, so_if, retS_ap, dropS_ap, opS_some, asgS_ap, asK_ow, asK_fz, asK_bo, asgGS_ap, bind_ap, obind_ok, pure_ap, of_ap, frzE_ap, hldE_ap, fzE_ap, frz_fz, frz_ow, frz_bo, hld_fz, hld_ow, hld_bo, pk_fz, opM_ap, cmpM_ap, chainM_ap, notM_ap, andM_ap, orM_ap, ite_ap, iteS_ap, truM_ap, ifM_ap, consM_ap, lstM_ap, tupM_ap, callM_ap, call1M_ap, itemM_ap, sliceM_ap, arCons_ap, endM_ap, rdS, pk, stT, stO, chO, List.getElem?_cons_zero, List.getElem?_cons_succ, List.set_cons_zero, List.set_cons_succ, attrM, f1, f2, f3, f4, l4, if_true, a0, ln, subT, a1, ne, Bool.false_eq_true, if_false]
theorem eB3_ok (h : FOk q) (hw : W w) : eB3 [S, K, P, N, .fz (.int w), L, .fz (spot q), o, a, b, c, d, at_, .ow (ins q (.int w)), ot] = .nx [S, K, P, N, .fz (.int w), L, .fz (spot q), o, a, b, c, d, at_, .fz (ins q (.int w)), ot] := by
  simp only [eB3, seqS_ap, seq_nx, seq_rt, nilS_ap, exprS_ap, so_ok, ifS_ap, so_if, retS_ap, dropS_ap, opS_some, asgS_ap, asK_ow, asK_fz, asK_bo, asgGS_ap, bind_ap, obind_ok, pure_ap, of_ap, frzE_ap, hldE_ap, fzE_ap, frz_fz, frz_ow, frz_bo, hld_fz, hld_ow, hld_bo, pk_fz, opM_ap, cmpM_ap, chainM_ap, notM_ap, andM_ap, orM_ap, ite_ap, iteS_ap, truM_ap, ifM_ap, consM_ap, lstM_ap, tupM_ap, callM_ap, call1M_ap, itemM_ap, sliceM_ap, arCons_ap, endM_ap, rdS, pk, stT, stO, chO, List.getElem?_cons_zero, List.getElem?_cons_succ, List.set_cons_zero, List.set_cons_succ, List.map_nil, List.append_nil, by_name_w h hw, made_w h hw, eq_w1 h, decide_true, blN, blK, Bool.not_true, Bool.false_eq_true, if_false]
theorem iB_ok {q' : T × List T × T} {i j : Int} (h : FOk q) (h' : FOk q') (hw : W w) {ss : List T} (hj : L2.atI ss j = some (spot q')) (he : PyData.eqv (toD (spot q)) (toD (spot q')) = decide (j = i)) :
    iB [S, K, P, N, .fz (.int w), .fz (.lst ss), .fz (spot q), o, a, b, c, d, .fz (.int i), .fz (ins q (.int w)), .fz (.int j)] = .nx [S, K, P, N, .fz (.int w), .fz (.lst ss), .fz (spot q), o, a, b, c, d, .fz (.int i), .fz (ins q (.int w)), .fz (.int j)] := by
  have it : itemT (.lst ss) (.int j) = some (.fz (spot q')) := by show (L2.atI ss j).map Rv.fz = _; rw [hj]; rfl
  simp only [iB, seqS_ap, seq_nx, seq_rt, nilS_ap, exprS_ap, so_ok, ifS_ap, so_if, retS_ap, dropS_ap, opS_some, asgS_ap, asK_ow, asK_fz, asK_bo, asgGS_ap, bind_ap, obind_ok, pure_ap, of_ap, frzE_ap, hldE_ap, fzE_ap, frz_fz, frz_ow, frz_bo, hld_fz, hld_ow, hld_bo, pk_fz, opM_ap, cmpM_ap, chainM_ap, notM_ap, andM_ap, orM_ap, ite_ap, iteS_ap, truM_ap, ifM_ap, consM_ap, lstM_ap, tupM_ap, callM_ap, call1M_ap, itemM_ap, sliceM_ap, arCons_ap, endM_ap, rdS, pk, stT, stO, chO, List.getElem?_cons_zero, List.getElem?_cons_succ, List.set_cons_zero, List.set_cons_succ, List.map_nil, List.append_nil, it, made_w h' hw, eq_w h h', he, decide_true, Bool.and_true, eq_n, ne_bl, Bool.false_eq_true, if_false]
theorem eB5_ok (h : FOk q) (hw : W w) : eB5 [S, K, P, N, .fz (.int w), L, .fz (spot q), o, a, b, c, d, at_, .fz (ins q (.int w)), ot] = .nx [S, K, P, N, .fz (.int w), L, .fz (spot q), o, a, b, c, d, at_, .fz (ins q (.int w)), ot] := by
  obtain ⟨w1, w2⟩ := hw
  have m := mod_n w (by decide : (0 : Int) < 1000000000)
  have hm : W (w % 1000000000 + 1) := ⟨by omega, by omega⟩
  have ne : decide (w = w % 1000000000 + 1) = false := decide_eq_false (by omega)
  have t1 := fun us env => eq_tup (spot q) (.int w) q.1 q.2.2 us env
  have l2 : ∀ x y : T, ([x, y].length ≤ sizeLine) = True := fun _ _ => eq_true (by show 2 ≤ 16777216; decide)
  have sp : spot q = .tup (q.1 :: q.2.1) := rfl
  have t2 : ∀ env, eqO 3 2 d_Additionuu_equu 2 (ins q (.int w)) (.tup [spot q, .int w]) env = .ok (.bl false) env := t1 _
  have t3 : ∀ env, eqO 3 2 d_Additionuu_equu 2 (ins q (.int w)) (spot q) env = .ok (.bl false) env := t1 _
  simp only [eB5, seqS_ap, seq_nx, seq_rt, nilS_ap, exprS_ap, so_ok, ifS_ap, so_if, retS_ap, dropS_ap, opS_some, asgS_ap, asK_ow, asK_fz, asK_bo, asgGS_ap, bind_ap, obind_ok, pure_ap, of_ap, frzE_ap, hldE_ap, fzE_ap, frz_fz, frz_ow, frz_bo, hld_fz, hld_ow, hld_bo, pk_fz, opM_ap, cmpM_ap, chainM_ap, notM_ap, andM_ap, orM_ap, ite_ap, iteS_ap, truM_ap, ifM_ap, consM_ap, lstM_ap, tupM_ap, callM_ap, call1M_ap, itemM_ap, sliceM_ap, arCons_ap, endM_ap, rdS, pk, stT, stO, chO, List.getElem?_cons_zero, List.getElem?_cons_succ, List.set_cons_zero, List.set_cons_succ, List.map_nil, List.append_nil, intT, p9, m, add_n, made_w h hm, eq_w1 h, ne, blK, l2, if_true, t2, t3, Bool.false_eq_true, if_false]
end
def bads (w : Int) : List T := [.int 0, .int 1000000001, .bl true, .bl false, .str "1", .non, .lst [.int w], .int (-w)]
def bads7 (w : Int) : List T := [.int 0, .int 1000000001, .bl true, .str "1", .non, .lst [.int w], .int (-w)]
structure Bad (t : T) : Prop where
  w : OkW t
  n : thT t = false
  g : Gd 2 t
theorem bads_bad {w : Int} (hw : W w) : ∀ t ∈ bads w, Bad t := by
  have g1 : PyData.strOk ("1" : Str) = true ∧ ("1" : Str).cps.size ≤ 10 := by decide +kernel
  obtain ⟨w1, w2⟩ := hw
  intro t ht
  simp only [bads, List.mem_cons, List.not_mem_nil, or_false] at ht
  rcases ht with e | e | e | e | e | e | e | e <;> subst e
  · exact ⟨.inl ⟨_, rfl⟩, rfl, .int (by decide)⟩
  · exact ⟨.inl ⟨_, rfl⟩, rfl, .int (by decide)⟩
  · exact ⟨.inr ⟨true, true, rfl, rfl, rfl⟩, rfl, .bl _⟩
  · exact ⟨.inr ⟨true, true, rfl, rfl, rfl⟩, rfl, .bl _⟩
  · exact ⟨.inr ⟨false, false, rfl, rfl, rfl⟩, rfl, .str g1.1 g1.2⟩
  · exact ⟨.inr ⟨false, false, rfl, rfl, rfl⟩, rfl, .non⟩
  · exact ⟨.inr ⟨false, false, rfl, rfl, rfl⟩, rfl, .lst (gcons (.int (by omega)) gnil) (by simp)⟩
  · refine ⟨.inl ⟨_, rfl⟩, ?_, .int (by omega)⟩
    show (decide (1 ≤ -w) && _) = false
    rw [decide_eq_false (by omega)]; rfl
theorem bads7_sub {w : Int} : ∀ t ∈ bads7 w, t ∈ bads w := by
  intro t ht
  simp only [bads7, bads, List.mem_cons, List.not_mem_nil, or_false] at ht ⊢
  rcases ht with e | e | e | e | e | e | e <;> simp [e]
theorem pick2 (p : Int × Int) (ts : List T) (h : 0 < ts.length) (h2 : ts.length < 2 ^ 64) : ∃ t p', t ∈ ts ∧ ∀ (a b : Sl) (r : Ev.Env), callA 2 pickD 2 [.io 2, .fz (.lst ts)] (a :: b :: .ow (pl p) :: r) = .ok (.fz t) (a :: b :: .ow (pl p') :: r) := by
  obtain ⟨t, ht, e⟩ := pick_lst p ts h h2
  exact ⟨t, _, ht, fun a b r => call_io (d := pickD) (m := 2) (n := 2) (i := 2) (ts := [.lst ts]) (env := a :: b :: .ow (pl p) :: r) (s := .ow (pl p)) (t := pl p) (u := pl (dr ts.length p).2) (ce := [.io (pl (dr ts.length p).2), .fz (.lst ts)]) rfl rfl rfl e rfl⟩
theorem draw2 (p : Int × Int) {n : Int} (h : 0 < n) (h2 : n < 2 ^ 64) : ∃ i p', 0 ≤ i ∧ i < n ∧ ∀ (a b : Sl) (r : Ev.Env), callA 2 drawD 3 [.io 2, .fz (.int n)] (a :: b :: .ow (pl p) :: r) = .ok (.fz (.int i)) (a :: b :: .ow (pl p') :: r) := by
  obtain ⟨z, e⟩ := draw_ok p h h2
  obtain ⟨l1, l2⟩ := dr_lt h p
  exact ⟨_, _, l1, l2, fun a b r => call_io (d := drawD) (m := 3) (n := 2) (i := 2) (ts := [.int n]) (env := a :: b :: .ow (pl p) :: r) (s := .ow (pl p)) (t := pl p) (u := pl (dr n p).2) (ce := [.io (pl (dr n p).2), .fz (.int n), z]) rfl rfl rfl e rfl⟩
def SlF (s : Sl) : Prop := s = .un ∨ ∃ t, s = .fz t
theorem eB67_ok {q : T × List T × T} {w : Int} (h : FOk q) (hw : W w) (p : Int × Int) (S K N L o a b c d at_ md ot : Sl) (ho : SlF o) : ∃ p' t, seqS eB6 eB7 [S, K, .ow (pl p), N, .fz (.int w), L, .fz (spot q), o, a, b, c, d, at_, md, ot] = .nx [S, K, .ow (pl p'), N, .fz (.int w), L, .fz (spot q), .fz t, a, b, c, d, at_, md, ot] := by
  obtain ⟨t, p', ht, e⟩ := pick2 p (bads7 w) (by show 0 < 7; decide) (by show 7 < 2 ^ 64; decide)
  have B := bads_bad hw t (bads7_sub t ht)
  refine ⟨p', t, ?_⟩
  rw [bads7, ← pick_eq] at e
  have l7 : (7 ≤ sizeLine) = True := eq_true (by decide)
  have l1 : (1 ≤ sizeLine) = True := eq_true (by decide)
  have rf := refused_t h.k.gd.okP B.w h.k.pl B.n B.g.oks
  have sl : ∀ x y v : T, sliceT (.lst [x, y, v]) none (some 1) = some (.ow (.lst [x])) := fun _ _ _ => rfl
  have ne : neT (.lst [.str "thing"]) (.lst [.str "thing"]) = some false := ne_pl rfl (by show 1 ≤ 100; decide)
  rcases ho with rfl | ⟨t0, rfl⟩ <;>
  simp only [eB6, eB7, seqS_ap, seq_nx, seq_rt, nilS_ap, exprS_ap, so_ok, ifS_ap, so_if, retS_ap, dropS_ap, opS_some, asgS_ap, asK_ow, asK_fz, asK_bo, asgGS_ap, bind_ap, obind_ok, pure_ap, of_ap, frzE_ap, hldE_ap, fzE_ap, frz_fz, frz_ow, frz_bo, hld_fz, hld_ow, hld_bo, pk_fz, opM_ap, cmpM_ap, chainM_ap, notM_ap, andM_ap, orM_ap, ite_ap, iteS_ap, truM_ap, ifM_ap, consM_ap, lstM_ap, tupM_ap, callM_ap, call1M_ap, itemM_ap, sliceM_ap, arCons_ap, endM_ap, rdS, pk, stT, stO, chO, List.getElem?_cons_zero, List.getElem?_cons_succ, List.set_cons_zero, List.set_cons_succ, arIo_ap, List.map_nil, List.append_nil, p9, add_n, Int.reduceAdd, negT, List.length_cons, List.length_nil, Nat.zero_add, Nat.reduceAdd, l7, l1, if_true, e, rf, sl, ne, Bool.false_eq_true, if_false]
theorem loop_step {tg : TM} {B : SM} {t : T} {ts : List T} {env e1 e2 : Ev.Env} (h1 : tg t env = some e1) (h2 : B e1 = .nx e2) : loopS tg B (t :: ts) env = loopS tg B ts e2 := by simp only [loopS, h1, h2]
theorem eB4_ok {z : Nms} (hz : NmsOk z) {w : Int} (hw : W w) (i : Fin 4) (S K P N o a b c d ot : Sl) (ho : SlF ot) (q : T × List T × T) (hq : (ks z)[i.val]? = some q) :
    eB4 [S, K, P, N, .fz (.int w), .fz (.lst (spots z)), .fz (spot q), o, a, b, c, d, .fz (.int (i.val : Nat)), .fz (ins q (.int w)), ot] = .nx [S, K, P, N, .fz (.int w), .fz (.lst (spots z)), .fz (spot q), o, a, b, c, d, .fz (.int (i.val : Nat)), .fz (ins q (.int w)), .fz (.int 3)] := by
  have st : ∀ (j : Int) (jf : Fin 4), j = (jf.val : Nat) → iB [S, K, P, N, .fz (.int w), .fz (.lst (spots z)), .fz (spot q), o, a, b, c, d, .fz (.int (i.val : Nat)), .fz (ins q (.int w)), .fz (.int j)] = .nx [S, K, P, N, .fz (.int w), .fz (.lst (spots z)), .fz (spot q), o, a, b, c, d, .fz (.int (i.val : Nat)), .fz (ins q (.int w)), .fz (.int j)] := by
    intro j jf hj
    have hl : jf.val < (ks z).length := jf.isLt
    have hl2 : i.val < (ks z).length := i.isLt
    have hq2 : (ks z)[i.val] = q := by rw [List.getElem?_eq_getElem hl2] at hq; cases hq; rfl
    have e1 : L2.atI (spots z) j = some (spot ((ks z)[jf.val])) := by
      subst hj
      unfold L2.atI L2.ixN
      rw [if_pos (by omega), if_pos (by have : (spots z).length = 4 := rfl; omega)]
      simp only [Option.bind_some, Int.toNat_natCast]
      unfold spots
      rw [List.getElem?_map, List.getElem?_eq_getElem hl]
      rfl
    have e2 := eqv_spots hz i jf
    have e3 : (spots z)[i.val]'i.isLt = spot q := (List.getElem_map (f := spot) (l := ks z) (i := i.val) (h := i.isLt)).trans (congrArg spot hq2)
    have e4 : (spots z)[jf.val]'jf.isLt = spot ((ks z)[jf.val]) := List.getElem_map (f := spot) (l := ks z) (i := jf.val) (h := jf.isLt)
    rw [e3, e4] at e2
    refine iB_ok _ _ _ _ _ _ _ _ _ (ks_fok hz q (hq2 ▸ List.getElem_mem hl2)) (ks_fok hz _ (List.getElem_mem hl)) hw e1 ?_
    rw [e2]
    congr 1
    apply propext
    rw [Fin.ext_iff, hj]
    omega
  have s0 := st 0 0 rfl
  have s1 := st 1 1 rfl
  have s2 := st 2 2 rfl
  have s3 := st 3 3 rfl
  have r4 : rng1 [.int 4] = some [.int 0, .int 1, .int 2, .int 3] := rfl
  have e : ∀ env, eB4 env = loopS (stT 14) iB [.int 0, .int 1, .int 2, .int 3] env := fun env => by simp only [eB4, forS, seqS_ap, seq_nx, seq_rt, nilS_ap, exprS_ap, so_ok, ifS_ap, so_if, retS_ap, dropS_ap, opS_some, asgS_ap, asK_ow, asK_fz, asK_bo, asgGS_ap, bind_ap, obind_ok, pure_ap, of_ap, frzE_ap, hldE_ap, fzE_ap, frz_fz, frz_ow, frz_bo, hld_fz, hld_ow, hld_bo, pk_fz, opM_ap, cmpM_ap, chainM_ap, notM_ap, andM_ap, orM_ap, ite_ap, iteS_ap, truM_ap, ifM_ap, consM_ap, lstM_ap, tupM_ap, callM_ap, call1M_ap, itemM_ap, sliceM_ap, arCons_ap, endM_ap, rdS, pk, stT, stO, chO, List.getElem?_cons_zero, List.getElem?_cons_succ, List.set_cons_zero, List.set_cons_succ, r4]
  rw [e]
  rcases ho with rfl | ⟨t0, rfl⟩ <;>
  · rw [loop_step rfl s0, loop_step rfl s1, loop_step rfl s2, loop_step rfl s3]
    rfl
theorem step_e {z : Nms} (hz : NmsOk z) {w : Int} (hw : W w) (i : Fin 4) (p : Int × Int) (S K N o a b c d md ot : Sl) (ho : SlF o) (hm : SlF md) (hot : SlF ot) (q : T × List T × T) (hq : (ks z)[i.val]? = some q) :
    ∃ p' t, eBs [S, K, .ow (pl p), N, .fz (.int w), .fz (.lst (spots z)), .fz (spot q), o, a, b, c, d, .fz (.int (i.val : Nat)), md, ot] = .nx [S, K, .ow (pl p'), N, .fz (.int w), .fz (.lst (spots z)), .fz (spot q), .fz t, a, b, c, d, .fz (.int (i.val : Nat)), .fz (ins q (.int w)), .fz (.int 3)] := by
  have hf : FOk q := ks_fok hz q (by
    have hl2 : i.val < (ks z).length := i.isLt
    rw [List.getElem?_eq_getElem hl2] at hq
    cases hq
    exact List.getElem_mem hl2)
  obtain ⟨p', t, e⟩ := eB67_ok hf hw p S K N (.fz (.lst (spots z))) o a b c d (.fz (.int (i.val : Nat))) (.fz (ins q (.int w))) (.fz (.int 3)) ho
  have e1 : eB1 [S, K, .ow (pl p), N, .fz (.int w), .fz (.lst (spots z)), .fz (spot q), o, a, b, c, d, .fz (.int (i.val : Nat)), md, ot] = .nx [S, K, .ow (pl p), N, .fz (.int w), .fz (.lst (spots z)), .fz (spot q), o, a, b, c, d, .fz (.int (i.val : Nat)), .ow (ins q (.int w)), ot] := by
    rcases hm with rfl | ⟨t0, rfl⟩ <;>
    simp only [eB1, seqS_ap, seq_nx, seq_rt, nilS_ap, exprS_ap, so_ok, ifS_ap, so_if, retS_ap, dropS_ap, opS_some, asgS_ap, asK_ow, asK_fz, asK_bo, asgGS_ap, bind_ap, obind_ok, pure_ap, of_ap, frzE_ap, hldE_ap, fzE_ap, frz_fz, frz_ow, frz_bo, hld_fz, hld_ow, hld_bo, pk_fz, opM_ap, cmpM_ap, chainM_ap, notM_ap, andM_ap, orM_ap, ite_ap, iteS_ap, truM_ap, ifM_ap, consM_ap, lstM_ap, tupM_ap, callM_ap, call1M_ap, itemM_ap, sliceM_ap, arCons_ap, endM_ap, rdS, pk, stT, stO, chO, List.getElem?_cons_zero, List.getElem?_cons_succ, List.set_cons_zero, List.set_cons_succ, List.map_nil, List.append_nil, made_w hf hw]
  refine ⟨p', t, ?_⟩
  unfold eBs
  rw [seqS_ap, e1, seq_nx, seqS_ap, eB2_ok (h := hf) (hw := hw), seq_nx, seqS_ap, eB3_ok (h := hf) (hw := hw), seq_nx, seqS_ap, eB4_ok hz hw i _ _ _ _ _ _ _ _ _ _ hot q hq, seq_nx, seqS_ap, eB5_ok (h := hf) (hw := hw), seq_nx, e]
theorem loop_e {z : Nms} (hz : NmsOk z) {w : Int} (hw : W w) (p : Int × Int) (S K N s6 o a b c d s12 md ot : Sl) (h6 : SlF s6) (h12 : SlF s12) (ho : SlF o) (hm : SlF md) (hot : SlF ot) :
    ∃ p' t u v, oB6 [S, K, .ow (pl p), N, .fz (.int w), .ow (.lst (spots z)), s6, o, a, b, c, d, s12, md, ot] = .nx [S, K, .ow (pl p'), N, .fz (.int w), .fz (.lst (spots z)), .fz u, .fz t, a, b, c, d, .fz (.int 3), .fz v, .fz (.int 3)] := by
  have fz : ∀ t : T, SlF (.fz t) := fun t => .inr ⟨t, rfl⟩
  obtain ⟨p1, t1, e1⟩ := step_e hz hw 0 p S K N o a b c d md ot ho hm hot _ rfl
  obtain ⟨p2, t2, e2⟩ := step_e hz hw 1 p1 S K N (.fz t1) a b c d (.fz (ins (.str "name", [.str z.a, .str z.b], .str z.b) (.int w))) (.fz (.int 3)) (fz _) (fz _) (fz _) _ rfl
  obtain ⟨p3, t3, e3⟩ := step_e hz hw 2 p2 S K N (.fz t2) a b c d (.fz (ins (.str "member", [.str z.a, .str z.b], .str z.b) (.int w))) (.fz (.int 3)) (fz _) (fz _) (fz _) _ rfl
  obtain ⟨p4, t4, e4⟩ := step_e hz hw 3 p3 S K N (.fz t3) a b c d (.fz (ins (.str "spread", [.str z.a, .str z.b, .str z.c], .str z.c) (.int w))) (.fz (.int 3)) (fz _) (fz _) (fz _) _ rfl
  refine ⟨p4, t4, spot (.str "name", [.str z.b, .str z.b], .str z.b), ins (.str "name", [.str z.b, .str z.b], .str z.b) (.int w), ?_⟩
  have en : enT [.lst (spots z)] = some [.tup [.int 0, spot (.str "name", [.str z.a, .str z.b], .str z.b)], .tup [.int 1, spot (.str "member", [.str z.a, .str z.b], .str z.b)], .tup [.int 2, spot (.str "spread", [.str z.a, .str z.b, .str z.c], .str z.c)], .tup [.int 3, spot (.str "name", [.str z.b, .str z.b], .str z.b)]] := rfl
  have l2 : ∀ x y : T, ([x, y].length = 2) = True := fun _ _ => eq_true rfl
  have f0 : ((0 : Fin 4).val : Int) = 0 := rfl
  have f1 : ((1 : Fin 4).val : Int) = 1 := rfl
  have f2 : ((2 : Fin 4).val : Int) = 2 := rfl
  have f3 : ((3 : Fin 4).val : Int) = 3 := rfl
  rw [f0] at e1
  rw [f1] at e2
  rw [f2] at e3
  rw [f3] at e4
  have e : ∀ (S K P N V a6 a7 a8 a9 b0 b1 b2 b3 b4 : Sl), oB6 [S, K, P, N, V, .ow (.lst (spots z)), a6, a7, a8, a9, b0, b1, b2, b3, b4] = loopS (tgSeq 2 (tgCons (stT 12) (tgCons (stT 6) tgNil))) eBs [.tup [.int 0, spot (.str "name", [.str z.a, .str z.b], .str z.b)], .tup [.int 1, spot (.str "member", [.str z.a, .str z.b], .str z.b)], .tup [.int 2, spot (.str "spread", [.str z.a, .str z.b, .str z.c], .str z.c)], .tup [.int 3, spot (.str "name", [.str z.b, .str z.b], .str z.b)]] [S, K, P, N, V, .fz (.lst (spots z)), a6, a7, a8, a9, b0, b1, b2, b3, b4] := by
    intros
    simp only [oB6, forS, seqS_ap, seq_nx, seq_rt, nilS_ap, exprS_ap, so_ok, ifS_ap, so_if, retS_ap, dropS_ap, opS_some, asgS_ap, asK_ow, asK_fz, asK_bo, asgGS_ap, bind_ap, obind_ok, pure_ap, of_ap, frzE_ap, hldE_ap, fzE_ap, frz_fz, frz_ow, frz_bo, hld_fz, hld_ow, hld_bo, pk_fz, opM_ap, cmpM_ap, chainM_ap, notM_ap, andM_ap, orM_ap, ite_ap, iteS_ap, truM_ap, ifM_ap, consM_ap, lstM_ap, tupM_ap, callM_ap, call1M_ap, itemM_ap, sliceM_ap, arCons_ap, endM_ap, rdS, pk, stT, stO, chO, List.getElem?_cons_zero, List.getElem?_cons_succ, List.set_cons_zero, List.set_cons_succ, en]
  rw [e]
  rcases h6 with rfl | ⟨u6, rfl⟩ <;> rcases h12 with rfl | ⟨u12, rfl⟩ <;>
  · rw [loop_step rfl e1, loop_step rfl e2, loop_step rfl e3, loop_step rfl e4]
    rfl
theorem pB_ok {z : Nms} (hz : NmsOk z) (w : Int) (p : Int × Int) (t : T) (ht : plT t = false) (hg : Gd 2 t) (S K N L o a b c d at_ md ot : Sl) : ∃ p', pB [S, K, .ow (pl p), N, .fz (.int w), L, .fz t, o, a, b, c, d, at_, md, ot] = .nx [S, K, .ow (pl p'), N, .fz (.int w), L, .fz t, o, a, b, c, d, at_, md, ot] := by
  obtain ⟨u, p', hu, e⟩ := pick2 p [.int w, .non, .int 0] (by show 0 < 3; decide) (by show 3 < 2 ^ 64; decide)
  refine ⟨p', ?_⟩
  rw [← pick_eq] at e
  have l3 : (3 ≤ sizeLine) = True := eq_true (by decide)
  have rf := refused_p (t := u) hg.okP ht hg.oks
  have rp : reprT t = some (.fz (rsh t)) := hg.oks
  have ne : neT (.lst [.str "place", rsh t, .bl true]) (.lst [.str "place", rsh t, .bl true]) = some false := ne_three _ _
  simp only [pB, seqS_ap, seq_nx, seq_rt, nilS_ap, exprS_ap, so_ok, ifS_ap, so_if, retS_ap, dropS_ap, opS_some, asgS_ap, asK_ow, asK_fz, asK_bo, asgGS_ap, bind_ap, obind_ok, pure_ap, of_ap, frzE_ap, hldE_ap, fzE_ap, frz_fz, frz_ow, frz_bo, hld_fz, hld_ow, hld_bo, pk_fz, opM_ap, cmpM_ap, chainM_ap, notM_ap, andM_ap, orM_ap, ite_ap, iteS_ap, truM_ap, ifM_ap, consM_ap, lstM_ap, tupM_ap, callM_ap, call1M_ap, itemM_ap, sliceM_ap, arCons_ap, endM_ap, rdS, pk, stT, stO, chO, List.getElem?_cons_zero, List.getElem?_cons_succ, List.set_cons_zero, List.set_cons_succ, arIo_ap, List.map_nil, List.append_nil, List.length_cons, List.length_nil, Nat.zero_add, Nat.reduceAdd, l3, if_true, e, rf, rp, ne, Bool.false_eq_true, if_false]
theorem loop_p {z : Nms} (hz : NmsOk z) (w : Int) (S K N L o a b c d at_ md ot : Sl) (ts : List T) (h : ∀ t ∈ ts, plT t = false ∧ Gd 2 t) : ∀ (p : Int × Int) (t0 : T), ∃ p' t', loopS (stT 6) pB ts [S, K, .ow (pl p), N, .fz (.int w), L, .fz t0, o, a, b, c, d, at_, md, ot] = .nx [S, K, .ow (pl p'), N, .fz (.int w), L, .fz t', o, a, b, c, d, at_, md, ot] := by
  induction ts with
  | nil => exact fun p t0 => ⟨p, t0, rfl⟩
  | cons t ts ih =>
    intro p t0
    obtain ⟨h1, h2⟩ := h t List.mem_cons_self
    obtain ⟨p1, e1⟩ := pB_ok hz w p t h1 h2 S K N L o a b c d at_ md ot
    obtain ⟨p2, t2, e2⟩ := ih (fun u hu => h u (List.mem_cons_of_mem _ hu)) p1 t
    exact ⟨p2, t2, by rw [loop_step rfl e1, e2]⟩
theorem tB_ok {z : Nms} (hz : NmsOk z) {w : Int} (p : Int × Int) (t : T) (hb : Bad t) (S K N V s a b c d at_ md ot : Sl) : ∃ p', tB [S, K, .ow (pl p), N, V, .fz (.lst (spots z)), s, .fz t, a, b, c, d, at_, md, ot] = .nx [S, K, .ow (pl p'), N, V, .fz (.lst (spots z)), s, .fz t, a, b, c, d, at_, md, ot] := by
  obtain ⟨i, p', i0, i1, e⟩ := draw2 p (n := 4) (by decide) (by decide)
  refine ⟨p', ?_⟩
  rw [← draw_eq] at e
  obtain ⟨x, hx, ex⟩ := atI_some (xs := spots z) i0 (by have : (spots z).length = 4 := rfl; omega)
  obtain ⟨q, hq, rfl⟩ := List.mem_map.mp hx
  have hf := ks_fok hz q hq
  have it : itemT (.lst (spots z)) (.int i) = some (.fz (spot q)) := by show (L2.atI (spots z) i).map Rv.fz = _; rw [ex]; rfl
  have l3 : (3 ≤ sizeLine) = True := eq_true (by decide)
  have rf := refused_t hf.k.gd.okP hb.w hf.k.pl hb.n hb.g.oks
  have rp : reprT t = some (.fz (rsh t)) := hb.g.oks
  have ne : neT (.lst [.str "thing", rsh t, .bl true]) (.lst [.str "thing", rsh t, .bl true]) = some false := ne_three _ _
  simp only [tB, seqS_ap, seq_nx, seq_rt, nilS_ap, exprS_ap, so_ok, ifS_ap, so_if, retS_ap, dropS_ap, opS_some, asgS_ap, asK_ow, asK_fz, asK_bo, asgGS_ap, bind_ap, obind_ok, pure_ap, of_ap, frzE_ap, hldE_ap, fzE_ap, frz_fz, frz_ow, frz_bo, hld_fz, hld_ow, hld_bo, pk_fz, opM_ap, cmpM_ap, chainM_ap, notM_ap, andM_ap, orM_ap, ite_ap, iteS_ap, truM_ap, ifM_ap, consM_ap, lstM_ap, tupM_ap, callM_ap, call1M_ap, itemM_ap, sliceM_ap, arCons_ap, endM_ap, rdS, pk, stT, stO, chO, List.getElem?_cons_zero, List.getElem?_cons_succ, List.set_cons_zero, List.set_cons_succ, arIo_ap, List.map_nil, List.append_nil, List.length_cons, List.length_nil, Nat.zero_add, Nat.reduceAdd, l3, if_true, e, it, rf, rp, ne, Bool.false_eq_true, if_false]
theorem loop_t {z : Nms} (hz : NmsOk z) (S K N V s a b c d at_ md ot : Sl) (ts : List T) (h : ∀ t ∈ ts, Bad t) : ∀ (p : Int × Int) (t0 : T), ∃ p' t', loopS (stT 7) tB ts [S, K, .ow (pl p), N, V, .fz (.lst (spots z)), s, .fz t0, a, b, c, d, at_, md, ot] = .nx [S, K, .ow (pl p'), N, V, .fz (.lst (spots z)), s, .fz t', a, b, c, d, at_, md, ot] := by
  induction ts with
  | nil => exact fun p t0 => ⟨p, t0, rfl⟩
  | cons t ts ih =>
    intro p t0
    obtain ⟨p1, e1⟩ := tB_ok hz (w := 0) p t (h t List.mem_cons_self) S K N V s a b c d at_ md ot
    obtain ⟨p2, t2, e2⟩ := ih (fun u hu => h u (List.mem_cons_of_mem _ hu)) p1 t
    exact ⟨p2, t2, by rw [loop_step rfl e1, e2]⟩
def Sh (r : Ev.Env) : Prop := r = List.replicate 13 .un ∨ ∃ (P : T) (t3 t4 t5 t6 t7 t8 t9 ta tb tc td te : T), r = [.ow P, .fz t3, .fz t4, .fz t5, .fz t6, .fz t7, .fz t8, .fz t9, .fz ta, .fz tb, .fz tc, .fz td, .fz te]
theorem pre_ok {ns : List Int} {k : Int} (hk : 0 ≤ k) (hk2 : k < 2 ^ 62) {r : Ev.Env} (hr : Sh r) : ∃ (z : Nms) (w : Int) (p : Int × Int) (s6 s7 s12 md ot : Sl), NmsOk z ∧ W w ∧ SlF s6 ∧ SlF s7 ∧ SlF s12 ∧ SlF md ∧ SlF ot ∧
    (seqS oB1 (seqS oB2 (seqS oB3 (seqS oB4 oB5)))) (.fz (scr ns) :: .fz (.int k) :: r) = .nx [.fz (scr ns), .fz (.int k), .ow (pl p), .fz (.lst [.str z.a, .str z.b, .str z.c, .str z.d]), .fz (.int w), .ow (.lst (spots z)), s6, s7, .fz (.str z.a), .fz (.str z.b), .fz (.str z.c), .fz (.str z.d), s12, md, ot] := by
  obtain ⟨p, ce, ep⟩ := pool_ok (ns := ns) hk hk2
  have cp : ∀ env : Ev.Env, callA 2 d_ulaw_pool 5 [.fz (scr ns), .fz (.int k)] env = .ok (.ow (pl p)) env := fun env => call_ow (ts := [scr ns, .int k]) rfl ep
  obtain ⟨n1, n2, n3, n4, p1, h1, h2, h3, h4, h5, en⟩ := names_call p
  obtain ⟨i, p2, i0, i1, ed⟩ := draw2 p1 (n := 1000000000) (by decide) (by decide)
  rw [← draw_eq] at ed
  have l4 : ∀ x y u v : T, ([x, y, u, v].length = 4) = True := fun _ _ _ _ => eq_true rfl
  have s4 : (4 ≤ sizeLine) = True := eq_true (by decide)
  have s3 : (3 ≤ sizeLine) = True := eq_true (by decide)
  have sp : spots ⟨n1, n2, n3, n4⟩ = [.tup [.str "name", .str n1, .str n2], .tup [.str "member", .str n1, .str n2], .tup [.str "spread", .str n1, .str n2, .str n3], .tup [.str "name", .str n2, .str n2]] := rfl
  have un : SlF .un := .inl rfl
  have fz : ∀ t : T, SlF (.fz t) := fun t => .inr ⟨t, rfl⟩
  have hw : W (1 + i) := ⟨by omega, by omega⟩
  rcases hr with rfl | ⟨P, t3, t4, t5, t6, t7, t8, t9, ta, tb, tc, td, te, rfl⟩
  · refine ⟨⟨n1, n2, n3, n4⟩, 1 + i, p2, .un, .un, .un, .un, .un, ⟨h1, h2, h3, h4, h5⟩, hw, un, un, un, un, un, ?_⟩
    have rep : List.replicate 13 Sl.un = [.un, .un, .un, .un, .un, .un, .un, .un, .un, .un, .un, .un, .un] := rfl
    simp only [rep, oB1, oB2, oB3, oB4, oB5, seqS_ap, seq_nx, seq_rt, nilS_ap, exprS_ap, so_ok, ifS_ap, so_if, retS_ap, dropS_ap, opS_some, asgS_ap, asK_ow, asK_fz, asK_bo, asgGS_ap, bind_ap, obind_ok, pure_ap, of_ap, frzE_ap, hldE_ap, fzE_ap, frz_fz, frz_ow, frz_bo, hld_fz, hld_ow, hld_bo, pk_fz, opM_ap, cmpM_ap, chainM_ap, notM_ap, andM_ap, orM_ap, ite_ap, iteS_ap, truM_ap, ifM_ap, consM_ap, lstM_ap, tupM_ap, callM_ap, call1M_ap, itemM_ap, sliceM_ap, arCons_ap, endM_ap, rdS, pk, stT, stO, chO, List.getElem?_cons_zero, List.getElem?_cons_succ, List.set_cons_zero, List.set_cons_succ, arIo_ap, List.map_nil, List.append_nil, cp, en, tgSeq, l4, if_true, tgCons, tgNil, Option.bind_some, p9, ed, add_n, List.length_cons, List.length_nil, Nat.zero_add, Nat.reduceAdd, s4, s3, sp]
  · refine ⟨⟨n1, n2, n3, n4⟩, 1 + i, p2, .fz t6, .fz t7, .fz tc, .fz td, .fz te, ⟨h1, h2, h3, h4, h5⟩, hw, fz _, fz _, fz _, fz _, fz _, ?_⟩
    simp only [oB1, oB2, oB3, oB4, oB5, seqS_ap, seq_nx, seq_rt, nilS_ap, exprS_ap, so_ok, ifS_ap, so_if, retS_ap, dropS_ap, opS_some, asgS_ap, asK_ow, asK_fz, asK_bo, asgGS_ap, bind_ap, obind_ok, pure_ap, of_ap, frzE_ap, hldE_ap, fzE_ap, frz_fz, frz_ow, frz_bo, hld_fz, hld_ow, hld_bo, pk_fz, opM_ap, cmpM_ap, chainM_ap, notM_ap, andM_ap, orM_ap, ite_ap, iteS_ap, truM_ap, ifM_ap, consM_ap, lstM_ap, tupM_ap, callM_ap, call1M_ap, itemM_ap, sliceM_ap, arCons_ap, endM_ap, rdS, pk, stT, stO, chO, List.getElem?_cons_zero, List.getElem?_cons_succ, List.set_cons_zero, List.set_cons_succ, arIo_ap, List.map_nil, List.append_nil, cp, en, tgSeq, l4, if_true, tgCons, tgNil, Option.bind_some, p9, ed, add_n, List.length_cons, List.length_nil, Nat.zero_add, Nat.reduceAdd, s4, s3, sp]
theorem seq_as (a b c d e g : SM) (env : Ev.Env) : seqS a (seqS b (seqS c (seqS d (seqS e g)))) env = seqS (seqS a (seqS b (seqS c (seqS d e)))) g env := by
  unfold seqS
  cases a env with
  | nx e1 =>
    simp only
    cases b e1 with
    | nx e2 =>
      simp only
      cases c e2 with
      | nx e3 =>
        simp only
        cases d e3 <;> rfl
      | _ => rfl
    | _ => rfl
  | _ => rfl
theorem turn_ok {ns : List Int} {k : Int} (hk : 0 ≤ k) (hk2 : k < 2 ^ 62) {r : Ev.Env} (hr : Sh r) : ∃ r', Sh r' ∧ oBs (.fz (scr ns) :: .fz (.int k) :: r) = .nx (.fz (scr ns) :: .fz (.int k) :: r') := by
  obtain ⟨z, w, p, s6, s7, s12, md, ot, hz, hw, f6, f7, f12, fm, fo, e⟩ := pre_ok (ns := ns) hk hk2 hr
  obtain ⟨p1, t, u, v, e1⟩ := loop_e hz hw p (.fz (scr ns)) (.fz (.int k)) (.fz (.lst [.str z.a, .str z.b, .str z.c, .str z.d])) s6 s7 (.fz (.str z.a)) (.fz (.str z.b)) (.fz (.str z.c)) (.fz (.str z.d)) s12 md ot f6 f12 f7 fm fo
  obtain ⟨p2, u2, e2⟩ := loop_p hz w (.fz (scr ns)) (.fz (.int k)) (.fz (.lst [.str z.a, .str z.b, .str z.c, .str z.d])) (.fz (.lst (spots z))) (.fz t) (.fz (.str z.a)) (.fz (.str z.b)) (.fz (.str z.c)) (.fz (.str z.d)) (.fz (.int 3)) (.fz v) (.fz (.int 3)) (oddL z.a z.b z.c z.d) (fun x hx => ⟨odd_no hz.a x hx, odd_gd hz.a hz.b hz.c hz.d x hx⟩) p1 u
  obtain ⟨p3, t3, e3⟩ := loop_t hz (.fz (scr ns)) (.fz (.int k)) (.fz (.lst [.str z.a, .str z.b, .str z.c, .str z.d])) (.fz (.int w)) (.fz u2) (.fz (.str z.a)) (.fz (.str z.b)) (.fz (.str z.c)) (.fz (.str z.d)) (.fz (.int 3)) (.fz v) (.fz (.int 3)) (bads w) (bads_bad hw) p2 t
  have od := odd_call z.a z.b z.c z.d
  have b7 : ∀ (a b c : Sl) (r : Ev.Env), oB7 (a :: b :: c :: .fz (.lst [.str z.a, .str z.b, .str z.c, .str z.d]) :: r) = loopS (stT 6) pB (oddL z.a z.b z.c z.d) (a :: b :: c :: .fz (.lst [.str z.a, .str z.b, .str z.c, .str z.d]) :: r) := by
    intros
    simp only [oB7, forS, seqS_ap, seq_nx, seq_rt, nilS_ap, exprS_ap, so_ok, ifS_ap, so_if, retS_ap, dropS_ap, opS_some, asgS_ap, asK_ow, asK_fz, asK_bo, asgGS_ap, bind_ap, obind_ok, pure_ap, of_ap, frzE_ap, hldE_ap, fzE_ap, frz_fz, frz_ow, frz_bo, hld_fz, hld_ow, hld_bo, pk_fz, opM_ap, cmpM_ap, chainM_ap, notM_ap, andM_ap, orM_ap, ite_ap, iteS_ap, truM_ap, ifM_ap, consM_ap, lstM_ap, tupM_ap, callM_ap, call1M_ap, itemM_ap, sliceM_ap, arCons_ap, endM_ap, rdS, pk, stT, stO, chO, List.getElem?_cons_zero, List.getElem?_cons_succ, List.set_cons_zero, List.set_cons_succ, List.map_nil, List.append_nil, od, seqT]
  have s1 : (1 ≤ sizeLine) = True := eq_true (by decide)
  have s8 : (8 ≤ sizeLine) = True := eq_true (by decide)
  have b8 : ∀ (a b c d : Sl) (r : Ev.Env), oB8 (a :: b :: c :: d :: .fz (.int w) :: r) = loopS (stT 7) tB (bads w) (a :: b :: c :: d :: .fz (.int w) :: r) := by
    intros
    simp only [oB8, forS, seqS_ap, seq_nx, seq_rt, nilS_ap, exprS_ap, so_ok, ifS_ap, so_if, retS_ap, dropS_ap, opS_some, asgS_ap, asK_ow, asK_fz, asK_bo, asgGS_ap, bind_ap, obind_ok, pure_ap, of_ap, frzE_ap, hldE_ap, fzE_ap, frz_fz, frz_ow, frz_bo, hld_fz, hld_ow, hld_bo, pk_fz, opM_ap, cmpM_ap, chainM_ap, notM_ap, andM_ap, orM_ap, ite_ap, iteS_ap, truM_ap, ifM_ap, consM_ap, lstM_ap, tupM_ap, callM_ap, call1M_ap, itemM_ap, sliceM_ap, arCons_ap, endM_ap, rdS, pk, stT, stO, chO, List.getElem?_cons_zero, List.getElem?_cons_succ, List.set_cons_zero, List.set_cons_succ, p9, add_n, Int.reduceAdd, negT, List.length_cons, List.length_nil, Nat.zero_add, Nat.reduceAdd, s1, s8, if_true, seqT, bads]
  refine ⟨_, .inr ⟨pl p3, .lst [.str z.a, .str z.b, .str z.c, .str z.d], .int w, .lst (spots z), u2, t3, .str z.a, .str z.b, .str z.c, .str z.d, .int 3, v, .int 3, rfl⟩, ?_⟩
  unfold oBs
  rw [seq_as, seqS_ap, e, seq_nx, seqS_ap, e1, seq_nx, seqS_ap, b7, e2, seq_nx, b8, e3]
theorem turns {ns : List Int} (ks : List Int) (hk : ∀ k ∈ ks, 0 ≤ k ∧ k < 2 ^ 62) : ∀ (x : T) (r : Ev.Env), Sh r → ∃ e, loopS (stT 1) oBs (ks.map T.int) (.fz (scr ns) :: .fz x :: r) = .nx e := by
  induction ks with
  | nil => exact fun x r h => ⟨_, rfl⟩
  | cons k ks ih =>
    intro x r h
    obtain ⟨h1, h2⟩ := hk k List.mem_cons_self
    obtain ⟨r', hr', e⟩ := turn_ok (ns := ns) h1 h2 h
    obtain ⟨e', e2⟩ := ih (fun j hj => hk j (List.mem_cons_of_mem _ hj)) (.int k) r' hr'
    exact ⟨e', by rw [List.map_cons, loop_step rfl e, e2]⟩
theorem turns_u {ns : List Int} (ks : List Int) (hk : ∀ k ∈ ks, 0 ≤ k ∧ k < 2 ^ 62) : ∃ e, loopS (stT 1) oBs (ks.map T.int) (.fz (scr ns) :: .un :: List.replicate 13 .un) = .nx e := by
  cases ks with
  | nil => exact ⟨_, rfl⟩
  | cons k ks =>
    obtain ⟨h1, h2⟩ := hk k List.mem_cons_self
    obtain ⟨r', hr', e⟩ := turn_ok (ns := ns) h1 h2 (.inl rfl)
    obtain ⟨e', e2⟩ := turns (ns := ns) ks (fun j hj => hk j (List.mem_cons_of_mem _ hj)) (.int k) r' hr'
    exact ⟨e', by rw [List.map_cons, loop_step rfl e, e2]⟩
theorem pure_law : ∀ ns : List Int, ns.length ≤ 63 → True_ (d_law (.fz (scr ns) :: List.replicate (15 - 1) .un)) := by
  intro ns hns
  have hmm : ∃ m : Int, 0 ≤ m ∧ m < 2 ^ 62 ∧ (if (if (6 : Int) < (ns.length : Int) then 6 else (ns.length : Int)) > 1 then (if (6 : Int) < (ns.length : Int) then 6 else (ns.length : Int)) else 1) = m := ⟨_, by split <;> (try split) <;> omega, by split <;> (try split) <;> omega, rfl⟩
  obtain ⟨m, m0, m1, hm⟩ := hmm
  have hr : rng1 [.int m] = some (((List.range m.toNat).map fun i => (0 + (i : Nat) : Int)).map T.int) := by
    show (if _ then _ else _) = _
    rw [if_pos ⟨by omega, by omega⟩, ups, List.map_map]
    rfl
  obtain ⟨e', e2⟩ := turns_u (ns := ns) ((List.range m.toNat).map fun i => (0 + (i : Nat) : Int)) (by
    intro k hk
    obtain ⟨i, hi, rfl⟩ := List.mem_map.mp hk
    have := List.mem_range.mp hi
    omega)
  have rep : (Sl.fz (scr ns) :: List.replicate (15 - 1) Sl.un) = .fz (scr ns) :: .un :: List.replicate 13 .un := rfl
  refine ⟨e', ?_⟩
  have it : ∀ B : SM, forS (M.bind (consM (frzE (callM maxT (consM (M.pure (.int 1)) (consM (frzE (callM minT (consM (frzE (call1M lenT (hldE (rdS 0)))) (consM (M.pure (.int 6)) (M.pure []))))) (M.pure []))))) (M.pure [])) fun ts => M.of (rng1 ts)) (stT 1) B (.fz (scr ns) :: .un :: List.replicate 13 .un) = loopS (stT 1) B (((List.range m.toNat).map fun i => (0 + (i : Nat) : Int)).map T.int) (.fz (scr ns) :: .un :: List.replicate 13 .un) := by
    intro B
    simp only [forS, seqS_ap, seq_nx, seq_rt, nilS_ap, exprS_ap, so_ok, ifS_ap, so_if, retS_ap, dropS_ap, opS_some, asgS_ap, asK_ow, asK_fz, asK_bo, asgGS_ap, bind_ap, obind_ok, pure_ap, of_ap, frzE_ap, hldE_ap, fzE_ap, frz_fz, frz_ow, frz_bo, hld_fz, hld_ow, hld_bo, pk_fz, opM_ap, cmpM_ap, chainM_ap, notM_ap, andM_ap, orM_ap, ite_ap, iteS_ap, truM_ap, ifM_ap, consM_ap, lstM_ap, tupM_ap, callM_ap, call1M_ap, itemM_ap, sliceM_ap, arCons_ap, endM_ap, rdS, pk, stT, stO, chO, List.getElem?_cons_zero, List.getElem?_cons_succ, List.set_cons_zero, List.set_cons_succ, lenT, List.length_map, scr, minT, maxT, hm, hr]
  rw [law_eq, rep, seqS_ap, it, e2, seq_nx]
  simp only [seqS_ap, seq_nx, seq_rt, nilS_ap, exprS_ap, so_ok, ifS_ap, so_if, retS_ap, dropS_ap, opS_some, asgS_ap, asK_ow, asK_fz, asK_bo, asgGS_ap, bind_ap, obind_ok, pure_ap, of_ap, frzE_ap, hldE_ap, fzE_ap, frz_fz, frz_ow, frz_bo, hld_fz, hld_ow, hld_bo, pk_fz, opM_ap, cmpM_ap, chainM_ap, notM_ap, andM_ap, orM_ap, ite_ap, iteS_ap, truM_ap, ifM_ap, consM_ap, lstM_ap, tupM_ap, callM_ap, call1M_ap, itemM_ap, sliceM_ap, arCons_ap, endM_ap, rdS, pk, stT, stO, chO, List.getElem?_cons_zero, List.getElem?_cons_succ, List.set_cons_zero, List.set_cons_succ]
end K03
namespace K03
open PySem PySem.Spec L2 Ev
abbrev R : PySem.W.OpenRow := PySem.W.OpenLaw.row PySem.Challenge.rw_addednames_k03_additions
abbrev hk : PySem.W.Hook := Ev.hookX 4 fal fnl exB
def ob (s : PySem.W.SharedT) : Bool × He.AlD := Ev.obX 4 fal fnl exB (HandSHeadRun.getT s)
theorem ob_eq (s : PySem.W.SharedT) : ob s = hk.obs s.abs := Ev.obX_eq (HandSHeadRun.getT_eq s)
abbrev lo : List Str := ["NamesError", "BadPlace", "BadThing", "MOST_LETTERS", "LAST_THING", "is_name", "is_thing", "is_integer", "is_word", "is_place", "Addition", "_law_pool", "_law_draw", "_law_pick", "_law_names", "_law_by_name", "_law_refused", "_law_odd_places"]
theorem run (w : World) : HandSHeadRun.RunEq R (PySem.W.view R.prog [22]) hk ob 2000 lo w := by
  intro os
  kernel_rfl
theorem facts {P : Program} {w : World} {K : PySem.W.Frag} {h : Heap} {mg : Str → Option Value} {f : Addr} (X : K.In h) (G : h.Ns mainGlobals mg) (hfa : mg ("law" : Str) = some (.ref f)) (c : He.SaysD fal fnl K) (xb : exB K = true) :
    ∃ (ca : Nat → Addr) (fd : FuncData), (∀ (s : Shared) (v : Value), BindsTo s fd ⟨[v], []⟩ [("_law_script", v)]) ∧ ∀ base : Heap, K.In base → base.Ns mainGlobals mg → FnT P w K mg base ca 6 f fd ["_law_script"] 15 d_law := by
  have F0 := fx X G c xb
  obtain ⟨fd, F⟩ := c.def_ 14 (d := D_law) rfl
  have e := hfa.symm.trans F0.g_law
  cases e
  have b := FunD.bindsA (ps := ["_law_script"]) F fun _ _ _ _ _ _ us hl => match us, hl with | [_], _ => rfl
  refine ⟨caOf K, fd, fun s v => b s [v] rfl, fun base _ _ => ?_⟩
  exact (fnq_law F0 c F)
end K03
open PySem PySem.W PySem.Calls PyProof.Rows
theorem PySem.Challenge.cw_addednames_k03_additions_holds : PySem.Challenge.rw_addednames_k03_additions.Holds := by
  w_on; o_law
  refine HandSHeadRun.head_any (r := OpenLaw.row PySem.Challenge.rw_addednames_k03_additions) (q := view (OpenLaw.row PySem.Challenge.rw_addednames_k03_additions).prog [22]) (H := K03.hk) (ob := K03.ob) (M := 2000) (loose := K03.lo) (d := HandSHeadRun.topDef (OpenLaw.row PySem.Challenge.rw_addednames_k03_additions).prog 22) (kwd := []) K03.ob_eq
    (by kernel_rfl) (fun s => by kernel_rfl) K03.run (by kernel_rfl) (by kernel_rfl) (by kernel_rfl) (by rfl) (by first | assumption | decide +kernel) (by decide +kernel) ⟨rfl, rfl, rfl, rfl, rfl, by decide +kernel⟩ ?hw ?hc
  case hw => w_witness2
  case hc =>
    refine Ev.law_walk (l := PySem.Challenge.rw_addednames_k03_additions) (n := 63) (k := 6) (m := 15) (x := "_law_script") (d := K03.d_law) rfl (by decide) (by kernel_rfl) ⟨rfl, by decide, by decide⟩ (by decide) ?F K03.pure_law
    intro w mg fa h Y G hmg0
    obtain ⟨K, KX, c, xb⟩ := Y
    have hmg : mg ("law" : PySem.Str) = some (.ref fa) := by
      have e : (HandSHeadRun.topDef (OpenLaw.row PySem.Challenge.rw_addednames_k03_additions).prog 22).name = ("law" : PySem.Str) := by kernel_rfl
      rw [← e]
      exact hmg0
    obtain ⟨ca, fd, hb, hF⟩ := K03.facts (P := (PySem.Challenge.rw_addednames_k03_additions).prog) (w := w) KX G hmg c xb
    exact ⟨K, ca, fd, KX, hb, hF⟩
