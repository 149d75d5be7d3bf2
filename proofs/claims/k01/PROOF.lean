import PyProof.Rows.All
import Wide.All
import OpenK.AllK
import Wide.FinOn
import HandS.ForMost
import HandS.Exc
import HandS.ExcInit
import HandS.Walk
import KE.DataEq
import HandS.IsInst
import HandS.Style
import HandS.Wide
import HandS.TupAny
import HandS.RaiseMore
import HandS.Iter
import HandS.Comp
import HandS.Defaults
import HandS.HeadEnd
import HandS.WordsExc
import HandS.NoneIn
import HandS.Text
import HandS.TryMany
import HandS.ExcField
import HandS.Head0
import HandS.Head1
import HandS.Head2
import HandS.HeadHook1
import HandS.HeadHook2
import KE.KExcIs
import PyProof.CollectIter
import PyProof.WalksMore
import PyProof.MakeMany
import HandS.MakeKwOnly
import HandS.Property
import HandS.More
import HandS.HeadHook3
import HandS.DictComp
import OpenK.KMeth
import HandS.ClsMeth
import HandS.SortInts
import HandS.OwnEq
import OpenK.KOps
import HandS.Star
import PySem.Challenge.RW_addednames_k01_errors
set_option Elab.async false
set_option linter.all false
set_option maxRecDepth 100000
set_option maxHeartbeats 4000000
/-! Ev0: values as trees, what an address holds as a tree, states, outcomes. -/
namespace Ev
open PySem PySem.Spec L2

/-- a value with all that hangs on it -/
inductive T where
  | non | bl (b : Bool) | int (i : Int) | str (s : Str)
  | tup (ts : List T) | lst (ts : List T)
  | dK (kvs : List (Key × T)) | dT (kvs : List (List Key × T))
  | ins (c : Nat) (fs : List (Str × T))
  | exc (c : Nat) (fs : List (Str × T))
  deriving Inhabited

/-- the written part, and where the classes stand -/
structure Gr where
  K : PySem.W.Frag
  ca : Nat → Addr

/-- a list: tracked, known, or an object of the written part -/
def LstAt (K : PySem.W.Frag) (F : Hp) (a : Addr) (xs : List V) : Prop :=
  Rd F a (.lst xs) ∨ ∃ (its : List Value) (n : Nat), K.lookup a = some { cls := .type "list", data := .seq its.toArray n } ∧ its.length ≤ sizeLine ∧ Vals xs its
theorem LstAt.sq {K : PySem.W.Frag} {F : Hp} {a : Addr} {xs : List V} (h : LstAt K F a xs) : SqL K F a xs := by
  rcases h with h | ⟨its, n, h1, h2, h3⟩
  · exact .inl h
  · exact .inr ⟨_, its.toArray, n, h1, rfl, rfl, rfl, by simpa using h2, by simpa using h3⟩
theorem LstAt.obj {X : Cx} {pins : List (Addr × Obj)} {σ : L2.St} {H : Hp} {s : Shared} {a : Addr} {xs : List V} (I : Inv X pins σ H s) (h : LstAt X.K H a xs) :
    ∃ (its : List Value) (n : Nat), Vals xs its ∧ s.heap.get? a = some { cls := .type "list", data := .seq its.toArray n } := by
  rcases h with h | ⟨its, n, h1, h2, h3⟩
  · obtain ⟨_, its, n, r, e⟩ := h.ok I.hok
    exact ⟨its, n, r, e⟩
  · exact ⟨its, n, h3, I.kIn _ _ h1⟩
/-- an exception of the class at C, held as a value, with its fields -/
def ExAt (F : Hp) (C a : Addr) (vs : List (Str × V)) : Prop := (vs = [] ∧ F a = some (exo a C none)) ∨ ∃ d, F a = some (exo a C (some d)) ∧ F d = some (exd d vs)
mutual
def Rep (G : Gr) (F : Hp) : T → V → Prop
  | .non, x => x = .non
  | .bl b, x => x = .bl b
  | .int i, x => x = .int i
  | .str s, x => x = .str s
  | .tup ts, x => ∃ a xs, x = .ref a ∧ SqT G.K F a xs ∧ RepL G F ts xs
  | .lst ts, x => ∃ a xs, x = .ref a ∧ LstAt G.K F a xs ∧ RepL G F ts xs
  | .dK kvs, x => ∃ a vs, x = .ref a ∧ F a = some (.dK vs) ∧ RepK G F kvs vs
  | .dT kvs, x => ∃ a vs, x = .ref a ∧ F a = some (.dT vs) ∧ RepD G F kvs vs
  | .ins c fs, x => ∃ a dx vs, x = .ref a ∧ F a = some (.ins (G.ca c) dx vs) ∧ RepF G F fs vs
  | .exc c fs, x => ∃ a vs, x = .ref a ∧ ExAt F (G.ca c) a vs ∧ RepF G F fs vs
def RepL (G : Gr) (F : Hp) : List T → List V → Prop
  | [], xs => xs = []
  | t :: ts, xs => ∃ x r, xs = x :: r ∧ Rep G F t x ∧ RepL G F ts r
def RepK (G : Gr) (F : Hp) : List (Key × T) → List (Key × V) → Prop
  | [], xs => xs = []
  | (k, t) :: ts, xs => ∃ x r, xs = (k, x) :: r ∧ Rep G F t x ∧ RepK G F ts r
def RepD (G : Gr) (F : Hp) : List (List Key × T) → List (List Key × V) → Prop
  | [], xs => xs = []
  | (k, t) :: ts, xs => ∃ x r, xs = (k, x) :: r ∧ Rep G F t x ∧ RepD G F ts r
def RepF (G : Gr) (F : Hp) : List (Str × T) → List (Str × V) → Prop
  | [], xs => xs = []
  | (k, t) :: ts, xs => ∃ x r, xs = (k, x) :: r ∧ Rep G F t x ∧ RepF G F ts r
end

/-- a heap that knows more -/
def Le (F F' : Hp) : Prop := ∀ a o, F a = some o → F' a = some o
theorem Le.rfl {F : Hp} : Le F F := fun _ _ h => h
theorem Le.trans {F F' F'' : Hp} (h : Le F F') (h' : Le F' F'') : Le F F'' := fun a o e => h' a o (h a o e)
theorem Le.upd {F : Hp} {a : Addr} {o : HO} (h : F a = none) : Le F (upd F a o) := fun b u e => by rw [upd_ne (ne_of_none e h)]; exact e
theorem Le.ne {F F' : Hp} {a : Addr} (h : Le F F') (n : F a ≠ none) : F' a ≠ none := by
  cases e : F a with
  | none => exact absurd e n
  | some o => rw [h _ _ e]; exact fun z => nomatch z
theorem Le.sqT {K : PySem.W.Frag} {F F' : Hp} {a : Addr} {xs : List V} (h : Le F F') (q : SqT K F a xs) : SqT K F' a xs := by
  rcases q with (q | ⟨o, q⟩) | q
  · exact .inl (.inl (h _ _ q))
  · exact .inl (.inr ⟨o, h _ _ q⟩)
  · exact .inr q
theorem Le.rd {F F' : Hp} {a : Addr} {u : HO} (h : Le F F') (q : Rd F a u) : Rd F' a u := by
  rcases q with q | ⟨o, q⟩
  · exact .inl (h _ _ q)
  · exact .inr ⟨o, h _ _ q⟩

theorem Le.exAt {F F' : Hp} {C a : Addr} {vs : List (Str × V)} (h : Le F F') (q : ExAt F C a vs) : ExAt F' C a vs := by
  rcases q with ⟨e, q⟩ | ⟨d, q, r⟩
  · exact .inl ⟨e, h _ _ q⟩
  · exact .inr ⟨d, h _ _ q, h _ _ r⟩
theorem Le.lstAt {K : PySem.W.Frag} {F F' : Hp} {a : Addr} {xs : List V} (h : Le F F') (q : LstAt K F a xs) : LstAt K F' a xs := by
  rcases q with q | q
  · exact .inl (h.rd q)
  · exact .inr q
mutual
theorem Rep.mono {G : Gr} {F F' : Hp} (h : Le F F') : ∀ (t : T) {x : V}, Rep G F t x → Rep G F' t x
  | .non, _, r => by simpa only [Rep] using r
  | .bl _, _, r => by simpa only [Rep] using r
  | .int _, _, r => by simpa only [Rep] using r
  | .str _, _, r => by simpa only [Rep] using r
  | .tup ts, _, r => by
    simp only [Rep] at r ⊢
    obtain ⟨a, xs, e, q, l⟩ := r
    exact ⟨a, xs, e, h.sqT q, RepL.mono h ts l⟩
  | .lst ts, _, r => by
    simp only [Rep] at r ⊢
    obtain ⟨a, xs, e, q, l⟩ := r
    exact ⟨a, xs, e, h.lstAt q, RepL.mono h ts l⟩
  | .dK ts, _, r => by
    simp only [Rep] at r ⊢
    obtain ⟨a, xs, e, q, l⟩ := r
    exact ⟨a, xs, e, h _ _ q, RepK.mono h ts l⟩
  | .dT ts, _, r => by
    simp only [Rep] at r ⊢
    obtain ⟨a, xs, e, q, l⟩ := r
    exact ⟨a, xs, e, h _ _ q, RepD.mono h ts l⟩
  | .ins c ts, _, r => by
    simp only [Rep] at r ⊢
    obtain ⟨a, dx, xs, e, q, l⟩ := r
    exact ⟨a, dx, xs, e, h _ _ q, RepF.mono h ts l⟩
  | .exc c ts, _, r => by
    simp only [Rep] at r ⊢
    obtain ⟨a, xs, e, q, l⟩ := r
    exact ⟨a, xs, e, h.exAt q, RepF.mono h ts l⟩
theorem RepL.mono {G : Gr} {F F' : Hp} (h : Le F F') : ∀ (ts : List T) {xs : List V}, RepL G F ts xs → RepL G F' ts xs
  | [], _, r => by simpa only [RepL] using r
  | t :: ts, _, r => by
    simp only [RepL] at r ⊢
    obtain ⟨x, r, e, q, l⟩ := r
    exact ⟨x, r, e, Rep.mono h t q, RepL.mono h ts l⟩
theorem RepK.mono {G : Gr} {F F' : Hp} (h : Le F F') : ∀ (ts : List (Key × T)) {xs : List (Key × V)}, RepK G F ts xs → RepK G F' ts xs
  | [], _, r => by simpa only [RepK] using r
  | (k, t) :: ts, _, r => by
    simp only [RepK] at r ⊢
    obtain ⟨x, r, e, q, l⟩ := r
    exact ⟨x, r, e, Rep.mono h t q, RepK.mono h ts l⟩
theorem RepD.mono {G : Gr} {F F' : Hp} (h : Le F F') : ∀ (ts : List (List Key × T)) {xs : List (List Key × V)}, RepD G F ts xs → RepD G F' ts xs
  | [], _, r => by simpa only [RepD] using r
  | (k, t) :: ts, _, r => by
    simp only [RepD] at r ⊢
    obtain ⟨x, r, e, q, l⟩ := r
    exact ⟨x, r, e, Rep.mono h t q, RepD.mono h ts l⟩
theorem RepF.mono {G : Gr} {F F' : Hp} (h : Le F F') : ∀ (ts : List (Str × T)) {xs : List (Str × V)}, RepF G F ts xs → RepF G F' ts xs
  | [], _, r => by simpa only [RepF] using r
  | (k, t) :: ts, _, r => by
    simp only [RepF] at r ⊢
    obtain ⟨x, r, e, q, l⟩ := r
    exact ⟨x, r, e, Rep.mono h t q, RepF.mono h ts l⟩
end

section
variable {G : Gr} {F : Hp} {t : T} {ts us : List T} {x : V} {xs ys : List V}
theorem RepL.nil : RepL G F [] [] := by simp only [RepL]
theorem RepL.cons (h : Rep G F t x) (r : RepL G F ts xs) : RepL G F (t :: ts) (x :: xs) := by simp only [RepL]; exact ⟨x, xs, rfl, h, r⟩
theorem RepL.uncons (h : RepL G F (t :: ts) xs) : ∃ x r, xs = x :: r ∧ Rep G F t x ∧ RepL G F ts r := by simpa only [RepL] using h
theorem RepL.unnil (h : RepL G F [] xs) : xs = [] := by simpa only [RepL] using h
theorem RepL.length : ∀ {ts : List T} {xs : List V}, RepL G F ts xs → xs.length = ts.length
  | [], xs, h => by rw [h.unnil]; rfl
  | t :: ts, xs, h => by
    obtain ⟨x, r, e, _, q⟩ := h.uncons
    subst e
    simp [RepL.length q]
theorem RepL.append : ∀ {ts : List T} {xs : List V}, RepL G F ts xs → RepL G F us ys → RepL G F (ts ++ us) (xs ++ ys)
  | [], xs, h, q => by rw [h.unnil]; exact q
  | t :: ts, xs, h, q => by
    obtain ⟨x, r, e, h1, h2⟩ := h.uncons
    subst e
    exact .cons h1 (RepL.append h2 q)
theorem RepL.get : ∀ {ts : List T} {xs : List V} {i : Nat} {t : T}, RepL G F ts xs → ts[i]? = some t → ∃ x, xs[i]? = some x ∧ Rep G F t x
  | [], _, _, _, _, e => by simp at e
  | t :: ts, xs, 0, u, h, e => by
    obtain ⟨x, r, e1, h1, h2⟩ := h.uncons
    subst e1
    simp at e
    subst e
    exact ⟨x, rfl, h1⟩
  | t :: ts, xs, i + 1, u, h, e => by
    obtain ⟨x, r, e1, h1, h2⟩ := h.uncons
    subst e1
    simpa using RepL.get (i := i) h2 (by simpa using e)
theorem RepL.getV : ∀ {ts : List T} {xs : List V} {i : Nat} {x : V}, RepL G F ts xs → xs[i]? = some x → ∃ t, ts[i]? = some t ∧ Rep G F t x
  | [], xs, i, x, h, e => by rw [h.unnil] at e; simp at e
  | t :: ts, xs, 0, u, h, e => by
    obtain ⟨x, r, e1, h1, h2⟩ := h.uncons
    subst e1
    simp at e
    subst e
    exact ⟨t, rfl, h1⟩
  | t :: ts, xs, i + 1, u, h, e => by
    obtain ⟨x, r, e1, h1, h2⟩ := h.uncons
    subst e1
    simpa using RepL.getV (i := i) h2 (by simpa using e)
theorem RepL.set : ∀ {ts : List T} {xs : List V} (i : Nat), RepL G F ts xs → Rep G F t x → RepL G F (ts.set i t) (xs.set i x)
  | [], xs, i, h, q => by rw [h.unnil]; exact .nil
  | t :: ts, xs, 0, h, q => by
    obtain ⟨x, r, e1, h1, h2⟩ := h.uncons
    subst e1
    exact .cons q h2
  | t :: ts, xs, i + 1, h, q => by
    obtain ⟨x, r, e1, h1, h2⟩ := h.uncons
    subst e1
    exact .cons h1 (RepL.set i h2 q)
theorem RepL.take : ∀ {ts : List T} {xs : List V} (n : Nat), RepL G F ts xs → RepL G F (ts.take n) (xs.take n)
  | ts, xs, 0, h => by simp only [List.take_zero]; exact .nil
  | [], xs, n + 1, h => by rw [h.unnil]; exact .nil
  | t :: ts, xs, n + 1, h => by
    obtain ⟨x, r, e1, h1, h2⟩ := h.uncons
    subst e1
    exact .cons h1 (RepL.take n h2)
theorem RepL.drop : ∀ {ts : List T} {xs : List V} (n : Nat), RepL G F ts xs → RepL G F (ts.drop n) (xs.drop n)
  | ts, xs, 0, h => h
  | [], xs, n + 1, h => by rw [h.unnil]; exact .nil
  | t :: ts, xs, n + 1, h => by
    obtain ⟨x, r, e1, h1, h2⟩ := h.uncons
    subst e1
    exact RepL.drop n h2
end

/-! ### states -/
inductive Sl where
  | un | fz (t : T) | ow (t : T) | io (t : T)
  deriving Inhabited
abbrev Env := List Sl
/-- a value at hand: frozen, new and one's own, the object of the slot i -/
inductive Rv where
  | fz (t : T) | ow (t : T) | bo (i : Nat)
/-- what stands at an own object's address -/
def Top (G : Gr) (F : Hp) (o : HO) : T → Prop
  | .lst ts => ∃ xs, o = .lst xs ∧ RepL G F ts xs
  | .dK kvs => ∃ vs, o = .dK vs ∧ RepK G F kvs vs
  | .dT kvs => ∃ vs, o = .dT vs ∧ RepD G F kvs vs
  | .ins c fs => ∃ dx vs, o = .ins (G.ca c) dx vs ∧ RepF G F fs vs
  | _ => False
theorem Top.mono {G : Gr} {F F' : Hp} (h : Le F F') {o : HO} : ∀ {t : T}, Top G F o t → Top G F' o t
  | .lst ts, ⟨xs, e, r⟩ => ⟨xs, e, RepL.mono h ts r⟩
  | .dK ts, ⟨xs, e, r⟩ => ⟨xs, e, RepK.mono h ts r⟩
  | .dT ts, ⟨xs, e, r⟩ => ⟨xs, e, RepD.mono h ts r⟩
  | .ins c ts, ⟨dx, xs, e, r⟩ => ⟨dx, xs, e, RepF.mono h ts r⟩
/-- an own object becomes a frozen one -/
theorem Top.rep {G : Gr} {F : Hp} {o : HO} {a : Addr} (e : F a = some o) : ∀ {t : T}, Top G F o t → Rep G F t (.ref a)
  | .lst ts, ⟨xs, q, r⟩ => by simp only [Rep]; subst q; exact ⟨a, xs, rfl, .inl (.inl e), r⟩
  | .dK ts, ⟨xs, q, r⟩ => by simp only [Rep]; subst q; exact ⟨a, xs, rfl, e, r⟩
  | .dT ts, ⟨xs, q, r⟩ => by simp only [Rep]; subst q; exact ⟨a, xs, rfl, e, r⟩
  | .ins c ts, ⟨dx, xs, q, r⟩ => by simp only [Rep]; subst q; exact ⟨a, dx, xs, rfl, e, r⟩
def isDk : HO → Bool
  | .dK _ => true
  | .dT _ => true
  | _ => false
/-- it stands there (a dict may be walked) -/
def Hd (H : Hp) (a : Addr) (o : HO) : Prop := H a = some o ∨ (isDk o = true ∧ ∃ ob, H a = some (.frz ob o))
theorem Hd.rd {H : Hp} {a : Addr} {o : HO} (h : Hd H a o) : Rd H a o := by
  rcases h with h | ⟨_, ob, h⟩
  · exact .inl h
  · exact .inr ⟨ob, h⟩
theorem Hd.some {H : Hp} {a : Addr} {o : HO} (h : Hd H a o) : ∃ u, H a = some u := by
  rcases h with h | ⟨_, ob, h⟩
  · exact ⟨_, h⟩
  · exact ⟨_, h⟩
def SlOk (G : Gr) (F H : Hp) (x : Option V) : Sl → Prop
  | .un => True
  | .fz t => ∃ v, x = Option.some v ∧ Rep G F t v
  | .ow t => ∃ a o, x = Option.some (.ref a) ∧ H a = Option.some o ∧ F a = none ∧ Top G F o t
  | .io t => ∃ a o, x = Option.some (.ref a) ∧ H a = Option.some o ∧ F a = none ∧ Top G F o t
/-- what is around: objects that are to stay, the places of the arguments that are changed in place -/
structure Amb where
  h : Hp
  p : Nat → Option Addr
  l : Addr → Option (Obj × HO)
/-- the slot i has an object of its own -/
def OwnAt (env : Env) (i : Nat) (t : T) : Prop := env[i]? = some (.ow t) ∨ env[i]? = some (.io t)

/-- the state: frozen objects F, others that are to stay Tm, the slots' own objects -/
structure Sok (G : Gr) (Tm : Amb) (F H : Hp) (σ : St) (env : Env) : Prop where
  sub : ∀ a o, F a = some o → Hd H a o
  tm : ∀ a o, Tm.h a = some o → H a = some o ∧ F a = none
  len : σ.length = env.length
  slot : ∀ (i : Nat) s, env[i]? = some s → ∃ x, σ[i]? = some x ∧ SlOk G F H x s
  apart : ∀ (i j : Nat) a t u, OwnAt env i t → σ[i]? = some (some (.ref a)) → OwnAt env j u → σ[j]? = some (some (.ref a)) → i = j
  tmo : ∀ (i : Nat) a t, OwnAt env i t → σ[i]? = some (some (.ref a)) → Tm.h a = none
  lk : ∀ a o, Tm.l a = some o → H a = some (.frz o.1 o.2) ∧ F a ≠ none
  pio : ∀ (i : Nat) t, env[i]? = some (.io t) → ∃ a, Tm.p i = some a ∧ σ[i]? = some (some (.ref a))

/-! ### outcomes -/
inductive Out (α : Type) where
  | ok (a : α) (e : Env)
  | ex (c : Nat) (fs : List (Str × T)) (e : Env)
  | no
abbrev M (α : Type) := Env → Out α
def Out.bind {α β : Type} (m : Out α) (k : α → M β) : Out β := match m with
  | .ok a e => k a e
  | .ex c fs e => .ex c fs e
  | .no => .no
def M.bind {α β : Type} (m : M α) (k : α → M β) : M β := fun e => (m e).bind k
def M.pure {α : Type} (a : α) : M α := fun e => .ok a e
def M.no {α : Type} : M α := fun _ => .no
def M.of {α : Type} : Option α → M α
  | some a => M.pure a
  | none => M.no

/-- where a body runs: its context, what it wishes of exceptions -/
structure Cy where
  X : Cx
  ca : Nat → Addr
  W : WX
abbrev Cy.G (C : Cy) : Gr := ⟨C.X.K, C.ca⟩

abbrev RelT (α β : Type) := Amb → Hp → Hp → St → Env → α → β → Prop
/-- what an outcome asks of the goal -/
def At {α β : Type} (C : Cy) (R : RelT α β) (Tm : Amb) (F : Hp) (σ : St) (Q : β → Hp → Prop) : Out α → Prop
  | .ok a env => ∀ b F' H', Le F F' → Sok C.G Tm F' H' σ env → R Tm F' H' σ env a b → Q b H'
  | .ex c fs env => ∀ d F' H' vs, Le F F' → Sok C.G Tm F' H' σ env → H' d = some (.xd vs) → RepF C.G F' fs vs → C.W (.ref (C.ca c)) (some d) σ H'
  | .no => False
def tG {α β : Type} (C : Cy) (R : RelT α β) (f : M α) : St → Hp → (β → Hp → Prop) → Prop := fun σ H Q => ∃ Tm F env, Sok C.G Tm F H σ env ∧ At C R Tm F σ Q (f env)

section
variable {α β γ δ : Type} {C : Cy} {R : RelT α β} {R' : RelT γ δ} {Tm : Amb} {F F' H : Hp} {σ : St} {Q : β → Hp → Prop} {Q' : δ → Hp → Prop}
theorem At.weak (h : Le F F') : ∀ {m : Out α}, At C R Tm F σ Q m → At C R Tm F' σ Q m
  | .ok a env, q => fun b F2 H2 l s r => q b F2 H2 (h.trans l) s r
  | .ex c fs env, q => fun d F2 H2 vs l s e r => q d F2 H2 vs (h.trans l) s e r
  | .no, q => q
theorem At.bind {m : Out α} {k : α → M γ} {Q1 : β → Hp → Prop} (h : At C R' Tm F σ Q' (m.bind k))
    (step : ∀ a env b F' H', Le F F' → Sok C.G Tm F' H' σ env → R Tm F' H' σ env a b → At C R' Tm F' σ Q' (k a env) → Q1 b H') : At C R Tm F σ Q1 m := by
  cases m with
  | ok a env => exact fun b F' H' l s r => step a env b F' H' l s r (At.weak l h)
  | ex c fs env => exact h
  | no => exact h
theorem At.mono {m : Out α} {Q1 : β → Hp → Prop} (h : At C R Tm F σ Q m) (hq : ∀ b H, Q b H → Q1 b H) : At C R Tm F σ Q1 m := by
  cases m with
  | ok a env => exact fun b F' H' l s r => hq _ _ (h b F' H' l s r)
  | ex c fs env => exact h
  | no => exact h
end
end Ev
/-! Ev1: judgements; names, constants; what is at hand, frozen, held. -/
namespace Ev
open PySem PySem.Spec L2

section
variable {G : Gr} {Tm : Amb} {F H : Hp} {σ : St} {env : Env}
theorem Sok.sqT (S : Sok G Tm F H σ env) {a : Addr} {xs : List V} (q : SqT G.K F a xs) : SqT G.K H a xs := by
  rcases q with (q | ⟨o, q⟩) | q
  · exact .inl (S.sub _ _ q).rd
  · rcases S.sub _ _ q with h | ⟨h, _⟩
    · exact .inl (.inr ⟨o, h⟩)
    · cases h
  · exact .inr q
theorem Sok.rd (S : Sok G Tm F H σ env) {a : Addr} {u : HO} (q : Rd F a u) : Rd H a u := by
  rcases q with q | ⟨o, q⟩
  · exact (S.sub _ _ q).rd
  · rcases S.sub _ _ q with h | ⟨h, _⟩
    · exact .inr ⟨o, h⟩
    · cases h
theorem Sok.lstAt (S : Sok G Tm F H σ env) {a : Addr} {xs : List V} (q : LstAt G.K F a xs) : LstAt G.K H a xs := by
  rcases q with q | q
  · exact .inl (S.rd q)
  · exact .inr q
theorem Sok.new (S : Sok G Tm F H σ env) {a : Addr} (h : H a = none) : F a = none ∧ Tm.h a = none := by
  constructor
  · cases e : F a with
    | none => rfl
    | some o =>
      obtain ⟨u, q⟩ := (S.sub _ _ e).some
      rw [h] at q
      cases q
  · cases e : Tm.h a with
    | none => rfl
    | some o =>
      have q := (S.tm _ _ e).1
      rw [h] at q
      cases q
theorem SlOk.mono {F F' H : Hp} {x : Option V} (h : Le F F') : ∀ {s : Sl}, (∀ a t, (s = .ow t ∨ s = .io t) → x = some (.ref a) → F' a = none) → SlOk G F H x s → SlOk G F' H x s
  | .un, _, q => q
  | .fz t, _, ⟨v, e, r⟩ => ⟨v, e, Rep.mono h t r⟩
  | .ow t, n, ⟨a, o, e, r, f, p⟩ => ⟨a, o, e, r, n a t (.inl rfl) e, p.mono h⟩
  | .io t, n, ⟨a, o, e, r, f, p⟩ => ⟨a, o, e, r, n a t (.inr rfl) e, p.mono h⟩
theorem SlOk.own {x : Option V} {s : Sl} {t : T} (h : s = .ow t ∨ s = .io t) (k : SlOk G F H x s) : ∃ a o, x = some (.ref a) ∧ H a = some o ∧ F a = none ∧ Top G F o t := by
  rcases h with h | h
  · subst h
    exact k
  · subst h
    exact k
theorem OwnAt.get {i : Nat} {t : T} (h : OwnAt env i t) : ∃ s, env[i]? = some s ∧ (s = .ow t ∨ s = .io t) := by
  rcases h with h | h
  · exact ⟨_, h, .inl rfl⟩
  · exact ⟨_, h, .inr rfl⟩
theorem OwnAt.of {i : Nat} {t : T} {s : Sl} (h : s = .ow t ∨ s = .io t) (e : env[i]? = some s) : OwnAt env i t := by
  rcases h with h | h
  · subst h
    exact .inl e
  · subst h
    exact .inr e
/-- an object of one's own is frozen; the slot i, if it is there, with it -/
theorem Sok.freeze (S : Sok G Tm F H σ env) {a : Addr} {o : HO} {t : T} {env' : Env} (ha : H a = some o) (hf : F a = none) (ht : Tm.h a = none) (top : Top G F o t) (hl : env'.length = env.length)
    (he : ∀ (i : Nat) s, env'[i]? = some s → (env[i]? = some s ∧ ∀ u, (s = .ow u ∨ s = .io u) → σ[i]? ≠ some (some (.ref a))) ∨ (s = .fz t ∧ σ[i]? = some (some (.ref a)))) :
    ∃ F', Le F F' ∧ Sok G Tm F' H σ env' ∧ Rep G F' t (.ref a) := by
  have le : Le F (upd F a o) := Le.upd hf
  have rep : Rep G (upd F a o) t (.ref a) := Top.rep upd_same (top.mono le)
  have back : ∀ {i : Nat} {u : T}, OwnAt env' i u → OwnAt env i u := fun {i u} h => by
    obtain ⟨s, e, k⟩ := h.get
    rcases he i s e with ⟨e1, _⟩ | ⟨e1, _⟩
    · exact .of k e1
    · subst e1
      rcases k with k | k <;> cases k
  refine ⟨upd F a o, le, ⟨fun b u e => ?_, fun b u e => ?_, by rw [S.len, hl], fun i s e => ?_, fun i j b t1 u1 h1 h2 h3 h4 => S.apart i j b t1 u1 (back h1) h2 (back h3) h4, fun i b t1 h1 h2 => S.tmo i b t1 (back h1) h2, fun b u e => ⟨(S.lk b u e).1, le.ne (S.lk b u e).2⟩, fun i u h => ?_⟩, rep⟩
  · by_cases hb : b = a
    · subst hb
      rw [upd_same] at e
      cases e
      exact .inl ha
    · rw [upd_ne hb] at e
      exact S.sub _ _ e
  · have q := S.tm _ _ e
    refine ⟨q.1, ?_⟩
    rw [upd_ne (fun z => by rw [z, ht] at e; cases e)]
    exact q.2
  · rcases he i s e with ⟨e1, n⟩ | ⟨e1, e2⟩
    · obtain ⟨x, hx, k⟩ := S.slot i s e1
      refine ⟨x, hx, SlOk.mono le (fun b u es ex => ?_) k⟩
      have nb : b ≠ a := fun z => n u es (by rw [hx, ex, z])
      rw [upd_ne nb]
      obtain ⟨b', o', e', _, f', _⟩ := k.own es
      rw [ex] at e'
      cases e'
      exact f'
    · subst e1
      exact ⟨_, e2, _, rfl, rep⟩
  · rcases he i _ h with ⟨e1, _⟩ | ⟨e1, _⟩
    · exact S.pio i u e1
    · cases e1
end

/-! ### how outcomes stand to values -/
abbrev RvR (G : Gr) : RelT Rv V := fun Tm F H σ env r x => match r with
  | .fz t => Rep G F t x
  | .ow t => ∃ a o, x = .ref a ∧ H a = some o ∧ F a = none ∧ Tm.h a = none ∧ Top G F o t ∧ ∀ (i : Nat) u, OwnAt env i u → σ[i]? ≠ some (some (.ref a))
  | .bo i => σ[i]? = some (some x) ∧ ∃ t, OwnAt env i t
/-- held: nothing new among it -/
abbrev HoR (G : Gr) : RelT Rv V := fun _ F _ σ _ r x => match r with
  | .fz t => Rep G F t x
  | .ow _ => False
  | .bo i => σ[i]? = some (some x)
abbrev TR (G : Gr) : RelT T V := fun _ F _ _ _ t x => Rep G F t x
abbrev TLR (G : Gr) : RelT (List T) (List V) := fun _ F _ _ _ ts xs => RepL G F ts xs
abbrev BR : RelT Bool Bool := fun _ _ _ _ _ b c => b = c
/-- seen: its top in the heap, what hangs on it frozen -/
def Pk (G : Gr) (F H : Hp) (t : T) (x : V) : Prop := Rep G F t x ∨ ∃ a o, x = .ref a ∧ H a = some o ∧ Top G F o t

abbrev EvE (C : Cy) (e : Expr) (f : M Rv) : Prop := PE C.X e (tG C (RvR C.G) f)
abbrev EvT (C : Cy) (e : Expr) (f : M T) : Prop := PE C.X e (tG C (TR C.G) f)
abbrev EvH (C : Cy) (e : Expr) (f : M Rv) : Prop := PE C.X e (tG C (HoR C.G) f)
abbrev EvB (C : Cy) (e : Expr) (f : M Bool) : Prop := PT C.X e (tG C BR f)
abbrev EvA (C : Cy) (es : List Expr) (f : M (List T)) : Prop := PA C.X es (tG C (TLR C.G) f)

theorem pe_imp {X : Cx} {e : Expr} {t t' : TE} (h : PE X e t) (i : ∀ σ H Q, t' σ H Q → t σ H Q) : PE X e t' := ⟨fun pins s σ H Q I q => h.run pins s σ H Q I (i σ H Q q)⟩
theorem pt_imp {X : Cx} {e : Expr} {t t' : TT} (h : PT X e t) (i : ∀ σ H Q, t' σ H Q → t σ H Q) : PT X e t' := ⟨fun pins s σ H Q I q => h.run pins s σ H Q I (i σ H Q q)⟩
theorem pa_imp {X : Cx} {e : List Expr} {t t' : TA} (h : PA X e t) (i : ∀ σ H Q, t' σ H Q → t σ H Q) : PA X e t' := ⟨fun pos pins s σ H Q I q => h.run pos pins s σ H Q I (i σ H Q q)⟩
theorem ps_imp {X : Cx} {e : Stmt} {t t' : TS} (h : PS X e t) (i : ∀ D σ H, t' D σ H → t D σ H) : PS X e t' := ⟨fun pins s σ H D I q => h.run pins s σ H D I (i D σ H q)⟩
theorem pss_imp {X : Cx} {e : List Stmt} {t t' : TS} (h : PSs X e t) (i : ∀ D σ H, t' D σ H → t D σ H) : PSs X e t' := ⟨fun pins s σ H D I q => h.run pins s σ H D I (i D σ H q)⟩

/-- frozen -/
def frz : Rv → M T
  | .fz t => M.pure t
  | .ow t => M.pure t
  | .bo i => fun e => match e[i]? with
    | some (.ow t) => .ok t (e.set i (.fz t))
    | _ => .no
/-- held -/
def hld : Rv → M Rv
  | .fz t => M.pure (.fz t)
  | .ow t => M.pure (.fz t)
  | .bo i => M.pure (.bo i)
/-- seen -/
def pk : Rv → M T
  | .fz t => M.pure t
  | .ow t => M.no
  | .bo i => fun e => match e[i]? with
    | some (.ow t) => .ok t e
    | some (.io t) => .ok t e
    | some (.fz t) => .ok t e
    | _ => .no
section
variable {G : Gr} {Tm : Amb} {F H : Hp} {σ : St} {env env' : Env} {r : Rv} {t : T} {x : V}
theorem frz_ok (S : Sok G Tm F H σ env) (h : RvR G Tm F H σ env r x) (e : frz r env = .ok t env') : ∃ F', Le F F' ∧ Sok G Tm F' H σ env' ∧ Rep G F' t x := by
  cases r with
  | fz u =>
    cases e
    exact ⟨F, Le.rfl, S, h⟩
  | ow u =>
    cases e
    obtain ⟨a, o, rfl, h1, h2, h3, h4, h5⟩ := h
    exact S.freeze h1 h2 h3 h4 rfl fun i s e => .inl ⟨e, fun w es => h5 i w (.of es e)⟩
  | bo i =>
    obtain ⟨h1, u, h2⟩ := h
    have e' : (match env[i]? with
      | some (.ow t) => Out.ok t (env.set i (.fz t))
      | _ => .no) = .ok t env' := e
    rcases h2 with h2 | h2
    · rw [h2] at e'
      cases e'
      obtain ⟨y, hy, a, o, ey, ha, hf, top⟩ := S.slot i _ h2
      rw [hy] at h1
      cases h1
      cases ey
      refine S.freeze ha hf (S.tmo i a t (.inl h2) hy) top (by simp) fun j s e => ?_
      by_cases hj : j = i
      · subst hj
        rw [List.getElem?_set_self (by rw [← S.len]; exact (List.getElem?_eq_some_iff.mp hy).1)] at e
        cases e
        exact .inr ⟨rfl, hy⟩
      · rw [List.getElem?_set_ne (Ne.symm hj)] at e
        exact .inl ⟨e, fun w es q => hj (S.apart j i a w t (.of es e) q (.inl h2) hy)⟩
    · rw [h2] at e'
      cases e'
theorem hld_ok (S : Sok G Tm F H σ env) (h : RvR G Tm F H σ env r x) {r' : Rv} (e : hld r env = .ok r' env') : ∃ F', Le F F' ∧ Sok G Tm F' H σ env' ∧ HoR G Tm F' H σ env' r' x := by
  cases r with
  | fz u =>
    cases e
    exact ⟨F, Le.rfl, S, h⟩
  | ow u =>
    cases e
    exact frz_ok (r := .ow u) S h rfl
  | bo i =>
    cases e
    exact ⟨F, Le.rfl, S, h.1⟩
theorem HoR.mono {Tm' : Amb} {F' H' : Hp} {env' : Env} (le : Le F F') (h : HoR G Tm F H σ env r x) : HoR G Tm' F' H' σ env' r x := by
  cases r with
  | fz u => exact Rep.mono le u h
  | ow u => exact h
  | bo i => exact h
theorem pk_ok (S : Sok G Tm F H σ env) (h : HoR G Tm F H σ env r x) (e : pk r env = .ok t env') : env' = env ∧ Pk G F H t x := by
  cases r with
  | fz u =>
    cases e
    exact ⟨rfl, .inl h⟩
  | ow u => exact h.elim
  | bo i =>
    have e' : (match env[i]? with
      | some (.ow t) => Out.ok t env
      | some (.io t) => Out.ok t env
      | some (.fz t) => .ok t env
      | _ => .no) = .ok t env' := e
    cases hs : env[i]? with
    | none =>
      rw [hs] at e'
      cases e'
    | some s =>
      rw [hs] at e'
      obtain ⟨y, hy, k⟩ := S.slot i _ hs
      have hx : σ[i]? = some (some x) := h
      rw [hy] at hx
      cases hx
      cases s with
      | un => cases e'
      | fz u =>
        cases e'
        obtain ⟨v, ev, rv⟩ := k
        cases ev
        exact ⟨rfl, .inl rv⟩
      | ow u =>
        cases e'
        obtain ⟨a, o, ev, ha, _, top⟩ := k
        cases ev
        exact ⟨rfl, .inr ⟨a, o, rfl, ha, top⟩⟩
      | io u =>
        cases e'
        obtain ⟨a, o, ev, ha, _, top⟩ := k
        cases ev
        exact ⟨rfl, .inr ⟨a, o, rfl, ha, top⟩⟩
end

/-! ### the ways between -/
section
variable {C : Cy} {e : Expr} {f : M Rv} {Tm : Amb} {F : Hp} {σ : St} {Q : V → Hp → Prop}
theorem At.of_frz {m : Out Rv} (h : At C (TR C.G) Tm F σ Q (m.bind frz)) : At C (RvR C.G) Tm F σ Q m := by
  cases m with
  | ok r env =>
    intro x F' H' le S rv
    have h' : At C (TR C.G) Tm F' σ Q (frz r env) := At.weak le h
    cases q : frz r env with
    | ok t env' =>
      rw [q] at h'
      obtain ⟨F2, l2, S2, rep⟩ := frz_ok S rv q
      exact h' x F2 H' l2 S2 rep
    | ex c fs env' => cases r <;> first | cases q | (unfold frz at q; dsimp only at q; split at q <;> cases q)
    | no =>
      rw [q] at h'
      exact h'.elim
  | ex c fs env => exact h
  | no => exact h
theorem At.of_hld {m : Out Rv} (h : At C (HoR C.G) Tm F σ Q (m.bind hld)) : At C (RvR C.G) Tm F σ Q m := by
  cases m with
  | ok r env =>
    intro x F' H' le S rv
    have h' : At C (HoR C.G) Tm F' σ Q (hld r env) := At.weak le h
    cases q : hld r env with
    | ok t env' =>
      rw [q] at h'
      obtain ⟨F2, l2, S2, rep⟩ := hld_ok S rv q
      exact h' x F2 H' l2 S2 rep
    | ex c fs env' => cases r <;> cases q
    | no =>
      rw [q] at h'
      exact h'.elim
  | ex c fs env => exact h
  | no => exact h
def frzE (f : M Rv) : M T := M.bind f frz
def hldE (f : M Rv) : M Rv := M.bind f hld
theorem ev_t (h : EvE C e f) : EvT C e (frzE f) := pe_imp h fun σ H Q ⟨Tm, F, env, S, q⟩ => ⟨Tm, F, env, S, At.of_frz q⟩
theorem ev_h (h : EvE C e f) : EvH C e (hldE f) := pe_imp h fun σ H Q ⟨Tm, F, env, S, q⟩ => ⟨Tm, F, env, S, At.of_hld q⟩
def fzE (g : M T) : M Rv := M.bind g fun t => M.pure (.fz t)
theorem ev_e {g : M T} (h : EvT C e g) : EvE C e (fzE g) := pe_imp h fun σ H Q ⟨Tm, F, env, S, q⟩ => ⟨Tm, F, env, S, by
  have q' : At C (RvR C.G) Tm F σ Q ((g env).bind fun t => M.pure (.fz t)) := q
  revert q'
  cases g env with
  | ok t env' => exact fun q' x F' H' l S r => q' x F' H' l S r
  | ex c fs env' => exact fun q' => q'
  | no => exact fun q' => q'⟩

/-! ### names, constants -/
def rdS (i : Nat) : M Rv := fun e => match e[i]? with
  | some (.fz t) => .ok (.fz t) e
  | some (.ow _) => .ok (.bo i) e
  | some (.io _) => .ok (.bo i) e
  | _ => .no
theorem ev_name {i : Nat} {x : Str} {pos : Pos} (hN : C.X.N[i]? = some x) (hv : Vis C.X.env.scope x) (hd : (x == ("__debug__" : Str)) = false := by decide +kernel) (hcd : (x == ("__classdict__" : Str)) = false := by decide +kernel) : EvE C (.Name x pos) (rdS i) := by
  refine pe_imp (pe_var hN hv hd hcd) fun σ H Q ⟨Tm, F, env, S, q⟩ => ?_
  unfold rdS at q
  cases hs : env[i]? with
  | none =>
    rw [hs] at q
    exact q.elim
  | some s =>
    rw [hs] at q
    obtain ⟨y, hy, k⟩ := S.slot i _ hs
    cases s with
    | un => exact q.elim
    | fz t =>
      obtain ⟨v, ev, rv⟩ := k
      subst ev
      exact ⟨v, hy, q v F H Le.rfl S rv⟩
    | ow t =>
      obtain ⟨a, o, ev, ha, hf, top⟩ := k
      subst ev
      exact ⟨_, hy, q _ F H Le.rfl S ⟨hy, t, .inl hs⟩⟩
    | io t =>
      obtain ⟨a, o, ev, ha, hf, top⟩ := k
      subst ev
      exact ⟨_, hy, q _ F H Le.rfl S ⟨hy, t, .inr hs⟩⟩
theorem ev_con {v : V} {t : T} (h : PE C.X e (tC v)) (r : ∀ F, Rep C.G F t v) : EvT C e (M.pure t) := by
  refine pe_imp h fun σ H Q ⟨Tm, F, env, S, q⟩ => ?_
  exact q v F H Le.rfl S (r F)
theorem ev_int {i j pos} : EvT C (.Constant (.int i) j pos) (M.pure (.int i)) := ev_con pe_int fun F => by simp only [Rep]
theorem ev_str {i j pos} : EvT C (.Constant (.str i) j pos) (M.pure (.str i)) := ev_con pe_str fun F => by simp only [Rep]
theorem ev_bl {i j pos} : EvT C (.Constant (.bool i) j pos) (M.pure (.bl i)) := ev_con pe_bl fun F => by simp only [Rep]
theorem ev_non {j pos} : EvT C (.Constant .none j pos) (M.pure .non) := ev_con pe_non fun F => by simp only [Rep]
theorem ev_glob {x : Str} {v : V} {t : T} {u : Value} {pos : Pos} (hg : Gl C.X x) (hm : C.X.mg x = some u) (r : RelV v u) (rt : ∀ F, Rep C.G F t v) (hd : (x == ("__debug__" : Str)) = false := by decide +kernel) : EvT C (.Name x pos) (M.pure t) := ev_con (pe_glob hg hm r hd) rt

end
end Ev
/-! Ev2: new objects; operators, comparisons, tests, built-ins. -/
namespace Ev
open PySem PySem.Spec L2

section
variable {G : Gr} {Tm : Amb} {F H : Hp} {σ : St} {env : Env}
theorem Hd.upd {a p : Addr} {o u : HO} (h : Hd H a o) (n : H p = none) : Hd (L2.upd H p u) a o := by
  rcases h with h | ⟨k, ob, h⟩
  · exact .inl (by rw [upd_ne (ne_of_none h n)]; exact h)
  · exact .inr ⟨k, ob, by rw [upd_ne (ne_of_none h n)]; exact h⟩
theorem Sok.alloc (S : Sok G Tm F H σ env) {p : Addr} {o : HO} (n : H p = none) : Sok G Tm F (L2.upd H p o) σ env := by
  refine ⟨fun a u e => (S.sub a u e).upd n, fun a u e => ⟨?_, (S.tm a u e).2⟩, S.len, fun i s e => ?_, S.apart, S.tmo, fun a u e => ⟨by rw [upd_ne (ne_of_none (S.lk a u e).1 n)]; exact (S.lk a u e).1, (S.lk a u e).2⟩, S.pio⟩
  · rw [upd_ne (ne_of_none (S.tm a u e).1 n)]
    exact (S.tm a u e).1
  · obtain ⟨x, hx, k⟩ := S.slot i s e
    refine ⟨x, hx, ?_⟩
    cases s with
    | un => exact k
    | fz t => exact k
    | ow t =>
      obtain ⟨a, u, e1, e2, e3, e4⟩ := k
      exact ⟨a, u, e1, by rw [upd_ne (ne_of_none e2 n)]; exact e2, e3, e4⟩
    | io t =>
      obtain ⟨a, u, e1, e2, e3, e4⟩ := k
      exact ⟨a, u, e1, by rw [upd_ne (ne_of_none e2 n)]; exact e2, e3, e4⟩
theorem Sok.allocF (S : Sok G Tm F H σ env) {p : Addr} {o : HO} (n : H p = none) : Sok G Tm (L2.upd F p o) (L2.upd H p o) σ env := by
  have A := S.alloc (o := o) n
  have le : Le F (L2.upd F p o) := Le.upd (S.new n).1
  have np : ∀ {a : Addr} {u : HO}, H a = some u → a ≠ p := fun h z => by rw [z, n] at h; cases h
  refine ⟨fun a u e => ?_, fun a u e => ⟨(A.tm a u e).1, ?_⟩, S.len, fun i s e => ?_, S.apart, S.tmo, fun a u e => ⟨(A.lk a u e).1, le.ne (A.lk a u e).2⟩, S.pio⟩
  · by_cases h : a = p
    · subst h
      rw [upd_same] at e
      cases e
      exact .inl upd_same
    · rw [upd_ne h] at e
      exact A.sub a u e
  · rw [upd_ne (np (S.tm a u e).1)]
    exact (S.tm a u e).2
  · obtain ⟨x, hx, k⟩ := S.slot i s e
    obtain ⟨y, hy, k'⟩ := A.slot i s e
    rw [hx] at hy
    cases hy
    refine ⟨x, hx, SlOk.mono le (fun a t es ex => ?_) k'⟩
    obtain ⟨b, u, e1, e2, e3, _⟩ := k.own es
    rw [ex] at e1
    cases e1
    rw [upd_ne (np e2)]
    exact e3
theorem RvR.new (S : Sok G Tm F H σ env) {p : Addr} {o : HO} {t : T} (n : H p = none) (top : Top G F o t) : RvR G Tm F (L2.upd H p o) σ env (.ow t) (.ref p) := by
  refine ⟨p, o, rfl, upd_same, (S.new n).1, (S.new n).2, top, fun i u e z => ?_⟩
  obtain ⟨s, es, k⟩ := e.get
  obtain ⟨x, hx, ok⟩ := S.slot i _ es
  obtain ⟨a, w, e1, e2, _⟩ := ok.own k
  rw [z] at hx
  cases hx
  cases e1
  rw [n] at e2
  cases e2
end

/-! ### readings of trees -/
section
variable {G : Gr} {Tm : Amb} {F H : Hp} {σ : St} {env : Env} {x : V}
theorem rep_non (h : Rep G F .non x) : x = .non := by simpa only [Rep] using h
theorem rep_bl {b : Bool} (h : Rep G F (.bl b) x) : x = .bl b := by simpa only [Rep] using h
theorem rep_int {i : Int} (h : Rep G F (.int i) x) : x = .int i := by simpa only [Rep] using h
theorem rep_str {i : Str} (h : Rep G F (.str i) x) : x = .str i := by simpa only [Rep] using h
theorem rep_tup {ts : List T} (h : Rep G F (.tup ts) x) : ∃ a xs, x = .ref a ∧ SqT G.K F a xs ∧ RepL G F ts xs := by simpa only [Rep] using h
theorem rep_lst {ts : List T} (h : Rep G F (.lst ts) x) : ∃ a xs, x = .ref a ∧ LstAt G.K F a xs ∧ RepL G F ts xs := by simpa only [Rep] using h
theorem mk_int (i : Int) : Rep G F (.int i) (.int i) := by simp only [Rep]
theorem mk_bl (i : Bool) : Rep G F (.bl i) (.bl i) := by simp only [Rep]
theorem mk_str (i : Str) : Rep G F (.str i) (.str i) := by simp only [Rep]
theorem mk_non : Rep G F .non .non := by simp only [Rep]
theorem pk_non (h : Pk G F H .non x) : x = .non := by
  rcases h with h | ⟨a, o, _, _, k⟩
  · exact rep_non h
  · exact k.elim
theorem pk_bl {b : Bool} (h : Pk G F H (.bl b) x) : x = .bl b := by
  rcases h with h | ⟨a, o, _, _, k⟩
  · exact rep_bl h
  · exact k.elim
theorem pk_int {b : Int} (h : Pk G F H (.int b) x) : x = .int b := by
  rcases h with h | ⟨a, o, _, _, k⟩
  · exact rep_int h
  · exact k.elim
theorem pk_str {b : Str} (h : Pk G F H (.str b) x) : x = .str b := by
  rcases h with h | ⟨a, o, _, _, k⟩
  · exact rep_str h
  · exact k.elim
theorem pk_tup (S : Sok G Tm F H σ env) {ts : List T} (h : Pk G F H (.tup ts) x) : ∃ a xs, x = .ref a ∧ SqT G.K H a xs ∧ RepL G F ts xs := by
  rcases h with h | ⟨a, o, _, _, k⟩
  · obtain ⟨a, xs, e, q, r⟩ := rep_tup h
    exact ⟨a, xs, e, S.sqT q, r⟩
  · exact k.elim
theorem pk_lst (S : Sok G Tm F H σ env) {ts : List T} (h : Pk G F H (.lst ts) x) : ∃ a xs, x = .ref a ∧ LstAt G.K H a xs ∧ RepL G F ts xs := by
  rcases h with h | ⟨a, o, e, ho, xs, eo, r⟩
  · obtain ⟨a, xs, e, q, r⟩ := rep_lst h
    exact ⟨a, xs, e, S.lstAt q, r⟩
  · subst eo
    exact ⟨a, xs, e, .inl (.inl ho), r⟩
theorem pk_dK (S : Sok G Tm F H σ env) {ts : List (Key × T)} (h : Pk G F H (.dK ts) x) : ∃ a xs, x = .ref a ∧ Hd H a (.dK xs) ∧ RepK G F ts xs := by
  rcases h with h | ⟨a, o, e, ho, xs, eo, r⟩
  · simp only [Rep] at h
    obtain ⟨a, xs, e, q, r⟩ := h
    exact ⟨a, xs, e, S.sub _ _ q, r⟩
  · subst eo
    exact ⟨a, xs, e, .inl ho, r⟩
theorem pk_dT (S : Sok G Tm F H σ env) {ts : List (List Key × T)} (h : Pk G F H (.dT ts) x) : ∃ a xs, x = .ref a ∧ Hd H a (.dT xs) ∧ RepD G F ts xs := by
  rcases h with h | ⟨a, o, e, ho, xs, eo, r⟩
  · simp only [Rep] at h
    obtain ⟨a, xs, e, q, r⟩ := h
    exact ⟨a, xs, e, S.sub _ _ q, r⟩
  · subst eo
    exact ⟨a, xs, e, .inl ho, r⟩
theorem pk_ins (S : Sok G Tm F H σ env) {c : Nat} {ts : List (Str × T)} (h : Pk G F H (.ins c ts) x) : ∃ a dx xs, x = .ref a ∧ H a = some (.ins (G.ca c) dx xs) ∧ RepF G F ts xs := by
  rcases h with h | ⟨a, o, e, ho, dx, xs, eo, r⟩
  · simp only [Rep] at h
    obtain ⟨a, dx, xs, e, q, r⟩ := h
    rcases S.sub _ _ q with z | ⟨z, _⟩
    · exact ⟨a, dx, xs, e, z, r⟩
    · cases z
  · subst eo
    exact ⟨a, dx, xs, e, ho, r⟩
end

/-! ### operators upon frozen values -/
section
variable {C : Cy} {a b c : Expr} {pos : Pos}
abbrev Post (C : Cy) (Tm : Amb) (F : Hp) (σ : St) (env : Env) (Q : V → Hp → Prop) (w : Rv) : Prop :=
  ∀ z F' H', Le F F' → Sok C.G Tm F' H' σ env → RvR C.G Tm F' H' σ env w z → Q z H'
def opM (g : T → T → Option Rv) (f1 f2 : M T) : M Rv := M.bind f1 fun a => M.bind f2 fun b => M.of (g a b)
/-- a rule for an operator: by trees -/
def OpOk (C : Cy) (op : Operator) (g : T → T → Option Rv) : Prop := ∃ r, OpR C.X (binaryOp op) r ∧
  ∀ {Tm : Amb} {F H : Hp} {σ : St} {env : Env} {x y : V} {t u : T} {w : Rv} {Q : V → Hp → Prop}, Sok C.G Tm F H σ env → Rep C.G F t x → Rep C.G F u y → g t u = some w → Post C Tm F σ env Q w → r x y H Q
theorem ev_op {op : Operator} {g : T → T → Option Rv} {f1 f2 : M T} (ho : OpOk C op g) (h1 : EvT C a f1) (h2 : EvT C b f2) : EvE C (.BinOp a op b pos) (opM g f1 f2) := by
  obtain ⟨r, ho, hr⟩ := ho
  refine pe_imp (pe_op ho h1 h2) fun σ H Q ⟨Tm, F, env, S, q⟩ => ⟨Tm, F, env, S, ?_⟩
  refine At.bind (R' := RvR C.G) (Q' := Q) q fun t env1 x F1 H1 le1 S1 r1 q1 => ⟨Tm, F1, env1, S1, ?_⟩
  refine At.bind (R' := RvR C.G) (Q' := Q) q1 fun u env2 y F2 H2 le2 S2 r2 q2 => ?_
  cases hw : g t u with
  | none =>
    rw [hw] at q2
    exact q2.elim
  | some w =>
    rw [hw] at q2
    exact hr S2 (Rep.mono le2 t r1) r2 hw q2
def addT : T → T → Option Rv
  | .int i, .int j => some (.fz (.int (i + j)))
  | .str i, .str j => if i.length + j.length ≤ sizeLine then some (.fz (.str (i ++ j))) else none
  | .lst i, .lst j => if i.length + j.length ≤ sizeLine then some (.ow (.lst (i ++ j))) else none
  | .tup i, .tup j => if i.length + j.length ≤ sizeLine then some (.fz (.tup (i ++ j))) else none
  | _, _ => none
def subT : T → T → Option Rv
  | .int i, .int j => some (.fz (.int (i - j)))
  | _, _ => none
def mulT : T → T → Option Rv
  | .int i, .int j => if (-(2 ^ 64) < i ∧ i < 2 ^ 64) ∨ (-(2 ^ 64) < j ∧ j < 2 ^ 64) then some (.fz (.int (i * j))) else none
  | _, _ => none
def modT : T → T → Option Rv
  | .int i, .int j => if 0 < j then some (.fz (.int (i % j))) else none
  | _, _ => none
def fdivT : T → T → Option Rv
  | .int i, .int j => if 0 < j ∧ j < 2 ^ 64 then some (.fz (.int (i / j))) else none
  | _, _ => none
def powT : T → T → Option Rv
  | .int i, .int j => if 0 ≤ j ∧ j ≤ 1000000 ∧ i.natAbs < 2 ^ 64 then some (.fz (.int (i ^ j.toNat))) else none
  | _, _ => none
/-- two lists, tracked or known -/
theorem op_catL : OpR C.X (binaryOp .Add) (fun x y H Q => ∃ l b xs zs, x = .ref l ∧ y = .ref b ∧ LstAt C.X.K H l xs ∧ LstAt C.X.K H b zs ∧ xs.length + zs.length ≤ sizeLine ∧ ∀ p, H p = none → Q (.ref p) (upd H p (.lst (xs ++ zs)))) := by
  intro pins s σ H x y v u Q I rx ry h
  obtain ⟨l, b, xs, zs, rfl, rfl, hL, hB, hz, q⟩ := h
  cases rx
  cases ry
  obtain ⟨its, n, r, e⟩ := LstAt.obj I hL
  obtain ⟨its2, n2, r2, e2⟩ := LstAt.obj I hB
  have hl := Paired.length r
  have hl2 := Paired.length r2
  refine PySem.P.add_list e e2 ?_ (by rw [List.size_toArray, List.size_toArray]; omega)
  have ea : its.toArray ++ its2.toArray = (its ++ its2).toArray := by simp
  rw [ea]
  exact ⟨.ref _, _, I.lnew (t' := s.toks) (r.append r2) (by rw [List.length_append]; omega), rfl, q _ I.fresh⟩
theorem ok_add : OpOk C .Add addT := by
  refine ⟨_, (op_add.or op_add_str).or (op_catL.or op_catA), fun {Tm F H σ env x y t u w Q} S rx ry hw q => ?_⟩
  cases t <;> cases u <;> first | (cases hw; done) | skip
  · rename_i i j
    cases hw
    exact .inl (.inl ⟨i, j, rep_int rx, rep_int ry, q _ F H Le.rfl S (mk_int _)⟩)
  · rename_i i j
    simp only [addT] at hw
    split at hw
    · rename_i hz
      cases hw
      exact .inl (.inr ⟨i, j, rep_str rx, rep_str ry, hz, q _ F H Le.rfl S (mk_str _)⟩)
    · cases hw
  · rename_i i j
    simp only [addT] at hw
    split at hw
    · rename_i hz
      cases hw
      obtain ⟨p1, xs, rfl, h1, r1⟩ := rep_tup rx
      obtain ⟨p2, ys, rfl, h2, r2⟩ := rep_tup ry
      have l1 := r1.length
      have l2 := r2.length
      refine .inr (.inr ⟨p1, p2, xs, ys, rfl, rfl, S.sqT h1, S.sqT h2, by rw [l1, l2]; exact hz, fun e => ?_, fun _ e => ?_, fun _ _ p np => ?_⟩)
      · subst e
        have : i = [] := List.length_eq_zero_iff.mp (by rw [← l1]; rfl)
        subst this
        exact q _ F H Le.rfl S ry
      · subst e
        have : j = [] := List.length_eq_zero_iff.mp (by rw [← l2]; rfl)
        subst this
        exact q _ F H Le.rfl S (by rw [List.append_nil]; exact rx)
      · have le := Le.upd (o := .tup (xs ++ ys)) (S.new np).1
        refine q _ _ _ le (S.allocF np) ?_
        simp only [Rep]
        exact ⟨p, _, rfl, .inl (.inl upd_same), (RepL.mono le _ r1).append (RepL.mono le _ r2)⟩
    · cases hw
  · rename_i i j
    simp only [addT] at hw
    split at hw
    · rename_i hz
      cases hw
      obtain ⟨p1, xs, rfl, h1, r1⟩ := rep_lst rx
      obtain ⟨p2, ys, rfl, h2, r2⟩ := rep_lst ry
      have l1 := r1.length
      have l2 := r2.length
      refine .inr (.inl ⟨p1, p2, xs, ys, rfl, rfl, S.lstAt h1, S.lstAt h2, by rw [l1, l2]; exact hz, fun p np => ?_⟩)
      exact q _ F _ Le.rfl (S.alloc np) (RvR.new S np ⟨_, rfl, r1.append r2⟩)
    · cases hw
theorem ok_sub : OpOk C .Sub subT := by
  refine ⟨_, op_sub, fun {Tm F H σ env x y t u w Q} S rx ry hw q => ?_⟩
  cases t <;> cases u <;> first | (cases hw; done) | skip
  cases hw
  exact ⟨_, _, rep_int rx, rep_int ry, q _ F H Le.rfl S (mk_int _)⟩
theorem ok_mul : OpOk C .Mult mulT := by
  refine ⟨_, op_mul, fun {Tm F H σ env x y t u w Q} S rx ry hw q => ?_⟩
  cases t <;> cases u <;> first | (cases hw; done) | skip
  simp only [mulT] at hw
  split at hw
  · rename_i hz
    cases hw
    exact ⟨_, _, rep_int rx, rep_int ry, hz, q _ F H Le.rfl S (mk_int _)⟩
  · cases hw
theorem ok_mod : OpOk C .Mod modT := by
  refine ⟨_, op_mod, fun {Tm F H σ env x y t u w Q} S rx ry hw q => ?_⟩
  cases t <;> cases u <;> first | (cases hw; done) | skip
  simp only [modT] at hw
  split at hw
  · rename_i hz
    cases hw
    exact ⟨_, _, rep_int rx, rep_int ry, hz, q _ F H Le.rfl S (mk_int _)⟩
  · cases hw
theorem ok_fdiv : OpOk C .FloorDiv fdivT := by
  refine ⟨_, op_fdivW, fun {Tm F H σ env x y t u w Q} S rx ry hw q => ?_⟩
  cases t <;> cases u <;> first | (cases hw; done) | skip
  rename_i i j
  simp only [fdivT] at hw
  split at hw
  · rename_i hz
    cases hw
    exact ⟨_, _, rep_int rx, rep_int ry, wide_div (b := 64) hz.1 (by have := hz.2; omega) (by decide) (by decide), q _ F H Le.rfl S (mk_int _)⟩
  · cases hw
theorem ok_pow : OpOk C .Pow powT := by
  refine ⟨_, op_pow, fun {Tm F H σ env x y t u w Q} S rx ry hw q => ?_⟩
  cases t <;> cases u <;> first | (cases hw; done) | skip
  simp only [powT] at hw
  split at hw
  · rename_i hz
    cases hw
    exact ⟨_, _, rep_int rx, rep_int ry, hz, q _ F H Le.rfl S (mk_int _)⟩
  · cases hw
def negT : T → Option T
  | .int i => some (.int (-i))
  | _ => none
theorem ev_neg {f : M T} (h : EvT C a f) : EvT C (.UnaryOp .USub a pos) (M.bind f fun t => M.of (negT t)) := by
  refine pe_imp (pe_un un_neg h) fun σ H Q ⟨Tm, F, env, S, q⟩ => ⟨Tm, F, env, S, ?_⟩
  refine At.bind (R' := TR C.G) (Q' := Q) q fun t env1 x F1 H1 le1 S1 r1 q1 => ?_
  cases t <;> first | exact q1.elim | skip
  exact ⟨_, rep_int r1, q1 _ F1 H1 Le.rfl S1 (mk_int _)⟩

/-! ### comparisons -/
mutual
def toD : T → PyData
  | .non => .none
  | .bl b => .bool b
  | .int i => .int i
  | .str s => .str s
  | .tup ts => .tuple (toDs ts)
  | .lst ts => .list (toDs ts)
  | .dK _ => .dict []
  | .dT _ => .dict []
  | .ins _ _ => .dict []
  | .exc _ _ => .dict []
def toDs : List T → List PyData
  | [] => []
  | t :: ts => toD t :: toDs ts
end
mutual
theorem Rep.dp {G : Gr} {Tm : Amb} {F H : Hp} {σ : St} {env : Env} (S : Sok G Tm F H σ env) : ∀ (t : T) {x : V}, (toD t).plain = true → Rep G F t x → Dp G.K H x (toD t)
  | .non, x, _, r => by rw [rep_non r]; simp only [toD]; exact .non
  | .bl b, x, _, r => by rw [rep_bl r]; simp only [toD]; exact .bl b
  | .int i, x, _, r => by rw [rep_int r]; simp only [toD]; exact .int i
  | .str i, x, _, r => by rw [rep_str r]; simp only [toD]; exact .str i
  | .tup ts, x, p, r => by
    obtain ⟨a, xs, rfl, q, l⟩ := rep_tup r
    simp only [toD] at p ⊢
    exact .tup (S.sqT q) (RepL.dp S ts (by simpa only [PyData.plain] using p) l)
  | .lst ts, x, p, r => by
    obtain ⟨a, xs, rfl, q, l⟩ := rep_lst r
    simp only [toD] at p ⊢
    exact .lst (S.lstAt q).sq (RepL.dp S ts (by simpa only [PyData.plain] using p) l)
  | .dK _, x, p, r => by
    simp only [toD] at p
    cases p
  | .dT _, x, p, r => by
    simp only [toD] at p
    cases p
  | .ins _ _, x, p, r => by
    simp only [toD] at p
    cases p
  | .exc _ _, x, p, r => by
    simp only [toD] at p
    cases p
theorem RepL.dp {G : Gr} {Tm : Amb} {F H : Hp} {σ : St} {env : Env} (S : Sok G Tm F H σ env) : ∀ (ts : List T) {xs : List V}, PyData.plainAll (toDs ts) = true → RepL G F ts xs → DpAll G.K H xs (toDs ts)
  | [], xs, _, r => by rw [r.unnil]; simp only [toDs]; exact .nil
  | t :: ts, xs, p, r => by
    obtain ⟨x, r, e, h1, h2⟩ := r.uncons
    subst e
    simp only [toDs] at p ⊢
    have p' : (toD t).plain = true ∧ PyData.plainAll (toDs ts) = true := by simpa only [PyData.plainAll, Bool.and_eq_true] using p
    exact .cons (Rep.dp S t p'.1 h1) (RepL.dp S ts p'.2 h2)
end
theorem Pk.dp {G : Gr} {Tm : Amb} {F H : Hp} {σ : St} {env : Env} (S : Sok G Tm F H σ env) {t : T} {x : V} (p : (toD t).plain = true) (h : Pk G F H t x) : Dp G.K H x (toD t) := by
  rcases h with h | ⟨a, o, e, ho, k⟩
  · exact Rep.dp S t p h
  · subst e
    cases t with
    | lst ts =>
      obtain ⟨xs, eo, r⟩ := k
      subst eo
      simp only [toD] at p ⊢
      exact .lst (.inl (.inl ho)) (RepL.dp S ts (by simpa only [PyData.plain] using p) r)
    | dK _ =>
      simp only [toD] at p
      cases p
    | dT _ =>
      simp only [toD] at p
      cases p
    | ins _ _ =>
      simp only [toD] at p
      cases p
    | _ => exact k.elim
/-- a room that all bodies have -/
abbrev Rm (C : Cy) : Prop := C.X.A.units + 190 < cLine
def eqT (t u : T) : Option Bool := if (toD t).plain = true ∧ (toD u).plain = true ∧ min (toD t).depth (toD u).depth ≤ 100 then some (PyData.eqv (toD t) (toD u)) else none
/-- a rule for a comparison: by trees -/
def CmpOk (C : Cy) (op : CmpOp) (g : T → T → Option Bool) : Prop := ∃ r, OpR C.X (compareOp op) r ∧
  ∀ {Tm : Amb} {F H : Hp} {σ : St} {env : Env} {x y : V} {t u : T} {w : Bool} {Q : V → Hp → Prop}, Sok C.G Tm F H σ env → Pk C.G F H t x → Pk C.G F H u y → g t u = some w → Q (.bl w) H → r x y H Q
theorem op_eqP (hu : Rm C) : OpR C.X (compareOp .Eq) (fun x y H Q => ∃ d e, Dp C.X.K H x d ∧ Dp C.X.K H y e ∧ d.plain = true ∧ e.plain = true ∧ min d.depth e.depth ≤ 100 ∧ Q (.bl (PyData.eqv d e)) H) := by
  intro pins s σ H x y v u Q I rx ry h
  obtain ⟨d, e, hd, he, sd, se, hm, q⟩ := h
  obtain ⟨as, r1⟩ := Dp.reads I d x v hd rx
  obtain ⟨bs, r2⟩ := Dp.reads I e y u he ry
  exact PySem.SeqAt.eq_plain r1 r2 sd se (by have := hu; omega) ⟨.bl _, H, I, rfl, q⟩
theorem op_neP (hu : Rm C) : OpR C.X (compareOp .NotEq) (fun x y H Q => ∃ d e, Dp C.X.K H x d ∧ Dp C.X.K H y e ∧ d.plain = true ∧ e.plain = true ∧ min d.depth e.depth ≤ 100 ∧ Q (.bl (!PyData.eqv d e)) H) := by
  intro pins s σ H x y v u Q I rx ry h
  obtain ⟨d, e, hd, he, sd, se, hm, q⟩ := h
  obtain ⟨as, r1⟩ := Dp.reads I d x v hd rx
  obtain ⟨bs, r2⟩ := Dp.reads I e y u he ry
  exact PySem.SeqAt.ne_plain r1 r2 sd se (by have := hu; omega) ⟨.bl _, H, I, rfl, q⟩
theorem ok_eq (hu : Rm C) : CmpOk C .Eq eqT := by
  refine ⟨_, op_eqP hu, fun {Tm F H σ env x y t u w Q} S rx ry hw q => ?_⟩
  unfold eqT at hw
  split at hw
  · rename_i h
    cases hw
    exact ⟨_, _, rx.dp S h.1, ry.dp S h.2.1, h.1, h.2.1, h.2.2, q⟩
  · cases hw
def neT (t u : T) : Option Bool := (eqT t u).map not
theorem ok_ne (hu : Rm C) : CmpOk C .NotEq neT := by
  refine ⟨_, op_neP hu, fun {Tm F H σ env x y t u w Q} S rx ry hw q => ?_⟩
  unfold neT eqT at hw
  split at hw
  · rename_i h
    cases hw
    exact ⟨_, _, rx.dp S h.1, ry.dp S h.2.1, h.1, h.2.1, h.2.2, q⟩
  · cases hw
def ltT : T → T → Option Bool
  | .int i, .int j => some (decide (i < j))
  | .str i, .str j => some (decide (i.cps.toList < j.cps.toList))
  | _, _ => none
def leT : T → T → Option Bool
  | .int i, .int j => some (decide (i ≤ j))
  | .str i, .str j => some (!decide (j.cps.toList < i.cps.toList))
  | _, _ => none
def gtT : T → T → Option Bool
  | .int i, .int j => some (decide (j < i))
  | .str i, .str j => some (decide (j.cps.toList < i.cps.toList))
  | _, _ => none
def geT : T → T → Option Bool
  | .int i, .int j => some (decide (j ≤ i))
  | .str i, .str j => some (!decide (i.cps.toList < j.cps.toList))
  | _, _ => none
theorem ok_lt : CmpOk C .Lt ltT := by
  refine ⟨_, op_lt.or op_lt_str, fun {Tm F H σ env x y t u w Q} S rx ry hw q => ?_⟩
  cases t <;> cases u <;> first | (cases hw; done) | skip
  · cases hw; exact .inl ⟨_, _, pk_int rx, pk_int ry, q⟩
  · cases hw; exact .inr ⟨_, _, pk_str rx, pk_str ry, q⟩
theorem ok_le : CmpOk C .LtE leT := by
  refine ⟨_, op_le.or op_le_str, fun {Tm F H σ env x y t u w Q} S rx ry hw q => ?_⟩
  cases t <;> cases u <;> first | (cases hw; done) | skip
  · cases hw; exact .inl ⟨_, _, pk_int rx, pk_int ry, q⟩
  · cases hw; exact .inr ⟨_, _, pk_str rx, pk_str ry, q⟩
theorem ok_gt : CmpOk C .Gt gtT := by
  refine ⟨_, op_gt.or op_gt_str, fun {Tm F H σ env x y t u w Q} S rx ry hw q => ?_⟩
  cases t <;> cases u <;> first | (cases hw; done) | skip
  · cases hw; exact .inl ⟨_, _, pk_int rx, pk_int ry, q⟩
  · cases hw; exact .inr ⟨_, _, pk_str rx, pk_str ry, q⟩
theorem ok_ge : CmpOk C .GtE geT := by
  refine ⟨_, op_ge.or op_ge_str, fun {Tm F H σ env x y t u w Q} S rx ry hw q => ?_⟩
  cases t <;> cases u <;> first | (cases hw; done) | skip
  · cases hw; exact .inl ⟨_, _, pk_int rx, pk_int ry, q⟩
  · cases hw; exact .inr ⟨_, _, pk_str rx, pk_str ry, q⟩
/-- is None, is a truth -/
def isT : T → T → Option Bool
  | .bl i, .bl j => some (decide (i = j))
  | .non, .non => some true
  | .bl _, .non => some false
  | .int _, .non => some false
  | .str _, .non => some false
  | .tup _, .non => some false
  | .lst _, .non => some false
  | .dK _, .non => some false
  | .dT _, .non => some false
  | .ins _ _, .non => some false
  | _, _ => none
def isnT (t u : T) : Option Bool := (isT t u).map not
theorem pk_ne_non {Tm : Amb} {F H : Hp} {σ : St} {env : Env} (S : Sok C.G Tm F H σ env) {t : T} {x : V} (h : Pk C.G F H t x) (n : isT t .non = some false) : decide (x = .non) = false := by
  have key : x ≠ .non := by
    cases t with
    | non => cases n
    | bl _ => rw [pk_bl h]; exact fun z => nomatch z
    | int _ => rw [pk_int h]; exact fun z => nomatch z
    | str _ => rw [pk_str h]; exact fun z => nomatch z
    | tup _ => obtain ⟨_, _, e, _⟩ := pk_tup S h; rw [e]; exact fun z => nomatch z
    | lst _ => obtain ⟨_, _, e, _⟩ := pk_lst S h; rw [e]; exact fun z => nomatch z
    | dK _ => obtain ⟨_, _, e, _⟩ := pk_dK S h; rw [e]; exact fun z => nomatch z
    | dT _ => obtain ⟨_, _, e, _⟩ := pk_dT S h; rw [e]; exact fun z => nomatch z
    | ins _ _ => obtain ⟨_, _, _, e, _⟩ := pk_ins S h; rw [e]; exact fun z => nomatch z
    | exc _ _ => cases n
  simpa using key
theorem ok_is : CmpOk C .Is isT := by
  refine ⟨_, op_isN.or op_isBl, fun {Tm F H σ env x y t u w Q} S rx ry hw q => ?_⟩
  cases u with
  | non =>
    cases pk_non ry
    refine .inl ⟨rfl, ?_⟩
    cases w with
    | false => rw [pk_ne_non S rx hw]; exact q
    | true =>
      cases t <;> first | (cases hw; done) | skip
      rw [pk_non rx]
      exact q
  | bl j =>
    cases t <;> first | (cases hw; done) | skip
    cases hw
    exact .inr ⟨_, _, pk_bl rx, pk_bl ry, q⟩
  | _ => cases t <;> cases hw
theorem ok_isn : CmpOk C .IsNot isnT := by
  refine ⟨_, op_notN.or op_notBl, fun {Tm F H σ env x y t u w Q} S rx ry hw q => ?_⟩
  unfold isnT at hw
  cases hv : isT t u with
  | none => rw [hv] at hw; cases hw
  | some v =>
    rw [hv] at hw
    cases hw
    cases u with
    | non =>
      cases pk_non ry
      refine .inl ⟨rfl, ?_⟩
      cases v with
      | false => rw [pk_ne_non S rx hv]; exact q
      | true =>
        cases t <;> first | (cases hv; done) | skip
        rw [pk_non rx]
        exact q
    | bl j =>
      cases t <;> first | (cases hv; done) | skip
      cases hv
      exact .inr ⟨_, _, pk_bl rx, pk_bl ry, q⟩
    | _ => cases t <;> cases hv

def cmpM (g : T → T → Option Bool) (f1 f2 : M Rv) : M Bool := M.bind f1 fun r1 => M.bind f2 fun r2 => M.bind (pk r1) fun t => M.bind (pk r2) fun u => M.of (g t u)
/-- what a comparison's outcome gives its rule -/
theorem cmp_core {op : CmpOp} {g : T → T → Option Bool} {r : R2} {γ : Type} {R' : RelT Bool γ} {Q' : γ → Hp → Prop} {Qv : V → Hp → Prop} {Tm : Amb} {F H : Hp} {σ : St} {env : Env} {r1 r2 : Rv} {x y : V}
    (hr : ∀ {Tm : Amb} {F H : Hp} {σ : St} {env : Env} {x y : V} {t u : T} {w : Bool} {Q : V → Hp → Prop}, Sok C.G Tm F H σ env → Pk C.G F H t x → Pk C.G F H u y → g t u = some w → Q (.bl w) H → r x y H Q)
    (S : Sok C.G Tm F H σ env) (h1 : HoR C.G Tm F H σ env r1 x) (h2 : HoR C.G Tm F H σ env r2 y)
    (q : At C R' Tm F σ Q' ((M.bind (pk r1) fun t => M.bind (pk r2) fun u => M.of (g t u)) env)) (fin : ∀ w, At C R' Tm F σ Q' (.ok w env) → Qv (.bl w) H) : r x y H Qv := by
  have q0 : At C R' Tm F σ Q' ((pk r1 env).bind fun t => M.bind (pk r2) fun u => M.of (g t u)) := q
  cases e1 : pk r1 env with
  | ok t env1 =>
    obtain ⟨rfl, p1⟩ := pk_ok S h1 e1
    rw [e1] at q0
    have q1 : At C R' Tm F σ Q' ((pk r2 env1).bind fun u => M.of (g t u)) := q0
    cases e2 : pk r2 env1 with
    | ok u env2 =>
      obtain ⟨rfl, p2⟩ := pk_ok S h2 e2
      rw [e2] at q1
      have q2 : At C R' Tm F σ Q' (M.of (g t u) env2) := q1
      cases hw : g t u with
      | none =>
        rw [hw] at q2
        exact q2.elim
      | some w =>
        rw [hw] at q2
        exact hr S p1 p2 hw (fin w q2)
    | ex c fs e' => cases r2 <;> first | cases e2 | (unfold pk at e2; dsimp only at e2; split at e2 <;> cases e2)
    | no =>
      rw [e2] at q1
      exact q1.elim
  | ex c fs e' => cases r1 <;> first | cases e1 | (unfold pk at e1; dsimp only at e1; split at e1 <;> cases e1)
  | no =>
    rw [e1] at q0
    exact q0.elim
theorem ev_cmp {op : CmpOp} {g : T → T → Option Bool} {f1 f2 : M Rv} (ho : CmpOk C op g) (h1 : EvH C a f1) (h2 : EvH C b f2) (hm : behindInMarks op b = false) : EvT C (.Compare a [op] [b] pos) (M.bind (cmpM g f1 f2) fun w => M.pure (.bl w)) := by
  obtain ⟨r, ho, hr⟩ := ho
  refine pe_imp (pe_cmpR ho h1 h2 hm) fun σ H Q ⟨Tm, F, env, S, q⟩ => ⟨Tm, F, env, S, ?_⟩
  have q' : At C BR Tm F σ (fun w H' => Q (.bl w) H') (cmpM g f1 f2 env) := by
    revert q
    show At C (TR C.G) Tm F σ Q ((cmpM g f1 f2 env).bind fun w => M.pure (.bl w)) → _
    cases cmpM g f1 f2 env with
    | ok w e => exact fun q b F' H' l S e => by subst e; exact q _ F' H' l S (mk_bl _)
    | ex c fs e => exact fun q => q
    | no => exact fun q => q
  refine At.bind (R' := BR) (Q' := fun w H' => Q (.bl w) H') q' fun t env1 x F1 H1 le1 S1 r1 q1 => ⟨Tm, F1, env1, S1, ?_⟩
  refine At.bind (R' := BR) (Q' := fun w H' => Q (.bl w) H') q1 fun u env2 y F2 H2 le2 S2 r2 q2 => ?_
  exact cmp_core (op := op) hr S2 (r1.mono le2) r2 q2 fun w z => z w F2 H2 Le.rfl S2 rfl
theorem eb_cmp {op : CmpOp} {g : T → T → Option Bool} {f1 f2 : M Rv} (ho : CmpOk C op g) (h1 : EvH C a f1) (h2 : EvH C b f2) (hm : behindInMarks op b = false) : EvB C (.Compare a [op] [b] pos) (cmpM g f1 f2) := by
  obtain ⟨r, ho, hr⟩ := ho
  refine pt_imp (pt_cmpR ho h1 h2 hm) fun σ H Q ⟨Tm, F, env, S, q⟩ => ⟨Tm, F, env, S, ?_⟩
  refine At.bind (R' := BR) (Q' := Q) q fun t env1 x F1 H1 le1 S1 r1 q1 => ⟨Tm, F1, env1, S1, ?_⟩
  refine At.bind (R' := BR) (Q' := Q) q1 fun u env2 y F2 H2 le2 S2 r2 q2 => ?_
  exact cmp_core (op := op) hr S2 (r1.mono le2) r2 q2 fun w z => ⟨w, rfl, z w F2 H2 Le.rfl S2 rfl⟩
end
end Ev
/-! Ev3: chains, tests, argument lists, displays, built-ins, items, slices. -/
namespace Ev
open PySem PySem.Spec L2
section
variable {C : Cy} {a b c e : Expr} {es : List Expr} {pos : Pos}

/-! ### chains -/
def chainM (g g' : T → T → Option Bool) (f1 f2 f3 : M T) : M Bool := M.bind f1 fun t => M.bind f2 fun u => M.bind (M.of (g t u)) fun k => if k = true then M.bind f3 fun v => M.of (g' u v) else M.pure false
theorem chain_core {op op' : CmpOp} {g g' : T → T → Option Bool} {f1 f2 f3 : M T} (ho : CmpOk C op g) (ho' : CmpOk C op' g') (h1 : EvT C a f1) (h2 : EvT C b f2) (h3 : EvT C c f3)
    (hm : lastMarks [op, op'] [b, c] = false) : ∃ r r', OpR C.X (compareOp op) r ∧ OpR C.X (compareOp op') r' ∧ ∀ σ H (Q : Bool → Hp → Prop), tG C BR (chainM g g' f1 f2 f3) σ H Q →
      tChain r r' (tG C (TR C.G) f1) (tG C (TR C.G) f2) (tG C (TR C.G) f3) σ H fun x H' => ∃ k, x = .bl k ∧ Q k H' := by
  obtain ⟨r, ho, hr⟩ := ho
  obtain ⟨r', ho', hr'⟩ := ho'
  refine ⟨r, r', ho, ho', fun σ H Q ⟨Tm, F, env, S, q⟩ => ⟨Tm, F, env, S, ?_⟩⟩
  refine At.bind (R' := BR) (Q' := Q) q fun t env1 x F1 H1 le1 S1 r1 q1 => ⟨Tm, F1, env1, S1, ?_⟩
  refine At.bind (R' := BR) (Q' := Q) q1 fun u env2 y F2 H2 le2 S2 r2 q2 => ?_
  have q2' : At C BR Tm F2 σ Q ((M.of (g t u) env2).bind fun k => if k = true then M.bind f3 fun v => M.of (g' u v) else M.pure false) := q2
  cases hw : g t u with
  | none =>
    rw [hw] at q2'
    exact q2'.elim
  | some w =>
    rw [hw] at q2'
    refine hr S2 (.inl (Rep.mono le2 t r1)) (.inl r2) hw ⟨w, rfl, ?_⟩
    cases w with
    | false => exact ⟨false, rfl, q2' false F2 H2 Le.rfl S2 rfl⟩
    | true =>
      have q3 : At C BR Tm F2 σ Q (M.bind f3 (fun v => M.of (g' u v)) env2) := q2'
      refine ⟨Tm, F2, env2, S2, ?_⟩
      refine At.bind (R' := BR) (Q' := Q) q3 fun v env3 z F3 H3 le3 S3 r3 q4 => ?_
      cases hv : g' u v with
      | none =>
        rw [hv] at q4
        exact q4.elim
      | some k =>
        rw [hv] at q4
        exact hr' S3 (.inl (Rep.mono le3 u r2)) (.inl r3) hv ⟨k, rfl, q4 k F3 H3 Le.rfl S3 rfl⟩
theorem eb_chain {op op' : CmpOp} {g g' : T → T → Option Bool} {f1 f2 f3 : M T} (ho : CmpOk C op g) (ho' : CmpOk C op' g') (h1 : EvT C a f1) (h2 : EvT C b f2) (h3 : EvT C c f3)
    (hm : lastMarks [op, op'] [b, c] = false) : EvB C (.Compare a [op, op'] [b, c] pos) (chainM g g' f1 f2 f3) := by
  obtain ⟨r, r', k, k', h⟩ := chain_core (C := C) ho ho' h1 h2 h3 hm
  exact pt_imp (pt_chain k k' h1 h2 h3 hm) fun σ H Q q => h σ H Q q
theorem tChain_mono {r r' : R2} {ta tb tc : TE} {σ : St} {H : Hp} {Q Q' : VK} (ha : ∀ σ H Q Q', (∀ x H', Q x H' → Q' x H') → ta σ H Q → ta σ H Q') : True := True.intro
theorem ev_chain {op op' : CmpOp} {g g' : T → T → Option Bool} {f1 f2 f3 : M T} (ho : CmpOk C op g) (ho' : CmpOk C op' g') (h1 : EvT C a f1) (h2 : EvT C b f2) (h3 : EvT C c f3)
    (hm : lastMarks [op, op'] [b, c] = false) : EvT C (.Compare a [op, op'] [b, c] pos) (M.bind (chainM g g' f1 f2 f3) fun w => M.pure (.bl w)) := by
  obtain ⟨r, r', k, k', h⟩ := chain_core (C := C) ho ho' h1 h2 h3 hm
  refine ⟨fun pins s σ H Q I q => ?_⟩
  obtain ⟨Tm, F, env, S, q⟩ := q
  have q' : tG C BR (chainM g g' f1 f2 f3) σ H (fun w H' => Q (.bl w) H') := by
    refine ⟨Tm, F, env, S, ?_⟩
    revert q
    show At C (TR C.G) Tm F σ Q ((chainM g g' f1 f2 f3 env).bind fun w => M.pure (.bl w)) → _
    cases chainM g g' f1 f2 f3 env with
    | ok w e => exact fun q b F' H' l S e => by subst e; exact q _ F' H' l S (mk_bl _)
    | ex c fs e => exact fun q => q
    | no => exact fun q => q
  refine wpAny_mono ((pe_chain k k' h1 h2 h3 hm).run pins s σ H _ I (h σ H _ q')) (fun u s' ⟨x, H', I', rx, w, e, qw⟩ => ?_) fun _ _ z => z
  subst e
  exact ⟨_, H', I', rx, qw⟩

/-! ### tests -/
abbrev EvW (C : Cy) (e : Expr) (f : M Bool) : Prop := PW C.X e (tG C BR f)
theorem pw_imp {X : Cx} {e : Expr} {t t' : TT} (h : PW X e t) (i : ∀ σ H Q, t' σ H Q → t σ H Q) : PW X e t' := ⟨fun wh pins s σ H Q I q => h.run wh pins s σ H Q I (i σ H Q q)⟩
def notM (f : M Bool) : M Bool := M.bind f fun b => M.pure (!b)
def andM (f g : M Bool) : M Bool := M.bind f fun b => if b = true then g else M.pure false
def orM (f g : M Bool) : M Bool := M.bind f fun b => if b = true then M.pure true else g
theorem eb_not {f : M Bool} (h : EvB C a f) : EvB C (.UnaryOp .Not a pos) (notM f) := by
  refine pt_imp (pt_not h) fun σ H Q ⟨Tm, F, env, S, q⟩ => ⟨Tm, F, env, S, ?_⟩
  exact At.bind (R' := BR) (Q' := Q) q fun t env1 x F1 H1 le1 S1 r1 q1 => by
    have r1' : t = x := r1
    subst r1'
    exact q1 _ F1 H1 Le.rfl S1 rfl
theorem ew_and1 {f : M Bool} (h : EvB C a f) : EvW C (.BoolOp .And [a] pos) f := pw_and1 h
theorem ew_or1 {f : M Bool} (h : EvB C a f) : EvW C (.BoolOp .Or [a] pos) f := pw_or1 h
theorem ew_and {f g : M Bool} (h : EvB C a f) (h' : EvW C (.BoolOp .And (b :: es) pos) g) : EvW C (.BoolOp .And (a :: b :: es) pos) (andM f g) := by
  refine pw_imp (pw_and h h') fun σ H Q ⟨Tm, F, env, S, q⟩ => ⟨Tm, F, env, S, ?_⟩
  refine At.bind (R' := BR) (Q' := Q) q fun t env1 x F1 H1 le1 S1 r1 q1 => ?_
  have r1' : t = x := r1
  subst r1'
  cases t with
  | true => exact ⟨Tm, F1, env1, S1, q1⟩
  | false => exact q1 false F1 H1 Le.rfl S1 rfl
theorem ew_or {f g : M Bool} (h : EvB C a f) (h' : EvW C (.BoolOp .Or (b :: es) pos) g) : EvW C (.BoolOp .Or (a :: b :: es) pos) (orM f g) := by
  refine pw_imp (pw_or h h') fun σ H Q ⟨Tm, F, env, S, q⟩ => ⟨Tm, F, env, S, ?_⟩
  refine At.bind (R' := BR) (Q' := Q) q fun t env1 x F1 H1 le1 S1 r1 q1 => ?_
  have r1' : t = x := r1
  subst r1'
  cases t with
  | true => exact q1 true F1 H1 Le.rfl S1 rfl
  | false => exact ⟨Tm, F1, env1, S1, q1⟩
theorem eb_w {f : M Bool} (h : EvW C e f) : EvB C e f := h.pt
/-- and, or, not as values, of truths -/
def andV (f g : M T) : M T := M.bind f fun t => match t with
  | .bl true => g
  | .bl false => M.pure (.bl false)
  | _ => M.no
def orV (f g : M T) : M T := M.bind f fun t => match t with
  | .bl true => M.pure (.bl true)
  | .bl false => g
  | _ => M.no
theorem ev_one {op : BoolOp} {f : M T} (h : EvT C a f) : EvT C (.BoolOp op [a] pos) f := pe_one h
theorem ev_and {f g : M T} (h : EvT C a f) (h' : EvT C (.BoolOp .And (b :: es) pos) g) : EvT C (.BoolOp .And (a :: b :: es) pos) (andV f g) := by
  refine pe_imp (pe_and h h') fun σ H Q ⟨Tm, F, env, S, q⟩ => ⟨Tm, F, env, S, ?_⟩
  refine At.bind (R' := TR C.G) (Q' := Q) q fun t env1 x F1 H1 le1 S1 r1 q1 => ?_
  cases t <;> first | exact q1.elim | skip
  rename_i k
  cases k with
  | true => exact ⟨true, rep_bl r1, ⟨Tm, F1, env1, S1, q1⟩⟩
  | false => exact ⟨false, rep_bl r1, q1 _ F1 H1 Le.rfl S1 (mk_bl _)⟩
theorem ev_or {f g : M T} (h : EvT C a f) (h' : EvT C (.BoolOp .Or (b :: es) pos) g) : EvT C (.BoolOp .Or (a :: b :: es) pos) (orV f g) := by
  refine pe_imp (pe_or h h') fun σ H Q ⟨Tm, F, env, S, q⟩ => ⟨Tm, F, env, S, ?_⟩
  refine At.bind (R' := TR C.G) (Q' := Q) q fun t env1 x F1 H1 le1 S1 r1 q1 => ?_
  cases t <;> first | exact q1.elim | skip
  rename_i k
  cases k with
  | true => exact ⟨true, rep_bl r1, q1 _ F1 H1 Le.rfl S1 (mk_bl _)⟩
  | false => exact ⟨false, rep_bl r1, ⟨Tm, F1, env1, S1, q1⟩⟩
def notV (f : M T) : M T := M.bind f fun t => match t with
  | .bl k => M.pure (.bl (!k))
  | _ => M.no
theorem ev_not {f : M T} (h : EvT C a f) : EvT C (.UnaryOp .Not a pos) (notV f) := by
  refine pe_imp (pe_not h) fun σ H Q ⟨Tm, F, env, S, q⟩ => ⟨Tm, F, env, S, ?_⟩
  refine At.bind (R' := TR C.G) (Q' := Q) q fun t env1 x F1 H1 le1 S1 r1 q1 => ?_
  cases t <;> first | exact q1.elim | skip
  exact ⟨_, rep_bl r1, q1 _ F1 H1 Le.rfl S1 (mk_bl _)⟩
/-- a value's truth -/
def truT : T → Option Bool
  | .non => some false
  | .bl b => some b
  | .int i => some (i != 0)
  | .str s => if s.length ≤ sizeLine then some ((s.length : Int) != 0) else none
  | .tup ts => some (!ts.isEmpty)
  | .lst ts => some (!ts.isEmpty)
  | _ => none
theorem RepL.isEmpty {G : Gr} {F : Hp} {ts : List T} {xs : List V} (h : RepL G F ts xs) : xs.isEmpty = ts.isEmpty := by
  cases ts with
  | nil => rw [h.unnil] <;> rfl
  | cons t ts =>
    obtain ⟨x, r, e, _⟩ := h.uncons
    rw [e] <;> rfl
def truM (f : M Rv) : M Bool := M.bind f fun r => M.bind (pk r) fun t => M.of (truT t)
theorem pk_bind {γ δ : Type} {R' : RelT γ δ} {Q' : δ → Hp → Prop} {Tm : Amb} {F H : Hp} {σ : St} {env : Env} {r : Rv} {x : V} {k : T → M γ} {P : Prop} (S : Sok C.G Tm F H σ env) (h : HoR C.G Tm F H σ env r x)
    (q : At C R' Tm F σ Q' (M.bind (pk r) k env)) (step : ∀ t, Pk C.G F H t x → At C R' Tm F σ Q' (k t env) → P) : P := by
  have q0 : At C R' Tm F σ Q' ((pk r env).bind k) := q
  cases e1 : pk r env with
  | ok t env1 =>
    obtain ⟨rfl, p1⟩ := pk_ok S h e1
    rw [e1] at q0
    exact step t p1 q0
  | ex c fs e' => cases r <;> first | cases e1 | (unfold pk at e1; dsimp only at e1; split at e1 <;> cases e1)
  | no =>
    rw [e1] at q0
    exact q0.elim
theorem of_some {γ δ : Type} {R' : RelT γ δ} {Q' : δ → Hp → Prop} {Tm : Amb} {F : Hp} {σ : St} {env : Env} {g : Option γ} {P : Prop} (q : At C R' Tm F σ Q' (M.of g env)) (step : ∀ w, g = some w → At C R' Tm F σ Q' (.ok w env) → P) : P := by
  cases g with
  | none => exact q.elim
  | some w => exact step w rfl q
theorem eb_truth {f : M Rv} (h : EvH C a f) (he : ∀ whole, isTrue a C.X.env whole = (do let v ← whole; standAt a.pos; holding [v] (truthy v))) : EvB C a (truM f) := by
  refine pt_imp (pt_truth h he) fun σ H Q ⟨Tm, F, env, S, q⟩ => ⟨Tm, F, env, S, ?_⟩
  refine At.bind (R' := BR) (Q' := Q) q fun r env1 x F1 H1 le1 S1 r1 q1 => ?_
  refine pk_bind S1 r1 q1 fun t p1 q2 => of_some q2 fun w hw q3 => ⟨w, ?_, q3 w F1 H1 Le.rfl S1 rfl⟩
  cases t <;> first | (cases hw; done) | skip
  · cases hw
    rw [pk_non p1]
    rfl
  · cases hw
    rw [pk_bl p1]
    rfl
  · cases hw
    rw [pk_int p1]
    rfl
  · rw [pk_str p1]
    simp only [truT] at hw
    split at hw
    · rename_i hz
      cases hw
      exact ⟨hz, rfl⟩
    · cases hw
  · cases hw
    obtain ⟨p, xs, e, hq, r⟩ := pk_tup S1 p1
    rw [e]
    exact .inr (.inl ⟨xs, hq, by rw [r.isEmpty]⟩)
  · cases hw
    obtain ⟨p, xs, e, hq, r⟩ := pk_lst S1 p1
    rw [e]
    exact .inl ⟨xs, hq.sq, by rw [r.isEmpty]⟩
/-- an expression whose value is a truth, as a test -/
def blM (f : M T) : M Bool := M.bind f fun t => match t with
  | .bl b => M.pure b
  | _ => M.no
theorem eb_val {f : M T} (h : EvT C a f) (he : ∀ whole, isTrue a C.X.env whole = (do let v ← whole; standAt a.pos; holding [v] (truthy v))) : EvB C a (blM f) := by
  refine pt_imp (pt_val h he) fun σ H Q ⟨Tm, F, env, S, q⟩ => ⟨Tm, F, env, S, ?_⟩
  refine At.bind (R' := BR) (Q' := Q) q fun t env1 x F1 H1 le1 S1 r1 q1 => ?_
  cases t <;> first | exact q1.elim | skip
  exact ⟨_, rep_bl r1, q1 _ F1 H1 Le.rfl S1 rfl⟩
def ifM {α : Type} (f : M Bool) (g h : M α) : M α := M.bind f fun b => if b = true then g else h
theorem ev_if {f : M Bool} {g h : M Rv} (hf : EvB C c f) (hg : EvE C a g) (hh : EvE C b h) : EvE C (.IfExp c a b pos) (ifM f g h) := by
  refine pe_imp (pe_ifExp hf hg hh) fun σ H Q ⟨Tm, F, env, S, q⟩ => ⟨Tm, F, env, S, ?_⟩
  refine At.bind (R' := RvR C.G) (Q' := Q) q fun t env1 x F1 H1 le1 S1 r1 q1 => ?_
  have r1' : t = x := r1
  subst r1'
  cases t with
  | true => exact ⟨Tm, F1, env1, S1, q1⟩
  | false => exact ⟨Tm, F1, env1, S1, q1⟩

/-! ### argument lists, displays -/
def consM (f : M T) (g : M (List T)) : M (List T) := M.bind f fun t => M.bind g fun ts => M.pure (t :: ts)
theorem ea_nil : EvA C [] (M.pure []) := pa_imp pa_nil fun σ H Q ⟨Tm, F, env, S, q⟩ => q [] F H Le.rfl S .nil
theorem ea_cons {f : M T} {g : M (List T)} (h : EvT C e f) (h' : EvA C es g) (hs : starEach (e :: es) C.X.env = (false, eval e C.X.env) :: starEach es C.X.env := by rfl) : EvA C (e :: es) (consM f g) := by
  refine pa_imp (pa_cons h h' hs) fun σ H Q ⟨Tm, F, env, S, q⟩ => ⟨Tm, F, env, S, ?_⟩
  refine At.bind (R' := TLR C.G) (Q' := Q) q fun t env1 x F1 H1 le1 S1 r1 q1 => ⟨Tm, F1, env1, S1, ?_⟩
  refine At.bind (R' := TLR C.G) (Q' := Q) q1 fun ts env2 xs F2 H2 le2 S2 r2 q2 => ?_
  exact q2 _ F2 H2 Le.rfl S2 (.cons (Rep.mono le2 t r1) r2)
def lstM (f : M (List T)) : M Rv := M.bind f fun ts => if ts.length ≤ sizeLine then M.pure (.ow (.lst ts)) else M.no
def tupM (f : M (List T)) : M T := M.bind f fun ts => if ts.length ≤ sizeLine then M.pure (.tup ts) else M.no
theorem ev_lst {f : M (List T)} (h : EvA C es f) : EvE C (.List es pos) (lstM f) := by
  refine pe_imp (pe_lst h) fun σ H Q ⟨Tm, F, env, S, q⟩ => ⟨Tm, F, env, S, ?_⟩
  refine At.bind (R' := RvR C.G) (Q' := Q) q fun ts env1 xs F1 H1 le1 S1 r1 q1 => ?_
  by_cases hz : ts.length ≤ sizeLine
  · simp only [if_pos hz] at q1
    exact ⟨by rw [r1.length]; exact hz, fun p np => q1 _ F1 _ Le.rfl (S1.alloc np) (RvR.new S1 np ⟨_, rfl, r1⟩)⟩
  · simp only [if_neg hz] at q1
    exact q1.elim
theorem ev_tup {x1} {f : M (List T)} (h : EvA C es f) : EvT C (.Tuple es x1 pos) (tupM f) := by
  refine pe_imp (pe_tup h) fun σ H Q ⟨Tm, F, env, S, q⟩ => ⟨Tm, F, env, S, ?_⟩
  refine At.bind (R' := TR C.G) (Q' := Q) q fun ts env1 xs F1 H1 le1 S1 r1 q1 => ?_
  by_cases hz : ts.length ≤ sizeLine
  · simp only [if_pos hz] at q1
    refine ⟨by rw [r1.length]; exact hz, fun p np => ?_⟩
    have le := Le.upd (o := .tup xs) (S1.new np).1
    refine q1 _ _ _ le (S1.allocF np) ?_
    simp only [Rep]
    exact ⟨p, _, rfl, .inl (.inl upd_same), RepL.mono le _ r1⟩
  · simp only [if_neg hz] at q1
    exact q1.elim

/-! ### built-ins -/
/-- a rule for a built-in: by trees -/
def CallOk (C : Cy) (u : Value) (g : List T → Option Rv) : Prop := ∃ r, CallR C.X u r ∧
  ∀ {Tm : Amb} {F H : Hp} {σ : St} {env : Env} {xs : List V} {ts : List T} {w : Rv} {Q : V → Hp → Prop}, Sok C.G Tm F H σ env → RepL C.G F ts xs → g ts = some w → Post C Tm F σ env Q w → r xs H Q
/-- .. of one argument that is only looked at -/
def Call1Ok (C : Cy) (u : Value) (g : T → Option Rv) : Prop := ∃ r, CallR C.X u r ∧
  ∀ {Tm : Amb} {F H : Hp} {σ : St} {env : Env} {x : V} {t : T} {w : Rv} {Q : V → Hp → Prop}, Sok C.G Tm F H σ env → Pk C.G F H t x → g t = some w → Post C Tm F σ env Q w → r [x] H Q
def callM (g : List T → Option Rv) (f : M (List T)) : M Rv := M.bind f fun ts => M.of (g ts)
def call1M (g : T → Option Rv) (f : M Rv) : M Rv := M.bind f fun r => M.bind (pk r) fun t => M.of (g t)
section
variable {x : Str} {id : String} {p : Pos}
theorem ev_callB {g : List T → Option Rv} {f : M (List T)} (hc : CallOk C (.builtin id) g) (hg : Gl C.X x) (hm : C.X.mg x = none) (hv : bootBuiltins x = some (.builtin id)) (ha : EvA C (e :: es) f) (hn : x ≠ "__name__" := by decide) (hdb : (x == ("__debug__" : Str)) = false := by decide)
    (he : starEach (e :: es) C.X.env = (false, eval e C.X.env) :: starEach es C.X.env := by rfl) (hpl : (backTo pos (starEach es C.X.env)).any (·.1) = false := by rfl) : EvE C (.Call (.Name x p) (e :: es) [] pos) (callM g f) := by
  obtain ⟨r, hc, hr⟩ := hc
  refine pe_imp (pe_callB hc hg hm hv ha hn hdb he hpl) fun σ H Q ⟨Tm, F, env, S, q⟩ => ⟨Tm, F, env, S, ?_⟩
  refine At.bind (R' := RvR C.G) (Q' := Q) q fun ts env1 xs F1 H1 le1 S1 r1 q1 => of_some q1 fun w hw q2 => hr S1 r1 hw q2
theorem ev_callT {g : List T → Option Rv} {f : M (List T)} (hc : CallOk C (.type id) g) (hg : Gl C.X x) (hm : C.X.mg x = none) (hv : bootBuiltins x = some (.type id)) (ha : EvA C (e :: es) f) (hn : x ≠ "__name__" := by decide) (hdb : (x == ("__debug__" : Str)) = false := by decide)
    (he : starEach (e :: es) C.X.env = (false, eval e C.X.env) :: starEach es C.X.env := by rfl) (hpl : (backTo pos (starEach es C.X.env)).any (·.1) = false := by rfl) : EvE C (.Call (.Name x p) (e :: es) [] pos) (callM g f) := by
  obtain ⟨r, hc, hr⟩ := hc
  refine pe_imp (pe_callTy hc hg hm hv ha hn hdb he hpl) fun σ H Q ⟨Tm, F, env, S, q⟩ => ⟨Tm, F, env, S, ?_⟩
  refine At.bind (R' := RvR C.G) (Q' := Q) q fun ts env1 xs F1 H1 le1 S1 r1 q1 => of_some q1 fun w hw q2 => hr S1 r1 hw q2
theorem ev_call1B {g : T → Option Rv} {f : M Rv} (hc : Call1Ok C (.builtin id) g) (hg : Gl C.X x) (hm : C.X.mg x = none) (hv : bootBuiltins x = some (.builtin id)) (ha : EvH C e f) (hn : x ≠ "__name__" := by decide) (hdb : (x == ("__debug__" : Str)) = false := by decide)
    (he : starEach [e] C.X.env = (false, eval e C.X.env) :: starEach [] C.X.env := by rfl) (hpl : (backTo pos (starEach [] C.X.env)).any (·.1) = false := by rfl) : EvE C (.Call (.Name x p) [e] [] pos) (call1M g f) := by
  obtain ⟨r, hc, hr⟩ := hc
  refine pe_imp (pe_callB hc hg hm hv (pa_cons ha pa_nil he) hn hdb he hpl) fun σ H Q ⟨Tm, F, env, S, q⟩ => ⟨Tm, F, env, S, ?_⟩
  refine At.bind (R' := RvR C.G) (Q' := Q) q fun rv env1 x F1 H1 le1 S1 r1 q1 => ?_
  exact pk_bind S1 r1 q1 fun t p1 q2 => of_some q2 fun w hw q3 => hr S1 p1 hw q3
theorem ev_call1T {g : T → Option Rv} {f : M Rv} (hc : Call1Ok C (.type id) g) (hg : Gl C.X x) (hm : C.X.mg x = none) (hv : bootBuiltins x = some (.type id)) (ha : EvH C e f) (hn : x ≠ "__name__" := by decide) (hdb : (x == ("__debug__" : Str)) = false := by decide)
    (he : starEach [e] C.X.env = (false, eval e C.X.env) :: starEach [] C.X.env := by rfl) (hpl : (backTo pos (starEach [] C.X.env)).any (·.1) = false := by rfl) : EvE C (.Call (.Name x p) [e] [] pos) (call1M g f) := by
  obtain ⟨r, hc, hr⟩ := hc
  refine pe_imp (pe_callTy hc hg hm hv (pa_cons ha pa_nil he) hn hdb he hpl) fun σ H Q ⟨Tm, F, env, S, q⟩ => ⟨Tm, F, env, S, ?_⟩
  refine At.bind (R' := RvR C.G) (Q' := Q) q fun rv env1 x F1 H1 le1 S1 r1 q1 => ?_
  exact pk_bind S1 r1 q1 fun t p1 q2 => of_some q2 fun w hw q3 => hr S1 p1 hw q3
end
def lenT : T → Option Rv
  | .str s => if s.length ≤ sizeLine then some (.fz (.int s.length)) else none
  | .tup ts => some (.fz (.int ts.length))
  | .lst ts => some (.fz (.int ts.length))
  | _ => none
theorem ok_len : Call1Ok C (.builtin "len") lenT := by
  refine ⟨_, call_len, fun {Tm F H σ env x t w Q} S p hw q => ?_⟩
  cases t <;> first | (cases hw; done) | skip
  · simp only [lenT] at hw
    split at hw
    · rename_i hz
      cases hw
      exact ⟨_, _, rfl, by rw [pk_str p]; exact ⟨hz, rfl⟩, q _ F H Le.rfl S (mk_int _)⟩
    · cases hw
  · cases hw
    obtain ⟨a, xs, e, hq, r⟩ := pk_tup S p
    exact ⟨_, _, rfl, by rw [e]; exact .inr ⟨xs, hq, r.length.symm⟩, q _ F H Le.rfl S (mk_int _)⟩
  · cases hw
    obtain ⟨a, xs, e, hq, r⟩ := pk_lst S p
    exact ⟨_, _, rfl, by rw [e]; exact .inl ⟨xs, hq.sq, r.length.symm⟩, q _ F H Le.rfl S (mk_int _)⟩
def absT : T → Option Rv
  | .int i => some (.fz (.int (if i < 0 then -i else i)))
  | _ => none
theorem ok_abs : Call1Ok C (.builtin "abs") absT := by
  refine ⟨_, call_abs, fun {Tm F H σ env x t w Q} S p hw q => ?_⟩
  cases t <;> first | (cases hw; done) | skip
  cases hw
  exact ⟨_, by rw [pk_int p], q _ F H Le.rfl S (mk_int _)⟩
def intT : T → Option Rv
  | .int i => some (.fz (.int i))
  | .bl k => some (.fz (.int (if k = true then 1 else 0)))
  | _ => none
theorem ok_int : Call1Ok C (.type "int") intT := by
  refine ⟨_, call_int1, fun {Tm F H σ env x t w Q} S p hw q => ?_⟩
  cases t <;> first | (cases hw; done) | skip
  · cases hw
    exact .inr ⟨_, by rw [pk_bl p], q _ F H Le.rfl S (mk_int _)⟩
  · cases hw
    exact .inl ⟨_, by rw [pk_int p], q _ F H Le.rfl S (mk_int _)⟩
def maxT : List T → Option Rv
  | [.int i, .int j] => some (.fz (.int (if j > i then j else i)))
  | _ => none
def minT : List T → Option Rv
  | [.int i, .int j] => some (.fz (.int (if j < i then j else i)))
  | _ => none
theorem two_ints {G : Gr} {F : Hp} {i j : Int} {xs : List V} (r : RepL G F [.int i, .int j] xs) : xs = [.int i, .int j] := by
  obtain ⟨x, r1, e1, h1, h2⟩ := r.uncons
  obtain ⟨y, r2, e2, h3, h4⟩ := h2.uncons
  rw [e1, e2, h4.unnil, rep_int h1, rep_int h3]
theorem ok_max (hc : C.X.calm = true) : CallOk C (.builtin "max") maxT := by
  refine ⟨_, call_max2 hc, fun {Tm F H σ env xs ts w Q} S r hw q => ?_⟩
  unfold maxT at hw
  split at hw
  · cases hw
    exact ⟨_, _, two_ints r, q _ F H Le.rfl S (mk_int _)⟩
  · cases hw
theorem ok_min (hc : C.X.calm = true) : CallOk C (.builtin "min") minT := by
  refine ⟨_, call_min2 hc, fun {Tm F H σ env xs ts w Q} S r hw q => ?_⟩
  unfold minT at hw
  split at hw
  · cases hw
    exact ⟨_, _, two_ints r, q _ F H Le.rfl S (mk_int _)⟩
  · cases hw
def asInts : List T → Option (List Int)
  | [] => some []
  | .int i :: r => (asInts r).map (i :: ·)
  | _ => none
def asBls : List T → Option (List Bool)
  | [] => some []
  | .bl i :: r => (asBls r).map (i :: ·)
  | _ => none
def asStrs : List T → Option (List Str)
  | [] => some []
  | .str i :: r => (asStrs r).map (i :: ·)
  | _ => none
section
variable {G : Gr} {F : Hp}
theorem asInts_ok : ∀ {ts : List T} {xs : List V} {ns : List Int}, asInts ts = some ns → RepL G F ts xs → xs = ns.map V.int
  | [], xs, ns, e, r => by cases e; exact r.unnil
  | t :: ts, xs, ns, e, r => by
    cases t <;> first | (cases e; done) | skip
    obtain ⟨x, r1, e1, h1, h2⟩ := r.uncons
    simp only [asInts, Option.map_eq_some_iff] at e
    obtain ⟨ms, e2, e3⟩ := e
    subst e3
    rw [e1, rep_int h1, asInts_ok e2 h2] <;> rfl
theorem asBls_ok : ∀ {ts : List T} {xs : List V} {ns : List Bool}, asBls ts = some ns → RepL G F ts xs → xs = ns.map V.bl
  | [], xs, ns, e, r => by cases e; exact r.unnil
  | t :: ts, xs, ns, e, r => by
    cases t <;> first | (cases e; done) | skip
    obtain ⟨x, r1, e1, h1, h2⟩ := r.uncons
    simp only [asBls, Option.map_eq_some_iff] at e
    obtain ⟨ms, e2, e3⟩ := e
    subst e3
    rw [e1, rep_bl h1, asBls_ok e2 h2] <;> rfl
theorem asStrs_ok : ∀ {ts : List T} {xs : List V} {ns : List Str}, asStrs ts = some ns → RepL G F ts xs → xs = ns.map V.str
  | [], xs, ns, e, r => by cases e; exact r.unnil
  | t :: ts, xs, ns, e, r => by
    cases t <;> first | (cases e; done) | skip
    obtain ⟨x, r1, e1, h1, h2⟩ := r.uncons
    simp only [asStrs, Option.map_eq_some_iff] at e
    obtain ⟨ms, e2, e3⟩ := e
    subst e3
    rw [e1, rep_str h1, asStrs_ok e2 h2] <;> rfl
end
def sumT : T → Option Rv
  | .lst ts => (asInts ts).map fun ns => .fz (.int ns.sum)
  | _ => none
theorem ok_sum (hc : C.X.calm = true) : Call1Ok C (.builtin "sum") sumT := by
  refine ⟨_, cr_sum hc, fun {Tm F H σ env x t w Q} S p hw q => ?_⟩
  cases t <;> first | (cases hw; done) | skip
  obtain ⟨ns, e, e2⟩ := Option.map_eq_some_iff.mp hw
  subst e2
  obtain ⟨a, xs, e1, hq, r⟩ := pk_lst S p
  rw [asInts_ok e r] at hq
  exact ⟨a, ns, by rw [e1], hq.sq, q _ F H Le.rfl S (mk_int _)⟩
def allT : T → Option Rv
  | .lst ts => (asBls ts).map fun ns => .fz (.bl (ns.all id))
  | _ => none
theorem ok_all (hc : C.X.calm = true) : Call1Ok C (.builtin "all") allT := by
  refine ⟨_, cr_all hc, fun {Tm F H σ env x t w Q} S p hw q => ?_⟩
  cases t <;> first | (cases hw; done) | skip
  obtain ⟨ns, e, e2⟩ := Option.map_eq_some_iff.mp hw
  subst e2
  obtain ⟨a, xs, e1, hq, r⟩ := pk_lst S p
  rw [asBls_ok e r] at hq
  exact ⟨a, ns, by rw [e1], hq.sq, q _ F H Le.rfl S (mk_bl _)⟩
def anyT : T → Option Rv
  | .lst ts => (asBls ts).map fun ns => .fz (.bl (ns.any id))
  | _ => none
theorem ok_any (hc : C.X.calm = true) : Call1Ok C (.builtin "any") anyT := by
  refine ⟨_, cr_any hc, fun {Tm F H σ env x t w Q} S p hw q => ?_⟩
  cases t <;> first | (cases hw; done) | skip
  obtain ⟨ns, e, e2⟩ := Option.map_eq_some_iff.mp hw
  subst e2
  obtain ⟨a, xs, e1, hq, r⟩ := pk_lst S p
  rw [asBls_ok e r] at hq
  exact ⟨a, ns, by rw [e1], hq.sq, q _ F H Le.rfl S (mk_bl _)⟩

/-! ### items, slices -/
def itemT : T → T → Option Rv
  | .lst ts, .int i => (atI ts i).map .fz
  | .tup ts, .int i => (atI ts i).map .fz
  | .str s, .int i => if s.length ≤ sizeLine then (atI s.cps.toList i).map fun c => .fz (.str ⟨#[c]⟩) else none
  | _, _ => none
theorem RepL.atI {G : Gr} {F : Hp} {ts : List T} {xs : List V} {i : Int} {t : T} (r : RepL G F ts xs) (h : L2.atI ts i = some t) : ∃ x, L2.atI xs i = some x ∧ Rep G F t x := by
  unfold L2.atI at h ⊢
  rw [r.length]
  cases e : ixN ts.length i with
  | none =>
    rw [e] at h
    cases h
  | some j =>
    rw [e] at h
    exact r.get h
def itemM (f : M Rv) (g : M T) : M Rv := M.bind f fun r => M.bind g fun i => M.bind (pk r) fun t => M.of (itemT t i)
theorem ev_item {f : M Rv} {g : M T} (h : EvH C a f) (h' : EvT C b g) (hs : PlainIx b) : EvE C (.Subscript a b pos) (itemM f g) := by
  refine pe_imp (pe_ix ix_seq h h' hs) fun σ H Q ⟨Tm, F, env, S, q⟩ => ⟨Tm, F, env, S, ?_⟩
  refine At.bind (R' := RvR C.G) (Q' := Q) q fun r env1 x F1 H1 le1 S1 r1 q1 => ⟨Tm, F1, env1, S1, ?_⟩
  refine At.bind (R' := RvR C.G) (Q' := Q) q1 fun u env2 y F2 H2 le2 S2 r2 q2 => ?_
  refine pk_bind S2 (r1.mono le2) q2 fun t p1 q3 => of_some q3 fun w hw q4 => ?_
  cases t <;> cases u <;> first | (cases hw; done) | skip
  · simp only [itemT] at hw
    split at hw
    · rename_i hz
      obtain ⟨k, e, e2⟩ := Option.map_eq_some_iff.mp hw
      subst e2
      exact .inr (.inr ⟨_, _, _, pk_str p1, rep_int r2, hz, e, q4 _ F2 H2 Le.rfl S2 (mk_str _)⟩)
    · cases hw
  · obtain ⟨k, e, e2⟩ := Option.map_eq_some_iff.mp hw
    subst e2
    obtain ⟨p, xs, ex, hq, r⟩ := pk_tup S2 p1
    obtain ⟨z, hz, rz⟩ := r.atI e
    exact .inr (.inl ⟨p, xs, _, z, ex, rep_int r2, hq, hz, q4 _ F2 H2 Le.rfl S2 rz⟩)
  · obtain ⟨k, e, e2⟩ := Option.map_eq_some_iff.mp hw
    subst e2
    obtain ⟨p, xs, ex, hq, r⟩ := pk_lst S2 p1
    obtain ⟨z, hz, rz⟩ := r.atI e
    exact .inl ⟨p, xs, _, z, ex, rep_int r2, hq.sq, hz, q4 _ F2 H2 Le.rfl S2 rz⟩
/-- a slice's end -/
abbrev EvO (C : Cy) (e : Option Expr) (f : M (Option Int)) : Prop := PO C.X e (tG C (fun _ _ _ _ _ (i j : Option Int) => i = j) f)
theorem po_imp {X : Cx} {e : Option Expr} {t t' : TO} (h : PO X e t) (i : ∀ σ H Q, t' σ H Q → t σ H Q) : PO X e t' := ⟨fun pins s σ H Q I q => h.run pins s σ H Q I (i σ H Q q)⟩
theorem eo_none : EvO C none (M.pure none) := po_imp po_none fun σ H Q ⟨Tm, F, env, S, q⟩ => q none F H Le.rfl S rfl
def endM (f : M T) : M (Option Int) := M.bind f fun t => match t with
  | .int i => M.pure (some i)
  | _ => M.no
theorem eo_some {f : M T} (h : EvT C e f) : EvO C (some e) (endM f) := by
  refine po_imp (po_some h) fun σ H Q ⟨Tm, F, env, S, q⟩ => ⟨Tm, F, env, S, ?_⟩
  refine At.bind (R' := fun _ _ _ _ _ (i j : Option Int) => i = j) (Q' := Q) q fun t env1 x F1 H1 le1 S1 r1 q1 => ?_
  cases t <;> first | exact q1.elim | skip
  exact ⟨_, rep_int r1, q1 _ F1 H1 Le.rfl S1 rfl⟩
def cutL (ts : List T) (lo hi : Option Int) : List T := (ts.drop (HT.sIx ts.length 0 lo)).take (HT.sIx ts.length ts.length hi - HT.sIx ts.length 0 lo)
theorem RepL.cut {G : Gr} {F : Hp} {ts : List T} {xs : List V} {lo hi : Option Int} (r : RepL G F ts xs) : RepL G F (cutL ts lo hi) (cutV xs lo hi) := by
  unfold cutL cutV
  rw [r.length]
  exact (r.drop _).take _
def sliceT : T → Option Int → Option Int → Option Rv
  | .lst ts, lo, hi => some (.ow (.lst (cutL ts lo hi)))
  | .tup ts, lo, hi => some (.fz (.tup (cutL ts lo hi)))
  | .str s, lo, hi => if s.length ≤ sizeLine then some (.fz (.str (cutS s lo hi))) else none
  | _, _, _ => none
def sliceM (f : M Rv) (g g' : M (Option Int)) : M Rv := M.bind f fun r => M.bind g fun lo => M.bind g' fun hi => M.bind (pk r) fun t => M.of (sliceT t lo hi)
theorem sl_or {X : Cx} {r r' : V → Option Int → Option Int → Hp → VK → Prop} (h : SlR X r) (h' : SlR X r') : SlR X (fun x lo hi H Q => r x lo hi H Q ∨ r' x lo hi H Q) := by
  intro pins s σ H x v vl vu lo hi sl Q I rx hs pl pu q
  rcases q with q | q
  · exact h pins s σ H x v vl vu lo hi sl Q I rx hs pl pu q
  · exact h' pins s σ H x v vl vu lo hi sl Q I rx hs pl pu q
theorem ev_slice {lo hi : Option Expr} {p2 : Pos} {f : M Rv} {g g' : M (Option Int)} (h : EvH C a f) (hl : EvO C lo g) (hh : EvO C hi g') : EvE C (.Subscript a (.Slice lo hi none p2) pos) (sliceM f g g') := by
  refine pe_imp (pe_slice (sl_or sl_list (sl_or sl_tupA sl_str)) h hl hh) fun σ H Q ⟨Tm, F, env, S, q⟩ => ⟨Tm, F, env, S, ?_⟩
  refine At.bind (R' := RvR C.G) (Q' := Q) q fun r env1 x F1 H1 le1 S1 r1 q1 => ⟨Tm, F1, env1, S1, ?_⟩
  refine At.bind (R' := RvR C.G) (Q' := Q) q1 fun l env2 l' F2 H2 le2 S2 r2 q2 => ⟨Tm, F2, env2, S2, ?_⟩
  refine At.bind (R' := RvR C.G) (Q' := Q) q2 fun u env3 u' F3 H3 le3 S3 r3 q3 => ?_
  have r2' : l = l' := r2
  have r3' : u = u' := r3
  subst r2' r3'
  refine pk_bind S3 (r1.mono (le2.trans le3)) q3 fun t p1 q4 => of_some q4 fun w hw q5 => ?_
  cases t <;> first | (cases hw; done) | skip
  · simp only [sliceT] at hw
    split at hw
    · rename_i hz
      cases hw
      exact .inr (.inr ⟨_, pk_str p1, hz, q5 _ F3 H3 Le.rfl S3 (mk_str _)⟩)
    · cases hw
  · cases hw
    rename_i ts
    obtain ⟨p, xs, ex, hq, r⟩ := pk_tup S3 p1
    refine .inr (.inl ⟨p, xs, ex, hq, fun hw => ?_, fun hw q0 nq => ?_⟩)
    · have e : cutL ts l u = ts := by
        unfold cutL
        rw [r.length] at hw
        rw [hw.1, hw.2]
        simp
      refine q5 _ F3 H3 Le.rfl S3 ?_
      show Rep C.G F3 (.tup (cutL ts l u)) (.ref p)
      rw [e]
      rcases p1 with p1 | ⟨_, _, _, _, k⟩
      · rw [ex] at p1
        exact p1
      · exact k.elim
    · have le := Le.upd (o := .tup (cutV xs l u)) (S3.new nq).1
      refine q5 _ _ _ le (S3.allocF nq) ?_
      show Rep C.G _ (.tup (cutL ts l u)) (.ref q0)
      simp only [Rep]
      exact ⟨q0, _, rfl, .inl (.inl upd_same), RepL.mono le _ r.cut⟩
  · cases hw
    obtain ⟨p, xs, ex, hq, r⟩ := pk_lst S3 p1
    exact .inl ⟨p, xs, ex, hq.sq, fun q0 nq => q5 _ F3 _ Le.rfl (S3.alloc nq) (RvR.new S3 nq ⟨_, rfl, r.cut⟩)⟩
end
end Ev
/-! Ev4: statements. -/
namespace Ev
open PySem PySem.Spec L2
/-- how a statement ends -/
inductive SO where
  | nx (e : Env)
  | rt (r : Rv) (e : Env)
  | bk (e : Env)
  | ct (e : Env)
  | ex (c : Nat) (fs : List (Str × T)) (e : Env)
  | no
abbrev SM := Env → SO
def AtS (C : Cy) (Tm : Amb) (F : Hp) (D : Ends) : SO → Prop
  | .nx env => ∀ σ F' H, Le F F' → Sok C.G Tm F' H σ env → D.nx σ H
  | .rt r env => ∀ x σ F' H, Le F F' → Sok C.G Tm F' H σ env → RvR C.G Tm F' H σ env r x → D.rt x H
  | .bk env => ∀ σ F' H, Le F F' → Sok C.G Tm F' H σ env → D.bk σ H
  | .ct env => ∀ σ F' H, Le F F' → Sok C.G Tm F' H σ env → D.ct σ H
  | .ex c fs env => ∀ d σ F' H vs, Le F F' → Sok C.G Tm F' H σ env → H d = some (.xd vs) → RepF C.G F' fs vs → C.W (.ref (C.ca c)) (some d) σ H
  | .no => False
def tS (C : Cy) (f : SM) : TS := fun D σ H => ∃ Tm F env, Sok C.G Tm F H σ env ∧ AtS C Tm F D (f env)
abbrev EvS (C : Cy) (st : Stmt) (f : SM) : Prop := PS C.X st (tS C f)
abbrev EvSs (C : Cy) (st : List Stmt) (f : SM) : Prop := PSs C.X st (tS C f)
/-- behind an expression -/
def exprS {α : Type} (f : M α) (k : α → SM) : SM := fun env => match f env with
  | .ok a e => k a e
  | .ex c fs e => .ex c fs e
  | .no => .no
section
variable {C : Cy} {Tm : Amb} {F F' H : Hp} {D D' : Ends} {σ : St}
theorem AtS.weak (h : Le F F') : ∀ {m : SO}, AtS C Tm F D m → AtS C Tm F' D m
  | .nx env, q => fun σ F2 H2 l s => q σ F2 H2 (h.trans l) s
  | .rt r env, q => fun x σ F2 H2 l s k => q x σ F2 H2 (h.trans l) s k
  | .bk env, q => fun σ F2 H2 l s => q σ F2 H2 (h.trans l) s
  | .ct env, q => fun σ F2 H2 l s => q σ F2 H2 (h.trans l) s
  | .ex c fs env, q => fun d σ F2 H2 vs l s e r => q d σ F2 H2 vs (h.trans l) s e r
  | .no, q => q
theorem AtS.expr {α β : Type} {R : RelT α β} {f : M α} {k : α → SM} {env : Env} {Q : β → Hp → Prop} (h : AtS C Tm F D (exprS f k env))
    (step : ∀ a env' b F' H', Le F F' → Sok C.G Tm F' H' σ env' → R Tm F' H' σ env' a b → AtS C Tm F' D (k a env') → Q b H') : At C R Tm F σ Q (f env) := by
  unfold exprS at h
  cases q : f env with
  | ok a e =>
    rw [q] at h
    exact fun b F' H' l S r => step a e b F' H' l S r (AtS.weak l h)
  | ex c fs e =>
    rw [q] at h
    exact fun d F' H' vs l S e r => h d σ F' H' vs l S e r
  | no =>
    rw [q] at h
    exact h.elim
end

/-! ### slots written -/
def stT (i : Nat) (t : T) : Env → Option Env := fun e => match e[i]? with
  | none => none
  | some (.io _) => none
  | some _ => some (e.set i (.fz t))
def stO (i : Nat) (t : T) : Env → Option Env := fun e => match e[i]? with
  | none => none
  | some (.io _) => none
  | some _ => some (e.set i (.ow t))
section
variable {G : Gr} {Tm : Amb} {F H : Hp} {σ : St} {env env' : Env} {i : Nat} {t : T} {x : V}
theorem stT_at (e : stT i t env = some env') : ∃ s, env[i]? = some s ∧ (∀ u, s ≠ .io u) ∧ env' = env.set i (.fz t) := by
  unfold stT at e
  cases h : env[i]? with
  | none =>
    rw [h] at e
    cases e
  | some s =>
    rw [h] at e
    cases s with
    | io u => cases e
    | _ =>
      cases e
      exact ⟨_, rfl, fun u z => (by cases z), rfl⟩
theorem stO_at (e : stO i t env = some env') : ∃ s, env[i]? = some s ∧ (∀ u, s ≠ .io u) ∧ env' = env.set i (.ow t) := by
  unfold stO at e
  cases h : env[i]? with
  | none =>
    rw [h] at e
    cases e
  | some s =>
    rw [h] at e
    cases s with
    | io u => cases e
    | _ =>
      cases e
      exact ⟨_, rfl, fun u z => (by cases z), rfl⟩
theorem own_set {s : Sl} {j : Nat} {u : T} (hj : j ≠ i) (h : OwnAt (env.set i s) j u) : OwnAt env j u := by
  rcases h with h | h
  · rw [List.getElem?_set_ne (Ne.symm hj)] at h
    exact .inl h
  · rw [List.getElem?_set_ne (Ne.symm hj)] at h
    exact .inr h
theorem Sok.stT (S : Sok G Tm F H σ env) (r : Rep G F t x) (e : stT i t env = some env') : Sok G Tm F H (σ.set i (some x)) env' := by
  obtain ⟨s, hs, n, rfl⟩ := stT_at e
  have hi : i < env.length := (List.getElem?_eq_some_iff.mp hs).1
  have hi' : i < σ.length := by rw [S.len]; exact hi
  have nown : ∀ {j : Nat} {u : T}, OwnAt (env.set i (.fz t)) j u → j ≠ i := fun {j u} h z => by
    subst z
    rcases h with h | h <;> (rw [List.getElem?_set_self hi] at h; cases h)
  refine ⟨S.sub, S.tm, by simp [S.len], fun j s' e' => ?_, fun j k a t1 u1 h1 h2 h3 h4 => ?_, fun j a t1 h1 h2 => ?_, S.lk, fun j u h => ?_⟩
  · by_cases hj : j = i
    · subst hj
      rw [List.getElem?_set_self hi] at e'
      cases e'
      exact ⟨_, List.getElem?_set_self hi', _, rfl, r⟩
    · rw [List.getElem?_set_ne (Ne.symm hj)] at e' ⊢
      exact S.slot j s' e'
  · have n1 := nown h1
    have n3 := nown h3
    rw [List.getElem?_set_ne (Ne.symm n1)] at h2
    rw [List.getElem?_set_ne (Ne.symm n3)] at h4
    exact S.apart j k a t1 u1 (own_set n1 h1) h2 (own_set n3 h3) h4
  · have n1 := nown h1
    rw [List.getElem?_set_ne (Ne.symm n1)] at h2
    exact S.tmo j a t1 (own_set n1 h1) h2
  · have n1 := nown (.inr h)
    rw [List.getElem?_set_ne (Ne.symm n1)] at h
    obtain ⟨a, e1, e2⟩ := S.pio j u h
    exact ⟨a, e1, by rw [List.getElem?_set_ne (Ne.symm n1)]; exact e2⟩
theorem Sok.stO (S : Sok G Tm F H σ env) (r : RvR G Tm F H σ env (.ow t) x) (e : stO i t env = some env') : Sok G Tm F H (σ.set i (some x)) env' := by
  obtain ⟨s, hs, n, rfl⟩ := stO_at e
  obtain ⟨p, o, rfl, hp, hf, ht, top, hn⟩ := r
  have hi : i < env.length := (List.getElem?_eq_some_iff.mp hs).1
  have hi' : i < σ.length := by rw [S.len]; exact hi
  refine ⟨S.sub, S.tm, by simp [S.len], fun j s' e' => ?_, fun j k a t1 u1 h1 h2 h3 h4 => ?_, fun j a t1 h1 h2 => ?_, S.lk, fun j u h => ?_⟩
  · by_cases hj : j = i
    · subst hj
      rw [List.getElem?_set_self hi] at e'
      cases e'
      exact ⟨_, List.getElem?_set_self hi', p, o, rfl, hp, hf, top⟩
    · rw [List.getElem?_set_ne (Ne.symm hj)] at e' ⊢
      exact S.slot j s' e'
  · by_cases hj : j = i
    · subst hj
      rw [List.getElem?_set_self hi'] at h2
      cases h2
      by_cases hk : k = j
      · exact hk.symm
      · rw [List.getElem?_set_ne (Ne.symm hk)] at h4
        exact absurd h4 (hn k u1 (own_set hk h3))
    · rw [List.getElem?_set_ne (Ne.symm hj)] at h2
      by_cases hk : k = i
      · subst hk
        rw [List.getElem?_set_self hi'] at h4
        cases h4
        exact absurd h2 (hn j t1 (own_set hj h1))
      · rw [List.getElem?_set_ne (Ne.symm hk)] at h4
        exact S.apart j k a t1 u1 (own_set hj h1) h2 (own_set hk h3) h4
  · by_cases hj : j = i
    · subst hj
      rw [List.getElem?_set_self hi'] at h2
      cases h2
      exact ht
    · rw [List.getElem?_set_ne (Ne.symm hj)] at h2
      exact S.tmo j a t1 (own_set hj h1) h2
  · have hj : j ≠ i := fun z => by
      subst z
      rw [List.getElem?_set_self hi] at h
      cases h
    rw [List.getElem?_set_ne (Ne.symm hj)] at h
    obtain ⟨a, e1, e2⟩ := S.pio j u h
    exact ⟨a, e1, by rw [List.getElem?_set_ne (Ne.symm hj)]; exact e2⟩
/-- an own object is changed -/
def chO (j : Nat) (t : T) : Env → Option Env := fun e => match e[j]? with
  | some (.ow _) => some (e.set j (.ow t))
  | some (.io _) => some (e.set j (.io t))
  | _ => none
theorem Sok.chO (S : Sok G Tm F H σ env) {j : Nat} {a : Addr} {o : HO} (hx : σ[j]? = some (some (.ref a))) (top : Top G F o t) (e : chO j t env = some env') : Sok G Tm F (upd H a o) σ env' := by
  have key : ∃ (u : T) (s' : Sl), OwnAt env j u ∧ (s' = .ow t ∨ s' = .io t) ∧ env' = env.set j s' ∧ (∀ w, s' = .io w → ∃ w', env[j]? = some (.io w')) := by
    unfold Ev.chO at e
    cases h : env[j]? with
    | none =>
      rw [h] at e
      cases e
    | some s =>
      rw [h] at e
      cases s with
      | ow u =>
        cases e
        exact ⟨u, _, .inl h, .inl rfl, rfl, fun w z => (by cases z)⟩
      | io u =>
        cases e
        exact ⟨u, _, .inr h, .inr rfl, rfl, fun w z => ⟨u, rfl⟩⟩
      | un => cases e
      | fz u => cases e
  obtain ⟨u, s', ow, es, rfl, hio⟩ := key
  obtain ⟨s0, e0, k0⟩ := ow.get
  obtain ⟨y, hy, ok0⟩ := S.slot j _ e0
  rw [hx] at hy
  cases hy
  obtain ⟨b, o0, eb, hb, fb, _⟩ := ok0.own k0
  cases eb
  have hj : j < env.length := (List.getElem?_eq_some_iff.mp e0).1
  have back : ∀ {k : Nat} {w : T}, OwnAt (env.set j s') k w → ∃ w', OwnAt env k w' := fun {k w} h => by
    by_cases hk : k = j
    · subst hk
      exact ⟨u, ow⟩
    · exact ⟨w, own_set hk h⟩
  refine ⟨fun b u1 e1 => ?_, fun b u1 e1 => ⟨?_, (S.tm b u1 e1).2⟩, by simp [S.len], fun k s1 e1 => ?_, fun k l b t1 u1 h1 h2 h3 h4 => ?_, fun k b t1 h1 h2 => ?_, fun b u1 e1 => ⟨?_, (S.lk b u1 e1).2⟩, fun k w h => ?_⟩
  · have nb : b ≠ a := fun z => by
      rw [z, fb] at e1
      cases e1
    rcases S.sub b u1 e1 with q | ⟨q1, ob, q⟩
    · exact .inl (by rw [upd_ne nb]; exact q)
    · exact .inr ⟨q1, ob, by rw [upd_ne nb]; exact q⟩
  · have nb : b ≠ a := fun z => by
      rw [z, S.tmo j a u ow hx] at e1
      cases e1
    rw [upd_ne nb]
    exact (S.tm b u1 e1).1
  · by_cases hk : k = j
    · subst hk
      rw [List.getElem?_set_self hj] at e1
      cases e1
      refine ⟨_, hx, ?_⟩
      rcases es with es | es
      · subst es
        exact ⟨a, o, rfl, upd_same, fb, top⟩
      · subst es
        exact ⟨a, o, rfl, upd_same, fb, top⟩
    · rw [List.getElem?_set_ne (Ne.symm hk)] at e1
      obtain ⟨z, hz, ok⟩ := S.slot k s1 e1
      refine ⟨z, hz, ?_⟩
      have mv : ∀ {w : T}, (s1 = .ow w ∨ s1 = .io w) → ∃ c oc, z = some (.ref c) ∧ upd H a o c = some oc ∧ F c = none ∧ Top G F oc w := fun {w} kw => by
        obtain ⟨c, oc, ez, hc, fc, tc⟩ := ok.own kw
        refine ⟨c, oc, ez, ?_, fc, tc⟩
        have nc : c ≠ a := fun q => hk (S.apart k j a w u (.of kw e1) (by rw [hz, ez, q]) ow hx)
        rw [upd_ne nc]
        exact hc
      cases s1 with
      | un => exact ok
      | fz w => exact ok
      | ow w => exact mv (.inl rfl)
      | io w => exact mv (.inr rfl)
  · obtain ⟨w1, o1⟩ := back h1
    obtain ⟨w2, o2⟩ := back h3
    exact S.apart k l b w1 w2 o1 h2 o2 h4
  · obtain ⟨w1, o1⟩ := back h1
    exact S.tmo k b w1 o1 h2
  · rw [upd_ne (fun z => (S.lk b u1 e1).2 (by rw [z]; exact fb))]
    exact (S.lk b u1 e1).1
  · by_cases hk : k = j
    · subst hk
      rw [List.getElem?_set_self hj] at h
      cases h
      obtain ⟨w', e'⟩ := hio w rfl
      exact S.pio k w' e'
    · rw [List.getElem?_set_ne (Ne.symm hk)] at h
      exact S.pio k w h
end

/-! ### statements -/
section
variable {C : Cy} {a b c e : Expr} {es : List Expr} {pos pos' : Pos} {st : Stmt} {sts : List Stmt} {f g : SM}
def seqS (f g : SM) : SM := fun env => match f env with
  | .nx e => g e
  | o => o
def nilS : SM := fun env => .nx env
theorem es_nil : EvSs C [] nilS := pss_imp pss_nil fun D σ H ⟨Tm, F, env, S, q⟩ => q σ F H Le.rfl S
theorem es_cons (h : EvS C st f) (h' : EvSs C sts g) : EvSs C (st :: sts) (seqS f g) := by
  refine pss_imp (pss_cons h h') fun D σ H ⟨Tm, F, env, S, q⟩ => ⟨Tm, F, env, S, ?_⟩
  unfold seqS at q
  cases e : f env with
  | nx env1 =>
    rw [e] at q
    exact fun σ' F' H' l S' => ⟨Tm, F', env1, S', AtS.weak l q⟩
  | rt r env1 => rw [e] at q; exact q
  | bk env1 => rw [e] at q; exact q
  | ct env1 => rw [e] at q; exact q
  | ex c fs env1 => rw [e] at q; exact q
  | no => rw [e] at q; exact q
theorem es_one (h : EvS C st f) : EvSs C [st] f := pss_one h
theorem e_pass : EvS C (.Pass pos) nilS := ps_imp ps_pass fun D σ H ⟨Tm, F, env, S, q⟩ => q σ F H Le.rfl S
def ifS (c : M Bool) (f g : SM) : SM := exprS c fun b => if b = true then f else g
theorem e_if {m : M Bool} {as bs : List Stmt} (hc : EvB C c m) (hf : EvSs C as f) (hg : EvSs C bs g) : EvS C (.If c as bs pos) (ifS m f g) := by
  refine ps_imp (ps_if hc hf hg) fun D σ H ⟨Tm, F, env, S, q⟩ => ⟨Tm, F, env, S, ?_⟩
  refine AtS.expr q fun b env1 b' F1 H1 le1 S1 r1 q1 => ?_
  have r1' : b = b' := r1
  subst r1'
  cases b with
  | true => exact ⟨Tm, F1, env1, S1, q1⟩
  | false => exact ⟨Tm, F1, env1, S1, q1⟩
def retS (m : M Rv) : SM := exprS m fun r env => .rt r env
theorem e_ret {m : M Rv} (h : EvE C e m) : EvS C (.Return (some e) pos) (retS m) := by
  refine ps_imp (ps_ret h) fun D σ H ⟨Tm, F, env, S, q⟩ => ⟨Tm, F, env, S, ?_⟩
  exact AtS.expr q fun b env1 x F1 H1 le1 S1 r1 q1 => q1 x σ F1 H1 Le.rfl S1 r1
theorem e_retN : EvS C (.Return none pos) (fun env => .rt (.fz .non) env) := ps_imp ps_retN fun D σ H ⟨Tm, F, env, S, q⟩ => q .non σ F H Le.rfl S mk_non
def dropS (m : M Rv) : SM := exprS m fun r env => .nx env
theorem e_expr {m : M Rv} (h : EvE C e m) (hs : swapsWith e none pos.line C.X.env = pure false := by rfl) : EvS C (.Expr e pos) (dropS m) := by
  refine ps_imp (ps_expr h hs) fun D σ H ⟨Tm, F, env, S, q⟩ => ⟨Tm, F, env, S, ?_⟩
  exact AtS.expr q fun b env1 x F1 H1 le1 S1 r1 q1 => q1 σ F1 H1 Le.rfl S1
theorem e_doc {x j} : EvS C (.Expr (.Constant (.str x) j pos) pos') nilS := ps_imp ps_doc fun D σ H ⟨Tm, F, env, S, q⟩ => q σ F H Le.rfl S
/-- name = value -/
def asgS (i : Nat) (m : M Rv) : SM := exprS m fun r env => match r with
  | .ow t => (match stO i t env with
    | some e => .nx e
    | none => .no)
  | r => exprS (frz r) (fun t env => match stT i t env with
    | some e => .nx e
    | none => .no) env
theorem asg_core {m : M Rv} {D : Ends} {σ : St} {Tm : Amb} {F : Hp} {env : Env} {i : Nat} (q : AtS C Tm F D (asgS i m env)) : At C (RvR C.G) Tm F σ (fun x H => D.nx (σ.set i (some x)) H) (m env) := by
  refine AtS.expr q fun r env1 x F1 H1 le1 S1 r1 q1 => ?_
  have viaF : ∀ r : Rv, RvR C.G Tm F1 H1 σ env1 r x → AtS C Tm F1 D (exprS (frz r) (fun t env => match stT i t env with
    | some e => .nx e
    | none => .no) env1) → D.nx (σ.set i (some x)) H1 := fun r rr qq => by
    unfold exprS at qq
    cases e : frz r env1 with
    | ok t env2 =>
      rw [e] at qq
      obtain ⟨F2, le2, S2, rep⟩ := frz_ok S1 rr e
      dsimp only at qq
      cases e3 : stT i t env2 with
      | none =>
        rw [e3] at qq
        exact qq.elim
      | some env3 =>
        rw [e3] at qq
        exact qq _ F2 H1 le2 (S2.stT rep e3)
    | ex c fs env' => cases r <;> first | cases e | (unfold frz at e; dsimp only at e; split at e <;> cases e)
    | no =>
      rw [e] at qq
      exact qq.elim
  cases r with
  | ow t =>
    dsimp only at q1
    cases e3 : stO i t env1 with
    | none =>
      rw [e3] at q1
      exact q1.elim
    | some env3 =>
      rw [e3] at q1
      exact q1 _ F1 H1 Le.rfl (S1.stO r1 e3)
  | fz t => exact viaF _ r1 q1
  | bo j => exact viaF _ r1 q1
theorem e_asg {i : Nat} {x : Str} {m : M Rv} (hN : C.X.N.Nodup) (hi : C.X.N[i]? = some x) (hx : Loc C.X.env.scope x) (h : EvE C e m) (hs : swapsWith e (some (.Name x pos')) pos.line C.X.env = pure false := by rfl)
    (hf : C.X.fn x = true ∨ C.X.env.scope.names.lookup x = some .local := by first | exact .inl rfl | exact .inr rfl) : EvS C (.Assign [.Name x pos'] e pos) (asgS i m) := by
  refine ps_imp (ps_set hN hi hx h hs hf) fun D σ H ⟨Tm, F, env, S, q⟩ => ⟨Tm, F, env, S, asg_core q⟩

/-! ### targets -/
abbrev TM := T → Env → Option Env
/-- the slots js are stored, no other -/
def Keep (js : List Nat) (σ σ' : St) : Prop := σ'.length = σ.length ∧ ∀ j, j ∉ js → σ'[j]? = σ[j]?
def tGt (G : Gr) (js : List Nat) (f : TM) : TG := fun v σ H Q => ∃ Tm F env t env', Sok G Tm F H σ env ∧ Rep G F t v ∧ f t env = some env' ∧ ∀ σ', Sok G Tm F H σ' env' → Keep js σ σ' → Q σ' H
abbrev EvG (C : Cy) (tg : Expr) (js : List Nat) (f : TM) : Prop := PG C.X tg (tGt C.G js f)
theorem pg_imp {X : Cx} {e : Expr} {t t' : TG} (h : PG X e t) (i : ∀ v σ H Q, t' v σ H Q → t v σ H Q) : PG X e t' := ⟨fun pins s σ H v u Q I r q => h.run pins s σ H v u Q I r (i v σ H Q q)⟩
theorem eg_name {i : Nat} {x : Str} (hN : C.X.N.Nodup) (hi : C.X.N[i]? = some x) (hx : Loc C.X.env.scope x) (hf : C.X.fn x = true ∨ C.X.env.scope.names.lookup x = some .local := by first | exact .inl rfl | exact .inr rfl) : EvG C (.Name x pos) [i] (stT i) :=
  pg_imp (pg_name hN hi hx hf) fun v σ H Q ⟨Tm, F, env, t, env', S, r, e, q⟩ => q _ (S.stT r e) ⟨List.length_set, fun j hj => List.getElem?_set_ne fun z => hj (by simp [z])⟩
abbrev TMs := List T → Env → Option Env
def tGts (G : Gr) (js : List Nat) (f : TMs) : TGs := fun vs σ H Q => ∃ Tm F env ts env', Sok G Tm F H σ env ∧ RepL G F ts vs ∧ f ts env = some env' ∧ ∀ σ', Sok G Tm F H σ' env' → Keep js σ σ' → Q σ' H
abbrev EvGs (C : Cy) (tg : List Expr) (js : List Nat) (f : TMs) : Prop := PGs C.X tg (tGts C.G js f)
theorem pgs_imp {X : Cx} {e : List Expr} {t t' : TGs} (h : PGs X e t) (i : ∀ v σ H Q, t' v σ H Q → t v σ H Q) : PGs X e t' := ⟨fun pins s σ H v u Q I r q => h.run pins s σ H v u Q I r (i v σ H Q q)⟩
def tgNil : TMs := fun ts env => match ts with
  | [] => some env
  | _ => none
def tgCons (f : TM) (g : TMs) : TMs := fun ts env => match ts with
  | [] => none
  | t :: r => (f t env).bind (g r)
theorem eg_nil : EvGs C [] [] tgNil := by
  refine pgs_imp pgs_nil fun v σ H Q ⟨Tm, F, env, ts, env', S, r, e, q⟩ => ?_
  cases ts with
  | nil =>
    cases e
    exact ⟨r.unnil, q σ S ⟨rfl, fun _ _ => rfl⟩⟩
  | cons t r => cases e
theorem eg_cons {tg : Expr} {tgs : List Expr} {js ks : List Nat} {f : TM} {g : TMs} (h : EvG C tg js f) (h' : EvGs C tgs ks g) (hs : (assignEach (tg :: tgs) C.X.env).map (·.2) = assign tg C.X.env :: (assignEach tgs C.X.env).map (·.2) := by rfl) : EvGs C (tg :: tgs) (js ++ ks) (tgCons f g) := by
  refine pgs_imp (pgs_cons h h' hs) fun v σ H Q ⟨Tm, F, env, ts, env', S, r, e, q⟩ => ?_
  cases ts with
  | nil => cases e
  | cons t ts =>
    obtain ⟨x, xs, ex, h1, h2⟩ := r.uncons
    obtain ⟨env1, e1, e2⟩ := Option.bind_eq_some_iff.mp e
    refine ⟨x, xs, ex, Tm, F, env, t, env1, S, h1, e1, fun σ1 S1 k1 => ?_⟩
    exact ⟨Tm, F, env1, ts, env', S1, h2, e2, fun σ2 S2 k2 => q σ2 S2 ⟨k2.1.trans k1.1, fun j hj => (k2.2 j fun z => hj (List.mem_append_right _ z)).trans (k1.2 j fun z => hj (List.mem_append_left _ z))⟩⟩
def tgTup (n : Nat) (g : TMs) : TM := fun t env => match t with
  | .tup ts => if ts.length = n then g ts env else none
  | _ => none
theorem eg_tup {tgs : List Expr} {k n : Nat} {js : List Nat} {g : TMs} (hc : C.X.calm = true) (h : EvGs C tgs js g) (hn : (assignEach tgs C.X.env).length = n := by rfl) (hst : (assignEach tgs C.X.env).findIdx? (·.1) = none := by rfl) : EvG C (.Tuple tgs k pos) js (tgTup n g) := by
  refine pg_imp (pg_tup hc h hn hst) fun v σ H Q ⟨Tm, F, env, t, env', S, r, e, q⟩ => ?_
  cases t <;> first | (cases e; done) | skip
  rename_i ts
  simp only [tgTup] at e
  split at e
  · rename_i hl
    obtain ⟨p, xs, ev, hq, rl⟩ := rep_tup r
    exact ⟨p, xs, ev, S.sqT hq, by rw [rl.length]; exact hl, Tm, F, env, ts, env', S, rl, e, q⟩
  · cases e
/-- target = value -/
def asgGS (m : M T) (f : TM) : SM := exprS m fun t env => match f t env with
  | some e => .nx e
  | none => .no
theorem e_asgG {tg : Expr} {m : M T} {js : List Nat} {f : TM} (h : EvT C e m) (hg : EvG C tg js f) (hs : swapsWithSole [tg] e pos.line C.X.env = pure false := by rfl) (hw : swappedStores [tg] e C.X.env = pure none := by rfl)
    (h1 : (assignEach [tg] C.X.env).map (·.2) = [assign tg C.X.env] := by rfl) : EvS C (.Assign [tg] e pos) (asgGS m f) := by
  refine ps_imp (ps_asg h hg hs hw h1) fun D σ H ⟨Tm, F, env, S, q⟩ => ⟨Tm, F, env, S, ?_⟩
  refine AtS.expr q fun t env1 x F1 H1 le1 S1 r1 q1 => ?_
  cases e3 : f t env1 with
  | none =>
    rw [e3] at q1
    exact q1.elim
  | some env3 =>
    rw [e3] at q1
    exact ⟨Tm, F1, env1, t, env3, S1, r1, e3, fun σ' S' _ => q1 σ' F1 H1 Le.rfl S'⟩
/-- a, b = x, y -/
def parS (i j : Nat) (m : M (List T)) : SM := exprS m fun ts env => match ts with
  | [t, u] => (match (stT i t env).bind (stT j u) with
    | some e => .nx e
    | none => .no)
  | _ => .no
theorem e_par {i j : Nat} {x y : Str} {px py pt : Pos} {kt k2 pt2} {m : M (List T)} (hc : C.X.calm = true) (hN : C.X.N.Nodup) (hi : C.X.N[i]? = some x) (hj : C.X.N[j]? = some y) (hij : i ≠ j)
    (hx : C.X.env.scope.names.lookup x = some .local) (hy : C.X.env.scope.names.lookup y = some .local) (h : EvA C [a, b] m)
    (hw : swappedStores [.Tuple [.Name x px, .Name y py] kt pt] (.Tuple [a, b] k2 pt2) C.X.env = pure (some [x, y]))
    (hs : swapsWithSole [.Tuple [.Name x px, .Name y py] kt pt] (.Tuple [a, b] k2 pt2) pos.line C.X.env = pure false := by rfl) :
    EvS C (.Assign [.Tuple [.Name x px, .Name y py] kt pt] (.Tuple [a, b] k2 pt2) pos) (parS i j m) := by
  refine ps_imp (ps_par hc hN hi hj hij hx hy h hw hs) fun D σ H ⟨Tm, F, env, S, q⟩ => ⟨Tm, F, env, S, ?_⟩
  refine AtS.expr q fun ts env1 xs F1 H1 le1 S1 r1 q1 => ?_
  cases ts with
  | nil => exact q1.elim
  | cons t ts =>
    cases ts with
    | nil => exact q1.elim
    | cons u ts =>
      cases ts with
      | cons _ _ => exact q1.elim
      | nil =>
        obtain ⟨v1, r1', e1, h1, h2⟩ := r1.uncons
        obtain ⟨v2, r2', e2, h3, h4⟩ := h2.uncons
        refine ⟨v1, v2, by rw [e1, e2, h4.unnil], ?_⟩
        dsimp only at q1
        cases e3 : (stT i t env1).bind (stT j u) with
        | none =>
          rw [e3] at q1
          exact q1.elim
        | some env3 =>
          rw [e3] at q1
          obtain ⟨env2, k1, k2⟩ := Option.bind_eq_some_iff.mp e3
          exact q1 _ F1 H1 Le.rfl ((S1.stT h1 k1).stT h3 k2)

/-! ### what is changed in place -/
def setT : T → T → T → Option T
  | .lst ts, .int k, v => (ixN ts.length k).map fun j => .lst (ts.set j v)
  | _, _, _ => none
/-- o[i] = v, o a name -/
def setS (m : M T) (f : M Rv) (g : M T) : SM := exprS m fun v => exprS f fun r => match r with
  | .bo j => exprS g fun i env => (match env[j]? with
    | some (.ow t) => (match (setT t i v).bind fun t' => chO j t' env with
      | some e => .nx e
      | none => .no)
    | some (.io t) => (match (setT t i v).bind fun t' => chO j t' env with
      | some e => .nx e
      | none => .no)
    | _ => .no)
  | _ => fun _ => .no
theorem e_set {m g : M T} {f : M Rv} {spos : Pos} (h : EvT C e m) (ho : EvE C a f) (hi : EvT C b g)
    (ha : ∀ v, assign (.Subscript a b spos) C.X.env v = (do
      let ov ← holding [v] (eval a C.X.env)
      let iv ← holding [v, ov] (eval b C.X.env)
      standAt spos
      holding [v, ov, iv] (setItem ov iv v)
      release [v, ov, iv] []) := by intro _; rfl)
    (hs : swapsWithSole [.Subscript a b spos] e pos.line C.X.env = pure false := by rfl) (hw : swappedStores [.Subscript a b spos] e C.X.env = pure none := by rfl)
    (h1 : (assignEach [.Subscript a b spos] C.X.env).map (·.2) = [assign (.Subscript a b spos) C.X.env] := by rfl) : EvS C (.Assign [.Subscript a b spos] e pos) (setS m f g) := by
  refine ps_imp (ps_asg h (pg_sub ho hi set_list ha) hs hw h1) fun D σ H ⟨Tm, F, env, S, q⟩ => ⟨Tm, F, env, S, ?_⟩
  refine AtS.expr q fun v env1 x F1 H1 le1 S1 r1 q1 => ⟨Tm, F1, env1, S1, ?_⟩
  refine AtS.expr q1 fun r env2 o F2 H2 le2 S2 r2 q2 => ?_
  cases r with
  | fz _ => exact q2.elim
  | ow _ => exact q2.elim
  | bo j =>
    refine ⟨Tm, F2, env2, S2, ?_⟩
    refine AtS.expr q2 fun i env3 y F3 H3 le3 S3 r3 q3 => ?_
    have go : ∀ t, OwnAt env3 j t → AtS C Tm F3 D (match (setT t i v).bind fun t' => chO j t' env3 with
      | some e => .nx e
      | none => .no) → rSetL o y x H3 fun H' => D.nx σ H' := fun t own qq => by
      cases e3 : (setT t i v).bind fun t' => chO j t' env3 with
      | none =>
        rw [e3] at qq
        exact qq.elim
      | some env4 =>
        rw [e3] at qq
        obtain ⟨t', k1, k2⟩ := Option.bind_eq_some_iff.mp e3
        obtain ⟨s0, e0, k0⟩ := own.get
        obtain ⟨z, hz, ok⟩ := S3.slot j _ e0
        obtain ⟨p, ob, ez, hp, fp, top⟩ := ok.own k0
        have hx : σ[j]? = some (some o) := r2.1
        rw [hz] at hx
        cases hx
        cases ez
        cases t <;> cases i <;> first | (cases k1; done) | skip
        rename_i ts ix
        simp only [setT, Option.map_eq_some_iff] at k1
        obtain ⟨n, kn, kt⟩ := k1
        subst kt
        obtain ⟨xs, eo, rl⟩ := top
        subst eo
        refine ⟨p, xs, _, n, rfl, rep_int r3, hp, by rw [rl.length]; exact kn, ?_⟩
        exact qq σ F3 _ Le.rfl (S3.chO (t := .lst (ts.set n v)) hz ⟨_, rfl, rl.set n (Rep.mono (le2.trans le3) v r1)⟩ k2)
    cases e4 : env3[j]? with
    | none =>
      rw [e4] at q3
      exact q3.elim
    | some s =>
      rw [e4] at q3
      cases s with
      | un => exact q3.elim
      | fz _ => exact q3.elim
      | ow t => exact go t (.inl e4) q3
      | io t => exact go t (.inr e4) q3
end
end Ev
/-! Ev5: what is walked; for, while; list comprehensions. -/
namespace Ev
open PySem PySem.Spec L2
/-- it walks ts, while F is known and the locks hold -/
structure Wk (G : Gr) (J : It) (ts : List T) (F : Hp) (lk : List (Addr × (Obj × HO))) : Prop where
  go : ∀ i Tm F2 H σ env, i < ts.length → Le F F2 → Sok G Tm F2 H σ env → (∀ p ∈ lk, Tm.l p.1 = some p.2) → J.go i H
  yld : ∀ i Tm F2 H σ env x H', i < ts.length → Le F F2 → Sok G Tm F2 H σ env → (∀ p ∈ lk, Tm.l p.1 = some p.2) → J.yld i H x H' → ∃ F3 t, Le F2 F3 ∧ Sok G Tm F3 H' σ env ∧ ts[i]? = some t ∧ Rep G F3 t x ∧ ∀ a o, H a = some o → H' a = some o
  stop : ∀ Tm F2 H σ env, Le F F2 → Sok G Tm F2 H σ env → (∀ p ∈ lk, Tm.l p.1 = some p.2) → J.stop ts.length H
abbrev WkR (G : Gr) (lk : List (Addr × (Obj × HO))) : RelT (List T) It := fun _ F _ _ _ ts J => Wk G J ts F lk
abbrev EvI (C : Cy) (tg e : Expr) (f : M (List T)) : Prop := PI C.X tg e (tG C (WkR C.G []) f)
theorem pi_imp {X : Cx} {tg e : Expr} {t t' : TI} (h : PI X tg e t) (i : ∀ σ H Q, t' σ H Q → t σ H Q) : PI X tg e t' := ⟨fun pins s σ H Q I q => h.run pins s σ H Q I (i σ H Q q)⟩
section
variable {G : Gr} {F : Hp}
theorem wk_list {a : Addr} {xs : List V} {ts : List T} (h : LstAt G.K F a xs) (r : RepL G F ts xs) : Wk G (Itl G.K a) ts F [] := by
  refine ⟨fun i Tm F2 H σ env hi le S _ => ?_, fun i Tm F2 H σ env x H' hi le S _ y => ?_, fun Tm F2 H σ env le S _ => ?_⟩
  · obtain ⟨x, hx, _⟩ := r.get (List.getElem?_eq_getElem hi)
    exact ⟨xs, x, (S.lstAt (le.lstAt h)).sq, hx⟩
  · obtain ⟨e, y⟩ := y
    subst e
    obtain ⟨t, ht, rt⟩ := r.getV (y xs ((S.lstAt (le.lstAt h)).sq))
    exact ⟨F2, t, Le.rfl, S, ht, Rep.mono le t rt, fun _ _ h => h⟩
  · exact ⟨xs, (S.lstAt (le.lstAt h)).sq, by rw [r.length]; exact Nat.le_refl _⟩
theorem wk_tup {a : Addr} {xs : List V} {ts : List T} (h : SqT G.K F a xs) (r : RepL G F ts xs) : Wk G (Itt G.K a) ts F [] := by
  refine ⟨fun i Tm F2 H σ env hi le S _ => ?_, fun i Tm F2 H σ env x H' hi le S _ y => ?_, fun Tm F2 H σ env le S _ => ?_⟩
  · obtain ⟨x, hx, _⟩ := r.get (List.getElem?_eq_getElem hi)
    exact ⟨xs, x, S.sqT (le.sqT h), hx⟩
  · obtain ⟨e, y⟩ := y
    subst e
    obtain ⟨t, ht, rt⟩ := r.getV (y xs (S.sqT (le.sqT h)))
    exact ⟨F2, t, Le.rfl, S, ht, Rep.mono le t rt, fun _ _ h => h⟩
  · exact ⟨xs, S.sqT (le.sqT h), by rw [r.length]; exact Nat.le_refl _⟩
def signs (z : Str) : List T := z.cps.toList.map fun c => T.str ⟨#[c]⟩
theorem wk_str {z : Str} : Wk G (Its z) (signs z) F [] := by
  have hl : (signs z).length = z.cps.size := by simp [signs]
  refine ⟨fun i Tm F2 H σ env hi le S _ => ?_, fun i Tm F2 H σ env x H' hi le S _ y => ?_, fun Tm F2 H σ env le S _ => ?_⟩
  · show i < z.cps.size
    omega
  · obtain ⟨e, c, hc, ex⟩ := y
    subst e ex
    exact ⟨F2, .str ⟨#[c]⟩, Le.rfl, S, by simp [signs, hc], mk_str _, fun _ _ h => h⟩
  · show z.cps.size ≤ _
    omega
def ups (lo : Int) (n : Nat) : List T := (List.range n).map fun i => T.int (lo + (i : Nat))
theorem wk_range {lo : Int} {n : Nat} : Wk G (Itr lo n) (ups lo n) F [] := by
  have hl : (ups lo n).length = n := by simp [ups]
  refine ⟨fun i Tm F2 H σ env hi le S _ => ?_, fun i Tm F2 H σ env x H' hi le S _ y => ?_, fun Tm F2 H σ env le S _ => ?_⟩
  · show i < n
    omega
  · obtain ⟨e, ex⟩ := y
    subst e ex
    rw [hl] at hi
    exact ⟨F2, .int (lo + i), Le.rfl, S, by simp [ups, hi], mk_int _, fun _ _ h => h⟩
  · show n ≤ _
    omega
end
section
variable {C : Cy} {tg e : Expr} {pos : Pos}
/-- the items of a list, a tuple, a text -/
def seqT : T → Option (List T)
  | .lst ts => some ts
  | .tup ts => some ts
  | .str s => some (signs s)
  | _ => none
/-- a list, a tuple or a text, walked: by cases behind its own evaluation -/
theorem ei_seq {f : M T} (h : EvT C e f) : EvI C tg e (M.bind f fun t => M.of (seqT t)) := by
  refine ⟨fun pins s σ H R I hw => ?_⟩
  obtain ⟨Tm, F, env, S, q⟩ := hw
  have hx : tG C (TR C.G) f σ H fun x H1 => (∃ a xs, x = .ref a ∧ SqL C.X.K H1 a xs ∧ R (Itl C.X.K a) H1) ∨ (∃ a xs, x = .ref a ∧ SqT C.X.K H1 a xs ∧ R (Itt C.X.K a) H1) ∨ ∃ z, x = .str z ∧ R (Its z) H1 := by
    refine ⟨Tm, F, env, S, ?_⟩
    refine At.bind (R' := WkR C.G []) (Q' := R) q fun t env1 x F1 H1 le1 S1 r1 q1 => of_some q1 fun ts hts q2 => ?_
    cases t <;> first | (cases hts; done) | skip
    · cases hts
      exact .inr (.inr ⟨_, rep_str r1, q2 _ F1 H1 Le.rfl S1 wk_str⟩)
    · cases hts
      obtain ⟨a, xs, ex, hq, rl⟩ := rep_tup r1
      exact .inr (.inl ⟨a, xs, ex, S1.sqT hq, q2 _ F1 H1 Le.rfl S1 (wk_tup hq rl)⟩)
    · cases hts
      obtain ⟨a, xs, ex, hq, rl⟩ := rep_lst r1
      exact .inl ⟨a, xs, ex, (S1.lstAt hq).sq, q2 _ F1 H1 Le.rfl S1 (wk_list hq rl)⟩
  refine thn (h.run pins s σ H _ I hx) fun v s1 ⟨x, H1, I1, r1, q1⟩ => ?_
  rcases q1 with ⟨a, xs, ex, hq, q1⟩ | ⟨a, xs, ex, hq, q1⟩ | ⟨z, ex, q1⟩
  · subst ex
    obtain rfl : v = Value.ref a := r1
    obtain ⟨its, rv, p, hz⟩ := I1.list hq
    have nw : FpOk C.X pins H1 s1.heap.objs.size := I1.fpOk (Nat.le_refl _) (I1.hok.fresh (Nat.le_refl _))
    refine wpAny_pyIter_list p.isList ⟨s1.heap.objs.size, [s1.heap.objs.size], fun i h => h.IsListIter s1.heap.objs.size a i, Itl C.X.K a, H1, rfl,
      I1.kept (t' := s1.toks) fun b o e => Heap.get?_push_of_some _ e, turn_list a _, ⟨_, Heap.get?_push_size _ rfl, rfl, rfl⟩, fun b hb => ?_, q1⟩
    rw [List.mem_singleton.mp hb]
    exact nw
  · subst ex
    obtain rfl : v = Value.ref a := r1
    obtain ⟨its, rv, p, hz⟩ := I1.tuple hq
    have nw : FpOk C.X pins H1 s1.heap.objs.size := I1.fpOk (Nat.le_refl _) (I1.hok.fresh (Nat.le_refl _))
    refine wpAny_pyIter_tuple (show s1.heap.IsTuple a its.toArray from p) ⟨s1.heap.objs.size, [s1.heap.objs.size], fun i h => h.IsTupleIter s1.heap.objs.size a i, Itt C.X.K a, H1, rfl,
      I1.kept (t' := s1.toks) fun b o e => Heap.get?_push_of_some _ e, turn_tuple a _, ⟨_, Heap.get?_push_size _ rfl, rfl, rfl⟩, fun b hb => ?_, q1⟩
    rw [List.mem_singleton.mp hb]
    exact nw
  · subst ex
    obtain ⟨t, rfl⟩ : ∃ t, v = Value.str z t := r1
    cases ha : z.cps.all (· < 128) with
    | false => exact wpAny_pyIter_wide ha (pi_one (tk := s1.toks) I1 _ (turn_str _ z t "str_iterator" (.inr rfl)) ⟨_, Heap.get?_push_size _ rfl, rfl, rfl⟩ q1)
    | true => exact wpAny_pyIter_ascii ha (pi_one (tk := s1.toks) I1 _ (turn_str _ z t "str_ascii_iterator" (.inl rfl)) ⟨_, Heap.get?_push_size _ rfl, rfl, rfl⟩ q1)
def rng1 : List T → Option (List T)
  | [.int j] => if -(2 ^ 62) ≤ j ∧ j < 2 ^ 62 then some (ups 0 j.toNat) else none
  | _ => none
def rng2 : List T → Option (List T)
  | [.int i, .int j] => if -(2 ^ 62) ≤ i ∧ i < 2 ^ 62 ∧ -(2 ^ 62) ≤ j ∧ j < 2 ^ 62 then some (ups i (j - i).toNat) else none
  | _ => none
theorem ei_range1 {a : Expr} {f : M (List T)} {p : Pos} (hg : Gl C.X "range") (hm : C.X.mg "range" = none) (ha : EvA C [a] f) (hs : starEach [a] C.X.env = [(false, eval a C.X.env)] := by rfl) : EvI C tg (.Call (.Name "range" p) [a] [] pos) (M.bind f fun ts => M.of (rng1 ts)) := by
  refine pi_imp (pi_range1 hg hm ha hs) fun σ H R ⟨Tm, F, env, S, q⟩ => ⟨Tm, F, env, S, ?_⟩
  refine At.bind (R' := WkR C.G []) (Q' := R) q fun ts env1 xs F1 H1 le1 S1 r1 q1 => of_some q1 fun us hus q2 => ?_
  unfold rng1 at hus
  split at hus
  · split at hus
    · rename_i hz
      cases hus
      obtain ⟨x, r, ex, h1, h2⟩ := r1.uncons
      exact ⟨_, by rw [ex, h2.unnil, rep_int h1], hz.1, hz.2, q2 _ F1 H1 Le.rfl S1 wk_range⟩
    · cases hus
  · cases hus
theorem ei_range2 {a b : Expr} {f : M (List T)} {p : Pos} (hg : Gl C.X "range") (hm : C.X.mg "range" = none) (ha : EvA C [a, b] f) (hs : starEach [a, b] C.X.env = [(false, eval a C.X.env), (false, eval b C.X.env)] := by rfl)
    (hs2 : starEach [b] C.X.env = [(false, eval b C.X.env)] := by rfl) : EvI C tg (.Call (.Name "range" p) [a, b] [] pos) (M.bind f fun ts => M.of (rng2 ts)) := by
  refine pi_imp (pi_range2 hg hm ha hs hs2) fun σ H R ⟨Tm, F, env, S, q⟩ => ⟨Tm, F, env, S, ?_⟩
  refine At.bind (R' := WkR C.G []) (Q' := R) q fun ts env1 xs F1 H1 le1 S1 r1 q1 => of_some q1 fun us hus q2 => ?_
  unfold rng2 at hus
  split at hus
  · split at hus
    · rename_i hz
      cases hus
      exact ⟨_, _, two_ints r1, hz, q2 _ F1 H1 Le.rfl S1 wk_range⟩
    · cases hus
  · cases hus

/-! ### for -/
def loopS (tg : TM) (body : SM) : List T → SM
  | [] => nilS
  | t :: ts => fun env => match tg t env with
    | none => .no
    | some e1 => match body e1 with
      | .nx e => loopS tg body ts e
      | .ct e => loopS tg body ts e
      | .bk e => .nx e
      | .rt r e => .rt r e
      | .ex c fs e => .ex c fs e
      | .no => .no
def forS (f : M (List T)) (tg : TM) (body : SM) : SM := exprS f fun ts => loopS tg body ts
abbrev Own (C : Cy) : Prop := PassesOwn (model C.X.prog C.X.w) C.X.A C.X.env C.X.xe
theorem e_for {iter : Expr} {body : List Stmt} {f : M (List T)} {js : List Nat} {g : TM} {b : SM} (hp : Own C) (hc : C.X.calm = true) (hi : EvI C tg iter f) (hg : EvG C tg js g) (hb : EvSs C body b)
    (hs : ∀ x, foldedSetIterable iter C.X.env x = pure x := by intro _; rfl) : EvS C (.For tg iter body [] pos) (forS f g b) := by
  refine ps_imp (ps_for hp hc hi hg hb hs) fun D σ H ⟨Tm, F, env, S, q⟩ => ⟨Tm, F, env, S, ?_⟩
  refine AtS.expr q fun ts env1 J F1 H1 le1 S1 w q1 => ?_
  refine ⟨fun i m σ H => m = ts.length - i ∧ i ≤ ts.length ∧ ∃ F2 env2, Le F1 F2 ∧ Sok C.G Tm F2 H σ env2 ∧ AtS C Tm F2 D (loopS g b (ts.drop i) env2), ⟨ts.length, by simp, Nat.zero_le _, F1, env1, Le.rfl, S1, q1⟩, ?_⟩
  rintro i m σ2 H2 ⟨rfl, hi, F2, env2, le2, S2, q2⟩
  by_cases hlt : i < ts.length
  · refine .inr ⟨w.go i Tm F2 H2 σ2 env2 hlt le2 S2 (fun _ z => nomatch z), fun σ' H' => ∃ F3 env3, Le F1 F3 ∧ Sok C.G Tm F3 H' σ' env3 ∧ AtS C Tm F3 D (loopS g b (ts.drop (i + 1)) env3), fun σ' H' ⟨F3, env3, l3, S3, q3⟩ => ⟨_, (by omega : ts.length - (i + 1) < ts.length - i), rfl, hlt, F3, env3, l3, S3, q3⟩, fun x H' y => ?_⟩
    obtain ⟨F3, t, l3, S3, ht, rt, _⟩ := w.yld i Tm F2 H2 σ2 env2 x H' hlt le2 S2 (fun _ z => nomatch z) y
    have ed : ts.drop i = t :: ts.drop (i + 1) := by
      have h2 := List.getElem?_eq_some_iff.mp ht
      rw [List.drop_eq_getElem_cons hlt, h2.2]
    rw [ed] at q2
    simp only [loopS] at q2
    cases e1 : g t env2 with
    | none =>
      rw [e1] at q2
      exact q2.elim
    | some env3 =>
      rw [e1] at q2
      refine ⟨Tm, F3, env2, t, env3, S3, rt, e1, fun σ' S' _ => ⟨Tm, F3, env3, S', ?_⟩⟩
      dsimp only at q2
      cases e2 : b env3 with
      | nx env4 =>
        rw [e2] at q2
        exact fun σ4 F4 H4 l4 S4 => ⟨F4, env4, (le2.trans l3).trans l4, S4, AtS.weak (l3.trans l4) q2⟩
      | ct env4 =>
        rw [e2] at q2
        exact fun σ4 F4 H4 l4 S4 => ⟨F4, env4, (le2.trans l3).trans l4, S4, AtS.weak (l3.trans l4) q2⟩
      | bk env4 =>
        rw [e2] at q2
        exact AtS.weak (m := .nx env4) l3 q2
      | rt r env4 =>
        rw [e2] at q2
        exact AtS.weak (m := .rt r env4) l3 q2
      | ex c fs env4 =>
        rw [e2] at q2
        exact AtS.weak (m := .ex c fs env4) l3 q2
      | no =>
        rw [e2] at q2
        exact q2.elim
  · have e : i = ts.length := by omega
    subst e
    refine .inl ⟨w.stop Tm F2 H2 σ2 env2 le2 S2 (fun _ z => nomatch z), ?_⟩
    rw [List.drop_length] at q2
    exact q2 σ2 F2 H2 Le.rfl S2

/-! ### while -/
def whileS (c : M Bool) (body : SM) : Nat → SM
  | 0 => fun _ => .no
  | n + 1 => exprS c fun k => if k = true then fun env => (match body env with
      | .nx e => whileS c body n e
      | .ct e => whileS c body n e
      | .bk e => .nx e
      | .rt r e => .rt r e
      | .ex c fs e => .ex c fs e
      | .no => .no) else nilS
theorem e_while {c : Expr} {body : List Stmt} {m : M Bool} {b : SM} {n : Nat} (hp : Own C) (hc : EvB C c m) (hb : EvSs C body b) : EvS C (.While c body [] pos) (whileS m b n) := by
  refine ps_imp (ps_while hp hc hb) fun D σ H ⟨Tm, F, env, S, q⟩ => ?_
  refine ⟨fun k σ H => ∃ F2 env2, Le F F2 ∧ Sok C.G Tm F2 H σ env2 ∧ AtS C Tm F2 D (whileS m b k env2), ⟨n, F, env, Le.rfl, S, q⟩, ?_⟩
  rintro k σ2 H2 ⟨F2, env2, le2, S2, q2⟩
  cases k with
  | zero => exact q2.elim
  | succ k =>
    refine ⟨Tm, F2, env2, S2, ?_⟩
    refine AtS.expr q2 fun t env3 t' F3 H3 le3 S3 r3 q3 => ?_
    have r3' : t = t' := r3
    subst r3'
    cases t with
    | false => exact q3 σ2 F3 H3 Le.rfl S3
    | true =>
      rw [if_pos rfl] at q3 ⊢
      refine ⟨fun σ' H' => ∃ F5 env5, Le F F5 ∧ Sok C.G Tm F5 H' σ' env5 ∧ AtS C Tm F5 D (whileS m b k env5), fun σ' H' w => ⟨k, Nat.lt_succ_self k, w⟩, Tm, F3, env3, S3, ?_⟩
      cases e2 : b env3 with
      | nx env4 =>
        rw [e2] at q3
        exact fun σ4 F4 H4 l4 S4 => ⟨F4, env4, (le2.trans le3).trans l4, S4, AtS.weak l4 q3⟩
      | ct env4 =>
        rw [e2] at q3
        exact fun σ4 F4 H4 l4 S4 => ⟨F4, env4, (le2.trans le3).trans l4, S4, AtS.weak l4 q3⟩
      | bk env4 =>
        rw [e2] at q3
        exact q3
      | rt r env4 =>
        rw [e2] at q3
        exact q3
      | ex c fs env4 =>
        rw [e2] at q3
        exact q3
      | no =>
        rw [e2] at q3
        exact q3.elim
end
end Ev
/-! Ev6: list comprehensions. -/
namespace Ev
open PySem PySem.Spec L2
/-- the block's own slots, unset -/
def unE : List Nat → Env → Env
  | [], e => e
  | v :: vs, e => (unE vs e).set v .un
/-- .. as they were -/
def asE (e0 : Env) : List Nat → Env → Env
  | [], e => e
  | v :: vs, e => (asE e0 vs e).set v ((e0[v]?).getD .un)
def okE (e : Env) (vs : List Nat) : Bool := vs.all fun v => match e[v]? with
  | some .un => true
  | some (.fz _) => true
  | _ => false
/-- [elt for tg in ts if tt] -/
def compL (tg : TM) (tt : M Bool) (elt : M T) (vs : List Nat) : List T → M (List T)
  | [] => M.pure []
  | t :: ts => fun e0 => match okE e0 vs with
    | false => .no
    | true => match tg t (unE vs e0) with
      | none => .no
      | some e1 => match tt e1 with
        | .ok true e2 => (match elt e2 with
          | .ok v e3 => (match compL tg tt elt vs ts (asE e0 vs e3) with
            | .ok us e4 => .ok (v :: us) e4
            | _ => .no)
          | _ => .no)
        | .ok false e2 => (match compL tg tt elt vs ts (asE e0 vs e2) with
          | .ok us e4 => .ok us e4
          | _ => .no)
        | _ => .no
def compM (f : M (List T)) (tg : TM) (tt : M Bool) (elt : M T) (vs : List Nat) : M Rv := M.bind f fun ts => if ts.length ≤ sizeLine then M.bind (compL tg tt elt vs ts) fun us => M.pure (.ow (.lst us)) else M.no

section
variable {G : Gr} {Tm : Amb} {F H : Hp} {σ σ' : St} {env env' : Env} {vs : List Nat}
theorem unE_len : ∀ vs : List Nat, (unE vs env).length = env.length
  | [] => rfl
  | v :: vs => by unfold unE; rw [List.length_set, unE_len vs]
theorem asE_len {e0 : Env} : ∀ vs : List Nat, (asE e0 vs env).length = env.length
  | [] => rfl
  | v :: vs => by unfold asE; rw [List.length_set, asE_len vs]
theorem unE_out {j : Nat} : ∀ {vs : List Nat}, j ∉ vs → (unE vs env)[j]? = env[j]?
  | [], _ => rfl
  | v :: vs, h => by
    unfold unE
    rw [List.getElem?_set_ne (fun z => h (by simp [z])), unE_out fun z => h (List.mem_cons_of_mem _ z)]
theorem unE_in {j : Nat} {s : Sl} : ∀ {vs : List Nat}, j ∈ vs → (unE vs env)[j]? = some s → s = .un
  | [], h, _ => nomatch h
  | v :: vs, h, e => by
    unfold unE at e
    by_cases hv : v = j
    · subst hv
      by_cases hl : v < (unE vs env).length
      · rw [List.getElem?_set_self hl] at e
        exact (Option.some.inj e).symm
      · rw [List.getElem?_eq_none (by simpa using hl)] at e
        cases e
    · rw [List.getElem?_set_ne hv] at e
      exact unE_in (by rcases List.mem_cons.mp h with z | z; exact absurd z.symm hv; exact z) e
theorem asE_out {e0 : Env} {j : Nat} : ∀ {vs : List Nat}, j ∉ vs → (asE e0 vs env)[j]? = env[j]?
  | [], _ => rfl
  | v :: vs, h => by
    unfold asE
    rw [List.getElem?_set_ne (fun z => h (by simp [z])), asE_out fun z => h (List.mem_cons_of_mem _ z)]
theorem asE_in {e0 : Env} {j : Nat} {s : Sl} : ∀ {vs : List Nat}, j ∈ vs → (asE e0 vs env)[j]? = some s → s = (e0[j]?).getD .un
  | [], h, _ => nomatch h
  | v :: vs, h, e => by
    unfold asE at e
    by_cases hv : v = j
    · subst hv
      by_cases hl : v < (asE e0 vs env).length
      · rw [List.getElem?_set_self hl] at e
        exact (Option.some.inj e).symm
      · rw [List.getElem?_eq_none (by simpa using hl)] at e
        cases e
    · rw [List.getElem?_set_ne hv] at e
      exact asE_in (by rcases List.mem_cons.mp h with z | z; exact absurd z.symm hv; exact z) e
theorem wipe_in {j : Nat} : ∀ {vs : List Nat}, j ∈ vs → j < σ.length → (wipe σ vs)[j]? = some none
  | [], h, _ => nomatch h
  | v :: vs, h, hl => by
    unfold wipe
    by_cases hv : v = j
    · subst hv
      rw [List.getElem?_set_self (by rw [wipe_length]; exact hl)]
    · rw [List.getElem?_set_ne hv]
      exact wipe_in (by rcases List.mem_cons.mp h with z | z; exact absurd z.symm hv; exact z) hl
theorem wipe_keep (hl : σ'.length = σ.length) (k : ∀ j, j ∉ vs → σ'[j]? = σ[j]?) : wipe σ' vs = wipe σ vs := by
  apply List.ext_getElem?
  intro j
  by_cases h : j ∈ vs
  · by_cases hj : j < σ.length
    · rw [wipe_in h hj, wipe_in h (by rw [hl]; exact hj)]
    · rw [List.getElem?_eq_none (by rw [wipe_length]; omega), List.getElem?_eq_none (by rw [wipe_length]; omega)]
  · rw [wipe_out h, wipe_out h, k j h]
theorem okE_at (h : okE env vs = true) {j : Nat} (hj : j ∈ vs) : env[j]? = some .un ∨ ∃ t, env[j]? = some (.fz t) := by
  have := List.all_eq_true.mp h j hj
  split at this
  · rename_i e
    exact .inl e
  · rename_i t e
    exact .inr ⟨t, e⟩
  · cases this
/-- into the block -/
theorem Sok.enter (S : Sok G Tm F H σ env) (h : okE env vs = true) : Sok G Tm F H (wipe σ vs) (unE vs env) := by
  have back : ∀ {i : Nat} {t : T}, OwnAt (unE vs env) i t → OwnAt env i t ∧ i ∉ vs := fun {i t} o => by
    obtain ⟨s, e, k⟩ := o.get
    have ni : i ∉ vs := fun z => by
      have q := unE_in z e
      subst q
      rcases k with k | k <;> cases k
    rw [unE_out ni] at e
    exact ⟨.of k e, ni⟩
  refine ⟨S.sub, S.tm, by rw [wipe_length, unE_len, S.len], fun i s e => ?_, fun i j a t u h1 h2 h3 h4 => ?_, fun i a t h1 h2 => ?_, S.lk, fun i t e => ?_⟩
  · by_cases hi : i ∈ vs
    · have q := unE_in hi e
      subst q
      have hl : i < σ.length := by
        have := (List.getElem?_eq_some_iff.mp e).1
        rw [unE_len, ← S.len] at this
        exact this
      exact ⟨none, wipe_in hi hl, True.intro⟩
    · rw [unE_out hi] at e
      rw [wipe_out hi]
      exact S.slot i s e
  · obtain ⟨o1, n1⟩ := back h1
    obtain ⟨o3, n3⟩ := back h3
    rw [wipe_out n1] at h2
    rw [wipe_out n3] at h4
    exact S.apart i j a t u o1 h2 o3 h4
  · obtain ⟨o1, n1⟩ := back h1
    rw [wipe_out n1] at h2
    exact S.tmo i a t o1 h2
  · obtain ⟨o1, n1⟩ := back (.inr e)
    rw [unE_out n1] at e
    rw [wipe_out n1]
    exact S.pio i t e
/-- back from the block: σ as it was, the other slots as they are now -/
theorem Sok.leave {F0 H0 : Hp} {Tm0 : Amb} {e0 : Env} (S0 : Sok G Tm0 F0 H0 σ e0) (h : okE e0 vs = true) (le : Le F0 F) (S : Sok G Tm F H σ' env) (k : ∀ j, j ∉ vs → σ'[j]? = σ[j]?) (hl : env.length = e0.length) : Sok G Tm F H σ (asE e0 vs env) := by
  have back : ∀ {i : Nat} {t : T}, OwnAt (asE e0 vs env) i t → OwnAt env i t ∧ i ∉ vs := fun {i t} o => by
    obtain ⟨s, e, ks⟩ := o.get
    have ni : i ∉ vs := fun z => by
      have q := asE_in z e
      rcases okE_at h z with w | ⟨u, w⟩
      · rw [w] at q
        subst q
        rcases ks with ks | ks <;> cases ks
      · rw [w] at q
        subst q
        rcases ks with ks | ks <;> cases ks
    rw [asE_out ni] at e
    exact ⟨.of ks e, ni⟩
  refine ⟨S.sub, S.tm, by rw [asE_len, hl, S0.len], fun i s e => ?_, fun i j a t u h1 h2 h3 h4 => ?_, fun i a t h1 h2 => ?_, S.lk, fun i t e => ?_⟩
  · by_cases hi : i ∈ vs
    · have q := asE_in hi e
      rcases okE_at h hi with w | ⟨u, w⟩
      · rw [w] at q
        obtain ⟨x, hx, ok⟩ := S0.slot i _ w
        have q' : s = .un := q
        subst q'
        exact ⟨x, hx, ok⟩
      · rw [w] at q
        obtain ⟨x, hx, v, ev, rv⟩ := S0.slot i _ w
        have q' : s = .fz u := q
        subst q'
        exact ⟨x, hx, v, ev, Rep.mono le u rv⟩
    · rw [asE_out hi] at e
      obtain ⟨x, hx, ok⟩ := S.slot i s e
      exact ⟨x, by rw [← k i hi]; exact hx, ok⟩
  · obtain ⟨o1, n1⟩ := back h1
    obtain ⟨o3, n3⟩ := back h3
    rw [← k i n1] at h2
    rw [← k j n3] at h4
    exact S.apart i j a t u o1 h2 o3 h4
  · obtain ⟨o1, n1⟩ := back h1
    rw [← k i n1] at h2
    exact S.tmo i a t o1 h2
  · obtain ⟨o1, n1⟩ := back (.inr e)
    rw [asE_out n1] at e
    obtain ⟨a, e1, e2⟩ := S.pio i t e
    exact ⟨a, e1, by rw [← k i n1]; exact e2⟩
/-- one more object that is to stay -/
abbrev Amb.with (Tm : Amb) (D : Addr) (o : HO) : Amb := { Tm with h := upd Tm.h D o }
theorem Sok.withD (S : Sok G Tm F H σ env) {D : Addr} {o : HO} (n : H D = none) : Sok G (Tm.with D o) F (upd H D o) σ env := by
  have A := S.alloc (o := o) n
  refine ⟨A.sub, fun a u e => ?_, A.len, A.slot, A.apart, fun i a t h1 h2 => ?_, A.lk, A.pio⟩
  · by_cases h : a = D
    · subst h
      have e' : upd Tm.h a o a = some u := e
      rw [upd_same] at e'
      cases e'
      exact ⟨upd_same, (S.new n).1⟩
    · have e' : upd Tm.h D o a = some u := e
      rw [upd_ne h] at e'
      exact A.tm a u e'
  · have na : a ≠ D := fun z => by
      obtain ⟨s, e, k⟩ := h1.get
      obtain ⟨x, hx, ok⟩ := S.slot i s e
      obtain ⟨b, ob, eb, hb, _⟩ := ok.own k
      rw [h2] at hx
      cases hx
      cases eb
      rw [z, n] at hb
      cases hb
    show upd Tm.h D o a = none
    rw [upd_ne na]
    exact S.tmo i a t h1 h2
/-- .. changed -/
theorem Sok.chD {o u : HO} {D : Addr} (S : Sok G (Tm.with D o) F H σ env) : Sok G (Tm.with D u) F (upd H D u) σ env := by
  have hD := S.tm D o upd_same
  have ne : ∀ {a : Addr} {w : HO}, F a = some w → a ≠ D := fun h z => by rw [z, hD.2] at h; cases h
  refine ⟨fun a w e => ?_, fun a w e => ?_, S.len, fun i s e => ?_, S.apart, fun i a t h1 h2 => ?_, fun a w e => ?_, S.pio⟩
  · rcases S.sub a w e with q | ⟨q1, ob, q⟩
    · exact .inl (by rw [upd_ne (ne e)]; exact q)
    · exact .inr ⟨q1, ob, by rw [upd_ne (ne e)]; exact q⟩
  · by_cases h : a = D
    · subst h
      have e' : upd Tm.h a u a = some w := e
      rw [upd_same] at e'
      cases e'
      exact ⟨upd_same, hD.2⟩
    · have e' : upd Tm.h D u a = some w := e
      rw [upd_ne h] at e'
      have q := S.tm a w (by show upd Tm.h D o a = some w; rw [upd_ne h]; exact e')
      exact ⟨by rw [upd_ne h]; exact q.1, q.2⟩
  · obtain ⟨x, hx, ok⟩ := S.slot i s e
    refine ⟨x, hx, ?_⟩
    have mv : ∀ {t : T}, (s = .ow t ∨ s = .io t) → ∃ c oc, x = some (.ref c) ∧ upd H D u c = some oc ∧ F c = none ∧ Top G F oc t := fun {t} k => by
      obtain ⟨c, oc, ez, hc, fc, tc⟩ := ok.own k
      refine ⟨c, oc, ez, ?_, fc, tc⟩
      have nc : c ≠ D := fun z => by
        have q := S.tmo i c t (.of k e) (by rw [hx, ez])
        rw [z] at q
        have q' : upd Tm.h D o D = none := q
        rw [upd_same] at q'
        cases q'
      rw [upd_ne nc]
      exact hc
    cases s with
    | un => exact ok
    | fz t => exact ok
    | ow t => exact mv (.inl rfl)
    | io t => exact mv (.inr rfl)
  · have q := S.tmo i a t h1 h2
    by_cases h : a = D
    · subst h
      have q' : upd Tm.h a o a = none := q
      rw [upd_same] at q'
      cases q'
    · have q' : upd Tm.h D o a = none := q
      rw [upd_ne h] at q'
      show upd Tm.h D u a = none
      rw [upd_ne h]
      exact q'
  · have q := S.lk a w e
    refine ⟨?_, q.2⟩
    have na : a ≠ D := fun z => q.2 (by rw [z]; exact hD.2)
    rw [upd_ne na]
    exact q.1
/-- .. let go: it is one's own -/
theorem Sok.outD {o : HO} {D : Addr} (S : Sok G (Tm.with D o) F H σ env) (n : Tm.h D = none) : Sok G Tm F H σ env := by
  refine ⟨S.sub, fun a w e => ?_, S.len, S.slot, S.apart, fun i a t h1 h2 => ?_, S.lk, S.pio⟩
  · have na : a ≠ D := fun z => by rw [z, n] at e; cases e
    exact S.tm a w (by show upd Tm.h D o a = some w; rw [upd_ne na]; exact e)
  · have q := S.tmo i a t h1 h2
    by_cases h : a = D
    · subst h
      exact n
    · have q' : upd Tm.h D o a = none := q
      rw [upd_ne h] at q'
      exact q'
theorem RvR.outD {ts : List T} {xs : List V} {D : Addr} (S : Sok G (Tm.with D (.lst xs)) F H σ env) (n : Tm.h D = none) (r : RepL G F ts xs) : RvR G Tm F H σ env (.ow (.lst ts)) (.ref D) := by
  have hD := S.tm D _ upd_same
  refine ⟨D, _, rfl, hD.1, hD.2, n, ⟨_, rfl, r⟩, fun i u o z => ?_⟩
  have q := S.tmo i D u o z
  have q' : upd Tm.h D (.lst xs) D = none := q
  rw [upd_same] at q'
  cases q'
end

/-! ### the comprehension -/
abbrev Cy.blk (C : Cy) (s : Shared) (H : Hp) (scope : Scope) (cenv : PySem.Env) (fp : List Addr) : Cy := ⟨C.X.blk s H scope cenv fp, C.ca, fun _ _ _ _ => False⟩
abbrev EvTs (C : Cy) (ifs : List Expr) (f : M Bool) : Prop := PTs C.X ifs (tG C BR f)
theorem et_nil {C : Cy} : EvTs C [] (M.pure true) := ⟨fun pins s σ H Q I ⟨Tm, F, env, S, q⟩ => pts_nil.run pins s σ H Q I (q true F H Le.rfl S rfl)⟩
theorem et_one {C : Cy} {c : Expr} {f : M Bool} (h : EvB C c f) : EvTs C [c] f := pts_one h
/-- what lets nothing out -/
abbrev Cy.fl (C : Cy) : Cy := ⟨C.X, C.ca, fun _ _ _ _ => False⟩
section
variable {C : Cy} {elt tg iter : Expr} {ifs : List Expr} {scope : Scope} {own : List (Str × Nat)} {pos : Pos} {f : M (List T)} {js : List Nat} {g : TM} {tt : M Bool} {m : M T}
theorem comp_core {σ : St} {H : Hp} {Q : VK} {vs : List Nat} (hj : ∀ j ∈ js, j ∈ vs) (hq : tG C (RvR C.G) (compM f g tt m vs) σ H Q) :
    tLc (tG C (WkR C.G []) f) (tGt C.G js g) (tG C.fl BR tt) (tG C.fl (TR C.G) m) vs σ H Q := by
  obtain ⟨Tm, F, env, S, q⟩ := hq
  refine ⟨Tm, F, env, S, ?_⟩
  refine At.bind (R' := RvR C.G) (Q' := Q) q fun ts env1 J F1 H1 le1 S1 w q1 => ?_
  intro D nD
  by_cases hz : ts.length ≤ sizeLine
  case neg =>
    rw [if_neg hz] at q1
    exact q1.elim
  rw [if_pos hz] at q1
  have q2 : At C (RvR C.G) Tm F1 σ Q ((compL g tt m vs ts env1).bind fun us => M.pure (.ow (.lst us))) := q1
  have tD : Tm.h D = none := (S1.new nD).2
  refine ⟨fun i k H => k = ts.length - i ∧ i ≤ ts.length ∧ ∃ F2 env2 acc us, Le F1 F2 ∧ acc.length ≤ i ∧ Sok C.G (Tm.with D (.lst acc)) F2 H σ env2 ∧ RepL C.G F2 us acc ∧
    At C (RvR C.G) Tm F2 σ Q ((compL g tt m vs (ts.drop i) env2).bind fun ws => M.pure (.ow (.lst (us ++ ws)))), ⟨ts.length, by simp, Nat.zero_le _, F1, env1, [], [], Le.rfl, Nat.zero_le _, S1.withD nD, .nil, q2⟩, ?_⟩
  rintro i k H2 ⟨rfl, hi, F2, env2, acc, us, le2, hacc, S2, racc, q3⟩
  by_cases hlt : i < ts.length
  · refine .inr ⟨w.go i _ F2 H2 σ env2 hlt le2 S2 (fun _ z => nomatch z), fun H' => ∃ F5 env5 acc5 us5, Le F1 F5 ∧ acc5.length ≤ i + 1 ∧ Sok C.G (Tm.with D (.lst acc5)) F5 H' σ env5 ∧ RepL C.G F5 us5 acc5 ∧
      At C (RvR C.G) Tm F5 σ Q ((compL g tt m vs (ts.drop (i + 1)) env5).bind fun ws => M.pure (.ow (.lst (us5 ++ ws)))), fun H' ⟨F5, env5, acc5, us5, l5, h5, S5, r5, q5⟩ => ⟨_, (by omega : ts.length - (i + 1) < ts.length - i), rfl, hlt, F5, env5, acc5, us5, l5, h5, S5, r5, q5⟩, fun x H' y => ?_⟩
    obtain ⟨F3, t, l3, S3, ht, rt, _⟩ := w.yld i _ F2 H2 σ env2 x H' hlt le2 S2 (fun _ z => nomatch z) y
    have ed : ts.drop i = t :: ts.drop (i + 1) := by
      have h2 := List.getElem?_eq_some_iff.mp ht
      rw [List.drop_eq_getElem_cons hlt, h2.2]
    rw [ed] at q3
    simp only [compL] at q3
    cases ho : okE env2 vs with
    | false =>
      rw [ho] at q3
      exact q3.elim
    | true =>
      rw [ho] at q3
      dsimp only at q3
      have S4 := S3.enter (vs := vs) ho
      cases e1 : g t (unE vs env2) with
      | none =>
        rw [e1] at q3
        exact q3.elim
      | some env3 =>
        rw [e1] at q3
        dsimp only at q3
        refine ⟨_, F3, _, t, env3, S4, rt, e1, fun σ5 S5 k5 => ?_⟩
        have kk : ∀ j, j ∉ vs → σ5[j]? = σ[j]? := fun j hn => (k5.2 j fun z => hn (hj j z)).trans (wipe_out hn)
        have hl5 : σ5.length = σ.length := k5.1.trans (wipe_length _ _)
        have back : ∀ {F6 H6 : Hp} {env6 : Env} {acc6 : List V} {o : HO}, Le F2 F6 → Sok C.G (Tm.with D o) F6 H6 σ5 env6 → Sok C.G (Tm.with D o) F6 H6 σ (asE env2 vs env6) := fun {F6 H6 env6 acc6 o} l6 S6 =>
          S2.leave ho l6 S6 kk (by rw [← S6.len, hl5, S2.len])
        refine ⟨wipe_keep hl5 kk, _, F3, env3, S5, ?_⟩
        cases et : tt env3 with
        | no =>
          rw [et] at q3
          exact q3.elim
        | ex c fs e =>
          rw [et] at q3
          exact q3.elim
        | ok kb env4 =>
          rw [et] at q3
          intro b F4 H4 l4 S6 eb
          have eb' : kb = b := eb
          subst eb'
          cases kb with
          | false =>
            rw [if_neg Bool.false_ne_true]
            dsimp only at q3
            refine ⟨F4, asE env2 vs env4, acc, us, le2.trans (l3.trans l4), Nat.le_succ_of_le hacc, back (acc6 := acc) (l3.trans l4) S6, RepL.mono (l3.trans l4) _ racc, ?_⟩
            refine At.weak (l3.trans l4) ?_
            revert q3
            cases compL g tt m vs (ts.drop (i + 1)) (asE env2 vs env4) with
            | ok ws e => exact fun q => q
            | ex c fs e => exact fun q => q.elim
            | no => exact fun q => q.elim
          | true =>
            rw [if_pos rfl]
            dsimp only at q3
            refine ⟨_, F4, env4, S6, ?_⟩
            cases em : m env4 with
            | no =>
              rw [em] at q3
              exact q3.elim
            | ex c fs e =>
              rw [em] at q3
              exact q3.elim
            | ok v env5 =>
              rw [em] at q3
              dsimp only at q3
              intro yv F5 H5 l5 S7 ry
              have l25 : Le F2 F5 := l3.trans (l4.trans l5)
              refine ⟨acc, (S7.tm D _ upd_same).1, by omega, F5, asE env2 vs env5, acc ++ [yv], us ++ [v], le2.trans l25, by rw [List.length_append, List.length_singleton]; omega, back (acc6 := acc) l25 S7.chD, (RepL.mono l25 _ racc).append (.cons ry .nil), ?_⟩
              refine At.weak l25 ?_
              revert q3
              cases compL g tt m vs (ts.drop (i + 1)) (asE env2 vs env5) with
              | ok ws e =>
                intro q
                have ea : (us ++ [v]) ++ ws = us ++ v :: ws := by simp
                show At C (RvR C.G) Tm F2 σ Q (.ok (.ow (.lst ((us ++ [v]) ++ ws))) e)
                rw [ea]
                exact q
              | ex c fs e => exact fun q => q.elim
              | no => exact fun q => q.elim
  · have e : i = ts.length := by omega
    subst e
    rw [List.drop_length] at q3
    refine .inl ⟨w.stop _ F2 H2 σ env2 le2 S2 (fun _ z => nomatch z), ?_⟩
    have q4 : At C (RvR C.G) Tm F2 σ Q (.ok (.ow (.lst (us ++ []))) env2) := q3
    rw [List.append_nil] at q4
    exact q4 _ F2 H2 Le.rfl (S2.outD tD) (RvR.outD S2 tD racc)
theorem ev_comp (hc : C.X.calm = true) (hN : C.X.N.Nodup) (hi : EvI C tg iter f) (ok : BlkOk C.X.N C.X.env.scope scope own) (hj : ∀ j ∈ js, j ∈ own.map (·.2))
    (hg : ∀ (s : Shared) (H : Hp) (A : Addr) (cl : List (Str × Addr)) (fp : List Addr), EvG (C.blk s H scope (compEnvC scope cl A C.X.env) fp) tg js g) (ht : ∀ (s : Shared) (H : Hp) (A : Addr) (cl : List (Str × Addr)) (fp : List Addr), EvTs (C.blk s H scope (compEnvC scope cl A C.X.env) fp) ifs tt)
    (he : ∀ (s : Shared) (H : Hp) (A : Addr) (cl : List (Str × Addr)) (fp : List Addr), EvT (C.blk s H scope (compEnvC scope cl A C.X.env) fp) elt m) (hs : ∀ x, foldedSetIterable iter C.X.env x = pure x := by intro _; rfl) :
    EvE C (.ListComp elt [⟨tg, iter, ifs, 0⟩] scope pos) (compM f g tt m (own.map (·.2))) :=
  pe_imp (pe_lc hc hN hi ok hg ht he hs) fun σ H Q q => comp_core hj q
/-- name = [..] -/
theorem e_setc {i : Nat} {y : Str} {py spos : Pos} (hc : C.X.calm = true) (hN : C.X.N.Nodup) (hy : C.X.N[i]? = some y) (hyl : C.X.env.scope.names.lookup y = some .local)
    (hsw : swapsWith (.ListComp elt [⟨tg, iter, ifs, 0⟩] scope pos) (some (.Name y py)) spos.line C.X.env = pure true) (hi : EvI C tg iter f) (ok : BlkOk C.X.N C.X.env.scope scope own) (hj : ∀ j ∈ js, j ∈ own.map (·.2))
    (hg : ∀ (s : Shared) (H : Hp) (A : Addr) (cl : List (Str × Addr)) (fp : List Addr), EvG (C.blk s H scope (compEnvC scope cl A C.X.env) fp) tg js g) (ht : ∀ (s : Shared) (H : Hp) (A : Addr) (cl : List (Str × Addr)) (fp : List Addr), EvTs (C.blk s H scope (compEnvC scope cl A C.X.env) fp) ifs tt)
    (he : ∀ (s : Shared) (H : Hp) (A : Addr) (cl : List (Str × Addr)) (fp : List Addr), EvT (C.blk s H scope (compEnvC scope cl A C.X.env) fp) elt m) (hs : ∀ x, foldedSetIterable iter C.X.env x = pure x := by intro _; rfl) :
    EvS C (.Assign [.Name y py] (.ListComp elt [⟨tg, iter, ifs, 0⟩] scope pos) spos) (asgS i (compM f g tt m (own.map (·.2)))) :=
  ps_imp (ps_setLc hc hN hy hyl hsw hi ok hg ht he hs) fun D σ H ⟨Tm, F, env, S, q⟩ => comp_core hj ⟨Tm, F, env, S, asg_core q⟩
end
end Ev
/-! Ev7: defs and calls. -/
namespace Ev
open PySem PySem.Spec L2
/-- what a def's outcome asks -/
def AtD (G : Gr) (Tm : Amb) (F : Hp) (Q : VK) (E : XK) : SO → Prop
  | .nx env => ∀ σ F' H, Le F F' → Sok G Tm F' H σ env → Q .non H
  | .rt r env => ∀ x σ F' H, Le F F' → Sok G Tm F' H σ env → RvR G Tm F' H σ env r x → Q x H
  | .ex c fs env => ∀ d σ F' H vs, Le F F' → Sok G Tm F' H σ env → H d = some (.xd vs) → RepF G F' fs vs → E (.ref (G.ca c)) (some d) H
  | _ => False
/-- the slots at a def's entry: n arguments, of m names -/
def st0 (m : Nat) (vs : List V) : St := vs.map some ++ List.replicate (m - vs.length) none
def spT (G : Gr) (n m : Nat) (d : SM) : Sp := fun vs H Q E => vs.length = n ∧ ∃ Tm F env, Sok G Tm F H (st0 m vs) env ∧ AtD G Tm F Q E (d env)
/-- a def keeps to d: the depth of guards known besides -/
structure FnT (P : Program) (w : World) (K : PySem.W.Frag) (mg : Str → Option Value) (base : Heap) (ca : Nat → Addr) (k : Nat) (f : Addr) (fd : FuncData) (ps : List Str) (m : Nat) (d : SM) : Prop where
  go : ∀ {A : Around} {outer : List PySem.Env} {s : Shared} {H : Hp} {args : Args} {us : List Value} {vs : List V} {Q : VK} {E : XK}, Room k A → A.guards = some [] → Env0 P w K mg base A outer s H →
    BindsTo s fd args (ps.zip us) → Vals vs us → spT ⟨K, ca⟩ ps.length m d vs H Q E → codeAny (model P w) A (.call (.ref f) args) (CR (L2.CX P w) outer P w H s Q E) s
section
variable {P : Program} {w : World} {K : PySem.W.Frag} {mg : Str → Option Value} {base : Heap} {ca : Nat → Addr} {k : Nat} {f : Addr} {fd : FuncData} {ps : List Str} {m : Nat} {d : SM}
theorem FnT.up {j : Nat} (F : FnT P w K mg base ca j f fd ps m d) (h : j ≤ k) : FnT P w K mg base ca k f fd ps m d := ⟨fun r g e b v s => F.go (r.mono h) g e b v s⟩
/-- the context of a def's body -/
abbrev cyOf (P : Program) (w : World) (K : PySem.W.Frag) (mg : Str → Option Value) (base : Heap) (ca : Nat → Addr) (N : List Str) (qual : Str) (scope : Scope) (f : Addr) (cd : Value) (A : Around) (outer : List PySem.Env) (s : Shared) (H : Hp) (E : XK) : Cy :=
  ⟨cxOf (L2.CX P w) P w K mg base N qual scope f cd A outer s H E, ca, fun cls d _ H => E cls d H⟩
/-- what a body may lean on -/
structure Bod (C : Cy) (k : Nat) : Prop where
  room : Room k C.X.A
  grd : C.X.A.guards = some []
  tk : Takes C.X C.W
  own : Own C
  calm : C.X.calm = true
  stk : C.X.stack = C.X.env :: C.X.outer
  frm : C.X.env.frame = some C.X.env.locals
theorem Bod.rm {C : Cy} (B : Bod C k) : Rm C := by
  have := B.room.un
  show C.X.A.units + 190 < cLine
  omega
theorem fn_body {x qual : Str} {params : Arguments} {body : List Stmt} {scope : Scope} {dvs : List V} {kws : List (Str × V)} {N : List Str} (F : FunD K x qual params body scope dvs kws f fd) (S : FnScope N ps scope) (hm : N.length = m)
    (hb : ∀ (cd : Value) (A : Around) (outer : List PySem.Env) (s : Shared) (H : Hp) (E : XK), Bod (cyOf P w K mg base ca N qual scope f cd A outer s H E) k → EvSs (cyOf P w K mg base ca N qual scope f cd A outer s H E) body d) :
    FnT P w K mg base ca (k + 1) f fd ps m d := by
  obtain ⟨oc, od, dV, kV, doc, pm, an, cdv, ct, osl, rfl, lk, hcd, _, _⟩ := F.ex
  refine ⟨fun {A outer s H args us vs Q E} hr hg e0 hbd rv hsp => ?_⟩
  obtain ⟨hl, Tm, FF, env, Sk, q⟩ := hsp
  have KX : K.In s.heap := e0.mod.kin.keeps fun b o e => (e0.bs b o e).1
  have NL : s.heap.NoLimit := e0.mod.nolimit.keeps fun b o e => (e0.bs b o e).1
  have kinds : ∀ y ∈ ps.zip us, scope.names.lookup y.1 = some .local ∨ (scope.names.lookup y.1 = some .cell ∧ ((cellsFrom (s.heap.objs.size + 1) scope.names []).lookup y.1).isSome = true) := by
    rintro ⟨n, v⟩ hy
    exact (S.par n (List.of_mem_zip hy).1).imp id fun q => ⟨q, PySem.W.cellsFrom_some _ _ _ (.inl q)⟩
  refine codeAny_call_function hr.depth (KX _ _ lk) rfl S.co S.gen rfl (PySem.W.codeRec_of KX hcd) (hbd _ _ _ _ ?_)
  refine wpAny_newFunctionEnv_cells S.kind kinds fun env1 he s1 x1 => ?_
  subst he
  refine ⟨NL.keeps x1.toInCall.keep, codeAny_func ?_⟩
  have I := inv_start (CX := L2.CX P w) (E := E) (mg := mg) (K := K) (P := P) (w := w) (base := base) (f := f) (cd := cdv) (qual := qual) S hr.hd e0 hl rv x1
  have B : Bod (cyOf P w K mg base ca N qual scope f cdv A outer s H E) k := {
    room := hr.deeper _
    grd := hg
    tk := takes_of rfl rfl rfl rfl
    own := passes_of rfl
    calm := rfl
    stk := rfl
    frm := rfl }
  have es : L2.start N vs = st0 m vs := by
    unfold L2.start st0
    rw [hm]
  have body := (hb cdv A outer s H E B).run [] s1 (L2.start N vs) H { nx := fun _ H' => Q .non H', rt := Q } I ⟨Tm, FF, env, by rw [es]; exact Sk, by
    revert q
    cases d env with
    | nx e => exact fun q => q
    | rt r e => exact fun q => q
    | ex c fs e => exact fun q => q
    | bk e => exact fun q => q.elim
    | ct e => exact fun q => q.elim
    | no => exact fun q => q.elim⟩
  refine wpAny_mono body (fun fl s2 hs => ?_) fun _ _ z => z
  cases fl with
  | ret u =>
    obtain ⟨v, σ2, H2, J, r, q⟩ := hs
    exact ⟨v, H2, J.os, J.bare, J.base, J.hok, r, q⟩
  | next =>
    obtain ⟨σ2, H2, J, q⟩ := hs
    exact ⟨V.non, H2, J.os, J.bare, J.base, J.hok, rfl, q⟩
  | brk =>
    obtain ⟨_, _, _, q⟩ := hs
    exact q.elim
  | cont =>
    obtain ⟨_, _, _, q⟩ := hs
    exact q.elim
end

/-! ### arguments -/
/-- frozen, or the object of a slot, to be changed in place -/
inductive Ar where
  | fz (t : T)
  | io (i : Nat)
def ArOk (G : Gr) (F : Hp) (σ : St) (x : V) : Ar → Prop
  | .fz t => Rep G F t x
  | .io i => σ[i]? = some (some x)
def ArL (G : Gr) (F : Hp) (σ : St) : List Ar → List V → Prop
  | [], xs => xs = []
  | a :: as, xs => ∃ x r, xs = x :: r ∧ ArOk G F σ x a ∧ ArL G F σ as r
abbrev ArR (G : Gr) : RelT (List Ar) (List V) := fun _ F _ σ _ as xs => ArL G F σ as xs
abbrev EvAr (C : Cy) (es : List Expr) (f : M (List Ar)) : Prop := PA C.X es (tG C (ArR C.G) f)
section
variable {G : Gr} {F F' : Hp} {σ : St}
theorem ArOk.mono (le : Le F F') {x : V} : ∀ {a : Ar}, ArOk G F σ x a → ArOk G F' σ x a
  | .fz t, h => Rep.mono le t h
  | .io i, h => h
theorem ArL.mono (le : Le F F') : ∀ {as : List Ar} {xs : List V}, ArL G F σ as xs → ArL G F' σ as xs
  | [], _, h => h
  | a :: as, _, ⟨x, r, e, h, t⟩ => ⟨x, r, e, h.mono le, ArL.mono le t⟩
theorem ArL.length : ∀ {as : List Ar} {xs : List V}, ArL G F σ as xs → xs.length = as.length
  | [], _, h => by rw [show _ = [] from h] <;> rfl
  | a :: as, _, ⟨x, r, e, h, t⟩ => by rw [e, List.length_cons, List.length_cons, ArL.length t]
theorem ArL.get : ∀ {as : List Ar} {xs : List V} {p : Nat} {a : Ar}, ArL G F σ as xs → as[p]? = some a → ∃ x, xs[p]? = some x ∧ ArOk G F σ x a
  | [], _, _, _, _, e => by simp at e
  | a :: as, _, 0, b, ⟨x, r, e, h, t⟩, e2 => by
    simp at e2
    subst e e2
    exact ⟨x, rfl, h⟩
  | a :: as, _, p + 1, b, ⟨x, r, e, h, t⟩, e2 => by
    subst e
    simpa using ArL.get (p := p) t (by simpa using e2)
end
section
variable {C : Cy} {e : Expr} {es : List Expr}
def arCons (f : M T) (g : M (List Ar)) : M (List Ar) := M.bind f fun t => M.bind g fun as => M.pure (.fz t :: as)
def arIo (f : M Rv) (g : M (List Ar)) : M (List Ar) := M.bind f fun r => match r with
  | .bo i => M.bind g fun as => M.pure (.io i :: as)
  | _ => M.no
theorem er_nil : EvAr C [] (M.pure []) := pa_imp pa_nil fun σ H Q ⟨Tm, F, env, S, q⟩ => q [] F H Le.rfl S rfl
theorem er_cons {f : M T} {g : M (List Ar)} (h : EvT C e f) (h' : EvAr C es g) (hs : starEach (e :: es) C.X.env = (false, eval e C.X.env) :: starEach es C.X.env := by rfl) : EvAr C (e :: es) (arCons f g) := by
  refine pa_imp (pa_cons h h' hs) fun σ H Q ⟨Tm, F, env, S, q⟩ => ⟨Tm, F, env, S, ?_⟩
  refine At.bind (R' := ArR C.G) (Q' := Q) q fun t env1 x F1 H1 le1 S1 r1 q1 => ⟨Tm, F1, env1, S1, ?_⟩
  refine At.bind (R' := ArR C.G) (Q' := Q) q1 fun as env2 xs F2 H2 le2 S2 r2 q2 => ?_
  exact q2 _ F2 H2 Le.rfl S2 ⟨x, xs, rfl, Rep.mono le2 t r1, r2⟩
theorem er_io {f : M Rv} {g : M (List Ar)} (h : EvE C e f) (h' : EvAr C es g) (hs : starEach (e :: es) C.X.env = (false, eval e C.X.env) :: starEach es C.X.env := by rfl) : EvAr C (e :: es) (arIo f g) := by
  refine pa_imp (pa_cons h h' hs) fun σ H Q ⟨Tm, F, env, S, q⟩ => ⟨Tm, F, env, S, ?_⟩
  refine At.bind (R' := ArR C.G) (Q' := Q) q fun r env1 x F1 H1 le1 S1 r1 q1 => ⟨Tm, F1, env1, S1, ?_⟩
  cases r with
  | fz _ => exact q1.elim
  | ow _ => exact q1.elim
  | bo i =>
    refine At.bind (R' := ArR C.G) (Q' := Q) q1 fun as env2 xs F2 H2 le2 S2 r2 q2 => ?_
    exact q2 _ F2 H2 Le.rfl S2 ⟨x, xs, rfl, r1.1, r2⟩
end

/-! ### in and out of a def -/
def ownT (s : Sl) : Option T := match s with
  | .ow t => some t
  | .io t => some t
  | _ => none
/-- the callee's slots -/
def inE (env : Env) : List Ar → Option Env
  | [] => some []
  | .fz t :: as => (inE env as).map (.fz t :: ·)
  | .io i :: as => ((env[i]?).bind ownT).bind fun t => (inE env as).map (.io t :: ·)
def isIo (i : Nat) : Ar → Bool
  | .io j => j == i
  | _ => false
def iosOf : List Ar → List Nat
  | [] => []
  | .fz _ :: as => iosOf as
  | .io i :: as => i :: iosOf as
/-- the caller's slots behind it: what was changed in place -/
def newS (as : List Ar) (ce : Env) (i : Nat) (s : Sl) : Sl := match as.findIdx? (isIo i) with
  | none => s
  | some p => match ce[p]?, s with
    | some (.io t), .ow _ => .ow t
    | some (.io t), .io _ => .io t
    | _, s => s
def outE (as : List Ar) (ce : Env) : Nat → Env → Env
  | _, [] => []
  | i, s :: r => newS as ce i s :: outE as ce (i + 1) r
/-- all that was handed in to be changed is there -/
def allIo (ce : Env) : Nat → List Ar → Bool
  | _, [] => true
  | p, .fz _ :: as => allIo ce (p + 1) as
  | p, .io _ :: as => (match ce[p]? with
    | some (.io _) => true
    | _ => false) && allIo ce (p + 1) as
/-- a call of the def d, of m names -/
def callD (d : SM) (m : Nat) (as : List Ar) : M Rv := fun env => match inE env as with
  | none => .no
  | some ie => if (iosOf as).Nodup then (match d (ie ++ List.replicate (m - as.length) .un) with
    | .nx ce => if allIo ce 0 as = true then .ok (.fz .non) (outE as ce 0 env) else .no
    | .rt r ce => if allIo ce 0 as = true then (match r with
      | .fz t => .ok (.fz t) (outE as ce 0 env)
      | .ow t => .ok (.ow t) (outE as ce 0 env)
      | .bo j => match ce[j]? with
        | some (.ow t) => .ok (.ow t) (outE as ce 0 env)
        | _ => .no) else .no
    | .ex c fs ce => if allIo ce 0 as = true then .ex c fs (outE as ce 0 env) else .no
    | _ => .no) else .no
section
variable {G : Gr} {Tm : Amb} {F H : Hp} {σ : St} {env : Env}
theorem outE_get {as : List Ar} {ce : Env} : ∀ {env : Env} {k i : Nat}, (outE as ce k env)[i]? = (env[i]?).map (newS as ce (k + i))
  | [], k, i => by simp [outE]
  | s :: r, k, 0 => by simp [outE]
  | s :: r, k, i + 1 => by
    have h := outE_get (as := as) (ce := ce) (env := r) (k := k + 1) (i := i)
    simp only [outE, List.getElem?_cons_succ, h]
    congr 1
    rw [show k + 1 + i = k + (i + 1) by omega]
theorem outE_len {as : List Ar} {ce : Env} : ∀ {env : Env} {k : Nat}, (outE as ce k env).length = env.length
  | [], _ => rfl
  | s :: r, k => by simp [outE, outE_len]
theorem inE_len : ∀ {as : List Ar} {ie : Env}, inE env as = some ie → ie.length = as.length
  | [], ie, h => by cases h; rfl
  | .fz t :: as, ie, h => by
    obtain ⟨r, e, e2⟩ := Option.map_eq_some_iff.mp h
    subst e2
    simp [inE_len e]
  | .io i :: as, ie, h => by
    obtain ⟨t, e, e2⟩ := Option.bind_eq_some_iff.mp h
    obtain ⟨r, e3, e4⟩ := Option.map_eq_some_iff.mp e2
    subst e4
    simp [inE_len e3]
theorem inE_fz : ∀ {as : List Ar} {ie : Env} {p : Nat} {t : T}, inE env as = some ie → as[p]? = some (.fz t) → ie[p]? = some (.fz t)
  | [], _, _, _, _, h => by simp at h
  | .fz u :: as, ie, p, t, h, e => by
    obtain ⟨r, e1, e2⟩ := Option.map_eq_some_iff.mp h
    subst e2
    cases p with
    | zero => simpa using e
    | succ p => simpa using inE_fz e1 (by simpa using e)
  | .io i :: as, ie, p, t, h, e => by
    obtain ⟨u, e0, e1⟩ := Option.bind_eq_some_iff.mp h
    obtain ⟨r, e3, e4⟩ := Option.map_eq_some_iff.mp e1
    subst e4
    cases p with
    | zero => simp at e
    | succ p => simpa using inE_fz e3 (by simpa using e)
theorem inE_io : ∀ {as : List Ar} {ie : Env} {p i : Nat}, inE env as = some ie → as[p]? = some (.io i) → ∃ t, OwnAt env i t ∧ ie[p]? = some (.io t)
  | [], _, _, _, _, h => by simp at h
  | .fz u :: as, ie, p, i, h, e => by
    obtain ⟨r, e1, e2⟩ := Option.map_eq_some_iff.mp h
    subst e2
    cases p with
    | zero => simp at e
    | succ p => simpa using inE_io e1 (by simpa using e)
  | .io j :: as, ie, p, i, h, e => by
    obtain ⟨u, e0, e1⟩ := Option.bind_eq_some_iff.mp h
    obtain ⟨r, e3, e4⟩ := Option.map_eq_some_iff.mp e1
    subst e4
    cases p with
    | zero =>
      simp at e
      subst e
      obtain ⟨s, e5, e6⟩ := Option.bind_eq_some_iff.mp e0
      refine ⟨u, ?_, by simp⟩
      cases s <;> first | (cases e6; done) | skip
      · cases e6
        exact .inl e5
      · cases e6
        exact .inr e5
    | succ p => simpa using inE_io e3 (by simpa using e)
theorem mem_ios : ∀ {as : List Ar} {p i : Nat}, as[p]? = some (.io i) → i ∈ iosOf as
  | [], _, _, h => by simp at h
  | .fz t :: as, 0, i, h => by simp at h
  | .fz t :: as, p + 1, i, h => mem_ios (as := as) (p := p) (by simpa using h)
  | .io j :: as, 0, i, h => by
    simp at h
    subst h
    exact List.mem_cons_self ..
  | .io j :: as, p + 1, i, h => List.mem_cons_of_mem _ (mem_ios (as := as) (p := p) (by simpa using h))
theorem ios_mem : ∀ {as : List Ar} {i : Nat}, i ∈ iosOf as → ∃ p : Nat, as[p]? = some (Ar.io i)
  | [], _, h => nomatch h
  | .fz t :: as, i, h => by
    obtain ⟨p, e⟩ := ios_mem (as := as) h
    exact ⟨p + 1, by simpa using e⟩
  | .io j :: as, i, h => by
    rcases List.mem_cons.mp h with h | h
    · subst h
      exact ⟨0, rfl⟩
    · obtain ⟨p, e⟩ := ios_mem (as := as) h
      exact ⟨p + 1, by simpa using e⟩
theorem ios_inj : ∀ {as : List Ar} {p q i : Nat}, (iosOf as).Nodup → as[p]? = some (.io i) → as[q]? = some (.io i) → p = q
  | [], _, _, _, _, h, _ => by simp at h
  | .fz t :: as, 0, _, _, _, h, _ => by simp at h
  | .fz t :: as, _ + 1, 0, _, _, _, h => by simp at h
  | .fz t :: as, p + 1, q + 1, i, n, h1, h2 => congrArg (· + 1) (ios_inj (as := as) (p := p) (q := q) n (by simpa using h1) (by simpa using h2))
  | .io j :: as, 0, 0, _, _, _, _ => rfl
  | .io j :: as, 0, q + 1, i, n, h1, h2 => by
    simp at h1
    subst h1
    exact absurd (mem_ios (as := as) (p := q) (by simpa using h2)) (List.nodup_cons.mp n).1
  | .io j :: as, p + 1, 0, i, n, h1, h2 => by
    simp at h2
    subst h2
    exact absurd (mem_ios (as := as) (p := p) (by simpa using h1)) (List.nodup_cons.mp n).1
  | .io j :: as, p + 1, q + 1, i, n, h1, h2 => congrArg (· + 1) (ios_inj (as := as) (p := p) (q := q) (List.nodup_cons.mp n).2 (by simpa using h1) (by simpa using h2))
theorem allIo_at {ce : Env} : ∀ {as : List Ar} {k p i : Nat}, allIo ce k as = true → as[p]? = some (.io i) → ∃ t, ce[k + p]? = some (.io t)
  | [], _, _, _, _, h => by simp at h
  | .fz t :: as, k, 0, _, _, h => by simp at h
  | .fz t :: as, k, p + 1, i, a, h => by
    have := allIo_at (as := as) (k := k + 1) (p := p) a (by simpa using h)
    rw [show k + (p + 1) = k + 1 + p by omega]
    exact this
  | .io j :: as, k, 0, i, a, h => by
    simp only [allIo, Bool.and_eq_true] at a
    have := a.1
    split at this
    · rename_i t e
      exact ⟨t, e⟩
    · cases this
  | .io j :: as, k, p + 1, i, a, h => by
    simp only [allIo, Bool.and_eq_true] at a
    have := allIo_at (as := as) (k := k + 1) (p := p) a.2 (by simpa using h)
    rw [show k + (p + 1) = k + 1 + p by omega]
    exact this
theorem find_io {as : List Ar} {p i : Nat} (n : (iosOf as).Nodup) (h : as[p]? = some (.io i)) : as.findIdx? (isIo i) = some p := by
  cases e : as.findIdx? (isIo i) with
  | none =>
    have q := List.findIdx?_eq_none_iff.mp e (.io i) (List.mem_of_getElem? h)
    simp [isIo] at q
  | some q =>
    obtain ⟨hq, h1, _⟩ := List.findIdx?_eq_some_iff_getElem.mp e
    have e2 : as[q]? = some as[q] := List.getElem?_eq_getElem hq
    cases ea : as[q] with
    | fz t =>
      rw [ea] at h1
      cases h1
    | io j =>
      rw [ea] at h1
      have ej : j = i := by simpa [isIo] using h1
      subst ej
      rw [ea] at e2
      rw [ios_inj n h e2]
theorem find_no {as : List Ar} {i : Nat} (h : i ∉ iosOf as) : as.findIdx? (isIo i) = none := by
  refine List.findIdx?_eq_none_iff.mpr fun a ha => ?_
  cases a with
  | fz t => rfl
  | io j =>
    obtain ⟨p, e⟩ := List.getElem?_of_mem ha
    have : j ∈ iosOf as := mem_ios e
    have nj : j ≠ i := fun z => h (by rw [← z]; exact this)
    simpa [isIo] using nj
open Classical in
/-- what is around the callee -/
noncomputable def amb (Tm : Amb) (F H : Hp) (σ : St) (as : List Ar) : Amb where
  h := fun a => if F a = none ∧ ∀ i ∈ iosOf as, σ[i]? ≠ some (some (.ref a)) then H a else none
  p := fun q => match as[q]? with
    | some (.io i) => (match σ[i]? with
      | some (some (.ref a)) => some a
      | _ => none)
    | _ => none
  l := Tm.l
theorem amb_h {as : List Ar} {a : Addr} {o : HO} (h : (amb Tm F H σ as).h a = some o) : F a = none ∧ (∀ i ∈ iosOf as, σ[i]? ≠ some (some (.ref a))) ∧ H a = some o := by
  unfold amb at h
  dsimp only at h
  split at h
  · rename_i q
    exact ⟨q.1, q.2, h⟩
  · cases h
theorem amb_of {as : List Ar} {a : Addr} (h1 : F a = none) (h2 : ∀ i ∈ iosOf as, σ[i]? ≠ some (some (.ref a))) : (amb Tm F H σ as).h a = H a := by
  unfold amb
  dsimp only
  rw [if_pos ⟨h1, h2⟩]
theorem amb_io {as : List Ar} {a : Addr} {i : Nat} (h : i ∈ iosOf as) (e : σ[i]? = some (some (.ref a))) : (amb Tm F H σ as).h a = none := by
  unfold amb
  dsimp only
  rw [if_neg fun q => q.2 i h e]
theorem st0_get {m p : Nat} {vs : List V} {x : V} (h : vs[p]? = some x) : (st0 m vs)[p]? = some (some x) := by
  unfold st0
  have hl := (List.getElem?_eq_some_iff.mp h).1
  rw [List.getElem?_append_left (by simpa using hl), List.getElem?_map, h]
  rfl
/-- at the callee's entry -/
theorem Sok.into (S : Sok G Tm F H σ env) {as : List Ar} {vs : List V} {ie : Env} {m : Nat} (r : ArL G F σ as vs) (hi : inE env as = some ie) (n : (iosOf as).Nodup) (hm : as.length ≤ m) :
    Sok G (amb Tm F H σ as) F H (st0 m vs) (ie ++ List.replicate (m - as.length) .un) := by
  have ll := r.length
  have li := inE_len hi
  have at_ : ∀ {p : Nat} {s : Sl}, (ie ++ List.replicate (m - as.length) Sl.un)[p]? = some s → s = .un ∨ (p < as.length ∧ ie[p]? = some s) := fun {p s} e => by
    by_cases hp : p < ie.length
    · rw [List.getElem?_append_left hp] at e
      exact .inr ⟨by omega, e⟩
    · rw [List.getElem?_append_right (by omega), List.getElem?_replicate] at e
      split at e
      · exact .inl (Option.some.inj e).symm
      · cases e
  -- an own slot of the callee is one of the caller's
  have own_ : ∀ {p : Nat} {t : T}, OwnAt (ie ++ List.replicate (m - as.length) Sl.un) p t → ∃ i x, as[p]? = some (.io i) ∧ OwnAt env i t ∧ (ie ++ List.replicate (m - as.length) Sl.un)[p]? = some (.io t) ∧ vs[p]? = some x ∧ σ[i]? = some (some x) := fun {p t} o => by
    obtain ⟨s, e, k⟩ := o.get
    rcases at_ e with q | ⟨hp, q⟩
    · subst q
      rcases k with k | k <;> cases k
    · cases ea : as[p]? with
      | none =>
        rw [List.getElem?_eq_none_iff] at ea
        omega
      | some a =>
        cases a with
        | fz u =>
          have := inE_fz hi ea
          rw [q] at this
          cases this
          rcases k with k | k <;> cases k
        | io i =>
          obtain ⟨u, ou, eu⟩ := inE_io hi ea
          rw [q] at eu
          cases eu
          rcases k with k | k
          · cases k
          · cases k
            obtain ⟨x, hx, ok⟩ := r.get ea
            exact ⟨i, x, rfl, ou, e, hx, ok⟩
  refine ⟨S.sub, fun a o e => ?_, ?_, fun p s e => ?_, fun p q a t u h1 h2 h3 h4 => ?_, fun p a t h1 h2 => ?_, S.lk, fun p t e => ?_⟩
  · obtain ⟨q1, _, q2⟩ := amb_h e
    exact ⟨q2, q1⟩
  · unfold st0
    simp only [List.length_append, List.length_map, List.length_replicate]
    omega
  · rcases at_ e with q | ⟨hp, q⟩
    · subst q
      have hl : p < (st0 m vs).length := by
        have := (List.getElem?_eq_some_iff.mp e).1
        unfold st0
        simp only [List.length_append, List.length_map, List.length_replicate] at this ⊢
        omega
      exact ⟨_, List.getElem?_eq_getElem hl, True.intro⟩
    · cases ea : as[p]? with
      | none =>
        rw [List.getElem?_eq_none_iff] at ea
        omega
      | some a =>
        obtain ⟨x, hx, ok⟩ := r.get ea
        refine ⟨_, st0_get hx, ?_⟩
        cases a with
        | fz u =>
          have := inE_fz hi ea
          rw [q] at this
          cases this
          exact ⟨x, rfl, ok⟩
        | io i =>
          obtain ⟨u, ou, eu⟩ := inE_io hi ea
          rw [q] at eu
          cases eu
          obtain ⟨s0, e0, k0⟩ := ou.get
          obtain ⟨y, hy, oky⟩ := S.slot i s0 e0
          rw [show σ[i]? = some (some x) from ok] at hy
          cases hy
          exact oky.own k0
  · obtain ⟨i, x, ea, oi, _, hx, ex⟩ := own_ h1
    obtain ⟨j, y, eb, oj, _, hy, ey⟩ := own_ h3
    rw [st0_get hx] at h2
    rw [st0_get hy] at h4
    cases h2
    cases h4
    have eij := S.apart i j a _ _ oi ex oj ey
    subst eij
    exact ios_inj n ea eb
  · obtain ⟨i, x, ea, oi, _, hx, ex⟩ := own_ h1
    rw [st0_get hx] at h2
    cases h2
    exact amb_io (mem_ios ea) ex
  · obtain ⟨i, x, ea, oi, _, hx, ex⟩ := own_ (.inr e)
    obtain ⟨s0, e0, k0⟩ := oi.get
    obtain ⟨y, hy, oky⟩ := S.slot i s0 e0
    obtain ⟨b, ob, eb, _⟩ := oky.own k0
    rw [ex] at hy
    cases hy
    cases eb
    refine ⟨b, ?_, st0_get hx⟩
    show (match as[p]? with
      | some (.io i) => (match σ[i]? with
        | some (some (.ref a)) => some a
        | _ => none)
      | _ => none) = some b
    rw [ea]
    dsimp only
    rw [ex]
/-- behind the callee -/
theorem Sok.outof {F' H' : Hp} {σ' : St} {ce : Env} (S : Sok G Tm F H σ env) {as : List Ar} (le : Le F F') (S' : Sok G (amb Tm F H σ as) F' H' σ' ce) (n : (iosOf as).Nodup) (ha : allIo ce 0 as = true) (hi : (inE env as).isSome = true) :
    Sok G Tm F' H' σ (outE as ce 0 env) := by
  obtain ⟨ie, hi⟩ := Option.isSome_iff_exists.mp hi
  have back : ∀ {i : Nat} {s : Sl}, (outE as ce 0 env)[i]? = some s → ∃ s0, env[i]? = some s0 ∧ s = newS as ce i s0 := fun {i s} e => by
    rw [outE_get, Nat.zero_add] at e
    obtain ⟨s0, e0, e1⟩ := Option.map_eq_some_iff.mp e
    exact ⟨s0, e0, e1.symm⟩
  -- a slot that was handed in
  have kind : ∀ {i : Nat} {s0 : Sl}, env[i]? = some s0 → (i ∉ iosOf as ∧ newS as ce i s0 = s0) ∨ ∃ (p : Nat) (t u : T), as[p]? = some (Ar.io i) ∧ ce[p]? = some (Sl.io t) ∧ ((s0 = .ow u ∧ newS as ce i s0 = .ow t) ∨ (s0 = .io u ∧ newS as ce i s0 = .io t)) := fun {i s0} e => by
    by_cases hm : i ∈ iosOf as
    · obtain ⟨p, ea⟩ := ios_mem hm
      obtain ⟨t, et⟩ := allIo_at ha ea
      rw [Nat.zero_add] at et
      obtain ⟨u, ou, _⟩ := inE_io hi ea
      refine .inr ⟨p, t, u, ea, et, ?_⟩
      unfold newS
      rw [find_io n ea]
      dsimp only
      rw [et]
      rcases ou with ou | ou
      · rw [e] at ou
        cases ou
        exact .inl ⟨rfl, rfl⟩
      · rw [e] at ou
        cases ou
        exact .inr ⟨rfl, rfl⟩
    · refine .inl ⟨hm, ?_⟩
      unfold newS
      rw [find_no hm]
  have ownB : ∀ {i : Nat} {t : T}, OwnAt (outE as ce 0 env) i t → ∃ u, OwnAt env i u := fun {i t} o => by
    obtain ⟨s, e, k⟩ := o.get
    obtain ⟨s0, e0, e1⟩ := back e
    rcases kind e0 with ⟨_, q⟩ | ⟨p, t', u, _, _, q⟩
    · rw [q] at e1
      subst e1
      exact ⟨t, .of k e0⟩
    · rcases q with ⟨q, _⟩ | ⟨q, _⟩
      · subst q
        exact ⟨u, .inl e0⟩
      · subst q
        exact ⟨u, .inr e0⟩
  refine ⟨S'.sub, fun a o e => ?_, by rw [outE_len, S.len], fun i s e => ?_, fun i j a t u h1 h2 h3 h4 => ?_, fun i a t h1 h2 => ?_, S'.lk, fun i t e => ?_⟩
  · have q := S.tm a o e
    refine S'.tm a o ?_
    rw [amb_of q.2 fun i hm z => ?_]
    · exact q.1
    · obtain ⟨p, ea⟩ := ios_mem hm
      obtain ⟨u, ou, _⟩ := inE_io hi ea
      rw [S.tmo i a u ou z] at e
      cases e
  · obtain ⟨s0, e0, e1⟩ := back e
    obtain ⟨x, hx, ok⟩ := S.slot i s0 e0
    refine ⟨x, hx, ?_⟩
    rcases kind e0 with ⟨hm, q⟩ | ⟨p, t, u, ea, ec, q⟩
    · rw [q] at e1
      subst e1
      have mv : ∀ {t : T}, (s = .ow t ∨ s = .io t) → ∃ b ob, x = some (.ref b) ∧ H' b = some ob ∧ F' b = none ∧ Top G F' ob t := fun {t} k => by
        obtain ⟨b, ob, ex, hb, fb, top⟩ := ok.own k
        have q := S'.tm b ob (by
          rw [amb_of fb fun j hj z => ?_]
          · exact hb
          · obtain ⟨pj, eaj⟩ := ios_mem hj
            obtain ⟨uj, ouj, _⟩ := inE_io hi eaj
            exact hm (by rw [S.apart i j b t uj (.of k e0) (by rw [hx, ex]) ouj z]; exact hj))
        exact ⟨b, ob, ex, q.1, q.2, top.mono le⟩
      cases s with
      | un => exact True.intro
      | fz t =>
        obtain ⟨v, ev, rv⟩ := ok
        exact ⟨v, ev, Rep.mono le t rv⟩
      | ow t => exact mv (.inl rfl)
      | io t => exact mv (.inr rfl)
    · have k0 : s0 = .ow u ∨ s0 = .io u := by
        rcases q with ⟨q, _⟩ | ⟨q, _⟩
        · exact .inl q
        · exact .inr q
      obtain ⟨b, ob, ex, hb, fb, top⟩ := ok.own k0
      obtain ⟨b', e3, e4⟩ := S'.pio p t ec
      have e5 : (amb Tm F H σ as).p p = some b := by
        show (match as[p]? with
          | some (.io i) => (match σ[i]? with
            | some (some (.ref a)) => some a
            | _ => none)
          | _ => none) = some b
        rw [ea]
        dsimp only
        rw [hx, ex]
      rw [e5] at e3
      cases e3
      obtain ⟨y, hy, oky⟩ := S'.slot p _ ec
      rw [e4] at hy
      cases hy
      obtain ⟨c, oc, ec2, hc, fc, tc⟩ := oky
      cases ec2
      have res : ∃ b2 ob2, x = some (.ref b2) ∧ H' b2 = some ob2 ∧ F' b2 = none ∧ Top G F' ob2 t := ⟨b, oc, ex, hc, fc, tc⟩
      rcases q with ⟨_, q⟩ | ⟨_, q⟩
      · rw [q] at e1
        subst e1
        exact res
      · rw [q] at e1
        subst e1
        exact res
  · obtain ⟨t', o1⟩ := ownB h1
    obtain ⟨u', o2⟩ := ownB h3
    exact S.apart i j a t' u' o1 h2 o2 h4
  · obtain ⟨t', o1⟩ := ownB h1
    exact S.tmo i a t' o1 h2
  · obtain ⟨s0, e0, e1⟩ := back e
    rcases kind e0 with ⟨_, q⟩ | ⟨p, t', u, _, _, q⟩
    · rw [q] at e1
      subst e1
      exact S.pio i t e0
    · rcases q with ⟨q1, q2⟩ | ⟨q1, q2⟩
      · rw [q2] at e1
        cases e1
      · subst q1
        exact S.pio i u e0
/-- a new object that the callee hands back -/
theorem own_back {F' H' : Hp} {σ' : St} {ce : Env} {a : Addr} {o : HO} {t : T} (S : Sok G Tm F H σ env) {as : List Ar} (S' : Sok G (amb Tm F H σ as) F' H' σ' ce) (n : (iosOf as).Nodup) (ha : allIo ce 0 as = true) (hi : (inE env as).isSome = true)
    (h1 : H' a = some o) (h2 : F' a = none) (le : Le F F') (top : Top G F' o t) (h3 : (amb Tm F H σ as).h a = none) (h4 : ∀ (p : Nat) u, ce[p]? = some (.io u) → σ'[p]? ≠ some (some (.ref a))) :
    RvR G Tm F' H' σ (outE as ce 0 env) (.ow t) (.ref a) := by
  obtain ⟨ie, hi⟩ := Option.isSome_iff_exists.mp hi
  have fa : F a = none := by
    cases e : F a with
    | none => rfl
    | some u =>
      rw [le a u e] at h2
      cases h2
  have nio : ∀ i ∈ iosOf as, σ[i]? ≠ some (some (.ref a)) := fun i hm z => by
    obtain ⟨p, ea⟩ := ios_mem hm
    obtain ⟨u, eu⟩ := allIo_at ha ea
    rw [Nat.zero_add] at eu
    obtain ⟨b, e3, e4⟩ := S'.pio p u eu
    have e5 : (amb Tm F H σ as).p p = some a := by
      show (match as[p]? with
        | some (.io i) => (match σ[i]? with
          | some (some (.ref a)) => some a
          | _ => none)
        | _ => none) = some a
      rw [ea]
      dsimp only
      rw [z]
    rw [e5] at e3
    cases e3
    exact h4 p u eu e4
  have ha0 : H a = none := by
    rw [← amb_of (Tm := Tm) (H := H) fa nio]
    exact h3
  refine ⟨a, o, rfl, h1, h2, ?_, top, fun i u ou z => ?_⟩
  · cases e : Tm.h a with
    | none => rfl
    | some u =>
      have := (S.tm a u e).1
      rw [ha0] at this
      cases this
  · obtain ⟨s, e, k⟩ := ou.get
    rw [outE_get, Nat.zero_add] at e
    obtain ⟨s0, e0, e1⟩ := Option.map_eq_some_iff.mp e
    by_cases hm : i ∈ iosOf as
    · exact nio i hm z
    · have : newS as ce i s0 = s0 := by
        unfold newS
        rw [find_no hm]
      rw [this] at e1
      subst e1
      obtain ⟨x, hx, ok⟩ := S.slot i _ e0
      obtain ⟨b, ob, ex, hb, _⟩ := ok.own k
      rw [z] at hx
      cases hx
      cases ex
      rw [ha0] at hb
      cases hb
end
end Ev
/-! Ev8: calls of the text's own defs; a law's call. -/
namespace Ev
open PySem PySem.Spec L2
/-- what a call leans on -/
structure Bk (C : Cy) (k : Nat) : Prop where
  room : Room k C.X.A
  grd : C.X.A.guards = some []
  tk : Takes C.X C.W
theorem Bod.bk {C : Cy} {k : Nat} (B : Bod C k) : Bk C k := ⟨B.room, B.grd, B.tk⟩
theorem Bk.blk {C : Cy} {k : Nat} (B : Bk C k) (s : Shared) (H : Hp) (scope : Scope) (cenv : PySem.Env) (fp : List Addr) : Bk (C.blk s H scope cenv fp) k := ⟨B.room, B.grd, takes0⟩
theorem Bk.rm {C : Cy} {k : Nat} (B : Bk C k) : Rm C := by
  have := B.room.un
  show C.X.A.units + 190 < cLine
  omega
def callA (n : Nat) (d : SM) (m : Nat) (as : List Ar) : M Rv := if as.length = n then callD d m as else M.no
theorem ArL.append {G : Gr} {F : Hp} {σ : St} {bs : List Ar} {ys : List V} : ∀ {as : List Ar} {xs : List V}, ArL G F σ as xs → ArL G F σ bs ys → ArL G F σ (as ++ bs) (xs ++ ys)
  | [], _, h, h' => by rw [show _ = [] from h]; exact h'
  | a :: as, _, ⟨x, r, e, h, t⟩, h' => ⟨x, r ++ _, by rw [e] <;> rfl, h, ArL.append t h'⟩
theorem ArL.consts {G : Gr} {F : Hp} {σ : St} : ∀ {ts : List T} {xs : List V}, RepL G F ts xs → ArL G F σ (ts.map Ar.fz) xs
  | [], _, h => h.unnil
  | t :: ts, _, h => by
    obtain ⟨x, r, e, h1, h2⟩ := h.uncons
    exact ⟨x, r, e, h1, ArL.consts h2⟩
section
variable {C : Cy} {k j : Nat} {f : Addr} {fd : FuncData} {ps : List Str} {m : Nat} {d : SM} {ds : List Value} {dvs : List V} {dts : List T}
abbrev FnC (C : Cy) (k : Nat) (f : Addr) (fd : FuncData) (ps : List Str) (m : Nat) (d : SM) : Prop := FnT C.X.prog C.X.w C.X.K C.X.mg C.X.base C.ca k f fd ps m d
/-- a call as the caller sees it -/
theorem call_sp {σ : St} {H : Hp} {Q : VK} {vs : List V} {Tm : Amb} {F0 : Hp} {env : Env} {as : List Ar} {n : Nat} (hm : n ≤ m) (S : Sok C.G Tm F0 H σ env) (ra : ArL C.G F0 σ as vs)
    (q : At C (RvR C.G) Tm F0 σ Q (callA n d m as env)) : spT C.G n m d vs H Q (fun cls dd H' => C.W cls dd σ H') := by
  unfold callA at q
  by_cases hl : as.length = n
  case neg =>
    rw [if_neg hl] at q
    exact q.elim
  rw [if_pos hl] at q
  unfold callD at q
  cases ei : inE env as with
  | none =>
    rw [ei] at q
    exact q.elim
  | some ie =>
    rw [ei] at q
    dsimp only at q
    by_cases hn : (iosOf as).Nodup
    case neg =>
      rw [if_neg hn] at q
      exact q.elim
    rw [if_pos hn] at q
    refine ⟨by rw [ra.length, hl], amb Tm F0 H σ as, F0, _, S.into ra ei hn (by omega), ?_⟩
    have hs : (inE env as).isSome = true := by rw [ei] <;> rfl
    cases ed : d (ie ++ List.replicate (m - as.length) .un) with
    | nx ce =>
      rw [ed] at q
      dsimp only at q
      by_cases ha : allIo ce 0 as = true
      case neg =>
        rw [if_neg ha] at q
        exact q.elim
      rw [if_pos ha] at q
      exact fun σ' F' H' le S' => q _ F' H' le (S.outof le S' hn ha hs) mk_non
    | rt r ce =>
      rw [ed] at q
      dsimp only at q
      by_cases ha : allIo ce 0 as = true
      case neg =>
        rw [if_neg ha] at q
        exact q.elim
      rw [if_pos ha] at q
      intro x σ' F' H' le S' rv
      cases r with
      | fz t => exact q _ F' H' le (S.outof le S' hn ha hs) rv
      | ow t =>
        obtain ⟨a, o, rfl, h1, h2, h3, top, h4⟩ := rv
        exact q _ F' H' le (S.outof le S' hn ha hs) (own_back S S' hn ha hs h1 h2 le top h3 fun p u e => h4 p u (.inr e))
      | bo i =>
        dsimp only at q
        obtain ⟨hx, t0, ot⟩ := rv
        cases es : ce[i]? with
        | none =>
          rw [es] at q
          exact q.elim
        | some s =>
          rw [es] at q
          cases s with
          | un => exact q.elim
          | fz _ => exact q.elim
          | io _ => exact q.elim
          | ow t =>
            obtain ⟨y, hy, a, o, ey, h1, h2, top⟩ := S'.slot i _ es
            rw [hx] at hy
            cases hy
            cases ey
            refine q _ F' H' le (S.outof le S' hn ha hs) (own_back S S' hn ha hs h1 h2 le top (S'.tmo i a t (.inl es) hx) fun p u e z => ?_)
            have := S'.apart p i a u t (.inr e) z (.inl es) hx
            subst this
            rw [es] at e
            cases e
    | ex c fs ce =>
      rw [ed] at q
      dsimp only at q
      by_cases ha : allIo ce 0 as = true
      case neg =>
        rw [if_neg ha] at q
        exact q.elim
      rw [if_pos ha] at q
      exact fun dd σ' F' H' ws le S' e r => q dd F' H' ws le (S.outof le S' hn ha hs) e r
    | bk ce =>
      rw [ed] at q
      exact q.elim
    | ct ce =>
      rw [ed] at q
      exact q.elim
    | no =>
      rw [ed] at q
      exact q.elim
theorem call_run (F : FnC C k f fd ps m d) (B : Bk C k) (hb : Binds C.X.K fd ps ds) (hd : Vals dvs ds) {pins : List (Addr × Obj)} {s : Shared} {σ : St} {H : Hp} {Q : VK} {us : List Value} {vs : List V} (I : Inv C.X pins σ H s) (rv : Vals vs us)
    (h : spT C.G ps.length m d (vs ++ dvs) H Q (fun cls dd H' => C.W cls dd σ H')) : wpAny (model C.X.prog C.X.w) C.X.A (call (.ref f) us) (EP C.X pins σ Q) C.X.xe s := by
  have r2 := rv.append hd
  have hl : (us ++ ds).length = ps.length := by rw [← r2.length]; exact h.1
  refine wpAny_call (codeAny_mono (F.go B.room B.grd I.env0 (hb s us I.kIn hl) r2 h) fun r s' hq => ?_)
  match r, hq with
  | .error e, hq => exact B.tk _ _ (XE.of_call I (fun _ _ _ z => z) hq)
  | .ok (.ret u), hq => exact I.after hq
  | .ok .next, hq => exact False.elim hq
  | .ok .brk, hq => exact False.elim hq
  | .ok .cont, hq => exact False.elim hq
variable {x : Str} {p pos : Pos} {e : Expr} {es : List Expr} {fa : M (List Ar)}
theorem ev_call (F : FnC C k f fd ps m d) (B : Bk C j) (hj : k ≤ j) (hm : ps.length ≤ m) (hg : Gl C.X x) (hx : C.X.mg x = some (.ref f)) (hk : PySem.W.keepIn C.X.K (.ref f) = true) (hb : Binds C.X.K fd ps ds) (hd : Vals dvs ds) (ht : ∀ F, RepL C.G F dts dvs) (ha : EvAr C (e :: es) fa)
    (hdb : (x == ("__debug__" : Str)) = false := by decide +kernel) (he : starEach (e :: es) C.X.env = (false, eval e C.X.env) :: starEach es C.X.env := by rfl) (hpl : (backTo pos (starEach es C.X.env)).any (·.1) = false := by rfl) :
    EvE C (.Call (.Name x p) (e :: es) [] pos) (M.bind fa fun as => callA ps.length d m (as ++ dts.map Ar.fz)) := by
  refine ⟨fun pins s σ H Q I ⟨Tm, F0, env, S, q⟩ => ?_⟩
  refine wpAny_Call_Name_kw (ld_glob I hg hx ?_ hdb)
  have q1 : tG C (ArR C.G) fa σ H fun vs H1 => spT C.G ps.length m d (vs ++ dvs) H1 Q (fun cls dd H' => C.W cls dd σ H') := by
    refine ⟨Tm, F0, env, S, At.bind (R' := RvR C.G) (Q' := Q) q fun as env1 xs F1 H1 le1 S1 r1 q2 => ?_⟩
    exact call_sp hm S1 (r1.append (ArL.consts (ht F1))) q2
  refine PySem.W.callWith_K (h₀ := C.X.base) I.ok.mod.kin hk (thn (ha.run pos pins s σ H _ I q1) fun us s1 ⟨vs, H1, I1, r, h⟩ => ⟨I1.kIn, ?_⟩) he hpl
  exact call_run (F.up hj) B hb hd I1 r h
theorem ev_call0 (F : FnC C k f fd ps m d) (B : Bk C j) (hj : k ≤ j) (hm : ps.length ≤ m) (hg : Gl C.X x) (hx : C.X.mg x = some (.ref f)) (hk : PySem.W.keepIn C.X.K (.ref f) = true) (hb : Binds C.X.K fd ps ds) (hd : Vals dvs ds) (ht : ∀ F, RepL C.G F dts dvs)
    (hdb : (x == ("__debug__" : Str)) = false := by decide +kernel) : EvE C (.Call (.Name x p) [] [] pos) (callA ps.length d m (dts.map Ar.fz)) := by
  refine ⟨fun pins s σ H Q I ⟨Tm, F0, env, S, q⟩ => ?_⟩
  refine wpAny_Call_Name_kw (ld_glob I hg hx ?_ hdb)
  exact PySem.W.callWith_K0 I.kIn hk (call_run (us := []) (vs := []) (F.up hj) B hb hd I .nil (call_sp hm S (ArL.consts (ht F0)) q))
end

/-! ### a law's call -/
section
variable {P : Program} {w : World} {K : PySem.W.Frag} {mg mb : Str → Option Value} {ca : Nat → Addr} {k : Nat} {fa a : Addr} {fd : FuncData} {x : Str} {m : Nat} {d : SM} {s₁ : Shared} {vs : List Value} {ns : List Int}
/-- the script's value, as a tree -/
def scr (ns : List Int) : T := .lst (ns.map T.int)
theorem scr_rep {G : Gr} {F : Hp} (h : LstAt G.K F a (ns.map V.int)) : Rep G F (scr ns) (.ref a) := by
  unfold scr
  simp only [Rep]
  refine ⟨a, _, rfl, h, ?_⟩
  induction ns with
  | nil => exact .nil
  | cons n ns ih => exact .cons (mk_int n) (by
      clear h ih
      induction ns with
      | nil => exact .nil
      | cons n ns ih => exact .cons (mk_int n) ih)
/-- the law is true of the script: the outcome of its def is True -/
def True_ (o : SO) : Prop := ∃ e, o = .rt (.fz (.bl true)) e
theorem law_true (KX : K.In s₁.heap) (hns : s₁.heap.Ns mainGlobals mg) (hbn : s₁.heap.Ns builtinsNs mb) (hbb : ∀ x : Str, x ≠ "__name__" → mb x = bootBuiltins x) (hlim : s₁.heap.NoLimit) (hgen : s₁.gens = #[])
    (ha : s₁.heap.get? a = some { cls := .type "list", data := .seq vs.toArray }) (hi : PyProof.Rows.IntsAre vs ns) (hl : ns.length ≤ sizeLine) (hr : Room k callerA)
    (FF : ∀ base : Heap, K.In base → base.Ns mainGlobals mg → FnT P w K mg base ca k fa fd [x] m d) (hm : 1 ≤ m) (hbind : ∀ (s : Shared) (u : Value), BindsTo s fd ⟨[u], []⟩ [(x, u)])
    (ht : True_ (d (.fz (scr ns) :: List.replicate (m - 1) .un))) :
    codeAny (model P w) callerA (.call (.ref fa) ⟨[.ref a], []⟩) (fun r s' => r = .ok (.ret (.bool true)) ∧ OldK s₁.heap s'.heap ∧ s'.os = s₁.os ∧ PyProof.Rows.AllBare s'.gens) s₁ := by
  have rv := vals_ints hi
  have lenV := hi.length
  obtain ⟨ee, ht⟩ := ht
  have main : ∀ H : Hp, Only H → LstAt K H a (ns.map V.int) → HOk P w H s₁.heap → (∀ b, H b ≠ none → b = a) → (H a ≠ none → K.lookup a = none) →
      codeAny (model P w) callerA (.call (.ref fa) ⟨[.ref a], []⟩) (fun r s' => r = .ok (.ret (.bool true)) ∧ OldK s₁.heap s'.heap ∧ s'.os = s₁.os ∧ PyProof.Rows.AllBare s'.gens) s₁ := by
    intro H hO hS hok hA hK
    have only : ∀ {b : Addr}, b ≠ a → H b = none := fun {b} n => by
      cases q : H b with
      | none => rfl
      | some u => exact absurd (hA b (by rw [q]; exact fun z => nomatch z)) n
    have dicts : ∀ {b : Addr} {o : Obj} {es : Array DictEntry} {ep : Nat}, s₁.heap.get? b = some o → o.data = .dict es ep → H b = none := fun {b o es ep} e dd => by
      refine only fun z => ?_
      rw [z, ha] at e
      cases e
      exact nomatch (show Data.seq vs.toArray 0 = Data.dict es ep from dd)
    have nsH : ∀ {b : Addr} {mm : Str → Option Value}, s₁.heap.Ns b mm → (hidT s₁.heap H).Ns b mm := fun {b mm} ⟨o, es, ep, e, dd, r⟩ => ⟨o, es, ep, hidT_get e (dicts e dd), dd, r⟩
    have kB : K.In (hidT s₁.heap H) := fun b o e => by
      refine hidT_get (KX b o e) ?_
      by_cases hb : b = a
      · cases q : H b with
        | none => rfl
        | some u =>
          rw [hb] at q e
          have z := hK (by rw [q]; exact fun z => nomatch z)
          rw [z] at e
          cases e
      · exact only hb
    obtain ⟨mc, l1, l2⟩ := hlim
    have e0 : Env0 P w K mg (hidT s₁.heap H) callerA [] s₁ H := {
      frames := rfl
      mod := ⟨kB, nsH hns, ⟨mb, nsH hbn, hbb⟩, mc, nsH l1, l2⟩
      bs := fun b o e => of_hidT e
      bsz := Nat.le_of_eq (hidT_size _ _)
      funs := trivial
      frf := fun b hb => nomatch hb
      hok := hok
      bare := .of_eq hgen }
    have hsp : spT ⟨K, ca⟩ 1 m d [.ref a] H (fun v _ => v = .bl true) (fun _ _ _ => False) := by
      refine ⟨rfl, ⟨fun _ => none, fun _ => none, fun _ => none⟩, H, .fz (scr ns) :: List.replicate (m - 1) .un, ⟨fun b o e => .inl e, fun b o e => (nomatch e), ?_, fun i s e => ?_, fun i j b t u h1 => ?_, fun i b t h1 _ => rfl, fun b o e => (nomatch e), fun i t e => ?_⟩, ?_⟩
      · unfold st0
        simp only [List.length_append, List.length_map, List.length_replicate, List.length_cons, List.length_nil]
        omega
      · cases i with
        | zero =>
          cases e
          exact ⟨some (.ref a), rfl, .ref a, rfl, scr_rep hS⟩
        | succ i =>
          rw [List.getElem?_cons_succ, List.getElem?_replicate] at e
          split at e
          · rename_i hlt
            cases e
            refine ⟨none, ?_, True.intro⟩
            show ([some (V.ref a)] ++ List.replicate (m - 1) none)[i + 1]? = some none
            rw [List.getElem?_append_right (by simp)]
            simp [hlt]
          · cases e
      · rcases h1 with h1 | h1
        · cases i with
          | zero => cases h1
          | succ i =>
            rw [List.getElem?_cons_succ, List.getElem?_replicate] at h1
            split at h1 <;> cases h1
        · cases i with
          | zero => cases h1
          | succ i =>
            rw [List.getElem?_cons_succ, List.getElem?_replicate] at h1
            split at h1 <;> cases h1
      · cases i with
        | zero => cases e
        | succ i =>
          rw [List.getElem?_cons_succ, List.getElem?_replicate] at e
          split at e <;> cases e
      · rw [ht]
        exact fun y σ F' H' _ _ r => rep_bl r
    refine codeAny_mono ((FF _ kB (nsH hns)).go hr rfl e0 (us := [.ref a]) (hbind s₁ (.ref a)) (vs := [.ref a]) (.cons rfl .nil) hsp) fun r s' h => ?_
    match r, h with
    | .error e, h =>
      obtain ⟨_, _, _, _, _, _, _, _, _, _, _, _, z⟩ := h
      exact z.elim
    | .ok .next, h => exact False.elim h
    | .ok .brk, h => exact False.elim h
    | .ok .cont, h => exact False.elim h
    | .ok (.ret u), h =>
      obtain ⟨v, H', os, bare, un, hok', r', q⟩ := h
      have q' : v = .bl true := q
      subst q'
      have ru : u = Value.bool true := r'
      subst ru
      refine ⟨rfl, OldK.of_keep fun b o e => ?_, os, bare⟩
      rcases hO b with z | ⟨ob, xs, z⟩
      · exact un.keep b o e z (fun y => nomatch y) (fun y => nomatch y)
      · obtain ⟨e1, _⟩ := hok b _ z
        obtain ⟨e2, _⟩ := hok' b _ (un.frzs b ob _ z)
        rw [e] at e1
        cases e1
        exact e2
  have hl2 : vs.length ≤ sizeLine := by rw [lenV]; exact hl
  cases hk : K.lookup a with
  | some o =>
    have e := KX a o hk
    rw [ha] at e
    cases e
    exact main (fun _ => none) (fun _ => .inl rfl) (.inr ⟨vs, 0, hk, hl2, rv⟩) (fun b u z => nomatch z) (fun b z => absurd rfl z) fun z => absurd rfl z
  | none =>
    let Hs : Hp := upd (fun _ => none) a (.frz { cls := .type "list", data := .seq vs.toArray } (.lst (ns.map V.int)))
    have hs : Hs a = some (.frz { cls := .type "list", data := .seq vs.toArray } (.lst (ns.map V.int))) := upd_same
    have hn : ∀ {b : Addr}, b ≠ a → Hs b = none := fun {b} n => upd_ne n
    refine main Hs (fun b => ?_) (.inl (.inr ⟨_, hs⟩)) (fun b u z => ?_) (fun b z => ?_) fun _ => hk
    · by_cases hb : b = a
      · exact .inr ⟨_, _, by rw [hb]; exact hs⟩
      · exact .inl (hn hb)
    · by_cases hb : b = a
      · subst hb
        rw [hs] at z
        cases z
        exact ⟨ha, by rw [List.length_map]; exact hl, vs, 0, rv, ha⟩
      · rw [hn hb] at z
        cases z
    · by_cases hb : b = a
      · exact hb
      · exact absurd (hn hb) z
end
/-- the end of a law over a head by facts -/
theorem law_walk {l : PySem.W.OpenLaw} {n k m : Nat} {q : Program} {loose : List Str} {XP : (Str → Option Value) → Heap → Prop} {YP : World → Heap → Prop} {dr : DefRec} {x : Str} {d : SM}
    (hn : l.most = some n) (hn2 : n ≤ sizeLine) (hdf : dr.params.defaults = []) (hr : Room k callerA) (hm : 1 ≤ m)
    (F : ∀ (w : World) (mg : Str → Option Value) (fa : Addr) (h : Heap), YP w h → h.Ns mainGlobals mg → mg dr.name = some (.ref fa) →
      ∃ (K : PySem.W.Frag) (ca : Nat → Addr) (fd : FuncData), K.In h ∧ (∀ (s : Shared) (u : Value), BindsTo s fd ⟨[u], []⟩ [(x, u)]) ∧ ∀ base : Heap, K.In base → base.Ns mainGlobals mg → FnT l.prog w K mg base ca k fa fd [x] m d)
    (ht : ∀ ns : List Int, ns.length ≤ n → True_ (d (.fz (scr ns) :: List.replicate (m - 1) .un))) :
    PySem.W.WalkO q loose XP YP l.row.toRowW dr [] (fun f vs => PySem.call f vs) := by
  refine Att.attach_call hn hdf fun w s₀ s₁ mg mb fa o pm cd doc a vs ns G Y ho hd hcd hmg hobj hints hlen hg => ?_
  obtain ⟨K, ca, fd, KX, hb, hF⟩ := F w mg fa _ Y G.T.g hmg
  exact law_true KX G.T.g G.T.b G.T.builtins G.T.nolimit hg hobj hints (Nat.le_trans hlen hn2) hr hF hm hb (ht ns hlen)
end Ev
/-! Ev9: unpacking, join, repr, isinstance of built-in types. -/
namespace Ev
open PySem PySem.Spec L2
section
variable {C : Cy} {a b c e : Expr} {es : List Expr} {pos pos' : Pos}
def tgSeq (n : Nat) (g : TMs) : TM := fun t env => match t with
  | .tup ts => if ts.length = n then g ts env else none
  | .lst ts => if ts.length = n then g ts env else none
  | _ => none
theorem eg_seq {tgs : List Expr} {k n : Nat} {js : List Nat} {g : TMs} (hc : C.X.calm = true) (h : EvGs C tgs js g) (hn : (assignEach tgs C.X.env).length = n := by rfl) (hst : (assignEach tgs C.X.env).findIdx? (·.1) = none := by rfl) : EvG C (.Tuple tgs k pos) js (tgSeq n g) := by
  refine ⟨fun pins s σ H v u Q I rv hw => ?_⟩
  obtain ⟨Tm, F, env, t, env', S, r, e, q⟩ := hw
  cases t <;> first | (cases e; done) | skip
  · rename_i ts
    simp only [tgSeq] at e
    split at e
    · rename_i hl
      obtain ⟨p, xs, ev, hq, rl⟩ := rep_tup r
      exact (pg_tup hc h hn hst).run pins s σ H v u Q I rv ⟨p, xs, ev, S.sqT hq, by rw [rl.length]; exact hl, Tm, F, env, ts, env', S, rl, e, q⟩
    · cases e
  · rename_i ts
    simp only [tgSeq] at e
    split at e
    · rename_i hl
      obtain ⟨p, xs, ev, hq, rl⟩ := rep_lst r
      exact (pg_unl hc h hn hst).run pins s σ H v u Q I rv ⟨p, xs, ev, (S.lstAt hq).sq, by rw [rl.length]; exact hl, Tm, F, env, ts, env', S, rl, e, q⟩
    · cases e

/-! ### join -/
def joinT : T → T → Option Rv
  | .str z, .lst ts => (asStrs ts).bind fun ys => if (ys.map (·.length)).sum + ys.length * z.length ≤ 16777216 then some (.fz (.str (Txt.join z ys))) else none
  | .str z, .tup ts => (asStrs ts).bind fun ys => if (ys.map (·.length)).sum + ys.length * z.length ≤ 16777216 then some (.fz (.str (Txt.join z ys))) else none
  | _, _ => none
def joinM (f g : M T) : M Rv := M.bind f fun t => match t with
  | .str z => M.bind g fun u => M.of (joinT (.str z) u)
  | _ => M.no
theorem ev_join {apos : Pos} {f : M T} {g : M T} (h : EvT C a f) (h' : EvT C e g) (hs : starEach [e] C.X.env = [(false, eval e C.X.env)] := by rfl) (hbase : attributeBase a "join" C.X.env (eval a C.X.env) = eval a C.X.env := by rfl) (hline : (apos.endLine == pos.line) = true := by rfl) :
    EvE C (.Call (.Attribute a "join" apos) [e] [] pos) (joinM f g) := by
  refine pe_imp (pe_join h h' hs hbase hline) fun σ H Q ⟨Tm, F, env, S, q⟩ => ⟨Tm, F, env, S, ?_⟩
  refine At.bind (R' := RvR C.G) (Q' := Q) q fun t env1 x F1 H1 le1 S1 r1 q1 => ?_
  cases t <;> first | exact q1.elim | skip
  rename_i z
  refine ⟨⟨z, rep_str r1⟩, Tm, F1, env1, S1, ?_⟩
  refine At.bind (R' := RvR C.G) (Q' := Q) q1 fun u env2 y F2 H2 le2 S2 r2 q2 => of_some q2 fun w hw q3 => ?_
  cases u <;> first | (cases hw; done) | skip
  · obtain ⟨ys, e1, e2⟩ := Option.bind_eq_some_iff.mp hw
    split at e2
    · rename_i hz
      cases e2
      obtain ⟨p, xs, ex, hq, rl⟩ := rep_tup r2
      rw [asStrs_ok e1 rl] at hq
      exact ⟨z, p, ys, rep_str r1, by rw [ex], .inr (S2.sqT hq), hz, q3 _ F2 H2 Le.rfl S2 (mk_str _)⟩
    · cases e2
  · obtain ⟨ys, e1, e2⟩ := Option.bind_eq_some_iff.mp hw
    split at e2
    · rename_i hz
      cases e2
      obtain ⟨p, xs, ex, hq, rl⟩ := rep_lst r2
      rw [asStrs_ok e1 rl] at hq
      exact ⟨z, p, ys, rep_str r1, by rw [ex], .inl (S2.lstAt hq).sq, hz, q3 _ F2 H2 Le.rfl S2 (mk_str _)⟩
    · cases e2

/-! ### repr -/
mutual
theorem plain_nodict : ∀ d : PyData, d.plain = true → d.hasDict = false
  | .none, _ => rfl
  | .bool _, _ => rfl
  | .int _, _ => rfl
  | .str _, _ => rfl
  | .list xs, h => by
    simp only [PyData.hasDict]
    exact plain_nodicts xs (by simpa only [PyData.plain] using h)
  | .tuple xs, h => by
    simp only [PyData.hasDict]
    exact plain_nodicts xs (by simpa only [PyData.plain] using h)
  | .dict _, h => by cases h
theorem plain_nodicts : ∀ xs : List PyData, PyData.plainAll xs = true → PyData.hasDictAll xs = false
  | [], _ => rfl
  | x :: xs, h => by
    have h' : x.plain = true ∧ PyData.plainAll xs = true := by simpa only [PyData.plainAll, Bool.and_eq_true] using h
    simp only [PyData.hasDictAll, plain_nodict x h'.1, plain_nodicts xs h'.2, Bool.or_self]
end
def reprT (t : T) : Option Rv := if (toD t).plain = true ∧ (toD t).showable = true ∧ (toD t).depth ≤ 100 ∧ (toD t).shown.length ≤ sizeLine then some (.fz (.str (toD t).shown)) else none
theorem call_reprD (hg : C.X.A.guards = some []) (hu : Rm C) : CallR C.X (.builtin "repr") (fun xs H Q => ∃ x d, xs = [x] ∧ Dp C.X.K H x d ∧ d.plain = true ∧ d.showable = true ∧ d.depth ≤ 100 ∧ d.shown.length ≤ sizeLine ∧ Q (.str d.shown) H) := by
  intro pins s σ H xs us Q I r h
  obtain ⟨x, d, rfl, hd, hp, hs, hdp, hz, q⟩ := h
  obtain ⟨u, rfl, ru⟩ := vals1 r
  obtain ⟨as, rd⟩ := Dp.reads I d x u hd ru
  have fin : ∀ tk t, EP C.X pins σ Q (.str d.shown t) { s with toks := tk } := fun tk t => ⟨.str _, H, I.tok tk, ⟨t, rfl⟩, q⟩
  cases hd with
  | non =>
    cases ru
    exact PySem.P.repr_of_none (fin _ _)
  | bl b =>
    cases ru
    exact PySem.P.repr_of_bool (fin _ _)
  | int i =>
    obtain ⟨t, rfl⟩ := ru
    exact PySem.P.repr_of_int (by simpa [PyData.showable] using hs) (fin _ _)
  | str z =>
    obtain ⟨t, rfl⟩ := ru
    exact PySem.P.repr_of_str (fin _ _) (by simpa [PyData.shown] using hz)
  | lst h1 h2 =>
    cases ru
    refine PySem.repr_of_reads' rd hs (fun z => absurd z (by rw [plain_nodict _ hp]; exact Bool.false_ne_true)) hg (by have := hu; omega) (fun b o e => e) (fun h' u tk k => ?_) hz
    exact ⟨.str _, H, I.kept k, ⟨u, rfl⟩, q⟩
  | tup h1 h2 =>
    cases ru
    refine PySem.repr_of_reads' rd hs (fun z => absurd z (by rw [plain_nodict _ hp]; exact Bool.false_ne_true)) hg (by have := hu; omega) (fun b o e => e) (fun h' u tk k => ?_) hz
    exact ⟨.str _, H, I.kept k, ⟨u, rfl⟩, q⟩
theorem ok_repr (hg : C.X.A.guards = some []) (hu : Rm C) : Call1Ok C (.builtin "repr") reprT := by
  refine ⟨_, call_reprD hg hu, fun {Tm F H σ env x t w Q} S p hw q => ?_⟩
  unfold reprT at hw
  split at hw
  · rename_i hz
    cases hw
    exact ⟨x, _, rfl, p.dp S hz.1, hz.1, hz.2.1, hz.2.2.1, hz.2.2.2, q _ F H Le.rfl S (mk_str _)⟩
  · cases hw

/-! ### isinstance with a built-in type -/
def tyN : T → Option String
  | .non => some "NoneType"
  | .bl _ => some "bool"
  | .int _ => some "int"
  | .str _ => some "str"
  | .tup _ => some "tuple"
  | .lst _ => some "list"
  | .dK _ => some "dict"
  | _ => none
def subTy : String → String → Option Bool
  | "NoneType", "str" => some false
  | "NoneType", "int" => some false
  | "NoneType", "bool" => some false
  | "NoneType", "tuple" => some false
  | "NoneType", "list" => some false
  | "NoneType", "dict" => some false
  | "bool", "str" => some false
  | "bool", "int" => some true
  | "bool", "bool" => some true
  | "bool", "tuple" => some false
  | "bool", "list" => some false
  | "bool", "dict" => some false
  | "int", "str" => some false
  | "int", "int" => some true
  | "int", "bool" => some false
  | "int", "tuple" => some false
  | "int", "list" => some false
  | "int", "dict" => some false
  | "str", "str" => some true
  | "str", "int" => some false
  | "str", "bool" => some false
  | "str", "tuple" => some false
  | "str", "list" => some false
  | "str", "dict" => some false
  | "tuple", "str" => some false
  | "tuple", "int" => some false
  | "tuple", "bool" => some false
  | "tuple", "tuple" => some true
  | "tuple", "list" => some false
  | "tuple", "dict" => some false
  | "list", "str" => some false
  | "list", "int" => some false
  | "list", "bool" => some false
  | "list", "tuple" => some false
  | "list", "list" => some true
  | "list", "dict" => some false
  | "dict", "str" => some false
  | "dict", "int" => some false
  | "dict", "bool" => some false
  | "dict", "tuple" => some false
  | "dict", "list" => some false
  | "dict", "dict" => some true
  | _, _ => none
theorem subTy_ok {K : PySem.W.Frag} {a b : String} {r : Bool} (h : subTy a b = some r) : PySem.W.kitOne K (.type a) (.type b) = some r := by
  unfold subTy at h
  split at h <;> first | (cases h; exact kit_ty (by decide +kernel)) | cases h
theorem Pk.ty {Tm : Amb} {F H : Hp} {σ : St} {env : Env} (S : Sok C.G Tm F H σ env) {t : T} {x : V} {n : String} (p : Pk C.G F H t x) (h : tyN t = some n) : TyX C.X.K H x (.type n) := by
  cases t <;> first | (cases h; done) | skip
  · cases h
    rw [pk_non p]
    exact .base .non
  · cases h
    rw [pk_bl p]
    exact .base (.bl _)
  · cases h
    rw [pk_int p]
    exact .base (.int _)
  · cases h
    rw [pk_str p]
    exact .base (.str _)
  · cases h
    obtain ⟨q, xs, e, hq, _⟩ := pk_tup S p
    rw [e]
    rcases hq with (hq | ⟨o, hq⟩) | ⟨o, its, m, k1, k2, _⟩
    · exact .base (.tup hq)
    · exact .fTuple hq
    · exact .kTuple k1 k2
  · cases h
    obtain ⟨q, xs, e, hq, _⟩ := pk_lst S p
    rw [e]
    rcases hq with (hq | ⟨o, hq⟩) | ⟨its, m, k1, _⟩
    · exact .base (.lst hq)
    · exact .base (.frz hq)
    · exact .kList k1 rfl
  · cases h
    obtain ⟨q, xs, e, hq, _⟩ := pk_dK S p
    rw [e]
    rcases hq with hq | ⟨_, o, hq⟩
    · exact .base (.dK hq)
    · exact .fDict hq
def isiT (n : String) (t : T) : Option Bool := (tyN t).bind fun a => subTy a n
def isiM (n : String) (f : M Rv) : M T := M.bind f fun r => M.bind (pk r) fun t => M.bind (M.of (isiT n t)) fun b => M.pure (.bl b)
theorem ev_isi {n : Str} {T : String} {p p2 : Pos} {f : M Rv} (h : EvH C a f) (hg : Gl C.X "isinstance") (hm : C.X.mg "isinstance" = none) (hg2 : Gl C.X n) (hm2 : C.X.mg n = none) (hv : bootBuiltins n = some (.type T)) (hn : n ≠ "__name__" := by decide +kernel) (hd : (n == ("__debug__" : Str)) = false := by decide +kernel)
    (he : starEach [a, .Name n p2] C.X.env = (false, eval a C.X.env) :: starEach [.Name n p2] C.X.env := by rfl) (hpl : (backTo pos (starEach [.Name n p2] C.X.env)).any (·.1) = false := by rfl) :
    EvT C (.Call (.Name "isinstance" p) [a, .Name n p2] [] pos) (isiM T f) := by
  refine pe_imp (pe_callB call_isi hg hm PyProof.Rows.boot_isinstance (pa_cons h (pa_cons (pe_bltn (v := .ty T) hg2 hm2 hv rfl hn hd) pa_nil) he) (by decide) (by decide) he hpl) fun σ H Q ⟨Tm, F, env, S, q⟩ => ⟨Tm, F, env, S, ?_⟩
  refine At.bind (R' := TR C.G) (Q' := Q) q fun r env1 x F1 H1 le1 S1 r1 q1 => ?_
  refine pk_bind S1 r1 q1 fun t p1 q2 => ?_
  have q2' : At C (TR C.G) Tm F1 σ Q ((M.of (isiT T t) env1).bind fun b => M.pure (.bl b)) := q2
  cases hi : isiT T t with
  | none =>
    rw [hi] at q2'
    exact q2'.elim
  | some k =>
    rw [hi] at q2'
    obtain ⟨nm, e1, e2⟩ := Option.bind_eq_some_iff.mp hi
    exact ⟨x, .ty T, .type nm, .type T, k, rfl, .ty T, p1.ty S1 e1, subTy_ok e2, q2' _ F1 H1 Le.rfl S1 (mk_bl _)⟩
end
end Ev
/-! Ev9b: names of built-ins. -/
namespace Ev
open PySem PySem.Spec L2
theorem bb_len : bootBuiltins "len" = some (.builtin "len") := by decide +kernel
theorem bb_abs : bootBuiltins "abs" = some (.builtin "abs") := by decide +kernel
theorem bb_sum : bootBuiltins "sum" = some (.builtin "sum") := by decide +kernel
theorem bb_max : bootBuiltins "max" = some (.builtin "max") := by decide +kernel
theorem bb_min : bootBuiltins "min" = some (.builtin "min") := by decide +kernel
theorem bb_all : bootBuiltins "all" = some (.builtin "all") := by decide +kernel
theorem bb_any : bootBuiltins "any" = some (.builtin "any") := by decide +kernel
theorem bb_repr : bootBuiltins "repr" = some (.builtin "repr") := by decide +kernel
theorem bb_int : bootBuiltins "int" = some (.type "int") := by decide +kernel
theorem bb_str : bootBuiltins "str" = some (.type "str") := by decide +kernel
theorem bb_bool : bootBuiltins "bool" = some (.type "bool") := by decide +kernel
theorem bb_list : bootBuiltins "list" = some (.type "list") := by decide +kernel
theorem bb_tuple : bootBuiltins "tuple" = some (.type "tuple") := by decide +kernel
theorem bb_dict : bootBuiltins "dict" = some (.type "dict") := by decide +kernel
theorem bb_set : bootBuiltins "set" = some (.type "set") := by decide +kernel
theorem bb_sorted : bootBuiltins "sorted" = some (.builtin "sorted") := by decide +kernel
/-! ### facts of a def's scope, by one look each -/
def tabB (sc : Scope) (tb : List (Str × NameKind)) : Bool := tb.all fun p => decide (sc.names.lookup p.1 = some p.2)
theorem tab_at {sc : Scope} {tb : List (Str × NameKind)} (h : tabB sc tb = true) {x : Str} {k : NameKind} (i : Nat) (e : tb[i]? = some (x, k) := by rfl) : sc.names.lookup x = some k :=
  of_decide_eq_true (List.all_eq_true.mp h (x, k) (List.mem_of_getElem? e))
end Ev
namespace Ev
open PySem PySem.Spec L2
variable {C : Cy} {pos : Pos}
theorem ev_dct0 : EvE C (.Dict [] [] pos) (M.pure (.ow (.dK []))) := by
  refine pe_imp pe_dnewK fun σ H Q ⟨Tm, F, env, S, q⟩ p np => ?_
  exact q _ F _ Le.rfl (S.alloc np) (RvR.new S np ⟨_, rfl, by simp only [RepK]⟩)
end Ev
/-! Ev10: meanings worked out: by cases, applied. -/
namespace Ev
open PySem PySem.Spec L2
/-! ### applied -/
def SO.seq (o : SO) (g : SM) : SO := match o with
  | .nx e => g e
  | o => o
theorem seqS_ap (f g : SM) (e : Env) : seqS f g e = (f e).seq g := rfl
theorem seq_nx (e : Env) (g : SM) : (SO.nx e).seq g = g e := rfl
theorem seq_rt (r : Rv) (e : Env) (g : SM) : (SO.rt r e).seq g = .rt r e := rfl
theorem nilS_ap (e : Env) : nilS e = .nx e := rfl
def Out.so {α : Type} (o : Out α) (k : α → SM) : SO := match o with
  | .ok a e => k a e
  | .ex c fs e => .ex c fs e
  | .no => .no
theorem exprS_ap {α : Type} (f : M α) (k : α → SM) (e : Env) : exprS f k e = (f e).so k := rfl
theorem so_ok {α : Type} (a : α) (e : Env) (k : α → SM) : (Out.ok a e).so k = k a e := rfl
theorem ifS_ap (c : M Bool) (f g : SM) (e : Env) : ifS c f g e = (c e).so fun b => if b = true then f else g := rfl
theorem so_if (b : Bool) (e : Env) (f g : SM) : (Out.ok b e).so (fun b => if b = true then f else g) = if b = true then f e else g e := by
  cases b <;> rfl
theorem retS_ap (m : M Rv) (e : Env) : retS m e = (m e).so fun r env => .rt r env := rfl
theorem dropS_ap (m : M Rv) (e : Env) : dropS m e = (m e).so fun r env => .nx env := rfl
def opS : Option Env → SO
  | some e => .nx e
  | none => .no
theorem opS_some (e : Env) : opS (some e) = .nx e := rfl
def asK (i : Nat) (r : Rv) : SM := match r with
  | .ow t => fun env => opS (stO i t env)
  | r => exprS (frz r) fun t env => opS (stT i t env)
theorem asgS_ap (i : Nat) (m : M Rv) (e : Env) : asgS i m e = (m e).so (asK i) := by
  unfold asgS exprS Out.so
  cases m e with
  | ok r e1 =>
    cases r <;> simp only [asK, exprS]
    · unfold frz M.pure
      simp only
      cases stT i _ e1 <;> rfl
    · cases stO i _ e1 <;> rfl
    · generalize frz (Rv.bo _) e1 = o
      cases o with
      | ok t e2 =>
        simp only
        cases stT i t e2 <;> rfl
      | ex c fs e2 => rfl
      | no => rfl
  | ex c fs e1 => rfl
  | no => rfl
theorem asK_ow (i : Nat) (t : T) (e : Env) : asK i (.ow t) e = opS (stO i t e) := rfl
theorem asK_fz (i : Nat) (t : T) (e : Env) : asK i (.fz t) e = opS (stT i t e) := rfl
theorem asK_bo (i j : Nat) (e : Env) : asK i (.bo j) e = (frz (.bo j) e).so fun t env => opS (stT i t env) := rfl
theorem asgGS_ap (m : M T) (f : TM) (e : Env) : asgGS m f e = (m e).so fun t env => opS (f t env) := by
  unfold asgGS exprS Out.so
  cases m e with
  | ok t e1 => simp only; cases f t e1 <;> rfl
  | ex c fs e1 => rfl
  | no => rfl
theorem bind_ap {α β : Type} (m : M α) (k : α → M β) (e : Env) : M.bind m k e = (m e).bind k := rfl
theorem obind_ok {α β : Type} (a : α) (e : Env) (k : α → M β) : (Out.ok a e).bind k = k a e := rfl
theorem pure_ap {α : Type} (a : α) (e : Env) : M.pure a e = .ok a e := rfl
theorem of_ap {α : Type} (a : α) (e : Env) : M.of (some a) e = .ok a e := rfl
theorem frzE_ap (f : M Rv) (e : Env) : frzE f e = (f e).bind frz := rfl
theorem hldE_ap (f : M Rv) (e : Env) : hldE f e = (f e).bind hld := rfl
theorem fzE_ap (g : M T) (e : Env) : fzE g e = (g e).bind fun t => M.pure (.fz t) := rfl
theorem frz_fz (t : T) (e : Env) : frz (.fz t) e = .ok t e := rfl
theorem frz_ow (t : T) (e : Env) : frz (.ow t) e = .ok t e := rfl
theorem frz_bo (i : Nat) (e : Env) : frz (.bo i) e = match e[i]? with
  | some (.ow t) => .ok t (e.set i (.fz t))
  | _ => .no := rfl
theorem hld_fz (t : T) (e : Env) : hld (.fz t) e = .ok (.fz t) e := rfl
theorem hld_ow (t : T) (e : Env) : hld (.ow t) e = .ok (.fz t) e := rfl
theorem hld_bo (i : Nat) (e : Env) : hld (.bo i) e = .ok (.bo i) e := rfl
theorem pk_fz (t : T) (e : Env) : pk (.fz t) e = .ok t e := rfl
theorem opM_ap (g : T → T → Option Rv) (f1 f2 : M T) (e : Env) : opM g f1 f2 e = (f1 e).bind fun a => M.bind f2 fun b => M.of (g a b) := rfl
theorem cmpM_ap (g : T → T → Option Bool) (f1 f2 : M Rv) (e : Env) : cmpM g f1 f2 e = (f1 e).bind fun r1 => M.bind f2 fun r2 => M.bind (pk r1) fun t => M.bind (pk r2) fun u => M.of (g t u) := rfl
theorem chainM_ap (g g' : T → T → Option Bool) (f1 f2 f3 : M T) (e : Env) : chainM g g' f1 f2 f3 e = (f1 e).bind fun t => M.bind f2 fun u => M.bind (M.of (g t u)) fun k => if k = true then M.bind f3 fun v => M.of (g' u v) else M.pure false := rfl
theorem notM_ap (f : M Bool) (e : Env) : notM f e = (f e).bind fun b => M.pure (!b) := rfl
theorem andM_ap (f g : M Bool) (e : Env) : andM f g e = (f e).bind fun b => if b = true then g else M.pure false := rfl
theorem orM_ap (f g : M Bool) (e : Env) : orM f g e = (f e).bind fun b => if b = true then M.pure true else g := rfl
theorem ite_ap {α : Type} {c : Prop} [Decidable c] (f g : M α) (e : Env) : (if c then f else g) e = if c then f e else g e := by split <;> rfl
theorem iteS_ap {c : Prop} [Decidable c] (f g : SM) (e : Env) : (if c then f else g) e = if c then f e else g e := by split <;> rfl
def andK (g : M T) : T → M T
  | .bl true => g
  | .bl false => M.pure (.bl false)
  | _ => M.no
theorem truM_ap (f : M Rv) (e : Env) : truM f e = (f e).bind fun r => M.bind (pk r) fun t => M.of (truT t) := rfl
theorem ifM_ap {α : Type} (f : M Bool) (g h : M α) (e : Env) : ifM f g h e = (f e).bind fun b => if b = true then g else h := rfl
theorem consM_ap (f : M T) (g : M (List T)) (e : Env) : consM f g e = (f e).bind fun t => M.bind g fun ts => M.pure (t :: ts) := rfl
theorem lstM_ap (f : M (List T)) (e : Env) : lstM f e = (f e).bind fun ts => if ts.length ≤ sizeLine then M.pure (.ow (.lst ts)) else M.no := rfl
theorem tupM_ap (f : M (List T)) (e : Env) : tupM f e = (f e).bind fun ts => if ts.length ≤ sizeLine then M.pure (.tup ts) else M.no := rfl
theorem callM_ap (g : List T → Option Rv) (f : M (List T)) (e : Env) : callM g f e = (f e).bind fun ts => M.of (g ts) := rfl
theorem call1M_ap (g : T → Option Rv) (f : M Rv) (e : Env) : call1M g f e = (f e).bind fun r => M.bind (pk r) fun t => M.of (g t) := rfl
theorem itemM_ap (f : M Rv) (g : M T) (e : Env) : itemM f g e = (f e).bind fun r => M.bind g fun i => M.bind (pk r) fun t => M.of (itemT t i) := rfl
theorem sliceM_ap (f : M Rv) (g g' : M (Option Int)) (e : Env) : sliceM f g g' e = (f e).bind fun r => M.bind g fun lo => M.bind g' fun hi => M.bind (pk r) fun t => M.of (sliceT t lo hi) := rfl
theorem arCons_ap (f : M T) (g : M (List Ar)) (e : Env) : arCons f g e = (f e).bind fun t => M.bind g fun as => M.pure (.fz t :: as) := rfl
theorem endM_ap (f : M T) (e : Env) : endM f e = (f e).bind fun t => match t with
  | .int i => M.pure (some i)
  | _ => M.no := rfl
/-! ### calls -/
theorem inE_fzs {env : Env} : ∀ ts : List T, inE env (ts.map Ar.fz) = some (ts.map Sl.fz)
  | [] => rfl
  | t :: ts => by rw [List.map_cons, inE, inE_fzs ts]; rfl
theorem iosOf_fz : ∀ ts : List T, iosOf (ts.map Ar.fz) = []
  | [] => rfl
  | t :: ts => by rw [List.map_cons, iosOf, iosOf_fz ts]
theorem allIo_fz {ce : Env} : ∀ (ts : List T) (p : Nat), allIo ce p (ts.map Ar.fz) = true
  | [], _ => rfl
  | t :: ts, p => by rw [List.map_cons, allIo, allIo_fz ts]
theorem idx_fz (i : Nat) : ∀ ts : List T, (ts.map Ar.fz).findIdx? (isIo i) = none
  | [] => rfl
  | t :: ts => by rw [List.map_cons, List.findIdx?_cons]; simp [isIo, idx_fz i ts]
theorem outE_fz {ts : List T} {ce : Env} : ∀ (env : Env) (i : Nat), outE (ts.map Ar.fz) ce i env = env
  | [], _ => rfl
  | s :: r, i => by
    rw [outE, outE_fz r]
    unfold newS
    rw [idx_fz i ts]
/-- a call whose arguments are all frozen -/
theorem call_fz {d : SM} {m n : Nat} {ts : List T} {env ce : Env} {t : T} (hl : ts.length = n) (h : d (ts.map Sl.fz ++ List.replicate (m - n) .un) = .rt (.fz t) ce) :
    callA n d m (ts.map Ar.fz) env = .ok (.fz t) env := by
  unfold callA callD
  rw [List.length_map, if_pos hl, inE_fzs, iosOf_fz, hl]
  simp only [h, allIo_fz, outE_fz, if_true, List.nodup_nil]
theorem call_ow {d : SM} {m n : Nat} {ts : List T} {env ce : Env} {t : T} (hl : ts.length = n) (h : d (ts.map Sl.fz ++ List.replicate (m - n) .un) = .rt (.ow t) ce) :
    callA n d m (ts.map Ar.fz) env = .ok (.ow t) env := by
  unfold callA callD
  rw [List.length_map, if_pos hl, inE_fzs, iosOf_fz, hl]
  simp only [h, allIo_fz, outE_fz, if_true, List.nodup_nil]
/-- the slot behind a change in place -/
def putSl (s : Sl) (t : T) : Sl := match s with
  | .ow _ => .ow t
  | .io _ => .io t
  | s => s
theorem outE_io {i : Nat} {ts : List T} {t : T} {ce : Env} (hc : ce[0]? = some (.io t)) : ∀ (env : Env) (k : Nat), outE (.io i :: ts.map Ar.fz) ce k env = if k ≤ i then (match env[i - k]? with
    | some s => env.set (i - k) (putSl s t)
    | none => env) else env
  | [], k => by simp [outE]
  | s :: r, k => by
    rw [outE, outE_io hc r]
    have hn : newS (.io i :: ts.map Ar.fz) ce k s = if i = k then putSl s t else s := by
      unfold newS
      rw [List.findIdx?_cons]
      by_cases e : i = k
      · subst e
        simp only [isIo, beq_self_eq_true, if_true, hc]
        cases s <;> rfl
      · simp only [isIo, beq_eq_false_iff_ne.mpr e, Bool.false_eq_true, if_false, idx_fz, Option.map_none, if_neg e]
    rw [hn]
    by_cases e : i = k
    · subst e
      rw [if_neg (by omega : ¬ i + 1 ≤ i), if_pos rfl, if_pos (Nat.le_refl i), Nat.sub_self]
      rfl
    · by_cases h : k ≤ i
      · have h1 : k + 1 ≤ i := by omega
        obtain ⟨j, hj⟩ : ∃ j, i - k = j + 1 := ⟨i - k - 1, by omega⟩
        have hj2 : i - (k + 1) = j := by omega
        simp only [if_neg e, if_pos h, if_pos h1, hj, hj2, List.getElem?_cons_succ, List.set_cons_succ]
        cases r[j]? <;> rfl
      · simp only [if_neg e, if_neg h, if_neg (by omega : ¬ k + 1 ≤ i)]
/-- a call that changes its first argument in place -/
theorem call_io {d : SM} {m n i : Nat} {ts : List T} {env ce : Env} {t u : T} {r : T} {s : Sl} (hl : ts.length + 1 = n) (hi : env[i]? = some s) (ho : ownT s = some t) (h : d (.io t :: ts.map Sl.fz ++ List.replicate (m - n) .un) = .rt (.fz r) ce) (hc : ce[0]? = some (.io u)) :
    callA n d m (.io i :: ts.map Ar.fz) env = .ok (.fz r) (env.set i (putSl s u)) := by
  unfold callA callD
  have hin : inE env (.io i :: ts.map Ar.fz) = some (.io t :: ts.map Sl.fz) := by
    rw [inE, hi, inE_fzs]
    show (Option.bind (ownT s) fun t => some (.io t :: ts.map Sl.fz)) = _
    rw [ho]; rfl
  have hn : (iosOf (.io i :: ts.map Ar.fz)).Nodup := by rw [iosOf, iosOf_fz]; simp
  have ha : allIo ce 0 (.io i :: ts.map Ar.fz) = true := by
    rw [allIo, hc, allIo_fz]; rfl
  have hk : (Ar.io i :: ts.map Ar.fz).length = n := by simp [hl]
  rw [if_pos hk, hin]
  simp only [hk]
  rw [if_pos hn]
  have h' : d ((Sl.io t :: List.map Sl.fz ts) ++ List.replicate (m - n) Sl.un) = SO.rt (Rv.fz r) ce := h
  rw [h']
  simp only [ha, if_true]
  rw [outE_io hc, if_pos (Nat.zero_le _), Nat.sub_zero, hi]
theorem call_ioO {d : SM} {m n i : Nat} {ts : List T} {env ce : Env} {t u : T} {r : T} {s : Sl} (hl : ts.length + 1 = n) (hi : env[i]? = some s) (ho : ownT s = some t) (h : d (.io t :: ts.map Sl.fz ++ List.replicate (m - n) .un) = .rt (.ow r) ce) (hc : ce[0]? = some (.io u)) :
    callA n d m (.io i :: ts.map Ar.fz) env = .ok (.ow r) (env.set i (putSl s u)) := by
  unfold callA callD
  have hin : inE env (.io i :: ts.map Ar.fz) = some (.io t :: ts.map Sl.fz) := by
    rw [inE, hi, inE_fzs]
    show (Option.bind (ownT s) fun t => some (.io t :: ts.map Sl.fz)) = _
    rw [ho]; rfl
  have hn : (iosOf (.io i :: ts.map Ar.fz)).Nodup := by rw [iosOf, iosOf_fz]; simp
  have ha : allIo ce 0 (.io i :: ts.map Ar.fz) = true := by
    rw [allIo, hc, allIo_fz]; rfl
  have hk : (Ar.io i :: ts.map Ar.fz).length = n := by simp [hl]
  rw [if_pos hk, hin]
  simp only [hk]
  rw [if_pos hn]
  have h' : d ((Sl.io t :: List.map Sl.fz ts) ++ List.replicate (m - n) Sl.un) = SO.rt (Rv.ow r) ce := h
  rw [h']
  simp only [ha, if_true]
  rw [outE_io hc, if_pos (Nat.zero_le _), Nat.sub_zero, hi]
end Ev
/-! Ev11: the draws that all laws share. -/
namespace Ev
open PySem PySem.Spec L2
def pl (p : Int × Int) : T := .lst [.int p.1, .int p.2]
def nxt (b : Int) : Int := (b * 48271 + 11) % 2147483647
def dr (n : Int) (p : Int × Int) : Int × (Int × Int) :=
  if 0 < p.1 then (p.1 % n, (p.1 / n, p.2)) else ((nxt p.2 * nxt p.2) % 2147483629 / 16 % n, (p.1, nxt p.2))
theorem dr_lt {n : Int} (h : 0 < n) (p : Int × Int) : 0 ≤ (dr n p).1 ∧ (dr n p).1 < n := by
  unfold dr
  split
  · exact ⟨Int.emod_nonneg _ (by omega), Int.emod_lt_of_pos _ h⟩
  · exact ⟨Int.emod_nonneg _ (by omega), Int.emod_lt_of_pos _ h⟩
def drawD : SM := (seqS (ifS (cmpM gtT (hldE (itemM (hldE (rdS 0)) (M.pure (.int 0)))) (hldE (fzE (M.pure (.int 0))))) (seqS (asgS 2 (opM modT (frzE (call1M intT (hldE (itemM (hldE (rdS 0)) (M.pure (.int 0)))))) (frzE (rdS 1))))
  (seqS (setS (frzE (opM fdivT (frzE (itemM (hldE (rdS 0)) (M.pure (.int 0)))) (frzE (rdS 1)))) (rdS 0) (M.pure (.int 0)))
  (retS (rdS 2)))) nilS)
  (seqS (setS (frzE (opM modT (frzE (call1M intT (hldE (opM addT (frzE (opM mulT (frzE (itemM (hldE (rdS 0)) (M.pure (.int 1)))) (M.pure (.int 48271)))) (M.pure (.int 11)))))) (M.pure (.int 2147483647)))) (rdS 0) (M.pure (.int 1)))
  (retS (opM modT (frzE (call1M intT (hldE (opM fdivT (frzE (opM modT (frzE (opM mulT (frzE (itemM (hldE (rdS 0)) (M.pure (.int 1)))) (frzE (itemM (hldE (rdS 0)) (M.pure (.int 1)))))) (M.pure (.int 2147483629)))) (M.pure (.int 16)))))) (frzE (rdS 1))))))
def pickD : SM := (retS (itemM (hldE (rdS 1)) (frzE (M.bind (arIo (rdS 0) (arCons (frzE (call1M lenT (hldE (rdS 1)))) (M.pure []))) fun as => callA 2 drawD 3 (as ++ List.map Ar.fz [])))))
theorem setS_io {m : M T} {f : M Rv} {g : M T} {e : Env} {v i t t' : T} {j : Nat} {e1 : Env} (hm : m e = .ok v e) (hf : f e = .ok (.bo j) e) (hg : g e = .ok i e) (hj : e[j]? = some (.io t)) (hs : setT t i v = some t') (hc : chO j t' e = some e1) : setS m f g e = .nx e1 := by
  unfold setS exprS
  simp only [hm, hf, hg, hj, hs, Option.bind_some, hc]
theorem at0 (a b : T) : L2.atI [a, b] 0 = some a := rfl
theorem at1 (a b : T) : L2.atI [a, b] 1 = some b := rfl
theorem ixN20 : L2.ixN 2 0 = some 0 := rfl
theorem ixN21 : L2.ixN 2 1 = some 1 := rfl
theorem draw_ok (p : Int × Int) {n : Int} (h : 0 < n) (h2 : n < 2 ^ 64) : ∃ z, drawD [.io (pl p), .fz (.int n), .un] = .rt (.fz (.int (dr n p).1)) [.io (pl (dr n p).2), .fz (.int n), z] := by
  obtain ⟨a, b⟩ := p
  by_cases ha : 0 < a
  · refine ⟨.fz (.int (a % n)), ?_⟩
    simp only [drawD, seqS_ap, seq_nx, seq_rt, nilS_ap, exprS_ap, so_ok, ifS_ap, so_if, retS_ap, dropS_ap, opS_some, asgS_ap, asK_ow, asK_fz, asK_bo, asgGS_ap, bind_ap, obind_ok, pure_ap, of_ap, frzE_ap, hldE_ap, fzE_ap, frz_fz, frz_ow, frz_bo, hld_fz, hld_ow, hld_bo, pk_fz, opM_ap, cmpM_ap, chainM_ap, notM_ap, andM_ap, orM_ap, ite_ap, iteS_ap, truM_ap, ifM_ap, consM_ap, lstM_ap, tupM_ap, callM_ap, call1M_ap, itemM_ap, sliceM_ap, arCons_ap, endM_ap, rdS, pk, stT, stO, chO, List.getElem?_cons_zero, List.getElem?_cons_succ, List.set_cons_zero, List.set_cons_succ, setS, pl, dr, itemT, at0, at1, Option.map_some, gtT, decide_eq_true ha, modT, fdivT, intT, if_pos h, if_pos ha, if_pos (And.intro h h2), setT, ixN20, ixN21, List.length_cons, List.length_nil, Nat.zero_add, Nat.reduceAdd, Option.bind_some, if_true]
  · have hb : 0 ≤ nxt b := Int.emod_nonneg _ (by decide)
    have hb2 : nxt b < 2147483647 := Int.emod_lt_of_pos _ (by decide)
    have e1 : (if -(2 ^ 64) < b ∧ b < 2 ^ 64 ∨ -(2 ^ 64) < (48271 : Int) ∧ (48271 : Int) < 2 ^ 64 then some (Rv.fz (.int (b * 48271))) else none) = some (.fz (.int (b * 48271))) := if_pos (.inr ⟨by decide, by decide⟩)
    have e2 : (if -(2 ^ 64) < nxt b ∧ nxt b < 2 ^ 64 ∨ -(2 ^ 64) < nxt b ∧ nxt b < 2 ^ 64 then some (Rv.fz (.int (nxt b * nxt b))) else none) = some (.fz (.int (nxt b * nxt b))) := if_pos (.inr ⟨by omega, by omega⟩)
    have e3 : (b * 48271 + 11) % 2147483647 = nxt b := rfl
    refine ⟨.un, ?_⟩
    simp only [drawD, seqS_ap, seq_nx, seq_rt, nilS_ap, exprS_ap, so_ok, ifS_ap, so_if, retS_ap, dropS_ap, opS_some, asgS_ap, asK_ow, asK_fz, asK_bo, asgGS_ap, bind_ap, obind_ok, pure_ap, of_ap, frzE_ap, hldE_ap, fzE_ap, frz_fz, frz_ow, frz_bo, hld_fz, hld_ow, hld_bo, pk_fz, opM_ap, cmpM_ap, chainM_ap, notM_ap, andM_ap, orM_ap, ite_ap, iteS_ap, truM_ap, ifM_ap, consM_ap, lstM_ap, tupM_ap, callM_ap, call1M_ap, itemM_ap, sliceM_ap, arCons_ap, endM_ap, rdS, pk, stT, stO, chO, List.getElem?_cons_zero, List.getElem?_cons_succ, List.set_cons_zero, List.set_cons_succ, setS, pl, dr, itemT, at0, at1, Option.map_some, gtT, decide_eq_false ha, modT, fdivT, intT, mulT, addT, e1, if_pos h, if_neg ha, setT, ixN20, ixN21, List.length_cons, List.length_nil, Nat.zero_add, Nat.reduceAdd, Option.bind_some, if_true, Bool.false_eq_true, if_false, (by decide : (0 : Int) < 2147483647), (by decide : (0 : Int) < 2147483629), (by decide : (0 : Int) < 16 ∧ (16 : Int) < 2 ^ 64), e3, e2, and_self]
end Ev
/-! Ev12: pools, picks. -/
namespace Ev
open PySem PySem.Spec L2
def poolD : SM := (seqS (asgS 2 (opM addT (frzE (opM mulT (M.pure (.int 7)) (frzE (call1M sumT (hldE (sliceM (hldE (rdS 0)) (M.pure none) (endM (M.pure (.int 63))))))))) (frzE (rdS 1))))
  (seqS (ifS (cmpM ltT (hldE (rdS 1)) (hldE (call1M lenT (hldE (rdS 0))))) (asgS 2 (itemM (hldE (rdS 0)) (frzE (rdS 1)))) nilS)
  (seqS (asgS 3 (call1M absT (hldE (rdS 2))))
  (seqS (asgS 4 (opM addT (frzE (opM addT (frzE (opM addT (frzE (opM modT (frzE (call1M intT (hldE (rdS 3)))) (M.pure (.int 2147483629)))) (frzE (opM mulT (frzE (opM mulT (M.pure (.int 7919)) (frzE (rdS 1)))) (frzE (rdS 1)))))) (frzE (opM mulT (M.pure (.int 31)) (frzE (rdS 1)))))) (M.pure (.int 17))))
  (seqS (asgS 4 (opM modT (frzE (call1M intT (hldE (opM mulT (frzE (rdS 4)) (M.pure (.int 48271)))))) (M.pure (.int 2147483647))))
  (retS (lstM (consM (frzE (opM mulT (frzE (rdS 3)) (frzE (call1M intT (hldE (fzE (M.bind (cmpM geT (hldE (rdS 3)) (hldE (opM powT (M.pure (.int 10)) (M.pure (.int 18))))) fun w => M.pure (.bl w)))))))) (consM (frzE (opM modT (frzE (call1M intT (hldE (opM mulT (frzE (rdS 4)) (frzE (rdS 4)))))) (M.pure (.int 2147483629)))) (M.pure []))))))))))
theorem mul_l {i : Int} (j : Int) (h : -(2 ^ 64) < i) (h2 : i < 2 ^ 64) : mulT (.int i) (.int j) = some (.fz (.int (i * j))) := if_pos (.inl ⟨h, h2⟩)
theorem mul_r (i : Int) {j : Int} (h : -(2 ^ 64) < j) (h2 : j < 2 ^ 64) : mulT (.int i) (.int j) = some (.fz (.int (i * j))) := if_pos (.inr ⟨h, h2⟩)
theorem mod_n (i : Int) {j : Int} (h : 0 < j) : modT (.int i) (.int j) = some (.fz (.int (i % j))) := if_pos h
theorem add_n (i j : Int) : addT (.int i) (.int j) = some (.fz (.int (i + j))) := rfl
theorem asInts_map : ∀ ns : List Int, asInts (ns.map T.int) = some ns
  | [] => rfl
  | n :: ns => by rw [List.map_cons, asInts, asInts_map ns]; rfl
theorem cutL_map (f : Int → T) (ns : List Int) (lo hi : Option Int) : ∃ ms : List Int, cutL (ns.map f) lo hi = ms.map f := ⟨_, by unfold cutL; rw [← List.map_drop, ← List.map_take]⟩
theorem atI_map (ns : List Int) {k : Int} (h : 0 ≤ k) (h2 : k < ns.length) : ∃ n, L2.atI (ns.map T.int) k = some (.int n) := by
  unfold L2.atI L2.ixN
  rw [List.length_map, if_pos h, if_pos h2]
  refine ⟨ns[k.toNat]'(by omega), ?_⟩
  simp only [Option.bind_some, List.getElem?_map]
  rw [List.getElem?_eq_getElem (by omega)]
  rfl
theorem pool_ok {ns : List Int} {k : Int} (hk : 0 ≤ k) (hk2 : k < 2 ^ 62) : ∃ p ce, poolD [.fz (scr ns), .fz (.int k), .un, .un, .un] = .rt (.ow (pl p)) ce := by
  obtain ⟨ms, hm⟩ := cutL_map T.int ns none (some 63)
  have hsum : sumT (.lst (ms.map T.int)) = some (.fz (.int ms.sum)) := by show Option.map _ (asInts _) = _; rw [asInts_map]; rfl
  have e1 := mul_l (i := 7) ms.sum (by decide) (by decide)
  have e2 := mul_l (i := 7919) k (by decide) (by decide)
  have e3 := mul_r (7919 * k) (j := k) (by omega) (by omega)
  have e4 := mul_l (i := 31) k (by decide) (by decide)
  have e5 : ∀ x : Int, mulT (.int x) (.int 48271) = some (.fz (.int (x * 48271))) := fun x => mul_r x (by decide) (by decide)
  have e6 : ∀ x : Int, modT (.int x) (.int 2147483629) = some (.fz (.int (x % 2147483629))) := fun x => mod_n x (by decide)
  have e7 : ∀ x : Int, modT (.int x) (.int 2147483647) = some (.fz (.int (x % 2147483647))) := fun x => mod_n x (by decide)
  have e8 : ∀ x : Int, mulT (.int (x % 2147483647)) (.int (x % 2147483647)) = some (.fz (.int (x % 2147483647 * (x % 2147483647)))) := fun x => by
    have h1 : 0 ≤ x % 2147483647 := Int.emod_nonneg _ (by decide)
    have h2 : x % 2147483647 < 2147483647 := Int.emod_lt_of_pos _ (by decide)
    exact mul_l _ (by omega) (by omega)
  have e9 : ∀ (x : Int) (b : Bool), mulT (.int x) (.int (if b = true then 1 else 0)) = some (.fz (.int (x * if b = true then 1 else 0))) := fun x b => mul_r x (by cases b <;> decide) (by cases b <;> decide)
  have e10 : powT (.int 10) (.int 18) = some (.fz (.int (10 ^ 18))) := rfl
  have e11 : ∀ a b : T, (if [a, b].length ≤ sizeLine then (M.pure (.ow (.lst [a, b])) : M Rv) else M.no) = M.pure (.ow (.lst [a, b])) := fun a b => if_pos (by rw [List.length_cons, List.length_cons, List.length_nil]; decide)
  have e12 : ∀ (a b : T) (e : Env), (if [a, b].length ≤ sizeLine then (M.pure (.ow (.lst [a, b])) : M Rv) e else M.no e) = .ok (.ow (.lst [a, b])) e := fun a b e => if_pos (by rw [List.length_cons, List.length_cons, List.length_nil]; decide)
  by_cases h : k < ns.length
  · obtain ⟨n, hn⟩ := atI_map ns hk h
    simp only [poolD, seqS_ap, seq_nx, seq_rt, nilS_ap, exprS_ap, so_ok, ifS_ap, so_if, retS_ap, dropS_ap, opS_some, asgS_ap, asK_ow, asK_fz, asK_bo, asgGS_ap, bind_ap, obind_ok, pure_ap, of_ap, frzE_ap, hldE_ap, fzE_ap, frz_fz, frz_ow, frz_bo, hld_fz, hld_ow, hld_bo, pk_fz, opM_ap, cmpM_ap, chainM_ap, notM_ap, andM_ap, orM_ap, ite_ap, iteS_ap, truM_ap, ifM_ap, consM_ap, lstM_ap, tupM_ap, callM_ap, call1M_ap, itemM_ap, sliceM_ap, arCons_ap, endM_ap, rdS, pk, stT, stO, chO, List.getElem?_cons_zero, List.getElem?_cons_succ, List.set_cons_zero, List.set_cons_succ, scr, sliceT, hm, hsum, e1, add_n, lenT, List.length_map, ltT, decide_eq_true h, if_true, itemT, hn, Option.map_some, absT, intT, e6, e2, e3, e4, e5, e7, e8, geT, e10, e9, e11, pl]
    exact ⟨(_, _), _, rfl⟩
  · simp only [poolD, seqS_ap, seq_nx, seq_rt, nilS_ap, exprS_ap, so_ok, ifS_ap, so_if, retS_ap, dropS_ap, opS_some, asgS_ap, asK_ow, asK_fz, asK_bo, asgGS_ap, bind_ap, obind_ok, pure_ap, of_ap, frzE_ap, hldE_ap, fzE_ap, frz_fz, frz_ow, frz_bo, hld_fz, hld_ow, hld_bo, pk_fz, opM_ap, cmpM_ap, chainM_ap, notM_ap, andM_ap, orM_ap, ite_ap, iteS_ap, truM_ap, ifM_ap, consM_ap, lstM_ap, tupM_ap, callM_ap, call1M_ap, itemM_ap, sliceM_ap, arCons_ap, endM_ap, rdS, pk, stT, stO, chO, List.getElem?_cons_zero, List.getElem?_cons_succ, List.set_cons_zero, List.set_cons_succ, scr, sliceT, hm, hsum, e1, add_n, lenT, List.length_map, ltT, decide_eq_false h, Bool.false_eq_true, if_false, itemT, Option.map_some, absT, intT, e6, e2, e3, e4, e5, e7, e8, geT, e10, e9, e11, pl]
    exact ⟨(_, _), _, rfl⟩
theorem draw0 {p : Int × Int} {n : Int} {r : Env} (h : 0 < n) (h2 : n < 2 ^ 64) : callA 2 drawD 3 [.io 0, .fz (.int n)] (.io (pl p) :: r) = .ok (.fz (.int (dr n p).1)) (.io (pl (dr n p).2) :: r) := by
  obtain ⟨z, hz⟩ := draw_ok p h h2
  exact call_io (d := drawD) (m := 3) (n := 2) (i := 0) (ts := [.int n]) (env := .io (pl p) :: r) (s := .io (pl p)) (t := pl p) (u := pl (dr n p).2) (ce := [.io (pl (dr n p).2), .fz (.int n), z]) rfl rfl rfl hz rfl
theorem arIo_ap (f : M Rv) (g : M (List Ar)) (e : Env) : arIo f g e = (f e).bind fun r => match r with
  | .bo i => M.bind g fun as => M.pure (.io i :: as)
  | _ => M.no := rfl
theorem atI_some {α : Type} {xs : List α} {i : Int} (h : 0 ≤ i) (h2 : i < xs.length) : ∃ x, x ∈ xs ∧ L2.atI xs i = some x := by
  unfold L2.atI L2.ixN
  rw [if_pos h, if_pos h2]
  refine ⟨xs[i.toNat]'(by omega), List.getElem_mem _, ?_⟩
  simp only [Option.bind_some]
  rw [List.getElem?_eq_getElem (by omega)]
theorem compL_step {tg : TM} {tt : M Bool} {elt : M T} {vs : List Nat} {t v : T} {ts us : List T} {e0 e1 e2 e3 e4 : Env} (ok : okE e0 vs = true) (st : tg t (unE vs e0) = some e1) (ht : tt e1 = .ok true e2) (el : elt e2 = .ok v e3) (ih : compL tg tt elt vs ts (asE e0 vs e3) = .ok us e4) :
    compL tg tt elt vs (t :: ts) e0 = .ok (v :: us) e4 := by
  simp only [compL, ok, st, ht, el, ih]
theorem pick_str (p : Int × Int) (s : Str) (h : 0 < s.length) (h2 : s.length ≤ sizeLine) : ∃ c, c ∈ s.cps.toList ∧ pickD [.io (pl p), .fz (.str s)] = .rt (.fz (.str ⟨#[c]⟩)) [.io (pl (dr s.length p).2), .fz (.str s)] := by
  have hn : (0 : Int) < (s.length : Int) := by omega
  have hs : sizeLine = 16777216 := rfl
  have hn2 : (s.length : Int) < 2 ^ 64 := by omega
  obtain ⟨l1, l2⟩ := dr_lt hn p
  obtain ⟨c, hc, ec⟩ := atI_some (xs := s.cps.toList) l1 (by simpa [Str.length] using l2)
  refine ⟨c, hc, ?_⟩
  simp only [pickD, seqS_ap, seq_nx, seq_rt, nilS_ap, exprS_ap, so_ok, ifS_ap, so_if, retS_ap, dropS_ap, opS_some, asgS_ap, asK_ow, asK_fz, asK_bo, asgGS_ap, bind_ap, obind_ok, pure_ap, of_ap, frzE_ap, hldE_ap, fzE_ap, frz_fz, frz_ow, frz_bo, hld_fz, hld_ow, hld_bo, pk_fz, opM_ap, cmpM_ap, chainM_ap, notM_ap, andM_ap, orM_ap, ite_ap, iteS_ap, truM_ap, ifM_ap, consM_ap, lstM_ap, tupM_ap, callM_ap, call1M_ap, itemM_ap, sliceM_ap, arCons_ap, endM_ap, rdS, pk, stT, stO, chO, List.getElem?_cons_zero, List.getElem?_cons_succ, List.set_cons_zero, List.set_cons_succ, arIo_ap, lenT, if_pos h2, List.map_nil, List.append_nil, draw0 hn hn2, itemT, ec, Option.map_some]
theorem pick_lst (p : Int × Int) (ts : List T) (h : 0 < ts.length) (h2 : ts.length < 2 ^ 64) : ∃ t, t ∈ ts ∧ pickD [.io (pl p), .fz (.lst ts)] = .rt (.fz t) [.io (pl (dr ts.length p).2), .fz (.lst ts)] := by
  have hn : (0 : Int) < (ts.length : Int) := by omega
  have hn2 : (ts.length : Int) < 2 ^ 64 := by omega
  obtain ⟨l1, l2⟩ := dr_lt hn p
  obtain ⟨c, hc, ec⟩ := atI_some (xs := ts) l1 l2
  refine ⟨c, hc, ?_⟩
  simp only [pickD, seqS_ap, seq_nx, seq_rt, nilS_ap, exprS_ap, so_ok, ifS_ap, so_if, retS_ap, dropS_ap, opS_some, asgS_ap, asK_ow, asK_fz, asK_bo, asgGS_ap, bind_ap, obind_ok, pure_ap, of_ap, frzE_ap, hldE_ap, fzE_ap, frz_fz, frz_ow, frz_bo, hld_fz, hld_ow, hld_bo, pk_fz, opM_ap, cmpM_ap, chainM_ap, notM_ap, andM_ap, orM_ap, ite_ap, iteS_ap, truM_ap, ifM_ap, consM_ap, lstM_ap, tupM_ap, callM_ap, call1M_ap, itemM_ap, sliceM_ap, arCons_ap, endM_ap, rdS, pk, stT, stO, chO, List.getElem?_cons_zero, List.getElem?_cons_succ, List.set_cons_zero, List.set_cons_succ, arIo_ap, lenT, List.map_nil, List.append_nil, draw0 hn hn2, itemT, ec, Option.map_some]
theorem pick0s (p : Int × Int) (s : Str) (h : 0 < s.length) (h2 : s.length ≤ sizeLine) : ∃ c p', c ∈ s.cps.toList ∧ ∀ r : Env, callA 2 pickD 2 [.io 0, .fz (.str s)] (.io (pl p) :: r) = .ok (.fz (.str ⟨#[c]⟩)) (.io (pl p') :: r) := by
  obtain ⟨c, hc, e⟩ := pick_str p s h h2
  exact ⟨c, _, hc, fun r => call_io (d := pickD) (m := 2) (n := 2) (i := 0) (ts := [.str s]) (env := .io (pl p) :: r) (s := .io (pl p)) (t := pl p) (u := pl (dr s.length p).2) (ce := [.io (pl (dr s.length p).2), .fz (.str s)]) rfl rfl rfl e rfl⟩
theorem pick0l (p : Int × Int) (ts : List T) (h : 0 < ts.length) (h2 : ts.length < 2 ^ 64) : ∃ t p', t ∈ ts ∧ ∀ r : Env, callA 2 pickD 2 [.io 0, .fz (.lst ts)] (.io (pl p) :: r) = .ok (.fz t) (.io (pl p') :: r) := by
  obtain ⟨t, ht, e⟩ := pick_lst p ts h h2
  exact ⟨t, _, ht, fun r => call_io (d := pickD) (m := 2) (n := 2) (i := 0) (ts := [.lst ts]) (env := .io (pl p) :: r) (s := .io (pl p)) (t := pl p) (u := pl (dr ts.length p).2) (ce := [.io (pl (dr ts.length p).2), .fz (.lst ts)]) rfl rfl rfl e rfl⟩
end Ev
/-! Ev13: own classes: fields, their store, methods, instances made. -/
namespace Ev
open PySem PySem.Spec L2
theorem rep_ins {G : Gr} {F : Hp} {c : Nat} {fs : List (Str × T)} {x : V} (h : Rep G F (.ins c fs) x) : ∃ a dx vs, x = .ref a ∧ F a = some (.ins (G.ca c) dx vs) ∧ RepF G F fs vs := by simpa only [Rep] using h
section
variable {G : Gr} {F : Hp}
theorem RepF.nil : RepF G F [] [] := by simp only [RepF]
theorem RepF.cons {k : Str} {t : T} {ts : List (Str × T)} {x : V} {xs : List (Str × V)} (h : Rep G F t x) (r : RepF G F ts xs) : RepF G F ((k, t) :: ts) ((k, x) :: xs) := by simp only [RepF]; exact ⟨x, xs, rfl, h, r⟩
theorem RepF.uncons {k : Str} {t : T} {ts : List (Str × T)} {xs : List (Str × V)} (h : RepF G F ((k, t) :: ts) xs) : ∃ x r, xs = (k, x) :: r ∧ Rep G F t x ∧ RepF G F ts r := by simpa only [RepF] using h
theorem RepF.unnil {xs : List (Str × V)} (h : RepF G F [] xs) : xs = [] := by simpa only [RepF] using h
theorem RepF.length : ∀ {ts : List (Str × T)} {xs : List (Str × V)}, RepF G F ts xs → xs.length = ts.length
  | [], xs, h => by rw [h.unnil]; rfl
  | (k, t) :: ts, xs, h => by
    obtain ⟨x, r, e, _, q⟩ := h.uncons
    subst e
    simp [RepF.length q]
theorem RepF.lookup {f : Str} : ∀ {ts : List (Str × T)} {xs : List (Str × V)} {t : T}, RepF G F ts xs → ts.lookup f = some t → ∃ x, xs.lookup f = some x ∧ Rep G F t x
  | [], xs, t, h, e => by cases e
  | (k, u) :: ts, xs, t, h, e => by
    obtain ⟨x, r, e1, h1, h2⟩ := h.uncons
    subst e1
    rw [List.lookup_cons] at e ⊢
    cases hk : f == k with
    | true =>
      rw [hk] at e
      cases e
      exact ⟨x, rfl, h1⟩
    | false =>
      rw [hk] at e
      exact RepF.lookup h2 e
theorem RepF.lookN {f : Str} : ∀ {ts : List (Str × T)} {xs : List (Str × V)}, RepF G F ts xs → ts.lookup f = none → xs.lookup f = none
  | [], xs, h, e => by rw [h.unnil]; rfl
  | (k, u) :: ts, xs, h, e => by
    obtain ⟨x, r, e1, h1, h2⟩ := h.uncons
    subst e1
    rw [List.lookup_cons] at e ⊢
    cases hk : f == k with
    | true =>
      rw [hk] at e
      cases e
    | false =>
      rw [hk] at e
      exact RepF.lookN h2 e
def putT (f : Str) (v : T) : List (Str × T) → List (Str × T)
  | [] => [(f, v)]
  | (g, x) :: r => if g = f then (g, v) :: r else (g, x) :: putT f v r
theorem RepF.put {f : Str} {v : T} {y : V} (hv : Rep G F v y) : ∀ {ts : List (Str × T)} {xs : List (Str × V)}, RepF G F ts xs → RepF G F (putT f v ts) (putF f y xs)
  | [], xs, h => by rw [h.unnil]; exact .cons hv .nil
  | (k, t) :: ts, xs, h => by
    obtain ⟨x, r, e, h1, h2⟩ := h.uncons
    subst e
    unfold putT putF
    by_cases hk : k = f
    · rw [if_pos hk, if_pos hk]; exact .cons hv h2
    · rw [if_neg hk, if_neg hk]; exact .cons h1 (RepF.put hv h2)
end
section
variable {C : Cy} {pos pos' : Pos} {f : Str}
/-- a field of an own instance: of one of the classes cs -/
def attrT (cs : List Nat) (f : Str) : T → Option T
  | .ins c fs => if c ∈ cs then fs.lookup f else none
  | _ => none
def attrM (cs : List Nat) (f : Str) (m : M Rv) : M T := M.bind m fun r => M.bind (pk r) fun t => M.of (attrT cs f t)
/-- classes whose instances have the field, plainly -/
def FldOk (C : Cy) (cs : List Nat) (f : Str) : Prop := ∀ c ∈ cs, Cls C.X.K (C.ca c) ∧ NoAttr C.X.K (C.ca c) f
theorem ev_attr {cs : List Nat} {e : Expr} {m : M Rv} (hc : FldOk C cs f) (he : EvH C e m) (hb : attributeBase e f C.X.env (eval e C.X.env) = eval e C.X.env := by rfl) : EvT C (.Attribute e f pos) (attrM cs f m) := by
  refine pe_imp (pe_fld he hb) fun σ H Q ⟨Tm, F, env, S, q⟩ => ⟨Tm, F, env, S, ?_⟩
  refine At.bind (R' := TR C.G) (Q' := Q) q fun r env1 x F1 H1 le1 S1 r1 q1 => ?_
  refine pk_bind S1 r1 q1 fun t p1 q3 => of_some q3 fun w hw q4 => ?_
  cases t <;> first | (cases hw; done) | skip
  rename_i c fs
  simp only [attrT] at hw
  split at hw
  · rename_i hm
    obtain ⟨a, dx, vs, rfl, ha, rf⟩ := pk_ins S1 p1
    obtain ⟨v, hv, rv⟩ := rf.lookup hw
    exact ⟨a, _, dx, vs, v, rfl, ha, (hc c hm).1, (hc c hm).2, hv, q4 v F1 H1 Le.rfl S1 rv⟩
  · cases hw
/-- o.f = value, o a slot's own instance -/
def fldS (cs : List Nat) (f : Str) (m : M T) (g : M Rv) : SM := exprS m fun v => exprS g fun r => match r with
  | .bo j => fun env => (match env[j]? with
    | some (.ow (.ins c fs)) => if c ∈ cs ∧ fs.length < 1000 then (match chO j (.ins c (putT f v fs)) env with
      | some e => .nx e
      | none => .no) else .no
    | some (.io (.ins c fs)) => if c ∈ cs ∧ fs.length < 1000 then (match chO j (.ins c (putT f v fs)) env with
      | some e => .nx e
      | none => .no) else .no
    | _ => .no)
  | _ => fun _ => .no
theorem e_fld {cs : List Nat} {o value : Expr} {m : M T} {g : M Rv} (hc : FldOk C cs f) (hv : EvT C value m) (ho : EvE C o g) (hs : swapsWith value (some (.Attribute o f pos')) pos.line C.X.env = pure false := by rfl) :
    EvS C (.Assign [.Attribute o f pos'] value pos) (fldS cs f m g) := by
  refine ps_imp (ps_fld ho hv hs) fun D σ H ⟨Tm, F, env, S, q⟩ => ⟨Tm, F, env, S, ?_⟩
  refine AtS.expr q fun v env1 y F1 H1 le1 S1 r1 q1 => ⟨Tm, F1, env1, S1, ?_⟩
  refine AtS.expr q1 fun r env2 x F2 H2 le2 S2 r2 q2 => ?_
  cases r with
  | fz t => exact q2.elim
  | ow t => exact q2.elim
  | bo j =>
    obtain ⟨hx, t0, ot⟩ := r2
    have go : ∀ {c : Nat} {fs : List (Str × T)}, OwnAt env2 j (.ins c fs) → AtS C Tm F2 D (if c ∈ cs ∧ fs.length < 1000 then (match chO j (.ins c (putT f v fs)) env2 with
        | some e => .nx e
        | none => .no) else .no) → ∃ a C_1 dx fs_1, x = .ref a ∧ H2 a = some (.ins C_1 dx fs_1) ∧ Cls C.X.K C_1 ∧ NoAttr C.X.K C_1 f ∧ fs_1.length < 1000 ∧ D.nx σ (upd H2 a (.ins C_1 dx (putF f y fs_1))) := fun {c fs} ow q3 => by
      split at q3
      · rename_i hm
        obtain ⟨s, es, k⟩ := ow.get
        obtain ⟨z, hz, ok⟩ := S2.slot j _ es
        obtain ⟨a, o, ez, ha, _, dx, vs, eo, rf⟩ := ok.own k
        subst eo
        rw [hx] at hz
        cases hz
        cases ez
        refine ⟨a, _, dx, vs, rfl, ha, (hc c hm.1).1, (hc c hm.1).2, by rw [rf.length]; exact hm.2, ?_⟩
        cases ec : chO j (.ins c (putT f v fs)) env2 with
        | none =>
          rw [ec] at q3
          exact q3.elim
        | some e =>
          rw [ec] at q3
          exact q3 σ F2 _ Le.rfl (S2.chO (t := .ins c (putT f v fs)) hx ⟨dx, _, rfl, rf.put (Rep.mono le2 v r1)⟩ ec)
      · exact q3.elim
    dsimp only at q2
    cases es : env2[j]? with
    | none =>
      rw [es] at q2
      exact q2.elim
    | some s =>
      rw [es] at q2
      cases s with
      | un => exact q2.elim
      | fz t => exact q2.elim
      | ow t =>
        cases t <;> first | exact q2.elim | skip
        exact go (.inl es) q2
      | io t =>
        cases t <;> first | exact q2.elim | skip
        exact go (.inr es) q2
end
end Ev
/-! Ev14: methods, instances made. -/
namespace Ev
open PySem PySem.Spec L2
section
variable {G : Gr} {Tm : Amb} {F H : Hp} {σ : St} {env : Env}
theorem own_push {s : Sl} {i : Nat} {t : T} (h : OwnAt (env ++ [s]) i t) : (i < env.length ∧ OwnAt env i t) ∨ (i = env.length ∧ (s = .ow t ∨ s = .io t)) := by
  by_cases hi : i < env.length
  · refine .inl ⟨hi, ?_⟩
    unfold OwnAt at h ⊢
    rwa [List.getElem?_append_left hi] at h
  · have e : i = env.length := by
      obtain ⟨s', e, _⟩ := h.get
      have := (List.getElem?_eq_some_iff.mp e).1
      simp at this
      omega
    subst e
    refine .inr ⟨rfl, ?_⟩
    unfold OwnAt at h
    rw [List.getElem?_append_right (Nat.le_refl _), Nat.sub_self] at h
    simpa using h
/-- one more slot: a new object of its own -/
theorem Sok.push (S : Sok G Tm F H σ env) {x : Addr} {o : HO} {t : T} (hx : H x = some o) (hF : F x = none) (hT : Tm.h x = none) (top : Top G F o t) (hn : ∀ i u, OwnAt env i u → σ[i]? ≠ some (some (.ref x))) :
    Sok G Tm F H (σ ++ [some (.ref x)]) (env ++ [.ow t]) := by
  have hl := S.len
  have at_ : ∀ {i : Nat} {y : Option V}, i < env.length → (σ ++ [some (V.ref x)])[i]? = some y → σ[i]? = some y := fun {i y} hi e => by
    rwa [List.getElem?_append_left (by omega)] at e
  have last : ∀ {y : Option V}, (σ ++ [some (V.ref x)])[env.length]? = some y → y = some (.ref x) := fun {y} e => by
    rw [List.getElem?_append_right (by omega), hl, Nat.sub_self] at e
    simpa using e.symm
  refine ⟨S.sub, S.tm, by simp [hl], fun i s e => ?_, fun i j a u v h1 h2 h3 h4 => ?_, fun i a u h1 h2 => ?_, S.lk, fun i u e => ?_⟩
  · by_cases hi : i < env.length
    · rw [List.getElem?_append_left hi] at e
      obtain ⟨y, hy, k⟩ := S.slot i s e
      exact ⟨y, by rw [List.getElem?_append_left (by omega)]; exact hy, k⟩
    · have hi2 : i = env.length := by
        have := (List.getElem?_eq_some_iff.mp e).1
        simp at this
        omega
      subst hi2
      rw [List.getElem?_append_right (Nat.le_refl _), Nat.sub_self] at e
      have es : s = .ow t := by simpa using e.symm
      subst es
      exact ⟨_, by rw [List.getElem?_append_right (by omega), hl, Nat.sub_self]; rfl, x, o, rfl, hx, hF, top⟩
  · rcases own_push h1 with ⟨i1, o1⟩ | ⟨i1, o1⟩ <;> rcases own_push h3 with ⟨j1, p1⟩ | ⟨j1, p1⟩
    · exact S.apart i j a u v o1 (at_ i1 h2) p1 (at_ j1 h4)
    · subst j1
      have := last h4
      cases this
      exact absurd (at_ i1 h2) (hn i u o1)
    · subst i1
      have := last h2
      cases this
      exact absurd (at_ j1 h4) (hn j v p1)
    · omega
  · rcases own_push h1 with ⟨i1, o1⟩ | ⟨i1, o1⟩
    · exact S.tmo i a u o1 (at_ i1 h2)
    · subst i1
      have := last h2
      cases this
      exact hT
  · by_cases hi : i < env.length
    · rw [List.getElem?_append_left hi] at e
      obtain ⟨a, e1, e2⟩ := S.pio i u e
      exact ⟨a, e1, by rw [List.getElem?_append_left (by omega)]; exact e2⟩
    · have hi2 : i = env.length := by
        have := (List.getElem?_eq_some_iff.mp e).1
        simp at this
        omega
      subst hi2
      rw [List.getElem?_append_right (Nat.le_refl _), Nat.sub_self] at e
      simp at e
theorem take_get {e' : Env} {n i : Nat} {s : Sl} (h : (e'.take n)[i]? = some s) : i < n ∧ e'[i]? = some s := by
  rw [List.getElem?_take] at h
  split at h
  · rename_i hi
    exact ⟨hi, h⟩
  · cases h
theorem own_take {e' : Env} {n i : Nat} {t : T} (h : OwnAt (e'.take n) i t) : i < n ∧ OwnAt e' i t := by
  rcases h with h | h
  · exact ⟨(take_get h).1, .inl (take_get h).2⟩
  · exact ⟨(take_get h).1, .inr (take_get h).2⟩
/-- .. taken off -/
theorem Sok.pop {y : Option V} {e' : Env} (S : Sok G Tm F H (σ ++ [y]) e') : Sok G Tm F H σ (e'.take σ.length) := by
  have hl : σ.length + 1 = e'.length := by have := S.len; simpa using this
  have at_ : ∀ {i : Nat} {z : Option V}, i < σ.length → (σ ++ [y])[i]? = some z → σ[i]? = some z := fun {i z} hi e => by
    rwa [List.getElem?_append_left hi] at e
  have up : ∀ {i : Nat} {z : Option V}, i < σ.length → σ[i]? = some z → (σ ++ [y])[i]? = some z := fun {i z} hi e => by
    rw [List.getElem?_append_left hi]; exact e
  refine ⟨S.sub, S.tm, by simp; omega, fun i s e => ?_, fun i j a u v h1 h2 h3 h4 => ?_, fun i a u h1 h2 => ?_, S.lk, fun i u e => ?_⟩
  · obtain ⟨hi, e⟩ := take_get e
    obtain ⟨z, hz, k⟩ := S.slot i s e
    exact ⟨z, at_ hi hz, k⟩
  · obtain ⟨hi, o1⟩ := own_take h1
    obtain ⟨hj, o2⟩ := own_take h3
    exact S.apart i j a u v o1 (up hi h2) o2 (up hj h4)
  · obtain ⟨hi, o1⟩ := own_take h1
    exact S.tmo i a u o1 (up hi h2)
  · obtain ⟨hi, e⟩ := take_get e
    obtain ⟨a, e1, e2⟩ := S.pio i u e
    exact ⟨a, e1, at_ hi e2⟩
end
/-! ### instances made -/
def makeA (ci n : Nat) (d : SM) (m : Nat) (as : List Ar) : M Rv := fun env => match callA n d m (.io env.length :: as) (env ++ [.ow (.ins ci [])]) with
  | .ok (.fz .non) e' => (match e'[env.length]? with
    | some (.ow t) => .ok (.ow t) (e'.take env.length)
    | _ => .no)
  | .ex c fs e' => .ex c fs (e'.take env.length)
  | _ => .no
section
variable {C : Cy} {k j ci : Nat} {f : Addr} {fd : FuncData} {ps : List Str} {m : Nat} {d : SM} {ds : List Value} {dvs : List V} {dts : List T}
/-- a class called, as the caller sees it -/
theorem make_sp {σ : St} {H : Hp} {Q : VK} {vs : List V} {Tm : Amb} {F0 : Hp} {env : Env} {as : List Ar} {n : Nat} (hm : n ≤ m) (S : Sok C.G Tm F0 H σ env) (ra : ArL C.G F0 σ as vs)
    (q : At C (RvR C.G) Tm F0 σ Q (makeA ci n d m as env)) {x dx : Addr} (nx : H x = none) (nd : H dx = none) (ne : dx ≠ x) :
    spT C.G n m d (.ref x :: vs) (upd (upd H dx (.own x)) x (.ins (C.ca ci) dx [])) (fun v H2 => v = .non ∧ Q (.ref x) H2) (fun cls dd H' => C.W cls dd σ H') := by
  have nx2 : upd H dx (.own x) x = none := by rw [upd_ne (Ne.symm ne)]; exact nx
  have S1 := (S.alloc (o := .own x) nd).alloc (o := .ins (C.ca ci) dx []) nx2
  have hl := S.len
  have S2 : Sok C.G Tm F0 (upd (upd H dx (.own x)) x (.ins (C.ca ci) dx [])) (σ ++ [some (.ref x)]) (env ++ [.ow (.ins ci [])]) := by
    refine S1.push (o := .ins (C.ca ci) dx []) upd_same (S.new nx).1 (S.new nx).2 ⟨dx, [], rfl, .nil⟩ fun i u ow z => ?_
    obtain ⟨s, es, kk⟩ := ow.get
    obtain ⟨y, hy, ok⟩ := S.slot i _ es
    obtain ⟨a, w, e1, e2, _⟩ := ok.own kk
    rw [z] at hy
    cases hy
    cases e1
    rw [nx] at e2
    cases e2
  have hxl : (σ ++ [some (V.ref x)])[env.length]? = some (some (.ref x)) := by
    rw [List.getElem?_append_right (by omega), hl, Nat.sub_self]; rfl
  have ra2 : ArL C.G F0 (σ ++ [some (V.ref x)]) as vs := by
    clear q
    induction as generalizing vs with
    | nil => exact ra
    | cons a as ih =>
      obtain ⟨y, r, e, h1, h2⟩ := ra
      refine ⟨y, r, e, ?_, ih h2⟩
      cases a with
      | fz t => exact h1
      | io i =>
        have h1' : σ[i]? = some (some y) := h1
        have : i < σ.length := (List.getElem?_eq_some_iff.mp h1').1
        show (σ ++ [some (V.ref x)])[i]? = some (some y)
        rw [List.getElem?_append_left this]
        exact h1'
  have ra3 : ArL C.G F0 (σ ++ [some (V.ref x)]) (.io env.length :: as) (.ref x :: vs) := ⟨_, _, rfl, hxl, ra2⟩
  refine call_sp (C := ⟨C.X, C.ca, fun cls dd _ H' => C.W cls dd σ H'⟩) (Q := fun v H2 => v = .non ∧ Q (.ref x) H2) hm S2 ra3 ?_
  unfold makeA at q
  cases ec : callA n d m (.io env.length :: as) (env ++ [.ow (.ins ci [])]) with
  | no =>
    rw [ec] at q
    exact q.elim
  | ex c fs e' =>
    rw [ec] at q
    intro dd F' H' ws le S' e r
    have S3 := S'.pop
    rw [hl] at S3
    exact q dd F' H' ws le S3 e r
  | ok r e' =>
    rw [ec] at q
    cases r with
    | ow t => exact q.elim
    | bo i => exact q.elim
    | fz t =>
      cases t <;> first | exact q.elim | skip
      dsimp only at q
      intro b F' H' le S' rb
      have eb : b = .non := rep_non rb
      refine ⟨eb, ?_⟩
      cases es : e'[env.length]? with
      | none =>
        rw [es] at q
        exact q.elim
      | some s =>
        rw [es] at q
        cases s with
        | un => exact q.elim
        | fz t => exact q.elim
        | io t => exact q.elim
        | ow t =>
          have S3 := S'.pop
          rw [hl] at S3
          obtain ⟨y, hy, a, o, ey, h1, h2, top⟩ := S'.slot env.length _ es
          rw [hxl] at hy
          cases hy
          cases ey
          refine q (.ref x) F' H' le S3 ⟨x, o, rfl, h1, h2, S'.tmo env.length x t (.inl es) hxl, top, fun i u ow z => ?_⟩
          obtain ⟨hi, ow'⟩ := own_take ow
          have z' : (σ ++ [some (V.ref x)])[i]? = some (some (.ref x)) := by
            rw [List.getElem?_append_left (by omega)]; exact z
          have := S'.apart i env.length x u t ow' z' (.inl es) hxl
          omega
theorem make_run (M : Mk C.X.K (C.ca ci) f) (F : FnC C k f fd ps m d) (B : Bk C (k + 1)) (hb : Binds C.X.K fd ps ds) (hd : Vals dvs ds) {pins : List (Addr × Obj)} {s : Shared} {σ : St} {H : Hp} {Q : VK} {us : List Value} {vs : List V} (I : Inv C.X pins σ H s) (rv : Vals vs us)
    (h : ∀ x dx, H x = none → H dx = none → dx ≠ x → spT C.G ps.length m d (.ref x :: (vs ++ dvs)) (upd (upd H dx (.own x)) x (.ins (C.ca ci) dx [])) (fun v H2 => v = .non ∧ Q (.ref x) H2) (fun cls dd H' => C.W cls dd σ H')) :
    wpAny (model C.X.prog C.X.w) C.X.A (call (.ref (C.ca ci)) us) (EP C.X pins σ Q) C.X.xe s := by
  have hq := h (s.heap.objs.size + 1) s.heap.objs.size (I.hok.fresh (Nat.le_succ _)) (I.hok.fresh (Nat.le_refl _)) (Nat.ne_of_lt (Nat.lt_succ_self _))
  have I2 := Inv.made (C := C.ca ci) I
  have r2 : Vals (V.ref (s.heap.objs.size + 1) :: (vs ++ dvs)) (Value.ref (s.heap.objs.size + 1) :: (us ++ ds)) := .cons rfl (rv.append hd)
  have hl : (Value.ref (s.heap.objs.size + 1) :: us ++ ds).length = ps.length := by
    have e := r2.length
    rw [hq.1] at e
    exact e.symm
  refine wpAny_call (make_map (f := f) I.kIn M.makes M.init (beq_iff_eq.mp M.fn) (codeAny_mono (F.go (B.room.make (C.ca ci) us []) B.grd (I2.env0.make (C.ca ci) us []) (hb _ (Value.ref (s.heap.objs.size + 1) :: us) I2.kIn hl) r2 hq) fun r s' hq' => ?_))
  match r, hq' with
  | .error e, hq' => exact B.tk _ _ (XE.of_call I2 (fun _ _ _ z => z) hq')
  | .ok (.ret u), hq' =>
    obtain ⟨v, H', I3, rv, ev, q3⟩ := I2.after hq'
    subst ev
    exact ⟨rv, ⟨V.ref (s.heap.objs.size + 1), H', I3, rfl, q3⟩⟩
  | .ok .next, hq' => exact False.elim hq'
  | .ok .brk, hq' => exact False.elim hq'
  | .ok .cont, hq' => exact False.elim hq'
variable {x mth : Str} {p pos apos : Pos} {e o : Expr} {es : List Expr} {fa : M (List Ar)} {fo : M T}
theorem ev_make (MK : Mk C.X.K (C.ca ci) f) (F : FnC C k f fd ps m d) (B : Bk C j) (hj : k + 1 ≤ j) (hm : ps.length ≤ m) (hg : Gl C.X x) (hx : C.X.mg x = some (.ref (C.ca ci))) (hb : Binds C.X.K fd ps ds) (hd : Vals dvs ds) (ht : ∀ F, RepL C.G F dts dvs) (ha : EvAr C (e :: es) fa)
    (hdb : (x == ("__debug__" : Str)) = false := by decide +kernel) (he : starEach (e :: es) C.X.env = (false, eval e C.X.env) :: starEach es C.X.env := by rfl) (hpl : (backTo pos (starEach es C.X.env)).any (·.1) = false := by rfl) :
    EvE C (.Call (.Name x p) (e :: es) [] pos) (M.bind fa fun as => makeA ci ps.length d m (as ++ dts.map Ar.fz)) := by
  obtain ⟨j', rfl⟩ : ∃ j', j = j' + 1 := ⟨j - 1, by omega⟩
  refine ⟨fun pins s σ H Q I ⟨Tm, F0, env, S, q⟩ => ?_⟩
  refine wpAny_Call_Name_kw (ld_glob I hg hx ?_ hdb)
  have q1 : tG C (ArR C.G) fa σ H fun vs H1 => ∀ x dx, H1 x = none → H1 dx = none → dx ≠ x → spT C.G ps.length m d (.ref x :: (vs ++ dvs)) (upd (upd H1 dx (.own x)) x (.ins (C.ca ci) dx [])) (fun v H2 => v = .non ∧ Q (.ref x) H2) (fun cls dd H' => C.W cls dd σ H') := by
    refine ⟨Tm, F0, env, S, At.bind (R' := RvR C.G) (Q' := Q) q fun as env1 xs F1 H1 le1 S1 r1 q2 => fun x dx nx nd ne => ?_⟩
    exact make_sp hm S1 (r1.append (ArL.consts (ht F1))) q2 nx nd ne
  refine PySem.W.callWith_K (h₀ := C.X.base) I.ok.mod.kin MK.kp (thn (ha.run pos pins s σ H _ I q1) fun us s1 ⟨vs, H1, I1, r, h⟩ => ⟨I1.kIn, ?_⟩) he hpl
  exact make_run MK (F.up (by omega)) B hb hd I1 r h
theorem ev_make0 (MK : Mk C.X.K (C.ca ci) f) (F : FnC C k f fd ps m d) (B : Bk C j) (hj : k + 1 ≤ j) (hm : ps.length ≤ m) (hg : Gl C.X x) (hx : C.X.mg x = some (.ref (C.ca ci))) (hb : Binds C.X.K fd ps ds) (hd : Vals dvs ds) (ht : ∀ F, RepL C.G F dts dvs)
    (hdb : (x == ("__debug__" : Str)) = false := by decide +kernel) : EvE C (.Call (.Name x p) [] [] pos) (makeA ci ps.length d m (dts.map Ar.fz)) := by
  obtain ⟨j', rfl⟩ : ∃ j', j = j' + 1 := ⟨j - 1, by omega⟩
  refine ⟨fun pins s σ H Q I ⟨Tm, F0, env, S, q⟩ => ?_⟩
  refine wpAny_Call_Name_kw (ld_glob I hg hx ?_ hdb)
  exact PySem.W.callWith_K0 I.kIn MK.kp (make_run (us := []) (vs := []) MK (F.up (by omega)) B hb hd I .nil fun x dx nx nd ne => make_sp hm S (ArL.consts (ht F0)) q nx nd ne)
/-! ### methods -/
/-- an instance of the class ci without a field of the method's name -/
def isOf (ci : Nat) (mth : Str) : T → Bool
  | .ins c fs => c == ci && (fs.lookup mth).isNone
  | _ => false
def methM (ci : Nat) (mth : Str) (fo : M T) (k : T → M Rv) : M Rv := M.bind fo fun t => if isOf ci mth t = true then k t else M.no
theorem frz_ins {Tm : Amb} {F H : Hp} {σ : St} {env : Env} (S : Sok C.G Tm F H σ env) {t : T} {x : V} (r : Rep C.G F t x) (h : isOf ci mth t = true) : ∃ a dx vs, x = .ref a ∧ H a = some (.ins (C.ca ci) dx vs) ∧ vs.lookup mth = none := by
  cases t <;> first | (cases h; done) | skip
  rename_i c fs
  simp only [isOf, Bool.and_eq_true, beq_iff_eq, Option.isNone_iff_eq_none] at h
  obtain ⟨rfl, hl⟩ := h
  obtain ⟨a, dx, vs, rfl, ha, rf⟩ := rep_ins r
  refine ⟨a, dx, vs, rfl, ?_, rf.lookN hl⟩
  rcases S.sub _ _ ha with q | ⟨q, _⟩
  · exact q
  · cases q
theorem ev_meth {pl : Sem Bool} (c : Cls C.X.K (C.ca ci)) (hmt : Meth C.X.K (C.ca ci) mth f) (F : FnC C k f fd ps m d) (B : Bk C j) (hj : k ≤ j) (hm : ps.length ≤ m) (hb : Binds C.X.K fd ps ds) (hd : Vals dvs ds) (ht : ∀ F, RepL C.G F dts dvs) (ho : EvT C o fo) (ha : EvAr C (e :: es) fa)
    (hst : starEach (e :: es) C.X.env = (false, eval e C.X.env) :: starEach es C.X.env := by rfl) (hpl : (backTo pos (starEach es C.X.env)).any (·.1) = false := by rfl)
    (het : eval (.Call (.Attribute o mth apos) (e :: es) [] pos) C.X.env = (do
      let ov ← eval o C.X.env
      standAt apos.atName
      let (f, first) ← holding [ov] (getMethod ov mth pl)
      callWith pos f first (backTo pos (starEach (e :: es) C.X.env)) (backToKw pos (keywordEach [] C.X.env))) := by rfl) :
    EvE C (.Call (.Attribute o mth apos) (e :: es) [] pos) (methM ci mth fo fun t => M.bind fa fun as => callA ps.length d m (.fz t :: as ++ dts.map Ar.fz)) := by
  refine ⟨fun pins s σ H Q I ⟨Tm, F0, env, S, q⟩ => ?_⟩
  have q1 : tG C (TR C.G) fo σ H fun x H1 => ∃ a dx vs, x = .ref a ∧ H1 a = some (.ins (C.ca ci) dx vs) ∧ vs.lookup mth = none ∧ tG C (ArR C.G) fa σ H1 fun ws H2 => spT C.G ps.length m d ((x :: ws) ++ dvs) H2 Q (fun cls dd H' => C.W cls dd σ H') := by
    refine ⟨Tm, F0, env, S, At.bind (R' := RvR C.G) (Q' := Q) q fun t env1 x F1 H1 le1 S1 r1 q2 => ?_⟩
    by_cases hi : isOf ci mth t = true
    · rw [if_pos hi] at q2
      obtain ⟨a, dx, vs, ex, e1, e2⟩ := frz_ins S1 r1 hi
      refine ⟨a, dx, vs, ex, e1, e2, Tm, F1, env1, S1, At.bind (R' := RvR C.G) (Q' := Q) q2 fun as env2 xs F2 H2 le2 S2 r2 q3 => ?_⟩
      exact call_sp hm S2 (ArL.append (as := .fz t :: as) ⟨x, xs, rfl, Rep.mono le2 t r1, r2⟩ (ArL.consts (ht F2))) q3
    · rw [if_neg hi] at q2
      exact q2.elim
  refine PySem.W.methodCall_KW (pl := pl) (thn (ho.run pins s σ H _ I q1) fun u s1 ⟨x, H1, I1, rx, a, dx, fs, ex, ea, l, q⟩ => ?_) het
  subst ex
  obtain rfl : u = Value.ref a := rx
  refine getmeth_ok I1 ea c hmt l ?_
  refine PySem.W.callWith_K (first := [.ref a]) (h₀ := C.X.base) I.ok.mod.kin hmt.kp (thn (ha.run pos pins s1 σ H1 _ I1 q) fun us s2 ⟨vs, H2, I2, r, q2⟩ => ⟨I2.kIn, ?_⟩) hst hpl
  exact call_run (us := .ref a :: us) (vs := .ref a :: vs) (F.up hj) B hb hd I2 (.cons rfl r) q2
theorem ev_meth0 {pl : Sem Bool} (c : Cls C.X.K (C.ca ci)) (hmt : Meth C.X.K (C.ca ci) mth f) (F : FnC C k f fd ps m d) (B : Bk C j) (hj : k ≤ j) (hm : ps.length ≤ m) (hb : Binds C.X.K fd ps ds) (hd : Vals dvs ds) (ht : ∀ F, RepL C.G F dts dvs) (ho : EvT C o fo)
    (het : eval (.Call (.Attribute o mth apos) [] [] pos) C.X.env = (do
      let ov ← eval o C.X.env
      standAt apos.atName
      let (f, first) ← holding [ov] (getMethod ov mth pl)
      callWith pos f first (backTo pos (starEach [] C.X.env)) (backToKw pos (keywordEach [] C.X.env))) := by rfl) :
    EvE C (.Call (.Attribute o mth apos) [] [] pos) (methM ci mth fo fun t => callA ps.length d m (.fz t :: dts.map Ar.fz)) := by
  refine ⟨fun pins s σ H Q I ⟨Tm, F0, env, S, q⟩ => ?_⟩
  have q1 : tG C (TR C.G) fo σ H fun x H1 => ∃ a dx vs, x = .ref a ∧ H1 a = some (.ins (C.ca ci) dx vs) ∧ vs.lookup mth = none ∧ spT C.G ps.length m d (x :: dvs) H1 Q (fun cls dd H' => C.W cls dd σ H') := by
    refine ⟨Tm, F0, env, S, At.bind (R' := RvR C.G) (Q' := Q) q fun t env1 x F1 H1 le1 S1 r1 q2 => ?_⟩
    by_cases hi : isOf ci mth t = true
    · rw [if_pos hi] at q2
      obtain ⟨a, dx, vs, ex, e1, e2⟩ := frz_ins S1 r1 hi
      exact ⟨a, dx, vs, ex, e1, e2, call_sp hm S1 (as := .fz t :: dts.map Ar.fz) ⟨x, dvs, rfl, r1, ArL.consts (ht F1)⟩ q2⟩
    · rw [if_neg hi] at q2
      exact q2.elim
  refine PySem.W.methodCall_KW (pl := pl) (thn (ho.run pins s σ H _ I q1) fun u s1 ⟨x, H1, I1, rx, a, dx, fs, ex, ea, l, q⟩ => ?_) het
  subst ex
  obtain rfl : u = Value.ref a := rx
  refine getmeth_ok I1 ea c hmt l ?_
  exact PySem.W.callWith_K0 (first := [.ref a]) I1.kIn hmt.kp (call_run (us := [.ref a]) (vs := [.ref a]) (F.up hj) B hb hd I1 (.cons rfl .nil) q)
end
end Ev
/-! Ev15: == by an own __eq__. -/
namespace Ev
open PySem PySem.Spec L2
section
variable {C : Cy} {k j ci : Nat} {f : Addr} {fd : FuncData} {ps : List Str} {m : Nat} {d : SM}
/-- what the right side may be -/
inductive TyR (C : Cy) (ci : Nat) (H : Hp) : V → Prop where
  | bt {y : V} {n : String} (ty : TyX C.X.K H y (.type n)) (hn : PySem.W.notFirst C.X.K (C.ca ci) (.type n) = true) : TyR C ci H y
  | same {b dx : Addr} {vs : List (Str × V)} (hb : H b = some (.ins (C.ca ci) dx vs)) : TyR C ci H (.ref b)
theorem op_eqOwn (hmt : Meth C.X.K (C.ca ci) "__eq__" f) (F : FnC C k f fd ps m d) (B : Bk C j) (hj : k ≤ j) (hb : Binds C.X.K fd ps []) :
    OpR C.X (compareOp .Eq) (fun x y H Q => ∃ a dx vs, x = .ref a ∧ H a = some (.ins (C.ca ci) dx vs) ∧ TyR C ci H y ∧ spT C.G ps.length m d [x, y] H (fun v H2 => ∃ b, v = .bl b ∧ Q (.bl b) H2) (fun _ _ _ => False)) := by
  intro pins s σ H x y v u Q I rx ry h
  obtain ⟨a, dx, vs, rfl, ha, ty, hsp⟩ := h
  cases rx
  obtain ⟨mA, J, _⟩ := ins_get I.hok ha
  obtain ⟨od, J, _⟩ := J.look
  obtain ⟨m', hF⟩ := I.fr
  have fin : wpAny (model C.X.prog C.X.w) C.X.A (call (.ref f) [.ref a, u]) (PySem.W.CmpBack (EP C.X pins σ Q)) C.X.xe s := by
    have hl : [Value.ref a, u].length = ps.length := by rw [← hsp.1]; rfl
    have r2 : Vals [V.ref a, y] [Value.ref a, u] := .cons rfl (.cons ry .nil)
    refine wpAny_call (codeAny_mono ((F.up hj).go B.room B.grd I.env0 (by
      have := hb s [.ref a, u] I.kIn (by simpa using hl)
      simpa using this) r2 hsp) fun r s' hq => ?_)
    match r, hq with
    | .error e, hq => exact B.tk _ _ (XE.of_call I (fun _ _ _ z => False.elim z) hq)
    | .ok (.ret w), hq =>
      obtain ⟨z, H', I', rz, b, ez, q⟩ := I.after hq
      subst ez
      cases rz
      exact ⟨.bl b, H', I', rfl, q⟩
    | .ok .next, hq => exact False.elim hq
    | .ok .brk, hq => exact False.elim hq
    | .ok .cont, hq => exact False.elim hq
  show wpAny (model C.X.prog C.X.w) C.X.A (richCompare .Eq (.ref a) u) (EP C.X pins σ Q) C.X.xe s
  cases ty with
  | @bt _ n ty hn =>
    obtain ⟨P, kit, hP, _⟩ := kit_of I ry ty
    exact PySem.W.cmp_K (op := .Eq) (tb := .type n) B.room.units0 hF I.ok.mod.kin J (kit.ty _ _ I.kIn hP) hn hmt.at_ hmt.fn fin
  | @same b dy ws hb' =>
    cases ry
    obtain ⟨mB, J', _⟩ := ins_get I.hok hb'
    obtain ⟨od', J', _⟩ := J'.look
    exact PySem.W.cmp_K (op := .Eq) (tb := .ref (C.ca ci)) B.room.units0 hF I.ok.mod.kin J J'.type (by simp [PySem.W.notFirst]) hmt.at_ hmt.fn fin
/-- the right sides of such a comparison, as trees -/
def okR (ci : Nat) : T → Bool
  | .non => true
  | .bl _ => true
  | .int _ => true
  | .str _ => true
  | .tup _ => true
  | .lst _ => true
  | .dK _ => true
  | .ins c _ => c == ci
  | _ => false
theorem notFirst_bt {K : PySem.W.Frag} {A : Addr} {n : String} (h : n ∈ ["NoneType", "bool", "int", "str", "tuple", "list", "dict"]) : PySem.W.notFirst K A (.type n) = true := by
  simp only [List.mem_cons, List.not_mem_nil, or_false] at h
  rcases h with h | h | h | h | h | h | h <;> subst h <;> rfl
theorem okR_ty {Tm : Amb} {F H : Hp} {σ : St} {env : Env} (S : Sok C.G Tm F H σ env) {t : T} {y : V} (r : Rep C.G F t y) (h : okR ci t = true) : TyR C ci H y := by
  have pk : Pk C.G F H t y := .inl r
  cases t <;> first | (cases h; done) | skip
  · exact .bt (pk.ty S rfl) (notFirst_bt (by decide))
  · exact .bt (pk.ty S rfl) (notFirst_bt (by decide))
  · exact .bt (pk.ty S rfl) (notFirst_bt (by decide))
  · exact .bt (pk.ty S rfl) (notFirst_bt (by decide))
  · exact .bt (pk.ty S rfl) (notFirst_bt (by decide))
  · exact .bt (pk.ty S rfl) (notFirst_bt (by decide))
  · exact .bt (pk.ty S rfl) (notFirst_bt (by decide))
  · rename_i c fs
    have hc : c = ci := by simpa [okR] using h
    subst hc
    obtain ⟨a, dx, vs, rfl, ha, _⟩ := rep_ins r
    rcases S.sub _ _ ha with q | ⟨q, _⟩
    · exact .same q
    · cases q
def isCi (ci : Nat) : T → Bool
  | .ins c _ => c == ci
  | _ => false
/-- t == u, t an instance of the class ci with an own __eq__ d -/
def eqO (ci n : Nat) (d : SM) (m : Nat) (t u : T) : M T := fun env => if isCi ci t = true ∧ okR ci u = true then (match callA n d m [.fz t, .fz u] env with
  | .ok (.fz (.bl b)) e => .ok (.bl b) e
  | _ => .no) else .no
theorem ev_eqO {a b : Expr} {pos : Pos} {f1 f2 : M T} (hmt : Meth C.X.K (C.ca ci) "__eq__" f) (F : FnC C k f fd ps m d) (B : Bk C j) (hj : k ≤ j) (hm : ps.length ≤ m) (hb : Binds C.X.K fd ps []) (h1 : EvT C a f1) (h2 : EvT C b f2) (hmk : behindInMarks .Eq b = false) :
    EvT C (.Compare a [.Eq] [b] pos) (M.bind f1 fun t => M.bind f2 fun u => eqO ci ps.length d m t u) := by
  refine pe_imp (pe_cmpR (op_eqOwn hmt F B hj hb) h1 h2 hmk) fun σ H Q ⟨Tm, F0, env, S, q⟩ => ⟨Tm, F0, env, S, ?_⟩
  refine At.bind (R' := TR C.G) (Q' := Q) q fun t env1 x F1 H1 le1 S1 r1 q1 => ⟨Tm, F1, env1, S1, ?_⟩
  refine At.bind (R' := TR C.G) (Q' := Q) q1 fun u env2 y F2 H2 le2 S2 r2 q2 => ?_
  unfold eqO at q2
  by_cases hc : isCi ci t = true ∧ okR ci u = true
  case neg =>
    rw [if_neg hc] at q2
    exact q2.elim
  rw [if_pos hc] at q2
  have rt := Rep.mono le2 t r1
  have hi : ∃ a dx vs, x = .ref a ∧ H2 a = some (.ins (C.ca ci) dx vs) := by
    cases t <;> first | (cases hc.1; done) | skip
    rename_i c fs
    have e : c = ci := by simpa [isCi] using hc.1
    subst e
    obtain ⟨a, dx, vs, ex, ha, _⟩ := rep_ins rt
    rcases S2.sub _ _ ha with q | ⟨q, _⟩
    · exact ⟨a, dx, vs, ex, q⟩
    · cases q
  obtain ⟨a, dx, vs, ex, ha⟩ := hi
  refine ⟨a, dx, vs, ex, ha, okR_ty S2 r2 hc.2, ?_⟩
  refine call_sp (C := ⟨C.X, C.ca, fun _ _ _ _ => False⟩) (Q := fun v H2 => ∃ b, v = .bl b ∧ Q (.bl b) H2) hm S2 (as := [.fz t, .fz u]) ⟨x, [y], rfl, rt, y, [], rfl, r2, rfl⟩ ?_
  cases ec : callA ps.length d m [.fz t, .fz u] env2 with
  | no =>
    rw [ec] at q2
    exact q2.elim
  | ex c fs e' =>
    rw [ec] at q2
    exact q2.elim
  | ok r e' =>
    rw [ec] at q2
    cases r with
    | ow t => exact q2.elim
    | bo i => exact q2.elim
    | fz w =>
      cases w <;> first | exact q2.elim | skip
      intro z F' H' le S' rz
      exact ⟨_, rep_bl rz, q2 _ F' H' le S' (mk_bl _)⟩
end
end Ev
/-! Ev16: try with several clauses that name the exception. -/
namespace Ev
open PySem PySem.Spec PyProof.Rows L2
/-- the ends behind a clause whose name is in the slot i -/
def offE (D : Ends) (i : Nat) : Ends := ⟨fun σ H => D.nx (σ.set i none) H, D.rt, fun σ H => D.bk (σ.set i none) H, fun σ H => D.ct (σ.set i none) H⟩
abbrev Cl : Type := Value × Nat × (Addr → Value → Option Addr → TS)
/-- what the clauses ask of an exception -/
def askC (K : PySem.W.Frag) (Wo : WX) (D : Ends) : List Cl → WX
  | [] => Wo
  | q :: r => fun cls d σ H => ∃ yes, PySem.W.exmOne K cls q.1 = some yes ∧ (yes = true → ∀ ea, H ea = none → q.2.2 ea cls d (offE D q.2.1) (σ.set q.2.1 (some (.ref ea))) H) ∧ (yes = false → askC K Wo D r cls d σ H)
inductive ClsOk (X : Cx) : List ExceptHandler → List Cl → Prop
  | nil : ClsOk X [] []
  | cons {x nm : Str} {c : Value} {i : Nat} {ts : Addr → Value → Option Addr → TS} {st : Stmt} {sts : List Stmt} {p1 p2 : Pos} {hds : List ExceptHandler} {l : List Cl} (at_ : X.N[i]? = some nm) (kd : X.env.kindOf nm = some .local) (cn : Names X x c)
      (su : ∀ (ea : Addr) (ob : Obj) (cls : Value) (d : Option Addr) (pn : List (Addr × Obj)), Zc cls d ob → (∃ vs, ob.data = .fields vs) → PSs (X.suite ea ((ea, ob) :: pn)) (st :: sts) (ts ea cls d)) (rest : ClsOk X hds l) :
      ClsOk X (.ExceptHandler (some (.Name x p1)) (some nm) (st :: sts) p2 :: hds) ((c, i, ts) :: l)
section
variable {X : Cx} {body : List Stmt} {hd0 : ExceptHandler} {hds : List ExceptHandler} {l : List Cl} {pos : Pos} {tb : WX → TS} {Wo : WX}
abbrev catchW (X : Cx) (pins : List (Addr × Obj)) (D : Ends) (hs : List ExceptHandler) : Value → Shared → Prop := fun u sA =>
  wpAny (model X.prog X.w) X.A (noteFrame u X.env)
    (fun _ sB => wpAny (model X.prog X.w) X.A (setFlight u none)
      (fun _ sC => wpAny (model X.prog X.w) X.A (handleBy u X.env hs) (SP X pins D) X.xe sC) X.xe sB) X.xe sA
theorem try_clauses (stk : X.stack = X.env :: X.outer) (frm : X.env.frame = some X.env.locals) (nd : X.N.Nodup) (tk : Takes X Wo)
    (bd : ∀ (W : WX) (pn : List (Addr × Obj)) (wish : Value → Shared → Prop), Takes (X.tr pn wish) W → PassesOwn (model X.prog X.w) X.A X.env wish → PSs (X.tr pn wish) body (tb W))
    (hk : ClsOk X (hd0 :: hds) l) : PS X (.Try body (hd0 :: hds) [] [] pos) (fun D σ H => tb (askC X.K Wo D l) D σ H) := by
  constructor
  intro pins s σ H D inv goal
  have okX := inv.ok
  have frames : X.A.frames = some (X.env :: X.outer) := okX.frames.trans (congrArg some stk)
  apply wpAny_Try_except
  refine wpAny_mono ((bd (askC X.K Wo D l) (X.pn ++ pins) (catchW X pins D (hd0 :: hds)) (fun u s' air => ?air) PassesOwn.looking).run [] s σ H D (inv.toTry _) goal) (fun fl s1 out => ?out) fun _ _ z => z
  case out =>
    cases fl with
    | next => exact let ⟨σ1, H1, J, q⟩ := out; wpAny_execs_nil ⟨σ1, H1, J.ofTry okX, q⟩
    | brk => exact let ⟨σ1, H1, J, q⟩ := out; ⟨σ1, H1, J.ofTry okX, q⟩
    | cont => exact let ⟨σ1, H1, J, q⟩ := out; ⟨σ1, H1, J.ofTry okX, q⟩
    | ret v => exact let ⟨v1, σ1, H1, J, r, q⟩ := out; ⟨v1, σ1, H1, J.ofTry okX, r, q⟩
  case air =>
    obtain ⟨ea, G0, sI, _, σ1, H1, cls, d, rfl, J0, base0, ups, air, none0, os0, bare0, ask⟩ := air
    have J1 : Inv X pins σ1 H1 sI := J0.ofTry okX
    have air1 : Sky G0 (X.env :: X.outer) ea (Zc cls d) X.env.locals s'.heap := stk ▸ air
    show wpAny (model X.prog X.w) X.A (noteFrame (.ref ea) X.env) _ _ _
    refine Sky.land Zc.steady frames frm air1 fun hA flA upA => ?_
    have upsA := ups.trans upA
    have JA : Inv X pins σ1 H1 { s' with heap := hA } := J1.landed base0 flA.1 upsA os0 bare0
    obtain ⟨obA, fsA, getA, zcA, datA⟩ := flA.there
    have outside : ea ∉ frs (X.env :: X.outer) := fun mem => by
      obtain ⟨_, ob', get', nof⟩ := flA.2.2.1.mem mem
      rw [getA] at get'
      cases get'
      exact nof _ datA
    have offL : ea ≠ X.env.locals := fun z => outside (List.mem_filterMap.mpr ⟨X.env, List.mem_cons_self, by rw [frm, z]⟩)
    have offF : ea ∉ X.fs := fun mem => by
      obtain ⟨en, hen, q⟩ := List.mem_filterMap.mp mem
      exact outside (List.mem_filterMap.mpr ⟨en, List.mem_cons_of_mem _ hen, q⟩)
    have SA := JA.suite getA datA none0 offL offF
    have walk : ∀ {hs' : List ExceptHandler} {l' : List Cl}, ClsOk X hs' l' → askC X.K Wo D l' cls d σ1 H1 → wpAny (model X.prog X.w) X.A (handleBy (.ref ea) X.env hs') (SP X pins D) X.xe { s' with heap := hA } := by
      intro hs' l' ok'
      induction ok' with
      | nil =>
        intro wish
        apply wpAny_handleBy_nil
        obtain ⟨_, _, _, ob, fs, tb0, _, _, get1, zc1, dat1, tb1, _⟩ := id flA
        unfold PySem.passOn
        apply wpAny_bind
        apply wpAny_field get1 dat1 tb1
        rw [if_neg (by simp : ¬ ((Value.ref tb0 == Value.none) = true))]
        have thrown : wpAny (model X.prog X.w) X.A (setFlight (.ref ea) X.env.frame) (fun _ s4 => wpAny (model X.prog X.w) X.A (throw (.ref ea) : Sem Flow) (SP X pins D) X.xe s4) X.xe { s' with heap := hA } := by
          rw [frm]
          apply HandSPX.setFlight_upZ flA
          intro hB airB upB
          apply wpAny_throw
          exact tk _ _ ⟨ea, G0, sI, pins, σ1, H1, cls, d, rfl, J1, base0, upsA.trans upB, .inr (.inr (stk.symm ▸ airB)), none0, os0, bare0, wish⟩
        first
          | exact wpAny_bind (wpAny_pure (wpAny_bind thrown))
          | exact wpAny_bind thrown
      | @cons x nm c i ts st sts p1 p2 hds2 l2 at_ kd cn su rest ih =>
        intro wish
        obtain ⟨yes, em, onYes, onNo⟩ := wish
        refine wpAny_handleBy_cons (codeAny_handlers_test ?_) fun q => nomatch q
        have lookTy : PySem.W.Looks (model X.prog X.w) hA (typeOf (.ref ea)) cls := fun _ _ _ _ keep q => wpAny_typeOf_ref (keep _ _ getA) (zcA.1.symm ▸ q)
        have lookEm := PySem.W.exm_one (M := model X.prog X.w) JA.kIn lookTy em
        have named : ∀ {Q : Value → Shared → Prop} {E : Value → Shared → Prop}, Q c { s' with heap := hA } → wpAny (model X.prog X.w) (X.A.mark (some (.ref ea))) (eval (.Name x p1) X.env) Q E { s' with heap := hA } := by
          intro Q E q
          obtain ⟨gl, ndb, own | ⟨free, boot, nn⟩⟩ := cn
          · exact ld_glob (X := X.suite ea ((ea, obA) :: (X.pn ++ pins))) SA gl own q ndb
          · exact ld_blt (X := X.suite ea ((ea, obA) :: (X.pn ++ pins))) SA gl free boot q nn ndb
        apply named
        apply lookEm.here
        cases yes with
        | false => exact ih (onNo rfl)
        | true =>
          apply codeAny_handlers_suite_as
          refine HandSPX.lands_againZ flA fun hB flB upB => ?_
          have JB : Inv X pins σ1 H1 { s' with heap := hB } := J1.landed base0 flB.1 (upsA.trans upB) os0 bare0
          obtain ⟨obB, fsB, getB, zcB, datB⟩ := flB.there
          have SB := JB.suite getB datB none0 offL offF
          refine store_ok (X := X.suite ea ((ea, obB) :: (X.pn ++ pins))) (v := .ref ea) SB nd at_ (.inl kd) rfl (fun s5 S5 => ?_) (.inr kd)
          have gone : ∀ {s6 : Shared} {σ6 : L2.St} {H6 : Hp} {Q : Shared → Prop}, Inv (X.suite ea ((ea, obB) :: (X.pn ++ pins))) [] σ6 H6 s6 → (∀ s7, Inv X pins (σ6.set i none) H6 s7 → Q s7) →
              wpAny (model X.prog X.w) X.A (do bindName X.env nm .none; unbindBehindTheSuite X.env nm p2) (fun _ s7 => Q s7) X.xe s6 := fun S6 q => gone_ok (S6.unsuite okX) nd at_ kd q
          refine wpAny_mono ((su ea obB cls d (X.pn ++ pins) zcB ⟨_, datB⟩).run [] s5 _ H1 (offE D i) S5 (onYes rfl ea none0)) (fun fl s6 out => ?_) fun _ _ z => z.elim
          cases fl with
          | next => exact let ⟨σ6, H6, S6, q⟩ := out; gone S6 fun s7 J7 => ⟨_, _, J7, q⟩
          | brk => exact let ⟨σ6, H6, S6, q⟩ := out; gone S6 fun s7 J7 => ⟨_, _, J7, q⟩
          | cont => exact let ⟨σ6, H6, S6, q⟩ := out; gone S6 fun s7 J7 => ⟨_, _, J7, q⟩
          | ret v => exact let ⟨v6, σ6, H6, S6, r, q⟩ := out; gone S6 fun s7 J7 => ⟨_, _, _, J7, r, q⟩
    exact walk hk ask
end
end Ev
/-! Ev17: own exceptions over ValueError: raised, caught, looked at. -/
namespace Ev
open PySem PySem.Spec L2
/-! ### what the head tells of such a class -/
def oexB (K : PySem.W.Frag) (C : Addr) : Bool := match K.lookup C with
  | some ⟨.type "type", _, .cls cd, sl⟩ => (match cd.mro, sl.toList with
    | .ref D :: bm, [_, _, _, _, some (.builtin n), _] => D == C && (n == "ValueError.__new__" && (cd.hasDict && (!cd.hasDel && PySem.HandSPX.refsVE bm)))
    | _, _ => false)
  | _ => false
def excB (K : PySem.W.Frag) (C : Addr) (attr : Str) : Bool :=
  oexB K C && (He.eqO (PySem.W.findIn K (.ref C) "__setattr__") (some (some (.builtin "object.__setattr__"))) && (decide (PySem.W.subIn K (.ref C) (.type "BaseException") = some true) && (decide (PySem.W.typeIn K (.ref C) = some (.type "type")) &&
  (PySem.W.keepIn K (.ref C) && (He.eqO (PySem.W.findIn K (.ref C) attr) (some none) && (xfB K C && ((PySem.W.clsIn K C).isSome && (He.eqO (PySem.W.findIn K (.ref C) "__class__") (some (some (.builtin "object.__class__"))) &&
  (He.eqO (PySem.W.specialIn K (.builtin "object.__class__") "__get__") (some (some (.builtin "getset_descriptor.__get__"))) && (decide (PySem.W.takesIn K (.builtin "object.__class__") = some true) && decide (PySem.W.mroIn K C (.type "object") = some true)))))))))))
structure ExcF (K : PySem.W.Frag) (C : Addr) (attr : Str) : Prop where
  oex : OexC K C
  noat : PySem.W.findIn K (.ref C) attr = some none
  xf : XfC K C
  cls : (PySem.W.clsIn K C).isSome = true
  cat : PySem.W.findIn K (.ref C) "__class__" = some (some (.builtin "object.__class__"))
  get : PySem.W.specialIn K (.builtin "object.__class__") "__get__" = some (some (.builtin "getset_descriptor.__get__"))
  tks : PySem.W.takesIn K (.builtin "object.__class__") = some true
  obj : PySem.W.mroIn K C (.type "object") = some true
theorem oexB_ok {K : PySem.W.Frag} {C : Addr} (h : oexB K C = true) : ∃ nm q N bs bm sn sub ab col dd k0 k1 k2 k3 k5, K.lookup C = some (excClassObj nm q C N bs bm true sn sub ab col dd k0 k1 k2 k3 k5 "ValueError.__new__") ∧ PySem.HandSPX.refsVE bm = true := by
  unfold oexB at h
  split at h
  case h_2 => cases h
  rename_i dd cd sl lk
  split at h
  case h_2 => cases h
  rename_i D bm k0 k1 k2 k3 n k5 em es
  simp only [Bool.and_eq_true, beq_iff_eq, Bool.not_eq_true'] at h
  obtain ⟨rfl, rfl, hd, hx, hv⟩ := h
  obtain ⟨nm, bs, mro, ns, qn, hdd, sn, sub, ab, col, del⟩ := cd
  simp only at em hd hx
  subst em hd hx
  obtain ⟨l⟩ := sl
  simp only at es
  subst es
  exact ⟨nm, qn, ns, bs, bm, sn, sub, ab, col, dd, k0, k1, k2, k3, k5, lk, hv⟩
theorem excB_ok {K : PySem.W.Frag} {C : Addr} {attr : Str} (h : excB K C attr = true) : ExcF K C attr := by
  unfold excB at h
  obtain ⟨h1, h⟩ := He.ba h
  obtain ⟨h2, h⟩ := He.ba h
  obtain ⟨h3, h⟩ := He.ba h
  obtain ⟨h4, h⟩ := He.ba h
  obtain ⟨h5, h⟩ := He.ba h
  obtain ⟨h6, h⟩ := He.ba h
  obtain ⟨h7, h⟩ := He.ba h
  obtain ⟨h8, h⟩ := He.ba h
  obtain ⟨h9, h⟩ := He.ba h
  obtain ⟨h10, h⟩ := He.ba h
  obtain ⟨h11, h12⟩ := He.ba h
  exact ⟨⟨oexB_ok h1, He.eqO_ok h2, of_decide_eq_true h3, of_decide_eq_true h4, h5⟩, He.eqO_ok h6, xfB_ok h7, h8, He.eqO_ok h9, He.eqO_ok h10, of_decide_eq_true h11, of_decide_eq_true h12⟩
/-! ### its __init__: self.attr = param -/
section
variable {P : Program} {w : World} {K : PySem.W.Frag} {mg : Str → Option Value} {base : Heap} {f : Addr} {fd : FuncData}
def spInit (C : Addr) (attr : Str) : Sp := fun vs H Q _ => ∃ a y, vs = [.ref a, y] ∧ H a = some (exo a C none) ∧ ∀ dx, H dx = none → dx ≠ a → Q .non (upd (upd H dx (exd dx [(attr, y)])) a (exo a C (some dx)))
theorem init_ok {x qual : Str} {params : Arguments} {scope : Scope} {dvs : List V} {kws : List (Str × V)} {C : Addr} {attr par : Str} {p1 p2 p3 p4 : Pos} (E0_ : ExcF K C attr)
    (F : FunD K x qual params [.Assign [.Attribute (.Name "self" p1) attr p2] (.Name par p3) p4] scope dvs kws f fd) (S : FnScope ["self", par] ["self", par] scope)
    (h1 : scope.names.lookup ("self" : Str) = some NameKind.local := by rfl) (h2 : scope.names.lookup par = some NameKind.local := by rfl)
    (n1 : (par == ("__debug__" : Str)) = false := by decide +kernel) (n2 : (par == ("__classdict__" : Str)) = false := by decide +kernel)
    (hs : ∀ env : PySem.Env, swapsWith (.Name par p3) (some (.Attribute (.Name "self" p1) attr p2)) p4.line env = pure false := by intro _; rfl) :
    FnOk P w K mg base CX0 1 f fd ["self", par] (spInit C attr) := by
  refine F.ok S (fun vs H Q E h => ?_) (fun cdv A outer s H vs Q E hr h => ?_)
  · obtain ⟨a, y, rfl, _⟩ := h
    rfl
  · obtain ⟨a, y, rfl, ha, q⟩ := h
    refine ⟨_, PSs.nox (pss_one (ps_ost (pe_var (i := 0) rfl (.inl h1) (by decide +kernel) (by decide +kernel)) (pe_var (i := 1) rfl (.inl h2) n1 n2) (hs _))), ?_⟩
    exact ⟨y, rfl, .ref a, rfl, a, C, rfl, E0_.oex, E0_.noat, .inl ⟨ha, q⟩⟩
end
/-! ### raised -/
section
variable {C : Cy} {k j ci : Nat} {f : Addr} {fd : FuncData} {attr par x : Str} {e : Expr} {p pos pos2 : Pos} {m : M T}
def raiseS (ci : Nat) (attr : Str) (m : M T) : SM := exprS m fun t env => .ex ci [(attr, t)] env
theorem e_raise (X : ExcF C.X.K (C.ca ci) attr) (F : FnOk C.X.prog C.X.w C.X.K C.X.mg C.X.base CX0 k f fd ["self", par] (spInit (C.ca ci) attr)) (B : Bod C j) (hj : k + 1 ≤ j) (iC : PySem.W.findIn C.X.K (.ref (C.ca ci)) "__init__" = some (some (.ref f))) (tI : PySem.W.isFn C.X.K (.ref f) = true)
    (hb : Binds C.X.K fd ["self", par] []) (hg : Gl C.X x) (hm : C.X.mg x = some (.ref (C.ca ci))) (he : EvT C e m) (hdb : (x == ("__debug__" : Str)) = false := by decide +kernel) (hst : starEach [e] C.X.env = [(false, eval e C.X.env)] := by rfl) :
    EvS C (.Raise (some (.Call (.Name x p) [e] [] pos)) none pos2) (raiseS ci attr m) := by
  have ha : EvA C [e] (consM m (M.pure [])) := ea_cons he ea_nil hst
  refine ps_imp (ps_raise B.calm B.tk (pmk_oex (ds := []) (dvs := []) X.oex iC (beq_iff_eq.mp tI) F (B.room.mono hj) hb .nil (fun _ _ _ _ _ _ _ h => h.elim) hg hm ha hdb hst rfl)) fun D σ H ⟨Tm, F0, env, S, q⟩ => ⟨Tm, F0, env, S, ?_⟩
  have q' : At C (TLR C.G) Tm F0 σ (fun vs H1 => vs.length ≤ 1000 ∧ ∀ a, H1 a = none → spInit (C.ca ci) attr (.ref a :: (vs ++ [])) (upd H1 a (exo a (C.ca ci) none))
      (fun v H2 => v = .non ∧ ∃ (d : Addr) (fs : List (Str × V)), H2 a = some (exo a (C.ca ci) (some d)) ∧ H2 d = some (exd d fs) ∧ H1 d = none ∧ C.W (.ref (C.ca ci)) (some d) σ (upd (del H2 a) d (.xd fs))) (fun _ _ _ => False)) (consM m (M.pure []) env) := by
    have q0 : AtS C Tm F0 D ((m env).so fun t env => .ex ci [(attr, t)] env) := q
    show At C _ Tm F0 σ _ ((m env).bind fun t => M.bind (M.pure []) fun ts => M.pure (t :: ts))
    cases em : m env with
    | no =>
      rw [em] at q0
      exact q0.elim
    | ex c fs e1 =>
      rw [em] at q0
      exact fun d F' H' vs le S' e r => q0 d σ F' H' vs le S' e r
    | ok t e1 =>
      rw [em] at q0
      have q1 : AtS C Tm F0 D (.ex ci [(attr, t)] e1) := q0
      intro xs F' H' le S' r
      obtain ⟨y, r', ex, ry, rn⟩ := RepL.uncons r
      have en := rn.unnil
      subst en ex
      refine ⟨by simp, fun a na => ⟨a, y, rfl, upd_same, fun dx nd ne => ⟨rfl, dx, [(attr, y)], upd_same, by rw [upd_ne ne, upd_same], ?_, ?_⟩⟩⟩
      · rw [upd_ne ne] at nd
        exact nd
      · rw [upd_ne ne] at nd
        have same : upd (del (upd (upd (upd H' a (exo a (C.ca ci) none)) dx (exd dx [(attr, y)])) a (exo a (C.ca ci) (some dx))) a) dx (.xd [(attr, y)]) = upd H' dx (.xd [(attr, y)]) := by
          funext b
          by_cases h1 : b = dx
          · rw [h1, upd_same, upd_same]
          · rw [upd_ne h1, upd_ne h1]
            by_cases h2 : b = a
            · rw [h2, del_same, na]
            · rw [del_ne h2, upd_ne h2, upd_ne h1, upd_ne h2]
        rw [same]
        exact q1 dx σ F' _ [(attr, y)] le (S'.alloc nd) upd_same (.cons ry .nil)
  exact q'
end
end Ev
/-! Ev18: what a clause returns; try as a statement. -/
namespace Ev
open PySem PySem.Spec L2
abbrev XG : Type := Nat → List (Str × T) → Option T
abbrev XGs : Type := Nat → List (Str × T) → Option (List T)
section
variable (C : Cy) (i : Nat) (ea : Addr) (cls : Value) (d : Option Addr)
/-- a reading in a clause: R says of the result's tree and value -/
def rdX {α β : Type} (R : Hp → α → β → Prop) (g : Nat → List (Str × T) → Option α) : St → Hp → (β → Hp → Prop) → Prop := fun σ' H Q => ∃ Tm F env σ0 ci fs dd vs t, cls = .ref (C.ca ci) ∧ d = some dd ∧ σ'[i]? = some (some (.ref ea)) ∧ Sok C.G Tm F H σ0 env ∧ H dd = some (.xd vs) ∧ RepF C.G F fs vs ∧ g ci fs = some t ∧
  ∀ x F' H', Le F F' → Sok C.G Tm F' H' σ0 env → H' dd = some (.xd vs) → R F' t x → Q x H'
end
/-- the surroundings of a clause's suite -/
structure Sx (C : Cy) (i : Nat) (n : Str) (ea : Addr) (ob : Obj) (cls : Value) (d : Option Addr) : Prop where
  grd : C.X.A.guards = some []
  rm : Rm C
  at_ : C.X.N[i]? = some n
  loc : C.X.env.scope.names.lookup n = some .local
  zc : Zc cls d ob
  dat : ∃ vs, ob.data = .fields vs
abbrev EvX (C : Cy) (i : Nat) (ea : Addr) (ob : Obj) (pn : List (Addr × Obj)) (cls : Value) (d : Option Addr) (e : Expr) (g : XG) : Prop := PE (C.X.suite ea ((ea, ob) :: pn)) e (rdX C i ea cls d (fun F t x => Rep C.G F t x) g)
abbrev EvXs (C : Cy) (i : Nat) (ea : Addr) (ob : Obj) (pn : List (Addr × Obj)) (cls : Value) (d : Option Addr) (es : List Expr) (g : XGs) : Prop := PA (C.X.suite ea ((ea, ob) :: pn)) es (rdX C i ea cls d (fun F t x => RepL C.G F t x) g)
section
variable {C : Cy} {i : Nat} {n : Str} {ea : Addr} {ob : Obj} {pn : List (Addr × Obj)} {cls : Value} {d : Option Addr} {e : Expr} {es : List Expr} {g : XG} {gs : XGs} {pos p1 p2 p : Pos}
theorem x_con {v : V} {t : T} (h : PE (C.X.suite ea ((ea, ob) :: pn)) e (tC v)) (r : ∀ F, Rep C.G F t v) : EvX C i ea ob pn cls d e (fun _ _ => some t) := by
  refine pe_imp h fun σ H Q ⟨Tm, F, env, σ0, ci, fs, dd, vs, u, e1, e2, e3, S, hx, rf, eg, q⟩ => ?_
  cases eg
  exact q v F H Le.rfl S hx (r F)
theorem x_str {s : Str} {k : Nat} : EvX C i ea ob pn cls d (.Constant (.str s) k pos) (fun _ _ => some (.str s)) := x_con pe_str fun F => mk_str s
theorem x_attr {attr : Str} {cs : List Nat} (Z : Sx C i n ea ob cls d) (hc : ∀ c ∈ cs, ExcF C.X.K (C.ca c) attr) (h1 : (n == ("__debug__" : Str)) = false := by decide +kernel) (h2 : (n == ("__classdict__" : Str)) = false := by decide +kernel)
    (hb : attributeBase (.Name n p1) attr C.X.env (eval (.Name n p1) C.X.env) = eval (.Name n p1) C.X.env := by rfl) :
    EvX C i ea ob pn cls d (.Attribute (.Name n p1) attr pos) (fun ci fs => if ci ∈ cs then fs.lookup attr else none) := by
  refine ⟨fun pins s σ H Q I ⟨Tm, F, env, σ0, ci, fs, dd, vs, t, e1, e2, e3, S, hx, rf, eg, q⟩ => ?_⟩
  have eg2 : (if ci ∈ cs then fs.lookup attr else none) = some t := eg
  split at eg2
  case isFalse => cases eg2
  rename_i hm
  have X := hc ci hm
  obtain ⟨v, hv, rv⟩ := rf.lookup eg2
  exact (pe_xf (e := .Name n p1) (n := attr) (pos := pos) X.xf X.noat Z.zc Z.dat (pe_var (X := C.X.suite ea ((ea, ob) :: pn)) (i := i) Z.at_ (.inl Z.loc) h1 h2) hb).run pins s σ H Q I ⟨.ref ea, e3, rfl, e1, dd, vs, v, e2, hx, hv, q v F H Le.rfl S hx rv⟩
def reprX (g : XG) : XG := fun ci fs => (g ci fs).bind fun t => match reprT t with
  | some (.fz u) => some u
  | _ => none
theorem x_repr (Z : Sx C i n ea ob cls d) (hg : Gl C.X "repr") (hm : C.X.mg "repr" = none) (hv : bootBuiltins "repr" = some (.builtin "repr")) (h : EvX C i ea ob pn cls d e g) (he : starEach [e] C.X.env = [(false, eval e C.X.env)] := by rfl) :
    EvX C i ea ob pn cls d (.Call (.Name "repr" p) [e] [] pos) (reprX g) := by
  have cr := call_reprD (C := ⟨C.X.suite ea ((ea, ob) :: pn), C.ca, fun _ _ _ _ => False⟩) Z.grd Z.rm
  refine pe_imp (pe_callB cr hg hm hv (pa_cons h pa_nil he) (by decide) (by decide) he rfl) fun σ H Q ⟨Tm, F, env, σ0, ci, fs, dd, vs, t, e1, e2, e3, S, hx, rf, eg, q⟩ => ?_
  obtain ⟨u, eu, er⟩ := Option.bind_eq_some_iff.mp eg
  refine ⟨Tm, F, env, σ0, ci, fs, dd, vs, u, e1, e2, e3, S, hx, rf, eu, fun x F' H' le S' hx' rx => ?_⟩
  unfold reprT at er
  split at er
  · rename_i w ew
    cases er
    split at ew
    · rename_i hh
      cases ew
      exact ⟨x, toD u, rfl, Rep.dp S' u hh.1 rx, hh.1, hh.2.1, hh.2.2.1, hh.2.2.2, q _ F' H' le S' hx' (mk_str _)⟩
    · cases ew
  · cases er
/-- isinstance(e, D), e the clause's exception -/
theorem call_isX {u : Value} {em : Nat → Option Bool} {attr : Str} {cs : List Nat} (Z : Sx C i n ea ob cls d) (hc : ∀ c ∈ cs, ExcF C.X.K (C.ca c) attr) (hk : ∀ c b, em c = some b → c ∈ cs ∧ PySem.W.kitOne C.X.K (.ref (C.ca c)) u = some b) :
    CallR (C.X.suite ea ((ea, ob) :: pn)) (.builtin "isinstance") (fun xs H Q => ∃ (c : V) (ci : Nat) (b : Bool) (dd : Addr) (vs : List (Str × V)), xs = [.ref ea, c] ∧ ClsV c u ∧ cls = .ref (C.ca ci) ∧ d = some dd ∧ H dd = some (.xd vs) ∧ em ci = some b ∧ Q (.bl b) H) := by
  intro pins s σ H xs us Q I r h
  obtain ⟨c, ci, b, dd, vs, rfl, k, ec, ed, hx, hem, q⟩ := h
  obtain ⟨u1, u2, rfl, r1, r2⟩ := vals2 r
  have e2 := k.eq r2
  subst e2
  cases r1
  obtain ⟨hm, kk⟩ := hk ci b hem
  have X := hc ci hm
  obtain ⟨get, _⟩ := I.pin (ea, ob) (List.mem_append_left _ List.mem_cons_self)
  obtain ⟨fv, hd⟩ := Z.dat
  have ok : ObjOk C.X.prog C.X.w H s.heap dd (.xd vs) := I.hok dd _ hx
  obtain ⟨mA, hns, _⟩ := ok
  obtain ⟨od, ho, _⟩ := lookIn_ns hns
  have z1 : ob.cls = .ref (C.ca ci) := Z.zc.1.trans ec
  have z2 : ob.dict = some dd := Z.zc.2.trans ed
  have J : PySem.W.InstAt s.heap ea ob (C.ca ci) (some od) := ⟨get, z1, by unfold PySem.W.notCls; rw [hd] <;> rfl, by rw [z2]; exact ho⟩
  have kit := PySem.W.kitx_exc (K := C.X.K) (x := ea) (ox := ob) (od := some od) X.cls X.xf.ga X.xf.gg X.xf.exC X.cat X.get X.tks X.obj
  exact PySem.W.kia_one kit I.kIn J kk (fun z => nomatch z) fun tk => ⟨.bl b, H, I.tok tk, rfl, q⟩
theorem x_isi {c : V} {u : Value} {em : Nat → Option Bool} {attr nc : Str} {cs : List Nat} (Z : Sx C i n ea ob cls d) (hc : ∀ c ∈ cs, ExcF C.X.K (C.ca c) attr) (hk : ∀ c b, em c = some b → c ∈ cs ∧ PySem.W.kitOne C.X.K (.ref (C.ca c)) u = some b)
    (hg : Gl C.X "isinstance") (hm : C.X.mg "isinstance" = none) (kc : ClsV c u) (hu : PE (C.X.suite ea ((ea, ob) :: pn)) (.Name nc p2) (tC c)) (h1 : (n == ("__debug__" : Str)) = false := by decide +kernel) (h2 : (n == ("__classdict__" : Str)) = false := by decide +kernel) :
    EvX C i ea ob pn cls d (.Call (.Name "isinstance" p) [.Name n p1, .Name nc p2] [] pos) (fun ci _ => (em ci).map T.bl) := by
  refine pe_imp (pe_callB (call_isX Z hc hk) hg hm PyProof.Rows.boot_isinstance (pa_cons (pe_var (X := C.X.suite ea ((ea, ob) :: pn)) (i := i) Z.at_ (.inl Z.loc) h1 h2) (pa_cons hu pa_nil rfl) rfl) (by decide) (by decide) rfl rfl) fun σ H Q ⟨Tm, F, env, σ0, ci, fs, dd, vs, t, e1, e2, e3, S, hx, rf, eg, q⟩ => ?_
  obtain ⟨b, eb, et⟩ := Option.map_eq_some_iff.mp eg
  subst et
  exact ⟨.ref ea, e3, c, ci, b, dd, vs, rfl, kc, e1, e2, hx, eb, q _ F H Le.rfl S hx (mk_bl b)⟩
theorem x_nil : EvXs C i ea ob pn cls d [] (fun _ _ => some []) := by
  refine pa_imp pa_nil fun σ H Q ⟨Tm, F, env, σ0, ci, fs, dd, vs, t, e1, e2, e3, S, hx, rf, eg, q⟩ => ?_
  cases eg
  exact q [] F H Le.rfl S hx .nil
def consX (g : XG) (gs : XGs) : XGs := fun ci fs => (g ci fs).bind fun t => (gs ci fs).map (t :: ·)
theorem x_cons (h : EvX C i ea ob pn cls d e g) (h' : EvXs C i ea ob pn cls d es gs) (hs : starEach (e :: es) C.X.env = (false, eval e C.X.env) :: starEach es C.X.env := by rfl) : EvXs C i ea ob pn cls d (e :: es) (consX g gs) := by
  refine pa_imp (pa_cons h h' hs) fun σ H Q ⟨Tm, F, env, σ0, ci, fs, dd, vs, ts, e1, e2, e3, S, hx, rf, eg, q⟩ => ?_
  obtain ⟨t, et, er⟩ := Option.bind_eq_some_iff.mp eg
  obtain ⟨us, eu, ec⟩ := Option.map_eq_some_iff.mp er
  subst ec
  refine ⟨Tm, F, env, σ0, ci, fs, dd, vs, t, e1, e2, e3, S, hx, rf, et, fun x F' H' le S' hx' rx => ?_⟩
  refine ⟨Tm, F', env, σ0, ci, fs, dd, vs, us, e1, e2, e3, S', hx', RepF.mono le _ rf, eu, fun xs F2 H2 le2 S2 hx2 rs => ?_⟩
  exact q (x :: xs) F2 H2 (le.trans le2) S2 hx2 (.cons (Rep.mono le2 t rx) rs)
def lstX (gs : XGs) : XG := fun ci fs => (gs ci fs).bind fun ts => if ts.length ≤ sizeLine then some (.lst ts) else none
theorem x_lst (h : EvXs C i ea ob pn cls d es gs) : EvX C i ea ob pn cls d (.List es pos) (lstX gs) := by
  refine pe_imp (pe_lst h) fun σ H Q ⟨Tm, F, env, σ0, ci, fs, dd, vs, t, e1, e2, e3, S, hx, rf, eg, q⟩ => ?_
  obtain ⟨ts, et, ec⟩ := Option.bind_eq_some_iff.mp eg
  split at ec
  case isFalse => cases ec
  rename_i hl
  cases ec
  refine ⟨Tm, F, env, σ0, ci, fs, dd, vs, ts, e1, e2, e3, S, hx, rf, et, fun xs F' H' le S' hx' rs => ⟨by rw [rs.length]; exact hl, fun p np => ?_⟩⟩
  have le2 := Le.upd (o := .lst xs) (S'.new np).1
  refine q _ _ _ (le.trans le2) (S'.allocF np) (by rw [upd_ne (ne_of_none hx' np)]; exact hx') ?_
  simp only [Rep]
  exact ⟨p, xs, rfl, .inl (.inl upd_same), RepL.mono le2 _ rs⟩
end
/-! ### the statement -/
structure XC where
  i : Nat
  em : Nat → Option Bool
  g : XG
def tryC (ci : Nat) (fs : List (Str × T)) (env : Env) : List XC → SO
  | [] => .ex ci fs env
  | q :: r => match q.em ci with
    | some true => if q.i < env.length then (match q.g ci fs with
      | some t => .rt (.fz t) env
      | none => .no) else .no
    | some false => tryC ci fs env r
    | none => .no
def tryS (b : SM) (l : List XC) : SM := fun env => match b env with
  | .ex ci fs e => tryC ci fs e l
  | o => o
/-- the clauses keep to their readings -/
inductive XOk (C : Cy) : List ExceptHandler → List XC → List Value → Prop
  | nil : XOk C [] [] []
  | cons {x n : Str} {q : XC} {e : Expr} {p1 p2 p3 : Pos} {hds : List ExceptHandler} {l : List XC} {c : Value} {cs : List Value} (at_ : C.X.N[q.i]? = some n) (loc : C.X.env.scope.names.lookup n = some .local) (kd : C.X.env.kindOf n = some .local) (cn : Names C.X x c)
      (em : ∀ k b, q.em k = some b → PySem.W.exmOne C.X.K (.ref (C.ca k)) c = some b)
      (su : ∀ (ea : Addr) (ob : Obj) (cls : Value) (d : Option Addr) (pn : List (Addr × Obj)), Sx C q.i n ea ob cls d → EvX C q.i ea ob pn cls d e q.g) (rest : XOk C hds l cs) :
      XOk C (.ExceptHandler (some (.Name x p1)) (some n) [.Return (some e) p3] p2 :: hds) (q :: l) (c :: cs)
section
variable {C : Cy} {k : Nat}
def clOf (C : Cy) (c : Value) (q : XC) : Cl := ⟨c, q.i, fun ea cls d D σ H => rdX C q.i ea cls d (fun F t x => Rep C.G F t x) q.g σ H D.rt⟩
theorem XOk.to (B : Bod C k) {hds : List ExceptHandler} {l : List XC} {cs : List Value} (h : XOk C hds l cs) : ClsOk C.X hds (cs.zipWith (clOf C) l) := by
  induction h with
  | nil => exact .nil
  | cons at_ loc kd cn em su rest ih =>
    refine .cons at_ kd cn (fun ea ob cls d pn zc dat => ?_) ih
    exact pss_one (ps_ret (su ea ob cls d pn ⟨B.grd, B.rm, at_, loc, zc, dat⟩))
/-- from what try asks to what its clauses ask -/
theorem tryC_ask {Tm : Amb} {F : Hp} {D : Ends} {hds : List ExceptHandler} {l : List XC} {cs : List Value} (hk : XOk C hds l cs) {ci : Nat} {fs : List (Str × T)} {env : Env} (q : AtS C Tm F D (tryC ci fs env l)) (d : Addr) (σ : St) (F' H : Hp) (vs : List (Str × V)) (le : Le F F') (S : Sok C.G Tm F' H σ env) (hx : H d = some (.xd vs)) (rf : RepF C.G F' fs vs) :
    askC C.X.K C.W D (cs.zipWith (clOf C) l) (.ref (C.ca ci)) (some d) σ H := by
  induction hk with
  | nil => exact q d σ F' H vs le S hx rf
  | @cons x n qx e p1 p2 p3 hds l c cs at_ loc kd cn em su rest ih =>
    simp only [tryC] at q
    cases ee : qx.em ci with
    | none =>
      rw [ee] at q
      exact q.elim
    | some b =>
      rw [ee] at q
      refine ⟨b, em ci b ee, fun hb ea na => ?_, fun hb => ?_⟩
      · subst hb
        dsimp only at q
        by_cases hl : qx.i < env.length
        case neg =>
          rw [if_neg hl] at q
          exact q.elim
        rw [if_pos hl] at q
        cases eg : qx.g ci fs with
        | none =>
          rw [eg] at q
          exact q.elim
        | some t =>
          rw [eg] at q
          have hi : qx.i < σ.length := by rw [S.len]; exact hl
          refine ⟨Tm, F', env, σ, ci, fs, d, vs, t, rfl, rfl, List.getElem?_set_self hi, S, hx, rf, eg, fun y F2 H2 le2 S2 _ ry => ?_⟩
          exact q y σ F2 H2 (le.trans le2) S2 ry
      · subst hb
        exact ih q
theorem e_try {body : List Stmt} {b : SM} {hd : ExceptHandler} {hds : List ExceptHandler} {l : List XC} {cs : List Value} {pos : Pos} (B : Bod C k) (nd : C.X.N.Nodup)
    (hb : ∀ (W : WX) (pn : List (Addr × Obj)) (wish : Value → Shared → Prop), Bod ⟨C.X.tr pn wish, C.ca, W⟩ k → EvSs ⟨C.X.tr pn wish, C.ca, W⟩ body b) (hk : XOk C (hd :: hds) l cs) : EvS C (.Try body (hd :: hds) [] [] pos) (tryS b l) := by
  refine ps_imp (try_clauses (tb := fun W => tS ⟨C.X, C.ca, W⟩ b) B.stk B.frm nd B.tk (fun W pn wish tk own => hb W pn wish ⟨B.room, B.grd, tk, own, B.calm, B.stk, B.frm⟩) (hk.to B)) fun D σ H ⟨Tm, F, env, S, q⟩ => ⟨Tm, F, env, S, ?_⟩
  unfold tryS at q
  cases eb : b env with
  | nx e => rw [eb] at q; exact q
  | rt r e => rw [eb] at q; exact q
  | bk e => rw [eb] at q; exact q
  | ct e => rw [eb] at q; exact q
  | no => rw [eb] at q; exact q
  | ex ci fs e =>
    rw [eb] at q
    exact fun d σ' F' H' vs le S' hx rf => tryC_ask hk q d σ' F' H' vs le S' hx rf
end
end Ev
/-! Ev19: a, *b = t. -/
namespace Ev
open PySem PySem.Spec L2
section
variable {prog : Program} {w : World} {A : Around} {E : Value → Shared → Prop} {s : Shared}
/-- what is left of a walk is a walk -/
theorem walk_rest {I : Addr} {fp wr : List Addr} {G : Array GenState → Array GenState → Prop} {n : Nat} {P : Nat → Value → Prop} {St : Nat → Shared → Prop} (W : WalksS prog w A I fp wr G n P St) (k : Nat) (hk : k ≤ n) :
    WalksS prog w A I fp wr G (n - k) (fun i => P (k + i)) (fun i => St (k + i)) where
  sub := W.sub
  grefl := W.grefl
  gtrans := W.gtrans
  frame := fun i => W.frame (k + i)
  item := fun i s Q E hi st hQ => W.item (k + i) s Q E (by omega) st fun v s' p t => hQ v s' p (by rw [Nat.add_assoc] at t; exact t)
  done := fun s Q E st hQ => W.done s Q E (by rw [show k + (n - k) = n by omega] at st; exact st) hQ
  self := fun i => W.self (k + i)
theorem items_drop {items acc : Array Value} {k n : Nat} (hn : n = items.size - k) (h : ItemsOf (fun i v => items[k + i]? = some v) acc n) : acc.toList = items.toList.drop k := by
  apply List.ext_getElem?
  intro i
  rw [Array.getElem?_toList, List.getElem?_drop, Array.getElem?_toList]
  by_cases h1 : i < n
  · have h2 : i < acc.size := by rw [h.1]; exact h1
    have e : acc[i]? = some acc[i] := Array.getElem?_eq_getElem h2
    rw [e]
    exact (h.2 i _ e).symm
  · rw [Array.getElem?_eq_none (by rw [h.1]; omega), Array.getElem?_eq_none (by omega)]
/-- one starred target among n, at i: what is drawn of a tuple -/
theorem unpack_star {t : Addr} {items : Array Value} {n i : Nat} {Q : List Value → Shared → Prop} (hh : A.handled = none) (ht : PyProof.Rows.IsTup s.heap t items) (hi : i ≤ n - 1) (hz : n - 1 ≤ items.size) (hs : items.size ≤ sizeLine)
    (hQ : ∀ (h' : Heap) (tk : Nat), s.toks ≤ tk → (∀ b o, s.heap.get? b = some o → h'.get? b = some o) →
      Q (items.toList.take i ++ [.ref h'.objs.size] ++ (items.toList.drop i).drop ((items.toList.drop i).length - (n - 1 - i))) { s with heap := h'.push { cls := .type "list", data := .seq ((items.toList.drop i).take ((items.toList.drop i).length - (n - 1 - i))).toArray }, toks := tk }) :
    wpAny (model prog w) A (unpackItems (.ref t) n (some i)) Q E s := by
  have hlt : t ≠ s.heap.objs.size := by obtain ⟨o, ho, _⟩ := ht; exact Nat.ne_of_lt (Heap.lt_size ho)
  have hlt' : t < s.heap.objs.size := by obtain ⟨o, ho, _⟩ := ht; exact Heap.lt_size ho
  unfold unpackItems
  refine wpAny_bind ?_
  unfold notIterableAtAll
  refine wpAny_bind (wpAny_specialOf ht.typeIs PyProof.Rows.slot_tuple_iter.lookup ?_)
  refine wpAny_pure ?_
  simp only [Bool.false_eq_true, if_false]
  refine wpAny_bind (wpAny_holding (PyProof.Rows.iter_tuple ht ?_))
  refine wpAny_bind (wpAny_holding (PyProof.Rows.draw_tuple hlt i 0 _ _ ⟨_, Heap.get?_push_size _ rfl, rfl, rfl⟩ (ht.push _) (by omega) fun h1 it1 sb1 => ?_))
  rw [List.drop_zero]
  have lt_ : (items.toList.take i).length = i := by simp; omega
  rw [if_neg (by rw [lt_]; omega)]
  have t1 : PyProof.Rows.IsTup h1 t items := (ht.push _).extBut sb1.extBut hlt
  rw [Nat.zero_add] at it1
  have sz1 : s.heap.objs.size < h1.objs.size := by
    obtain ⟨o, ho, _⟩ := it1
    exact Heap.lt_size ho
  have keep1 : ∀ b o, s.heap.get? b = some o → h1.get? b = some o := fun b o e => sb1.extBut b o (Nat.ne_of_lt (Heap.lt_size e)) (Heap.get?_push_of_some _ e)
  have W := walk_rest ((Walks.tuple (prog := prog) (w := w) (A := A.in1) hh s.heap.objs.size t hlt items).toS) i (by omega : i ≤ items.size)
  refine wpAny_bind (wpAny_holding (wpAny_collect_iter (s := { s with heap := h1 }) (.inr (.inr (.inr rfl))) W (fun j s' st => st.1.typeIs) ⟨by rw [Nat.add_zero]; exact it1, t1⟩ (fun b hb => ?_) (by simp) (fun s2 acc mv ac => ?_) (by show _ ≤ sizeLine; omega)))
  · rcases List.mem_cons.mp hb with rfl | hb
    · exact sz1
    · rcases List.mem_cons.mp hb with rfl | hb
      · exact Nat.lt_trans hlt' sz1
      · cases hb
  have ea := items_drop rfl ac
  rw [ea]
  have lr : (items.toList.drop i).length = items.size - i := by simp
  rw [if_neg (by rw [lr]; omega)]
  have keep2 : ∀ b o, s.heap.get? b = some o → s2.heap.get? b = some o := fun b o e => mv.heap b o (by
    intro hb
    rcases List.mem_cons.mp hb with rfl | hb
    · exact Nat.lt_irrefl _ (Heap.lt_size e)
    · cases hb) (keep1 b o e)
  refine wpAny_bind (wpAny_newList ?_ (by
    rw [List.length_take, lr]
    omega))
  refine wpAny_pure ?_
  obtain ⟨h2, g2, d2, tk2, os2⟩ := s2
  have e1 : g2 = s.gens := mv.gens
  have e2 : d2 = s.drawn := mv.drawn
  have e3 : os2 = s.os := mv.os
  subst e1 e2 e3
  exact hQ h2 tk2 mv.toks keep2
end
/-- a starred target among n, at i; the others by t -/
def gStar (K : PySem.W.Frag) (n i : Nat) (t : TGs) : TG := fun v σ H Q => ∃ a xs, v = .ref a ∧ SqT K H a xs ∧ n - 1 ≤ xs.length ∧ ∀ p, H p = none →
  t (xs.take i ++ [.ref p] ++ (xs.drop i).drop ((xs.drop i).length - (n - 1 - i))) σ (upd H p (.lst ((xs.drop i).take ((xs.drop i).length - (n - 1 - i))))) Q
theorem vals_take {vs : List V} {us : List Value} (h : Vals vs us) (k : Nat) : Vals (vs.take k) (us.take k) := by
  induction h generalizing k with
  | nil => simp; exact .nil
  | cons a b ih =>
    cases k with
    | zero => simp; exact .nil
    | succ k => simpa using .cons a (ih k)
theorem vals_drop {vs : List V} {us : List Value} (h : Vals vs us) (k : Nat) : Vals (vs.drop k) (us.drop k) := by
  induction h generalizing k with
  | nil => simp; exact .nil
  | cons a b ih =>
    cases k with
    | zero => simpa using .cons a b
    | succ k => simpa using ih k
theorem pg_star {X : Cx} {es fs : List Expr} {k n i : Nat} {pos : Pos} {t : TGs} (hc : X.calm = true) (h : PGs X fs t) (hn : (assignEach es X.env).length = n) (hst : (assignEach es X.env).findIdx? (·.1) = some i) (hi : i ≤ n - 1)
    (hm : (assignEach es X.env).map (·.2) = (assignEach fs X.env).map (·.2)) : PG X (.Tuple es k pos) (gStar X.K n i t) := by
  refine ⟨fun pins s σ H v u Q I r hw => ?_⟩
  obtain ⟨a, xs, e1, hq, hl, hw⟩ := hw
  subst e1
  cases r
  obtain ⟨its, rv, ht, hz⟩ := I.tuple hq
  have ll := rv.length
  rw [PyProof.Rows.assign_Tuple]
  refine wpAny_bind (wpAny_standAt ?_)
  unfold unpack
  rw [hn, hst]
  refine wpAny_bind (wpAny_holding (unpack_star (I.ok.hd hc) ht hi (by simp; omega) (by simp; omega) fun h' tk htk keep => ?_))
  have I1 : Inv X pins σ H { s with heap := h', toks := tk } := I.kept (t' := tk) keep
  have I2 := I1.laid (t' := tk) (a := h'.objs.size) (o := .lst ((xs.drop i).take ((xs.drop i).length - (n - 1 - i)))) (h' := h'.push { cls := .type "list", data := .seq ((its.drop i).take ((its.drop i).length - (n - 1 - i))).toArray }) (fun b u e => Heap.get?_push_of_some _ e) (Nat.le_refl _)
    ⟨by rw [List.length_take, List.length_drop]; omega, (its.drop i).take ((its.drop i).length - (n - 1 - i)), 0, by
      have e : (xs.drop i).length = (its.drop i).length := by rw [List.length_drop, List.length_drop, ll]
      rw [e]
      exact vals_take (vals_drop rv i) _, Heap.get?_push_size _ rfl⟩
  rw [hm]
  refine h.run pins _ σ _ _ _ Q I2 ?_ (hw _ (I1.hok.fresh (Nat.le_refl _)))
  have e : (xs.drop i).length = (its.drop i).length := by rw [List.length_drop, List.length_drop, ll]
  rw [e]
  have one : Vals [V.ref h'.objs.size] [Value.ref h'.objs.size] := .cons rfl .nil
  exact ((vals_take rv i).append one).append (vals_drop (vals_drop rv i) _)
/-- .. as a statement -/
def starS (m : M T) (n i : Nat) (g : TMs) : SM := exprS m fun t env => match t with
  | .tup ts => if n - 1 ≤ ts.length then (match g (ts.take i ++ [.lst ((ts.drop i).take ((ts.drop i).length - (n - 1 - i)))] ++ (ts.drop i).drop ((ts.drop i).length - (n - 1 - i))) env with
    | some e => .nx e
    | none => .no) else .no
  | _ => .no
section
variable {C : Cy} {es fs : List Expr} {e : Expr} {k n i : Nat} {p pos : Pos} {m : M T} {js : List Nat} {g : TMs}
theorem e_star (hc : C.X.calm = true) (h : EvT C e m) (hg : EvGs C fs js g) (hn : (assignEach es C.X.env).length = n) (hst : (assignEach es C.X.env).findIdx? (·.1) = some i) (hi : i ≤ n - 1) (hm : (assignEach es C.X.env).map (·.2) = (assignEach fs C.X.env).map (·.2))
    (hs : swapsWithSole [.Tuple es k p] e pos.line C.X.env = pure false := by rfl) (hw : swappedStores [.Tuple es k p] e C.X.env = pure none := by rfl) : EvS C (.Assign [.Tuple es k p] e pos) (starS m n i g) := by
  refine ps_imp (ps_asg h (pg_star hc hg hn hst hi hm) hs hw rfl) fun D σ H ⟨Tm, F, env, S, q⟩ => ⟨Tm, F, env, S, ?_⟩
  refine AtS.expr q fun t env1 x F1 H1 le1 S1 r1 q1 => ?_
  cases t <;> first | exact q1.elim | skip
  rename_i ts
  obtain ⟨a, xs, ex, hq, rl⟩ := rep_tup r1
  have ll := rl.length
  dsimp only at q1
  by_cases hl : n - 1 ≤ ts.length
  case neg =>
    rw [if_neg hl] at q1
    exact q1.elim
  rw [if_pos hl] at q1
  refine ⟨a, xs, ex, S1.sqT hq, by omega, fun p np => ?_⟩
  have ed : (xs.drop i).length = (ts.drop i).length := by rw [List.length_drop, List.length_drop, ll]
  rw [ed]
  have le2 := Le.upd (o := .lst ((xs.drop i).take ((ts.drop i).length - (n - 1 - i)))) (S1.new np).1
  have S2 := S1.allocF (o := .lst ((xs.drop i).take ((ts.drop i).length - (n - 1 - i)))) np
  cases eg : g (ts.take i ++ [.lst ((ts.drop i).take ((ts.drop i).length - (n - 1 - i)))] ++ (ts.drop i).drop ((ts.drop i).length - (n - 1 - i))) env1 with
  | none =>
    rw [eg] at q1
    exact q1.elim
  | some env2 =>
    rw [eg] at q1
    refine ⟨Tm, _, env1, _, env2, S2, ?_, eg, fun σ' S' _ => q1 σ' _ _ le2 S'⟩
    have rl2 := RepL.mono le2 _ rl
    refine ((rl2.take i).append (.cons ?_ .nil)).append ((rl2.drop i).drop _)
    simp only [Rep]
    exact ⟨p, _, rfl, .inl (.inl upd_same), (rl2.drop i).take _⟩
end
end Ev
/-! Ev20: enumerate, append, in. -/
namespace Ev
open PySem PySem.Spec L2
/-! ### enumerate -/
def enumT (ts : List T) : List T := ts.zipIdx.map fun p => .tup [.int (p.2 : Nat), p.1]
theorem enumT_len (ts : List T) : (enumT ts).length = ts.length := by simp [enumT]
theorem enumT_get (ts : List T) (i : Nat) : (enumT ts)[i]? = (ts[i]?).map fun t => .tup [.int (i : Nat), t] := by
  unfold enumT
  rw [List.getElem?_map, List.getElem?_zipIdx]
  cases ts[i]? <;> simp
theorem wk_enum {G : Gr} {F : Hp} {a : Addr} {xs : List V} {ts : List T} (h : LstAt G.K F a xs) (r : RepL G F ts xs) : Wk G (Ite G.K a) (enumT ts) F [] := by
  refine ⟨fun i Tm F2 H σ env hi le S _ => ?_, fun i Tm F2 H σ env x H' hi le S _ y => ?_, fun Tm F2 H σ env le S _ => ?_⟩
  · rw [enumT_len] at hi
    obtain ⟨x, hx, _⟩ := r.get (List.getElem?_eq_getElem hi)
    exact ⟨xs, x, (S.lstAt (le.lstAt h)).sq, hx⟩
  · rw [enumT_len] at hi
    obtain ⟨p, x, ev, np, eh, hx⟩ := y
    subst ev eh
    have hx' := hx xs (S.lstAt (le.lstAt h)).sq
    obtain ⟨t, ht, rt⟩ := r.getV hx'
    have le2 := Le.upd (o := .tup [.int (i : Nat), x]) (S.new np).1
    refine ⟨_, .tup [.int (i : Nat), t], le2, S.allocF np, by rw [enumT_get, ht]; rfl, ?_, fun b o e => by rw [upd_ne (ne_of_none e np)]; exact e⟩
    simp only [Rep]
    exact ⟨p, _, rfl, .inl (.inl upd_same), .cons (mk_int _) (.cons (Rep.mono (le.trans le2) t rt) .nil)⟩
  · exact ⟨xs, (S.lstAt (le.lstAt h)).sq, by rw [r.length, enumT_len]; exact Nat.le_refl _⟩
section
variable {C : Cy} {e o : Expr} {elts : List Expr} {kk : Nat} {p pos apos cpos tpos : Pos} {f : M T} {g : M Rv}
def enT : List T → Option (List T)
  | [.lst ts] => some (enumT ts)
  | _ => none
theorem ei_enum {f : M (List T)} (hg : Gl C.X "enumerate") (hm : C.X.mg "enumerate" = none) (ha : EvA C [e] f) (hs : starEach [e] C.X.env = [(false, eval e C.X.env)] := by rfl) :
    EvI C (.Tuple elts kk tpos) (.Call (.Name "enumerate" p) [e] [] pos) (M.bind f fun ts => M.of (enT ts)) := by
  refine pi_imp (pi_enum hg hm ha hs) fun σ H R ⟨Tm, F, env, S, q⟩ => ⟨Tm, F, env, S, ?_⟩
  refine At.bind (R' := WkR C.G []) (Q' := R) q fun ts env1 xs F1 H1 le1 S1 r1 q1 => of_some q1 fun us hus q2 => ?_
  unfold enT at hus
  split at hus
  case h_2 => cases hus
  cases hus
  obtain ⟨x, r, ex, h1, h2⟩ := r1.uncons
  obtain ⟨a, ys, ey, hq, rl⟩ := rep_lst h1
  exact ⟨a, ys, by rw [ex, h2.unnil, ey], (S1.lstAt hq).sq, q2 _ F1 H1 Le.rfl S1 (wk_enum hq rl)⟩
/-! ### in: a text in a row of texts -/
def inT : T → T → Option Bool
  | .str s, .tup us => (asStrs us).map fun ys => ys.any (· == s)
  | .str s, .lst us => (asStrs us).map fun ys => ys.any (· == s)
  | _, _ => none
def ninT (t u : T) : Option Bool := (inT t u).map not
theorem asStrs_rep {G : Gr} {F : Hp} : ∀ {ts : List T} {xs : List V} {ys : List Str}, asStrs ts = some ys → RepL G F ts xs → xs = ys.map V.str
  | [], xs, ys, e, r => by cases e; exact r.unnil
  | t :: ts, xs, ys, e, r => by
    cases t <;> first | (cases e; done) | skip
    rename_i z
    obtain ⟨zs, e1, e2⟩ := Option.map_eq_some_iff.mp (show (asStrs ts).map (z :: ·) = some ys from e)
    subst e2
    obtain ⟨x, r', ex, h1, h2⟩ := r.uncons
    rw [ex, rep_str h1, asStrs_rep e1 h2]
    rfl
theorem flat_strs (ys : List Str) : (ys.map V.str).all flatV = true := by
  induction ys with
  | nil => rfl
  | cons y ys ih => rw [List.map_cons, List.all_cons, ih]; rfl
theorem inV_strs (s : Str) (ys : List Str) : inV (.str s) (ys.map V.str) = ys.any (· == s) := by
  unfold inV
  rw [List.any_map]
  rfl
theorem in_row {Tm : Amb} {F H : Hp} {σ : St} {env : Env} {x y : V} {t u : T} {w : Bool} (S : Sok C.G Tm F H σ env) (p1 : Pk C.G F H t x) (p2 : Pk C.G F H u y) (hw : inT t u = some w) : ∃ p xs, y = .ref p ∧ (SqL C.X.K H p xs ∨ SqT C.X.K H p xs) ∧ flatV x = true ∧ xs.all flatV = true ∧ inV x xs = w := by
  cases t <;> first | (cases hw; done) | skip
  rename_i s
  have ex := pk_str p1
  subst ex
  cases u <;> first | (cases hw; done) | skip
  · rename_i us
    obtain ⟨ys, e1, e2⟩ := Option.map_eq_some_iff.mp hw
    obtain ⟨a, xs, ey, hq, rl⟩ := pk_tup S p2
    have e3 := asStrs_rep e1 rl
    subst e3
    exact ⟨a, _, ey, .inr hq, rfl, flat_strs ys, by rw [inV_strs]; exact e2⟩
  · rename_i us
    obtain ⟨ys, e1, e2⟩ := Option.map_eq_some_iff.mp hw
    obtain ⟨a, xs, ey, hq, rl⟩ := pk_lst S p2
    have e3 := asStrs_rep e1 rl
    subst e3
    exact ⟨a, _, ey, .inl hq.sq, rfl, flat_strs ys, by rw [inV_strs]; exact e2⟩
theorem ok_in : CmpOk C .In inT := by
  refine ⟨_, op_in_seq, fun {Tm F H σ env x y t u w Q} S p1 p2 hw q => ?_⟩
  obtain ⟨p, xs, e1, e2, e3, e4, e5⟩ := in_row S p1 p2 hw
  refine ⟨p, xs, e1, e2, e3, e4, ?_⟩
  rw [if_neg (by decide), e5]
  exact q
theorem ok_nin : CmpOk C .NotIn ninT := by
  refine ⟨_, op_notIn_seq, fun {Tm F H σ env x y t u w Q} S p1 p2 hw q => ?_⟩
  obtain ⟨b, hb, e0⟩ := Option.map_eq_some_iff.mp hw
  obtain ⟨p, xs, e1, e2, e3, e4, e5⟩ := in_row S p1 p2 hb
  refine ⟨p, xs, e1, e2, e3, e4, ?_⟩
  rw [if_pos rfl, e5, e0]
  exact q
/-! ### xs.append(v) -/
def appK (j : Nat) (t : T) : M Rv := fun env => match env[j]? with
  | some (.ow (.lst ts)) => if ts.length < sizeLine then (match chO j (.lst (ts ++ [t])) env with
    | some e => .ok (.fz .non) e
    | none => .no) else .no
  | some (.io (.lst ts)) => if ts.length < sizeLine then (match chO j (.lst (ts ++ [t])) env with
    | some e => .ok (.fz .non) e
    | none => .no) else .no
  | _ => .no
/-- a slot's own list -/
def isLs (env : Env) (j : Nat) : Bool := match env[j]? with
  | some (.ow (.lst _)) => true
  | some (.io (.lst _)) => true
  | _ => false
def appM (g : M Rv) (f : M T) : M Rv := M.bind g fun r => match r with
  | .bo j => fun env => if isLs env j = true then (M.bind f fun t => appK j t) env else .no
  | _ => M.no
theorem own_lst {Tm : Amb} {F H : Hp} {σ : St} {env : Env} {j : Nat} {ts : List T} {x : V} (S : Sok C.G Tm F H σ env) (ow : OwnAt env j (.lst ts)) (hx : σ[j]? = some (some x)) : ∃ a xs, x = .ref a ∧ H a = some (.lst xs) ∧ RepL C.G F ts xs := by
  obtain ⟨s, es, k⟩ := ow.get
  obtain ⟨z, hz, ok⟩ := S.slot j _ es
  obtain ⟨a, o, ez, ha, _, xs, eo, rl⟩ := ok.own k
  subst eo
  rw [hx] at hz
  cases hz
  cases ez
  exact ⟨a, xs, rfl, ha, rl⟩
theorem ev_app (ho : EvE C o g) (he : EvT C e f) (hs : starEach [e] C.X.env = [(false, eval e C.X.env)] := by rfl) (hbase : attributeBase o "append" C.X.env (eval o C.X.env) = eval o C.X.env := by rfl) (hline : (apos.endLine == cpos.line) = true := by rfl)
    (hfew : ((backTo cpos (starEach [e] C.X.env)).all (fun x => !x.1) && (backToKw cpos (keywordEach [] C.X.env)).all (fun x => x.1.isSome) && decide (([e] : List Expr).length + ([] : List Keyword).length + (if ([] : List Keyword).isEmpty then 0 else 1) < 30)) = true := by rfl) :
    EvE C (.Call (.Attribute o "append" apos) [e] [] cpos) (appM g f) := by
  have ha : EvA C [e] (consM f (M.pure [])) := ea_cons he ea_nil hs
  refine pe_imp (pe_bm PySem.F.plainAttrs_list PySem.F.slot_list_append PySem.F.type_list_append mt_append ho ha hbase hfew hline hs rfl) fun σ H Q ⟨Tm, F, env, S, q⟩ => ⟨Tm, F, env, S, ?_⟩
  refine At.bind (R' := RvR C.G) (Q' := Q) q fun r env1 x F1 H1 le1 S1 r1 q1 => ?_
  cases r with
  | fz t => exact q1.elim
  | ow t => exact q1.elim
  | bo j =>
    obtain ⟨hx, t0, ot⟩ := r1
    replace q1 : At C (RvR C.G) Tm F1 σ Q (if isLs env1 j = true then (M.bind f fun t => appK j t) env1 else Out.no) := q1
    by_cases hi : isLs env1 j = true
    case neg =>
      rw [if_neg hi] at q1
      exact q1.elim
    rw [if_pos hi] at q1
    have ol : ∃ ts, OwnAt env1 j (.lst ts) := by
      unfold isLs at hi
      split at hi
      · exact ⟨_, .inl ‹_›⟩
      · exact ⟨_, .inr ‹_›⟩
      · cases hi
    obtain ⟨ts0, ol⟩ := ol
    obtain ⟨a, xs, ex, hl, rl⟩ := own_lst S1 ol hx
    subst ex
    refine ⟨.inl ⟨rfl, xs, .inl (.inl hl)⟩, Tm, F1, env1, S1, ?_⟩
    have q2 : At C (RvR C.G) Tm F1 σ Q ((f env1).bind fun t => appK j t) := q1
    show At C (TLR C.G) Tm F1 σ _ ((f env1).bind fun t => M.bind (M.pure []) fun ts => M.pure (t :: ts))
    cases ef : f env1 with
    | no =>
      rw [ef] at q2
      exact q2.elim
    | ex c fs e1 =>
      rw [ef] at q2
      exact q2
    | ok t env2 =>
      rw [ef] at q2
      have q3 : At C (RvR C.G) Tm F1 σ Q (appK j t env2) := q2
      intro ys F2 H2 le2 S2 r2
      obtain ⟨y, r', ey, ry, rn⟩ := RepL.uncons r2
      have en := rn.unnil
      subst en ey
      have go : ∀ {ts : List T}, OwnAt env2 j (.lst ts) → At C (RvR C.G) Tm F1 σ Q (if ts.length < sizeLine then (match chO j (.lst (ts ++ [t])) env2 with
          | some e => .ok (.fz .non) e
          | none => .no) else .no) → rAppend (.ref a) [y] H2 Q := fun {ts} ow q4 => by
        by_cases hz : ts.length < sizeLine
        case neg =>
          rw [if_neg hz] at q4
          exact q4.elim
        rw [if_pos hz] at q4
        obtain ⟨a2, zs, e2, hl2, rl2⟩ := own_lst S2 ow hx
        cases e2
        refine ⟨a, zs, y, rfl, rfl, hl2, by rw [rl2.length]; exact hz, ?_⟩
        cases ec : chO j (.lst (ts ++ [t])) env2 with
        | none =>
          rw [ec] at q4
          exact q4.elim
        | some e3 =>
          rw [ec] at q4
          exact q4 .non F2 _ le2 (S2.chO (t := .lst (ts ++ [t])) hx ⟨_, rfl, rl2.append (.cons ry .nil)⟩ ec) mk_non
      unfold appK at q3
      cases es : env2[j]? with
      | none =>
        rw [es] at q3
        exact q3.elim
      | some s =>
        rw [es] at q3
        cases s with
        | un => exact q3.elim
        | fz t => exact q3.elim
        | ow t =>
          cases t <;> first | exact q3.elim | skip
          exact go (.inl es) q3
        | io t =>
          cases t <;> first | exact q3.elim | skip
          exact go (.inr es) q3
end
end Ev
/-! Ev21: != by an own __eq__; isinstance of an own class; an instance made by keywords. -/
namespace Ev
open PySem PySem.Spec L2
section
variable {prog : Program} {w : World} {A : Around} {E : Value → Shared → Prop} {s : Shared} {K : PySem.W.Frag} {x D f : Addr} {ox : Obj} {od : Option Obj} {b : Value}
/-- object's __ne__, called: the own __eq__ turned about -/
theorem ne_entry (X : K.In s.heap) (J : PySem.W.InstAt s.heap x ox D od) (hs : PySem.W.findIn K (.ref D) "__eq__" = some (some (.ref f))) (hf : PySem.W.isFn K (.ref f) = true) (hu : A.units < cLine) {Q : Fin → Shared → Prop}
    (h : wpAny (model prog w) A (call (.ref f) [.ref x, b]) (fun v s' => ∃ r, v = .bool r ∧ Q (.done (.ret (.bool (!r)))) s') E s) : wpAny (model prog w) A (Builtin.«object.__ne__» ⟨[.ref x, b], []⟩) Q E s := by
  unfold Builtin.«object.__ne__»
  repeat (first
    | with_reducible refine wpAny_cRoomFor hu ?_
    | (refine wpAny_bind (m := callSpecialIfBound? (.ref x) (Str.ofString "__eq__") [b]) (PySem.W.ifBound_K X J hs hf (wpAny_mono h (fun v s' hv => by
        obtain ⟨r, rfl, hq⟩ := hv
        repeat (first | exact hq | exact wpAny_pure hq | exact wpAny_truthy_bool hq | (refine wpAny_bind (m := truthy (.bool _)) (wpAny_truthy_bool ?_)) | wp_step)) fun _ _ z => z)))
    | wp_step)
theorem ask_bltn {M : Model} {name : Str} {id : String} {args : List Value} {Q : Option Value → Shared → Prop} (X : K.In s.heap) (J : PySem.W.InstAt s.heap x ox D od) (hs : PySem.W.findIn K (.ref D) name = some (some (.builtin id))) (hb : ∀ self, bindSpecial (.builtin id) self = pure (.builtin id, [self]))
    (h : wpAny M A (call (.builtin id) (.ref x :: args)) (fun v => Q (some v)) E s) : wpAny M A (callSpecialIfBound? (.ref x) name args) Q E s := by
  have run : wpAny M A (do let v ← call (.builtin id) ([.ref x] ++ args); pure (some v)) Q E s := wpAny_bind (wpAny_mono h (fun _ _ z => wpAny_pure z) fun _ _ z => z)
  simp only [callSpecialIfBound?, bindSpecialIfBound?]
  apply wpAny_holding; apply wpAny_bind; apply wpAny_bind; apply wpAny_bind
  apply J.type.here; apply (PySem.W.looks_findIn X hs).here
  apply wpAny_bind; apply wpAny_askSetting; apply wpAny_ite
  simp only [hb]
  split
  · exact wpAny_bind (wpAny_pure (wpAny_pure (by exact run)))
  · exact wpAny_tryCatch (wpAny_bind (wpAny_pure (wpAny_pure (by exact run))))
theorem ne_asked (X : K.In s.heap) (J : PySem.W.InstAt s.heap x ox D od) (hn : PySem.W.findIn K (.ref D) "__ne__" = some (some (.builtin "object.__ne__"))) (ho : PySem.W.subIn K (.ref D) (.type "object") = some true)
    (hs : PySem.W.findIn K (.ref D) "__eq__" = some (some (.ref f))) (hf : PySem.W.isFn K (.ref f) = true) (hu : A.units + 1 < cLine) {Q : Value → Shared → Prop}
    (h : wpAny (model prog w) A.in1 (call (.ref f) [.ref x, b]) (fun v s' => ∃ r, v = .bool r ∧ Q (.bool (!r)) s') E s) :
    wpAny (model prog w) A (tryCompare (.ref x) "__ne__" b) (fun r s' => ∃ v, r = some v ∧ Q v s') E s := by
  unfold tryCompare
  apply wpAny_bind
  apply ask_bltn X J hn F.cmp_object.ne.bind
  apply wpAny_call
  apply codeAny_call_builtin F.cmp_object.ne.plain F.cmpEntry_ne
  refine PySem.W.check_slot F.cmpKind_ne F.cmpSplit_ne ?_ (F.cmpArgs_ne _ _) (ne_entry (A := A.in1) X J hs hf hu (wpAny_mono h (fun v s' hv => ?_) fun _ _ z => z))
  · exact (J.type).andThen (PySem.W.looks_subIn X ho)
  · obtain ⟨r, rfl, hq⟩ := hv
    first | exact ⟨r, rfl, wpAny_pure ⟨_, rfl, hq⟩⟩ | exact ⟨r, rfl, wpAny_pure (wpAny_pure ⟨_, rfl, hq⟩)⟩
theorem ne_run {tb : Value} (X : K.In s.heap) (J : PySem.W.InstAt s.heap x ox D od) (hb : PySem.W.Looks (model prog w) s.heap (typeOf b) tb) (hnf : PySem.W.notFirst K D tb = true) (hn : PySem.W.findIn K (.ref D) "__ne__" = some (some (.builtin "object.__ne__")))
    (ho : PySem.W.subIn K (.ref D) (.type "object") = some true) (hs : PySem.W.findIn K (.ref D) "__eq__" = some (some (.ref f))) (hf : PySem.W.isFn K (.ref f) = true) (hu : A.units + 1 < cLine) {Q : Value → Shared → Prop}
    (h : wpAny (model prog w) A.in1 (call (.ref f) [.ref x, b]) (fun v s' => ∃ r, v = .bool r ∧ Q (.bool (!r)) s') E s) : wpAny (model prog w) A (richCompare .NotEq (.ref x) b) Q E s := by
  have asked := ne_asked (A := A) X J hn ho hs hf hu h
  have last : wpAny (model prog w) A (tryCompare (.ref x) "__ne__" b) (fun r s' => ∃ v, r = some v ∧ wpAny (model prog w) A (pure v : Sem Value) Q E s') E s := wpAny_mono asked (fun r s' ⟨v, e, q⟩ => ⟨v, e, wpAny_pure q⟩) fun _ _ z => z
  unfold richCompare
  simp only [oneThing_ref]
  apply wpAny_holding; apply wpAny_bind; refine wpAny_cRoomFor (Nat.lt_of_succ_lt hu) ?_
  apply wpAny_bind; apply J.type.here; apply wpAny_bind; apply hb.here
  split
  case isTrue q =>
    have sub : PySem.W.subIn K tb (.ref D) = some false := (Bool.or_eq_true_iff.mp hnf).elim (fun z => by rw [beq_iff_eq.mp z] at q; simp at q) beq_iff_eq.mp
    apply wpAny_bind; apply (PySem.W.looks_subIn X sub).here
    simp only [Bool.false_eq_true, if_false]
    apply wpAny_bind; refine wpAny_mono last (fun r s' z => ?_) fun _ _ z => z
    obtain ⟨v, rfl, hq⟩ := z
    exact hq
  case isFalse q =>
    apply wpAny_bind; apply wpAny_pure
    simp only [Bool.false_eq_true, if_false]
    apply wpAny_bind; refine wpAny_mono last (fun r s' z => ?_) fun _ _ z => z
    obtain ⟨v, rfl, hq⟩ := z
    exact hq
end
/-! ### != -/
section
variable {C : Cy} {k j ci : Nat} {f : Addr} {fd : FuncData} {ps : List Str} {m : Nat} {d : SM}
/-- what the head tells of a class with an own __eq__ besides -/
structure NeF (K : PySem.W.Frag) (D : Addr) : Prop where
  ne : PySem.W.findIn K (.ref D) "__ne__" = some (some (.builtin "object.__ne__"))
  ob : PySem.W.subIn K (.ref D) (.type "object") = some true
theorem op_neOwn (N : NeF C.X.K (C.ca ci)) (hmt : Meth C.X.K (C.ca ci) "__eq__" f) (F : FnC C k f fd ps m d) (B : Bk C j) (hj : k + 1 ≤ j) (hb : Binds C.X.K fd ps []) :
    OpR C.X (compareOp .NotEq) (fun x y H Q => ∃ a dx vs, x = .ref a ∧ H a = some (.ins (C.ca ci) dx vs) ∧ TyR C ci H y ∧ spT C.G ps.length m d [x, y] H (fun v H2 => ∃ b, v = .bl b ∧ Q (.bl (!b)) H2) (fun _ _ _ => False)) := by
  intro pins s σ H x y v u Q I rx ry h
  obtain ⟨a, dx, vs, rfl, ha, ty, hsp⟩ := h
  cases rx
  obtain ⟨mA, J, _⟩ := ins_get I.hok ha
  obtain ⟨od, J, _⟩ := J.look
  have hu : C.X.A.units + 1 < cLine := by have := B.room.un; omega
  have run : wpAny (model C.X.prog C.X.w) C.X.A.in1 (call (.ref f) [.ref a, u]) (fun v s' => ∃ r, v = .bool r ∧ EP C.X pins σ Q (.bool (!r)) s') C.X.xe s := by
    have hl : [Value.ref a, u].length = ps.length := by rw [← hsp.1]; rfl
    have r2 : Vals [V.ref a, y] [Value.ref a, u] := .cons rfl (.cons ry .nil)
    obtain ⟨j', rfl⟩ : ∃ j', j = j' + 1 := ⟨j - 1, by omega⟩
    refine wpAny_call (codeAny_mono ((F.up (by omega : k ≤ j')).go B.room.in1 B.grd I.env0.in1 (by
      have := hb s [.ref a, u] I.kIn (by simpa using hl)
      simpa using this) r2 hsp) fun r s' hq => ?_)
    match r, hq with
    | .error e, hq => exact B.tk _ _ (XE.of_call I (fun _ _ _ z => False.elim z) hq)
    | .ok (.ret w), hq =>
      obtain ⟨z, H', I', rz, b, ez, q⟩ := I.after hq
      subst ez
      cases rz
      exact ⟨b, rfl, .bl (!b), H', I', rfl, q⟩
    | .ok .next, hq => exact False.elim hq
    | .ok .brk, hq => exact False.elim hq
    | .ok .cont, hq => exact False.elim hq
  show wpAny (model C.X.prog C.X.w) C.X.A (richCompare .NotEq (.ref a) u) (EP C.X pins σ Q) C.X.xe s
  cases ty with
  | @bt _ n ty hn =>
    obtain ⟨P, kit, hP, _⟩ := kit_of I ry ty
    exact ne_run I.kIn J (kit.ty _ _ I.kIn hP) hn N.ne N.ob hmt.at_ hmt.fn hu run
  | @same b dy ws hb' =>
    cases ry
    obtain ⟨mB, J', _⟩ := ins_get I.hok hb'
    obtain ⟨od', J', _⟩ := J'.look
    exact ne_run I.kIn J J'.type (by simp [PySem.W.notFirst]) N.ne N.ob hmt.at_ hmt.fn hu run
def neO (ci n : Nat) (d : SM) (m : Nat) (t u : T) : M T := M.bind (eqO ci n d m t u) fun b => match b with
  | .bl b => M.pure (.bl (!b))
  | _ => M.no
theorem ev_neO {a b : Expr} {pos : Pos} {f1 f2 : M T} (N : NeF C.X.K (C.ca ci)) (hmt : Meth C.X.K (C.ca ci) "__eq__" f) (F : FnC C k f fd ps m d) (B : Bk C j) (hj : k + 1 ≤ j) (hm : ps.length ≤ m) (hb : Binds C.X.K fd ps []) (h1 : EvT C a f1) (h2 : EvT C b f2) (hmk : behindInMarks .NotEq b = false) :
    EvT C (.Compare a [.NotEq] [b] pos) (M.bind f1 fun t => M.bind f2 fun u => neO ci ps.length d m t u) := by
  refine pe_imp (pe_cmpR (op_neOwn N hmt F B hj hb) h1 h2 hmk) fun σ H Q ⟨Tm, F0, env, S, q⟩ => ⟨Tm, F0, env, S, ?_⟩
  refine At.bind (R' := TR C.G) (Q' := Q) q fun t env1 x F1 H1 le1 S1 r1 q1 => ⟨Tm, F1, env1, S1, ?_⟩
  refine At.bind (R' := TR C.G) (Q' := Q) q1 fun u env2 y F2 H2 le2 S2 r2 q2 => ?_
  have q3 : At C (TR C.G) Tm F2 σ Q ((eqO ci ps.length d m t u env2).bind fun b => match b with
    | .bl b => M.pure (.bl (!b))
    | _ => M.no) := q2
  unfold eqO at q3
  by_cases hc : isCi ci t = true ∧ okR ci u = true
  case neg =>
    rw [if_neg hc] at q3
    exact q3.elim
  rw [if_pos hc] at q3
  have rt := Rep.mono le2 t r1
  have hi : ∃ a dx vs, x = .ref a ∧ H2 a = some (.ins (C.ca ci) dx vs) := by
    cases t <;> first | (cases hc.1; done) | skip
    rename_i c fs
    have e : c = ci := by simpa [isCi] using hc.1
    subst e
    obtain ⟨a, dx, vs, ex, ha, _⟩ := rep_ins rt
    rcases S2.sub _ _ ha with q | ⟨q, _⟩
    · exact ⟨a, dx, vs, ex, q⟩
    · cases q
  obtain ⟨a, dx, vs, ex, ha⟩ := hi
  refine ⟨a, dx, vs, ex, ha, okR_ty S2 r2 hc.2, ?_⟩
  refine call_sp (C := ⟨C.X, C.ca, fun _ _ _ _ => False⟩) (Q := fun v H2 => ∃ b, v = .bl b ∧ Q (.bl (!b)) H2) hm S2 (as := [.fz t, .fz u]) ⟨x, [y], rfl, rt, y, [], rfl, r2, rfl⟩ ?_
  cases ec : callA ps.length d m [.fz t, .fz u] env2 with
  | no =>
    rw [ec] at q3
    exact q3.elim
  | ex c fs e' =>
    rw [ec] at q3
    exact q3.elim
  | ok r e' =>
    rw [ec] at q3
    cases r with
    | ow t => exact q3.elim
    | bo i => exact q3.elim
    | fz w =>
      cases w <;> first | exact q3.elim | skip
      intro z F' H' le S' rz
      exact ⟨_, rep_bl rz, q3 _ F' H' le S' (mk_bl _)⟩
/-! ### isinstance of an own class -/
structure ClsF (K : PySem.W.Frag) (D : Addr) : Prop where
  cls : Cls K D
  cat : PySem.W.findIn K (.ref D) "__class__" = some (some (.builtin "object.__class__"))
  get : PySem.W.specialIn K (.builtin "object.__class__") "__get__" = some (some (.builtin "getset_descriptor.__get__"))
  tks : PySem.W.takesIn K (.builtin "object.__class__") = some true
  obj : PySem.W.mroIn K D (.type "object") = some true
  kit1 : PySem.W.kitOne K (.ref D) (.ref D) = some true
  kit0 : ∀ n ∈ ["NoneType", "bool", "int", "str", "tuple", "list", "dict"], PySem.W.kitOne K (.type n) (.ref D) = some false
def clsFB (K : PySem.W.Frag) (D : Addr) : Bool :=
  He.eqO (PySem.W.findIn K (.ref D) "__class__") (some (some (.builtin "object.__class__"))) && (He.eqO (PySem.W.specialIn K (.builtin "object.__class__") "__get__") (some (some (.builtin "getset_descriptor.__get__"))) &&
  (decide (PySem.W.takesIn K (.builtin "object.__class__") = some true) && (decide (PySem.W.mroIn K D (.type "object") = some true) && (decide (PySem.W.kitOne K (.ref D) (.ref D) = some true) &&
  (["NoneType", "bool", "int", "str", "tuple", "list", "dict"] : List String).all fun n => decide (PySem.W.kitOne K (.type n) (.ref D) = some false)))))
theorem clsFB_ok {K : PySem.W.Frag} {D : Addr} (c : Cls K D) (h : clsFB K D = true) : ClsF K D := by
  unfold clsFB at h
  obtain ⟨h1, h⟩ := He.ba h
  obtain ⟨h2, h⟩ := He.ba h
  obtain ⟨h3, h⟩ := He.ba h
  obtain ⟨h4, h⟩ := He.ba h
  obtain ⟨h5, h6⟩ := He.ba h
  exact ⟨c, He.eqO_ok h1, He.eqO_ok h2, of_decide_eq_true h3, of_decide_eq_true h4, of_decide_eq_true h5, fun n hn => of_decide_eq_true (List.all_eq_true.mp h6 n hn)⟩
def neFB (K : PySem.W.Frag) (D : Addr) : Bool := He.eqO (PySem.W.findIn K (.ref D) "__ne__") (some (some (.builtin "object.__ne__"))) && decide (PySem.W.subIn K (.ref D) (.type "object") = some true)
theorem neFB_ok {K : PySem.W.Frag} {D : Addr} (h : neFB K D = true) : NeF K D := by
  obtain ⟨h1, h2⟩ := He.ba h
  exact ⟨He.eqO_ok h1, of_decide_eq_true h2⟩
def isoT (ci : Nat) : T → Option Bool
  | .ins c _ => if c = ci then some true else none
  | t => (tyN t).map fun _ => false
def isoM (ci : Nat) (m : M Rv) : M T := M.bind m fun r => M.bind (pk r) fun t => M.bind (M.of (isoT ci t)) fun b => M.pure (.bl b)
theorem tyN_mem {t : T} {n : String} (h : tyN t = some n) : n ∈ ["NoneType", "bool", "int", "str", "tuple", "list", "dict"] := by
  cases t <;> first | (cases h; done) | (cases h; decide)
theorem ev_iso {n : Str} {p p2 pos : Pos} {a : Expr} {m : M Rv} (X : ClsF C.X.K (C.ca ci)) (h : EvH C a m) (hg : Gl C.X "isinstance") (hm : C.X.mg "isinstance" = none) (hg2 : Gl C.X n) (hm2 : C.X.mg n = some (.ref (C.ca ci))) (hd : (n == ("__debug__" : Str)) = false := by decide +kernel)
    (he : starEach [a, .Name n p2] C.X.env = (false, eval a C.X.env) :: starEach [.Name n p2] C.X.env := by rfl) (hpl : (backTo pos (starEach [.Name n p2] C.X.env)).any (·.1) = false := by rfl) :
    EvT C (.Call (.Name "isinstance" p) [a, .Name n p2] [] pos) (isoM ci m) := by
  refine pe_imp (pe_callB call_isi hg hm PyProof.Rows.boot_isinstance (pa_cons h (pa_cons (pe_glob (v := .ref (C.ca ci)) hg2 hm2 rfl hd) pa_nil) he) (by decide) (by decide) he hpl) fun σ H Q ⟨Tm, F, env, S, q⟩ => ⟨Tm, F, env, S, ?_⟩
  refine At.bind (R' := TR C.G) (Q' := Q) q fun r env1 x F1 H1 le1 S1 r1 q1 => ?_
  refine pk_bind S1 r1 q1 fun t p1 q2 => ?_
  have q2' : At C (TR C.G) Tm F1 σ Q ((M.of (isoT ci t) env1).bind fun b => M.pure (.bl b)) := q2
  cases hi : isoT ci t with
  | none =>
    rw [hi] at q2'
    exact q2'.elim
  | some b =>
    rw [hi] at q2'
    have fin := q2' (.bl b) F1 H1 Le.rfl S1 (mk_bl b)
    have bt : ∀ nm, tyN t = some nm → b = false → rIsi C.X.K [x, .ref (C.ca ci)] H1 Q := fun nm e1 e2 => by
      subst e2
      exact ⟨x, .ref (C.ca ci), .type nm, .ref (C.ca ci), false, rfl, .own _, p1.ty S1 e1, X.kit0 nm (tyN_mem e1), fin⟩
    cases t <;> first | (cases hi; done) | exact bt _ rfl (by cases hi; rfl) | skip
    rename_i c fs
    simp only [isoT] at hi
    split at hi
    case isFalse => cases hi
    rename_i hc
    cases hi
    subst hc
    obtain ⟨o, dx, vs, ex, ho, _⟩ := pk_ins S1 p1
    subst ex
    exact ⟨.ref o, .ref (C.ca c), .ref (C.ca c), .ref (C.ca c), true, rfl, .own _, .base (.ins ho X.cls X.cat X.get X.tks X.obj), X.kit1, fin⟩
end
end Ev
/-! Ev22: an instance made by keywords. -/
namespace Ev
open PySem PySem.Spec L2
def pick {α : Type} (ix : List Nat) (l : List α) : List α := ix.filterMap (l[·]?)
section
variable {C : Cy} {k j ci : Nat} {f : Addr} {fd : FuncData} {ps ks : List Str} {m : Nat} {d : SM} {ix : List Nat} {nm : Option Str} {e : Expr} {kws : List Keyword} {x : Str} {p pos kpos : Pos}
theorem pick_rep {G : Gr} {F : Hp} {ts : List T} {xs : List V} (r : RepL G F ts xs) : ∀ ix : List Nat, RepL G F (pick ix ts) (pick ix xs)
  | [] => .nil
  | i :: ix => by
    unfold pick
    rw [List.filterMap_cons, List.filterMap_cons]
    cases ht : ts[i]? with
    | none =>
      have hx : xs[i]? = none := by
        rw [List.getElem?_eq_none_iff] at ht ⊢
        rw [r.length]; exact ht
      rw [hx]
      exact pick_rep r ix
    | some t =>
      obtain ⟨y, hy, ry⟩ := r.get ht
      rw [hy]
      exact .cons ry (pick_rep r ix)
theorem pick_vals {xs : List V} {us : List Value} (r : Vals xs us) : ∀ ix : List Nat, Vals (pick ix xs) (pick ix us)
  | [] => .nil
  | i :: ix => by
    unfold pick
    rw [List.filterMap_cons, List.filterMap_cons]
    have hl := r.length
    cases hx : xs[i]? with
    | none =>
      have hu : us[i]? = none := by
        rw [List.getElem?_eq_none_iff] at hx ⊢
        omega
      rw [hu]
      exact pick_vals r ix
    | some y =>
      have : ∃ u, us[i]? = some u ∧ RelV y u := by
        clear hl
        induction r generalizing i with
        | nil => simp at hx
        | cons a b ih =>
          cases i with
          | zero => simp at hx ⊢; subst hx; exact a
          | succ i => simpa using ih i (by simpa using hx)
      obtain ⟨u, hu, ru⟩ := this
      rw [hu]
      exact .cons ru (pick_vals r ix)
abbrev EvK (C : Cy) (kws : List Keyword) (f : M (List T)) : Prop := PK C.X kws (tG C (TLR C.G) f)
theorem pk_imp' {X : Cx} {kws : List Keyword} {t t' : TA} (h : PK X kws t) (i : ∀ σ H Q, t' σ H Q → t σ H Q) : PK X kws t' := ⟨fun pos pins s σ H Q I q => h.run pos pins s σ H Q I (i σ H Q q)⟩
theorem ek_nil : EvK C [] (M.pure []) := pk_imp' pk_nil fun σ H Q ⟨Tm, F, env, S, q⟩ => q [] F H Le.rfl S .nil
theorem ek_cons {g : M T} {gs : M (List T)} (h : EvT C e g) (h' : EvK C kws gs) : EvK C (⟨nm, e, kpos⟩ :: kws) (consM g gs) := by
  refine pk_imp' (pk_cons h h') fun σ H Q ⟨Tm, F, env, S, q⟩ => ⟨Tm, F, env, S, ?_⟩
  refine At.bind (R' := TLR C.G) (Q' := Q) q fun t env1 x F1 H1 le1 S1 r1 q1 => ⟨Tm, F1, env1, S1, ?_⟩
  refine At.bind (R' := TLR C.G) (Q' := Q) q1 fun ts env2 xs F2 H2 le2 S2 r2 q2 => ?_
  exact q2 _ F2 H2 Le.rfl S2 (.cons (Rep.mono le2 t r1) r2)
theorem binds_kw {K : PySem.W.Frag} {y qual : Str} {params : Arguments} {body : List Stmt} {scope : Scope} {kws : List (Str × V)} (F : FunD K y qual params body scope [] kws f fd)
    (h : ∀ (kV doc pm : Value) (an : Option Addr) (cdv ct u : Value) (ws : List Value), ws.length = ks.length → bindArgs (PySem.W.fnOf y qual params body scope .none kV doc pm an cdv ct) ⟨[u], ks.zip ws⟩ = pure (ps.zip (u :: pick ix ws))) :
    ∀ (s : Shared) (u : Value) (ws : List Value), ws.length = ks.length → BindsTo s fd ⟨[u], ks.zip ws⟩ (ps.zip (u :: pick ix ws)) := by
  obtain ⟨oc, od, dV, kV, doc, pm, an, cdv, ct, osl, rfl, lk, hcd, hD, hK⟩ := F.ex
  rcases hD with ⟨_, rfl⟩ | ⟨z, _⟩
  · exact fun s u ws hl => .of_eq (h kV doc pm an cdv ct u ws hl)
  · exact absurd rfl z
def makeK (ci n : Nat) (d : SM) (m kn : Nat) (ix : List Nat) (fk : M (List T)) : M Rv := M.bind fk fun ts => if ts.length = kn then makeA ci n d m ((pick ix ts).map Ar.fz) else M.no
theorem ev_makeK {fk : M (List T)} (MK : Mk C.X.K (C.ca ci) f) (F : FnC C k f fd ps m d) (B : Bk C j) (hj : k + 1 ≤ j) (hm : ps.length ≤ m) (hg : Gl C.X x) (hx : C.X.mg x = some (.ref (C.ca ci)))
    (hb : ∀ (s : Shared) (u : Value) (ws : List Value), ws.length = ks.length → BindsTo s fd ⟨[u], ks.zip ws⟩ (ps.zip (u :: pick ix ws))) (hk : EvK C kws fk)
    (hall : (backToKw pos (keywordEach kws C.X.env)).all (·.1.isSome) = true := by rfl) (hks : (backToKw pos (keywordEach kws C.X.env)).filterMap (·.1) = ks := by rfl) (hdb : (x == ("__debug__" : Str)) = false := by decide +kernel)
    (hpl : ((backTo pos (starEach [] C.X.env)).any (·.1) || (backToKw pos (keywordEach kws C.X.env)).any (·.1.isNone)) = false := by rfl) :
    EvE C (.Call (.Name x p) [] kws pos) (makeK ci ps.length d m ks.length ix fk) := by
  obtain ⟨j', rfl⟩ : ∃ j', j = j' + 1 := ⟨j - 1, by omega⟩
  refine ⟨fun pins s σ H Q I ⟨Tm, F0, env, S, q⟩ => ?_⟩
  refine wpAny_Call_Name_kw (ld_glob I hg hx ?_ hdb)
  have q1 : tG C (TLR C.G) fk σ H fun zs H1 => zs.length = ks.length ∧ ∀ x dx, H1 x = none → H1 dx = none → dx ≠ x → spT C.G ps.length m d (.ref x :: pick ix zs) (upd (upd H1 dx (.own x)) x (.ins (C.ca ci) dx [])) (fun v H2 => v = .non ∧ Q (.ref x) H2) (fun cls dd H' => C.W cls dd σ H') := by
    refine ⟨Tm, F0, env, S, At.bind (R' := RvR C.G) (Q' := Q) q fun ts env1 zs F1 H1 le1 S1 r1 q2 => ?_⟩
    by_cases hl : ts.length = ks.length
    case neg =>
      rw [if_neg hl] at q2
      exact q2.elim
    rw [if_pos hl] at q2
    exact ⟨by rw [r1.length]; exact hl, fun x dx nx nd ne => make_sp hm S1 (ArL.consts (pick_rep r1 ix)) q2 nx nd ne⟩
  refine PySem.W.callWith_KW0 (h₀ := C.X.base) I.ok.mod.kin MK.kp hall ?_ hpl
  refine thn (hk.run pos pins s σ H _ I q1) fun ws s2 ⟨zs, H2, I2, rz, l2, h⟩ => ⟨I2.kIn, ?_⟩
  rw [hks]
  have lw : ws.length = ks.length := rz.length.symm.trans l2
  have hq := h (s2.heap.objs.size + 1) s2.heap.objs.size (I2.hok.fresh (Nat.le_succ _)) (I2.hok.fresh (Nat.le_refl _)) (Nat.ne_of_lt (Nat.lt_succ_self _))
  have I3 := Inv.made (C := C.ca ci) I2
  have r2 : Vals (V.ref (s2.heap.objs.size + 1) :: pick ix zs) (Value.ref (s2.heap.objs.size + 1) :: pick ix ws) := .cons rfl (pick_vals rz ix)
  refine wpAny_call (make_map (f := f) I2.kIn MK.makes MK.init (beq_iff_eq.mp MK.fn) (codeAny_mono ((F.up (by omega : k ≤ j')).go (B.room.make (C.ca ci) [] (ks.zip ws)) B.grd (I3.env0.make (C.ca ci) [] (ks.zip ws)) (hb _ (Value.ref (s2.heap.objs.size + 1)) ws lw) r2 hq) fun r s' hq' => ?_))
  match r, hq' with
  | .error e, hq' => exact B.tk _ _ (XE.of_call I3 (fun _ _ _ z => z) hq')
  | .ok (.ret u), hq' =>
    obtain ⟨v, H', I4, rv, ev, q3⟩ := I3.after hq'
    subst ev
    exact ⟨rv, ⟨V.ref (s2.heap.objs.size + 1), H', I4, rfl, q3⟩⟩
  | .ok .next, hq' => exact False.elim hq'
  | .ok .brk, hq' => exact False.elim hq'
  | .ok .cont, hq' => exact False.elim hq'
end
end Ev
/-! Ev23: own == as a test; the head's facts with tests of one's own. -/
namespace Ev
open PySem PySem.Spec L2
def blK : T → M Bool
  | .bl b => M.pure b
  | _ => M.no
def blN : T → M Bool
  | .bl b => M.pure (!b)
  | _ => M.no
section
variable {C : Cy} {k j ci : Nat} {f : Addr} {fd : FuncData} {ps : List Str} {m : Nat} {d : SM}
theorem eb_eqO {a b : Expr} {pos : Pos} {f1 f2 : M T} (hmt : Meth C.X.K (C.ca ci) "__eq__" f) (F : FnC C k f fd ps m d) (B : Bk C j) (hj : k ≤ j) (hm : ps.length ≤ m) (hb : Binds C.X.K fd ps []) (h1 : EvT C a f1) (h2 : EvT C b f2) (hmk : behindInMarks .Eq b = false) :
    EvB C (.Compare a [.Eq] [b] pos) (M.bind f1 fun t => M.bind f2 fun u => M.bind (eqO ci ps.length d m t u) blK) := by
  refine pt_imp (pt_cmpR (op_eqOwn hmt F B hj hb) h1 h2 hmk) fun σ H Q ⟨Tm, F0, env, S, q⟩ => ⟨Tm, F0, env, S, ?_⟩
  refine At.bind (R' := BR) (Q' := Q) q fun t env1 x F1 H1 le1 S1 r1 q1 => ⟨Tm, F1, env1, S1, ?_⟩
  refine At.bind (R' := BR) (Q' := Q) q1 fun u env2 y F2 H2 le2 S2 r2 q2 => ?_
  replace q2 : At C BR Tm F2 σ Q ((eqO ci ps.length d m t u env2).bind blK) := q2
  unfold eqO at q2
  by_cases hc : isCi ci t = true ∧ okR ci u = true
  case neg =>
    rw [if_neg hc] at q2
    exact q2.elim
  rw [if_pos hc] at q2
  have rt := Rep.mono le2 t r1
  have hi : ∃ a dx vs, x = .ref a ∧ H2 a = some (.ins (C.ca ci) dx vs) := by
    cases t <;> first | (cases hc.1; done) | skip
    rename_i c fs
    have e : c = ci := by simpa [isCi] using hc.1
    subst e
    obtain ⟨a, dx, vs, ex, ha, _⟩ := rep_ins rt
    rcases S2.sub _ _ ha with q | ⟨q, _⟩
    · exact ⟨a, dx, vs, ex, q⟩
    · cases q
  obtain ⟨a, dx, vs, ex, ha⟩ := hi
  refine ⟨a, dx, vs, ex, ha, okR_ty S2 r2 hc.2, ?_⟩
  refine call_sp (C := ⟨C.X, C.ca, fun _ _ _ _ => False⟩) (Q := fun v H2 => ∃ b, v = .bl b ∧ ∃ w, V.bl b = .bl w ∧ Q w H2) hm S2 (as := [.fz t, .fz u]) ⟨x, [y], rfl, rt, y, [], rfl, r2, rfl⟩ ?_
  cases ec : callA ps.length d m [.fz t, .fz u] env2 with
  | no =>
    rw [ec] at q2
    exact q2.elim
  | ex c fs e' =>
    rw [ec] at q2
    exact q2.elim
  | ok r e' =>
    rw [ec] at q2
    cases r with
    | ow t => exact q2.elim
    | bo i => exact q2.elim
    | fz w =>
      cases w <;> first | exact q2.elim | skip
      intro z F' H' le S' rz
      exact ⟨_, rep_bl rz, _, rfl, q2 _ F' H' le S' rfl⟩
theorem eb_neO {a b : Expr} {pos : Pos} {f1 f2 : M T} (N : NeF C.X.K (C.ca ci)) (hmt : Meth C.X.K (C.ca ci) "__eq__" f) (F : FnC C k f fd ps m d) (B : Bk C j) (hj : k + 1 ≤ j) (hm : ps.length ≤ m) (hb : Binds C.X.K fd ps []) (h1 : EvT C a f1) (h2 : EvT C b f2) (hmk : behindInMarks .NotEq b = false) :
    EvB C (.Compare a [.NotEq] [b] pos) (M.bind f1 fun t => M.bind f2 fun u => M.bind (eqO ci ps.length d m t u) blN) := by
  refine pt_imp (pt_cmpR (op_neOwn N hmt F B hj hb) h1 h2 hmk) fun σ H Q ⟨Tm, F0, env, S, q⟩ => ⟨Tm, F0, env, S, ?_⟩
  refine At.bind (R' := BR) (Q' := Q) q fun t env1 x F1 H1 le1 S1 r1 q1 => ⟨Tm, F1, env1, S1, ?_⟩
  refine At.bind (R' := BR) (Q' := Q) q1 fun u env2 y F2 H2 le2 S2 r2 q2 => ?_
  have q3 : At C BR Tm F2 σ Q ((eqO ci ps.length d m t u env2).bind blN) := q2
  unfold eqO at q3
  by_cases hc : isCi ci t = true ∧ okR ci u = true
  case neg =>
    rw [if_neg hc] at q3
    exact q3.elim
  rw [if_pos hc] at q3
  have rt := Rep.mono le2 t r1
  have hi : ∃ a dx vs, x = .ref a ∧ H2 a = some (.ins (C.ca ci) dx vs) := by
    cases t <;> first | (cases hc.1; done) | skip
    rename_i c fs
    have e : c = ci := by simpa [isCi] using hc.1
    subst e
    obtain ⟨a, dx, vs, ex, ha, _⟩ := rep_ins rt
    rcases S2.sub _ _ ha with q | ⟨q, _⟩
    · exact ⟨a, dx, vs, ex, q⟩
    · cases q
  obtain ⟨a, dx, vs, ex, ha⟩ := hi
  refine ⟨a, dx, vs, ex, ha, okR_ty S2 r2 hc.2, ?_⟩
  refine call_sp (C := ⟨C.X, C.ca, fun _ _ _ _ => False⟩) (Q := fun v H2 => ∃ b, v = .bl b ∧ ∃ w, V.bl (!b) = .bl w ∧ Q w H2) hm S2 (as := [.fz t, .fz u]) ⟨x, [y], rfl, rt, y, [], rfl, r2, rfl⟩ ?_
  cases ec : callA ps.length d m [.fz t, .fz u] env2 with
  | no =>
    rw [ec] at q3
    exact q3.elim
  | ex c fs e' =>
    rw [ec] at q3
    exact q3.elim
  | ok r e' =>
    rw [ec] at q3
    cases r with
    | ow t => exact q3.elim
    | bo i => exact q3.elim
    | fz w =>
      cases w <;> first | exact q3.elim | skip
      intro z F' H' le S' rz
      exact ⟨_, rep_bl rz, _, rfl, q3 _ F' H' le S' rfl⟩
end
/-! ### the head -/
def obX (n : Nat) (fa : List He.Fa) (fn : List He.DefD) (ex : PySem.W.Frag → Bool) (g : Addr → Option Obj) : Bool × He.AlD := (ex (He.frG g (He.asD g n)), He.obsDG n fa fn g)
def hookX (n : Nat) (fa : List He.Fa) (fn : List He.DefD) (ex : PySem.W.Frag → Bool) : PySem.W.Hook where
  α := Bool × He.AlD
  obs := fun s => obX n fa fn ex s.heap.get?
  val := fun _ => (true, He.valD fn)
  says := fun _ h => ∃ K : PySem.W.Frag, K.In h ∧ He.SaysD fa fn K ∧ ex K = true
  of := fun _ _ e => ⟨_, He.frG_in, congrArg Prod.snd e, congrArg Prod.fst e⟩
  keeps := fun _ _ _ ⟨K, hK, c, x⟩ z => ⟨K, PySem.W.Frag.In.keeps hK z, c, x⟩
theorem obX_eq {n : Nat} {fa : List He.Fa} {fn : List He.DefD} {ex : PySem.W.Frag → Bool} {g : Addr → Option Obj} {s : Shared} (h : ∀ a, g a = s.heap.get? a) : obX n fa fn ex g = (hookX n fa fn ex).obs s := by
  have e : g = s.heap.get? := funext h
  subst e
  rfl
def clsBody : Stmt → List Stmt
  | .ClassDef (body := b) .. => b
  | _ => []
end Ev
/-! Ev24: dicts: a display, d[k], d[k] = v. -/
namespace Ev
open PySem PySem.Spec L2
def kT : T → Option Key
  | .int i => some (.inl i)
  | .str s => some (.inr s)
  | _ => none
def getK (kvs : List (Key × T)) (k : Key) : Option T := (kvs.find? fun kv => decide (kv.1 = k)).map (·.2)
def putKT (kvs : List (Key × T)) (k : Key) (v : T) : List (Key × T) :=
  if (kvs.any fun kv => decide (kv.1 = k)) = true then kvs.map (fun kv => if kv.1 = k then (kv.1, v) else kv) else kvs ++ [(k, v)]
def mergeKT (kvs more : List (Key × T)) : List (Key × T) := more.foldl (fun acc kv => putKT acc kv.1 kv.2) kvs
section
variable {G : Gr} {Tm : Amb} {F H : Hp} {σ : St} {env : Env}
theorem RepK.uncons {k : Key} {t : T} {ts : List (Key × T)} {xs : List (Key × V)} (h : RepK G F ((k, t) :: ts) xs) : ∃ x r, xs = (k, x) :: r ∧ Rep G F t x ∧ RepK G F ts r := by simpa only [RepK] using h
theorem RepK.nil_ {xs : List (Key × V)} (h : RepK G F [] xs) : xs = [] := by simpa only [RepK] using h
theorem RepK.cons_ {k : Key} {t : T} {ts : List (Key × T)} {x : V} {r : List (Key × V)} (h : Rep G F t x) (h2 : RepK G F ts r) : RepK G F ((k, t) :: ts) ((k, x) :: r) := by simp only [RepK]; exact ⟨x, r, rfl, h, h2⟩
theorem RepK.len : ∀ {ts : List (Key × T)} {xs : List (Key × V)}, RepK G F ts xs → xs.length = ts.length
  | [], xs, h => by rw [h.nil_]; rfl
  | (k, t) :: ts, xs, h => by
    obtain ⟨x, r, e, _, h2⟩ := h.uncons
    subst e
    rw [List.length_cons, List.length_cons, h2.len]
theorem RepK.get {k : Key} : ∀ {ts : List (Key × T)} {xs : List (Key × V)} {t : T}, RepK G F ts xs → getK ts k = some t → ∃ x, valV xs k = some x ∧ Rep G F t x
  | [], xs, t, h, e => by cases e
  | (j, u) :: ts, xs, t, h, e => by
    obtain ⟨x, r, e1, h1, h2⟩ := h.uncons
    subst e1
    unfold getK at e
    by_cases hk : j = k
    · rw [List.find?_cons_of_pos (by simpa using hk)] at e
      cases e
      exact ⟨x, valV_pos hk, h1⟩
    · rw [List.find?_cons_of_neg (by simpa using hk)] at e
      rw [valV_neg hk]
      exact RepK.get h2 e
theorem RepK.any {k : Key} : ∀ {ts : List (Key × T)} {xs : List (Key × V)}, RepK G F ts xs → (xs.any fun kv => decide (kv.1 = k)) = ts.any fun kv => decide (kv.1 = k)
  | [], xs, h => by rw [h.nil_]; rfl
  | (j, u) :: ts, xs, h => by
    obtain ⟨x, r, e1, h1, h2⟩ := h.uncons
    subst e1
    rw [List.any_cons, List.any_cons, h2.any]
theorem RepK.mapv {k : Key} {v : T} {y : V} (hv : Rep G F v y) : ∀ {ts : List (Key × T)} {xs : List (Key × V)}, RepK G F ts xs → RepK G F (ts.map fun kv => if kv.1 = k then (kv.1, v) else kv) (xs.map fun kv => if kv.1 = k then (kv.1, y) else kv)
  | [], xs, h => by rw [h.nil_]; simp only [RepK, List.map_nil]
  | (j, u) :: ts, xs, h => by
    obtain ⟨x, r, e1, h1, h2⟩ := h.uncons
    subst e1
    rw [List.map_cons, List.map_cons]
    by_cases hk : j = k
    · simp only [hk, if_true]
      exact RepK.cons_ hv (RepK.mapv hv h2)
    · simp only [hk, if_false]
      exact RepK.cons_ h1 (RepK.mapv hv h2)
theorem RepK.snoc {k : Key} {v : T} {y : V} (hv : Rep G F v y) : ∀ {ts : List (Key × T)} {xs : List (Key × V)}, RepK G F ts xs → RepK G F (ts ++ [(k, v)]) (xs ++ [(k, y)])
  | [], xs, h => by rw [h.nil_]; exact RepK.cons_ hv (by simp only [RepK])
  | (j, u) :: ts, xs, h => by
    obtain ⟨x, r, e1, h1, h2⟩ := h.uncons
    subst e1
    exact RepK.cons_ h1 (RepK.snoc hv h2)
theorem RepK.put {k : Key} {v : T} {y : V} (hv : Rep G F v y) {ts : List (Key × T)} {xs : List (Key × V)} (h : RepK G F ts xs) : RepK G F (putKT ts k v) (putK xs k y) := by
  unfold putKT putK
  rw [h.any]
  split
  · exact h.mapv hv
  · exact h.snoc hv
theorem RepK.merge : ∀ {more : List (Key × T)} {ms : List (Key × V)} {ts : List (Key × T)} {xs : List (Key × V)}, RepK G F more ms → RepK G F ts xs → RepK G F (mergeKT ts more) (mergeK xs ms)
  | [], ms, ts, xs, h, h' => by rw [h.nil_]; exact h'
  | (j, u) :: more, ms, ts, xs, h, h' => by
    obtain ⟨x, r, e1, h1, h2⟩ := h.uncons
    subst e1
    show RepK G F (mergeKT (putKT ts j u) more) (mergeK (putK xs j x) r)
    exact RepK.merge h2 (h'.put h1)
theorem kT_rep {t : T} {k : Key} {x : V} (r : Rep G F t x) (h : kT t = some k) : x = kV k := by
  cases t <;> first | (cases h; done) | skip
  · cases h; exact rep_int r
  · cases h; exact rep_str r
theorem RvR.outK {ts : List (Key × T)} {xs : List (Key × V)} {D : Addr} (S : Sok G (Tm.with D (.dK xs)) F H σ env) (n : Tm.h D = none) (r : RepK G F ts xs) : RvR G Tm F H σ env (.ow (.dK ts)) (.ref D) := by
  have hD := S.tm D _ upd_same
  refine ⟨D, _, rfl, hD.1, hD.2, n, ⟨_, rfl, r⟩, fun i u o z => ?_⟩
  have q := S.tmo i D u o z
  have q' : upd Tm.h D (.dK xs) D = none := q
  rw [upd_same] at q'
  cases q'
end
section
variable {C : Cy} {pos : Pos} {a b : Expr}
/-! ### d[k] -/
def dgetT : T → T → Option T
  | .dK kvs, t => (kT t).bind (getK kvs)
  | _, _ => none
def dgetM (f : M Rv) (g : M T) : M T := M.bind f fun r => M.bind g fun i => M.bind (pk r) fun t => M.of (dgetT t i)
theorem ev_dget {f : M Rv} {g : M T} (hu : Rm C) (h : EvH C a f) (h' : EvT C b g) (hs : NoSl b) : EvT C (.Subscript a b pos) (dgetM f g) := by
  refine pe_imp (pe_dget (by have := hu; omega) h h' hs) fun σ H Q ⟨Tm, F, env, S, q⟩ => ⟨Tm, F, env, S, ?_⟩
  refine At.bind (R' := TR C.G) (Q' := Q) q fun r env1 x F1 H1 le1 S1 r1 q1 => ⟨Tm, F1, env1, S1, ?_⟩
  refine At.bind (R' := TR C.G) (Q' := Q) q1 fun u env2 y F2 H2 le2 S2 r2 q2 => ?_
  refine pk_bind S2 (r1.mono le2) q2 fun t p1 q3 => of_some q3 fun w hw q4 => ?_
  cases t <;> first | (cases hw; done) | skip
  rename_i kvs
  simp only [dgetT] at hw
  obtain ⟨k, hk, hg⟩ := Option.bind_eq_some_iff.mp hw
  obtain ⟨p, xs, ex, hq, rk⟩ := pk_dK S2 p1
  obtain ⟨v, hv, rv⟩ := rk.get hg
  have ey := kT_rep r2 hk
  subst ey
  exact ⟨p, v, ex, .inl ⟨xs, k, hq.rd, rfl, hv.symm⟩, q4 v F2 H2 Le.rfl S2 rv⟩
/-! ### a display -/
def RepPP (G : Gr) (F : Hp) : List (T × T) → List (V × V) → Prop
  | [], xs => xs = []
  | (s, t) :: ps, xs => ∃ x y r, xs = (x, y) :: r ∧ Rep G F s x ∧ Rep G F t y ∧ RepPP G F ps r
theorem RepPP.mono {G : Gr} {F F' : Hp} (h : Le F F') : ∀ {ps : List (T × T)} {xs : List (V × V)}, RepPP G F ps xs → RepPP G F' ps xs
  | [], xs, r => r
  | (s, t) :: ps, xs, ⟨x, y, r, e, h1, h2, h3⟩ => ⟨x, y, r, e, Rep.mono h s h1, Rep.mono h t h2, RepPP.mono h h3⟩
def pairsK {γ : Type} : List (M T × M T) → (List (T × T) → M γ) → M γ
  | [], k => k []
  | p :: r, k => M.bind p.1 fun x => M.bind p.2 fun y => pairsK r fun ps => k ((x, y) :: ps)
def asKs : List (T × T) → Option (List (Key × T))
  | [] => some []
  | (s, t) :: ps => (kT s).bind fun k => (asKs ps).map fun r => (k, t) :: r
theorem asKs_rep {G : Gr} {F : Hp} : ∀ {ps : List (T × T)} {xs : List (V × V)} {kvs : List (Key × T)}, RepPP G F ps xs → asKs ps = some kvs → ∃ vs, xs = vs.map (fun kv => (kV kv.1, kv.2)) ∧ RepK G F kvs vs
  | [], xs, kvs, r, e => by
    cases e
    cases r
    exact ⟨[], rfl, by simp only [RepK]⟩
  | (s, t) :: ps, xs, kvs, ⟨x, y, r, ex, h1, h2, h3⟩, e => by
    unfold asKs at e
    obtain ⟨k, hk, e⟩ := Option.bind_eq_some_iff.mp e
    obtain ⟨l, hl, e⟩ := Option.map_eq_some_iff.mp e
    subst e
    obtain ⟨vs, e2, r2⟩ := asKs_rep h3 hl
    have e3 := kT_rep h1 hk
    subst e3
    subst ex
    subst e2
    exact ⟨(k, y) :: vs, rfl, RepK.cons_ h2 r2⟩
def trsOf (C : Cy) (ms : List (M T × M T)) : List (TE × TE) := ms.map fun p => (tG C (TR C.G) p.1, tG C (TR C.G) p.2)
theorem RepPP.len {G : Gr} {F : Hp} : ∀ {ps : List (T × T)} {xs : List (V × V)}, RepPP G F ps xs → xs.length = ps.length
  | [], xs, r => by cases r; rfl
  | (s, t) :: ps, xs, ⟨x, y, r, e, h1, h2, h3⟩ => by subst e; rw [List.length_cons, List.length_cons, h3.len]
/-- a step while an object of one's own is held beside -/
theorem At.bindD {α β γ δ : Type} {R : RelT α β} {R' : RelT γ δ} {Tm : Amb} {F : Hp} {σ : St} {Q1 : β → Hp → Prop} {Q' : δ → Hp → Prop} {D : Addr} {o : HO} (n : Tm.h D = none) {m : Out α} {k : α → M γ} (h : At C R' Tm F σ Q' (m.bind k))
    (step : ∀ a env b F' H', Le F F' → Sok C.G (Tm.with D o) F' H' σ env → R (Tm.with D o) F' H' σ env a b → At C R' Tm F' σ Q' (k a env) → Q1 b H') : At C R (Tm.with D o) F σ Q1 m := by
  cases m with
  | ok a env => exact fun b F' H' l s r => step a env b F' H' l s r (At.weak l h)
  | ex c fs env => exact fun d F' H' vs l s e r => h d F' H' vs l (s.outD n) e r
  | no => exact h
theorem pairs_at {γ δ : Type} {R' : RelT γ δ} {Q' : δ → Hp → Prop} {σ : St} {D : Addr} {o : HO} {Tm : Amb} (n : Tm.h D = none) : ∀ {ms : List (M T × M T)} {k : List (T × T) → M γ} {F H : Hp} {env : Env} {QQ : List (V × V) → Hp → Prop}, Sok C.G (Tm.with D o) F H σ env → At C R' Tm F σ Q' (pairsK ms k env) →
    (∀ ps env1 xs F1 H1, Le F F1 → Sok C.G (Tm.with D o) F1 H1 σ env1 → RepPP C.G F1 ps xs → At C R' Tm F1 σ Q' (k ps env1) → QQ xs H1) → tPairs (trsOf C ms) σ H QQ
  | [], k, F, H, env, QQ, S, q, step => step [] env [] F H Le.rfl S rfl q
  | p :: ms, k, F, H, env, QQ, S, q, step => by
    refine ⟨Tm.with D o, F, env, S, ?_⟩
    refine At.bindD (R' := R') (Q' := Q') n q fun s env1 x F1 H1 le1 S1 r1 q1 => ⟨Tm.with D o, F1, env1, S1, ?_⟩
    refine At.bindD (R' := R') (Q' := Q') n q1 fun t env2 y F2 H2 le2 S2 r2 q2 => ?_
    refine pairs_at n S2 q2 fun ps env3 xs F3 H3 le3 S3 r3 q3 => ?_
    exact step _ env3 _ F3 H3 ((le1.trans le2).trans le3) S3 (show RepPP C.G F3 ((s, t) :: ps) ((x, y) :: xs) from ⟨x, y, xs, rfl, Rep.mono (le2.trans le3) s r1, Rep.mono le3 t r2, r3⟩) q3
abbrev EvPs (C : Cy) (pos : Pos) (keys : List (Option Expr)) (values : List Expr) (ms : List (M T × M T)) : Prop := PPs C.X pos keys values (trsOf C ms)
theorem ep_nil : EvPs C pos [] [] [] := pps_nil
theorem ep_cons {k v : Expr} {ks : List (Option Expr)} {vs : List Expr} {mk mv : M T} {ms : List (M T × M T)} (hk : EvT C k mk) (hv : EvT C v mv) (hr : EvPs C pos ks vs ms) : EvPs C pos (some k :: ks) (v :: vs) ((mk, mv) :: ms) := pps_cons hk hv hr
def dispM (ms : List (M T × M T)) : M Rv := pairsK ms fun ps => M.of (if ps.length ≤ 15 then (asKs ps).map fun kvs => .ow (.dK (mergeKT [] kvs)) else none)
theorem ev_disp {keys : List (Option Expr)} {values : List Expr} {ms : List (M T × M T)} (h : EvPs C pos keys values ms) (hall : keys.all (·.isSome) = true := by rfl) (hl : keys.length = values.length := by rfl) (h0 : keys ≠ [] := by exact fun z => by cases z) (h15 : keys.length ≤ 15 := by decide) :
    EvE C (.Dict keys values pos) (dispM ms) := by
  refine pe_imp (pe_disp h hall hl h0 h15) fun σ H Q ⟨Tm, F, env, S, q⟩ p np => ?_
  have S0 := S.withD (o := .dK []) np
  have tD : Tm.h p = none := (S.new np).2
  refine pairs_at tD (R' := RvR C.G) (Q' := Q) (k := fun ps => M.of (if ps.length ≤ 15 then (asKs ps).map fun kvs => .ow (.dK (mergeKT [] kvs)) else none)) S0 q fun ps env1 xs F1 H1 le1 S1 r1 q1 => of_some q1 fun w hw q2 => ?_
  split at hw
  · rename_i hz
    obtain ⟨kvs, e, rfl⟩ := Option.map_eq_some_iff.mp hw
    obtain ⟨vs, ex, rk⟩ := asKs_rep r1 e
    have hlen := r1.len
    rw [ex, List.length_map] at hlen
    refine ⟨(S1.tm p _ upd_same).1, vs, ex, by omega, ?_⟩
    have S2 := S1.chD (u := .dK (mergeK [] vs))
    have rm : RepK C.G F1 (mergeKT [] kvs) (mergeK [] vs) := RepK.merge rk (by simp only [RepK])
    exact q2 (.ref p) F1 _ Le.rfl (S2.outD tD) (RvR.outK S2 tD rm)
  · cases hw
/-! ### d[k] = v -/
def dsetT : T → T → T → Option T
  | .dK kvs, i, v => if kvs.length < sizeLine then (kT i).map fun k => .dK (putKT kvs k v) else none
  | _, _, _ => none
/-- d[k] = v, d a name -/
def dputS (m : M T) (f : M Rv) (g : M T) : SM := exprS m fun v => exprS f fun r => match r with
  | .bo j => exprS g fun i env => (match env[j]? with
    | some (.ow t) => (match (dsetT t i v).bind fun t' => chO j t' env with
      | some e => .nx e
      | none => .no)
    | some (.io t) => (match (dsetT t i v).bind fun t' => chO j t' env with
      | some e => .nx e
      | none => .no)
    | _ => .no)
  | _ => fun _ => .no
theorem e_dput {e : Expr} {m g : M T} {f : M Rv} {spos : Pos} (hu : Rm C) (h : EvT C e m) (ho : EvE C a f) (hi : EvT C b g) (hs : swapsWith e (some (.Subscript a b spos)) pos.line C.X.env = pure false := by rfl) : EvS C (.Assign [.Subscript a b spos] e pos) (dputS m f g) := by
  refine ps_imp (ps_dput (by have := hu; omega) ho hi h hs) fun D σ H ⟨Tm, F, env, S, q⟩ => ⟨Tm, F, env, S, ?_⟩
  refine AtS.expr q fun v env1 x F1 H1 le1 S1 r1 q1 => ⟨Tm, F1, env1, S1, ?_⟩
  refine AtS.expr q1 fun r env2 o F2 H2 le2 S2 r2 q2 => ?_
  cases r with
  | fz _ => exact q2.elim
  | ow _ => exact q2.elim
  | bo j =>
    refine ⟨Tm, F2, env2, S2, ?_⟩
    refine AtS.expr q2 fun i env3 y F3 H3 le3 S3 r3 q3 => ?_
    have go : ∀ t, OwnAt env3 j t → AtS C Tm F3 D (match (dsetT t i v).bind fun t' => chO j t' env3 with
      | some e => .nx e
      | none => .no) → ∃ p H4, o = .ref p ∧ DPut H3 p y x H4 ∧ D.nx σ H4 := fun t own qq => by
      cases e3 : (dsetT t i v).bind fun t' => chO j t' env3 with
      | none =>
        rw [e3] at qq
        exact qq.elim
      | some env4 =>
        rw [e3] at qq
        obtain ⟨t', k1, k2⟩ := Option.bind_eq_some_iff.mp e3
        obtain ⟨s0, e0, k0⟩ := own.get
        obtain ⟨z, hz, ok⟩ := S3.slot j _ e0
        obtain ⟨p, ob, ez, hp, fp, top⟩ := ok.own k0
        have hx : σ[j]? = some (some o) := r2.1
        rw [hz] at hx
        cases hx
        cases ez
        cases t <;> first | (cases k1; done) | skip
        rename_i kvs
        simp only [dsetT] at k1
        split at k1
        · rename_i hz2
          obtain ⟨k, hk, kt⟩ := Option.map_eq_some_iff.mp k1
          subst kt
          obtain ⟨xs, eo, rl⟩ := top
          subst eo
          have ey := kT_rep r3 hk
          subst ey
          refine ⟨p, _, rfl, DPut.k hp (by rw [rl.len]; exact hz2), ?_⟩
          exact qq σ F3 _ Le.rfl (S3.chO (t := .dK (putKT kvs k v)) hz ⟨_, rfl, rl.put (Rep.mono (le2.trans le3) v r1)⟩ k2)
        · cases k1
    cases e4 : env3[j]? with
    | none =>
      rw [e4] at q3
      exact q3.elim
    | some s =>
      rw [e4] at q3
      cases s with
      | un => exact q3.elim
      | fz _ => exact q3.elim
      | ow t => exact go t (.inl e4) q3
      | io t => exact go t (.inr e4) q3
end
end Ev
/-! Ev25: properties of own classes. -/
namespace Ev
open PySem PySem.Spec L2
/-- (a getter that raises is not served) -/
def propM (ci : Nat) (fo : M T) (k : T → M Rv) : M Rv := M.bind fo fun t env => if isCi ci t = true then (match k t env with
  | .ok r e => .ok r e
  | _ => .no) else .no
section
variable {C : Cy} {k j ci : Nat} {f g p : Addr} {fd : FuncData} {ps : List Str} {m : Nat} {d : SM} {ds : List Value} {dvs : List V} {dts : List T} {pn : Str} {pos : Pos} {o : Expr} {fo : M T}
theorem isCi_at {Tm : Amb} {F H : Hp} {σ : St} {env : Env} (S : Sok C.G Tm F H σ env) {t : T} {x : V} (r : Rep C.G F t x) (h : isCi ci t = true) : ∃ a dx vs, x = .ref a ∧ H a = some (.ins (C.ca ci) dx vs) := by
  cases t <;> first | (cases h; done) | skip
  rename_i c fs
  have e : c = ci := by simpa [isCi] using h
  subst e
  obtain ⟨a, dx, vs, ex, ha, _⟩ := rep_ins r
  rcases S.sub _ _ ha with q | ⟨q, _⟩
  · exact ⟨a, dx, vs, ex, q⟩
  · cases q
theorem ev_prop (c : Cls C.X.K (C.ca ci)) (hp : PropOf C.X.K (C.ca ci) pn p g) (F : FnC C k g fd ps m d) (B : Bk C j) (hj : k + 1 ≤ j) (hm : ps.length ≤ m) (hb : Binds C.X.K fd ps ds) (hd : Vals dvs ds) (ht : ∀ F, RepL C.G F dts dvs) (ho : EvT C o fo)
    (hab : attributeBase o pn C.X.env (eval o C.X.env) = eval o C.X.env := by rfl) :
    EvE C (.Attribute o pn pos) (propM ci fo fun t => callA ps.length d m (.fz t :: dts.map Ar.fz)) := by
  obtain ⟨j', rfl⟩ : ∃ j', j = j' + 1 := ⟨j - 1, by omega⟩
  refine ⟨fun pins s σ H Q I ⟨Tm, F0, env, S, q⟩ => ?_⟩
  have q1 : tG C (TR C.G) fo σ H fun x H1 => ∃ a dx vs, x = .ref a ∧ H1 a = some (.ins (C.ca ci) dx vs) ∧ spT C.G ps.length m d (x :: dvs) H1 Q (fun _ _ _ => False) := by
    refine ⟨Tm, F0, env, S, At.bind (R' := RvR C.G) (Q' := Q) q fun t env1 x F1 H1 le1 S1 r1 q2 => ?_⟩
    by_cases hi : isCi ci t = true
    · rw [if_pos hi] at q2
      obtain ⟨a, dx, vs, ex, e1⟩ := isCi_at S1 r1 hi
      refine ⟨a, dx, vs, ex, e1, call_sp (C := ⟨C.X, C.ca, fun _ _ _ _ => False⟩) hm S1 (as := .fz t :: dts.map Ar.fz) ⟨x, dvs, rfl, r1, ArL.consts (ht F1)⟩ ?_⟩
      dsimp only at q2
      cases ec : callA ps.length d m (.fz t :: dts.map Ar.fz) env1 with
      | no =>
        rw [ec] at q2
        exact q2.elim
      | ex c fs e' =>
        rw [ec] at q2
        exact q2.elim
      | ok r e' =>
        rw [ec] at q2
        exact q2
    · rw [if_neg hi] at q2
      exact q2.elim
  refine attr_of hab (thn (ho.run pins s σ H _ I q1) fun u s1 ⟨x, H1, I0, rx, a, dx, fs, ex, ea, h⟩ => ?_)
  subst ex
  obtain rfl : u = Value.ref a := rx
  obtain ⟨mA, O, _, _, _, _⟩ := ins_get I0.hok ea
  obtain ⟨od, J, _⟩ := O.look
  obtain ⟨rest, hrec⟩ := hp.rec_
  have I1 := I0.tok (s1.toks + 1)
  have r2 : Vals (V.ref a :: dvs) (Value.ref a :: ds) := .cons rfl hd
  have hl : ([Value.ref a] ++ ds).length = ps.length := by
    have e := r2.length
    rw [h.1] at e
    exact e.symm
  have hc : (PySem.W.clsIn C.X.K (C.ca ci)).isSome = true := by
    obtain ⟨cd, hc, _⟩ := PySem.W.any_some c.hd
    rw [hc]
    rfl
  refine PySem.W.get_bind I0.kIn J (PySem.W.plainGet_of (c.get pn)).1 (PySem.W.findObj_data hc hp.at_ hp.get hp.tak) (PySem.W.plainGet_of (c.get pn)).2 (wpAny_call (PySem.W.prop_get (s := { s1 with toks := s1.toks + 1 }) I0.kIn hrec ?_))
  refine codeAny_mono ((F.up (by omega : k ≤ j')).go B.room.in1 B.grd I1.env0.in1 (hb _ [.ref a] I1.kIn hl) r2 h) fun r s' hq => ?_
  match r, hq with
  | .error er, hq =>
    obtain ⟨_, _, _, _, _, _, _, _, _, _, _, _, _, _, _, _, z⟩ := XE.of_call (W := fun _ _ _ _ => False) I1 (fun _ _ _ z => z) hq
    exact z.elim
  | .ok (.ret u), hq =>
    obtain ⟨v, H', I3, rv, q3⟩ := I1.after hq
    show wpAny _ _ (handedOut u) _ _ _
    rw [PySem.W.handedOut_of (handed_of rv)]
    exact wpAny_pure ⟨v, H', I3, rv, q3⟩
  | .ok .next, hq => exact False.elim hq
  | .ok .brk, hq => exact False.elim hq
  | .ok .cont, hq => exact False.elim hq
end
end Ev
namespace Ev
open PySem PySem.Spec L2
section
variable {prog : Program} {w : World} {K : Type} [DecidableEq K] {knd : KeyKind prog w K} {A : Around} {E : Value → Shared → Prop} {s : Shared}
theorem put_at {d : Addr} {kvs : List (K × Value)} {k : K} {key v : Value} {Q : Unit → Shared → Prop} (hk : knd.is k key = true) (D : s.heap.DictOf knd d kvs) (hz : kvs.length ≤ sizeLine)
    (q : ∀ h', h'.DictOf knd d (stored kvs k v) → Heap.SameBut d s.heap h' → Q () { s with heap := h' }) : wpAny (model prog w) A (dictPut d (knd.hash k) key v) Q E s := by
  have D0 := D
  obtain ⟨ob, es, ep, h1, h2, h3, h4, h5, h6⟩ := D
  have len : es.size ≤ sizeLine := by
    have a := h5.length
    rw [Array.length_toList] at a
    omega
  unfold dictPut
  refine wpAny_bind (wpAny_dictFind_of hk h1 h3 h4 ?_)
  have same : (es.findIdx? fun e => knd.is k e.key) = kvs.findIdx? fun p => decide (p.1 = k) := by
    have a := h5.findIdx k
    rw [← a]
    cases es
    simp
  cases fi : es.findIdx? fun e => knd.is k e.key with
  | some i =>
    have there := any_of_findIdx_some (same ▸ fi)
    refine wpAny_updateDict h1 h3 (q _ ⟨_, _, ep, Heap.get?_update_self _ h1 (Obj.isFreed_of_dict (Obj.data_mapDict h3 _)), h2.mapDict _, Obj.data_mapDict h3 _, h4.modify _ _, ?_, ?_⟩ (Heap.SameBut.update ..))
    · unfold stored
      rw [if_pos there]
      have fl : (es.toList.findIdx? fun e => knd.is k e.key) = some i := by
        rw [← fi]
        cases es
        simp
      have a := h5.modify h6 fl v
      cases es
      simpa using a
    · unfold stored
      rw [if_pos there, keys_map_store]
      exact h6
  | none =>
    have away : k ∉ kvs.map (·.1) := not_mem_of_findIdx_none (same ▸ fi)
    have nany : ¬ (kvs.any fun p => decide (p.1 = k)) = true := fun z => by
      obtain ⟨p, hp, e⟩ := List.any_eq_true.mp z
      exact away (List.mem_map.mpr ⟨p, hp, of_decide_eq_true e⟩)
    refine wpAny_updateDictKeys (hz := len) h1 h3 (q _ ⟨_, _, ep + 1, Heap.get?_update_self _ h1 (Obj.isFreed_of_dict (Obj.data_mapDictKeys h3 _)), h2.mapDictKeys _, Obj.data_mapDictKeys h3 _, h4.push hk _, ?_, ?_⟩ (Heap.SameBut.update ..))
    · unfold stored
      rw [if_neg nany]
      have a := h5.append hk (knd.hash k) v
      cases es
      simpa using a
    · unfold stored
      rw [if_neg nany, List.map_append, List.nodup_append]
      refine ⟨h6, by simp, fun a ha b hb e => ?_⟩
      have hb' : b = k := by simpa using hb
      subst hb'
      exact away (e ▸ ha)
theorem merge_at {d a : Addr} {kvs more : List (Key × Value)} {Q : Unit → Shared → Prop} (hda : d ≠ a) (low : (a == sysModules) = false) (D : s.heap.DictOf (mixKind prog w) d kvs) (M : s.heap.DictOf (mixKind prog w) a more) (hz : kvs.length + more.length ≤ sizeLine)
    (q : ∀ h', h'.DictOf (mixKind prog w) d (merged kvs more) → h'.DictOf (mixKind prog w) a more → Heap.SameBut d s.heap h' → Q () { s with heap := h' }) : wpAny (model prog w) A (mergeMapping d (.ref a) false) Q E s := by
  have tT := M.typeIs
  have D0 := D
  have M0 := M
  obtain ⟨od, ed, epd, d1, d2, d3, d4, d5, d6⟩ := D
  obtain ⟨ob, es, ep, m1, m2, m3, m4, m5, m6⟩ := M
  have hl : more.length = es.size := by rw [← m5.length, Array.length_toList]
  unfold mergeMapping
  refine wpAny_bind (wpAny_isInstance (U := "dict") tT (b := true) (by rw [isSubtype_type]; kernel_rfl) ?_)
  rw [if_pos rfl]
  refine wpAny_bind (wpAny_specialOf tT PySem.F.slot_dict_iter.lookup ?_)
  have e1 : (some (Value.builtin "dict.__iter__") == some (Value.builtin "dict.__iter__")) = true := by decide +kernel
  rw [e1]
  refine wpAny_bind (wpAny_pure ?_)
  dsimp only
  rw [if_neg (by rw [low]; exact Bool.false_ne_true)]
  have loop : wpAny (model prog w) A (do
      let es' ← dictEntries a
      let size := es'.size
      let epoch ← dictEpoch a
      forIn (List.range size) PUnit.unit fun i __s => do
        let l ← dictEntries a
        match l[i]? with
        | some e => do
          holding [e.key, e.val] (dictPut d e.hash e.key e.val)
          let ep' ← dictEpoch a
          if (ep' != epoch) = true then do
              unsupported "dict.changed-during-merge"
              pure (ForInStep.yield PUnit.unit)
            else pure (ForInStep.yield PUnit.unit)
        | x => do
          unsupported "dict.changed-during-merge"
          pure (ForInStep.yield PUnit.unit)
      pure () : Sem Unit) Q E s := by
    refine wpAny_bind (wpAny_dictEntries m1 m3 ?_)
    refine wpAny_bind (wpAny_dictEpoch m1 m3 ?_)
    refine wpAny_bind ?_
    refine wpAny_forIn_list _ (fun rest _ s' => ∃ h' i, s' = { s with heap := h' } ∧ rest = (List.range es.size).drop i ∧ i ≤ es.size ∧ h'.DictOf (mixKind prog w) d (merged kvs (more.take i)) ∧ h'.get? a = some ob ∧ Heap.SameBut d s.heap h') _ ?_ ?_ _ _
      ⟨s.heap, 0, rfl, rfl, Nat.zero_le _, by simpa [merged] using D0, m1, Heap.SameBut.refl _ _⟩
    · rintro x rest b s' ⟨h', i, rfl, hr, hi, g1, g2, g3⟩
      have lt : i < es.size := by
        rcases Nat.lt_or_ge i es.size with z | z
        · exact z
        · rw [List.drop_eq_nil_of_le (by simpa using z)] at hr
          cases hr
      rw [List.drop_eq_getElem_cons (by simpa using lt)] at hr
      obtain ⟨rfl, rfl⟩ := List.cons.inj hr
      rw [List.getElem_range]
      refine wpAny_bind (wpAny_dictEntries g2 m3 ?_)
      rw [Array.getElem?_eq_getElem lt]
      obtain ⟨⟨k, v⟩, hx⟩ : ∃ p, more[i]? = some p := ⟨_, List.getElem?_eq_getElem (by omega : i < more.length)⟩
      obtain ⟨k1, k2⟩ := m5.get? (e := es[i]) (by simp [lt]) hx
      obtain ⟨k', k3, k4⟩ := m4 es[i] (Array.getElem_mem lt)
      have ek : k' = k := (mixKind prog w).inj _ _ _ k3 k1
      subst ek
      dsimp only
      rw [k4, k2]
      have few : (merged kvs (more.take i)).length ≤ sizeLine := by
        have a1 := merged_length_le kvs (more.take i)
        have a2 : (more.take i).length ≤ more.length := by rw [List.length_take]; omega
        omega
      refine wpAny_bind (wpAny_holding (put_at k1 g1 few fun h2 u1 u2 => ?_))
      have g2' : h2.get? a = some ob := (u2.2 a (Ne.symm hda)).trans g2
      refine wpAny_bind (wpAny_dictEpoch g2' m3 ?_)
      rw [if_neg (by simp)]
      exact wpAny_pure ⟨h2, i + 1, rfl, rfl, lt, by rw [merged_take_succ kvs more i (k', v) hx]; exact u1, g2', g3.trans u2⟩
    · rintro b s' ⟨h', i, rfl, hr, hi, g1, g2, g3⟩
      have last : i = es.size := by
        rcases Nat.lt_or_ge i es.size with z | z
        · rw [List.drop_eq_getElem_cons (by simpa using z)] at hr
          cases hr
        · omega
      refine wpAny_pure (q h' ?_ ⟨ob, es, ep, g2, m2, m3, m4, m5, m6⟩ g3)
      rw [last, ← hl, List.take_length] at g1
      exact g1
  refine wpAny_bind (wpAny_dictEntries d1 d3 ?_)
  split
  · refine wpAny_bind (wpAny_dictEntries m1 m3 ?_)
    refine wpAny_bind ?_
    rw [← Array.forIn_toList]
    refine wpAny_forIn_list _ (fun rest _ s' => s' = s ∧ ∀ e ∈ rest, e ∈ es.toList) _ ?_ ?_ _ _ ⟨rfl, fun _ h => h⟩
    · rintro x rest b s' ⟨rfl, sub⟩
      obtain ⟨k, k1, k2⟩ := m4 x (by simpa using sub x List.mem_cons_self)
      have nr : ∀ z, x.key ≠ .ref z := fun z e => by
        rcases keyIs_shape k1 with ⟨_, _, _, e2⟩ | ⟨_, _, _, e2⟩ <;> rw [e2] at e <;> cases e
      split
      · rename_i z e
        exact absurd e (nr z)
      · exact wpAny_pure ⟨rfl, fun e he => sub e (List.mem_cons_of_mem _ he)⟩
    · rintro b s' ⟨rfl, _⟩
      exact loop
  · exact loop
end
end Ev
/-! Ev27: {**d, k: v, ..}. -/
namespace Ev
open PySem PySem.Spec L2
section
variable {X : Cx} {pins : List (Addr × Obj)} {σ : St} {H : Hp} {s : Shared} {A : Around} {E : Value → Shared → Prop}
theorem d_merge {p a : Addr} {ks kvs : List (Key × V)} {Q : Unit → Shared → Prop} (I : Inv X pins σ H s) (eD : H p = some (.dK ks)) (eA : Rd H a (.dK kvs)) (ne : p ≠ a) (z : ks.length + kvs.length ≤ sizeLine)
    (h : ∀ s', Inv X pins σ (upd H p (.dK (mergeK ks kvs))) s' → Q () s') : wpAny (model X.prog X.w) A (mergeMapping p (.ref a) false) Q E s := by
  obtain ⟨z1, low1, vs1, rel1, dd1⟩ := dk_of I.hok eD
  obtain ⟨z2, low2, vs2, rel2, dd2⟩ := dk_rd I.hok eA
  have l1 := rel1.length
  have l2 := rel2.length
  refine merge_at ne low2 dd1 dd2 (by omega) fun h' dd' _ hs => h _ ?_
  have he : ∃ q, h'.get? p = some q := let ⟨q, _, _, hq, _⟩ := dd'; ⟨q, hq⟩
  have hl : (mergeK ks kvs).length ≤ sizeLine := by
    have a1 := length_mergeK kvs ks
    omega
  exact d_write I (by rw [eD]; exact True.intro) hs he (dk_new hl low1 (rel2.merge rel1) dd')
theorem gather_some {d : Addr} (f : (Option (Sem Value) × Sem Value) → (Option Addr × List (Sem Value × Sem Value)) → Sem (ForInStep (Option Addr × List (Sem Value × Sem Value))))
    (hf : ∀ (q : Sem Value × Sem Value) (run : List (Sem Value × Sem Value)), run.length + 1 < 17 → f (some q.1, q.2) (some d, run) = pure (.yield (some d, run ++ [q]))) :
    ∀ (items run : List (Sem Value × Sem Value)), run.length + items.length < 17 → forIn (items.map fun q => (some q.1, q.2)) (some d, run) f = pure (some d, run ++ items)
  | [], run, _ => by simp
  | q :: items, run, h => by
    rw [List.length_cons] at h
    rw [List.map_cons, List.forIn_cons, hf q run (by omega), pure_bind]
    have := gather_some f hf items (run ++ [q]) (by rw [List.length_append, List.length_cons, List.length_nil]; omega)
    rw [List.append_assoc] at this
    exact this
/-- the promise of {**e, k: v, ..} -/
def tDispS (te : TE) (trs : List (TE × TE)) : TE := fun σ H Q => ∀ p, H p = none → te σ (upd H p (.dK [])) fun x H1 => ∃ a kvs, x = .ref a ∧ p ≠ a ∧ H1 p = some (.dK []) ∧ Rd H1 a (.dK kvs) ∧ kvs.length + 16 ≤ sizeLine ∧
  ∀ p2, upd H1 p (.dK (mergeK [] kvs)) p2 = none → tPairs trs σ (upd (upd H1 p (.dK (mergeK [] kvs))) p2 (.dK [])) fun ps H3 => H3 p2 = some (.dK []) ∧ H3 p = some (.dK (mergeK [] kvs)) ∧ p ≠ p2 ∧ ∃ more : List (Key × V), ps = more.map (fun kv => (kV kv.1, kv.2)) ∧ more.length ≤ 15 ∧
    Q (.ref p) (upd (upd H3 p2 (.dK (mergeK [] more))) p (.dK (mergeK (mergeK [] kvs) (mergeK [] more))))
theorem pe_dispS {e : Expr} {te : TE} {pos : Pos} {keys : List (Option Expr)} {values : List Expr} {trs : List (TE × TE)} (he : PE X e te) (h : PPs X pos keys values trs) (hall : keys.all (·.isSome) = true) (hl : keys.length = values.length) (h0 : keys ≠ [])
    (h15 : keys.length ≤ 15) : PE X (.Dict (none :: keys) (e :: values) pos) (tDispS te trs) := by
  refine ⟨fun pins s σ H Q I q => ?_⟩
  have hn := pairTrees_length keys values X.env pos hall hl
  rw [arm_eval_Dict]
  have shape : (evalEachOpt (none :: keys) X.env).zip ((evalEach (e :: values) X.env).map fun v => do let x ← v; standAt pos; pure x) = (none, do let x ← eval e X.env; standAt pos; pure x) :: (pairTrees keys values X.env pos).map fun p => (some p.1, p.2) := by
    rw [← zip_pairTrees keys values X.env pos hall hl]
    rfl
  rw [shape]
  refine wpAny_bind (wpAny_standAt ?_)
  unfold dictDisplay
  dsimp only
  rw [List.forIn_cons]
  simp only [List.isEmpty_nil, if_true, pure_bind]
  have fr := I.hok.fresh (Nat.le_refl s.heap.objs.size)
  have I1 := I.laid (a := s.heap.objs.size) (o := .dK []) (h' := s.heap.push { cls := .type "dict", data := .dict #[] }) (t' := s.toks) (fun _ _ z => Heap.get?_push_of_some _ z) (Nat.le_refl _) (dk_empty s.heap I.big)
  refine wpAny_bind (wpAny_bind (wpAny_bind (wpAny_alloc ?_)))
  refine wpAny_bind (wpAny_holding (wpAny_bind (thn (he.run pins _ σ _ _ I1 (q _ fr)) fun u s1 ⟨x, H1, I2, rx, a, kvs, ex, ne, e1, e2, z, q1⟩ => wpAny_bind (wpAny_standAt (wpAny_pure ?_)))))
  subst ex
  obtain rfl : u = Value.ref a := rx
  refine wpAny_bind (wpAny_onRaise (wpAny_tryCatch (wpAny_onRaise (wpAny_holding (d_merge I2 e1 e2 ne (by simpa using (by omega : kvs.length ≤ sizeLine)) fun s2 I3 => wpAny_pure ?_)))))
  dsimp only
  rw [gather_some _ (fun p run h => by
    have hne : ((run ++ [(p.1, p.2)]).length == 17) = false := by simp; omega
    simp only [hne, Bool.false_eq_true, if_false]) (pairTrees keys values X.env pos) [] (by rw [hn, List.length_nil]; omega)]
  refine wpAny_pure ?_
  have hne : ([] ++ pairTrees keys values X.env pos).isEmpty = false := by
    cases hp : pairTrees keys values X.env pos with
    | nil => rw [hp] at hn; exact absurd (List.length_eq_zero_iff.mp hn.symm) h0
    | cons _ _ => rfl
  dsimp only
  rw [hne, if_neg Bool.false_ne_true]
  rw [List.nil_append]
  have fr2 := I3.hok.fresh (Nat.le_refl s2.heap.objs.size)
  have I4 := I3.laid (a := s2.heap.objs.size) (o := .dK []) (h' := s2.heap.push { cls := .type "dict", data := .dict #[] }) (t' := s2.toks) (fun _ _ z => Heap.get?_push_of_some _ z) (Nat.le_refl _) (dk_empty s2.heap I3.big)
  refine wpAny_bind (wpAny_bind (wpAny_holding (wpAny_subDict (knd := mixKind X.prog X.w) (by rw [hn]; exact h15) (thn (h.run pins _ σ _ _ I4 (q1 _ fr2)) fun ws s3 ⟨ps, H3, I5, rel, e3, e4, ne2, more, ep, lk, q2⟩ => ?_))))
  subst ep
  obtain ⟨rs, c, rk⟩ := carries_of (P := X.prog) (w := X.w) rel
  obtain ⟨z3, low3, vs3, r3, dd3⟩ := dk_of I5.hok e3
  cases r3
  refine ⟨rs, c, dd3, fun h' dd' hs => ?_⟩
  have hz : (mergeK [] more).length ≤ 15 := by
    have a1 := length_mergeK more []
    rw [List.length_nil] at a1
    omega
  have hz2 : (mergeK [] kvs).length ≤ kvs.length := by
    have a1 := length_mergeK kvs []
    rw [List.length_nil] at a1
    omega
  have he : ∃ q, h'.get? s2.heap.objs.size = some q := let ⟨q, _, _, hq, _⟩ := dd'; ⟨q, hq⟩
  have I6 := d_write (t' := s3.toks + ws.length) I5 (by rw [e3]; exact True.intro) hs he (dk_new (kvs := mergeK [] more) (by rw [sizeLine_eq]; omega) low3 (rk.merge .nil) dd')
  refine wpAny_bind (wpAny_onRaise (wpAny_holding (d_merge I6 (by rw [upd_ne ne2]; exact e4) (.inl upd_same) ne2 (by omega) fun s4 I7 => wpAny_pure ?_)))
  exact wpAny_pure ⟨.ref s.heap.objs.size, _, I7, rfl, q2⟩
end
section
variable {C : Cy} {pos : Pos}
theorem At.bindW {α β γ δ : Type} {R : RelT α β} {R' : RelT γ δ} {Tm Tm' : Amb} {F : Hp} {σ : St} {Q1 : β → Hp → Prop} {Q' : δ → Hp → Prop} (w : ∀ F H env, Sok C.G Tm' F H σ env → Sok C.G Tm F H σ env) {m : Out α} {k : α → M γ} (h : At C R' Tm F σ Q' (m.bind k))
    (step : ∀ a env b F' H', Le F F' → Sok C.G Tm' F' H' σ env → R Tm' F' H' σ env a b → At C R' Tm F' σ Q' (k a env) → Q1 b H') : At C R Tm' F σ Q1 m := by
  cases m with
  | ok a env => exact fun b F' H' l s r => step a env b F' H' l s r (At.weak l h)
  | ex c fs env => exact fun d F' H' vs l s e r => h d F' H' vs l (w _ _ _ s) e r
  | no => exact h
theorem pairs_atW {γ δ : Type} {R' : RelT γ δ} {Q' : δ → Hp → Prop} {σ : St} {Tm Tm' : Amb} (w : ∀ F H env, Sok C.G Tm' F H σ env → Sok C.G Tm F H σ env) : ∀ {ms : List (M T × M T)} {k : List (T × T) → M γ} {F H : Hp} {env : Env} {QQ : List (V × V) → Hp → Prop}, Sok C.G Tm' F H σ env → At C R' Tm F σ Q' (pairsK ms k env) →
    (∀ ps env1 xs F1 H1, Le F F1 → Sok C.G Tm' F1 H1 σ env1 → RepPP C.G F1 ps xs → At C R' Tm F1 σ Q' (k ps env1) → QQ xs H1) → tPairs (trsOf C ms) σ H QQ
  | [], k, F, H, env, QQ, S, q, step => step [] env [] F H Le.rfl S rfl q
  | p :: ms, k, F, H, env, QQ, S, q, step => by
    refine ⟨Tm', F, env, S, ?_⟩
    refine At.bindW (R' := R') (Q' := Q') w q fun s env1 x F1 H1 le1 S1 r1 q1 => ⟨Tm', F1, env1, S1, ?_⟩
    refine At.bindW (R' := R') (Q' := Q') w q1 fun t env2 y F2 H2 le2 S2 r2 q2 => ?_
    refine pairs_atW w S2 q2 fun ps env3 xs F3 H3 le3 S3 r3 q3 => ?_
    exact step _ env3 _ F3 H3 ((le1.trans le2).trans le3) S3 (show RepPP C.G F3 ((s, t) :: ps) ((x, y) :: xs) from ⟨x, y, xs, rfl, Rep.mono (le2.trans le3) s r1, Rep.mono le3 t r2, r3⟩) q3
def dispST (ms : List (M T × M T)) : T → M Rv
  | .dK kvs => fun env => if kvs.length + 16 ≤ sizeLine then pairsK ms (fun ps => M.of (if ps.length ≤ 15 then (asKs ps).map fun more => .ow (.dK (mergeKT (mergeKT [] kvs) (mergeKT [] more))) else none)) env else .no
  | _ => M.no
def dispSM (f : M T) (ms : List (M T × M T)) : M Rv := M.bind f (dispST ms)
theorem ev_dispS {e : Expr} {f : M T} {keys : List (Option Expr)} {values : List Expr} {ms : List (M T × M T)} (he : EvT C e f) (h : EvPs C pos keys values ms) (hall : keys.all (·.isSome) = true := by rfl) (hl : keys.length = values.length := by rfl) (h0 : keys ≠ [] := by exact fun z => by cases z) (h15 : keys.length ≤ 15 := by decide) :
    EvE C (.Dict (none :: keys) (e :: values) pos) (dispSM f ms) := by
  refine pe_imp (pe_dispS he h hall hl h0 h15) fun σ H Q ⟨Tm, F, env, S, q⟩ p np => ?_
  have S0 := S.withD (o := .dK []) np
  have tD : Tm.h p = none := (S.new np).2
  refine ⟨Tm.with p (.dK []), F, env, S0, At.bindD (R' := RvR C.G) (Q' := Q) tD q fun t env1 x F1 H1 le1 S1 r1 q1 => ?_⟩
  cases t <;> first | exact q1.elim | skip
  rename_i kvs
  unfold dispST at q1
  dsimp only at q1
  by_cases hz : kvs.length + 16 ≤ sizeLine
  case neg =>
    rw [if_neg hz] at q1
    exact q1.elim
  rw [if_pos hz] at q1
  have r1' : Rep C.G F1 (.dK kvs) x := r1
  simp only [Rep] at r1'
  obtain ⟨a, vs, ex, fa, rk⟩ := r1'
  have hp := S1.tm p _ upd_same
  have ne : p ≠ a := fun z => by
    subst z
    rw [hp.2] at fa
    cases fa
  refine ⟨a, vs, ex, ne, hp.1, (S1.sub a _ fa).rd, by rw [rk.len]; exact hz, fun p2 n2 => ?_⟩
  have S2 := S1.chD (u := .dK (mergeK [] vs))
  have tD2 := (S2.new n2).2
  have S3 := S2.withD (o := .dK []) n2
  have ne2 : p ≠ p2 := fun z => by
    subst z
    rw [upd_same] at n2
    cases n2
  refine pairs_atW (fun F H env z => (z.outD tD2).outD tD) S3 q1 fun ps env2 xs F2 H2 le2 S4 r4 q2 => of_some q2 fun w hw q3 => ?_
  split at hw
  · rename_i h5
    obtain ⟨more, em, rfl⟩ := Option.map_eq_some_iff.mp hw
    obtain ⟨ws, ew, rw_⟩ := asKs_rep r4 em
    have hlen := r4.len
    rw [ew, List.length_map] at hlen
    refine ⟨(S4.tm p2 _ upd_same).1, (S4.tm p (.dK (mergeK [] vs)) (by show upd (upd Tm.h p (.dK (mergeK [] vs))) p2 _ p = _; rw [upd_ne ne2, upd_same])).1, ne2, ws, ew, by omega, ?_⟩
    have S5 := (S4.chD (u := .dK (mergeK [] ws))).outD tD2
    have S6 := S5.chD (u := .dK (mergeK (mergeK [] vs) (mergeK [] ws)))
    have nil : RepK C.G F2 [] [] := by simp only [RepK]
    have rm : RepK C.G F2 (mergeKT (mergeKT [] kvs) (mergeKT [] more)) (mergeK (mergeK [] vs) (mergeK [] ws)) := RepK.merge (RepK.merge rw_ nil) (RepK.merge (RepK.mono le2 kvs rk) nil)
    exact q3 (.ref p) F2 _ Le.rfl (S6.outD tD) (RvR.outK S6 tD rm)
  · cases hw
end
end Ev
/-! Ev28: C(**d). -/
namespace Ev
open PySem PySem.Spec L2
section
variable {prog : Program} {w : World} {A : Around} {E : Value → Shared → Prop} {s : Shared}
theorem merge_new {d a : Addr} {more : List (Key × Value)} {Q : Unit → Shared → Prop} (hda : d ≠ a) (low : (a == sysModules) = false) (D : s.heap.DictOf (mixKind prog w) d []) (M : s.heap.DictOf (mixKind prog w) a more) (hz : more.length ≤ sizeLine)
    (q : ∀ h', h'.DictOf (mixKind prog w) d (merged [] more) → h'.DictOf (mixKind prog w) a more → Heap.SameBut d s.heap h' → Q () { s with heap := h' }) : wpAny (model prog w) A (mergeMapping d (.ref a) true) Q E s := by
  have tT := M.typeIs
  have D0 := D
  have M0 := M
  obtain ⟨od, ed, epd, d1, d2, d3, d4, d5, d6⟩ := D
  obtain ⟨ob, es, ep, m1, m2, m3, m4, m5, m6⟩ := M
  have hl : more.length = es.size := by rw [← m5.length, Array.length_toList]
  unfold mergeMapping
  refine wpAny_bind (wpAny_isInstance (U := "dict") tT (b := true) (by rw [isSubtype_type]; kernel_rfl) ?_)
  rw [if_pos rfl]
  refine wpAny_bind (wpAny_specialOf tT PySem.F.slot_dict_iter.lookup ?_)
  have e1 : (some (Value.builtin "dict.__iter__") == some (Value.builtin "dict.__iter__")) = true := by decide +kernel
  rw [e1]
  refine wpAny_bind (wpAny_pure ?_)
  dsimp only
  rw [if_neg (by rw [low]; exact Bool.false_ne_true)]
  have loop : wpAny (model prog w) A (do
      let es' ← dictEntries a
      let size := es'.size
      let epoch ← dictEpoch a
      forIn (List.range size) PUnit.unit fun i __s => do
        let l ← dictEntries a
        match l[i]? with
        | some e => do
          holding [e.key, e.val] (do
            let z ← dictFind d e.key e.hash
            if z.isSome = true then do
                rule "dict.merge.duplicate-key"
                let x ← newExc (.type "KeyError") [e.key]
                raiseNew x
                dictPut d e.hash e.key e.val
              else dictPut d e.hash e.key e.val)
          let ep' ← dictEpoch a
          if (ep' != epoch) = true then do
              unsupported "dict.changed-during-merge"
              pure (ForInStep.yield PUnit.unit)
            else pure (ForInStep.yield PUnit.unit)
        | x => do
          unsupported "dict.changed-during-merge"
          pure (ForInStep.yield PUnit.unit)
      pure () : Sem Unit) Q E s := by
    refine wpAny_bind (wpAny_dictEntries m1 m3 ?_)
    refine wpAny_bind (wpAny_dictEpoch m1 m3 ?_)
    refine wpAny_bind ?_
    refine wpAny_forIn_list _ (fun rest _ s' => ∃ h' i, s' = { s with heap := h' } ∧ rest = (List.range es.size).drop i ∧ i ≤ es.size ∧ h'.DictOf (mixKind prog w) d (merged [] (more.take i)) ∧ h'.get? a = some ob ∧ Heap.SameBut d s.heap h') _ ?_ ?_ _ _
      ⟨s.heap, 0, rfl, rfl, Nat.zero_le _, by simpa [merged] using D0, m1, Heap.SameBut.refl _ _⟩
    · rintro x rest b s' ⟨h', i, rfl, hr, hi, g1, g2, g3⟩
      have lt : i < es.size := by
        rcases Nat.lt_or_ge i es.size with z | z
        · exact z
        · rw [List.drop_eq_nil_of_le (by simpa using z)] at hr
          cases hr
      rw [List.drop_eq_getElem_cons (by simpa using lt)] at hr
      obtain ⟨rfl, rfl⟩ := List.cons.inj hr
      rw [List.getElem_range]
      refine wpAny_bind (wpAny_dictEntries g2 m3 ?_)
      rw [Array.getElem?_eq_getElem lt]
      obtain ⟨⟨k, v⟩, hx⟩ : ∃ p, more[i]? = some p := ⟨_, List.getElem?_eq_getElem (by omega : i < more.length)⟩
      obtain ⟨k1, k2⟩ := m5.get? (e := es[i]) (by simp [lt]) hx
      obtain ⟨k', k3, k4⟩ := m4 es[i] (Array.getElem_mem lt)
      have ek : k' = k := (mixKind prog w).inj _ _ _ k3 k1
      subst ek
      dsimp only
      rw [k4, k2]
      have few : (merged [] (more.take i)).length ≤ sizeLine := by
        have a1 := merged_length_le [] (more.take i)
        have a2 : (more.take i).length ≤ more.length := by rw [List.length_take]; omega
        rw [List.length_nil] at a1
        omega
      have nd : ((more.take i).map (·.1)).Nodup := by rw [List.map_take]; exact m6.sublist (List.take_sublist _ _)
      have nin : k' ∉ (more.take i).map (·.1) := by
        intro z
        rw [List.map_take] at z
        obtain ⟨j, hj, ej⟩ := List.getElem_of_mem z
        have hj2 : j < i := by rw [List.length_take] at hj; omega
        have hi2 : (more.map (·.1))[i]? = some k' := by rw [List.getElem?_map, hx]; rfl
        have hj3 : (more.map (·.1))[j]? = some k' := by
          rw [List.getElem_take] at ej
          rw [List.getElem?_eq_getElem (by rw [List.length_map]; omega), ej]
        have := (List.getElem?_inj (by rw [List.length_map]; omega : i < (more.map (·.1)).length) m6).mp (hi2.trans hj3.symm)
        omega
      obtain ⟨o1, x1, x2, y1, y2, y3, y4, y5, y6⟩ := id g1
      have nf : (x1.findIdx? fun e => (mixKind prog w).is k' e.key) = none := by
        have a1 := y5.findIdx k'
        rw [merged_nil_of_nodup _ nd] at a1
        have a2 : ((more.take i).findIdx? fun kv => decide (kv.1 = k')) = none := by
          rw [List.findIdx?_eq_none_iff]
          intro p hp
          exact decide_eq_false fun z => nin (List.mem_map.mpr ⟨p, hp, z⟩)
        rw [a2] at a1
        rw [← a1]
        cases x1
        simp
      refine wpAny_bind (wpAny_holding (wpAny_bind (wpAny_dictFind_of k1 y1 y3 y4 ?_)))
      rw [nf]
      refine (if_neg (by simp) : (if (none : Option Nat).isSome = true then _ else _) = _) ▸ ?_
      refine (put_at k1 g1 few fun h2 u1 u2 => ?_)
      have g2' : h2.get? a = some ob := (u2.2 a (Ne.symm hda)).trans g2
      refine wpAny_bind (wpAny_dictEpoch g2' m3 ?_)
      rw [if_neg (by simp)]
      exact wpAny_pure ⟨h2, i + 1, rfl, rfl, lt, by rw [merged_take_succ [] more i (k', v) hx]; exact u1, g2', g3.trans u2⟩
    · rintro b s' ⟨h', i, rfl, hr, hi, g1, g2, g3⟩
      have last : i = es.size := by
        rcases Nat.lt_or_ge i es.size with z | z
        · rw [List.drop_eq_getElem_cons (by simpa using z)] at hr
          cases hr
        · omega
      refine wpAny_pure (q h' ?_ ⟨ob, es, ep, g2, m2, m3, m4, m5, m6⟩ g3)
      rw [last, ← hl, List.take_length] at g1
      exact g1
  refine wpAny_bind (wpAny_dictEntries d1 d3 ?_)
  split
  · refine wpAny_bind (wpAny_dictEntries m1 m3 ?_)
    refine wpAny_bind ?_
    rw [← Array.forIn_toList]
    refine wpAny_forIn_list _ (fun rest _ s' => s' = s ∧ ∀ e ∈ rest, e ∈ es.toList) _ ?_ ?_ _ _ ⟨rfl, fun _ h => h⟩
    · rintro x rest b s' ⟨rfl, sub⟩
      obtain ⟨k, k1, k2⟩ := m4 x (by simpa using sub x List.mem_cons_self)
      have nr : ∀ z, x.key ≠ .ref z := fun z e => by
        rcases keyIs_shape k1 with ⟨_, _, _, e2⟩ | ⟨_, _, _, e2⟩ <;> rw [e2] at e <;> cases e
      split
      · rename_i z e
        exact absurd e (nr z)
      · exact wpAny_pure ⟨rfl, fun e he => sub e (List.mem_cons_of_mem _ he)⟩
    · rintro b s' ⟨rfl, _⟩
      exact loop
  · exact loop
theorem merged_kw {f : Value} {t : Sem Value} {Q : Addr → Shared → Prop} (h : wpAny (model prog w) A t (fun m s1 => ∃ a more, m = .ref a ∧ s.heap.objs.size ≠ a ∧ (a == sysModules) = false ∧ s1.heap.DictOf (mixKind prog w) s.heap.objs.size [] ∧ s1.heap.DictOf (mixKind prog w) a more ∧ more.length ≤ sizeLine ∧
    ∀ h', h'.DictOf (mixKind prog w) s.heap.objs.size more → Heap.SameBut s.heap.objs.size s1.heap h' → Q s.heap.objs.size { s1 with heap := h' }) E { s with heap := s.heap.push { cls := .type "dict", data := .dict #[] } }) :
    wpAny (model prog w) A (mergedKeywords f [(none, t)]) Q E s := by
  unfold mergedKeywords
  refine wpAny_bind (wpAny_alloc ?_)
  refine wpAny_bind (wpAny_holding ?_)
  dsimp only
  rw [List.forIn_cons]
  dsimp only
  refine wpAny_bind (wpAny_bind (wpAny_bind ?_))
  rw [if_pos List.isEmpty_nil]
  refine wpAny_pure ?_
  refine wpAny_bind (wpAny_mono h (fun m s1 h1 => ?_) fun _ _ e => e)
  obtain ⟨a, more, rfl, ne, low, D, M, hz, q⟩ := h1
  refine wpAny_bind (wpAny_onRaise (wpAny_holding (wpAny_tryCatch (wpAny_onRaise (merge_new ne low D M hz fun h' d1 d2 hs => ?_)))))
  have nd : (more.map (·.1)).Nodup := by
    obtain ⟨_, _, _, _, _, _, _, _, z⟩ := M
    exact z
  rw [merged_nil_of_nodup _ nd] at d1
  refine wpAny_pure ?_
  dsimp only
  rw [List.forIn_nil]
  refine wpAny_pure ?_
  rw [if_pos List.isEmpty_nil]
  exact wpAny_pure (wpAny_pure (q h' d1 hs))
theorem kw_in {f : Value} {d : Addr} {kvs : List (Str × Value)} {Q : List (Str × Value) → Shared → Prop} (D : s.heap.DictOf (mixKind prog w) d (kvs.map fun p => ((Sum.inr p.1 : Key), p.2))) (q : Q kvs s) : wpAny (model prog w) A (keywordsIn f d) Q E s := by
  obtain ⟨ob, es, ep, m1, m2, m3, m4, m5, m6⟩ := D
  have hl : kvs.length = es.size := by
    have a := m5.length
    rw [List.length_map, Array.length_toList] at a
    exact a.symm
  unfold keywordsIn
  refine wpAny_bind (wpAny_dictEntries m1 m3 ?_)
  dsimp only
  refine wpAny_bind ?_
  rw [← Array.forIn_toList]
  refine wpAny_forIn_list _ (fun rest b s' => s' = s ∧ ∃ i, rest = es.toList.drop i ∧ i ≤ es.size ∧ b = kvs.take i) _ ?_ ?_ _ _ ⟨rfl, 0, rfl, Nat.zero_le _, rfl⟩
  · rintro x rest b s' ⟨rfl, i, hr, hi, rfl⟩
    have lt : i < es.size := by
      rcases Nat.lt_or_ge i es.size with z | z
      · exact z
      · rw [List.drop_eq_nil_of_le (by simpa using z)] at hr
        cases hr
    rw [List.drop_eq_getElem_cons (by simpa using lt)] at hr
    obtain ⟨rfl, rfl⟩ := List.cons.inj hr
    obtain ⟨⟨n, v⟩, hx⟩ : ∃ p, kvs[i]? = some p := ⟨_, List.getElem?_eq_getElem (by omega : i < kvs.length)⟩
    have hx2 : (kvs.map fun p => ((Sum.inr p.1 : Key), p.2))[i]? = some (Sum.inr n, v) := by rw [List.getElem?_map, hx]; rfl
    obtain ⟨k1, k2⟩ := m5.get? (e := es.toList[i]'(by simpa using lt)) (List.getElem?_eq_getElem _) hx2
    have next : kvs.take (i + 1) = kvs.take i ++ [(n, v)] := by rw [List.take_add_one, hx]; rfl
    have k1' : keyIs (Sum.inr n) (es.toList[i]'(by simpa using lt)).key = true := k1
    rcases keyIs_shape k1' with ⟨_, _, z, _⟩ | ⟨y, t, z, e2⟩
    · cases z
    · cases z
      rw [e2]
      dsimp only
      refine wpAny_pure ⟨rfl, i + 1, rfl, lt, ?_⟩
      rw [next, k2]
  · rintro b s' ⟨rfl, i, hr, hi, rfl⟩
    have last : i = es.size := by
      rcases Nat.lt_or_ge i es.size with z | z
      · rw [List.drop_eq_getElem_cons (by simpa using z)] at hr
        cases hr
      · omega
    refine wpAny_pure ?_
    rw [last, ← hl, List.take_length]
    exact q
theorem callWith_star {P : Heap → Prop} {f : Value} {first : List Value} {t : Sem Value} {pos : Pos} {Q : Value → Shared → Prop} (hk : ∀ h, P h → ∃ k, (k = Keeper.frame ∨ k = Keeper.machine ∨ k = Keeper.boundFrame) ∧ PySem.W.Looks (model prog w) h (keeperOf f) k)
    (h : wpAny (model prog w) A (evalArgs f true [] [(none, t)]) (fun a s1 => P s1.heap ∧ wpAny (model prog w) A (call f (first ++ a.pos) a.kw) Q E s1) E s) : wpAny (model prog w) A (callWith pos f first [] [(none, t)]) Q E s := by
  unfold callWith
  refine wpAny_bind (wpAny_holding (wpAny_mono h (fun a s1 h1 => wpAny_bind (wpAny_standAt ?_)) fun _ _ x => x))
  obtain ⟨k, hk', L⟩ := hk _ h1.1
  have st : (([] : List (Bool × Sem Value)).any (·.1) || [((none : Option Str), t)].any (·.1.isNone)) = true := rfl
  simp only [st]
  refine wpAny_bind (L.here ?_)
  have tail : ∀ {z : Sem Value}, wpAny (model prog w) A z Q E s1 → wpAny (model prog w) A (z >>= fun r => holding [r] point >>= fun _ => pure r) Q E s1 := fun hz => wpAny_bind (wpAny_mono hz (fun r s2 hr => wpAny_bind (wpAny_holding (wpAny_point (wpAny_pure hr)))) fun _ _ x => x)
  rcases hk' with rfl | rfl | rfl <;> dsimp only
  · exact tail (by unfold callMarked; exact PySem.Calls.wpAny_keep h1.2)
  · exact tail (wpAny_operateT h1.2)
  · exact tail (wpAny_operateT h1.2)
theorem args_star {f : Value} {t : Sem Value} {Q : Args → Shared → Prop} (h : wpAny (model prog w) A t (fun m s1 => ∃ a kvs, m = .ref a ∧ s.heap.objs.size ≠ a ∧ (a == sysModules) = false ∧ s1.heap.DictOf (mixKind prog w) s.heap.objs.size [] ∧ s1.heap.DictOf (mixKind prog w) a (kvs.map fun p => ((Sum.inr p.1 : Key), p.2)) ∧ kvs.length ≤ sizeLine ∧
    ∀ h', h'.DictOf (mixKind prog w) s.heap.objs.size (kvs.map fun p => ((Sum.inr p.1 : Key), p.2)) → Heap.SameBut s.heap.objs.size s1.heap h' → Q ⟨[], kvs⟩ { s1 with heap := h' }) E { s with heap := s.heap.push { cls := .type "dict", data := .dict #[] } }) :
    wpAny (model prog w) A (evalArgs f true [] [(none, t)]) Q E s := by
  unfold evalArgs
  refine wpAny_bind ?_
  have e0 : wpAny (model prog w) A (spliced []) (fun a s' => a = [] ∧ s' = s) E s := by
    unfold spliced
    exact wpAny_pure ⟨rfl, rfl⟩
  refine wpAny_mono e0 ?_ fun _ _ e => e
  rintro a s' ⟨rfl, rfl⟩
  refine wpAny_bind (wpAny_pure ?_)
  dsimp only
  refine wpAny_holding ?_
  rw [if_neg (by simp)]
  refine wpAny_bind (merged_kw (wpAny_mono h (fun m s1 ⟨a, kvs, e, ne, low, D, M, hz, q⟩ => ⟨a, _, e, ne, low, D, M, by rw [List.length_map]; exact hz, fun h' d1 hs => ?_⟩) fun _ _ e => e))
  refine wpAny_bind (wpAny_pure ?_)
  exact wpAny_bind (wpAny_holding (kw_in d1 (wpAny_pure (q h' d1 hs))))
end
end Ev
/-! Ev29: an instance made by **d. -/
namespace Ev
open PySem PySem.Spec L2
section
variable {C : Cy} {k j ci : Nat} {f : Addr} {fd : FuncData} {ps ks : List Str} {m : Nat} {d : SM} {ix : List Nat} {e : Expr} {x : Str} {p pos kpos : Pos}
theorem RepK.vals {G : Gr} {F : Hp} : ∀ {ts : List (Key × T)} {xs : List (Key × V)}, RepK G F ts xs → RepL G F (ts.map (·.2)) (xs.map (·.2)) ∧ xs.map (·.1) = ts.map (·.1)
  | [], xs, h => by rw [h.nil_]; exact ⟨.nil, rfl⟩
  | (q, t) :: ts, xs, h => by
    obtain ⟨x, r, e1, h1, h2⟩ := h.uncons
    subst e1
    obtain ⟨a, b⟩ := h2.vals
    exact ⟨.cons h1 a, by rw [List.map_cons, List.map_cons, b]⟩
def makeST (ci n : Nat) (d : SM) (m : Nat) (ks : List Str) (ix : List Nat) : T → M Rv
  | .dK kvs => fun env => if kvs.map (·.1) = ks.map Sum.inr then makeA ci n d m ((pick ix (kvs.map (·.2))).map Ar.fz) env else .no
  | _ => M.no
def makeS (ci n : Nat) (d : SM) (m : Nat) (ks : List Str) (ix : List Nat) (g : M T) : M Rv := M.bind g (makeST ci n d m ks ix)
theorem kv_str {ks : List Str} : ∀ {vs : List (Key × V)} {rs : List (Key × Value)}, KV vs rs → vs.map (·.1) = ks.map Sum.inr → rs = (ks.zip (rs.map (·.2))).map (fun p => ((Sum.inr p.1 : Key), p.2)) ∧ Vals (vs.map (·.2)) (rs.map (·.2)) ∧ rs.length = ks.length := by
  induction ks with
  | nil =>
    intro vs rs h e
    cases vs with
    | nil => cases h; exact ⟨rfl, .nil, rfl⟩
    | cons _ _ => cases e
  | cons c ks ih =>
    intro vs rs h e
    cases vs with
    | nil => cases e
    | cons v vs =>
      rw [List.map_cons, List.map_cons] at e
      obtain ⟨e1, e2⟩ := List.cons.inj e
      cases h with
      | @cons _ b _ bs h1 h2 =>
        obtain ⟨i1, i2, i3⟩ := ih h2 e2
        obtain ⟨b1, b2⟩ := b
        have hb : b1 = Sum.inr c := h1.1.symm.trans e1
        refine ⟨?_, .cons h1.2 i2, by rw [List.length_cons, List.length_cons, i3]⟩
        rw [List.map_cons, List.zip_cons_cons, List.map_cons, ← i1, hb]
theorem ev_makeS {g : M T} (MK : Mk C.X.K (C.ca ci) f) (F : FnC C k f fd ps m d) (B : Bk C j) (hj : k + 1 ≤ j) (hm : ps.length ≤ m) (hg : Gl C.X x) (hx : C.X.mg x = some (.ref (C.ca ci)))
    (hb : ∀ (s : Shared) (u : Value) (ws : List Value), ws.length = ks.length → BindsTo s fd ⟨[u], ks.zip ws⟩ (ps.zip (u :: pick ix ws))) (he : EvT C e g) (hkw : backToKw pos (keywordEach [⟨none, e, kpos⟩] C.X.env) = [(none, do let v ← eval e C.X.env; standAt pos; pure v)] := by rfl) (hdb : (x == ("__debug__" : Str)) = false := by decide +kernel) :
    EvE C (.Call (.Name x p) [] [⟨none, e, kpos⟩] pos) (makeS ci ps.length d m ks ix g) := by
  obtain ⟨j', rfl⟩ : ∃ j', j = j' + 1 := ⟨j - 1, by omega⟩
  refine ⟨fun pins s σ H Q I ⟨Tm, F0, env, S, q⟩ => ?_⟩
  refine wpAny_Call_Name_kw (ld_glob I hg hx ?_ hdb)
  rw [hkw]
  refine callWith_star (first := []) (P := C.X.K.In) (fun h X => PySem.W.keeps_K MK.kp h X) (args_star ?_)
  have fr := I.hok.fresh (Nat.le_refl s.heap.objs.size)
  have I1 := I.laid (a := s.heap.objs.size) (o := .dK []) (h' := s.heap.push { cls := .type "dict", data := .dict #[] }) (t' := s.toks) (fun _ _ z => Heap.get?_push_of_some _ z) (Nat.le_refl _) (dk_empty s.heap I.big)
  have tD : Tm.h s.heap.objs.size = none := (S.new fr).2
  have q1 : tG C (TR C.G) g σ (upd H s.heap.objs.size (.dK [])) fun y H1 => ∃ a vs, y = .ref a ∧ s.heap.objs.size ≠ a ∧ H1 s.heap.objs.size = some (.dK []) ∧ Rd H1 a (.dK vs) ∧ vs.map (·.1) = ks.map Sum.inr ∧
      ∀ x dx, upd H1 s.heap.objs.size (.dK vs) x = none → upd H1 s.heap.objs.size (.dK vs) dx = none → dx ≠ x → spT C.G ps.length m d (.ref x :: pick ix (vs.map (·.2))) (upd (upd (upd H1 s.heap.objs.size (.dK vs)) dx (.own x)) x (.ins (C.ca ci) dx [])) (fun v H2 => v = .non ∧ Q (.ref x) H2) (fun cls dd H' => C.W cls dd σ H') := by
    refine ⟨Tm.with s.heap.objs.size (.dK []), F0, env, S.withD fr, At.bindD (R' := RvR C.G) (Q' := Q) tD q fun t env1 y F1 H1 le1 S1 r1 q2 => ?_⟩
    cases t <;> first | exact q2.elim | skip
    rename_i kvs
    unfold makeST at q2
    dsimp only at q2
    by_cases hz : kvs.map (·.1) = ks.map Sum.inr
    case neg =>
      rw [if_neg hz] at q2
      exact q2.elim
    rw [if_pos hz] at q2
    have r1' : Rep C.G F1 (.dK kvs) y := r1
    simp only [Rep] at r1'
    obtain ⟨a, vs, ex, fa, rk⟩ := r1'
    have hp := S1.tm s.heap.objs.size _ upd_same
    have ne : s.heap.objs.size ≠ a := fun z => by
      rw [← z, hp.2] at fa
      cases fa
    obtain ⟨v1, v2⟩ := rk.vals
    refine ⟨a, vs, ex, ne, hp.1, (S1.sub a _ fa).rd, by rw [v2]; exact hz, fun x dx nx nd nxd => ?_⟩
    have S2 := (S1.chD (u := .dK vs)).outD tD
    exact make_sp hm S2 (ArL.consts (pick_rep v1 ix)) q2 nx nd nxd
  refine wpAny_bind (thn (he.run pins _ σ _ _ I1 q1) fun u s1 ⟨y, H1, I2, ry, a, vs, ey, ne, e1, e2, hk, h⟩ => wpAny_bind (wpAny_standAt (wpAny_pure ?_)))
  subst ey
  obtain rfl : u = Value.ref a := ry
  obtain ⟨z1, low1, vs1, rel1, dd1⟩ := dk_of I2.hok e1
  cases rel1
  obtain ⟨z2, low2, rs, rel2, dd2⟩ := dk_rd I2.hok e2
  obtain ⟨er, rv, rl⟩ := kv_str (ks := ks) rel2 hk
  have lw : (rs.map (·.2)).length = ks.length := by rw [List.length_map, rl]
  have lz : (ks.zip (rs.map (·.2))).length ≤ sizeLine := by
    have a1 := rel2.length
    rw [List.length_zip, lw]
    omega
  refine ⟨a, ks.zip (rs.map (·.2)), rfl, ne, low2, dd1, by rw [← er]; exact dd2, lz, fun h' dd' hs => ?_⟩
  rw [← er] at dd'
  have hh : ∃ q, h'.get? s.heap.objs.size = some q := let ⟨q, _, _, hq, _⟩ := dd'; ⟨q, hq⟩
  have I3 := d_write (t' := s1.toks) I2 (by rw [e1]; exact True.intro) hs hh (dk_new z2 low1 rel2 dd')
  refine ⟨I3.kIn, ?_⟩
  have hq := h (h'.objs.size + 1) h'.objs.size (I3.hok.fresh (Nat.le_succ _)) (I3.hok.fresh (Nat.le_refl _)) (Nat.ne_of_lt (Nat.lt_succ_self _))
  have I4 := Inv.made (C := C.ca ci) I3
  have r2 : Vals (V.ref (h'.objs.size + 1) :: pick ix (vs.map (·.2))) (Value.ref (h'.objs.size + 1) :: pick ix (rs.map (·.2))) := .cons rfl (pick_vals rv ix)
  refine wpAny_call (make_map (f := f) I3.kIn MK.makes MK.init (beq_iff_eq.mp MK.fn) (codeAny_mono ((F.up (by omega : k ≤ j')).go (B.room.make (C.ca ci) [] (ks.zip (rs.map (·.2)))) B.grd (I4.env0.make (C.ca ci) [] (ks.zip (rs.map (·.2)))) (hb _ (Value.ref (h'.objs.size + 1)) (rs.map (·.2)) lw) r2 hq) fun r s' hq' => ?_))
  match r, hq' with
  | .error e, hq' => exact B.tk _ _ (XE.of_call I4 (fun _ _ _ z => z) hq')
  | .ok (.ret u), hq' =>
    obtain ⟨v, H', I5, rv, ev, q3⟩ := I4.after hq'
    subst ev
    exact ⟨rv, ⟨V.ref (h'.objs.size + 1), H', I5, rfl, q3⟩⟩
  | .ok .next, hq' => exact False.elim hq'
  | .ok .brk, hq' => exact False.elim hq'
  | .ok .cont, hq' => exact False.elim hq'
end
end Ev
/-! Ev30: dict(d), list(d), len(d). -/
namespace Ev
open PySem PySem.Spec L2
section
variable {C : Cy}
def dictT : T → Option Rv
  | .dK kvs => some (.ow (.dK kvs))
  | _ => none
theorem ok_dictc : Call1Ok C (.type "dict") dictT := by
  refine ⟨_, call_dictD, fun {Tm F H σ env x t w Q} S p hw q => ?_⟩
  cases t <;> first | (cases hw; done) | skip
  rename_i kvs
  cases hw
  obtain ⟨a, xs, ex, hq, rk⟩ := pk_dK S p
  refine ⟨a, xs, by rw [ex], hq.rd, fun p2 n2 => ?_⟩
  exact q _ F _ Le.rfl (S.alloc n2) (RvR.new S n2 ⟨_, rfl, rk⟩)
def keyT : Key → T
  | .inl i => .int i
  | .inr s => .str s
theorem keys_rep {G : Gr} {F : Hp} : ∀ {ts : List (Key × T)} {xs : List (Key × V)}, RepK G F ts xs → RepL G F (ts.map fun p => keyT p.1) (xs.map fun p => kV p.1)
  | [], xs, h => by rw [h.nil_]; exact .nil
  | (k, t) :: ts, xs, h => by
    obtain ⟨x, r, e1, h1, h2⟩ := h.uncons
    subst e1
    refine .cons ?_ (keys_rep h2)
    cases k with
    | inl i => exact mk_int i
    | inr z => exact mk_str z
def listKT : T → Option Rv
  | .dK kvs => some (.ow (.lst (kvs.map fun p => keyT p.1)))
  | _ => none
theorem ok_listK (hc : C.X.calm = true) : Call1Ok C (.type "list") listKT := by
  refine ⟨_, call_listD hc, fun {Tm F H σ env x t w Q} S p hw q => ?_⟩
  cases t <;> first | (cases hw; done) | skip
  rename_i kvs
  cases hw
  obtain ⟨a, xs, ex, hq, rk⟩ := pk_dK S p
  refine ⟨a, xs, by rw [ex], hq.rd, fun p2 n2 => ?_⟩
  exact q _ F _ Le.rfl (S.alloc n2) (RvR.new S n2 ⟨_, rfl, keys_rep rk⟩)
end
end Ev
/-! Ev31: dicts walked: by keys, by items. -/
namespace Ev
open PySem PySem.Spec L2
abbrev Lk : Type := Addr → Option (Obj × HO)
abbrev Amb.lks (Tm : Amb) (l : Lk) : Amb := { Tm with l := l }
section
variable {G : Gr} {Tm : Amb} {F H : Hp} {σ : St} {env : Env} {l' : Lk}
theorem Sok.unlk (S : Sok G (Tm.lks l') F H σ env) (h : ∀ a o, Tm.l a = some o → l' a = some o) : Sok G Tm F H σ env :=
  ⟨S.sub, S.tm, S.len, S.slot, S.apart, S.tmo, fun a o e => S.lk a o (h a o e), S.pio⟩
def addL (l : Lk) (a : Addr) (o : Obj) (u : HO) : Lk := fun b => if b = a then some (o, u) else l b
theorem addL_same {l : Lk} {a : Addr} {o : Obj} {u : HO} : addL l a o u a = some (o, u) := if_pos rfl
theorem addL_ne {l : Lk} {a b : Addr} {o : Obj} {u : HO} (h : b ≠ a) : addL l a o u b = l b := if_neg h
/-- a frozen dict is locked -/
theorem Sok.lock (S : Sok G Tm F H σ env) {a : Addr} {o : Obj} {u : HO} (hu : isDk u = true) (fa : F a = some u) (ha : H a = some u) : Sok G (Tm.lks (addL Tm.l a o u)) F (upd H a (.frz o u)) σ env := by
  refine ⟨fun b v e => ?_, fun b v e => ?_, S.len, fun i s e => ?_, S.apart, S.tmo, fun b v e => ?_, S.pio⟩
  · by_cases hb : b = a
    · subst hb
      rw [fa] at e
      cases e
      exact .inr ⟨hu, o, upd_same⟩
    · rcases S.sub b v e with q | ⟨q1, ob, q⟩
      · exact .inl (by rw [upd_ne hb]; exact q)
      · exact .inr ⟨q1, ob, by rw [upd_ne hb]; exact q⟩
  · have q := S.tm b v e
    have hb : b ≠ a := fun z => by
      rw [z, fa] at q
      cases q.2
    exact ⟨by rw [upd_ne hb]; exact q.1, q.2⟩
  · obtain ⟨x, hx, k⟩ := S.slot i s e
    refine ⟨x, hx, ?_⟩
    have mv : ∀ {t : T}, (∃ b ob, x = some (.ref b) ∧ H b = some ob ∧ F b = none ∧ Top G F ob t) → ∃ b ob, x = some (.ref b) ∧ upd H a (.frz o u) b = some ob ∧ F b = none ∧ Top G F ob t := fun ⟨b, ob, e1, e2, e3, e4⟩ => by
      have hb : b ≠ a := fun z => by
        rw [z, fa] at e3
        cases e3
      exact ⟨b, ob, e1, by rw [upd_ne hb]; exact e2, e3, e4⟩
    cases s with
    | un => exact k
    | fz t => exact k
    | ow t => exact mv k
    | io t => exact mv k
  · by_cases hb : b = a
    · subst hb
      have e' : addL Tm.l b o u b = some v := e
      rw [addL_same] at e'
      cases e'
      exact ⟨upd_same, by rw [fa]; exact fun z => nomatch z⟩
    · have e' : addL Tm.l a o u b = some v := e
      rw [addL_ne hb] at e'
      rw [upd_ne hb]
      exact S.lk b v e'
/-- one that is locked already is noted -/
theorem Sok.lockn (S : Sok G Tm F H σ env) {a : Addr} {o : Obj} {u : HO} (fa : F a = some u) (ha : H a = some (.frz o u)) : Sok G (Tm.lks (addL Tm.l a o u)) F H σ env := by
  refine ⟨S.sub, S.tm, S.len, S.slot, S.apart, S.tmo, fun b v e => ?_, S.pio⟩
  by_cases hb : b = a
  · subst hb
    have e' : addL Tm.l b o u b = some v := e
    rw [addL_same] at e'
    cases e'
    exact ⟨ha, by rw [fa]; exact fun z => nomatch z⟩
  · have e' : addL Tm.l a o u b = some v := e
    rw [addL_ne hb] at e'
    exact S.lk b v e'
end
/-- what an outcome asks of a walk, with more locks -/
def AtW (C : Cy) (Tm : Amb) (F : Hp) (σ : St) (R : It → Hp → Prop) : Out (List T) → Prop
  | .ok ts env => ∀ J F' H' l' lk, Le F F' → (∀ a o, Tm.l a = some o → l' a = some o) → (∀ p ∈ lk, l' p.1 = some p.2) → Sok C.G (Tm.lks l') F' H' σ env → Wk C.G J ts F' lk → R J H'
  | .ex c fs env => ∀ d F' H' vs, Le F F' → Sok C.G Tm F' H' σ env → H' d = some (.xd vs) → RepF C.G F' fs vs → C.W (.ref (C.ca c)) (some d) σ H'
  | .no => False
def tW (C : Cy) (f : M (List T)) : TI := fun σ H R => ∃ Tm F env, Sok C.G Tm F H σ env ∧ AtW C Tm F σ R (f env)
abbrev EvJ (C : Cy) (tg e : Expr) (f : M (List T)) : Prop := PI C.X tg e (tW C f)
section
variable {C : Cy} {tg e : Expr}
theorem ej_up {f : M (List T)} (h : EvI C tg e f) : EvJ C tg e f := by
  refine pi_imp h fun σ H R ⟨Tm, F, env, S, q⟩ => ⟨Tm, F, env, S, ?_⟩
  revert q
  cases f env with
  | ok ts env1 => exact fun q J F' H' le S' w => q J F' H' Tm.l [] le (fun _ _ h => h) (fun _ h => nomatch h) S' w
  | ex c fs env1 => exact fun q => q
  | no => exact fun q => q
theorem AtS.lks {Tm : Amb} {F : Hp} {D : Ends} {l' : Lk} (h : ∀ a o, Tm.l a = some o → l' a = some o) : ∀ {m : SO}, AtS C Tm F D m → AtS C (Tm.lks l') F D m
  | .nx env, q => fun σ F2 H2 l s => q σ F2 H2 l (s.unlk h)
  | .rt r env, q => fun x σ F2 H2 l s k => q x σ F2 H2 l (s.unlk h) (by cases r <;> exact k)
  | .bk env, q => fun σ F2 H2 l s => q σ F2 H2 l (s.unlk h)
  | .ct env, q => fun σ F2 H2 l s => q σ F2 H2 l (s.unlk h)
  | .ex c fs env, q => fun d σ F2 H2 vs l s e r => q d σ F2 H2 vs l (s.unlk h) e r
  | .no, q => q
theorem e_forJ {iter : Expr} {body : List Stmt} {f : M (List T)} {js : List Nat} {g : TM} {b : SM} {pos : Pos} (hp : Own C) (hc : C.X.calm = true) (hi : EvJ C tg iter f) (hg : EvG C tg js g) (hb : EvSs C body b)
    (hs : ∀ x, foldedSetIterable iter C.X.env x = pure x := by intro _; rfl) : EvS C (.For tg iter body [] pos) (forS f g b) := by
  refine ps_imp (ps_for hp hc hi hg hb hs) fun D σ H ⟨Tm, F, env, S, q⟩ => ⟨Tm, F, env, S, ?_⟩
  have q' : AtS C Tm F D (exprS f (fun ts => loopS g b ts) env) := q
  unfold exprS at q'
  cases hf : f env with
  | no =>
    rw [hf] at q'
    exact q'.elim
  | ex c fs env1 =>
    rw [hf] at q'
    exact fun d F' H' vs l S e r => q' d σ F' H' vs l S e r
  | ok ts env1 =>
  rw [hf] at q'
  intro J F1 H1 l' lk le1 hl hlk S1 w
  refine ⟨fun i m σ H => m = ts.length - i ∧ i ≤ ts.length ∧ ∃ F2 env2, Le F1 F2 ∧ Sok C.G (Tm.lks l') F2 H σ env2 ∧ AtS C (Tm.lks l') F2 D (loopS g b (ts.drop i) env2), ⟨ts.length, by simp, Nat.zero_le _, F1, env1, Le.rfl, S1, (AtS.weak le1 q').lks hl⟩, ?_⟩
  rintro i m σ2 H2 ⟨rfl, hi, F2, env2, le2, S2, q2⟩
  by_cases hlt : i < ts.length
  · refine .inr ⟨w.go i _ F2 H2 σ2 env2 hlt le2 S2 hlk, fun σ' H' => ∃ F3 env3, Le F1 F3 ∧ Sok C.G (Tm.lks l') F3 H' σ' env3 ∧ AtS C (Tm.lks l') F3 D (loopS g b (ts.drop (i + 1)) env3), fun σ' H' ⟨F3, env3, l3, S3, q3⟩ => ⟨_, (by omega : ts.length - (i + 1) < ts.length - i), rfl, hlt, F3, env3, l3, S3, q3⟩, fun x H' y => ?_⟩
    obtain ⟨F3, t, l3, S3, ht, rt, _⟩ := w.yld i _ F2 H2 σ2 env2 x H' hlt le2 S2 hlk y
    have ed : ts.drop i = t :: ts.drop (i + 1) := by
      have h2 := List.getElem?_eq_some_iff.mp ht
      rw [List.drop_eq_getElem_cons hlt, h2.2]
    rw [ed] at q2
    simp only [loopS] at q2
    cases e1 : g t env2 with
    | none =>
      rw [e1] at q2
      exact q2.elim
    | some env3 =>
      rw [e1] at q2
      refine ⟨_, F3, env2, t, env3, S3, rt, e1, fun σ' S' _ => ⟨_, F3, env3, S', ?_⟩⟩
      dsimp only at q2
      cases e2 : b env3 with
      | nx env4 =>
        rw [e2] at q2
        exact fun σ4 F4 H4 l4 S4 => ⟨F4, env4, (le2.trans l3).trans l4, S4, AtS.weak (l3.trans l4) q2⟩
      | ct env4 =>
        rw [e2] at q2
        exact fun σ4 F4 H4 l4 S4 => ⟨F4, env4, (le2.trans l3).trans l4, S4, AtS.weak (l3.trans l4) q2⟩
      | bk env4 =>
        rw [e2] at q2
        exact AtS.weak (m := .nx env4) l3 q2
      | rt r env4 =>
        rw [e2] at q2
        exact AtS.weak (m := .rt r env4) l3 q2
      | ex c fs env4 =>
        rw [e2] at q2
        exact AtS.weak (m := .ex c fs env4) l3 q2
      | no =>
        rw [e2] at q2
        exact q2.elim
  · have e : i = ts.length := by omega
    subst e
    refine .inl ⟨w.stop _ F2 H2 σ2 env2 le2 S2 hlk, ?_⟩
    rw [List.drop_length] at q2
    exact q2 σ2 F2 H2 Le.rfl S2
end

/-! ### the walks -/
section
variable {G : Gr} {F : Hp}
theorem RepK.getI : ∀ {ts : List (Key × T)} {xs : List (Key × V)} {i : Nat} {k : Key} {x : V}, RepK G F ts xs → xs[i]? = some (k, x) → ∃ t, ts[i]? = some (k, t) ∧ Rep G F t x
  | [], xs, i, k, x, h, e => by rw [h.nil_] at e; simp at e
  | (j, t) :: ts, xs, 0, k, x, h, e => by
    obtain ⟨y, r, e1, h1, h2⟩ := h.uncons
    subst e1
    simp at e
    obtain ⟨rfl, rfl⟩ := e
    exact ⟨t, rfl, h1⟩
  | (j, t) :: ts, xs, i + 1, k, x, h, e => by
    obtain ⟨y, r, e1, h1, h2⟩ := h.uncons
    subst e1
    simpa using RepK.getI (i := i) h2 (by simpa using e)
theorem RepK.mono' {F' : Hp} (h : Le F F') {ts : List (Key × T)} {xs : List (Key × V)} (r : RepK G F ts xs) : RepK G F' ts xs := RepK.mono h ts r
theorem key_rep (k : Key) : Rep G F (keyT k) (kV k) := by
  cases k with
  | inl i => exact mk_int i
  | inr s => exact mk_str s
theorem wk_keys {d : Addr} {o : Obj} {vs : List (Key × V)} {ts : List (Key × T)} (r : RepK G F ts vs) : Wk G (Itk d o vs) (ts.map fun p => keyT p.1) F [(d, (o, .dK vs))] := by
  have hl : ts.length = vs.length := r.len.symm
  refine ⟨fun i Tm F2 H σ env hi le S hk => ?_, fun i Tm F2 H σ env x H' hi le S hk y => ?_, fun Tm F2 H σ env le S hk => ?_⟩
  · exact ⟨(S.lk d _ (hk _ List.mem_cons_self)).1, by rw [List.length_map] at hi; omega⟩
  · obtain ⟨e, k, v, hv, ex⟩ := y
    subst e
    obtain ⟨t, ht, rt⟩ := r.getI hv
    exact ⟨F2, keyT k, Le.rfl, S, by rw [List.getElem?_map, ht]; rfl, by rw [ex]; exact key_rep k, fun _ _ h => h⟩
  · exact ⟨(S.lk d _ (hk _ List.mem_cons_self)).1, by rw [List.length_map]; omega⟩
theorem wk_items {d : Addr} {o : Obj} {vs : List (Key × V)} {ts : List (Key × T)} (r : RepK G F ts vs) : Wk G (Iti d o vs) (ts.map fun p => T.tup [keyT p.1, p.2]) F [(d, (o, .dK vs))] := by
  have hl : ts.length = vs.length := r.len.symm
  refine ⟨fun i Tm F2 H σ env hi le S hk => ?_, fun i Tm F2 H σ env x H' hi le S hk y => ?_, fun Tm F2 H σ env le S hk => ?_⟩
  · exact ⟨(S.lk d _ (hk _ List.mem_cons_self)).1, by rw [List.length_map] at hi; omega⟩
  · obtain ⟨p, k, v, hv, ex, np, e⟩ := y
    subst e
    obtain ⟨t, ht, rt⟩ := r.getI hv
    have l2 := Le.upd (o := .tup [kV k, v]) (S.new np).1
    refine ⟨_, T.tup [keyT k, t], l2, S.allocF np, by rw [List.getElem?_map, ht]; rfl, ?_, fun a u h => by rw [upd_ne (ne_of_none h np)]; exact h⟩
    rw [ex]
    simp only [Rep]
    exact ⟨p, _, rfl, .inl (.inl upd_same), .cons (key_rep k) (.cons (Rep.mono (le.trans l2) t rt) .nil)⟩
  · exact ⟨(S.lk d _ (hk _ List.mem_cons_self)).1, by rw [List.length_map]; omega⟩
end
/-- behind the evaluation of a dict: it is locked, if it is not yet -/
def tLk (td : TE) : TE := fun σ H Q => td σ H fun x H1 => ∃ d kvs, x = .ref d ∧ ((∃ o, H1 d = some (.frz o (.dK kvs)) ∧ Q x H1) ∨ (H1 d = some (.dK kvs) ∧ ∀ o, Q x (upd H1 d (.frz o (.dK kvs)))))
theorem pe_lk {X : Cx} {e : Expr} {td : TE} (he : PE X e td) : PE X e (tLk td) := by
  refine ⟨fun pins s σ H Q I h => thn (he.run pins s σ H _ I h) fun u s1 ⟨x, H0, I0, rx, d, kvs, ex, q0⟩ => ?_⟩
  rcases q0 with ⟨o, h, q⟩ | ⟨h, q⟩
  · exact ⟨x, H0, I0, rx, q⟩
  · obtain ⟨o, I1⟩ := I0.lock h True.intro
    exact ⟨x, _, I1, rx, q o⟩
def keysT : T → Option (List T)
  | .dK kvs => some (kvs.map fun p => keyT p.1)
  | _ => none
def itemsT : T → Option (List T)
  | .dK kvs => some (kvs.map fun p => .tup [keyT p.1, p.2])
  | _ => none
section
variable {C : Cy} {tg e : Expr} {apos cpos : Pos}
theorem lock_at {Tm : Amb} {F : Hp} {H1 : Hp} {σ : St} {env : Env} {R : It → Hp → Prop} {d : Addr} {vs : List (Key × V)} {J : Obj → It} {ts : List T} {P : Hp → Prop} (S : Sok C.G Tm F H1 σ env) (fd : F d = some (.dK vs)) (w : ∀ o, Wk C.G (J o) ts F [(d, (o, .dK vs))])
    (hP : ∀ o H2, H2 d = some (.frz o (.dK vs)) → R (J o) H2 → P H2) (q : AtW C Tm F σ R (.ok ts env)) : (∃ o, H1 d = some (.frz o (.dK vs)) ∧ P H1) ∨ (H1 d = some (.dK vs) ∧ ∀ o, P (upd H1 d (.frz o (.dK vs)))) := by
  have hk : ∀ (o : Obj), ∀ p ∈ [(d, (o, HO.dK vs))], addL Tm.l d o (.dK vs) p.1 = some p.2 := fun o p hp => by
    rcases List.mem_cons.mp hp with rfl | hp
    · exact addL_same
    · cases hp
  rcases S.sub d _ fd with h | ⟨_, o, h⟩
  · refine .inr ⟨h, fun o => hP o _ upd_same <| q (J o) F _ (addL Tm.l d o (.dK vs)) _ Le.rfl (fun a z e => ?_) (hk o) (S.lock rfl fd h) (w o)⟩
    by_cases hb : a = d
    · subst hb
      have := (S.lk a z e).1
      rw [h] at this
      cases this
    · rw [addL_ne hb]
      exact e
  · refine .inl ⟨o, h, hP o _ h <| q (J o) F _ (addL Tm.l d o (.dK vs)) _ Le.rfl (fun a z e => ?_) (hk o) (S.lockn fd h) (w o)⟩
    by_cases hb : a = d
    · subst hb
      obtain ⟨z1, z2⟩ := z
      have := (S.lk a (z1, z2) e).1
      rw [h] at this
      cases this
      exact addL_same
    · rw [addL_ne hb]
      exact e
theorem AtW.weak {Tm : Amb} {F F' : Hp} {σ : St} {R : It → Hp → Prop} (h : Le F F') : ∀ {m : Out (List T)}, AtW C Tm F σ R m → AtW C Tm F' σ R m
  | .ok a env, q => fun J F2 H2 l' lk l a b s r => q J F2 H2 l' lk (h.trans l) a b s r
  | .ex c fs env, q => fun d F2 H2 vs l s e r => q d F2 H2 vs (h.trans l) s e r
  | .no, q => q
theorem AtW.bind {α β : Type} {R' : RelT α β} {Tm : Amb} {F : Hp} {σ : St} {R : It → Hp → Prop} {Q : β → Hp → Prop} {m : Out α} {k : α → M (List T)} (h : AtW C Tm F σ R (m.bind k))
    (step : ∀ a env b F' H', Le F F' → Sok C.G Tm F' H' σ env → R' Tm F' H' σ env a b → AtW C Tm F' σ R (k a env) → Q b H') : At C R' Tm F σ Q m := by
  cases m with
  | ok a env => exact fun b F' H' l s r => step a env b F' H' l s r (AtW.weak l h)
  | ex c fs env => exact h
  | no => exact h
theorem ej_keys {f : M T} (h : EvT C e f) : EvJ C tg e (M.bind f fun t => M.of (keysT t)) := by
  refine pi_imp (pi_keys (pe_lk h)) fun σ H R ⟨Tm, F, env, S, q⟩ => ⟨Tm, F, env, S, ?_⟩
  refine AtW.bind (R' := TR C.G) (k := fun t => M.of (keysT t)) q fun t env1 x F1 H1 le1 S1 r1 q1 => ?_
  cases t <;> first | exact q1.elim | skip
  rename_i kvs
  have r1' : Rep C.G F1 (.dK kvs) x := r1
  simp only [Rep] at r1'
  obtain ⟨d, vs, ex, fd, rk⟩ := r1'
  exact ⟨d, vs, ex, lock_at (P := fun H2 => ∃ d o, x = .ref d ∧ ((∃ kvs, H2 d = some (.frz o (.dK kvs)) ∧ R (Itk d o kvs) H2) ∨ ∃ kvs, H2 d = some (.frz o (.dT kvs)) ∧ R (Itkt d o kvs) H2)) S1 fd (fun o => wk_keys (d := d) (o := o) rk) (fun o H2 hd r => ⟨d, o, ex, .inl ⟨vs, hd, r⟩⟩) q1⟩
theorem ej_items {elts : List Expr} {kk : Nat} {tpos : Pos} {f : M T} (h : EvT C e f) (hbase : attributeBase e "items" C.X.env (eval e C.X.env) = eval e C.X.env := by rfl) (hline : (apos.endLine == cpos.line) = true := by rfl) :
    EvJ C (.Tuple elts kk tpos) (.Call (.Attribute e "items" apos) [] [] cpos) (M.bind f fun t => M.of (itemsT t)) := by
  refine pi_imp (pi_items (pe_lk h) hbase hline) fun σ H R ⟨Tm, F, env, S, q⟩ => ⟨Tm, F, env, S, ?_⟩
  refine AtW.bind (R' := TR C.G) (k := fun t => M.of (itemsT t)) q fun t env1 x F1 H1 le1 S1 r1 q1 => ?_
  cases t <;> first | exact q1.elim | skip
  rename_i kvs
  have r1' : Rep C.G F1 (.dK kvs) x := r1
  simp only [Rep] at r1'
  obtain ⟨d, vs, ex, fd, rk⟩ := r1'
  exact ⟨d, vs, ex, lock_at (P := fun H2 => ∃ d o kvs, x = .ref d ∧ H2 d = some (.frz o (.dK kvs)) ∧ R (Iti d o kvs) H2) S1 fd (fun o => wk_items (d := d) (o := o) rk) (fun o H2 hd r => ⟨d, o, vs, ex, hd, r⟩) q1⟩
end
end Ev
/-! Ev32: comprehensions over dicts. -/
namespace Ev
open PySem PySem.Spec L2
section
variable {C : Cy} {elt tg iter : Expr} {ifs : List Expr} {scope : Scope} {own : List (Str × Nat)} {pos : Pos} {f : M (List T)} {js : List Nat} {g : TM} {tt : M Bool} {m : M T}
theorem comp_coreJ {σ : St} {H : Hp} {Q : VK} {vs : List Nat} (hj : ∀ j ∈ js, j ∈ vs) (hq : tG C (RvR C.G) (compM f g tt m vs) σ H Q) :
    tLc (tW C f) (tGt C.G js g) (tG C.fl BR tt) (tG C.fl (TR C.G) m) vs σ H Q := by
  obtain ⟨Tm, F, env, S, q⟩ := hq
  refine ⟨Tm, F, env, S, ?_⟩
  have q' : At C (RvR C.G) Tm F σ Q ((f env).bind fun ts => if ts.length ≤ sizeLine then M.bind (compL g tt m vs ts) fun us => M.pure (.ow (.lst us)) else M.no) := q
  cases hf : f env with
  | no =>
    rw [hf] at q'
    exact q'.elim
  | ex c fs env1 =>
    rw [hf] at q'
    exact q'
  | ok ts env1 =>
  rw [hf] at q'
  intro J F1 H1 l' lk le1 hl hlk S1 w
  have q1 : At C (RvR C.G) Tm F1 σ Q ((if ts.length ≤ sizeLine then M.bind (compL g tt m vs ts) fun us => M.pure (.ow (.lst us)) else M.no) env1) := At.weak le1 q'
  intro D nD
  by_cases hz : ts.length ≤ sizeLine
  case neg =>
    rw [if_neg hz] at q1
    exact q1.elim
  rw [if_pos hz] at q1
  have q2 : At C (RvR C.G) Tm F1 σ Q ((compL g tt m vs ts env1).bind fun us => M.pure (.ow (.lst us))) := q1
  have tD : Tm.h D = none := (S1.new nD).2
  refine ⟨fun i k H => k = ts.length - i ∧ i ≤ ts.length ∧ ∃ F2 env2 acc us, Le F1 F2 ∧ acc.length ≤ i ∧ Sok C.G ((Tm.lks l').with D (.lst acc)) F2 H σ env2 ∧ RepL C.G F2 us acc ∧
    At C (RvR C.G) Tm F2 σ Q ((compL g tt m vs (ts.drop i) env2).bind fun ws => M.pure (.ow (.lst (us ++ ws)))), ⟨ts.length, by simp, Nat.zero_le _, F1, env1, [], [], Le.rfl, Nat.zero_le _, S1.withD nD, .nil, q2⟩, ?_⟩
  rintro i k H2 ⟨rfl, hi, F2, env2, acc, us, le2, hacc, S2, racc, q3⟩
  by_cases hlt : i < ts.length
  · refine .inr ⟨w.go i _ F2 H2 σ env2 hlt le2 S2 hlk, fun H' => ∃ F5 env5 acc5 us5, Le F1 F5 ∧ acc5.length ≤ i + 1 ∧ Sok C.G ((Tm.lks l').with D (.lst acc5)) F5 H' σ env5 ∧ RepL C.G F5 us5 acc5 ∧
      At C (RvR C.G) Tm F5 σ Q ((compL g tt m vs (ts.drop (i + 1)) env5).bind fun ws => M.pure (.ow (.lst (us5 ++ ws)))), fun H' ⟨F5, env5, acc5, us5, l5, h5, S5, r5, q5⟩ => ⟨_, (by omega : ts.length - (i + 1) < ts.length - i), rfl, hlt, F5, env5, acc5, us5, l5, h5, S5, r5, q5⟩, fun x H' y => ?_⟩
    obtain ⟨F3, t, l3, S3, ht, rt, _⟩ := w.yld i _ F2 H2 σ env2 x H' hlt le2 S2 hlk y
    have ed : ts.drop i = t :: ts.drop (i + 1) := by
      have h2 := List.getElem?_eq_some_iff.mp ht
      rw [List.drop_eq_getElem_cons hlt, h2.2]
    rw [ed] at q3
    simp only [compL] at q3
    cases ho : okE env2 vs with
    | false =>
      rw [ho] at q3
      exact q3.elim
    | true =>
      rw [ho] at q3
      dsimp only at q3
      have S4 := S3.enter (vs := vs) ho
      cases e1 : g t (unE vs env2) with
      | none =>
        rw [e1] at q3
        exact q3.elim
      | some env3 =>
        rw [e1] at q3
        dsimp only at q3
        refine ⟨_, F3, _, t, env3, S4, rt, e1, fun σ5 S5 k5 => ?_⟩
        have kk : ∀ j, j ∉ vs → σ5[j]? = σ[j]? := fun j hn => (k5.2 j fun z => hn (hj j z)).trans (wipe_out hn)
        have hl5 : σ5.length = σ.length := k5.1.trans (wipe_length _ _)
        have back : ∀ {F6 H6 : Hp} {env6 : Env} {acc6 : List V} {o : HO}, Le F2 F6 → Sok C.G ((Tm.lks l').with D o) F6 H6 σ5 env6 → Sok C.G ((Tm.lks l').with D o) F6 H6 σ (asE env2 vs env6) := fun {F6 H6 env6 acc6 o} l6 S6 =>
          S2.leave ho l6 S6 kk (by rw [← S6.len, hl5, S2.len])
        refine ⟨wipe_keep hl5 kk, _, F3, env3, S5, ?_⟩
        cases et : tt env3 with
        | no =>
          rw [et] at q3
          exact q3.elim
        | ex c fs e =>
          rw [et] at q3
          exact q3.elim
        | ok kb env4 =>
          rw [et] at q3
          intro b F4 H4 l4 S6 eb
          have eb' : kb = b := eb
          subst eb'
          cases kb with
          | false =>
            rw [if_neg Bool.false_ne_true]
            dsimp only at q3
            refine ⟨F4, asE env2 vs env4, acc, us, le2.trans (l3.trans l4), Nat.le_succ_of_le hacc, back (acc6 := acc) (l3.trans l4) S6, RepL.mono (l3.trans l4) _ racc, ?_⟩
            refine At.weak (l3.trans l4) ?_
            revert q3
            cases compL g tt m vs (ts.drop (i + 1)) (asE env2 vs env4) with
            | ok ws e => exact fun q => q
            | ex c fs e => exact fun q => q.elim
            | no => exact fun q => q.elim
          | true =>
            rw [if_pos rfl]
            dsimp only at q3
            refine ⟨_, F4, env4, S6, ?_⟩
            cases em : m env4 with
            | no =>
              rw [em] at q3
              exact q3.elim
            | ex c fs e =>
              rw [em] at q3
              exact q3.elim
            | ok v env5 =>
              rw [em] at q3
              dsimp only at q3
              intro yv F5 H5 l5 S7 ry
              have l25 : Le F2 F5 := l3.trans (l4.trans l5)
              refine ⟨acc, (S7.tm D _ upd_same).1, by omega, F5, asE env2 vs env5, acc ++ [yv], us ++ [v], le2.trans l25, by rw [List.length_append, List.length_singleton]; omega, back (acc6 := acc) l25 S7.chD, (RepL.mono l25 _ racc).append (.cons ry .nil), ?_⟩
              refine At.weak l25 ?_
              revert q3
              cases compL g tt m vs (ts.drop (i + 1)) (asE env2 vs env5) with
              | ok ws e =>
                intro q
                have ea : (us ++ [v]) ++ ws = us ++ v :: ws := by simp
                show At C (RvR C.G) Tm F2 σ Q (.ok (.ow (.lst ((us ++ [v]) ++ ws))) e)
                rw [ea]
                exact q
              | ex c fs e => exact fun q => q.elim
              | no => exact fun q => q.elim
  · have e : i = ts.length := by omega
    subst e
    rw [List.drop_length] at q3
    refine .inl ⟨w.stop _ F2 H2 σ env2 le2 S2 hlk, ?_⟩
    have q4 : At C (RvR C.G) Tm F2 σ Q (.ok (.ow (.lst (us ++ []))) env2) := q3
    rw [List.append_nil] at q4
    have S9 : Sok C.G (Tm.with D (.lst acc)) F2 H2 σ env2 := Sok.unlk (Tm := Tm.with D (.lst acc)) (l' := l') S2 hl
    exact q4 _ F2 H2 Le.rfl (S9.outD tD) (RvR.outD S9 tD racc)
theorem ev_compJ (hc : C.X.calm = true) (hN : C.X.N.Nodup) (hi : EvJ C tg iter f) (ok : BlkOk C.X.N C.X.env.scope scope own) (hj : ∀ j ∈ js, j ∈ own.map (·.2))
    (hg : ∀ (s : Shared) (H : Hp) (A : Addr) (cl : List (Str × Addr)) (fp : List Addr), EvG (C.blk s H scope (compEnvC scope cl A C.X.env) fp) tg js g) (ht : ∀ (s : Shared) (H : Hp) (A : Addr) (cl : List (Str × Addr)) (fp : List Addr), EvTs (C.blk s H scope (compEnvC scope cl A C.X.env) fp) ifs tt)
    (he : ∀ (s : Shared) (H : Hp) (A : Addr) (cl : List (Str × Addr)) (fp : List Addr), EvT (C.blk s H scope (compEnvC scope cl A C.X.env) fp) elt m) (hs : ∀ x, foldedSetIterable iter C.X.env x = pure x := by intro _; rfl) :
    EvE C (.ListComp elt [⟨tg, iter, ifs, 0⟩] scope pos) (compM f g tt m (own.map (·.2))) :=
  pe_imp (pe_lc hc hN hi ok hg ht he hs) fun σ H Q q => comp_coreJ hj q
theorem e_setcJ {i : Nat} {y : Str} {py spos : Pos} (hc : C.X.calm = true) (hN : C.X.N.Nodup) (hy : C.X.N[i]? = some y) (hyl : C.X.env.scope.names.lookup y = some .local)
    (hsw : swapsWith (.ListComp elt [⟨tg, iter, ifs, 0⟩] scope pos) (some (.Name y py)) spos.line C.X.env = pure true) (hi : EvJ C tg iter f) (ok : BlkOk C.X.N C.X.env.scope scope own) (hj : ∀ j ∈ js, j ∈ own.map (·.2))
    (hg : ∀ (s : Shared) (H : Hp) (A : Addr) (cl : List (Str × Addr)) (fp : List Addr), EvG (C.blk s H scope (compEnvC scope cl A C.X.env) fp) tg js g) (ht : ∀ (s : Shared) (H : Hp) (A : Addr) (cl : List (Str × Addr)) (fp : List Addr), EvTs (C.blk s H scope (compEnvC scope cl A C.X.env) fp) ifs tt)
    (he : ∀ (s : Shared) (H : Hp) (A : Addr) (cl : List (Str × Addr)) (fp : List Addr), EvT (C.blk s H scope (compEnvC scope cl A C.X.env) fp) elt m) (hs : ∀ x, foldedSetIterable iter C.X.env x = pure x := by intro _; rfl) :
    EvS C (.Assign [.Name y py] (.ListComp elt [⟨tg, iter, ifs, 0⟩] scope pos) spos) (asgS i (compM f g tt m (own.map (·.2)))) :=
  ps_imp (ps_setLc hc hN hy hyl hsw hi ok hg ht he hs) fun D σ H ⟨Tm, F, env, S, q⟩ => comp_coreJ hj ⟨Tm, F, env, S, asg_core q⟩
end
end Ev
/-! Ev33: constants of the written part: tuples, lists, dicts. -/
namespace Ev
open PySem PySem.Spec L2
mutual
/-- the value of the written part is the tree -/
def kR (K : PySem.W.Frag) : T → Value → Bool
  | .non, v => (match v with
    | .none => true
    | _ => false)
  | .bl b, v => (match v with
    | .bool c => b == c
    | _ => false)
  | .int i, v => (match v with
    | .int j _ => decide (i = j)
    | _ => false)
  | .str s, v => (match v with
    | .str z _ => decide (s = z)
    | _ => false)
  | .tup ts, v => (match v with
    | .ref a => (match K.lookup a with
      | some ⟨.type c, _, .seq its _, _⟩ => decide (c = "tuple") && (decide (its.size ≤ sizeLine) && kRs K ts its.toList)
      | _ => false)
    | _ => false)
  | .lst ts, v => (match v with
    | .ref a => (match K.lookup a with
      | some ⟨.type c, none, .seq its _, sl⟩ => decide (c = "list") && (sl.isEmpty && (decide (its.size ≤ sizeLine) && kRs K ts its.toList))
      | _ => false)
    | _ => false)
  | _, _ => false
def kRs (K : PySem.W.Frag) : List T → List Value → Bool
  | [], vs => vs.isEmpty
  | t :: ts, vs => (match vs with
    | v :: vs => kR K t v && kRs K ts vs
    | [] => false)
end
section
variable {K : PySem.W.Frag}
mutual
theorem kR_ok : ∀ (t : T) {v : Value}, kR K t v = true → ∃ x, RelV x v ∧ ∀ ca F, Rep ⟨K, ca⟩ F t x
  | .non, v, h => by
    simp only [kR] at h
    split at h
    · exact ⟨.non, rfl, fun _ _ => mk_non⟩
    · cases h
  | .bl b, v, h => by
    simp only [kR] at h
    split at h
    · rename_i c
      exact ⟨.bl b, by rw [beq_iff_eq.mp h]; exact rfl, fun _ _ => mk_bl b⟩
    · cases h
  | .int i, v, h => by
    simp only [kR] at h
    split at h
    · exact ⟨.int i, ⟨_, by rw [of_decide_eq_true h]⟩, fun _ _ => mk_int i⟩
    · cases h
  | .str i, v, h => by
    simp only [kR] at h
    split at h
    · exact ⟨.str i, ⟨_, by rw [of_decide_eq_true h]⟩, fun _ _ => mk_str i⟩
    · cases h
  | .tup ts, v, h => by
    simp only [kR] at h
    split at h
    · rename_i a
      split at h
      · rename_i c od its n sl e
        obtain ⟨h1, h2⟩ := Bool.and_eq_true_iff.mp h
        obtain ⟨h3, h4⟩ := Bool.and_eq_true_iff.mp h2
        obtain ⟨xs, rv, rt⟩ := kRs_ok ts h4
        refine ⟨.ref a, rfl, fun ca F => ?_⟩
        simp only [Rep]
        exact ⟨a, xs, rfl, .inr ⟨_, its, n, e, congrArg Value.type (of_decide_eq_true h1), rfl, of_decide_eq_true h3, rv⟩, rt ca F⟩
      · cases h
    · cases h
  | .lst ts, v, h => by
    simp only [kR] at h
    split at h
    · rename_i a
      split at h
      · rename_i c its n sl e
        obtain ⟨h1, h2⟩ := Bool.and_eq_true_iff.mp h
        obtain ⟨h3, h4⟩ := Bool.and_eq_true_iff.mp h2
        obtain ⟨h5, h6⟩ := Bool.and_eq_true_iff.mp h4
        obtain ⟨xs, rv, rt⟩ := kRs_ok ts h6
        have e1 : c = "list" := of_decide_eq_true h1
        have e2 : sl = #[] := Array.isEmpty_iff.mp h3
        subst e1 e2
        refine ⟨.ref a, rfl, fun ca F => ?_⟩
        simp only [Rep]
        exact ⟨a, xs, rfl, .inr ⟨its.toList, n, by rw [Array.toArray_toList]; exact e, by rw [Array.length_toList]; exact of_decide_eq_true h5, rv⟩, rt ca F⟩
      · cases h
    · cases h
  | .dK _, v, h => by simp only [kR] at h; cases h
  | .dT _, v, h => by simp only [kR] at h; cases h
  | .ins _ _, v, h => by simp only [kR] at h; cases h
  | .exc _ _, v, h => by simp only [kR] at h; cases h
theorem kRs_ok : ∀ (ts : List T) {vs : List Value}, kRs K ts vs = true → ∃ xs, Vals xs vs ∧ ∀ ca F, RepL ⟨K, ca⟩ F ts xs
  | [], vs, h => by
    simp only [kRs] at h
    have e : vs = [] := List.isEmpty_iff.mp h
    subst e
    exact ⟨[], .nil, fun _ _ => .nil⟩
  | t :: ts, vs, h => by
    simp only [kRs] at h
    split at h
    · rename_i v vs
      obtain ⟨h1, h2⟩ := Bool.and_eq_true_iff.mp h
      obtain ⟨x, r1, r2⟩ := kR_ok t h1
      obtain ⟨xs, q1, q2⟩ := kRs_ok ts h2
      exact ⟨x :: xs, .cons r1 q1, fun ca F => .cons (r2 ca F) (q2 ca F)⟩
    · cases h
end
end
section
variable {C : Cy} {x : Str} {u : Value} {t : T} {p pos : Pos}
theorem ev_const (hg : Gl C.X x) (hm : C.X.mg x = some u) (hk : kR C.X.K t u = true) (hd : (x == ("__debug__" : Str)) = false := by decide +kernel) : EvT C (.Name x pos) (M.pure t) := by
  obtain ⟨v, r, rt⟩ := kR_ok t hk
  exact ev_glob hg hm r (fun F => rt _ F) hd
/-! ### a written dict with text keys, asked for a key -/
def wvB (K : PySem.W.Frag) (a : Addr) (kvs : List (Str × T)) : Bool := kvs.all fun q => match PySem.W.nsIn K a q.1 with
  | some (some u) => kR K q.2 u
  | _ => false
structure WD (K : PySem.W.Frag) (w : World) (a : Addr) (kvs : List (Str × T)) : Prop where
  d : ∃ es n, KDict K w a es n
  v : wvB K a kvs = true
theorem wd_of {K : PySem.W.Frag} {w : World} {a : Addr} {kvs : List (Str × T)} {ks : List Str} (h : He.dicW K a = some (He.keysIn w.params ks)) (v : wvB K a kvs = true) : WD K w a kvs := ⟨He.dicW_ok h, v⟩
theorem lookup_mem {kvs : List (Str × T)} {s : Str} {t : T} (h : kvs.lookup s = some t) : (s, t) ∈ kvs := by
  induction kvs with
  | nil => cases h
  | cons q r ih =>
    obtain ⟨k, v⟩ := q
    rw [List.lookup_cons] at h
    split at h
    · rename_i e
      cases h
      rw [beq_iff_eq.mp e]
      exact List.mem_cons_self
    · exact List.mem_cons_of_mem _ (ih h)
theorem WD.get {K : PySem.W.Frag} {w : World} {a : Addr} {kvs : List (Str × T)} (D : WD K w a kvs) {s : Str} {t : T} (h : kvs.lookup s = some t) : ∃ v, KDct K w a s v ∧ ∀ ca F, Rep ⟨K, ca⟩ F t v := by
  obtain ⟨es, n, kd⟩ := D.d
  have hv := List.all_eq_true.mp D.v _ (lookup_mem h)
  dsimp only at hv
  cases e : PySem.W.nsIn K a s with
  | none =>
    rw [e] at hv
    cases hv
  | some r =>
    rw [e] at hv
    cases r with
    | none => cases hv
    | some u =>
      obtain ⟨v, r1, r2⟩ := kR_ok t hv
      exact ⟨v, ⟨es, n, u, kd.at_, kd.lit, e, r1⟩, r2⟩
def wgT (kvs : List (Str × T)) : T → Option T
  | .str s => kvs.lookup s
  | _ => none
theorem ev_wget {a : Addr} {kvs : List (Str × T)} {e : Expr} {g : M T} (hg : Gl C.X x) (hm : C.X.mg x = some (.ref a)) (D : WD C.X.K C.X.w a kvs) (h : EvT C e g) (hs : PlainIx e) (hd : (x == ("__debug__" : Str)) = false := by decide +kernel) :
    EvT C (.Subscript (.Name x p) e pos) (M.bind g fun t => M.of (wgT kvs t)) := by
  refine pe_imp (pe_ix ix_kdict (pe_glob (v := .ref a) hg hm rfl hd) h hs) fun σ H Q ⟨Tm, F, env, S, q⟩ => ⟨Tm, F, env, S, ?_⟩
  refine At.bind (R' := TR C.G) (Q' := Q) q fun t env1 y F1 H1 le1 S1 r1 q1 => ?_
  cases t <;> first | exact q1.elim | skip
  rename_i s
  refine of_some q1 fun w hw q2 => ?_
  obtain ⟨v, k1, k2⟩ := D.get hw
  exact ⟨a, s, v, rfl, rep_str r1, k1, q2 v F1 H1 Le.rfl S1 (k2 _ F1)⟩
end
/-! ### a written dict with any constant keys, walked -/
def wkB (K : PySem.W.Frag) (a : Addr) (ks : List T) : Bool := match K.lookup a with
  | some ⟨.type c, none, .dict es _, sl⟩ => decide (c = "dict") && (sl.isEmpty && (!(a == sysModules) && (decide (es.size ≤ sizeLine) && kRs K ks (es.toList.map (·.key)))))
  | _ => false
structure WK (K : PySem.W.Frag) (a : Addr) (ks : List T) (es : Array DictEntry) (n : Nat) (xs : List V) : Prop where
  at_ : K.lookup a = some ⟨.type "dict", none, .dict es n, #[]⟩
  low : (a == sysModules) = false
  sz : es.size ≤ sizeLine
  vals : Vals xs (es.toList.map (·.key))
  rep : ∀ ca F, RepL ⟨K, ca⟩ F ks xs
theorem wkB_ok {K : PySem.W.Frag} {a : Addr} {ks : List T} (h : wkB K a ks = true) : ∃ es n xs, WK K a ks es n xs := by
  unfold wkB at h
  split at h
  · rename_i c es n sl e
    obtain ⟨h1, h2⟩ := Bool.and_eq_true_iff.mp h
    obtain ⟨h3, h4⟩ := Bool.and_eq_true_iff.mp h2
    obtain ⟨h5, h6⟩ := Bool.and_eq_true_iff.mp h4
    obtain ⟨h7, h8⟩ := Bool.and_eq_true_iff.mp h6
    obtain ⟨xs, q1, q2⟩ := kRs_ok ks h8
    have e1 : c = "dict" := of_decide_eq_true h1
    have e2 : sl = #[] := Array.isEmpty_iff.mp h3
    subst e1 e2
    exact ⟨es, n, xs, e, by simpa using h5, of_decide_eq_true h7, q1, q2⟩
  · cases h
def Itw (xs : List V) : It := ⟨fun i _ => i < xs.length, fun i H x H' => H' = H ∧ xs[i]? = some x, fun i _ => xs.length ≤ i⟩
section
variable {P : Program} {w : World} {K : PySem.W.Frag} {tg : Expr} {d : Addr} {ks : List T} {es : Array DictEntry} {n : Nat} {xs : List V}
theorem WK.len (D : WK K d ks es n xs) : es.size = xs.length := by
  have := D.vals.length
  simp at this
  exact this.symm
theorem WK.nth (D : WK K d ks es n xs) {i : Nat} (h : i < xs.length) : ∃ en x, es[i]? = some en ∧ xs[i]? = some x ∧ RelV x en.key := by
  have hl := D.len
  obtain ⟨u, hu, ru⟩ := D.vals.get (List.getElem?_eq_getElem h)
  have h2 : i < es.size := by omega
  refine ⟨es[i], xs[i], Array.getElem?_eq_getElem h2, List.getElem?_eq_getElem h, ?_⟩
  rw [List.getElem?_map, List.getElem?_eq_getElem (by simpa using h2)] at hu
  simp at hu
  rw [hu]
  exact ru
theorem turn_w (D : WK K d ks es n xs) (it : Addr) : Turn P w K tg (Itw xs) [it] it (fun i h => h.IsKeyIter it d i xs.length n) where
  mem := by simp
  obj := fun i h st b hb => by
    have e : b = it := by simpa using hb
    subst e
    obtain ⟨oi, e, c, dd⟩ := st
    exact ⟨oi, e, fun v z => by rw [dd] at z; cases z⟩
  keep := fun i h h' st k => st.at fun oi e => k it (by simp) oi e
  item := by
    intro X hP hw hK hc i pins s σ H E I hf st hg
    subst hP hw hK
    obtain ⟨f0, f1, f2, f3, f4, f5⟩ := hf it (by simp)
    obtain ⟨en, x, h1, h2, h3⟩ := D.nth hg
    refine next_key_item st (I.kIn _ _ D.at_) rfl D.len h1 fun h' st' sb => ?_
    have I1 : Inv X pins σ H { s with heap := h' } := I.turned (t' := s.toks) (fun b ob hb e => (sb.2 b hb).trans e) f0 f1 f3 f4 f5
    obtain ⟨oi, e, c, dd⟩ := id st'
    exact ⟨en.key, rfl, go_of (s := { s with heap := h' }) e c dd (by decide) ⟨x, H, I1, h3, ⟨rfl, h2⟩, st', fun b hb => (hf b hb).1⟩⟩
  done := by
    intro X hP hw hK hc i pins s σ H E I hf st hg
    subst hP hw hK
    obtain ⟨f0, f1, f2, f3, f4, f5⟩ := hf it (by simp)
    exact next_key_end (I.ok.hd hc) st (I.kIn _ _ D.at_) rfl D.len hg fun h' eb => ⟨rfl, I.turned (t' := s.toks) (fun b ob hb e => eb b ob hb e) f0 f1 f3 f4 f5⟩
  self := fun A i s Q E st h => wpAny_pyIter_keyiter st h
end
def iW (d : Addr) (xs : List V) (td : TE) : TI := fun σ H R => td σ H fun x H1 => x = .ref d ∧ R (Itw xs) H1
section
variable {X : Cx} {tg e : Expr} {td : TE} {d : Addr} {ks : List T} {es : Array DictEntry} {n : Nat} {xs : List V}
theorem pi_w (D : WK X.K d ks es n xs) (he : PE X e td) : PI X tg e (iW d xs td) := by
  refine ⟨fun pins s σ H R I h => ?_⟩
  refine thn (he.run pins s σ H _ I h) fun u s1 ⟨x, H1, I1, rx, ex, q⟩ => ?_
  subst ex
  obtain rfl : u = Value.ref d := rx
  refine iter_keys D.low (I1.kIn _ _ D.at_) ⟨rfl, rfl, rfl⟩ rfl (pi_one (tk := s1.toks) I1 _ (turn_w D _) ⟨_, Heap.get?_push_size _ rfl, rfl, ?_⟩ q)
  rw [D.len] <;> rfl
/-- list(d) -/
theorem kdl_w {prog : Program} {w : World} {K : PySem.W.Frag} (D : WK K d ks es n xs) : PySem.W.KdlSrc prog w "dict" d d xs.length (fun i v => ∃ en x, es[i]? = some en ∧ xs[i]? = some x ∧ RelV x en.key ∧ v = en.key) (fun h => h.get? d = some ⟨.type "dict", none, .dict es n, #[]⟩) where
  type := fun s h => ⟨_, h, rfl⟩
  there := fun h e => ⟨Heap.lt_size e, Heap.lt_size e⟩
  keep := fun h h' e k => k d (.inl rfl) _ e
  notList := by decide
  notTuple := by decide
  hint := fun A E s Q e q => PySem.W.kdl_hint_dict ⟨_, e, rfl⟩ q
  iter := fun A s hh e => ⟨_, fun i h => h.IsKeyIter s.heap.objs.size d i xs.length n ∧ h.get? d = some ⟨.type "dict", none, .dict es n, #[]⟩, fun E Q q => iter_keys D.low e ⟨rfl, rfl, rfl⟩ rfl q, {
    sub := fun b hb => by simp at hb; simp [hb]
    frame := fun _ _ _ st hk => ⟨st.1.at fun o e => hk _ (by simp) o e, hk d (by simp) _ st.2⟩
    item := fun i s' Q E hi st hQ => by
      obtain ⟨en, x, h1, h2, h3⟩ := D.nth hi
      have hne : d ≠ s.heap.objs.size := Nat.ne_of_lt (Heap.lt_size e)
      exact next_key_item st.1 st.2 rfl D.len h1 fun h' st' sb => hQ en.key h' s'.toks ⟨en, x, h1, h2, h3, rfl⟩ ⟨st', (sb.2 d hne).trans st.2⟩ fun b o hb e => (sb.2 b (fun h => hb (by simp [h]))).trans e
    done := fun s' Q E st hQ => next_key_end hh st.1 st.2 rfl D.len (Nat.le_refl _) fun h' he' => hQ h' s'.toks fun b o hb e => he' b o (fun h => hb (by simp [h])) e
    self := fun _ _ _ _ st hQ => wpAny_pyIter_keyiter st.1 hQ }, by
      have := D.len
      refine ⟨⟨_, Heap.get?_push_size _ rfl, rfl, ?_⟩, Heap.get?_push_of_some _ e⟩
      rw [this]
      rfl⟩
theorem call_wlist (D : WK X.K d ks es n xs) (hcalm : X.calm = true) : CallR X (.type "list") (fun vs H Q => vs = [.ref d] ∧ ∀ p, H p = none → Q (.ref p) (upd H p (.lst xs))) := by
  intro pins s σ H vs us Q I r q
  obtain ⟨ex, q⟩ := q
  subst ex
  obtain ⟨u, eu, rx⟩ := vals1 r
  subst eu
  cases rx
  have hz : xs.length ≤ sizeLine := by have := D.len; have := D.sz; omega
  refine PySem.W.kdl_call (kdl_w D) (I.ok.hd hcalm) (I.kIn _ _ D.at_) hz fun h' tk acc c' hk hD hacc => ?_
  have hv : Vals xs acc.toList := by
    have hl : acc.toList.length = xs.length := by rw [Array.length_toList]; exact hacc.1
    have hn : ∀ (j : Nat) v, acc.toList[j]? = some v → ∃ x, xs[j]? = some x ∧ RelV x v := fun j v e => by
      obtain ⟨en, x, h1, h2, h3, h4⟩ := hacc.2 j v (by rw [← Array.getElem?_toList]; exact e)
      subst h4
      exact ⟨x, h2, h3⟩
    revert hl hn
    generalize acc.toList = l
    clear hz q
    have : ∀ (xs : List V) (l : List Value), l.length = xs.length → (∀ (j : Nat) v, l[j]? = some v → ∃ x, xs[j]? = some x ∧ RelV x v) → Vals xs l := by
      intro xs
      induction xs with
      | nil =>
        intro l hl hn
        have : l = [] := List.length_eq_zero_iff.mp hl
        subst this
        exact .nil
      | cons x xs ih =>
        intro l hl hn
        cases l with
        | nil => cases hl
        | cons v l =>
          obtain ⟨x', e1, e2⟩ := hn 0 v rfl
          cases e1
          exact .cons e2 (ih l (by simpa using hl) fun j v e => by simpa using hn (j + 1) v (by simpa using e))
    exact this xs l
  exact ⟨.ref s.heap.objs.size, upd H s.heap.objs.size (.lst xs), I.laid (t' := tk) hk (Nat.le_refl _)
    (show ObjOk X.prog X.w _ _ _ (.lst xs) from ⟨hz, acc.toList, c', hv, by rw [Array.toArray_toList]; exact hD⟩), rfl, q _ (I.hok.fresh (Nat.le_refl _))⟩
end
section
variable {C : Cy} {tg : Expr} {x : Str} {d : Addr} {ks : List T} {p p2 pos : Pos}
theorem wk_w {G : Gr} {F : Hp} {xs : List V} {ts : List T} (r : RepL G F ts xs) : Wk G (Itw xs) ts F [] := by
  have hl := r.length
  refine ⟨fun i Tm F2 H σ env hi le S _ => (by rw [hl]; exact hi : i < xs.length), fun i Tm F2 H σ env y H' hi le S _ q => ?_, fun Tm F2 H σ env le S _ => (by rw [hl]; exact Nat.le_refl _ : xs.length ≤ ts.length)⟩
  obtain ⟨e, hx⟩ := q
  subst e
  obtain ⟨t, ht, rt⟩ := r.getV hx
  exact ⟨F2, t, Le.rfl, S, ht, Rep.mono le t rt, fun _ _ h => h⟩
theorem ei_w (hg : Gl C.X x) (hm : C.X.mg x = some (.ref d)) (hk : wkB C.X.K d ks = true) (hd : (x == ("__debug__" : Str)) = false := by decide +kernel) : EvI C tg (.Name x p) (M.pure ks) := by
  obtain ⟨es, n, xs, D⟩ := wkB_ok hk
  refine pi_imp (pi_w D (pe_glob (v := .ref d) hg hm rfl hd)) fun σ H R ⟨Tm, F, env, S, q⟩ => ?_
  exact ⟨rfl, q _ F H Le.rfl S (wk_w (D.rep _ F))⟩
theorem ev_wlist (hc : C.X.calm = true) (hg : Gl C.X x) (hm : C.X.mg x = some (.ref d)) (hk : wkB C.X.K d ks = true) (hgl : Gl C.X "list") (hml : C.X.mg "list" = none) (hd : (x == ("__debug__" : Str)) = false := by decide +kernel)
    (hs : starEach [.Name x p] C.X.env = (false, eval (.Name x p) C.X.env) :: starEach [] C.X.env := by rfl) (hpl : (backTo pos (starEach [] C.X.env)).any (·.1) = false := by rfl) : EvE C (.Call (.Name "list" p2) [.Name x p] [] pos) (M.pure (.ow (.lst ks))) := by
  obtain ⟨es, n, xs, D⟩ := wkB_ok hk
  refine pe_imp (pe_callTy (call_wlist D hc) hgl hml bb_list (pa_cons (pe_glob (v := .ref d) hg hm rfl hd) pa_nil hs) (by decide) (by decide) hs hpl) fun σ H Q ⟨Tm, F, env, S, q⟩ => ?_
  exact ⟨rfl, fun a na => q (.ref a) F _ Le.rfl (S.alloc na) (RvR.new S na ⟨xs, rfl, D.rep _ F⟩)⟩
end
end Ev
/-! Ev34: text.split; dicts compared; instances made by some of the keywords. -/
namespace Ev
open PySem PySem.Spec L2
/-! ### s.split(t) -/
section
variable {C : Cy} {a e : Expr} {pos apos : Pos}
def splitT : T → T → Option Rv
  | .str s, .str t => if (t.length == 0) = false ∧ s.length + 2 ≤ sizeLine then some (.ow (.lst ((Txt.split s t).map T.str))) else none
  | _, _ => none
def splitM (f g : M T) : M Rv := M.bind f fun t => match t with
  | .str s => M.bind g fun u => M.of (splitT (.str s) u)
  | _ => M.no
theorem strs_rep {G : Gr} {F : Hp} : ∀ ys : List Str, RepL G F (ys.map T.str) (ys.map V.str)
  | [] => .nil
  | y :: ys => .cons (mk_str y) (strs_rep ys)
theorem ev_split {f : M T} {g : M T} (h : EvT C a f) (h' : EvT C e g) (hs : starEach [e] C.X.env = [(false, eval e C.X.env)] := by rfl) (hbase : attributeBase a "split" C.X.env (eval a C.X.env) = eval a C.X.env := by rfl) (hline : (apos.endLine == pos.line) = true := by rfl) :
    EvE C (.Call (.Attribute a "split" apos) [e] [] pos) (splitM f g) := by
  refine pe_imp (pe_split h h' hs hbase hline) fun σ H Q ⟨Tm, F, env, S, q⟩ => ⟨Tm, F, env, S, ?_⟩
  refine At.bind (R' := RvR C.G) (Q' := Q) q fun t env1 x F1 H1 le1 S1 r1 q1 => ?_
  cases t <;> first | exact q1.elim | skip
  rename_i s
  have ex := rep_str r1
  subst ex
  refine ⟨⟨s, rfl⟩, Tm, F1, env1, S1, ?_⟩
  refine At.bind (R' := RvR C.G) (Q' := Q) q1 fun u env2 y F2 H2 le2 S2 r2 q2 => of_some q2 fun w hw q3 => ?_
  cases u <;> first | (cases hw; done) | skip
  rename_i z
  have ey := rep_str r2
  subst ey
  simp only [splitT] at hw
  split at hw
  · rename_i hz
    cases hw
    exact ⟨s, z, rfl, rfl, hz.1, hz.2, fun p np => q3 _ F2 _ Le.rfl (S2.alloc np) (RvR.new S2 np ⟨_, rfl, strs_rep _⟩)⟩
  · cases hw
end
/-! ### dicts compared -/
def eqF : T → T → Option Bool
  | .non, .non => some true
  | .bl a, .bl b => some (a == b)
  | .int a, .int b => some (a == b)
  | .str a, .str b => some (a == b)
  | .bl _, .str _ => some false
  | .str _, .bl _ => some false
  | .non, .str _ => some false
  | .str _, .non => some false
  | .int _, .str _ => some false
  | .str _, .int _ => some false
  | _, _ => none
def hitsT (kb : List (Key × T)) : List (Key × T) → Option Bool
  | [] => some true
  | (k, t) :: r => (match getK kb k with
    | none => some false
    | some u => (eqF t u).bind fun e => (hitsT kb r).map fun b => e && b)
def eqDT : T → T → Option Bool
  | .dK a, .dK b => if a.length = b.length then hitsT b a else some false
  | _, _ => none
def neDT (t u : T) : Option Bool := (eqDT t u).map not
section
variable {G : Gr} {F : Hp}
theorem eqF_ok {A : Around} {s : Shared} {t u : T} {b : Bool} {x y : V} {v v' : Value} (h : eqF t u = some b) (r1 : Rep G F t x) (r2 : Rep G F u y) (rv : RelV x v) (rw' : RelV y v') : SeqAt.EqAt A s v v' b := by
  have ki : ∀ {i : Int} {w : Value}, RelV (.int i) w → ∃ t, w = Value.int i t := fun h => h
  have ks : ∀ {i : Str} {w : Value}, RelV (.str i) w → ∃ t, w = Value.str i t := fun h => h
  cases t <;> cases u <;> first | (cases h; done) | skip
  · cases h
    cases rep_non r1; cases rep_non r2
    cases (show v = Value.none from rv); cases (show v' = Value.none from rw')
    exact SeqAt.EqAt.same _
  · cases h
    cases rep_non r1; cases rep_str r2
    cases (show v = Value.none from rv); obtain ⟨t', rfl⟩ := ks rw'
    exact SeqAt.EqAt.none_str _ _
  · cases h
    cases rep_bl r1; cases rep_bl r2
    cases (show v = Value.bool _ from rv); cases (show v' = Value.bool _ from rw')
    exact SeqAt.EqAt.bool_bool _ _
  · cases h
    cases rep_bl r1; cases rep_str r2
    cases (show v = Value.bool _ from rv); obtain ⟨t', rfl⟩ := ks rw'
    exact SeqAt.EqAt.bool_str _ _ _
  · cases h
    cases rep_int r1; cases rep_int r2
    obtain ⟨t, rfl⟩ := ki rv; obtain ⟨t', rfl⟩ := ki rw'
    exact SeqAt.EqAt.int_int _ _ _ _
  · cases h
    cases rep_int r1; cases rep_str r2
    obtain ⟨t, rfl⟩ := ki rv; obtain ⟨t', rfl⟩ := ks rw'
    exact SeqAt.EqAt.int_str _ _ _ _
  · cases h
    cases rep_str r1; cases rep_non r2
    obtain ⟨t, rfl⟩ := ks rv; cases (show v' = Value.none from rw')
    exact SeqAt.EqAt.str_none _ _
  · cases h
    cases rep_str r1; cases rep_bl r2
    obtain ⟨t, rfl⟩ := ks rv; cases (show v' = Value.bool _ from rw')
    exact SeqAt.EqAt.str_bool _ _ _
  · cases h
    cases rep_str r1; cases rep_int r2
    obtain ⟨t, rfl⟩ := ks rv; obtain ⟨t', rfl⟩ := ki rw'
    exact SeqAt.EqAt.str_int _ _ _ _
  · cases h
    cases rep_str r1; cases rep_str r2
    obtain ⟨t, rfl⟩ := ks rv; obtain ⟨t', rfl⟩ := ks rw'
    exact SeqAt.EqAt.str_str _ _ _ _
theorem RepK.getN {k : Key} : ∀ {ts : List (Key × T)} {xs : List (Key × V)}, RepK G F ts xs → getK ts k = none → valV xs k = none
  | [], xs, h, e => by rw [h.nil_]; rfl
  | (j, u) :: ts, xs, h, e => by
    obtain ⟨x, r, e1, h1, h2⟩ := h.uncons
    subst e1
    unfold getK at e
    by_cases hk : j = k
    · rw [List.find?_cons_of_pos (by simpa using hk)] at e
      cases e
    · rw [List.find?_cons_of_neg (by simpa using hk)] at e
      rw [valV_neg hk]
      exact RepK.getN h2 e
theorem hitsT_ok {A : Around} {s : Shared} {kb : List (Key × T)} {lb : List (Key × V)} {vb : List (Key × Value)} (rb : RepK G F kb lb) (kv : KV lb vb) : ∀ {ka : List (Key × T)} {la : List (Key × V)} {va : List (Key × Value)} {b : Bool}, hitsT kb ka = some b → RepK G F ka la → KV la va → PySem.W.KeqHits A s vb va b
  | [], la, va, b, h, ra, ka => by
    cases h
    rw [ra.nil_] at ka
    cases ka
    exact .nil
  | (k, t) :: r, la, va, b, h, ra, ka => by
    obtain ⟨x, l2, e1, h1, h2⟩ := ra.uncons
    subst e1
    cases ka with
    | @cons _ q _ qs a1 a2 =>
      obtain ⟨k', v⟩ := q
      obtain ⟨e2, rv⟩ := a1
      have e2' : k = k' := e2
      subst e2'
      simp only [hitsT] at h
      cases hg : getK kb k with
      | none =>
        rw [hg] at h
        cases h
        have hn := rb.getN hg
        have rr := kv.val k
        rw [hn] at rr
        refine .miss ?_
        cases hv : valueAt vb k with
        | none => rfl
        | some y => rw [hv] at rr; exact rr.elim
      | some u =>
        rw [hg] at h
        obtain ⟨eb, he, h⟩ := Option.bind_eq_some_iff.mp h
        obtain ⟨b2, hb, e3⟩ := Option.map_eq_some_iff.mp h
        subst e3
        obtain ⟨y, hy, ry⟩ := rb.get hg
        have rr := kv.val k
        rw [hy] at rr
        obtain ⟨z, hz, rz⟩ := rr.some_of
        exact .hit hz (eqF_ok he h1 ry rv rz) (hitsT_ok rb kv hb h2 a2)
end
section
variable {C : Cy}
theorem op_eqDK (hu : C.X.A.units < cLine) : OpR C.X (compareOp .Eq) (fun x y H Q => ∃ a b la lb r, x = .ref a ∧ y = .ref b ∧ Rd H a (.dK la) ∧ Rd H b (.dK lb) ∧ (la.length = lb.length → ∀ (A : Around) (s : Shared) va vb, KV la va → KV lb vb → PySem.W.KeqHits A s vb va r) ∧ Q (.bl (la.length == lb.length && r)) H) := by
  intro pins s σ H x y v u Q I rx ry h
  obtain ⟨a, b, la, lb, r, rfl, rfl, ea, eb, hh, q⟩ := h
  obtain rfl : v = Value.ref a := rx
  obtain rfl : u = Value.ref b := ry
  obtain ⟨_, ya, va, ra, da⟩ := dk_rd I.hok ea
  obtain ⟨_, yb, vb, rb, db⟩ := dk_rd I.hok eb
  have h1 := ra.length
  have h2 := rb.length
  exact PySem.W.keq_eq (knd := mixKind C.X.prog C.X.w) (r := r) ya yb da db hu (fun e => hh (by rw [h1, h2]; exact e) _ _ va vb ra rb) (fin_bl I q (by rw [h1, h2]))
theorem op_neDK (hu : C.X.A.units < cLine) : OpR C.X (compareOp .NotEq) (fun x y H Q => ∃ a b la lb r, x = .ref a ∧ y = .ref b ∧ Rd H a (.dK la) ∧ Rd H b (.dK lb) ∧ (la.length = lb.length → ∀ (A : Around) (s : Shared) va vb, KV la va → KV lb vb → PySem.W.KeqHits A s vb va r) ∧ Q (.bl (!(la.length == lb.length && r))) H) := by
  intro pins s σ H x y v u Q I rx ry h
  obtain ⟨a, b, la, lb, r, rfl, rfl, ea, eb, hh, q⟩ := h
  obtain rfl : v = Value.ref a := rx
  obtain rfl : u = Value.ref b := ry
  obtain ⟨_, ya, va, ra, da⟩ := dk_rd I.hok ea
  obtain ⟨_, yb, vb, rb, db⟩ := dk_rd I.hok eb
  have h1 := ra.length
  have h2 := rb.length
  exact PySem.W.keq_ne (knd := mixKind C.X.prog C.X.w) (r := r) ya yb da db hu (fun e => hh (by rw [h1, h2]; exact e) _ _ va vb ra rb) (fin_bl I q (by rw [h1, h2]))
theorem eqDT_row {Tm : Amb} {F H : Hp} {σ : St} {env : Env} {x y : V} {t u : T} {w : Bool} (S : Sok C.G Tm F H σ env) (p1 : Pk C.G F H t x) (p2 : Pk C.G F H u y) (hw : eqDT t u = some w) :
    ∃ a b la lb r, x = .ref a ∧ y = .ref b ∧ Rd H a (.dK la) ∧ Rd H b (.dK lb) ∧ (la.length = lb.length → ∀ (A : Around) (s : Shared) va vb, KV la va → KV lb vb → PySem.W.KeqHits A s vb va r) ∧ w = (la.length == lb.length && r) := by
  cases t <;> cases u <;> first | (cases hw; done) | skip
  rename_i ka kb
  obtain ⟨a, la, ex, ha, ra⟩ := pk_dK S p1
  obtain ⟨b, lb, ey, hb, rb⟩ := pk_dK S p2
  have l1 := ra.len
  have l2 := rb.len
  simp only [eqDT] at hw
  split at hw
  · rename_i hl
    refine ⟨a, b, la, lb, w, ex, ey, ha.rd, hb.rd, fun _ A s va vb k1 k2 => hitsT_ok rb k2 hw ra k1, ?_⟩
    have : la.length = lb.length := by omega
    simp [this]
  · rename_i hl
    cases hw
    refine ⟨a, b, la, lb, true, ex, ey, ha.rd, hb.rd, fun e => absurd (by omega) hl, ?_⟩
    have : la.length ≠ lb.length := by omega
    simp [this]
theorem ok_eqD (hu : Rm C) : CmpOk C .Eq eqDT := by
  refine ⟨_, op_eqDK (by have := hu; omega), fun {Tm F H σ env x y t u w Q} S p1 p2 hw q => ?_⟩
  obtain ⟨a, b, la, lb, r, h1, h2, h3, h4, h5, h6⟩ := eqDT_row S p1 p2 hw
  subst h6
  exact ⟨a, b, la, lb, r, h1, h2, h3, h4, h5, q⟩
theorem ok_neD (hu : Rm C) : CmpOk C .NotEq neDT := by
  refine ⟨_, op_neDK (by have := hu; omega), fun {Tm F H σ env x y t u w Q} S p1 p2 hw q => ?_⟩
  obtain ⟨w2, e1, e2⟩ := Option.map_eq_some_iff.mp (show (eqDT t u).map not = some w from hw)
  subst e2
  obtain ⟨a, b, la, lb, r, h1, h2, h3, h4, h5, h6⟩ := eqDT_row S p1 p2 e1
  subst h6
  exact ⟨a, b, la, lb, r, h1, h2, h3, h4, h5, q⟩
end
/-! ### C(k = v, ..) with defaults of its keyword-only parameters -/
section
variable {C : Cy} {k j ci : Nat} {f : Addr} {fd : FuncData} {ps ks : List Str} {m : Nat} {d : SM} {ix : List Nat} {x nm : Str} {p pos kpos : Pos} {kws : List Keyword} {e : Expr}
theorem binds_kwd {K : PySem.W.Frag} {y qual : Str} {params : Arguments} {body : List Stmt} {scope : Scope} {kws : List (Str × V)} {ms : List (Str × V)} (F : FunD K y qual params body scope [] kws f fd) (hk : kws ≠ []) (hms : ∀ q ∈ ms, q ∈ kws)
    (h : ∀ (D : Addr) (doc pm : Value) (an : Option Addr) (cdv ct u : Value) (mv ws : List Value), mv.length = ms.length → ws.length = ks.length → KwChain D ((ms.map (·.1)).zip mv) (bindArgs (PySem.W.fnOf y qual params body scope .none (.ref D) doc pm an cdv ct) ⟨[u], ks.zip ws⟩) (ps.zip (u :: pick ix (ws ++ mv)))) :
    ∃ mv, Vals (ms.map (·.2)) mv ∧ ∀ (s : Shared) (u : Value) (ws : List Value), K.In s.heap → ws.length = ks.length → BindsTo s fd ⟨[u], ks.zip ws⟩ (ps.zip (u :: pick ix (ws ++ mv))) := by
  obtain ⟨oc, od, dV, kV, doc, pm, an, cdv, ct, osl, rfl, lk, hcd, hD, hK⟩ := F.ex
  rcases hD with ⟨_, rfl⟩ | ⟨z, _⟩
  · rcases hK with z | ⟨D, rfl, hq⟩
    · exact absurd z hk
    · obtain ⟨mv, hl, rk, hks⟩ := kwd_vals (ms := ms) fun q hm => hq q (hms q hm)
      exact ⟨mv, rk, fun s u ws X l2 => BindsTo.of_looks fun M => KwChain.looks X hks (h D doc pm an cdv ct u mv ws hl l2)⟩
  · exact absurd rfl z
def makeKD (ci n : Nat) (d : SM) (m kn : Nat) (ix : List Nat) (mts : List T) (fk : M (List T)) : M Rv := M.bind fk fun ts => if ts.length = kn then makeA ci n d m ((pick ix (ts ++ mts)).map Ar.fz) else M.no
theorem ev_makeKD {fk : M (List T)} {mts : List T} {mvs : List V} {mv : List Value} (MK : Mk C.X.K (C.ca ci) f) (F : FnC C k f fd ps m d) (B : Bk C j) (hj : k + 1 ≤ j) (hm : ps.length ≤ m) (hg : Gl C.X x) (hx : C.X.mg x = some (.ref (C.ca ci)))
    (hv : Vals mvs mv) (ht : ∀ F, RepL C.G F mts mvs) (hb : ∀ (s : Shared) (u : Value) (ws : List Value), C.X.K.In s.heap → ws.length = ks.length → BindsTo s fd ⟨[u], ks.zip ws⟩ (ps.zip (u :: pick ix (ws ++ mv)))) (hk : EvK C kws fk)
    (hall : (backToKw pos (keywordEach kws C.X.env)).all (·.1.isSome) = true := by rfl) (hks : (backToKw pos (keywordEach kws C.X.env)).filterMap (·.1) = ks := by rfl) (hdb : (x == ("__debug__" : Str)) = false := by decide +kernel)
    (hpl : ((backTo pos (starEach [] C.X.env)).any (·.1) || (backToKw pos (keywordEach kws C.X.env)).any (·.1.isNone)) = false := by rfl) :
    EvE C (.Call (.Name x p) [] kws pos) (makeKD ci ps.length d m ks.length ix mts fk) := by
  obtain ⟨j', rfl⟩ : ∃ j', j = j' + 1 := ⟨j - 1, by omega⟩
  refine ⟨fun pins s σ H Q I ⟨Tm, F0, env, S, q⟩ => ?_⟩
  refine wpAny_Call_Name_kw (ld_glob I hg hx ?_ hdb)
  have q1 : tG C (TLR C.G) fk σ H fun zs H1 => zs.length = ks.length ∧ ∀ x dx, H1 x = none → H1 dx = none → dx ≠ x → spT C.G ps.length m d (.ref x :: pick ix (zs ++ mvs)) (upd (upd H1 dx (.own x)) x (.ins (C.ca ci) dx [])) (fun v H2 => v = .non ∧ Q (.ref x) H2) (fun cls dd H' => C.W cls dd σ H') := by
    refine ⟨Tm, F0, env, S, At.bind (R' := RvR C.G) (Q' := Q) q fun ts env1 zs F1 H1 le1 S1 r1 q2 => ?_⟩
    by_cases hl : ts.length = ks.length
    case neg =>
      rw [if_neg hl] at q2
      exact q2.elim
    rw [if_pos hl] at q2
    exact ⟨by rw [r1.length]; exact hl, fun x dx nx nd ne => make_sp hm S1 (ArL.consts (pick_rep (r1.append (ht F1)) ix)) q2 nx nd ne⟩
  refine PySem.W.callWith_KW0 (h₀ := C.X.base) I.ok.mod.kin MK.kp hall ?_ hpl
  refine thn (hk.run pos pins s σ H _ I q1) fun ws s2 ⟨zs, H2, I2, rz, l2, h⟩ => ⟨I2.kIn, ?_⟩
  rw [hks]
  have lw : ws.length = ks.length := rz.length.symm.trans l2
  have hq := h (s2.heap.objs.size + 1) s2.heap.objs.size (I2.hok.fresh (Nat.le_succ _)) (I2.hok.fresh (Nat.le_refl _)) (Nat.ne_of_lt (Nat.lt_succ_self _))
  have I3 := Inv.made (C := C.ca ci) I2
  have r2 : Vals (V.ref (s2.heap.objs.size + 1) :: pick ix (zs ++ mvs)) (Value.ref (s2.heap.objs.size + 1) :: pick ix (ws ++ mv)) := .cons rfl (pick_vals (rz.append hv) ix)
  refine wpAny_call (make_map (f := f) I2.kIn MK.makes MK.init (beq_iff_eq.mp MK.fn) (codeAny_mono ((F.up (by omega : k ≤ j')).go (B.room.make (C.ca ci) [] (ks.zip ws)) B.grd (I3.env0.make (C.ca ci) [] (ks.zip ws)) (hb _ (Value.ref (s2.heap.objs.size + 1)) ws I3.kIn lw) r2 hq) fun r s' hq' => ?_))
  match r, hq' with
  | .error e, hq' => exact B.tk _ _ (XE.of_call I3 (fun _ _ _ z => z) hq')
  | .ok (.ret u), hq' =>
    obtain ⟨v, H', I4, rv, ev, q3⟩ := I3.after hq'
    subst ev
    exact ⟨rv, ⟨V.ref (s2.heap.objs.size + 1), H', I4, rfl, q3⟩⟩
  | .ok .next, hq' => exact False.elim hq'
  | .ok .brk, hq' => exact False.elim hq'
  | .ok .cont, hq' => exact False.elim hq'
end
end Ev
/-! Ev35: d[k], e[j] = ..; a, b = [], {}; o[k] by an own __getitem__; list(x). -/
namespace Ev
open PySem PySem.Spec L2
/-! ### targets that change what stands in the heap -/
def AtN (C : Cy) (Tm : Amb) (F : Hp) (Q : St → Hp → Prop) : SO → Prop
  | .nx env => ∀ σ F' H, Le F F' → Sok C.G Tm F' H σ env → Q σ H
  | _ => False
def tGd (C : Cy) (f : T → SM) : TG := fun v σ H Q => ∃ Tm F env t, Sok C.G Tm F H σ env ∧ Rep C.G F t v ∧ AtN C Tm F Q (f t env)
def tGds (C : Cy) (f : List T → SM) : TGs := fun vs σ H Q => ∃ Tm F env ts, Sok C.G Tm F H σ env ∧ RepL C.G F ts vs ∧ AtN C Tm F Q (f ts env)
abbrev EvD (C : Cy) (tg : Expr) (f : T → SM) : Prop := PG C.X tg (tGd C f)
abbrev EvDs (C : Cy) (tg : List Expr) (f : List T → SM) : Prop := PGs C.X tg (tGds C f)
section
variable {C : Cy} {o i e : Expr} {es : List Expr} {pos : Pos} {Tm : Amb} {F F' H : Hp} {σ : St}
theorem AtN.weak {Q : St → Hp → Prop} (h : Le F F') : ∀ {m : SO}, AtN C Tm F Q m → AtN C Tm F' Q m
  | .nx env, q => fun σ F2 H2 l s => q σ F2 H2 (h.trans l) s
  | .rt r env, q => q.elim
  | .bk env, q => q.elim
  | .ct env, q => q.elim
  | .ex c fs env, q => q.elim
  | .no, q => q.elim
theorem AtN.expr {α β : Type} {R : RelT α β} {f : M α} {k : α → SM} {env : Env} {Q : St → Hp → Prop} {Q1 : β → Hp → Prop} (h : AtN C Tm F Q (exprS f k env))
    (step : ∀ a env' b F' H', Le F F' → Sok C.G Tm F' H' σ env' → R Tm F' H' σ env' a b → AtN C Tm F' Q (k a env') → Q1 b H') : At C R Tm F σ Q1 (f env) := by
  unfold exprS at h
  cases q : f env with
  | ok a e =>
    rw [q] at h
    exact fun b F' H' l S r => step a e b F' H' l S r (AtN.weak l h)
  | ex c fs e =>
    rw [q] at h
    exact h.elim
  | no =>
    rw [q] at h
    exact h.elim
theorem set_dict (hu : C.X.A.units + 1 < cLine) : PSet C.X (fun o i v H Q => ∃ p H4, o = .ref p ∧ DPut H p i v H4 ∧ Q H4) := by
  intro pins s σ H o i v ov iv u Q I ro ri rv ⟨p, H4, eo, g, q⟩
  subst eo
  obtain rfl : ov = Value.ref p := ro
  exact d_setItem hu I g ri rv fun s4 I4 => ⟨H4, I4, q⟩
def subS (fo : M Rv) (fi : M T) : T → SM := fun v => exprS fo fun r => match r with
  | .bo j => exprS fi fun i env => (match env[j]? with
    | some (.ow t) => (match (dsetT t i v).bind fun t' => chO j t' env with
      | some e => .nx e
      | none => .no)
    | some (.io t) => (match (dsetT t i v).bind fun t' => chO j t' env with
      | some e => .nx e
      | none => .no)
    | _ => .no)
  | _ => fun _ => .no
theorem ed_sub {fo : M Rv} {fi : M T} (hu : Rm C) (ho : EvE C o fo) (hi : EvT C i fi)
    (ha : ∀ v, assign (.Subscript o i pos) C.X.env v = (do
      let ov ← holding [v] (eval o C.X.env)
      let iv ← holding [v, ov] (eval i C.X.env)
      standAt pos
      holding [v, ov, iv] (setItem ov iv v)
      release [v, ov, iv] []) := by intro _; rfl) : EvD C (.Subscript o i pos) (subS fo fi) := by
  refine pg_imp (pg_sub ho hi (set_dict (by have := hu; omega)) ha) fun v σ H Q ⟨Tm, F, env, t, S, rt, q⟩ => ⟨Tm, F, env, S, ?_⟩
  refine AtN.expr (Q := Q) q fun r env1 x F1 H1 le1 S1 r1 q1 => ⟨Tm, F1, env1, S1, ?_⟩
  cases r with
  | fz _ => exact q1.elim
  | ow _ => exact q1.elim
  | bo j =>
    refine AtN.expr (Q := Q) q1 fun ti env2 y F2 H2 le2 S2 r2 q2 => ?_
    have go : ∀ u, OwnAt env2 j u → AtN C Tm F2 Q (match (dsetT u ti t).bind fun t' => chO j t' env2 with
      | some e => .nx e
      | none => .no) → ∃ p H4, x = .ref p ∧ DPut H2 p y v H4 ∧ Q σ H4 := fun u own qq => by
      cases e3 : (dsetT u ti t).bind fun t' => chO j t' env2 with
      | none =>
        rw [e3] at qq
        exact qq.elim
      | some env4 =>
        rw [e3] at qq
        obtain ⟨t', k1, k2⟩ := Option.bind_eq_some_iff.mp e3
        obtain ⟨s0, e0, k0⟩ := own.get
        obtain ⟨z, hz, ok⟩ := S2.slot j _ e0
        obtain ⟨p, ob, ez, hp, fp, top⟩ := ok.own k0
        have hx : σ[j]? = some (some x) := r1.1
        rw [hz] at hx
        cases hx
        cases ez
        cases u <;> first | (cases k1; done) | skip
        rename_i kvs
        simp only [dsetT] at k1
        split at k1
        · rename_i hz2
          obtain ⟨k, hk, kt⟩ := Option.map_eq_some_iff.mp k1
          subst kt
          obtain ⟨xs, eo, rl⟩ := top
          subst eo
          have ey := kT_rep r2 hk
          subst ey
          refine ⟨p, _, rfl, DPut.k hp (by rw [rl.len]; exact hz2), ?_⟩
          exact qq σ F2 _ Le.rfl (S2.chO (t := .dK (putKT kvs k t)) hz ⟨_, rfl, rl.put (Rep.mono (le1.trans le2) t rt)⟩ k2)
        · cases k1
    cases e4 : env2[j]? with
    | none =>
      rw [e4] at q2
      exact q2.elim
    | some s =>
      rw [e4] at q2
      cases s with
      | un => exact q2.elim
      | fz _ => exact q2.elim
      | ow t => exact go t (.inl e4) q2
      | io t => exact go t (.inr e4) q2
def dNil : List T → SM := fun ts => match ts with
  | [] => nilS
  | _ => fun _ => .no
def dCons (f : T → SM) (g : List T → SM) : List T → SM := fun ts => match ts with
  | [] => fun _ => .no
  | t :: r => seqS (f t) (g r)
theorem ed_nil : EvDs C [] dNil := by
  refine pgs_imp pgs_nil fun v σ H Q ⟨Tm, F, env, ts, S, r, q⟩ => ?_
  cases ts with
  | nil => exact ⟨r.unnil, q σ F H Le.rfl S⟩
  | cons t r => exact q.elim
theorem ed_cons {tg : Expr} {tgs : List Expr} {f : T → SM} {g : List T → SM} (h : EvD C tg f) (h' : EvDs C tgs g) (hs : (assignEach (tg :: tgs) C.X.env).map (·.2) = assign tg C.X.env :: (assignEach tgs C.X.env).map (·.2) := by rfl) : EvDs C (tg :: tgs) (dCons f g) := by
  refine pgs_imp (pgs_cons h h' hs) fun v σ H Q ⟨Tm, F, env, ts, S, r, q⟩ => ?_
  cases ts with
  | nil => exact q.elim
  | cons t ts =>
    obtain ⟨x, xs, ex, h1, h2⟩ := r.uncons
    refine ⟨x, xs, ex, Tm, F, env, t, S, h1, ?_⟩
    have q' : AtN C Tm F Q (seqS (f t) (g ts) env) := q
    rw [seqS_ap] at q'
    cases e1 : f t env with
    | nx env1 =>
      rw [e1] at q'
      exact fun σ1 F1 H1 l1 S1 => ⟨Tm, F1, env1, ts, S1, RepL.mono l1 _ h2, AtN.weak l1 q'⟩
    | rt _ _ => rw [e1] at q'; exact q'.elim
    | bk _ => rw [e1] at q'; exact q'.elim
    | ct _ => rw [e1] at q'; exact q'.elim
    | ex _ _ _ => rw [e1] at q'; exact q'.elim
    | no => rw [e1] at q'; exact q'.elim
def dTup (n : Nat) (g : List T → SM) : T → SM := fun t => match t with
  | .tup ts => if ts.length = n then g ts else fun _ => .no
  | _ => fun _ => .no
theorem ed_tup {tgs : List Expr} {k n : Nat} {g : List T → SM} (hc : C.X.calm = true) (h : EvDs C tgs g) (hn : (assignEach tgs C.X.env).length = n := by rfl) (hst : (assignEach tgs C.X.env).findIdx? (·.1) = none := by rfl) : EvD C (.Tuple tgs k pos) (dTup n g) := by
  refine pg_imp (pg_tup hc h hn hst) fun v σ H Q ⟨Tm, F, env, t, S, r, q⟩ => ?_
  cases t <;> first | (exact q.elim) | skip
  rename_i ts
  have q' : AtN C Tm F Q ((if ts.length = n then g ts else fun _ => .no) env) := q
  by_cases hl : ts.length = n
  · rw [if_pos hl] at q'
    obtain ⟨p, xs, ev, hq, rl⟩ := rep_tup r
    exact ⟨p, xs, ev, S.sqT hq, by rw [rl.length]; exact hl, Tm, F, env, ts, S, rl, q'⟩
  · rw [if_neg hl] at q'
    exact q'.elim
def asgDS (m : M T) (f : T → SM) : SM := exprS m fun t env => match f t env with
  | .nx e => .nx e
  | _ => .no
theorem e_asgD {tg : Expr} {m : M T} {f : T → SM} (h : EvT C e m) (hg : EvD C tg f) (hs : swapsWithSole [tg] e pos.line C.X.env = pure false := by rfl) (hw : swappedStores [tg] e C.X.env = pure none := by rfl)
    (h1 : (assignEach [tg] C.X.env).map (·.2) = [assign tg C.X.env] := by rfl) : EvS C (.Assign [tg] e pos) (asgDS m f) := by
  refine ps_imp (ps_asg h hg hs hw h1) fun D σ H ⟨Tm, F, env, S, q⟩ => ⟨Tm, F, env, S, ?_⟩
  refine AtS.expr q fun t env1 x F1 H1 le1 S1 r1 q1 => ⟨Tm, F1, env1, t, S1, r1, ?_⟩
  cases e3 : f t env1 with
  | nx env3 =>
    rw [e3] at q1
    exact fun σ' F' H' l S' => q1 σ' F' H' l S'
  | rt _ _ => rw [e3] at q1; exact q1.elim
  | bk _ => rw [e3] at q1; exact q1.elim
  | ct _ => rw [e3] at q1; exact q1.elim
  | ex _ _ _ => rw [e3] at q1; exact q1.elim
  | no => rw [e3] at q1; exact q1.elim
end
/-! ### a, b = x, y: both new -/
section
variable {C : Cy} {a b : Expr} {pos : Pos}
def parOS (i j : Nat) (m1 m2 : M Rv) : SM := exprS m1 fun r1 => match r1 with
  | .ow t1 => exprS m2 fun r2 => (match r2 with
    | .ow t2 => fun env => (match (stO i t1 env).bind (stO j t2) with
      | some e => .nx e
      | none => .no)
    | .fz t2 => fun env => (match (stO i t1 env).bind (stT j t2) with
      | some e => .nx e
      | none => .no)
    | _ => fun _ => .no)
  | _ => fun _ => .no
theorem own_at {G : Gr} {Tm : Amb} {F F2 H2 : Hp} {σ : St} {env : Env} {D : Addr} {o : HO} {t : T} (S : Sok G (Tm.with D o) F2 H2 σ env) (tD : Tm.h D = none) (le : Le F F2) (top : Top G F o t) : RvR G Tm F2 H2 σ env (.ow t) (.ref D) := by
  have hD := S.tm D _ upd_same
  refine ⟨D, _, rfl, hD.1, hD.2, tD, top.mono le, fun i u o z => ?_⟩
  have q := S.tmo i D u o z
  have q' : upd Tm.h D _ D = none := q
  rw [upd_same] at q'
  cases q'
theorem e_parO {i j : Nat} {x y : Str} {px py pt : Pos} {kt k2 pt2} {m1 m2 : M Rv} (hc : C.X.calm = true) (hN : C.X.N.Nodup) (hi : C.X.N[i]? = some x) (hj : C.X.N[j]? = some y) (hij : i ≠ j)
    (hx : C.X.env.scope.names.lookup x = some .local) (hy : C.X.env.scope.names.lookup y = some .local) (h1 : EvE C a m1) (h2 : EvE C b m2)
    (hw : swappedStores [.Tuple [.Name x px, .Name y py] kt pt] (.Tuple [a, b] k2 pt2) C.X.env = pure (some [x, y]))
    (hs1 : starEach [a, b] C.X.env = (false, eval a C.X.env) :: starEach [b] C.X.env := by rfl) (hs2 : starEach [b] C.X.env = (false, eval b C.X.env) :: starEach [] C.X.env := by rfl)
    (hs : swapsWithSole [.Tuple [.Name x px, .Name y py] kt pt] (.Tuple [a, b] k2 pt2) pos.line C.X.env = pure false := by rfl) :
    EvS C (.Assign [.Tuple [.Name x px, .Name y py] kt pt] (.Tuple [a, b] k2 pt2) pos) (parOS i j m1 m2) := by
  refine ps_imp (ps_par hc hN hi hj hij hx hy (pa_cons h1 (pa_cons h2 pa_nil hs2) hs1) hw hs) fun D σ H ⟨Tm, F, env, S, q⟩ => ⟨Tm, F, env, S, ?_⟩
  refine AtS.expr q fun r1 env1 x1 F1 H1 le1 S1 q1r q1 => ?_
  cases r1 with
  | fz _ => exact q1.elim
  | bo _ => exact q1.elim
  | ow t1 =>
  obtain ⟨A1, o1, rfl, ha, fa, ta, top1, n1⟩ := q1r
  have S1D : Sok C.G (Tm.with A1 o1) F1 H1 σ env1 := by
    refine ⟨S1.sub, fun b u e => ?_, S1.len, S1.slot, S1.apart, fun k b t own z => ?_, S1.lk, S1.pio⟩
    · by_cases hb : b = A1
      · subst hb
        have e' : upd Tm.h b o1 b = some u := e
        rw [upd_same] at e'
        cases e'
        exact ⟨ha, fa⟩
      · have e' : upd Tm.h A1 o1 b = some u := e
        rw [upd_ne hb] at e'
        exact S1.tm b u e'
    · have hb : b ≠ A1 := fun q => n1 k t own (by rw [z, q])
      show upd Tm.h A1 o1 b = none
      rw [upd_ne hb]
      exact S1.tmo k b t own z
  refine ⟨Tm.with A1 o1, F1, env1, S1D, ?_⟩
  have q1' : AtS C Tm F1 D (exprS m2 (fun r2 => (match r2 with
    | .ow t2 => fun env => (match (stO i t1 env).bind (stO j t2) with
      | some e => .nx e
      | none => .no)
    | .fz t2 => fun env => (match (stO i t1 env).bind (stT j t2) with
      | some e => .nx e
      | none => .no)
    | _ => fun _ => .no)) env1) := q1
  unfold exprS at q1'
  cases e2 : m2 env1 with
  | no =>
    rw [e2] at q1'
    exact q1'.elim
  | ex c fs e =>
    rw [e2] at q1'
    exact fun d F' H' vs l S e r => q1' d σ F' H' vs l (S.outD ta) e r
  | ok r2 env2 =>
  rw [e2] at q1'
  intro y1 F2 H2 le2 S2 r2r
  have S2o : Sok C.G Tm F2 H2 σ env2 := S2.outD ta
  have own1 := own_at S2 ta le2 top1
  have go : ∀ {g : Env → Option Env} {env4 : Env}, (stO i t1 env2).bind g = some env4 → ∃ env3, stO i t1 env2 = some env3 ∧ g env3 = some env4 ∧ Sok C.G Tm F2 H2 (σ.set i (some (.ref A1))) env3 := fun {g env4} h => by
    obtain ⟨env3, k1, k2⟩ := Option.bind_eq_some_iff.mp h
    exact ⟨env3, k1, k2, S2o.stO own1 k1⟩
  refine ⟨.ref A1, y1, rfl, ?_⟩
  cases r2 with
  | bo _ => exact q1'.elim
  | fz t2 =>
    dsimp only at q1'
    cases e4 : (stO i t1 env2).bind (stT j t2) with
    | none =>
      rw [e4] at q1'
      exact q1'.elim
    | some env4 =>
      rw [e4] at q1'
      obtain ⟨env3, k1, k2, S3⟩ := go e4
      exact q1' _ F2 H2 le2 (S3.stT r2r k2)
  | ow t2 =>
    dsimp only at q1'
    cases e4 : (stO i t1 env2).bind (stO j t2) with
    | none =>
      rw [e4] at q1'
      exact q1'.elim
    | some env4 =>
      rw [e4] at q1'
      obtain ⟨env3, k1, k2, S3⟩ := go e4
      obtain ⟨B1, o2, ey, hb, fb, tb, top2, n2⟩ := r2r
      have hb2 : B1 ≠ A1 := fun z => by
        have tb' : upd Tm.h A1 o1 B1 = none := tb
        rw [z, upd_same] at tb'
        cases tb'
      have tb2 : Tm.h B1 = none := by
        have tb' : upd Tm.h A1 o1 B1 = none := tb
        rw [upd_ne hb2] at tb'
        exact tb'
      refine q1' _ F2 H2 le2 (S3.stO ⟨B1, o2, ey, hb, fb, tb2, top2, fun k u ow z => ?_⟩ k2)
      obtain ⟨s, hs, _, rfl⟩ := stO_at k1
      by_cases hk : k = i
      · subst hk
        rw [List.getElem?_set_self (by rw [S2.len]; exact (List.getElem?_eq_some_iff.mp hs).1)] at z
        cases z
        exact hb2 rfl
      · rw [List.getElem?_set_ne (Ne.symm hk)] at z
        refine n2 k u ?_ z
        rcases ow with ow | ow
        · rw [List.getElem?_set_ne (Ne.symm hk)] at ow
          exact .inl ow
        · rw [List.getElem?_set_ne (Ne.symm hk)] at ow
          exact .inr ow
end
/-! ### o[k] by an own __getitem__ -/
section
variable {C : Cy} {k j ci : Nat} {f : Addr} {fd : FuncData} {ps : List Str} {m : Nat} {d : SM} {o e : Expr} {pos : Pos} {fo fi : M T}
def getM (ci n : Nat) (fo fi : M T) (d : SM) (m : Nat) : M Rv := M.bind fo fun t => M.bind fi fun i => if isCi ci t = true then callA n d m [.fz t, .fz i] else M.no
theorem ev_getO (hmt : Meth C.X.K (C.ca ci) "__getitem__" f) (hfn : PySem.W.fnIn C.X.K f = true) (F : FnC C k f fd ps m d) (B : Bk C j) (hj : k + 1 ≤ j) (hm : ps.length ≤ m) (hb : Binds C.X.K fd ps []) (ho : EvT C o fo) (hi : EvT C e fi)
    (hsl : ∀ ov iv, subscripted e true ov iv = runValue (.builtin "lifetime.subscript" ⟨[ov, iv], []⟩) := by intro _ _; with_unfolding_all rfl) :
    EvE C (.Subscript o e pos) (getM ci ps.length fo fi d m) := by
  obtain ⟨j', rfl⟩ : ∃ j', j = j' + 1 := ⟨j - 1, by omega⟩
  refine ⟨fun pins s σ H Q I ⟨Tm, F0, env, S, q⟩ => ?_⟩
  have q1 : tG C (TR C.G) fo σ H fun x H1 => tG C (TR C.G) fi σ H1 fun y H2 => ∃ a dx vs, x = .ref a ∧ H2 a = some (.ins (C.ca ci) dx vs) ∧ spT C.G ps.length m d [x, y] H2 Q (fun cls dd H' => C.W cls dd σ H') := by
    refine ⟨Tm, F0, env, S, At.bind (R' := RvR C.G) (Q' := Q) q fun t env1 x F1 H1 le1 S1 r1 q2 => ⟨Tm, F1, env1, S1, ?_⟩⟩
    refine At.bind (R' := RvR C.G) (Q' := Q) q2 fun i env2 y F2 H2 le2 S2 r2 q3 => ?_
    by_cases hci : isCi ci t = true
    · rw [if_pos hci] at q3
      obtain ⟨a, dx, vs, ex, e1⟩ := isCi_at S2 (Rep.mono le2 t r1) hci
      exact ⟨a, dx, vs, ex, e1, call_sp hm S2 (as := [.fz t, .fz i]) ⟨x, [y], rfl, Rep.mono le2 t r1, ⟨y, [], rfl, r2, rfl⟩⟩ q3⟩
    · rw [if_neg hci] at q3
      exact q3.elim
  refine PyProof.Rows.Subscript_ (thn (ho.run pins s σ H _ I q1) fun u s1 ⟨x, H1, I1, rx, q2⟩ => thn (hi.run pins s1 σ H1 _ I1 q2) fun v s2 ⟨y, H2, I2, ry, a, dx, vs, ex, ea, h⟩ => ?_)
  subst ex
  obtain rfl : u = Value.ref a := rx
  obtain ⟨mA, O, _, _, _, _⟩ := ins_get I2.hok ea
  obtain ⟨od, J, _⟩ := O.look
  obtain ⟨m', fr⟩ := I2.fr
  have r2 : Vals [V.ref a, y] [Value.ref a, v] := .cons rfl (.cons ry .nil)
  have hl : [Value.ref a, v].length = ps.length := by rw [← h.1]; rfl
  refine PySem.W.sub_K fr I2.ok.mod.kin J hmt.at_ hfn hmt.fn (wpAny_call (codeAny_mono ((F.up (by omega : k ≤ j')).go B.room.in1 B.grd I2.env0.in1 (by
      have := hb s2 [.ref a, v] I2.kIn (by simpa using hl)
      simpa using this) r2 h) fun r s' hq => ?_)) (hsl _ _)
  match r, hq with
  | .error e, hq => exact B.tk _ _ (XE.of_call I2 (fun _ _ _ z => z) hq)
  | .ok (.ret u), hq => exact I2.after hq
  | .ok .next, hq => exact False.elim hq
  | .ok .brk, hq => exact False.elim hq
  | .ok .cont, hq => exact False.elim hq
end
/-! ### list(x) of a list, a tuple, a dict -/
section
variable {C : Cy}
def listT : T → Option Rv
  | .lst ts => some (.ow (.lst ts))
  | .tup ts => some (.ow (.lst ts))
  | .dK kvs => some (.ow (.lst (kvs.map fun p => keyT p.1)))
  | _ => none
theorem ok_list (hc : C.X.calm = true) : Call1Ok C (.type "list") listT := by
  refine ⟨_, call_list_of.or (call_listD hc), fun {Tm F H σ env x t w Q} S p hw q => ?_⟩
  cases t <;> first | (cases hw; done) | skip
  · rename_i ts
    cases hw
    obtain ⟨a, xs, ex, hq, r⟩ := pk_tup S p
    exact .inl ⟨a, xs, by rw [ex], .inr hq, fun l nl => q _ F _ Le.rfl (S.alloc nl) (RvR.new S nl ⟨_, rfl, r⟩)⟩
  · rename_i ts
    cases hw
    obtain ⟨a, xs, ex, hq, r⟩ := pk_lst S p
    exact .inl ⟨a, xs, by rw [ex], .inl hq.sq, fun l nl => q _ F _ Le.rfl (S.alloc nl) (RvR.new S nl ⟨_, rfl, r⟩)⟩
  · rename_i kvs
    cases hw
    obtain ⟨a, xs, ex, hq, rk⟩ := pk_dK S p
    exact .inr ⟨a, xs, by rw [ex], hq.rd, fun l nl => q _ F _ Le.rfl (S.alloc nl) (RvR.new S nl ⟨_, rfl, keys_rep rk⟩)⟩
end
end Ev
/-! Ev36: one rule for x[i] of any kind, for x[i] = v, for a in xs, for walks. -/
namespace Ev
open PySem PySem.Spec L2
section
variable {C : Cy} {a b e : Expr} {pos : Pos}
/-! ### x[i] -/
def rDG : R2 := fun x y H Q => ∃ a v, x = .ref a ∧ DGet H a y (some v) ∧ Q v H
theorem ix_dget (hu : C.X.A.units + 1 < cLine) : IxR C.X rDG := by
  intro value slice pins s σ H x y v u Q I rx ry h hs
  obtain ⟨p, w, rfl, g, q⟩ := h
  obtain rfl : v = Value.ref p := rx
  exact PyProof.Rows.tail_any (dict_typeIs I g) PySem.F.slot_dict_getitem.lookup (d_getItem hu I g ry fun w' s3 I3 rw' => ⟨w, H, I3, rw', q⟩) hs
def itemXT : T → T → Option Rv
  | .dK kvs, i => ((kT i).bind (getK kvs)).map .fz
  | t, i => itemT t i
def itemXM (f : M Rv) (g : M T) : M Rv := M.bind f fun r => M.bind g fun i => M.bind (pk r) fun t => M.of (itemXT t i)
theorem ev_itemX {f : M Rv} {g : M T} (hu : Rm C) (h : EvH C a f) (h' : EvT C b g) (hs : PlainIx b) : EvE C (.Subscript a b pos) (itemXM f g) := by
  refine pe_imp (pe_ix (ix_seq.or (ix_dget (by have := hu; omega))) h h' hs) fun σ H Q ⟨Tm, F, env, S, q⟩ => ⟨Tm, F, env, S, ?_⟩
  refine At.bind (R' := RvR C.G) (Q' := Q) q fun r env1 x F1 H1 le1 S1 r1 q1 => ⟨Tm, F1, env1, S1, ?_⟩
  refine At.bind (R' := RvR C.G) (Q' := Q) q1 fun u env2 y F2 H2 le2 S2 r2 q2 => ?_
  refine pk_bind S2 (r1.mono le2) q2 fun t p1 q3 => of_some q3 fun w hw q4 => ?_
  cases t with
  | dK kvs =>
    obtain ⟨v, hv, e2⟩ := Option.map_eq_some_iff.mp hw
    subst e2
    obtain ⟨k, hk, hg⟩ := Option.bind_eq_some_iff.mp hv
    obtain ⟨p, xs, ex, hq, rk⟩ := pk_dK S2 p1
    obtain ⟨z, hz, rz⟩ := rk.get hg
    have ey := kT_rep r2 hk
    subst ey
    exact .inr ⟨p, z, ex, .inl ⟨xs, k, hq.rd, rfl, hz.symm⟩, q4 z F2 H2 Le.rfl S2 rz⟩
  | str s =>
    cases u <;> first | (cases hw; done) | skip
    have hw' : itemT (.str s) (.int _) = some w := hw
    simp only [itemT] at hw'
    split at hw'
    · rename_i hz
      obtain ⟨k, e, e2⟩ := Option.map_eq_some_iff.mp hw'
      subst e2
      exact .inl (.inr (.inr ⟨_, _, _, pk_str p1, rep_int r2, hz, e, q4 _ F2 H2 Le.rfl S2 (mk_str _)⟩))
    · cases hw'
  | tup ts =>
    cases u <;> first | (cases hw; done) | skip
    obtain ⟨k, e, e2⟩ := Option.map_eq_some_iff.mp hw
    subst e2
    obtain ⟨p, xs, ex, hq, r⟩ := pk_tup S2 p1
    obtain ⟨z, hz, rz⟩ := r.atI e
    exact .inl (.inr (.inl ⟨p, xs, _, z, ex, rep_int r2, hq, hz, q4 _ F2 H2 Le.rfl S2 rz⟩))
  | lst ts =>
    cases u <;> first | (cases hw; done) | skip
    obtain ⟨k, e, e2⟩ := Option.map_eq_some_iff.mp hw
    subst e2
    obtain ⟨p, xs, ex, hq, r⟩ := pk_lst S2 p1
    obtain ⟨z, hz, rz⟩ := r.atI e
    exact .inl (.inl ⟨p, xs, _, z, ex, rep_int r2, hq.sq, hz, q4 _ F2 H2 Le.rfl S2 rz⟩)
  | _ => cases u <;> cases hw
/-! ### x[i] = v -/
theorem PSet.or {X : Cx} {r r' : TSet} (h : PSet X r) (h' : PSet X r') : PSet X (fun o i v H Q => r o i v H Q ∨ r' o i v H Q) := by
  intro pins s σ H o i v ov iv u Q I ro ri rv q
  rcases q with q | q
  · exact h pins s σ H o i v ov iv u Q I ro ri rv q
  · exact h' pins s σ H o i v ov iv u Q I ro ri rv q
def setXT : T → T → T → Option T
  | .dK kvs, i, v => dsetT (.dK kvs) i v
  | t, i, v => setT t i v
def subXS (fo : M Rv) (fi : M T) : T → SM := fun v => exprS fo fun r => match r with
  | .bo j => exprS fi fun i env => (match env[j]? with
    | some (.ow t) => (match (setXT t i v).bind fun t' => chO j t' env with
      | some e => .nx e
      | none => .no)
    | some (.io t) => (match (setXT t i v).bind fun t' => chO j t' env with
      | some e => .nx e
      | none => .no)
    | _ => .no)
  | _ => fun _ => .no
theorem ed_subX {o i : Expr} {fo : M Rv} {fi : M T} (hu : Rm C) (ho : EvE C o fo) (hi : EvT C i fi)
    (ha : ∀ v, assign (.Subscript o i pos) C.X.env v = (do
      let ov ← holding [v] (eval o C.X.env)
      let iv ← holding [v, ov] (eval i C.X.env)
      standAt pos
      holding [v, ov, iv] (setItem ov iv v)
      release [v, ov, iv] []) := by intro _; rfl) : EvD C (.Subscript o i pos) (subXS fo fi) := by
  refine pg_imp (pg_sub ho hi (PSet.or set_list (set_dict (C := C) (by have := hu; omega))) ha) fun v σ H Q ⟨Tm, F, env, t, S, rt, q⟩ => ⟨Tm, F, env, S, ?_⟩
  refine AtN.expr (Q := Q) q fun r env1 x F1 H1 le1 S1 r1 q1 => ⟨Tm, F1, env1, S1, ?_⟩
  cases r with
  | fz _ => exact q1.elim
  | ow _ => exact q1.elim
  | bo j =>
    refine AtN.expr (Q := Q) q1 fun ti env2 y F2 H2 le2 S2 r2 q2 => ?_
    have go : ∀ u, OwnAt env2 j u → AtN C Tm F2 Q (match (setXT u ti t).bind fun t' => chO j t' env2 with
      | some e => .nx e
      | none => .no) → (rSetL x y v H2 fun H' => Q σ H') ∨ ∃ p H4, x = .ref p ∧ DPut H2 p y v H4 ∧ Q σ H4 := fun u own qq => by
      cases e3 : (setXT u ti t).bind fun t' => chO j t' env2 with
      | none =>
        rw [e3] at qq
        exact qq.elim
      | some env4 =>
        rw [e3] at qq
        obtain ⟨t', k1, k2⟩ := Option.bind_eq_some_iff.mp e3
        obtain ⟨s0, e0, k0⟩ := own.get
        obtain ⟨z, hz, ok⟩ := S2.slot j _ e0
        obtain ⟨p, ob, ez, hp, fp, top⟩ := ok.own k0
        have hx : σ[j]? = some (some x) := r1.1
        rw [hz] at hx
        cases hx
        cases ez
        have rt2 := Rep.mono (le1.trans le2) t rt
        cases u with
        | dK kvs =>
          have k1' : dsetT (.dK kvs) ti t = some t' := k1
          simp only [dsetT] at k1'
          split at k1'
          · rename_i hz2
            obtain ⟨k, hk, kt⟩ := Option.map_eq_some_iff.mp k1'
            subst kt
            obtain ⟨xs, eo, rl⟩ := top
            subst eo
            have ey := kT_rep r2 hk
            subst ey
            refine .inr ⟨p, _, rfl, DPut.k hp (by rw [rl.len]; exact hz2), ?_⟩
            exact qq σ F2 _ Le.rfl (S2.chO (t := .dK (putKT kvs k t)) hz ⟨_, rfl, rl.put rt2⟩ k2)
          · cases k1'
        | lst ts =>
          cases ti <;> first | (cases k1; done) | skip
          rename_i ix
          obtain ⟨n, kn, kt⟩ := Option.map_eq_some_iff.mp (show (ixN ts.length ix).map (fun j => T.lst (ts.set j t)) = some t' from k1)
          subst kt
          obtain ⟨xs, eo, rl⟩ := top
          subst eo
          refine .inl ⟨p, xs, _, n, rfl, rep_int r2, hp, by rw [rl.length]; exact kn, ?_⟩
          exact qq σ F2 _ Le.rfl (S2.chO (t := .lst (ts.set n t)) hz ⟨_, rfl, rl.set n rt2⟩ k2)
        | _ => cases ti <;> cases k1
    cases e4 : env2[j]? with
    | none =>
      rw [e4] at q2
      exact q2.elim
    | some s =>
      rw [e4] at q2
      cases s with
      | un => exact q2.elim
      | fz _ => exact q2.elim
      | ow t => exact go t (.inl e4) q2
      | io t => exact go t (.inr e4) q2
/-! ### a in xs -/
def flatT : T → Bool
  | .non => true
  | .bl _ => true
  | .int _ => true
  | .str _ => true
  | _ => false
def eqFl : T → T → Bool
  | .non, .non => true
  | .bl a, .bl b => a == b
  | .bl a, .int b => (if a then 1 else 0) == b
  | .int a, .bl b => a == (if b then 1 else 0)
  | .int a, .int b => a == b
  | .str a, .str b => a == b
  | _, _ => false
def inXL (t : T) (us : List T) : Option Bool := if flatT t = true ∧ us.all flatT = true then some (us.any fun u => eqFl u t) else none
def inXT : T → T → Option Bool
  | t, .tup us => inXL t us
  | t, .lst us => inXL t us
  | _, _ => none
def ninXT (t u : T) : Option Bool := (inXT t u).map not
theorem flatT_pk {Tm : Amb} {F H : Hp} {σ : St} {env : Env} {t : T} {x : V} (S : Sok C.G Tm F H σ env) (h : flatT t = true) (p : Pk C.G F H t x) : (t = .non ∧ x = .non) ∨ (∃ b, t = .bl b ∧ x = .bl b) ∨ (∃ b, t = .int b ∧ x = .int b) ∨ (∃ b, t = .str b ∧ x = .str b) := by
  cases t <;> first | (cases h; done) | skip
  · exact .inl ⟨rfl, pk_non p⟩
  · exact .inr (.inl ⟨_, rfl, pk_bl p⟩)
  · exact .inr (.inr (.inl ⟨_, rfl, pk_int p⟩))
  · exact .inr (.inr (.inr ⟨_, rfl, pk_str p⟩))
theorem flatL {Tm : Amb} {F H : Hp} {σ : St} {env : Env} {t : T} {x : V} (S : Sok C.G Tm F H σ env) (ht : flatT t = true) (p : Pk C.G F H t x) : ∀ {us : List T} {xs : List V}, us.all flatT = true → RepL C.G F us xs → flatV x = true ∧ xs.all flatV = true ∧ inV x xs = us.any fun u => eqFl u t
  | [], xs, _, r => by
    rw [r.unnil]
    rcases flatT_pk S ht p with ⟨_, rfl⟩ | ⟨_, _, rfl⟩ | ⟨_, _, rfl⟩ | ⟨_, _, rfl⟩ <;> exact ⟨rfl, rfl, rfl⟩
  | u :: us, xs, h, r => by
    obtain ⟨y, ys, e, h1, h2⟩ := r.uncons
    subst e
    obtain ⟨a1, a2⟩ := Bool.and_eq_true_iff.mp (List.all_cons ▸ h)
    obtain ⟨f1, f2, f3⟩ := flatL S ht p a2 h2
    have hy : flatV y = true ∧ eqV y x = eqFl u t := by
      rcases flatT_pk S a1 (.inl h1) with ⟨rfl, rfl⟩ | ⟨_, rfl, rfl⟩ | ⟨_, rfl, rfl⟩ | ⟨_, rfl, rfl⟩ <;>
      rcases flatT_pk S ht p with ⟨rfl, rfl⟩ | ⟨_, rfl, rfl⟩ | ⟨_, rfl, rfl⟩ | ⟨_, rfl, rfl⟩ <;> exact ⟨rfl, rfl⟩
    refine ⟨f1, by rw [List.all_cons, hy.1, f2]; rfl, ?_⟩
    unfold inV at f3 ⊢
    rw [List.any_cons, List.any_cons, hy.2, f3]
theorem inX_row {Tm : Amb} {F H : Hp} {σ : St} {env : Env} {x y : V} {t u : T} {w : Bool} (S : Sok C.G Tm F H σ env) (p1 : Pk C.G F H t x) (p2 : Pk C.G F H u y) (hw : inXT t u = some w) : ∃ p xs, y = .ref p ∧ (SqL C.X.K H p xs ∨ SqT C.X.K H p xs) ∧ flatV x = true ∧ xs.all flatV = true ∧ inV x xs = w := by
  cases u <;> first | (cases t <;> cases hw; done) | skip
  · rename_i us
    have hw' : inXL t us = some w := hw
    unfold inXL at hw'
    split at hw'
    · rename_i hh
      cases hw'
      obtain ⟨a, xs, ey, hq, rl⟩ := pk_tup S p2
      exact ⟨a, xs, ey, .inr hq, flatL S hh.1 p1 hh.2 rl⟩
    · cases hw'
  · rename_i us
    have hw' : inXL t us = some w := hw
    unfold inXL at hw'
    split at hw'
    · rename_i hh
      cases hw'
      obtain ⟨a, xs, ey, hq, rl⟩ := pk_lst S p2
      exact ⟨a, xs, ey, .inl hq.sq, flatL S hh.1 p1 hh.2 rl⟩
    · cases hw'
theorem ok_inX : CmpOk C .In inXT := by
  refine ⟨_, op_in_seq, fun {Tm F H σ env x y t u w Q} S p1 p2 hw q => ?_⟩
  obtain ⟨p, xs, e1, e2, e3, e4, e5⟩ := inX_row S p1 p2 hw
  refine ⟨p, xs, e1, e2, e3, e4, ?_⟩
  rw [if_neg (by decide), e5]
  exact q
theorem ok_ninX : CmpOk C .NotIn ninXT := by
  refine ⟨_, op_notIn_seq, fun {Tm F H σ env x y t u w Q} S p1 p2 hw q => ?_⟩
  obtain ⟨b, hb, e0⟩ := Option.map_eq_some_iff.mp hw
  obtain ⟨p, xs, e1, e2, e3, e4, e5⟩ := inX_row S p1 p2 hb
  refine ⟨p, xs, e1, e2, e3, e4, ?_⟩
  rw [if_pos rfl, e5, e0]
  exact q
end
end Ev
/-! Ev37: walks of any kind; the head: properties, dicts with text keys. -/
namespace Ev
open PySem PySem.Spec L2
def walkT : T → Option (List T)
  | .dK kvs => keysT (.dK kvs)
  | t => seqT t
section
variable {C : Cy} {tg e : Expr}
theorem ej_any {f : M T} (h : EvT C e f) : EvJ C tg e (M.bind f fun t => M.of (walkT t)) := by
  refine ⟨fun pins s σ H R I ⟨Tm, F, env, S, q⟩ => ?_⟩
  have q' : AtW C Tm F σ R ((f env).bind fun t => M.of (walkT t)) := q
  cases hf : f env with
  | no =>
    rw [hf] at q'
    exact q'.elim
  | ex c fs env1 =>
    refine (ej_keys h).run pins s σ H R I ⟨Tm, F, env, S, ?_⟩
    show AtW C Tm F σ R ((f env).bind fun t => M.of (keysT t))
    rw [hf] at q' ⊢
    exact q'
  | ok t env1 =>
    rw [hf] at q'
    have sq : walkT t = seqT t → wpAny (model C.X.prog C.X.w) C.X.A (eval e C.X.env) (fun v s1 => wpAny (model C.X.prog C.X.w) C.X.A (pyIter v) (PIE C.X pins σ tg R) C.X.xe s1) C.X.xe s := fun ew => by
      refine (ej_up (ei_seq h)).run pins s σ H R I ⟨Tm, F, env, S, ?_⟩
      show AtW C Tm F σ R ((f env).bind fun t => M.of (seqT t))
      rw [hf]
      show AtW C Tm F σ R (M.of (seqT t) env1)
      rw [← ew]
      exact q'
    cases t with
    | dK kvs =>
      refine (ej_keys h).run pins s σ H R I ⟨Tm, F, env, S, ?_⟩
      show AtW C Tm F σ R ((f env).bind fun t => M.of (keysT t))
      rw [hf]
      exact q'
    | _ => exact sq rfl
end
/-! ### properties in the head -/
def prA (K : PySem.W.Frag) (C : Addr) (f : Str) : Addr := match PySem.W.recIn K (He.ma K C f) "property" with
  | some (.ref g :: _) => g
  | _ => 0
def prB (K : PySem.W.Frag) (C : Addr) (f : Str) : Bool := He.eqO (PySem.W.findIn K (.ref C) f) (some (some (.ref (He.ma K C f)))) && (He.eqO (PySem.W.specialIn K (.ref (He.ma K C f)) "__get__") (some (some (.builtin "property.__get__"))) &&
  (decide (PySem.W.takesIn K (.ref (He.ma K C f)) = some true) && (match PySem.W.recIn K (He.ma K C f) "property" with
    | some (.ref _ :: _) => true
    | _ => false)))
theorem prB_ok {K : PySem.W.Frag} {C : Addr} {f : Str} (h : prB K C f = true) : PropOf K C f (He.ma K C f) (prA K C f) := by
  unfold prB at h
  obtain ⟨h1, h⟩ := He.ba h
  obtain ⟨h2, h⟩ := He.ba h
  obtain ⟨h3, h4⟩ := He.ba h
  refine ⟨He.eqO_ok h1, He.eqO_ok h2, of_decide_eq_true h3, ?_⟩
  unfold prA
  split at h4
  · rename_i g r e
    exact ⟨r, by rw [e]⟩
  · cases h4
/-! ### defs that stand at a place of their own (a property's, a static method's) -/
structure AdD where
  ad : PySem.W.Frag → Addr
  name : Str
  qual : Str
  params : Arguments
  body : List Stmt
  scope : Scope
def wOf : Data → He.FnW
  | .func d => some (d.name, d.qualname, d.params, d.body, d.scope, d.globals, d.closure, d.builtins)
  | _ => none
def wAt (K : PySem.W.Frag) (a : Addr) : He.FnW := (K.lookup a).bind fun o => wOf o.data
def AdD.val (d : AdD) : He.FnW := some (d.name, d.qual, d.params, .stmts d.body, d.scope, mainGlobals, [], builtinsNs)
def fdB (K : PySem.W.Frag) (q : Str) : Data → Bool
  | .func d => PySem.W.codeIn K d.code q && (He.dflB K d.defaults [] && He.kwdB K d.kwdefaults [])
  | _ => false
def AdD.ok (K : PySem.W.Frag) (d : AdD) : Bool := PySem.W.keepIn K (.ref (d.ad K)) && (match K.lookup (d.ad K) with
  | some o => fdB K d.qual o.data
  | none => false)
theorem AdD.funD {K : PySem.W.Frag} {d : AdD} (e : wAt K (d.ad K) = d.val) (c : d.ok K = true) : ∃ fd, FunD K d.name d.qual d.params d.body d.scope [] [] (d.ad K) fd := by
  obtain ⟨kp, c2⟩ := He.ba c
  unfold wAt at e
  cases q : K.lookup (d.ad K) with
  | none =>
    rw [q] at c2
    cases c2
  | some o =>
    rw [q] at c2 e
    obtain ⟨oc, od, dt, osl⟩ := o
    cases dt with
    | func fd =>
      have e2 : (some (fd.name, fd.qualname, fd.params, fd.body, fd.scope, fd.globals, fd.closure, fd.builtins) : He.FnW) = some (d.name, d.qual, d.params, .stmts d.body, d.scope, mainGlobals, [], builtinsNs) := e
      obtain ⟨m1, m2, m3, m4, m5, m6, m7, m8, m9, m10, m11, m12, m13, m14, m15⟩ := fd
      simp only [Option.some.injEq, Prod.mk.injEq] at e2
      obtain ⟨h1, h2, h3, h4, h5, h6, h7, h8⟩ := e2
      subst h1 h2 h3 h4 h5 h6 h7 h8
      obtain ⟨k1, k2⟩ := He.ba (show (PySem.W.codeIn K m13 d.qual && (He.dflB K m8 [] && He.kwdB K m9 [])) = true from c2)
      obtain ⟨k3, k4⟩ := He.ba k2
      exact ⟨_, ⟨oc, od, m8, m9, m10, m11, m12, m13, m14, osl, rfl, q, k1, He.dflB_ok k3, He.kwdB_ok k4⟩, kp⟩
    | _ => cases c2
/-! ### the hook -/
def growY (g : Addr → Option Obj) (as : List Addr) : List Addr := (as ++ as.flatMap fun a => match g a with
  | some o => He.refsD o ++ (match o.data with
    | .dict es _ => es.toList.flatMap fun e => He.refV e.key
    | _ => [])
  | none => []).eraseDups
def asY (g : Addr → Option Obj) : Nat → List Addr
  | 0 => [mainGlobals]
  | n + 1 => growY g (asY g n)
abbrev KeyL : Type := List (Option (List (Option (Str × Int))))
abbrev AlY : Type := (Bool × KeyL) × (He.AlD × List He.FnW)
structure HY where
  n : Nat
  fa : List He.Fa
  fn : List He.DefD
  pf : List AdD
  dk : List (Str × List Str)
  ex : PySem.W.Frag → Bool
def HY.obK (h : HY) (K : PySem.W.Frag) : AlY := ((h.ex K && h.pf.all fun d => d.ok K, h.dk.map fun p => He.dicW K (He.ga K p.1)), (He.obsD h.fa h.fn K, h.pf.map fun d => wAt K (d.ad K)))
def HY.ob (h : HY) (g : Addr → Option Obj) : AlY := h.obK (He.frG g (asY g h.n ++ [cStatics]))
def HY.vl (h : HY) (w : World) : AlY := ((true, h.dk.map fun p => some (He.keysIn w.params p.2)), (He.valD h.fn, h.pf.map AdD.val))
/-- what the head says -/
structure SaysY (h : HY) (w : World) (K : PySem.W.Frag) : Prop where
  eq : h.obK K = h.vl w
def hookY (h : HY) : PySem.W.Hook where
  α := AlY
  obs := fun s => h.ob s.heap.get?
  val := fun w => h.vl w
  says := fun w hp => ∃ K : PySem.W.Frag, K.In hp ∧ SaysY h w K
  of := fun _ _ e => ⟨_, He.frG_in, ⟨e⟩⟩
  keeps := fun _ _ _ ⟨K, hK, c⟩ z => ⟨K, PySem.W.Frag.In.keeps hK z, c⟩
theorem obY_eq {h : HY} {g : Addr → Option Obj} {s : Shared} (e : ∀ a, g a = s.heap.get? a) : h.ob g = (hookY h).obs s := by
  have e' : g = s.heap.get? := funext e
  subst e'
  rfl
section
variable {h : HY} {w : World} {K : PySem.W.Frag}
theorem SaysY.d (c : SaysY h w K) : He.SaysD h.fa h.fn K := congrArg (fun z : AlY => z.2.1) c.eq
theorem SaysY.x (c : SaysY h w K) : h.ex K = true := (He.ba (show (h.ex K && h.pf.all fun d => d.ok K) = true from congrArg (fun z : AlY => z.1.1) c.eq)).1
theorem SaysY.p (c : SaysY h w K) (i : Nat) {d : AdD} (e : h.pf[i]? = some d := by rfl) : ∃ fd, FunD K d.name d.qual d.params d.body d.scope [] [] (d.ad K) fd := by
  have a1 := (He.ba (show (h.ex K && h.pf.all fun d => d.ok K) = true from congrArg (fun z : AlY => z.1.1) c.eq)).2
  have a2 : (h.pf.map fun d => wAt K (d.ad K)) = h.pf.map AdD.val := congrArg (fun z : AlY => z.2.2) c.eq
  refine AdD.funD ?_ (List.all_eq_true.mp a1 d (List.mem_of_getElem? e))
  have a3 := congrArg (fun l : List He.FnW => l[i]?) a2
  simp only [List.getElem?_map, e, Option.map_some, Option.some.injEq] at a3
  exact a3
theorem SaysY.k (c : SaysY h w K) (i : Nat) {p : Str × List Str} (e : h.dk[i]? = some p := by rfl) : He.dicW K (He.ga K p.1) = some (He.keysIn w.params p.2) := by
  have a2 : (h.dk.map fun p => He.dicW K (He.ga K p.1)) = h.dk.map fun p => some (He.keysIn w.params p.2) := congrArg (fun z : AlY => z.1.2) c.eq
  have a3 := congrArg (fun l : KeyL => l[i]?) a2
  simp only [List.getElem?_map, e, Option.map_some, Option.some.injEq] at a3
  exact a3
end
end Ev
/-! Ev38: append to a list that nobody keeps. -/
namespace Ev
open PySem PySem.Spec L2
section
variable {C : Cy} {o e : Expr} {apos cpos : Pos} {g : M Rv} {f : M T}
def appOM (g : M Rv) (f : M T) : M Rv := M.bind g fun r => match r with
  | .ow (.lst ts) => M.bind f fun t => if ts.length < sizeLine then M.pure (.fz .non) else M.no
  | _ => M.no
theorem hold_own {Tm : Amb} {F H : Hp} {σ : St} {env : Env} {a : Addr} {ob : HO} (S : Sok C.G Tm F H σ env) (ha : H a = some ob) (fa : F a = none) (n : ∀ (i : Nat) u, OwnAt env i u → σ[i]? ≠ some (some (.ref a))) : Sok C.G (Tm.with a ob) F H σ env := by
  refine ⟨S.sub, fun b u e => ?_, S.len, S.slot, S.apart, fun k b t own z => ?_, S.lk, S.pio⟩
  · by_cases hb : b = a
    · subst hb
      have e' : upd Tm.h b ob b = some u := e
      rw [upd_same] at e'
      cases e'
      exact ⟨ha, fa⟩
    · have e' : upd Tm.h a ob b = some u := e
      rw [upd_ne hb] at e'
      exact S.tm b u e'
  · have hb : b ≠ a := fun q => n k t own (by rw [z, q])
    show upd Tm.h a ob b = none
    rw [upd_ne hb]
    exact S.tmo k b t own z
theorem ev_appO (ho : EvE C o g) (he : EvT C e f) (hs : starEach [e] C.X.env = [(false, eval e C.X.env)] := by rfl) (hbase : attributeBase o "append" C.X.env (eval o C.X.env) = eval o C.X.env := by rfl) (hline : (apos.endLine == cpos.line) = true := by rfl)
    (hfew : ((backTo cpos (starEach [e] C.X.env)).all (fun x => !x.1) && (backToKw cpos (keywordEach [] C.X.env)).all (fun x => x.1.isSome) && decide (([e] : List Expr).length + ([] : List Keyword).length + (if ([] : List Keyword).isEmpty then 0 else 1) < 30)) = true := by rfl) :
    EvE C (.Call (.Attribute o "append" apos) [e] [] cpos) (appOM g f) := by
  have ha : EvA C [e] (consM f (M.pure [])) := ea_cons he ea_nil hs
  refine pe_imp (pe_bm PySem.F.plainAttrs_list PySem.F.slot_list_append PySem.F.type_list_append mt_append ho ha hbase hfew hline hs rfl) fun σ H Q ⟨Tm, F, env, S, q⟩ => ⟨Tm, F, env, S, ?_⟩
  refine At.bind (R' := RvR C.G) (Q' := Q) q fun r env1 x F1 H1 le1 S1 r1 q1 => ?_
  cases r with
  | fz t => exact q1.elim
  | bo j => exact q1.elim
  | ow t =>
  cases t <;> first | exact q1.elim | skip
  rename_i ts
  obtain ⟨a, ob, rfl, h1, h2, h3, ⟨xs, rfl, rl⟩, h5⟩ := r1
  have S1D := hold_own S1 h1 h2 h5
  refine ⟨.inl ⟨rfl, xs, .inl (.inl h1)⟩, Tm.with a (.lst xs), F1, env1, S1D, ?_⟩
  have q2 : At C (RvR C.G) Tm F1 σ Q ((f env1).bind fun t => if ts.length < sizeLine then M.pure (.fz .non) else M.no) := q1
  show At C (TLR C.G) (Tm.with a (.lst xs)) F1 σ _ ((f env1).bind fun t => M.bind (M.pure []) fun ts => M.pure (t :: ts))
  cases ef : f env1 with
  | no =>
    rw [ef] at q2
    exact q2.elim
  | ex c fs e1 =>
    rw [ef] at q2
    exact fun d F' H' vs l S e r => q2 d F' H' vs l (S.outD h3) e r
  | ok t env2 =>
    rw [ef] at q2
    intro ys F2 H2 le2 S2 r2
    obtain ⟨y, r', ey, ry, rn⟩ := RepL.uncons r2
    have en := rn.unnil
    subst en ey
    have q3 : At C (RvR C.G) Tm F1 σ Q ((if ts.length < sizeLine then M.pure (.fz .non) else M.no) env2) := q2
    by_cases hz : ts.length < sizeLine
    case neg =>
      rw [if_neg hz] at q3
      exact q3.elim
    rw [if_pos hz] at q3
    have hl2 := (S2.tm a _ upd_same).1
    refine ⟨a, xs, y, rfl, rfl, hl2, by rw [rl.length]; exact hz, ?_⟩
    exact q3 .non F2 _ le2 ((S2.chD (u := .lst (xs ++ [y]))).outD h3) mk_non
end
end Ev
/-! Ev39: what a def hands out, as a value; calls by it. -/
namespace Ev
open PySem PySem.Spec L2
/-- what a body hands out (nothing is handed in to be changed) -/
def rO : SO → Option Rv
  | .rt (.fz t) _ => some (.fz t)
  | .rt (.ow t) _ => some (.ow t)
  | .rt (.bo j) ce => (match ce[j]? with
    | some (.ow t) => some (.ow t)
    | _ => none)
  | .nx _ => some (.fz .non)
  | _ => none
theorem call_rO {d : SM} {m n : Nat} {ts : List T} {env : Env} {r : Rv} (hl : ts.length = n) (h : rO (d (ts.map Sl.fz ++ List.replicate (m - n) .un)) = some r) : callA n d m (ts.map Ar.fz) env = .ok r env := by
  unfold callA callD
  rw [List.length_map, if_pos hl, inE_fzs, iosOf_fz, hl]
  cases e : d (ts.map Sl.fz ++ List.replicate (m - n) .un) with
  | nx ce =>
    rw [e] at h
    cases h
    simp only [e, allIo_fz, outE_fz, if_true, List.nodup_nil]
  | rt q ce =>
    rw [e] at h
    simp only [e, allIo_fz, outE_fz, if_true, List.nodup_nil]
    cases q with
    | fz t => cases h; rfl
    | ow t => cases h; rfl
    | bo j =>
      simp only [rO] at h ⊢
      cases ej : ce[j]? with
      | none => rw [ej] at h; cases h
      | some s =>
        rw [ej] at h
        cases s <;> first | (cases h; done) | skip
        cases h
        rfl
  | ex c fs ce => rw [e] at h; cases h
  | bk ce => rw [e] at h; cases h
  | ct ce => rw [e] at h; cases h
  | no => rw [e] at h; cases h
theorem loop_step {tg : TM} {B : SM} {t : T} {ts : List T} {env e1 e2 : Env} (h1 : tg t env = some e1) (h2 : B e1 = .nx e2) : loopS tg B (t :: ts) env = loopS tg B ts e2 := by simp only [loopS, h1, h2]
theorem at_end {α : Type} (l : List α) (a : α) : (l ++ [a])[l.length]? = some a := by simp
theorem make_call {ci n m : Nat} {d : SM} {ts : List T} {env ce : Env} {t : T} {o : SO} (hl : ts.length + 1 = n) (h : d (.io (.ins ci []) :: ts.map Sl.fz ++ List.replicate (m - n) .un) = o) (hc : ce[0]? = some (.io t)) :
    (o = .nx ce → makeA ci n d m (ts.map Ar.fz) env = .ok (.ow t) env) ∧ (∀ c fs, o = .ex c fs ce → makeA ci n d m (ts.map Ar.fz) env = .ex c fs env) := by
  have hin : inE (env ++ [.ow (.ins ci [])]) (.io env.length :: ts.map Ar.fz) = some (.io (.ins ci []) :: ts.map Sl.fz) := by
    rw [inE, at_end, inE_fzs]
    rfl
  have hn : (iosOf (.io env.length :: ts.map Ar.fz)).Nodup := by rw [iosOf, iosOf_fz]; simp
  have ha : allIo ce 0 (.io env.length :: ts.map Ar.fz) = true := by rw [allIo, hc, allIo_fz]; rfl
  have hk : (Ar.io env.length :: ts.map Ar.fz).length = n := by simp [hl]
  have ho : outE (.io env.length :: ts.map Ar.fz) ce 0 (env ++ [.ow (.ins ci [])]) = env ++ [.ow t] := by
    rw [outE_io hc, if_pos (Nat.zero_le _), Nat.sub_zero, at_end]
    simp [putSl]
  have h' : d ((Sl.io (.ins ci []) :: List.map Sl.fz ts) ++ List.replicate (m - n) Sl.un) = o := h
  constructor
  · intro e
    subst e
    unfold makeA callA callD
    simp only [hk, if_true, hin, if_pos hn, h', ha, ho, at_end, List.take_left']
  · intro c fs e
    subst e
    unfold makeA callA callD
    simp only [hk, if_true, hin, if_pos hn, h', ha, ho]
    simp
/-- a call that changes its first argument in place and hands out an object of its own -/
theorem call_ioB {d : SM} {m n i j : Nat} {ts : List T} {env ce : Env} {t u : T} {r : T} {s : Sl} (hl : ts.length + 1 = n) (hi : env[i]? = some s) (ho : ownT s = some t) (h : d (.io t :: ts.map Sl.fz ++ List.replicate (m - n) .un) = .rt (.bo j) ce) (hc : ce[0]? = some (.io u)) (hj : ce[j]? = some (.ow r)) :
    callA n d m (.io i :: ts.map Ar.fz) env = .ok (.ow r) (env.set i (putSl s u)) := by
  unfold callA callD
  have hin : inE env (.io i :: ts.map Ar.fz) = some (.io t :: ts.map Sl.fz) := by
    rw [inE, hi, inE_fzs]
    show (Option.bind (ownT s) fun t => some (.io t :: ts.map Sl.fz)) = _
    rw [ho]; rfl
  have hn : (iosOf (.io i :: ts.map Ar.fz)).Nodup := by rw [iosOf, iosOf_fz]; simp
  have ha : allIo ce 0 (.io i :: ts.map Ar.fz) = true := by
    rw [allIo, hc, allIo_fz]; rfl
  have hk : (Ar.io i :: ts.map Ar.fz).length = n := by simp [hl]
  rw [if_pos hk, hin]
  simp only [hk]
  rw [if_pos hn]
  have h' : d ((Sl.io t :: List.map Sl.fz ts) ++ List.replicate (m - n) Sl.un) = SO.rt (Rv.bo j) ce := h
  rw [h']
  simp only [ha, if_true, hj]
  rw [outE_io hc, if_pos (Nat.zero_le _), Nat.sub_zero, hi]
/-- what a statement leaves, looked at -/
def nxE : SO → Option Env
  | .nx e => some e
  | _ => none
theorem nxE_ok {o : SO} {e : Env} (h : nxE o = some e) : o = .nx e := by
  cases o <;> cases h
  rfl
end Ev
/-! Ev40: a world by its word on one row. -/
namespace Ev
open PySem PySem.Spec L2
/-- the same world, its word on the row that a hash asks written out -/
def wF (w : World) (b : Bool) : World := ⟨w.draws, { w.params with followText := fun s => match decide (s = "special-get-raises") with
  | true => b
  | false => w.params.followText s }⟩
theorem wF_eq (w : World) : wF w (w.params.followText "special-get-raises") = w := by
  obtain ⟨d, p⟩ := w
  have e : (fun s => match decide (s = "special-get-raises") with
    | true => p.followText "special-get-raises"
    | false => p.followText s) = p.followText := by
    funext s
    by_cases h : s = "special-get-raises"
    · subst h
      rfl
    · rw [decide_eq_false h]
  unfold wF
  dsimp only
  rw [e]
theorem wF_all {P : World → Prop} (h : ∀ w b, P (wF w b)) (w : World) : P w := by
  have := h w (w.params.followText "special-get-raises")
  rw [wF_eq] at this
  exact this
end Ev
/-! Ev41: a, b = [], {..} with names of any kind: by a tuple. -/
namespace Ev
open PySem PySem.Spec L2
section
variable {C : Cy} {a b : Expr} {pos : Pos}
theorem e_parT {i j : Nat} {x y : Str} {px py pt : Pos} {kt k2 pt2} {m1 m2 : M Rv} (hc : C.X.calm = true) (hN : C.X.N.Nodup) (hi : C.X.N[i]? = some x) (hj : C.X.N[j]? = some y)
    (hx : Loc C.X.env.scope x) (hy : Loc C.X.env.scope y) (h1 : EvE C a m1) (h2 : EvE C b m2)
    (hw : swappedStores [.Tuple [.Name x px, .Name y py] kt pt] (.Tuple [a, b] k2 pt2) C.X.env = pure none := by rfl)
    (fx : C.X.fn x = true ∨ C.X.env.scope.names.lookup x = some .local := by first | exact .inl rfl | exact .inr rfl) (fy : C.X.fn y = true ∨ C.X.env.scope.names.lookup y = some .local := by first | exact .inl rfl | exact .inr rfl)
    (hs1 : starEach [a, b] C.X.env = (false, eval a C.X.env) :: starEach [b] C.X.env := by rfl) (hs2 : starEach [b] C.X.env = (false, eval b C.X.env) :: starEach [] C.X.env := by rfl)
    (hs : swapsWithSole [.Tuple [.Name x px, .Name y py] kt pt] (.Tuple [a, b] k2 pt2) pos.line C.X.env = pure false := by rfl)
    (hn : (assignEach [.Name x px, .Name y py] C.X.env).length = 2 := by rfl) (hst : (assignEach [.Name x px, .Name y py] C.X.env).findIdx? (·.1) = none := by rfl)
    (ha1 : (assignEach [.Name x px, .Name y py] C.X.env).map (·.2) = assign (.Name x px) C.X.env :: (assignEach [.Name y py] C.X.env).map (·.2) := by rfl) (ha2 : (assignEach [.Name y py] C.X.env).map (·.2) = assign (.Name y py) C.X.env :: (assignEach [] C.X.env).map (·.2) := by rfl)
    (ha3 : (assignEach [.Tuple [.Name x px, .Name y py] kt pt] C.X.env).map (·.2) = [assign (.Tuple [.Name x px, .Name y py] kt pt) C.X.env] := by rfl) :
    EvS C (.Assign [.Tuple [.Name x px, .Name y py] kt pt] (.Tuple [a, b] k2 pt2) pos) (parOS i j m1 m2) := by
  refine ps_imp (ps_asg (pe_tup (pa_cons h1 (pa_cons h2 pa_nil hs2) hs1)) (pg_tup hc (pgs_cons (pg_name hN hi hx fx) (pgs_cons (pg_name hN hj hy fy) pgs_nil ha2) ha1) hn hst) hs hw ha3) fun D σ H ⟨Tm, F, env, S, q⟩ => ⟨Tm, F, env, S, ?_⟩
  refine AtS.expr q fun r1 env1 x1 F1 H1 le1 S1 q1r q1 => ?_
  cases r1 with
  | fz _ => exact q1.elim
  | bo _ => exact q1.elim
  | ow t1 =>
  obtain ⟨A1, o1, rfl, ha, fa, ta, top1, n1⟩ := q1r
  have S1D := hold_own S1 ha fa n1
  refine ⟨Tm.with A1 o1, F1, env1, S1D, ?_⟩
  have q1' : AtS C Tm F1 D (exprS m2 (fun r2 => (match r2 with
    | .ow t2 => fun env => (match (stO i t1 env).bind (stO j t2) with
      | some e => .nx e
      | none => .no)
    | .fz t2 => fun env => (match (stO i t1 env).bind (stT j t2) with
      | some e => .nx e
      | none => .no)
    | _ => fun _ => .no)) env1) := q1
  unfold exprS at q1'
  cases e2 : m2 env1 with
  | no =>
    rw [e2] at q1'
    exact q1'.elim
  | ex c fs e =>
    rw [e2] at q1'
    exact fun d F' H' vs l S e r => q1' d σ F' H' vs l (S.outD ta) e r
  | ok r2 env2 =>
  rw [e2] at q1'
  intro y1 F2 H2 le2 S2 r2r
  refine ⟨by show 2 ≤ sizeLine; decide, fun p np => ?_⟩
  have S2p := S2.alloc (o := .tup [.ref A1, y1]) np
  have S2o : Sok C.G Tm F2 _ σ env2 := S2p.outD ta
  have own1 := own_at S2p ta le2 top1
  have go : ∀ {g : Env → Option Env} {env4 : Env}, (stO i t1 env2).bind g = some env4 → ∃ env3, stO i t1 env2 = some env3 ∧ g env3 = some env4 ∧ Sok C.G Tm F2 _ (σ.set i (some (.ref A1))) env3 := fun {g env4} h => by
    obtain ⟨env3, k1, k2⟩ := Option.bind_eq_some_iff.mp h
    exact ⟨env3, k1, k2, S2o.stO own1 k1⟩
  refine ⟨p, [.ref A1, y1], rfl, .inl (.inl upd_same), rfl, .ref A1, [y1], rfl, y1, [], rfl, rfl, ?_⟩
  cases r2 with
  | bo _ => exact q1'.elim
  | fz t2 =>
    dsimp only at q1'
    cases e4 : (stO i t1 env2).bind (stT j t2) with
    | none =>
      rw [e4] at q1'
      exact q1'.elim
    | some env4 =>
      rw [e4] at q1'
      obtain ⟨env3, k1, k2, S3⟩ := go e4
      exact q1' _ F2 _ le2 (S3.stT r2r k2)
  | ow t2 =>
    dsimp only at q1'
    cases e4 : (stO i t1 env2).bind (stO j t2) with
    | none =>
      rw [e4] at q1'
      exact q1'.elim
    | some env4 =>
      rw [e4] at q1'
      obtain ⟨env3, k1, k2, S3⟩ := go e4
      obtain ⟨B1, o2, ey, hb, fb, tb, top2, n2⟩ := r2r
      have hb2 : B1 ≠ A1 := fun z => by
        have tb' : upd Tm.h A1 o1 B1 = none := tb
        rw [z, upd_same] at tb'
        cases tb'
      have tb2 : Tm.h B1 = none := by
        have tb' : upd Tm.h A1 o1 B1 = none := tb
        rw [upd_ne hb2] at tb'
        exact tb'
      refine q1' _ F2 _ le2 (S3.stO ⟨B1, o2, ey, by rw [upd_ne (ne_of_none hb np)]; exact hb, fb, tb2, top2, fun k u ow z => ?_⟩ k2)
      obtain ⟨s, hs, _, rfl⟩ := stO_at k1
      by_cases hk : k = i
      · subst hk
        rw [List.getElem?_set_self (by rw [S2.len]; exact (List.getElem?_eq_some_iff.mp hs).1)] at z
        cases z
        exact hb2 rfl
      · rw [List.getElem?_set_ne (Ne.symm hk)] at z
        refine n2 k u ?_ z
        rcases ow with ow | ow
        · rw [List.getElem?_set_ne (Ne.symm hk)] at ow
          exact .inl ow
        · rw [List.getElem?_set_ne (Ne.symm hk)] at ow
          exact .inr ow
end
end Ev
/-! Ev42: a static method called on its class: C.m(). -/
namespace Ev
open PySem PySem.Spec L2
structure SMet (K : PySem.W.Frag) (C : Addr) (m : Str) (p g : Addr) : Prop where
  rd : PySem.W.readsIn K C (.type "type") = true
  ga : PySem.W.specialIn K (.ref C) "__getattribute__" = some (some (.builtin "type.__getattribute__"))
  at_ : PySem.W.findCls K (.ref C) (.type "type") m = some (.get (.builtin "staticmethod.__get__") (.ref p) .none (.ref C))
  rc : ∃ rest, PySem.W.recIn K p "staticmethod" = some (.ref g :: rest)
def smA (K : PySem.W.Frag) (C : Addr) (f : Str) : Addr := match PySem.W.recIn K (He.ma K C f) "staticmethod" with
  | some (.ref g :: _) => g
  | _ => 0
def smB (K : PySem.W.Frag) (C : Addr) (f : Str) : Bool := PySem.W.readsIn K C (.type "type") && (He.eqO (PySem.W.specialIn K (.ref C) "__getattribute__") (some (some (.builtin "type.__getattribute__"))) &&
  ((match PySem.W.findCls K (.ref C) (.type "type") f with
    | some (.get (.builtin g) (.ref p) .none (.ref D)) => decide (g = "staticmethod.__get__") && (decide (p = He.ma K C f) && decide (D = C))
    | _ => false) && (match PySem.W.recIn K (He.ma K C f) "staticmethod" with
    | some (.ref _ :: _) => true
    | _ => false)))
theorem smB_ok {K : PySem.W.Frag} {C : Addr} {f : Str} (h : smB K C f = true) : SMet K C f (He.ma K C f) (smA K C f) := by
  unfold smB at h
  obtain ⟨h1, h⟩ := He.ba h
  obtain ⟨h2, h⟩ := He.ba h
  obtain ⟨h3, h4⟩ := He.ba h
  refine ⟨h1, He.eqO_ok h2, ?_, ?_⟩
  · clear h4
    split at h3
    · rename_i g p D e
      obtain ⟨k1, k⟩ := He.ba h3
      obtain ⟨k2, k3⟩ := He.ba k
      rw [e, of_decide_eq_true k1, of_decide_eq_true k2, of_decide_eq_true k3]
    · cases h3
  · unfold smA
    split at h4
    · rename_i g r e
      exact ⟨r, by rw [e]⟩
    · cases h4
section
variable {C : Cy} {k j ci : Nat} {p g : Addr} {fd : FuncData} {m : Nat} {d : SM} {x mth : Str} {p1 apos pos : Pos}
theorem getmethsm_ok {X : Cx} {pins : List (Addr × Obj)} {σ : L2.St} {H : Hp} {s : Shared} {A : Around} {E : Value → Shared → Prop} {K1 : Addr} {pl : Sem Bool} {Q : Value × List Value → Shared → Prop} (I : Inv X pins σ H s) (r : SMet X.K K1 mth p g)
    (h : ∀ s', Inv X pins σ H s' → Q (.ref g, []) s') : wpAny (model X.prog X.w) A (getMethod (.ref K1) mth pl) Q E s := by
  obtain ⟨rest, hp⟩ := r.rc
  refine PySem.W.method_cls I.kIn r.ga ?_
  refine PySem.W.cls_bind I.kIn r.rd r.at_ ?_
  refine wpAny_call (PySem.W.sm_get (s := { s with toks := s.toks + 1 }) I.kIn hp (PySem.W.handed_on rfl ?_))
  exact h _ (I.tok _)
theorem ev_smeth0 {pl : Sem Bool} (sm : SMet C.X.K (C.ca ci) mth p g) (hg : Gl C.X x) (hx : C.X.mg x = some (.ref (C.ca ci))) (F : FnC C k g fd [] m d) (B : Bk C j) (hj : k ≤ j) (kp : PySem.W.keepIn C.X.K (.ref g) = true) (hb : Binds C.X.K fd [] [])
    (hdb : (x == ("__debug__" : Str)) = false := by decide +kernel)
    (het : eval (.Call (.Attribute (.Name x p1) mth apos) [] [] pos) C.X.env = (do
      let ov ← eval (.Name x p1) C.X.env
      standAt apos.atName
      let (f, first) ← holding [ov] (getMethod ov mth pl)
      callWith pos f first (backTo pos (starEach [] C.X.env)) (backToKw pos (keywordEach [] C.X.env))) := by rfl) :
    EvE C (.Call (.Attribute (.Name x p1) mth apos) [] [] pos) (callA 0 d m []) := by
  refine ⟨fun pins s σ H Q I ⟨Tm, F0, env, S, q⟩ => ?_⟩
  refine PySem.W.methodCall_KW (pl := pl) (ld_glob I hg hx ?_ hdb) het
  refine getmethsm_ok I sm fun s1 I1 => ?_
  exact PySem.W.callWith_K0 (first := []) I1.kIn kp (call_run (us := []) (vs := []) (dvs := []) (ds := []) (F.up hj) B hb .nil I1 .nil (call_sp (as := []) (vs := []) (Nat.zero_le m) S rfl q))
end
end Ev
/-! Ev43: xs[::-1]; sorted(xs) of whole numbers that stand in order. -/
namespace Ev
open PySem PySem.Spec L2
def revT : T → Option Rv
  | .lst ts => some (.ow (.lst ts.reverse))
  | _ => none
theorem RepL.app {G : Gr} {F : Hp} : ∀ {ts : List T} {xs : List V} {us : List T} {ys : List V}, RepL G F ts xs → RepL G F us ys → RepL G F (ts ++ us) (xs ++ ys)
  | [], _, _, _, h, h2 => by rw [h.unnil]; exact h2
  | t :: ts, _, _, _, h, h2 => by
    obtain ⟨x, r, e, h1, h3⟩ := h.uncons
    subst e
    exact RepL.cons h1 (RepL.app h3 h2)
theorem RepL.rev {G : Gr} {F : Hp} : ∀ {ts : List T} {xs : List V}, RepL G F ts xs → RepL G F ts.reverse xs.reverse
  | [], xs, h => by
    have e := h.unnil
    subst e
    exact h
  | t :: ts, _, h => by
    obtain ⟨x, r, e, h1, h3⟩ := h.uncons
    subst e
    rw [List.reverse_cons, List.reverse_cons]
    exact RepL.app (RepL.rev h3) (RepL.cons h1 RepL.nil)
section
variable {C : Cy} {e : Expr}
theorem ev_rev {f : M T} {k : Nat} {p1 p2 p3 pos : Pos} (h : EvT C e f) : EvE C (.Subscript e (.Slice none none (some (.UnaryOp .USub (.Constant (.int 1) k p1) p2)) p3) pos) (M.bind f fun t => M.of (revT t)) := by
  refine pe_imp (pe_revL h) fun σ H Q ⟨Tm, F, env, S, q⟩ => ⟨Tm, F, env, S, ?_⟩
  refine At.bind (R' := RvR C.G) (Q' := Q) q fun t env1 x F1 H1 le1 S1 r1 q1 => of_some q1 fun w hw q2 => ?_
  cases t <;> first | (cases hw; done) | skip
  cases hw
  obtain ⟨a, xs, ex, hq, r⟩ := pk_lst S1 (.inl r1)
  exact ⟨a, xs, ex, hq.sq, fun l nl => q2 _ F1 _ Le.rfl (S1.alloc nl) (RvR.new S1 nl ⟨_, rfl, r.rev⟩)⟩
def ordI : List Int → Bool
  | [] => true
  | x :: r => r.all (fun y => decide (x ≤ y)) && ordI r
theorem ordI_ok : ∀ {ns : List Int}, ordI ns = true → ns.Pairwise (· ≤ ·)
  | [], _ => .nil
  | x :: r, h => by
    obtain ⟨h1, h2⟩ := He.ba (show (r.all (fun y => decide (x ≤ y)) && ordI r) = true from h)
    exact .cons (fun y hy => of_decide_eq_true (List.all_eq_true.mp h1 y hy)) (ordI_ok h2)
theorem ord_uniq : ∀ {xs ys : List Int}, xs.Perm ys → xs.Pairwise (· ≤ ·) → ys.Pairwise (· ≤ ·) → xs = ys
  | [], ys, h, _, _ => h.nil_eq
  | x :: xs, [], h, _, _ => absurd h.length_eq (by simp)
  | x :: xs, y :: ys, h, hx, hy => by
    obtain ⟨x1, x2⟩ := List.pairwise_cons.mp hx
    obtain ⟨y1, y2⟩ := List.pairwise_cons.mp hy
    have e : x = y := by
      have a : y ≤ x := by
        rcases List.mem_cons.mp (h.mem_iff.mp (List.mem_cons_self (a := x))) with q | q
        · omega
        · exact y1 x q
      have b : x ≤ y := by
        rcases List.mem_cons.mp (h.mem_iff.mpr (List.mem_cons_self (a := y))) with q | q
        · omega
        · exact x1 y q
      omega
    subst e
    rw [ord_uniq (List.Perm.cons_inv h) x2 y2]
def sortT : T → Option Rv
  | .lst ts => (match asInts ts with
    | some ns => if ordI ns = true then some (.ow (.lst ts)) else none
    | none => none)
  | _ => none
theorem ok_sortI : Call1Ok C (.builtin "sorted") sortT := by
  refine ⟨_, cr_sortedI, fun {Tm F H σ env x t w Q} S p hw q => ?_⟩
  cases t <;> first | (cases hw; done) | skip
  rename_i ts
  simp only [sortT] at hw
  split at hw
  case h_2 => cases hw
  rename_i ns hn
  split at hw
  case isFalse => cases hw
  rename_i ho
  cases hw
  obtain ⟨a, xs, ex, hq, r⟩ := pk_lst S p
  have ei := asInts_ok hn r
  subst ei
  refine ⟨a, ns, by rw [ex], hq.sq, fun ns' l hp hs nl => ?_⟩
  have e2 := ord_uniq hp hs (ordI_ok ho)
  subst e2
  exact q _ F _ Le.rfl (S.alloc nl) (RvR.new S nl ⟨_, rfl, r⟩)
end
end Ev
/-! Ev44: xs.extend(a new list). -/
namespace Ev
open PySem PySem.Spec L2
section
variable {C : Cy} {o e : Expr} {apos cpos : Pos} {g f : M Rv}
def extK (j : Nat) (us : List T) : M Rv := fun env => match env[j]? with
  | some (.ow (.lst ts)) => if ts.length + us.length ≤ sizeLine then (match chO j (.lst (ts ++ us)) env with
    | some e => .ok (.fz .non) e
    | none => .no) else .no
  | some (.io (.lst ts)) => if ts.length + us.length ≤ sizeLine then (match chO j (.lst (ts ++ us)) env with
    | some e => .ok (.fz .non) e
    | none => .no) else .no
  | _ => .no
def extR (j : Nat) : Rv → M Rv
  | .ow (.lst us) => extK j us
  | _ => M.no
def extM (g f : M Rv) : M Rv := M.bind g fun r => match r with
  | .bo j => fun env => if isLs env j = true then (M.bind f (extR j)) env else .no
  | _ => M.no
theorem ev_ext (ho : EvE C o g) (he : EvE C e f) (hs : starEach [e] C.X.env = [(false, eval e C.X.env)] := by rfl) (hbase : attributeBase o "extend" C.X.env (eval o C.X.env) = eval o C.X.env := by rfl) (hline : (apos.endLine == cpos.line) = true := by rfl)
    (hfew : ((backTo cpos (starEach [e] C.X.env)).all (fun x => !x.1) && (backToKw cpos (keywordEach [] C.X.env)).all (fun x => x.1.isSome) && decide (([e] : List Expr).length + ([] : List Keyword).length + (if ([] : List Keyword).isEmpty then 0 else 1) < 30)) = true := by rfl) :
    EvE C (.Call (.Attribute o "extend" apos) [e] [] cpos) (extM g f) := by
  refine pe_imp (pe_bm PySem.F.plainAttrs_list PySem.F.slot_list_extend PySem.F.type_list_extend mt_extend ho (pa_cons he pa_nil hs) hbase hfew hline hs rfl) fun σ H Q ⟨Tm, F, env, S, q⟩ => ⟨Tm, F, env, S, ?_⟩
  refine At.bind (R' := RvR C.G) (Q' := Q) q fun r env1 x F1 H1 le1 S1 r1 q1 => ?_
  cases r with
  | fz t => exact q1.elim
  | ow t => exact q1.elim
  | bo j =>
    obtain ⟨hx, t0, ot⟩ := r1
    replace q1 : At C (RvR C.G) Tm F1 σ Q (if isLs env1 j = true then (M.bind f (extR j)) env1 else Out.no) := q1
    by_cases hi : isLs env1 j = true
    case neg =>
      rw [if_neg hi] at q1
      exact q1.elim
    rw [if_pos hi] at q1
    have ol : ∃ ts, OwnAt env1 j (.lst ts) := by
      unfold isLs at hi
      split at hi
      · exact ⟨_, .inl ‹_›⟩
      · exact ⟨_, .inr ‹_›⟩
      · cases hi
    obtain ⟨ts0, ol⟩ := ol
    obtain ⟨a, xs, ex, hl, rl⟩ := own_lst S1 ol hx
    subst ex
    refine ⟨.inl ⟨rfl, xs, .inl (.inl hl)⟩, Tm, F1, env1, S1, ?_⟩
    refine At.bind (R' := RvR C.G) (Q' := Q) q1 fun r2 env2 y F2 H2 le2 S2 rr q2 => ?_
    cases r2 with
    | fz t => exact q2.elim
    | bo i => exact q2.elim
    | ow t =>
    cases t <;> first | exact q2.elim | skip
    rename_i us
    obtain ⟨b, ob, rfl, h1, h2, h3, ⟨zs, rfl, rz⟩, h5⟩ := rr
    have q3 : At C (RvR C.G) Tm F2 σ Q (extK j us env2) := q2
    have go : ∀ {ts : List T}, OwnAt env2 j (.lst ts) → At C (RvR C.G) Tm F2 σ Q (if ts.length + us.length ≤ sizeLine then (match chO j (.lst (ts ++ us)) env2 with
        | some e => .ok (.fz .non) e
        | none => .no) else .no) → rExtend (.ref a) [.ref b] H2 Q := fun {ts} ow q4 => by
      by_cases hz : ts.length + us.length ≤ sizeLine
      case neg =>
        rw [if_neg hz] at q4
        exact q4.elim
      rw [if_pos hz] at q4
      obtain ⟨a2, ws, e2, hl2, rl2⟩ := own_lst S2 ow hx
      cases e2
      refine ⟨a, b, ws, zs, rfl, rfl, hl2, h1, by rw [rl2.length, rz.length]; exact hz, ?_⟩
      cases ec : chO j (.lst (ts ++ us)) env2 with
      | none =>
        rw [ec] at q4
        exact q4.elim
      | some e3 =>
        rw [ec] at q4
        exact q4 .non F2 _ Le.rfl (S2.chO (t := .lst (ts ++ us)) hx ⟨_, rfl, rl2.append rz⟩ ec) mk_non
    unfold extK at q3
    cases es : env2[j]? with
    | none =>
      rw [es] at q3
      exact q3.elim
    | some s =>
      rw [es] at q3
      cases s with
      | un => exact q3.elim
      | fz t => exact q3.elim
      | ow t =>
        cases t <;> first | exact q3.elim | skip
        exact go (.inl es) q3
      | io t =>
        cases t <;> first | exact q3.elim | skip
        exact go (.inr es) q3
end
end Ev
/-! Ev45: dict comprehensions. -/
namespace Ev
open PySem PySem.Spec L2
/-- {k: v for tg in ts if tt}, onto acc -/
def dcL (tg : TM) (tt : M Bool) (mk mv : M T) (vs : List Nat) : List T → List (Key × T) → M (List (Key × T))
  | [], acc => M.pure acc
  | t :: ts, acc => fun e0 => match okE e0 vs with
    | false => .no
    | true => match tg t (unE vs e0) with
      | none => .no
      | some e1 => match tt e1 with
        | .ok true e2 => (match mk e2 with
          | .ok k e3 => (match mv e3 with
            | .ok v e4 => (match kT k with
              | some key => if acc.length < sizeLine then dcL tg tt mk mv vs ts (putKT acc key v) (asE e0 vs e4) else .no
              | none => .no)
            | _ => .no)
          | _ => .no)
        | .ok false e2 => dcL tg tt mk mv vs ts acc (asE e0 vs e2)
        | _ => .no
def dcM (f : M (List T)) (tg : TM) (tt : M Bool) (mk mv : M T) (vs : List Nat) : M Rv := M.bind f fun ts => if ts.length ≤ sizeLine then M.bind (dcL tg tt mk mv vs ts []) fun us => M.pure (.ow (.dK us)) else M.no
theorem RepK.nil {G : Gr} {F : Hp} : RepK G F [] [] := by simp only [RepK]
theorem RvR.outDK {G : Gr} {Tm : Amb} {F H : Hp} {σ : St} {env : Env} {ts : List (Key × T)} {xs : List (Key × V)} {D : Addr} (S : Sok G (Tm.with D (.dK xs)) F H σ env) (n : Tm.h D = none) (r : RepK G F ts xs) : RvR G Tm F H σ env (.ow (.dK ts)) (.ref D) := by
  have hD := S.tm D _ upd_same
  refine ⟨D, _, rfl, hD.1, hD.2, n, ⟨_, rfl, r⟩, fun i u o z => ?_⟩
  have q := S.tmo i D u o z
  have q' : upd Tm.h D (.dK xs) D = none := q
  rw [upd_same] at q'
  cases q'
section
variable {C : Cy} {kx vx tg iter : Expr} {ifs : List Expr} {scope : Scope} {own : List (Str × Nat)} {pos : Pos} {f : M (List T)} {js : List Nat} {g : TM} {tt : M Bool} {m mk : M T}
theorem dc_coreJ {σ : St} {H : Hp} {Q : VK} {vs : List Nat} (hj : ∀ j ∈ js, j ∈ vs) (hq : tG C (RvR C.G) (dcM f g tt mk m vs) σ H Q) :
    tDc (tW C f) (tGt C.G js g) (tG C.fl BR tt) (tG C.fl (TR C.G) mk) (tG C.fl (TR C.G) m) vs σ H Q := by
  obtain ⟨Tm, F, env, S, q⟩ := hq
  refine ⟨Tm, F, env, S, ?_⟩
  have q' : At C (RvR C.G) Tm F σ Q ((f env).bind fun ts => if ts.length ≤ sizeLine then M.bind (dcL g tt mk m vs ts []) fun us => M.pure (.ow (.dK us)) else M.no) := q
  cases hf : f env with
  | no =>
    rw [hf] at q'
    exact q'.elim
  | ex c fs env1 =>
    rw [hf] at q'
    exact q'
  | ok ts env1 =>
  rw [hf] at q'
  intro J F1 H1 l' lk le1 hl hlk S1 w
  have q1 : At C (RvR C.G) Tm F1 σ Q ((if ts.length ≤ sizeLine then M.bind (dcL g tt mk m vs ts []) fun us => M.pure (.ow (.dK us)) else M.no) env1) := At.weak le1 q'
  intro D nD
  by_cases hz : ts.length ≤ sizeLine
  case neg =>
    rw [if_neg hz] at q1
    exact q1.elim
  rw [if_pos hz] at q1
  have q2 : At C (RvR C.G) Tm F1 σ Q ((dcL g tt mk m vs ts [] env1).bind fun us => M.pure (.ow (.dK us))) := q1
  have tD : Tm.h D = none := (S1.new nD).2
  refine ⟨fun i k H => k = ts.length - i ∧ i ≤ ts.length ∧ ∃ F2 env2 acc us, Le F1 F2 ∧ acc.length ≤ i ∧ Sok C.G ((Tm.lks l').with D (.dK acc)) F2 H σ env2 ∧ RepK C.G F2 us acc ∧
    At C (RvR C.G) Tm F2 σ Q ((dcL g tt mk m vs (ts.drop i) us env2).bind fun ws => M.pure (.ow (.dK ws))), ⟨ts.length, by simp, Nat.zero_le _, F1, env1, [], [], Le.rfl, Nat.zero_le _, S1.withD nD, RepK.nil, q2⟩, ?_⟩
  rintro i k H2 ⟨rfl, hi, F2, env2, acc, us, le2, hacc, S2, racc, q3⟩
  by_cases hlt : i < ts.length
  · refine .inr ⟨w.go i _ F2 H2 σ env2 hlt le2 S2 hlk, fun H' => ∃ F5 env5 acc5 us5, Le F1 F5 ∧ acc5.length ≤ i + 1 ∧ Sok C.G ((Tm.lks l').with D (.dK acc5)) F5 H' σ env5 ∧ RepK C.G F5 us5 acc5 ∧
      At C (RvR C.G) Tm F5 σ Q ((dcL g tt mk m vs (ts.drop (i + 1)) us5 env5).bind fun ws => M.pure (.ow (.dK ws))), fun H' ⟨F5, env5, acc5, us5, l5, h5, S5, r5, q5⟩ => ⟨_, (by omega : ts.length - (i + 1) < ts.length - i), rfl, hlt, F5, env5, acc5, us5, l5, h5, S5, r5, q5⟩, fun x H' y => ?_⟩
    obtain ⟨F3, t, l3, S3, ht, rt, _⟩ := w.yld i _ F2 H2 σ env2 x H' hlt le2 S2 hlk y
    have ed : ts.drop i = t :: ts.drop (i + 1) := by
      have h2 := List.getElem?_eq_some_iff.mp ht
      rw [List.drop_eq_getElem_cons hlt, h2.2]
    rw [ed] at q3
    simp only [dcL] at q3
    cases ho : okE env2 vs with
    | false =>
      rw [ho] at q3
      exact q3.elim
    | true =>
      rw [ho] at q3
      dsimp only at q3
      have S4 := S3.enter (vs := vs) ho
      cases e1 : g t (unE vs env2) with
      | none =>
        rw [e1] at q3
        exact q3.elim
      | some env3 =>
        rw [e1] at q3
        dsimp only at q3
        refine ⟨_, F3, _, t, env3, S4, rt, e1, fun σ5 S5 k5 => ?_⟩
        have kk : ∀ j, j ∉ vs → σ5[j]? = σ[j]? := fun j hn => (k5.2 j fun z => hn (hj j z)).trans (wipe_out hn)
        have hl5 : σ5.length = σ.length := k5.1.trans (wipe_length _ _)
        have back : ∀ {F6 H6 : Hp} {env6 : Env} {acc6 : List V} {o : HO}, Le F2 F6 → Sok C.G ((Tm.lks l').with D o) F6 H6 σ5 env6 → Sok C.G ((Tm.lks l').with D o) F6 H6 σ (asE env2 vs env6) := fun {F6 H6 env6 acc6 o} l6 S6 =>
          S2.leave ho l6 S6 kk (by rw [← S6.len, hl5, S2.len])
        refine ⟨wipe_keep hl5 kk, _, F3, env3, S5, ?_⟩
        cases et : tt env3 with
        | no =>
          rw [et] at q3
          exact q3.elim
        | ex c fs e =>
          rw [et] at q3
          exact q3.elim
        | ok kb env4 =>
          rw [et] at q3
          intro b F4 H4 l4 S6 eb
          have eb' : kb = b := eb
          subst eb'
          cases kb with
          | false =>
            rw [if_neg Bool.false_ne_true]
            dsimp only at q3
            exact ⟨F4, asE env2 vs env4, acc, us, le2.trans (l3.trans l4), Nat.le_succ_of_le hacc, back (acc6 := []) (l3.trans l4) S6, RepK.mono (l3.trans l4) _ racc, At.weak (l3.trans l4) q3⟩
          | true =>
            rw [if_pos rfl]
            dsimp only at q3
            refine ⟨_, F4, env4, S6, ?_⟩
            cases emk : mk env4 with
            | no =>
              rw [emk] at q3
              exact q3.elim
            | ex c fs e =>
              rw [emk] at q3
              exact q3.elim
            | ok k env5 =>
            rw [emk] at q3
            dsimp only at q3
            intro yk F5 H5 l5 S7 rk
            refine ⟨_, F5, env5, S7, ?_⟩
            cases em : m env5 with
            | no =>
              rw [em] at q3
              exact q3.elim
            | ex c fs e =>
              rw [em] at q3
              exact q3.elim
            | ok v env6 =>
            rw [em] at q3
            dsimp only at q3
            intro yv F6 H6 l6 S8 ry
            cases ek : kT k with
            | none =>
              rw [ek] at q3
              exact q3.elim
            | some key =>
            rw [ek] at q3
            dsimp only at q3
            by_cases hlt2 : us.length < sizeLine
            case neg =>
              rw [if_neg hlt2] at q3
              exact q3.elim
            rw [if_pos hlt2] at q3
            have l26 : Le F2 F6 := l3.trans (l4.trans (l5.trans l6))
            exact ⟨acc, key, kT_rep rk ek, (S8.tm D _ upd_same).1, by have := racc.len; omega, F6, asE env2 vs env6, putK acc key yv, putKT us key v, le2.trans l26,
              by have := length_putK acc key yv; omega, back (acc6 := []) l26 S8.chD, RepK.put ry (RepK.mono l26 _ racc), At.weak l26 q3⟩
  · have e : i = ts.length := by omega
    subst e
    rw [List.drop_length] at q3
    refine .inl ⟨w.stop _ F2 H2 σ env2 le2 S2 hlk, ?_⟩
    have q4 : At C (RvR C.G) Tm F2 σ Q (.ok (.ow (.dK us)) env2) := q3
    have S9 : Sok C.G (Tm.with D (.dK acc)) F2 H2 σ env2 := Sok.unlk (Tm := Tm.with D (.dK acc)) (l' := l') S2 hl
    exact q4 _ F2 H2 Le.rfl (S9.outD tD) (RvR.outDK S9 tD racc)
theorem ev_dcJ (hc : C.X.calm = true) (hN : C.X.N.Nodup) (hi : EvJ C tg iter f) (ok : BlkOk C.X.N C.X.env.scope scope own) (hj : ∀ j ∈ js, j ∈ own.map (·.2))
    (hg : ∀ (s : Shared) (H : Hp) (A : Addr) (cl : List (Str × Addr)) (fp : List Addr), EvG (C.blk s H scope (compEnvC scope cl A C.X.env) fp) tg js g) (ht : ∀ (s : Shared) (H : Hp) (A : Addr) (cl : List (Str × Addr)) (fp : List Addr), EvTs (C.blk s H scope (compEnvC scope cl A C.X.env) fp) ifs tt)
    (hk : ∀ (s : Shared) (H : Hp) (A : Addr) (cl : List (Str × Addr)) (fp : List Addr), EvT (C.blk s H scope (compEnvC scope cl A C.X.env) fp) kx mk)
    (he : ∀ (s : Shared) (H : Hp) (A : Addr) (cl : List (Str × Addr)) (fp : List Addr), EvT (C.blk s H scope (compEnvC scope cl A C.X.env) fp) vx m) (hs : ∀ x, foldedSetIterable iter C.X.env x = pure x := by intro _; rfl) :
    EvE C (.DictComp kx vx [⟨tg, iter, ifs, 0⟩] scope pos) (dcM f g tt mk m (own.map (·.2))) :=
  pe_imp (pe_dc hc hN hi ok hg ht hk he hs) fun σ H Q q => dc_coreJ hj q
end
end Ev
/-! Ev46: tuple(xs). -/
namespace Ev
open PySem PySem.Spec L2
section
variable {C : Cy}
def tupleT : T → Option Rv
  | .tup ts => some (.fz (.tup ts))
  | .lst ts => some (.fz (.tup ts))
  | _ => none
theorem ok_tuple : Call1Ok C (.type "tuple") tupleT := by
  refine ⟨_, call_tuple_of, fun {Tm F H σ env x t w Q} S p hw q => ?_⟩
  cases t <;> first | (cases hw; done) | skip
  · rename_i ts
    cases hw
    obtain ⟨a, xs, ex, hq, r⟩ := pk_tup S p
    refine ⟨a, xs, by rw [ex], .inr ⟨hq, ?_⟩⟩
    rw [← ex]
    rcases p with p | ⟨_, _, _, _, k⟩
    · exact q _ F H Le.rfl S p
    · exact k.elim
  · rename_i ts
    cases hw
    obtain ⟨a, xs, ex, hq, r⟩ := pk_lst S p
    refine ⟨a, xs, by rw [ex], .inl ⟨hq.sq, fun l nl => ?_⟩⟩
    have le := Le.upd (o := .tup xs) (S.new nl).1
    refine q _ _ _ le (S.allocF nl) ?_
    show Rep C.G _ (.tup ts) (.ref l)
    simp only [Rep]
    exact ⟨l, _, rfl, .inl (.inl upd_same), RepL.mono le _ r⟩
end
end Ev
/-! Ev47: list comprehensions of two clauses. -/
namespace Ev
open PySem PySem.Spec L2
/-- the second clause, onto acc -/
def inL (g1 : TM) (tt1 : M Bool) (m : M T) (vs1 : List Nat) : List T → List T → M (List T)
  | [], acc => M.pure acc
  | t :: ts, acc => fun e0 => match okE e0 vs1 with
    | false => .no
    | true => match g1 t (unE vs1 e0) with
      | none => .no
      | some e1 => match tt1 e1 with
        | .ok true e2 => (match m e2 with
          | .ok v e3 => if acc.length < sizeLine then inL g1 tt1 m vs1 ts (acc ++ [v]) (asE e0 vs1 e3) else .no
          | _ => .no)
        | .ok false e2 => inL g1 tt1 m vs1 ts acc (asE e0 vs1 e2)
        | _ => .no
/-- the first clause -/
def ouL (tg : TM) (tt : M Bool) (f1 : M (List T)) (g1 : TM) (tt1 : M Bool) (m : M T) (vs vs1 : List Nat) : List T → List T → M (List T)
  | [], acc => M.pure acc
  | t :: ts, acc => fun e0 => match okE e0 vs with
    | false => .no
    | true => match tg t (unE vs e0) with
      | none => .no
      | some e1 => match tt e1 with
        | .ok true e2 => (match f1 e2 with
          | .ok ts1 e3 => (match inL g1 tt1 m vs1 ts1 acc e3 with
            | .ok acc' e4 => ouL tg tt f1 g1 tt1 m vs vs1 ts acc' (asE e0 vs e4)
            | _ => .no)
          | _ => .no)
        | .ok false e2 => ouL tg tt f1 g1 tt1 m vs vs1 ts acc (asE e0 vs e2)
        | _ => .no
def comp2M (f : M (List T)) (tg : TM) (tt : M Bool) (f1 : M (List T)) (g1 : TM) (tt1 : M Bool) (m : M T) (vs vs1 : List Nat) : M Rv := M.bind f fun ts => M.bind (ouL tg tt f1 g1 tt1 m vs vs1 ts []) fun us => M.pure (.ow (.lst us))
section
variable {C : Cy} {elt tg iter tg1 iter1 : Expr} {ifs ifs1 : List Expr} {scope : Scope} {own : List (Str × Nat)} {pos : Pos} {f f1 : M (List T)} {js js1 vs1 : List Nat} {g g1 : TM} {tt tt1 : M Bool} {m : M T}
theorem comp2_core {σ : St} {H : Hp} {Q : VK} {vs : List Nat} (hj : ∀ j ∈ js, j ∈ vs) (hj1 : ∀ j ∈ js1, j ∈ vs1) (hv : ∀ i ∈ vs1, i ∈ vs) (hq : tG C (RvR C.G) (comp2M f g tt f1 g1 tt1 m vs vs1) σ H Q) :
    tLc2 (tW C f) (tGt C.G js g) (tG C.fl BR tt) (tW C.fl f1) (tGt C.G js1 g1) (tG C.fl BR tt1) (tG C.fl (TR C.G) m) vs vs1 σ H Q := by
  obtain ⟨Tm, F, env, S, q⟩ := hq
  refine ⟨Tm, F, env, S, ?_⟩
  have q' : At C (RvR C.G) Tm F σ Q ((f env).bind fun ts => M.bind (ouL g tt f1 g1 tt1 m vs vs1 ts []) fun us => M.pure (.ow (.lst us))) := q
  cases hf : f env with
  | no =>
    rw [hf] at q'
    exact q'.elim
  | ex c fs env1 =>
    rw [hf] at q'
    exact q'
  | ok ts env1 =>
  rw [hf] at q'
  intro J F1 H1 l' lk le1 hl hlk S1 w
  have q2 : At C (RvR C.G) Tm F1 σ Q ((ouL g tt f1 g1 tt1 m vs vs1 ts [] env1).bind fun us => M.pure (.ow (.lst us))) := At.weak le1 q'
  intro D nD
  have tD : Tm.h D = none := (S1.new nD).2
  refine ⟨fun i k H => k = ts.length - i ∧ i ≤ ts.length ∧ ∃ F2 env2 acc us, Le F1 F2 ∧ Sok C.G ((Tm.lks l').with D (.lst acc)) F2 H σ env2 ∧ RepL C.G F2 us acc ∧
    At C (RvR C.G) Tm F2 σ Q ((ouL g tt f1 g1 tt1 m vs vs1 (ts.drop i) us env2).bind fun ws => M.pure (.ow (.lst ws))), ⟨ts.length, by simp, Nat.zero_le _, F1, env1, [], [], Le.rfl, S1.withD nD, .nil, q2⟩, ?_⟩
  rintro i k H2 ⟨rfl, hi, F2, env2, acc, us, le2, S2, racc, q3⟩
  by_cases hlt : i < ts.length
  · refine .inr ⟨w.go i _ F2 H2 σ env2 hlt le2 S2 hlk, fun H' => ∃ F5 env5 acc5 us5, Le F1 F5 ∧ Sok C.G ((Tm.lks l').with D (.lst acc5)) F5 H' σ env5 ∧ RepL C.G F5 us5 acc5 ∧
      At C (RvR C.G) Tm F5 σ Q ((ouL g tt f1 g1 tt1 m vs vs1 (ts.drop (i + 1)) us5 env5).bind fun ws => M.pure (.ow (.lst ws))), fun H' ⟨F5, env5, acc5, us5, l5, S5, r5, q5⟩ => ⟨_, (by omega : ts.length - (i + 1) < ts.length - i), rfl, hlt, F5, env5, acc5, us5, l5, S5, r5, q5⟩, fun x H' y => ?_⟩
    obtain ⟨F3, t, l3, S3, ht, rt, _⟩ := w.yld i _ F2 H2 σ env2 x H' hlt le2 S2 hlk y
    have ed : ts.drop i = t :: ts.drop (i + 1) := by
      have h2 := List.getElem?_eq_some_iff.mp ht
      rw [List.drop_eq_getElem_cons hlt, h2.2]
    rw [ed] at q3
    simp only [ouL] at q3
    cases ho : okE env2 vs with
    | false =>
      rw [ho] at q3
      exact q3.elim
    | true =>
      rw [ho] at q3
      dsimp only at q3
      have S4 := S3.enter (vs := vs) ho
      cases e1 : g t (unE vs env2) with
      | none =>
        rw [e1] at q3
        exact q3.elim
      | some env3 =>
        rw [e1] at q3
        dsimp only at q3
        refine ⟨_, F3, _, t, env3, S4, rt, e1, fun σ5 S5 k5 => ?_⟩
        have kk : ∀ j, j ∉ vs → σ5[j]? = σ[j]? := fun j hn => (k5.2 j fun z => hn (hj j z)).trans (wipe_out hn)
        have hl5 : σ5.length = σ.length := k5.1.trans (wipe_length _ _)
        have back : ∀ {F6 H6 : Hp} {env6 : Env} {o : HO}, Le F2 F6 → Sok C.G ((Tm.lks l').with D o) F6 H6 σ5 env6 → Sok C.G ((Tm.lks l').with D o) F6 H6 σ (asE env2 vs env6) := fun {F6 H6 env6 o} l6 S6 =>
          S2.leave ho l6 S6 kk (by rw [← S6.len, hl5, S2.len])
        refine ⟨wipe_keep hl5 kk, _, F3, env3, S5, ?_⟩
        cases et : tt env3 with
        | no =>
          rw [et] at q3
          exact q3.elim
        | ex c fs e =>
          rw [et] at q3
          exact q3.elim
        | ok kb env4 =>
          rw [et] at q3
          intro b F4 H4 l4 S6 eb
          have eb' : kb = b := eb
          subst eb'
          cases kb with
          | false =>
            rw [if_neg Bool.false_ne_true]
            dsimp only at q3
            exact ⟨F4, asE env2 vs env4, acc, us, le2.trans (l3.trans l4), back (l3.trans l4) S6, RepL.mono (l3.trans l4) _ racc, At.weak (l3.trans l4) q3⟩
          | true =>
            rw [if_pos rfl]
            dsimp only at q3
            refine ⟨_, F4, env4, S6, ?_⟩
            cases hf1 : f1 env4 with
            | no =>
              rw [hf1] at q3
              exact q3.elim
            | ex c fs e =>
              rw [hf1] at q3
              exact q3.elim
            | ok ts1 env5 =>
            rw [hf1] at q3
            dsimp only at q3
            intro J1 F5 H5 l'' lk1 le5 hl1 hlk1 S7 w1
            have l25 : Le F2 F5 := l3.trans (l4.trans le5)
            refine ⟨fun j k H => k = ts1.length - j ∧ j ≤ ts1.length ∧ ∃ F6 env6 acc6 us6, Le F5 F6 ∧ Sok C.G ((Tm.lks l'').with D (.lst acc6)) F6 H σ5 env6 ∧ RepL C.G F6 us6 acc6 ∧
              At C (RvR C.G) Tm F6 σ Q (Out.bind (match inL g1 tt1 m vs1 (ts1.drop j) us6 env6 with
                | .ok acc' e4 => ouL g tt f1 g1 tt1 m vs vs1 (ts.drop (i + 1)) acc' (asE env2 vs e4)
                | _ => .no) fun ws => M.pure (.ow (.lst ws))), ⟨ts1.length, by simp, Nat.zero_le _, F5, env5, acc, us, Le.rfl, S7, RepL.mono l25 _ racc, At.weak l25 q3⟩, ?_⟩
            rintro j k1 H6 ⟨rfl, hji, F6, env6, acc6, us6, le6, S8, r6, q6⟩
            have l26 : Le F2 F6 := l25.trans le6
            by_cases hlt1 : j < ts1.length
            · refine .inr ⟨w1.go j _ F6 H6 σ5 env6 hlt1 le6 S8 hlk1, fun H' => ∃ F7 env7 acc7 us7, Le F5 F7 ∧ Sok C.G ((Tm.lks l'').with D (.lst acc7)) F7 H' σ5 env7 ∧ RepL C.G F7 us7 acc7 ∧
                At C (RvR C.G) Tm F7 σ Q (Out.bind (match inL g1 tt1 m vs1 (ts1.drop (j + 1)) us7 env7 with
                  | .ok acc' e4 => ouL g tt f1 g1 tt1 m vs vs1 (ts.drop (i + 1)) acc' (asE env2 vs e4)
                  | _ => .no) fun ws => M.pure (.ow (.lst ws))), fun H' ⟨F7, env7, acc7, us7, l7, S7, r7, q7⟩ => ⟨_, (by omega : ts1.length - (j + 1) < ts1.length - j), rfl, hlt1, F7, env7, acc7, us7, l7, S7, r7, q7⟩, fun x1 H7 y1 => ?_⟩
              obtain ⟨F7, t1, l7, S9, ht1, rt1, _⟩ := w1.yld j _ F6 H6 σ5 env6 x1 H7 hlt1 le6 S8 hlk1 y1
              have ed1 : ts1.drop j = t1 :: ts1.drop (j + 1) := by
                have h2 := List.getElem?_eq_some_iff.mp ht1
                rw [List.drop_eq_getElem_cons hlt1, h2.2]
              rw [ed1] at q6
              simp only [inL] at q6
              cases ho1 : okE env6 vs1 with
              | false =>
                rw [ho1] at q6
                exact q6.elim
              | true =>
                rw [ho1] at q6
                dsimp only at q6
                have S10 := S9.enter (vs := vs1) ho1
                cases e2 : g1 t1 (unE vs1 env6) with
                | none =>
                  rw [e2] at q6
                  exact q6.elim
                | some env7 =>
                  rw [e2] at q6
                  dsimp only at q6
                  refine ⟨_, F7, _, t1, env7, S10, rt1, e2, fun σ7 S11 k7 => ?_⟩
                  have kk1 : ∀ j, j ∉ vs1 → σ7[j]? = σ5[j]? := fun j hn => (k7.2 j fun z => hn (hj1 j z)).trans (wipe_out hn)
                  have hl7 : σ7.length = σ5.length := k7.1.trans (wipe_length _ _)
                  have back1 : ∀ {F8 H8 : Hp} {env8 : Env} {o : HO}, Le F6 F8 → Sok C.G ((Tm.lks l'').with D o) F8 H8 σ7 env8 → Sok C.G ((Tm.lks l'').with D o) F8 H8 σ5 (asE env6 vs1 env8) := fun {F8 H8 env8 o} l8 S12 =>
                    S8.leave ho1 l8 S12 kk1 (by rw [← S12.len, hl7, S8.len])
                  refine ⟨wipe_keep hl7 kk1, _, F7, env7, S11, ?_⟩
                  cases et1 : tt1 env7 with
                  | no =>
                    rw [et1] at q6
                    exact q6.elim
                  | ex c fs e =>
                    rw [et1] at q6
                    exact q6.elim
                  | ok kb1 env8 =>
                    rw [et1] at q6
                    intro b1 F8 H8 l8 S12 eb1
                    have eb1' : kb1 = b1 := eb1
                    subst eb1'
                    cases kb1 with
                    | false =>
                      rw [if_neg Bool.false_ne_true]
                      dsimp only at q6
                      exact ⟨F8, asE env6 vs1 env8, acc6, us6, le6.trans (l7.trans l8), back1 (l7.trans l8) S12, RepL.mono (l7.trans l8) _ r6, At.weak (l7.trans l8) q6⟩
                    | true =>
                      rw [if_pos rfl]
                      dsimp only at q6
                      refine ⟨_, F8, env8, S12, ?_⟩
                      cases em : m env8 with
                      | no =>
                        rw [em] at q6
                        exact q6.elim
                      | ex c fs e =>
                        rw [em] at q6
                        exact q6.elim
                      | ok v env9 =>
                        rw [em] at q6
                        dsimp only at q6
                        intro yv F9 H9 l9 S13 ry
                        have l69 : Le F6 F9 := l7.trans (l8.trans l9)
                        by_cases hz : us6.length < sizeLine
                        case neg =>
                          rw [if_neg hz] at q6
                          exact q6.elim
                        rw [if_pos hz] at q6
                        exact ⟨acc6, (S13.tm D _ upd_same).1, by rw [r6.length]; exact hz, F9, asE env6 vs1 env9, acc6 ++ [yv], us6 ++ [v], le6.trans l69, back1 l69 S13.chD, (RepL.mono l69 _ r6).append (.cons ry .nil), At.weak l69 q6⟩
            · have e : j = ts1.length := by omega
              subst e
              rw [List.drop_length] at q6
              refine .inl ⟨w1.stop _ F6 H6 σ5 env6 le6 S8 hlk1, ?_⟩
              have q7 : At C (RvR C.G) Tm F6 σ Q ((ouL g tt f1 g1 tt1 m vs vs1 (ts.drop (i + 1)) us6 (asE env2 vs env6)).bind fun ws => M.pure (.ow (.lst ws))) := q6
              have S9 : Sok C.G ((Tm.lks l').with D (.lst acc6)) F6 H6 σ5 env6 := Sok.unlk (Tm := (Tm.lks l').with D (.lst acc6)) (l' := l'') S8 hl1
              exact ⟨F6, asE env2 vs env6, acc6, us6, le2.trans l26, back l26 S9, r6, q7⟩
  · have e : i = ts.length := by omega
    subst e
    rw [List.drop_length] at q3
    refine .inl ⟨w.stop _ F2 H2 σ env2 le2 S2 hlk, ?_⟩
    have q4 : At C (RvR C.G) Tm F2 σ Q (.ok (.ow (.lst us)) env2) := q3
    have S9 : Sok C.G (Tm.with D (.lst acc)) F2 H2 σ env2 := Sok.unlk (Tm := Tm.with D (.lst acc)) (l' := l') S2 hl
    exact q4 _ F2 H2 Le.rfl (S9.outD tD) (RvR.outD S9 tD racc)
theorem ev_comp2J (hc : C.X.calm = true) (hN : C.X.N.Nodup) (hi : EvJ C tg iter f) (ok : BlkOk C.X.N C.X.env.scope scope own) (hj : ∀ j ∈ js, j ∈ own.map (·.2)) (hj1 : ∀ j ∈ js1, j ∈ vs1) (hv : ∀ i ∈ vs1, i ∈ own.map (·.2))
    (hg : ∀ (s : Shared) (H : Hp) (A : Addr) (cl : List (Str × Addr)) (fp : List Addr), EvG (C.blk s H scope (compEnvC scope cl A C.X.env) fp) tg js g) (ht : ∀ (s : Shared) (H : Hp) (A : Addr) (cl : List (Str × Addr)) (fp : List Addr), EvTs (C.blk s H scope (compEnvC scope cl A C.X.env) fp) ifs tt)
    (hi1 : ∀ (s : Shared) (H : Hp) (A : Addr) (cl : List (Str × Addr)) (fp : List Addr), EvJ (C.blk s H scope (compEnvC scope cl A C.X.env) fp) tg1 iter1 f1)
    (hg1 : ∀ (s : Shared) (H : Hp) (A : Addr) (cl : List (Str × Addr)) (fp : List Addr), EvG (C.blk s H scope (compEnvC scope cl A C.X.env) fp) tg1 js1 g1) (ht1 : ∀ (s : Shared) (H : Hp) (A : Addr) (cl : List (Str × Addr)) (fp : List Addr), EvTs (C.blk s H scope (compEnvC scope cl A C.X.env) fp) ifs1 tt1)
    (he : ∀ (s : Shared) (H : Hp) (A : Addr) (cl : List (Str × Addr)) (fp : List Addr), EvT (C.blk s H scope (compEnvC scope cl A C.X.env) fp) elt m) (hs : ∀ x, foldedSetIterable iter C.X.env x = pure x := by intro _; rfl) (hs1 : ∀ env x, foldedSetIterable iter1 env x = pure x := by intro _ _; rfl) :
    EvE C (.ListComp elt [⟨tg, iter, ifs, 0⟩, ⟨tg1, iter1, ifs1, 0⟩] scope pos) (comp2M f g tt f1 g1 tt1 m (own.map (·.2)) vs1) :=
  pe_imp (pe_lc2 hc hN hi ok hv hg ht hi1 hg1 ht1 he hs hs1) fun σ H Q q => comp2_core hj hj1 hv q
end
end Ev
/-! Ev48: x in xs, where the items have an own __eq__. -/
namespace EvIn
open PySem PySem.SeqAt
open AutoSeq1 (wpAny_loadPart')
open MeetsSeq MeetsSeq2 MeetsSeq3 SeqRoads2
section
variable {prog : Program} {w : World} {A : Around} {R : Result → Shared → Prop}
theorem in_loopG (l : Addr) (x : Value) (N : Nat) (I : Nat → Shared → Prop)
    (hl : ∀ i s, I i s → ∃ (items : Array Value) (n : Nat), s.heap.get? l = some { cls := .type "list", data := .seq items n } ∧ items.size = N ∧ ∀ h1 : i < items.size, wpAny (model prog w) A.in1 (eqBool items[i] x) (fun r s' => (r = true ∧ R (.ok (.ret (.bool true))) s') ∨ (r = false ∧ I (i + 1) s')) (fun e s' => R (.error e) s') s)
    (fin : ∀ s, I N s → R (.ok (.ret (.bool false))) s) (k : Nat) :
    ∀ i : Nat, N - i = k → i ≤ N → ∀ s, I i s → wpAny (model prog w) A.in1 (Builtin.«list.__contains__.loop» ⟨[.ref l, x, rawInt i], []⟩) (GQ.FinOf prog w A R) (fun e s' => R (.error e) s') s := by
  induction k with
  | zero =>
    intro i hk hi s h
    obtain ⟨items, n, hl1, hs1, _⟩ := hl _ _ h
    have hi' : i = N := by omega
    have hR := fin s (hi' ▸ h)
    obtain ⟨hp, g, d, tk, os⟩ := s
    wp_walk using wpAny_loadPart' hl1
    have hi1 : items[((i : Nat) : Int).toNat]? = none := by simp; omega
    rw [hi1]
    wp_walk
    exact hR
  | succ k ih =>
    intro i hk hi s h
    obtain ⟨items, n, hl1, hs1, turn⟩ := hl _ _ h
    have hlt : i < items.size := by omega
    have ht := turn hlt
    obtain ⟨hp, g, d, tk, os⟩ := s
    wp_walk using wpAny_loadPart' hl1
    have hi1 : items[((i : Nat) : Int).toNat]? = some items[i] := by simp [hlt]
    have hc : ((i : Int) + 1) = ((i + 1 : Nat) : Int) := by omega
    rw [hi1]
    refine wpAny_bind (wpAny_mono ht (fun r s2 h2 => ?_) fun _ _ x => x)
    rcases h2 with ⟨hr, h2⟩ | ⟨hr, h2⟩
    · subst hr
      obtain ⟨hp2, g2, d2, tk2, os2⟩ := s2
      wp_walk
      exact h2
    · subst hr
      have hrec := ih (i + 1) (by omega) (by omega) s2 h2
      obtain ⟨hp2, g2, d2, tk2, os2⟩ := s2
      wp_walk
      rw [hc]
      exact ⟨plainId_quiet plain_contains_loop _, codeAny_builtin entry_contains_loop (by
        rw [Around.under_plainId plain_contains_loop _]
        exact hrec)⟩
theorem list_inG (l : Addr) (x : Value) (N : Nat) (I : Nat → Shared → Prop)
    (hl : ∀ i s, I i s → ∃ (items : Array Value) (n : Nat), s.heap.get? l = some { cls := .type "list", data := .seq items n } ∧ items.size = N ∧ ∀ h1 : i < items.size, wpAny (model prog w) A.in1 (eqBool items[i] x) (fun r s' => (r = true ∧ R (.ok (.ret (.bool true))) s') ∨ (r = false ∧ I (i + 1) s')) (fun e s' => R (.error e) s') s)
    (fin : ∀ s, I N s → R (.ok (.ret (.bool false))) s) {s : Shared} (h : I 0 s) :
    wpAny (model prog w) A.in1 (Builtin.«list.__contains__» ⟨[.ref l, x], []⟩) (GQ.FinOf prog w A R) (fun e s' => R (.error e) s') s := by
  obtain ⟨items, n, hl1, hs1, _⟩ := hl _ _ h
  have hrec := in_loopG (A := A) (R := R) l x N I hl fin _ 0 rfl (Nat.zero_le _) s h
  obtain ⟨hp, g, d, tk, os⟩ := s
  wp_walk using wpAny_loadPart' hl1
  exact ⟨plainId_quiet plain_contains_loop _, codeAny_builtin entry_contains_loop (by
    rw [Around.under_plainId plain_contains_loop _]
    exact hrec)⟩
theorem tuple_inG (l : Addr) (items : Array Value) (n : Nat) (dd : Option Addr) (sl : Array (Option Value)) (x : Value) (I : Nat → Shared → Prop)
    (turn : ∀ i (h1 : i < items.size) s, I i s → wpAny (model prog w) A.in1 (eqBool items[i] x) (fun r s' => (r = true ∧ R (.ok (.ret (.bool true))) s') ∨ (r = false ∧ I (i + 1) s')) (fun e s' => R (.error e) s') s)
    (fin : ∀ s, I items.size s → R (.ok (.ret (.bool false))) s) {s : Shared} (hl1 : s.heap.get? l = some { cls := .type "tuple", dict := dd, data := .seq items n, slots := sl }) (h : I 0 s) :
    wpAny (model prog w) A.in1 (Builtin.«tuple.__contains__» ⟨[.ref l, x], []⟩) (GQ.FinOf prog w A R) (fun e s' => R (.error e) s') s := by
  have h0 := h
  obtain ⟨hp, g, d, tk, os⟩ := s
  wp_walk using wpAny_loadPart' hl1, wpAny_forIn_array _ (fun rest b s' => b.1 = none ∧ ∃ i, rest = items.toList.drop i ∧ i ≤ items.size ∧ I i s') _
  case turn =>
    rintro y rest b s' ⟨hb', i, hz, hi, hI⟩
    have hlt : i < items.toList.length := by
      rcases Nat.lt_or_ge i items.toList.length with h' | h'
      · exact h'
      · rw [List.drop_of_length_le h'] at hz; cases hz
    have h1 : i < items.size := by simpa using hlt
    rw [List.drop_eq_getElem_cons hlt] at hz
    injection hz with hyx hrest
    have hy : y = items[i] := by simpa using hyx
    subst hy
    refine wpAny_bind (wpAny_mono (turn i h1 s' hI) (fun r s2 q2 => ?_) fun _ _ x => x)
    rcases q2 with ⟨hr, q2⟩ | ⟨hr, q2⟩
    · subst hr
      wp_walk
      exact q2
    · subst hr
      wp_walk
      exact ⟨rfl, i + 1, hrest, h1, q2⟩
  case fin =>
    rintro ⟨b1, b2⟩ s' ⟨hb', i, hz, hi, hI⟩
    simp only at hb'
    subst hb'
    have hge : items.size ≤ i := by
      rcases Nat.lt_or_ge i items.toList.length with h' | h'
      · rw [List.drop_eq_getElem_cons h'] at hz; cases hz
      · simpa using h'
    have hi' : i = items.size := by omega
    have hR := fin s' (hi' ▸ hI)
    wp_walk
    exact hR
  case h =>
    exact ⟨rfl, 0, by simp, Nat.zero_le _, h0⟩
end
section
variable {prog : Program} {w : World} {A : Around} {E : Value → Shared → Prop} {s : Shared}
theorem inG {T id : String} {B : Builtin} {c x : Value} {Q : Value → Shared → Prop} (hT : s.TypeIs c T) (slot : Slot T "__contains__" id) (entry : entryFor table id = some B) (args : argsOk id ⟨[c, x], []⟩)
    (h : wpAny (model prog w) A.in1 (B ⟨[c, x], []⟩) (GQ.FinOf prog w A (wants (fun v s' => ∃ b, v = .bool b ∧ Q (.bool b) s') E)) (fun e s' => wants (fun v s' => ∃ b, v = .bool b ∧ Q (.bool b) s') E (.error e) s') s) : wpAny (model prog w) A (compareOp .In x c) Q E s := by
  show wpAny _ A (do return .bool (← contains c x)) Q E s
  refine wpAny_bind (wpAny_contains_slot hT slot (wpAny_mono (GQ.call_here slot hT entry args h) (fun v s' hv => ?_) fun _ _ e => e))
  obtain ⟨b, rfl, hq⟩ := hv
  exact wpAny_truthy_bool (wpAny_pure hq)
theorem ninG {T id : String} {B : Builtin} {c x : Value} {Q : Value → Shared → Prop} (hT : s.TypeIs c T) (slot : Slot T "__contains__" id) (entry : entryFor table id = some B) (args : argsOk id ⟨[c, x], []⟩)
    (h : wpAny (model prog w) A.in1 (B ⟨[c, x], []⟩) (GQ.FinOf prog w A (wants (fun v s' => ∃ b, v = .bool b ∧ Q (.bool (!b)) s') E)) (fun e s' => wants (fun v s' => ∃ b, v = .bool b ∧ Q (.bool (!b)) s') E (.error e) s') s) : wpAny (model prog w) A (compareOp .NotIn x c) Q E s := by
  show wpAny _ A (do return .bool (!(← contains c x))) Q E s
  refine wpAny_bind (wpAny_contains_slot hT slot (wpAny_mono (GQ.call_here slot hT entry args h) (fun v s' hv => ?_) fun _ _ e => e))
  obtain ⟨b, rfl, hq⟩ := hv
  exact wpAny_truthy_bool (wpAny_pure hq)
end
end EvIn
/-! Ev49: x in xs by an own __eq__, by trees. -/
namespace Ev
open PySem PySem.Spec L2
theorem callA_env {n m : Nat} {d : SM} {ts : List T} {env e : Env} {r : Rv} (h : callA n d m (ts.map Ar.fz) env = .ok r e) : e = env := by
  unfold callA callD at h
  rw [List.length_map] at h
  by_cases hl : ts.length = n
  case neg =>
    rw [if_neg hl] at h
    cases h
  rw [if_pos hl, inE_fzs, iosOf_fz] at h
  simp only [allIo_fz, outE_fz, if_true, List.nodup_nil] at h
  split at h
  · cases h; rfl
  · split at h
    · cases h; rfl
    · cases h; rfl
    · split at h
      · cases h; rfl
      · cases h
  · cases h
  · cases h
/-! ### instances of plain fields -/
def plI (ci : Nat) : T → Bool
  | .ins c fs => c == ci && fs.all fun p => (toD p.2).plain
  | _ => false
def sameF : List (Str × T) → List (Str × T) → Bool
  | [], [] => true
  | p :: r, q :: s => (toD p.2).eqv (toD q.2) && sameF r s
  | _, _ => false
def sameD : T → T → Bool
  | .ins _ fs, .ins _ gs => sameF fs gs
  | _, _ => false
theorem ex_val (x : V) : ∃ v, RelV x v := by
  cases x
  · exact ⟨_, rfl⟩
  · exact ⟨_, rfl⟩
  · exact ⟨.int _ 0, 0, rfl⟩
  · exact ⟨.str _ 0, 0, rfl⟩
  · exact ⟨.bytes _ 0, 0, rfl⟩
  · exact ⟨.float _ 0, 0, rfl⟩
  · exact ⟨_, rfl⟩
  · exact ⟨_, rfl⟩
section
variable {X : Cx} {ca : Nat → Addr} {Tm : Amb} {F H : Hp} {σ σ0 : St} {env : Env} {pins : List (Addr × Obj)} {s : Shared}
theorem toD_one (I : Inv X pins σ H s) (S : Sok ⟨X.K, ca⟩ Tm F H σ0 env) {t u : T} {x : V} (r : Rep ⟨X.K, ca⟩ F t x) (r' : Rep ⟨X.K, ca⟩ F u x) (ht : (toD t).plain = true) (hu : (toD u).plain = true) : toD t = toD u := by
  obtain ⟨v, rv⟩ := ex_val x
  obtain ⟨as, h1⟩ := Dp.reads I _ x v (Rep.dp S t ht r) rv
  obtain ⟨bs, h2⟩ := Dp.reads I _ x v (Rep.dp S u hu r') rv
  exact PySem.SeqAt.plain_unique _ _ _ _ _ ht h1 h2
theorem same_rep (I : Inv X pins σ H s) (S : Sok ⟨X.K, ca⟩ Tm F H σ0 env) : ∀ {fs gs : List (Str × T)} {vs : List (Str × V)}, RepF ⟨X.K, ca⟩ F fs vs → RepF ⟨X.K, ca⟩ F gs vs → (fs.all fun p => (toD p.2).plain) = true → (gs.all fun p => (toD p.2).plain) = true → sameF fs gs = true
  | [], [], _, _, _, _, _ => rfl
  | [], (b, u) :: gs, vs, h, h', _, _ => by
    simp only [RepF] at h h'
    obtain ⟨x, r, e, _⟩ := h'
    rw [h] at e
    cases e
  | (a, t) :: fs, [], vs, h, h', _, _ => by
    simp only [RepF] at h h'
    obtain ⟨x, r, e, _⟩ := h
    rw [h'] at e
    cases e
  | (a, t) :: fs, (b, u) :: gs, vs, h, h', p, p' => by
    simp only [RepF] at h h'
    obtain ⟨x, r, e, h1, h2⟩ := h
    obtain ⟨x', r', e', h1', h2'⟩ := h'
    rw [e] at e'
    cases e'
    rw [List.all_cons, Bool.and_eq_true] at p p'
    have q := toD_one I S h1 h1' p.1 p'.1
    simp only [sameF, Bool.and_eq_true]
    refine ⟨?_, same_rep I S h2 h2' p.2 p'.2⟩
    rw [q]
    exact PySem.SeqAt.eqv_refl_plain _ p'.1
end
def inP (ci n : Nat) (d : SM) (m : Nat) : List T → T → Env → Option Bool
  | [], _, _ => some false
  | y :: ys, x, env => if plI ci y = true ∧ plI ci x = true then (match callA n d m [.fz y, .fz x] env with
    | .ok (.fz (.bl b)) _ => if b = true then some true else if sameD y x = true then none else inP ci n d m ys x env
    | _ => none) else none
/-- where a row of items stands: a tuple, a list, a slot's own list -/
def SeqIn (G : Gr) (F : Hp) (σ : St) (env : Env) (ts : List T) (y : V) : Prop :=
  Rep G F (.tup ts) y ∨ Rep G F (.lst ts) y ∨ ∃ i, σ[i]? = some (some y) ∧ OwnAt env i (.lst ts)
theorem SeqIn.mono {G : Gr} {F F' : Hp} {σ : St} {env : Env} {ts : List T} {y : V} (h : SeqIn G F σ env ts y) (le : Le F F') : SeqIn G F' σ env ts y := by
  rcases h with h | h | h
  · exact .inl (Rep.mono le _ h)
  · exact .inr (.inl (Rep.mono le _ h))
  · exact .inr (.inr h)
section
variable {C : Cy} {k j ci : Nat} {f : Addr} {fd : FuncData} {ps : List Str} {m : Nat} {d : SM}
theorem eq_turn (hmt : Meth C.X.K (C.ca ci) "__eq__" f) (F : FnC C k f fd ps m d) (B : Bk C j) (hj : k + 1 ≤ j) (hm : ps.length ≤ m) (hb : Binds C.X.K fd ps []) {pins : List (Addr × Obj)} {s : Shared} {σ σ0 : St} {H F0 : Hp} {Tm : Amb} {env : Env} {y x : T} {vy vx : V} {u v : Value} {b : Bool} {e : Env}
    (I : Inv C.X pins σ H s) (S : Sok C.G Tm F0 H σ0 env) (ry : Rep C.G F0 y vy) (rx : Rep C.G F0 x vx) (uy : RelV vy u) (ux : RelV vx v) (py : plI ci y = true) (px : plI ci x = true)
    (hc : callA ps.length d m [.fz y, .fz x] env = .ok (.fz (.bl b)) e) (hs : sameD y x = true → b = true) :
    wpAny (model C.X.prog C.X.w) C.X.A.in1 (eqBool u v) (fun r s' => r = b ∧ ∃ H' F', Inv C.X pins σ H' s' ∧ Le F0 F' ∧ Sok C.G Tm F' H' σ0 env) C.X.xe s := by
  cases y <;> first | (cases py; done) | skip
  cases x <;> first | (cases px; done) | skip
  rename_i c fs c' gs
  simp only [plI, Bool.and_eq_true, beq_iff_eq] at py px
  obtain ⟨rfl, py⟩ := py
  obtain ⟨rfl, px⟩ := px
  obtain ⟨a, dx, vs, rfl, ha, rf⟩ := rep_ins ry
  obtain ⟨a', dx', vs', rfl, ha', rf'⟩ := rep_ins rx
  obtain rfl : u = Value.ref a := uy
  obtain rfl : v = Value.ref a' := ux
  by_cases hab : a = a'
  · subst hab
    rw [ha] at ha'
    cases ha'
    have q := hs (same_rep I S rf rf' py px)
    subst q
    exact PySem.SeqAt.EqAt.same (A := C.X.A.in1) (s := s) (.ref a) C.X.prog C.X.w C.X.xe _ ⟨rfl, H, F0, I, Le.rfl, S⟩
  have hHa : H a = some (.ins (C.ca c') dx vs) := by
    rcases S.sub _ _ ha with q | ⟨q, _⟩
    · exact q
    · cases q
  have hHa' : H a' = some (.ins (C.ca c') dx' vs') := by
    rcases S.sub _ _ ha' with q | ⟨q, _⟩
    · exact q
    · cases q
  obtain ⟨mA, J, _⟩ := ins_get I.hok hHa
  obtain ⟨mB, J', _⟩ := ins_get I.hok hHa'
  obtain ⟨od, J, _⟩ := J.look
  obtain ⟨od', J', _⟩ := J'.look
  obtain ⟨m', hF⟩ := I.fr
  obtain ⟨j', rfl⟩ : ∃ j', j = j' + 1 := ⟨j - 1, by omega⟩
  have ee : e = env := callA_env (ts := [_, _]) hc
  subst ee
  have hsp : spT C.G ps.length m d [.ref a, .ref a'] H (fun v H2 => v = .bl b ∧ ∃ F', Le F0 F' ∧ Sok C.G Tm F' H2 σ0 e) (fun _ _ _ => False) := by
    refine call_sp (C := ⟨C.X, C.ca, fun _ _ _ _ => False⟩) (Q := fun v H2 => v = .bl b ∧ ∃ F', Le F0 F' ∧ Sok C.G Tm F' H2 σ0 e) hm S (as := [.fz (.ins c' fs), .fz (.ins c' gs)]) ⟨_, _, rfl, ry, _, [], rfl, rx, rfl⟩ ?_
    rw [hc]
    intro z F' H' le S' rz
    exact ⟨rep_bl rz, F', le, S'⟩
  have hl : [Value.ref a, Value.ref a'].length = ps.length := by rw [← hsp.1]; rfl
  have r2 : Vals [V.ref a, V.ref a'] [Value.ref a, Value.ref a'] := .cons rfl (.cons rfl .nil)
  have fin : wpAny (model C.X.prog C.X.w) C.X.A.in1 (call (.ref f) [.ref a, .ref a']) (PySem.W.CmpBack (fun v s' => ∃ r, v = .bool r ∧ r = b ∧ ∃ H' F', Inv C.X pins σ H' s' ∧ Le F0 F' ∧ Sok C.G Tm F' H' σ0 e)) C.X.xe s := by
    refine wpAny_call (codeAny_mono ((F.up (by omega : k ≤ j')).go B.room.in1 B.grd I.env0.in1 (by
      have := hb s [.ref a, .ref a'] I.kIn (by simpa using hl)
      simpa using this) r2 hsp) fun r s' hq => ?_)
    match r, hq with
    | .error e, hq => exact B.tk _ _ (XE.of_call I (fun _ _ _ z => False.elim z) hq)
    | .ok (.ret w), hq =>
      obtain ⟨z, H', I', rz, ez, F', le, S'⟩ := I.after hq
      subst ez
      cases rz
      exact ⟨b, rfl, rfl, H', F', I', le, S'⟩
    | .ok .next, hq => exact False.elim hq
    | .ok .brk, hq => exact False.elim hq
    | .ok .cont, hq => exact False.elim hq
  exact GQ.eqBool_refG hab (PySem.W.cmp_K (op := .Eq) (tb := .ref (C.ca c')) B.room.in1.units0 hF I.ok.mod.kin J J'.type (by simp [PySem.W.notFirst]) hmt.at_ hmt.fn fin)
/-- what is asked of x in xs -/
def rInO (C : Cy) (ci n : Nat) (d : SM) (m : Nat) (neg : Bool) : R2 := fun x y H Q => ∃ Tm F0 σ0 env t ts b, Sok C.G Tm F0 H σ0 env ∧ Rep C.G F0 t x ∧ SeqIn C.G F0 σ0 env ts y ∧ inP ci n d m ts t env = some b ∧
  ∀ F' H', Le F0 F' → Sok C.G Tm F' H' σ0 env → Q (.bl (b != neg)) H'
theorem inP_turn {n : Nat} {ts : List T} {t : T} {env : Env} {b : Bool} {i : Nat} (hi : i < ts.length) (h : inP ci n d m (ts.drop i) t env = some b) :
    ∃ b1 e, plI ci ts[i] = true ∧ plI ci t = true ∧ callA n d m [.fz ts[i], .fz t] env = .ok (.fz (.bl b1)) e ∧ (sameD ts[i] t = true → b1 = true) ∧ (b1 = true → b = true) ∧ (b1 = false → inP ci n d m (ts.drop (i + 1)) t env = some b) := by
  rw [List.drop_eq_getElem_cons hi] at h
  simp only [inP] at h
  split at h
  case isFalse => cases h
  rename_i hp
  split at h
  case h_2 => cases h
  rename_i b1 e hc
  refine ⟨b1, e, hp.1, hp.2, hc, ?_⟩
  cases b1 with
  | true =>
    simp only [if_true] at h
    cases h
    exact ⟨fun _ => rfl, fun _ => rfl, fun z => nomatch z⟩
  | false =>
    simp only [Bool.false_eq_true, if_false] at h
    split at h
    · cases h
    · rename_i hn
      exact ⟨fun z => absurd z hn, fun z => (nomatch z), fun _ => h⟩
/-- the loop's word -/
def InI (C : Cy) (pins : List (Addr × Obj)) (σ : St) (ci n : Nat) (d : SM) (m : Nat) (Tm : Amb) (F0 : Hp) (σ0 : St) (env : Env) (ts : List T) (t : T) (b : Bool) (i : Nat) (s : Shared) : Prop :=
  ∃ H F', Inv C.X pins σ H s ∧ Le F0 F' ∧ Sok C.G Tm F' H σ0 env ∧ inP ci n d m (ts.drop i) t env = some b
theorem op_inAny (hmt : Meth C.X.K (C.ca ci) "__eq__" f) (F : FnC C k f fd ps m d) (B : Bk C j) (hj : k + 1 ≤ j) (hm : ps.length ≤ m) (hb : Binds C.X.K fd ps []) (neg : Bool) :
    OpR C.X (compareOp (if neg = true then .NotIn else .In)) (rInO C ci ps.length d m neg) := by
  intro pins s σ H x y v u Q I rx ry ⟨Tm, F0, σ0, env, t, ts, b, S, rt, sq, hp, q⟩
  have one : ∀ (i : Nat) (hi : i < ts.length) (s1 : Shared) (vy : V) (w : Value) (F1 H1 : Hp), Inv C.X pins σ H1 s1 → Le F0 F1 → Sok C.G Tm F1 H1 σ0 env → inP ci ps.length d m (ts.drop i) t env = some b → Rep C.G F1 ts[i] vy → RelV vy w →
      wpAny (model C.X.prog C.X.w) C.X.A.in1 (eqBool w v) (fun r s' => (r = true ∧ EP C.X pins σ Q (.bool (true != neg)) s') ∨ (r = false ∧ InI C pins σ ci ps.length d m Tm F0 σ0 env ts t b (i + 1) s')) C.X.xe s1 := by
    intro i hi s1 vy w F1 H1 I1 le1 S1 hp1 ry1 rw1
    obtain ⟨b1, e, p1, p2, hc, hs, ht, hf⟩ := inP_turn hi hp1
    refine wpAny_mono (eq_turn hmt F B hj hm hb I1 S1 ry1 (Rep.mono le1 t rt) rw1 rx p1 p2 hc hs) (fun r s' ⟨er, H', F', I', le', S'⟩ => ?_) fun _ _ z => z
    subst er
    cases r with
    | true =>
      have eb := ht rfl
      subst eb
      exact .inl ⟨rfl, .bl (true != neg), H', I', rfl, q F' H' (le1.trans le') S'⟩
    | false => exact .inr ⟨rfl, H', F', I', le1.trans le', S', hf rfl⟩
  have fin : ∀ s1, InI C pins σ ci ps.length d m Tm F0 σ0 env ts t b ts.length s1 → EP C.X pins σ Q (.bool (false != neg)) s1 := by
    rintro s1 ⟨H', F', I', le', S', h'⟩
    rw [List.drop_length] at h'
    cases h'
    exact ⟨.bl (false != neg), H', I', rfl, q F' H' le' S'⟩
  have start : InI C pins σ ci ps.length d m Tm F0 σ0 env ts t b 0 s := ⟨H, F0, I, Le.rfl, S, hp⟩
  have lists : ∀ (a : Addr), u = .ref a → (∀ (F1 H1 : Hp), Le F0 F1 → Sok C.G Tm F1 H1 σ0 env → ∃ xs, LstAt C.X.K H1 a xs ∧ RepL C.G F1 ts xs) → wpAny (model C.X.prog C.X.w) C.X.A (compareOp (if neg = true then .NotIn else .In) v u) (EP C.X pins σ Q) C.X.xe s := by
    rintro a rfl at_
    obtain ⟨xs0, h0, r0⟩ := at_ F0 H Le.rfl S
    obtain ⟨its0, n0, r00, e0⟩ := LstAt.obj I h0
    have hl : ∀ (R : Result → Shared → Prop), (∀ s', EP C.X pins σ Q (.bool (true != neg)) s' → R (.ok (.ret (.bool true))) s') → (∀ e s', C.X.xe e s' → R (.error e) s') → ∀ i s1, InI C pins σ ci ps.length d m Tm F0 σ0 env ts t b i s1 →
        ∃ (items : Array Value) (n : Nat), s1.heap.get? a = some { cls := .type "list", data := .seq items n } ∧ items.size = ts.length ∧ ∀ h1 : i < items.size, wpAny (model C.X.prog C.X.w) C.X.A.in1 (eqBool items[i] v) (fun r s' => (r = true ∧ R (.ok (.ret (.bool true))) s') ∨ (r = false ∧ InI C pins σ ci ps.length d m Tm F0 σ0 env ts t b (i + 1) s')) (fun e s' => R (.error e) s') s1 := by
      rintro R hR hE i s1 ⟨H1, F1, I1, le1, S1, hp1⟩
      obtain ⟨xs, h, r⟩ := at_ F1 H1 le1 S1
      obtain ⟨its, n, rv, e⟩ := LstAt.obj I1 h
      have hsz : its.toArray.size = ts.length := by rw [List.size_toArray, ← rv.length, r.length]
      refine ⟨its.toArray, n, e, hsz, fun h1 => ?_⟩
      have hi : i < ts.length := by omega
      obtain ⟨z, hz, rz⟩ := r.get (List.getElem?_eq_getElem hi)
      obtain ⟨w, hw, rw⟩ := rv.get hz
      have ew : its.toArray[i] = w := by
        have h1' : i < its.length := by simpa using h1
        rw [List.getElem?_eq_getElem h1'] at hw
        have := Option.some.inj hw
        simpa using this
      rw [ew]
      refine wpAny_mono (one i hi s1 z w F1 H1 I1 le1 S1 hp1 rz rw) (fun r s' z => ?_) fun e s' z => hE e s' z
      rcases z with ⟨z1, z2⟩ | z
      · exact .inl ⟨z1, hR _ z2⟩
      · exact .inr z
    cases neg with
    | false => exact EvIn.inG ⟨_, e0, rfl⟩ PySem.F.slot_list_contains PySem.F.entry_list_contains (PySem.F.args_list_contains_2 _ _) (EvIn.list_inG a v ts.length _ (hl _ (fun s' z => ⟨_, rfl, z⟩) fun e s' z => z) (fun s1 z => ⟨_, rfl, fin s1 z⟩) start)
    | true => exact EvIn.ninG ⟨_, e0, rfl⟩ PySem.F.slot_list_contains PySem.F.entry_list_contains (PySem.F.args_list_contains_2 _ _) (EvIn.list_inG a v ts.length _ (hl _ (fun s' z => ⟨_, rfl, z⟩) fun e s' z => z) (fun s1 z => ⟨_, rfl, fin s1 z⟩) start)
  rcases sq with sq | sq | ⟨i, hi, ow⟩
  · obtain ⟨a, xs, rfl, hq, rl⟩ := rep_tup sq
    obtain rfl : u = Value.ref a := ry
    obtain ⟨its, rv, ht, hz⟩ := I.tuple (S.sqT hq)
    obtain ⟨⟨cls, dd, data, sl⟩, ho, hc, n, hd⟩ := id ht
    simp only at hc hd
    subst hc hd
    have hsz : its.toArray.size = ts.length := by rw [List.size_toArray, ← rv.length, rl.length]
    have turn : ∀ (R : Result → Shared → Prop), (∀ s', EP C.X pins σ Q (.bool (true != neg)) s' → R (.ok (.ret (.bool true))) s') → (∀ e s', C.X.xe e s' → R (.error e) s') → ∀ i (h1 : i < its.toArray.size) s1, InI C pins σ ci ps.length d m Tm F0 σ0 env ts t b i s1 →
        wpAny (model C.X.prog C.X.w) C.X.A.in1 (eqBool its.toArray[i] v) (fun r s' => (r = true ∧ R (.ok (.ret (.bool true))) s') ∨ (r = false ∧ InI C pins σ ci ps.length d m Tm F0 σ0 env ts t b (i + 1) s')) (fun e s' => R (.error e) s') s1 := by
      rintro R hR hE i h1 s1 ⟨H1, F1, I1, le1, S1, hp1⟩
      have hi : i < ts.length := by omega
      obtain ⟨z, hz, rz⟩ := rl.get (List.getElem?_eq_getElem hi)
      obtain ⟨w, hw, rw⟩ := rv.get hz
      have ew : its.toArray[i] = w := by
        have h1' : i < its.length := by simpa using h1
        rw [List.getElem?_eq_getElem h1'] at hw
        have := Option.some.inj hw
        simpa using this
      rw [ew]
      refine wpAny_mono (one i hi s1 z w F1 H1 I1 le1 S1 hp1 (Rep.mono le1 _ rz) rw) (fun r s' z => ?_) fun e s' z => hE e s' z
      rcases z with ⟨z1, z2⟩ | z
      · exact .inl ⟨z1, hR _ z2⟩
      · exact .inr z
    cases neg with
    | false => exact EvIn.inG ⟨_, ho, rfl⟩ PySem.F.slot_tuple_contains PySem.F.entry_tuple_contains (PySem.F.args_tuple_contains_2 _ _) (EvIn.tuple_inG a its.toArray n dd sl v _ (turn _ (fun s' z => ⟨_, rfl, z⟩) fun e s' z => z) (fun s1 z => ⟨_, rfl, fin s1 (by rw [hsz] at z; exact z)⟩) ho start)
    | true => exact EvIn.ninG ⟨_, ho, rfl⟩ PySem.F.slot_tuple_contains PySem.F.entry_tuple_contains (PySem.F.args_tuple_contains_2 _ _) (EvIn.tuple_inG a its.toArray n dd sl v _ (turn _ (fun s' z => ⟨_, rfl, z⟩) fun e s' z => z) (fun s1 z => ⟨_, rfl, fin s1 (by rw [hsz] at z; exact z)⟩) ho start)
  · obtain ⟨a, xs, rfl, hq, rl⟩ := rep_lst sq
    exact lists a ry fun F1 H1 le1 S1 => ⟨xs, S1.lstAt (le1.lstAt hq), RepL.mono le1 _ rl⟩
  · obtain ⟨s0, e0, k0⟩ := ow.get
    obtain ⟨z, hz, ok⟩ := S.slot i _ e0
    obtain ⟨a, o, ez, ha, fa, top⟩ := ok.own k0
    rw [hi] at hz
    cases hz
    cases ez
    refine lists a ry fun F1 H1 le1 S1 => ?_
    obtain ⟨z1, hz1, ok1⟩ := S1.slot i _ e0
    obtain ⟨a1, o1, ez1, ha1, fa1, top1⟩ := ok1.own k0
    rw [hi] at hz1
    cases hz1
    cases ez1
    obtain ⟨xs, eo, rl⟩ := top1
    subst eo
    exact ⟨xs, .inl (.inl ha1), rl⟩
end
def seqOf : Rv → Env → Option (List T)
  | .fz (.tup ts), _ => some ts
  | .fz (.lst ts), _ => some ts
  | .bo i, env => (match env[i]? with
    | some (.ow (.lst ts)) => some ts
    | some (.io (.lst ts)) => some ts
    | some (.fz (.tup ts)) => some ts
    | some (.fz (.lst ts)) => some ts
    | _ => none)
  | _, _ => none
theorem seqOf_ok {G : Gr} {Tm : Amb} {F H : Hp} {σ : St} {env : Env} {r : Rv} {y : V} {ts : List T} (S : Sok G Tm F H σ env) (h : HoR G Tm F H σ env r y) (e : seqOf r env = some ts) : SeqIn G F σ env ts y := by
  cases r with
  | fz t =>
    cases t <;> first | (cases e; done) | skip
    · cases e; exact .inl h
    · cases e; exact .inr (.inl h)
  | ow t => cases e
  | bo i =>
    have hx : σ[i]? = some (some y) := h
    simp only [seqOf] at e
    split at e
    · rename_i q
      cases e
      exact .inr (.inr ⟨i, hx, .inl q⟩)
    · rename_i q
      cases e
      exact .inr (.inr ⟨i, hx, .inr q⟩)
    · rename_i q
      cases e
      obtain ⟨z, hz, v, ev, rv⟩ := S.slot i _ q
      rw [hx] at hz
      cases hz
      cases ev
      exact .inl rv
    · rename_i q
      cases e
      obtain ⟨z, hz, v, ev, rv⟩ := S.slot i _ q
      rw [hx] at hz
      cases hz
      cases ev
      exact .inr (.inl rv)
    · cases e
def inOM (neg : Bool) (ci n : Nat) (d : SM) (m : Nat) (f1 : M T) (f2 : M Rv) : M Bool := M.bind f1 fun t => M.bind f2 fun r env => match (seqOf r env).bind fun ts => inP ci n d m ts t env with
  | some b => .ok (b != neg) env
  | none => .no
section
variable {C : Cy} {k j ci : Nat} {f : Addr} {fd : FuncData} {ps : List Str} {m : Nat} {d : SM} {a b : Expr} {pos : Pos} {f1 : M T} {f2 : M Rv}
theorem inO_at {neg : Bool} {Tm : Amb} {F0 : Hp} {σ : St} {env : Env} {R : V → Hp → Prop} {n : Nat}
    (q : At C BR Tm F0 σ (fun w H' => R (.bl w) H') (inOM neg ci n d m f1 f2 env)) :
    At C (TR C.G) Tm F0 σ (fun x H1 => tG C (HoR C.G) f2 σ H1 fun y H2 => rInO C ci n d m neg x y H2 R) (f1 env) := by
  refine At.bind (R' := BR) (Q' := fun w H' => R (.bl w) H') q fun t env1 x F1 H1 le1 S1 r1 q1 => ⟨Tm, F1, env1, S1, ?_⟩
  refine At.bind (R' := BR) (Q' := fun w H' => R (.bl w) H') q1 fun r env2 y F2 H2 le2 S2 r2 q2 => ?_
  split at q2
  case h_2 => exact q2.elim
  rename_i b hb
  obtain ⟨ts, h1, h2⟩ := Option.bind_eq_some_iff.mp hb
  exact ⟨Tm, F2, σ, env2, t, ts, b, S2, Rep.mono le2 _ r1, seqOf_ok S2 r2 h1, h2, fun F' H' le S' => q2 (b != neg) F' H' le S' rfl⟩
theorem ev_inAny {op : CmpOp} {neg : Bool} (hop : op = if neg = true then .NotIn else .In) (hmt : Meth C.X.K (C.ca ci) "__eq__" f) (F : FnC C k f fd ps m d) (B : Bk C j) (hj : k + 1 ≤ j) (hm : ps.length ≤ m) (hb : Binds C.X.K fd ps []) (h1 : EvT C a f1) (h2 : EvH C b f2) (hmk : behindInMarks op b = false) :
    EvT C (.Compare a [op] [b] pos) (M.bind (inOM neg ci ps.length d m f1 f2) fun w => M.pure (.bl w)) := by
  subst hop
  refine pe_imp (pe_cmpR (op_inAny hmt F B hj hm hb neg) h1 h2 hmk) fun σ H Q ⟨Tm, F0, env, S, q⟩ => ⟨Tm, F0, env, S, ?_⟩
  refine inO_at (R := Q) ?_
  revert q
  show At C (TR C.G) Tm F0 σ Q ((inOM neg ci ps.length d m f1 f2 env).bind fun w => M.pure (.bl w)) → _
  cases inOM neg ci ps.length d m f1 f2 env with
  | ok w e => exact fun q b F' H' l S e => by subst e; exact q _ F' H' l S (mk_bl _)
  | ex c fs e => exact fun q => q
  | no => exact fun q => q
theorem eb_inAny {op : CmpOp} {neg : Bool} (hop : op = if neg = true then .NotIn else .In) (hmt : Meth C.X.K (C.ca ci) "__eq__" f) (F : FnC C k f fd ps m d) (B : Bk C j) (hj : k + 1 ≤ j) (hm : ps.length ≤ m) (hb : Binds C.X.K fd ps []) (h1 : EvT C a f1) (h2 : EvH C b f2) (hmk : behindInMarks op b = false) :
    EvB C (.Compare a [op] [b] pos) (inOM neg ci ps.length d m f1 f2) := by
  subst hop
  refine pt_imp (pt_cmpR (op_inAny hmt F B hj hm hb neg) h1 h2 hmk) fun σ H Q ⟨Tm, F0, env, S, q⟩ => ⟨Tm, F0, env, S, ?_⟩
  refine inO_at (R := fun v H' => ∃ w, v = .bl w ∧ Q w H') ?_
  exact q.mono fun w H' z => ⟨w, rfl, z⟩
end
end Ev
/-! Ev50: an own __contains__, __len__, <= and its kin, own operators. -/
namespace EvOp
open PySem PySem.Calls PyProof.Rows Builtin PySem.W
section
variable {K : Frag} {D : Addr}
/-- a class without the operator nm -/
def noNum (K : Frag) (D : Addr) (nm : String) : Bool := ((clsIn K D).any fun cd => cd.mro == [.ref D, .type "object"]) && findIn K (.ref D) (PySem.dunder nm) == some none && findIn K (.ref D) (dunderR nm) == some none
theorem noNum_at {nm : String} (h : noNum K D nm = true) : ∃ cd, clsIn K D = some cd ∧ cd.mro = [.ref D, .type "object"] ∧ findIn K (.ref D) (PySem.dunder nm) = some none ∧ findIn K (.ref D) (dunderR nm) = some none := by
  unfold noNum at h
  rw [Bool.and_eq_true, Bool.and_eq_true, beq_iff_eq, beq_iff_eq] at h
  obtain ⟨⟨h1, h2⟩, h3⟩ := h
  obtain ⟨cd, h4, h5⟩ := any_some h1
  exact ⟨cd, h4, beq_iff_eq.mp h5, h2, h3⟩
theorem nofill {M : Model} {h : Heap} {nm : String} (X : K.In h) (hn : noNum K D nm = true) (o1 : fastLookup "object" (PySem.dunder nm) = some none) (o2 : fastLookup "object" (dunderR nm) = some none) : Looks M h (fillsNumberSlot (.ref D) nm) false := by
  obtain ⟨cd, hc, hm, h1, h2⟩ := noNum_at hn
  intro A Q E s k q
  unfold fillsNumberSlot
  refine wpAny_bind ((looks_clsIn X hc).andThen (f := fun cd => pure cd.mro) .now A _ E s k ?_)
  rw [hm, List.anyM_cons]
  refine wpAny_bind ?_
  show wpAny M A (List.anyM _ [PySem.dunder nm, dunderR nm]) _ _ _
  rw [List.anyM_cons]
  refine wpAny_bind (wpAny_bind (looks_findIn X h1 A _ E s k ?_))
  dsimp only
  refine wpAny_pure ?_
  rw [if_neg (by simp), List.anyM_cons]
  refine wpAny_bind (wpAny_bind (looks_findIn X h2 A _ E s k ?_))
  dsimp only
  refine wpAny_pure ?_
  rw [if_neg (by simp), List.anyM_nil]
  refine wpAny_pure ?_
  rw [if_neg (by simp), List.anyM_cons]
  refine wpAny_bind ?_
  dsimp only
  refine wpAny_bind ((looks_findIn (t := .type "object") X (show findIn K (.type "object") (PySem.dunder nm) = some none from o1)) A _ E s k ?_)
  refine wpAny_bind ((looks_findIn (t := .type "object") X (show findIn K (.type "object") (dunderR nm) = some none from o2)) A _ E s k ?_)
  refine wpAny_pure ?_
  rw [if_neg (by simp), List.anyM_nil]
  exact wpAny_pure q
end
section
variable {prog : Program} {w : World} {A : Around} {E : Value → Shared → Prop} {s : Shared} {K : Frag} {x C L f : Addr} {h₀ : Heap} {m : Str → Option Value} {ox : Obj} {od : Option Obj}
/-- o op b, b of a class without the operator -/
theorem binop_L {op : Operator} {b : Value} {D : Addr} {Q : Value → Shared → Prop} (F : Fr h₀ L s.heap m) (X₀ : K.In h₀) (I : InstAt s.heap x ox C od) (hb : Looks (model prog w) s.heap (typeOf b) (.ref D)) (hne : C ≠ D) (hc : selfFirst K C = true)
    (hn : noNum K D op.info.2 = true) (o1 : fastLookup "object" (PySem.dunder op.info.2) = some none) (o2 : fastLookup "object" (dunderR op.info.2) = some none)
    (hs : findIn K (.ref C) (PySem.dunder op.info.2) = some (some (.ref f))) (hf : isFn K (.ref f) = true)
    (h : wpAny (model prog w) A (call (.ref f) [.ref x, b]) (PySem.W.CmpBack Q) E s) : wpAny (model prog w) A (binaryOp op (.ref x) b) Q E s := by
  have X := X₀.keeps F.keep
  obtain ⟨cd, hcd, hm⟩ := any_some hc
  obtain ⟨rest, hm⟩ : ∃ rest, cd.mro = .ref C :: rest := by
    cases q : cd.mro with
    | nil => rw [q] at hm; cases hm
    | cons a r => rw [q] at hm; exact ⟨r, by rw [List.head?_cons] at hm; cases (beq_iff_eq.mp hm); rfl⟩
  have ne : (Value.ref C == Value.ref D) = false := by
    rw [beq_eq_false_iff_ne]
    exact fun z => hne (by injection z)
  unfold binaryOp
  refine wpAny_holding (wpAny_bind ?_)
  unfold binaryOp1
  refine wpAny_bind (I.type.here (wpAny_bind (hb.here (wpAny_bind ((fills_K X hcd hm hs).here ?_)))))
  simp only [ne, Bool.false_eq_true, if_false]
  refine wpAny_bind ((nofill X hn o1 o2).here ?_)
  simp only [Bool.and_false, Bool.false_eq_true, if_false, Bool.false_and]
  refine wpAny_bind (wpAny_pure ?_)
  simp only [Bool.false_eq_true, if_false, if_true]
  refine wpAny_bind (m := tryMethod (.ref x) _ b) ?_
  unfold tryMethod
  refine wpAny_bind (special_fn X I hs (beq_iff_eq.mp hf) (wpAny_mono h (fun v s' hv => ?_) fun _ _ e => e))
  cases v <;> first | exact hv.elim | exact wpAny_pure (wpAny_pure (wpAny_pure hv))
/-- b op o, b of a class without the operator: o's reflected one -/
theorem binop_R {op : Operator} {y D : Addr} {oy : Obj} {ody : Option Obj} {Q : Value → Shared → Prop} (F : Fr h₀ L s.heap m) (X₀ : K.In h₀) (I : InstAt s.heap x ox C od) (J : InstAt s.heap y oy D ody) (hne : C ≠ D) (hc : selfFirst K C = true)
    (hn : noNum K D op.info.2 = true) (o1 : fastLookup "object" (PySem.dunder op.info.2) = some none) (o2 : fastLookup "object" (dunderR op.info.2) = some none) {g : Addr}
    (hd : findIn K (.ref C) (PySem.dunder op.info.2) = some (some (.ref g))) (hs : findIn K (.ref C) (dunderR op.info.2) = some (some (.ref f))) (hf : isFn K (.ref f) = true)
    (h : wpAny (model prog w) A (call (.ref f) [.ref x, .ref y]) (PySem.W.CmpBack Q) E s) : wpAny (model prog w) A (binaryOp op (.ref y) (.ref x)) Q E s := by
  have X := X₀.keeps F.keep
  obtain ⟨cd, hcd, hm⟩ := any_some hc
  obtain ⟨rest, hm⟩ : ∃ rest, cd.mro = .ref C :: rest := by
    cases q : cd.mro with
    | nil => rw [q] at hm; cases hm
    | cons a r => rw [q] at hm; exact ⟨r, by rw [List.head?_cons] at hm; cases (beq_iff_eq.mp hm); rfl⟩
  have ne : (Value.ref D == Value.ref C) = false := by
    rw [beq_eq_false_iff_ne]
    exact fun z => hne (by injection z with z; exact z.symm)
  unfold binaryOp
  refine wpAny_holding (wpAny_bind ?_)
  unfold binaryOp1
  refine wpAny_bind (J.type.here (wpAny_bind (I.type.here (wpAny_bind ((nofill X hn o1 o2).here ?_)))))
  simp only [ne, Bool.false_eq_true, if_false]
  refine wpAny_bind ((fills_K X hcd hm hd).here ?_)
  simp only [Bool.and_false, Bool.false_eq_true, if_false, Bool.false_and, Bool.and_true, Bool.not_false]
  refine wpAny_bind (wpAny_pure ?_)
  simp only [Bool.false_eq_true, if_false, if_true, Bool.not_false, Bool.and_self]
  refine wpAny_bind (m := tryMethod (.ref x) _ (.ref y)) ?_
  unfold tryMethod
  refine wpAny_bind (special_fn X I hs (beq_iff_eq.mp hf) (wpAny_mono h (fun v s' hv => ?_) fun _ _ e => e))
  cases v <;> first | exact hv.elim | exact wpAny_pure (wpAny_bind (wpAny_rule (wpAny_pure (wpAny_pure hv))))
end
end EvOp
/-! Ev51: these, by trees. -/
namespace Ev
open PySem PySem.Spec L2
section
variable {C : Cy} {k j ci : Nat} {f : Addr} {fd : FuncData} {ps : List Str} {m : Nat} {d : SM} {a b : Expr} {pos : Pos} {f1 f2 : M T}
theorem ci_at {Tm : Amb} {F H : Hp} {σ : St} {env : Env} {t : T} {x : V} (S : Sok C.G Tm F H σ env) (r : Rep C.G F t x) (h : isCi ci t = true) : ∃ a dx vs, x = .ref a ∧ H a = some (.ins (C.ca ci) dx vs) := by
  cases t <;> first | (cases h; done) | skip
  rename_i c fs
  have e : c = ci := by simpa [isCi] using h
  subst e
  obtain ⟨a, dx, vs, ex, ha, _⟩ := rep_ins r
  rcases S.sub _ _ ha with q | ⟨q, _⟩
  · exact ⟨a, dx, vs, ex, q⟩
  · cases q
/-! ### comparisons that give a truth -/
/-- what an own comparison's def hands out -/
def cmpO (ci n : Nat) (d : SM) (m : Nat) (f1 f2 : M T) : M Bool := M.bind f1 fun t => M.bind f2 fun u env => if isCi ci t = true ∧ isCi ci u = true then (match callA n d m [.fz t, .fz u] env with
  | .ok (.fz (.bl b)) e => .ok b e
  | _ => .no) else .no
theorem op_cmpOwn {op : CmpOp} {nm : Str} (ho : compareOp op = richCompare op := by rfl) (hn : (cmpInfo op).2.1 = nm := by rfl) (hmt : Meth C.X.K (C.ca ci) nm f) (F : FnC C k f fd ps m d) (B : Bk C j) (hj : k ≤ j) (hb : Binds C.X.K fd ps []) :
    OpR C.X (compareOp op) (fun x y H Q => ∃ a dx vs b dy ws, x = .ref a ∧ H a = some (.ins (C.ca ci) dx vs) ∧ y = .ref b ∧ H b = some (.ins (C.ca ci) dy ws) ∧ spT C.G ps.length m d [x, y] H (fun v H2 => ∃ b, v = .bl b ∧ Q (.bl b) H2) (fun _ _ _ => False)) := by
  intro pins s σ H x y v u Q I rx ry h
  obtain ⟨a, dx, vs, b, dy, ws, rfl, ha, rfl, hb', hsp⟩ := h
  cases rx
  cases ry
  obtain ⟨mA, J, _⟩ := ins_get I.hok ha
  obtain ⟨od, J, _⟩ := J.look
  obtain ⟨mB, J', _⟩ := ins_get I.hok hb'
  obtain ⟨od', J', _⟩ := J'.look
  obtain ⟨m', hF⟩ := I.fr
  have fin : wpAny (model C.X.prog C.X.w) C.X.A (call (.ref f) [.ref a, .ref b]) (PySem.W.CmpBack (EP C.X pins σ Q)) C.X.xe s := by
    have hl : [Value.ref a, Value.ref b].length = ps.length := by rw [← hsp.1]; rfl
    have r2 : Vals [V.ref a, V.ref b] [Value.ref a, Value.ref b] := .cons rfl (.cons rfl .nil)
    refine wpAny_call (codeAny_mono ((F.up hj).go B.room B.grd I.env0 (by
      have := hb s [.ref a, .ref b] I.kIn (by simpa using hl)
      simpa using this) r2 hsp) fun r s' hq => ?_)
    match r, hq with
    | .error e, hq => exact B.tk _ _ (XE.of_call I (fun _ _ _ z => False.elim z) hq)
    | .ok (.ret w), hq =>
      obtain ⟨z, H', I', rz, b, ez, q⟩ := I.after hq
      subst ez
      cases rz
      exact ⟨.bl b, H', I', rfl, q⟩
    | .ok .next, hq => exact False.elim hq
    | .ok .brk, hq => exact False.elim hq
    | .ok .cont, hq => exact False.elim hq
  rw [ho]
  exact PySem.W.cmp_K (op := op) (tb := .ref (C.ca ci)) B.room.units0 hF I.ok.mod.kin J J'.type (by simp [PySem.W.notFirst]) (by rw [hn]; exact hmt.at_) hmt.fn fin
/-- from an outcome to what such a comparison asks -/
theorem cmpO_at {Tm : Amb} {F0 : Hp} {σ : St} {env : Env} {R : V → Hp → Prop} (hm : ps.length ≤ m)
    (q : At C BR Tm F0 σ (fun w H' => R (.bl w) H') (cmpO ci ps.length d m f1 f2 env)) :
    At C (TR C.G) Tm F0 σ (fun x H1 => tG C (TR C.G) f2 σ H1 fun y H2 => ∃ a dx vs b dy ws, x = .ref a ∧ H2 a = some (.ins (C.ca ci) dx vs) ∧ y = .ref b ∧ H2 b = some (.ins (C.ca ci) dy ws) ∧ spT C.G ps.length m d [x, y] H2 (fun v H2 => ∃ b, v = .bl b ∧ R (.bl b) H2) (fun _ _ _ => False)) (f1 env) := by
  refine At.bind (R' := BR) (Q' := fun w H' => R (.bl w) H') q fun t env1 x F1 H1 le1 S1 r1 q1 => ⟨Tm, F1, env1, S1, ?_⟩
  refine At.bind (R' := BR) (Q' := fun w H' => R (.bl w) H') q1 fun u env2 y F2 H2 le2 S2 r2 q2 => ?_
  split at q2
  case isFalse => exact q2.elim
  rename_i hc
  have rt := Rep.mono le2 t r1
  obtain ⟨a, dx, vs, ex, ha⟩ := ci_at S2 rt hc.1
  obtain ⟨b, dy, ws, ey, hb⟩ := ci_at S2 r2 hc.2
  refine ⟨a, dx, vs, b, dy, ws, ex, ha, ey, hb, ?_⟩
  refine call_sp (C := ⟨C.X, C.ca, fun _ _ _ _ => False⟩) (Q := fun v H2 => ∃ b, v = .bl b ∧ R (.bl b) H2) hm S2 (as := [.fz t, .fz u]) ⟨x, [y], rfl, rt, y, [], rfl, r2, rfl⟩ ?_
  cases ec : callA ps.length d m [.fz t, .fz u] env2 with
  | no =>
    rw [ec] at q2
    exact q2.elim
  | ex c fs e' =>
    rw [ec] at q2
    exact q2.elim
  | ok r e' =>
    rw [ec] at q2
    cases r with
    | ow t => exact q2.elim
    | bo i => exact q2.elim
    | fz w =>
      cases w <;> first | exact q2.elim | skip
      intro z F' H' le S' rz
      exact ⟨_, rep_bl rz, q2 _ F' H' le S' rfl⟩
theorem ev_cmpO {op : CmpOp} {nm : Str} (hn : (cmpInfo op).2.1 = nm) (hmt : Meth C.X.K (C.ca ci) nm f) (F : FnC C k f fd ps m d) (B : Bk C j) (hj : k ≤ j) (hm : ps.length ≤ m) (hb : Binds C.X.K fd ps []) (h1 : EvT C a f1) (h2 : EvT C b f2) (hmk : behindInMarks op b = false) (ho : compareOp op = richCompare op := by rfl) :
    EvT C (.Compare a [op] [b] pos) (M.bind (cmpO ci ps.length d m f1 f2) fun w => M.pure (.bl w)) := by
  refine pe_imp (pe_cmpR (op_cmpOwn ho hn hmt F B hj hb) h1 h2 hmk) fun σ H Q ⟨Tm, F0, env, S, q⟩ => ⟨Tm, F0, env, S, ?_⟩
  refine cmpO_at (R := Q) hm ?_
  revert q
  show At C (TR C.G) Tm F0 σ Q ((cmpO ci ps.length d m f1 f2 env).bind fun w => M.pure (.bl w)) → _
  cases cmpO ci ps.length d m f1 f2 env with
  | ok w e => exact fun q b F' H' l S e => by subst e; exact q _ F' H' l S (mk_bl _)
  | ex c fs e => exact fun q => q
  | no => exact fun q => q
theorem eb_cmpO {op : CmpOp} {nm : Str} (hn : (cmpInfo op).2.1 = nm) (hmt : Meth C.X.K (C.ca ci) nm f) (F : FnC C k f fd ps m d) (B : Bk C j) (hj : k ≤ j) (hm : ps.length ≤ m) (hb : Binds C.X.K fd ps []) (h1 : EvT C a f1) (h2 : EvT C b f2) (hmk : behindInMarks op b = false) (ho : compareOp op = richCompare op := by rfl) :
    EvB C (.Compare a [op] [b] pos) (cmpO ci ps.length d m f1 f2) := by
  refine pt_imp (pt_cmpR (op_cmpOwn ho hn hmt F B hj hb) h1 h2 hmk) fun σ H Q ⟨Tm, F0, env, S, q⟩ => ⟨Tm, F0, env, S, ?_⟩
  refine cmpO_at (R := fun v H' => ∃ w, v = .bl w ∧ Q w H') hm ?_
  exact q.mono fun w H' z => ⟨w, rfl, z⟩
/-! ### x in o -/
def contO (neg : Bool) (ci n : Nat) (d : SM) (m : Nat) (f1 f2 : M T) : M Bool := M.bind f1 fun t => M.bind f2 fun u env => if isCi ci u = true then (match callA n d m [.fz u, .fz t] env with
  | .ok (.fz (.bl b)) e => .ok (b != neg) e
  | _ => .no) else .no
theorem op_contOwn (hmt : Meth C.X.K (C.ca ci) "__contains__" f) (F : FnC C k f fd ps m d) (B : Bk C j) (hj : k ≤ j) (hb : Binds C.X.K fd ps []) (neg : Bool) :
    OpR C.X (compareOp (if neg = true then .NotIn else .In)) (fun x y H Q => ∃ a dx vs, y = .ref a ∧ H a = some (.ins (C.ca ci) dx vs) ∧ spT C.G ps.length m d [y, x] H (fun v H2 => ∃ b, v = .bl b ∧ Q (.bl (b != neg)) H2) (fun _ _ _ => False)) := by
  intro pins s σ H x y v u Q I rx ry h
  obtain ⟨a, dx, vs, rfl, ha, hsp⟩ := h
  cases ry
  obtain ⟨mA, J, _⟩ := ins_get I.hok ha
  obtain ⟨od, J, _⟩ := J.look
  obtain ⟨m', hF⟩ := I.fr
  have fin : wpAny (model C.X.prog C.X.w) C.X.A (call (.ref f) [.ref a, v]) (fun r s' => ∃ b, r = .bool b ∧ EP C.X pins σ Q (.bool (b != neg)) s') C.X.xe s := by
    have hl : [Value.ref a, v].length = ps.length := by rw [← hsp.1]; rfl
    have r2 : Vals [V.ref a, x] [Value.ref a, v] := .cons rfl (.cons rx .nil)
    refine wpAny_call (codeAny_mono ((F.up hj).go B.room B.grd I.env0 (by
      have := hb s [.ref a, v] I.kIn (by simpa using hl)
      simpa using this) r2 hsp) fun r s' hq => ?_)
    match r, hq with
    | .error e, hq => exact B.tk _ _ (XE.of_call I (fun _ _ _ z => False.elim z) hq)
    | .ok (.ret w), hq =>
      obtain ⟨z, H', I', rz, b, ez, q⟩ := I.after hq
      subst ez
      cases rz
      exact ⟨b, rfl, .bl (b != neg), H', I', rfl, q⟩
    | .ok .next, hq => exact False.elim hq
    | .ok .brk, hq => exact False.elim hq
    | .ok .cont, hq => exact False.elim hq
  cases neg with
  | false =>
    refine PySem.W.in_K hF I.ok.mod.kin J hmt.at_ hmt.fn (wpAny_mono fin (fun r s' ⟨b, e, q⟩ => ?_) fun _ _ z => z)
    subst e
    exact wpAny_truthy_bool (by simpa using q)
  | true =>
    refine PySem.W.notIn_K hF I.ok.mod.kin J hmt.at_ hmt.fn (wpAny_mono fin (fun r s' ⟨b, e, q⟩ => ?_) fun _ _ z => z)
    subst e
    exact wpAny_truthy_bool (by simpa using q)
theorem contO_at {neg : Bool} {Tm : Amb} {F0 : Hp} {σ : St} {env : Env} {R : V → Hp → Prop} (hm : ps.length ≤ m)
    (q : At C BR Tm F0 σ (fun w H' => R (.bl w) H') (contO neg ci ps.length d m f1 f2 env)) :
    At C (TR C.G) Tm F0 σ (fun x H1 => tG C (TR C.G) f2 σ H1 fun y H2 => ∃ a dx vs, y = .ref a ∧ H2 a = some (.ins (C.ca ci) dx vs) ∧ spT C.G ps.length m d [y, x] H2 (fun v H2 => ∃ b, v = .bl b ∧ R (.bl (b != neg)) H2) (fun _ _ _ => False)) (f1 env) := by
  refine At.bind (R' := BR) (Q' := fun w H' => R (.bl w) H') q fun t env1 x F1 H1 le1 S1 r1 q1 => ⟨Tm, F1, env1, S1, ?_⟩
  refine At.bind (R' := BR) (Q' := fun w H' => R (.bl w) H') q1 fun u env2 y F2 H2 le2 S2 r2 q2 => ?_
  split at q2
  case isFalse => exact q2.elim
  rename_i hc
  have rt := Rep.mono le2 t r1
  obtain ⟨a, dx, vs, ex, ha⟩ := ci_at S2 r2 hc
  refine ⟨a, dx, vs, ex, ha, ?_⟩
  refine call_sp (C := ⟨C.X, C.ca, fun _ _ _ _ => False⟩) (Q := fun v H2 => ∃ b, v = .bl b ∧ R (.bl (b != neg)) H2) hm S2 (as := [.fz u, .fz t]) ⟨y, [x], rfl, r2, x, [], rfl, rt, rfl⟩ ?_
  cases ec : callA ps.length d m [.fz u, .fz t] env2 with
  | no =>
    rw [ec] at q2
    exact q2.elim
  | ex c fs e' =>
    rw [ec] at q2
    exact q2.elim
  | ok r e' =>
    rw [ec] at q2
    cases r with
    | ow t => exact q2.elim
    | bo i => exact q2.elim
    | fz w =>
      cases w <;> first | exact q2.elim | skip
      intro z F' H' le S' rz
      exact ⟨_, rep_bl rz, q2 _ F' H' le S' rfl⟩
theorem ev_contO {op : CmpOp} {neg : Bool} (hop : op = if neg = true then .NotIn else .In) (hmt : Meth C.X.K (C.ca ci) "__contains__" f) (F : FnC C k f fd ps m d) (B : Bk C j) (hj : k ≤ j) (hm : ps.length ≤ m) (hb : Binds C.X.K fd ps []) (h1 : EvT C a f1) (h2 : EvT C b f2) (hmk : behindInMarks op b = false) :
    EvT C (.Compare a [op] [b] pos) (M.bind (contO neg ci ps.length d m f1 f2) fun w => M.pure (.bl w)) := by
  subst hop
  refine pe_imp (pe_cmpR (op_contOwn hmt F B hj hb neg) h1 h2 hmk) fun σ H Q ⟨Tm, F0, env, S, q⟩ => ⟨Tm, F0, env, S, ?_⟩
  refine contO_at (R := Q) hm ?_
  revert q
  show At C (TR C.G) Tm F0 σ Q ((contO neg ci ps.length d m f1 f2 env).bind fun w => M.pure (.bl w)) → _
  cases contO neg ci ps.length d m f1 f2 env with
  | ok w e => exact fun q b F' H' l S e => by subst e; exact q _ F' H' l S (mk_bl _)
  | ex c fs e => exact fun q => q
  | no => exact fun q => q
theorem eb_contO {op : CmpOp} {neg : Bool} (hop : op = if neg = true then .NotIn else .In) (hmt : Meth C.X.K (C.ca ci) "__contains__" f) (F : FnC C k f fd ps m d) (B : Bk C j) (hj : k ≤ j) (hm : ps.length ≤ m) (hb : Binds C.X.K fd ps []) (h1 : EvT C a f1) (h2 : EvT C b f2) (hmk : behindInMarks op b = false) :
    EvB C (.Compare a [op] [b] pos) (contO neg ci ps.length d m f1 f2) := by
  subst hop
  refine pt_imp (pt_cmpR (op_contOwn hmt F B hj hb neg) h1 h2 hmk) fun σ H Q ⟨Tm, F0, env, S, q⟩ => ⟨Tm, F0, env, S, ?_⟩
  refine contO_at (R := fun v H' => ∃ w, v = .bl w ∧ Q w H') hm ?_
  exact q.mono fun w H' z => ⟨w, rfl, z⟩
/-! ### len(o) -/
def lenO (ci n : Nat) (d : SM) (m : Nat) (f1 : M T) : M T := M.bind f1 fun t env => if isCi ci t = true then (match callA n d m [.fz t] env with
  | .ok (.fz (.int i)) e => if 0 ≤ i ∧ i < 2 ^ 63 then .ok (.int i) e else .no
  | _ => .no) else .no
theorem call_lenO (hmt : Meth C.X.K (C.ca ci) "__len__" f) (F : FnC C k f fd ps m d) (B : Bk C j) (hj : k + 1 ≤ j) (hb : Binds C.X.K fd ps []) :
    CallR C.X (.builtin "len") (fun xs H Q => ∃ a dx vs, xs = [.ref a] ∧ H a = some (.ins (C.ca ci) dx vs) ∧ spT C.G ps.length m d xs H (fun v H2 => ∃ i : Int, v = .int i ∧ (0 ≤ i ∧ i < 2 ^ 63) ∧ Q (.int i) H2) (fun _ _ _ => False)) := by
  intro pins s σ H xs us Q I rx h
  obtain ⟨a, dx, vs, rfl, ha, hsp⟩ := h
  obtain ⟨j', rfl⟩ : ∃ j', j = j' + 1 := ⟨j - 1, by omega⟩
  cases rx with
  | cons r1 r2 =>
  cases r2
  cases r1
  obtain ⟨mA, J, _⟩ := ins_get I.hok ha
  obtain ⟨od, J, _⟩ := J.look
  obtain ⟨m', hF⟩ := I.fr
  have hl : [Value.ref a].length = ps.length := by rw [← hsp.1]; rfl
  have r2 : Vals [V.ref a] [Value.ref a] := .cons rfl .nil
  refine PySem.W.len_K hF I.ok.mod.kin J hmt.at_ hmt.fn (wpAny_call (codeAny_mono ((F.up (by omega : k ≤ j')).go B.room.in1 B.grd I.env0.in1 (by
      have := hb s [.ref a] I.kIn (by simpa using hl)
      simpa using this) r2 hsp) fun r s' hq => ?_))
  match r, hq with
  | .error e, hq => exact B.tk _ _ (XE.of_call I (fun _ _ _ z => False.elim z) hq)
  | .ok (.ret w), hq =>
    obtain ⟨z, H', I', rz, i, ez, hi, q⟩ := I.after hq
    subst ez
    obtain ⟨t, rfl⟩ := rz
    exact ⟨hi, .int i, H', I'.kept (t' := s'.toks + 1) (fun b o e => e), ⟨_, rfl⟩, q⟩
  | .ok .next, hq => exact False.elim hq
  | .ok .brk, hq => exact False.elim hq
  | .ok .cont, hq => exact False.elim hq
theorem ev_lenO {p : Pos} (hmt : Meth C.X.K (C.ca ci) "__len__" f) (F : FnC C k f fd ps m d) (B : Bk C j) (hj : k + 1 ≤ j) (hm : ps.length ≤ m) (hb : Binds C.X.K fd ps []) (hg : Gl C.X "len") (hmg : C.X.mg "len" = none) (h1 : EvT C a f1)
    (he : starEach [a] C.X.env = (false, eval a C.X.env) :: starEach [] C.X.env := by rfl) (hpl : (backTo pos (starEach [] C.X.env)).any (·.1) = false := by rfl) :
    EvT C (.Call (.Name "len" p) [a] [] pos) (lenO ci ps.length d m f1) := by
  refine pe_imp (pe_callB (call_lenO hmt F B hj hb) hg hmg rfl (pa_cons h1 pa_nil he) (by decide) (by decide) he hpl) fun σ H Q ⟨Tm, F0, env, S, q⟩ => ⟨Tm, F0, env, S, ?_⟩
  refine At.bind (R' := TR C.G) (Q' := Q) q fun t env1 x F1 H1 le1 S1 r1 q1 => ?_
  split at q1
  case isFalse => exact q1.elim
  rename_i hc
  obtain ⟨a, dx, vs, ex, ha⟩ := ci_at S1 r1 hc
  refine ⟨a, dx, vs, by rw [ex], ha, ?_⟩
  refine call_sp (C := ⟨C.X, C.ca, fun _ _ _ _ => False⟩) (Q := fun v H2 => ∃ i : Int, v = .int i ∧ (0 ≤ i ∧ i < 2 ^ 63) ∧ Q (.int i) H2) hm S1 (as := [.fz t]) ⟨x, [], rfl, r1, rfl⟩ ?_
  cases ec : callA ps.length d m [.fz t] env1 with
  | no =>
    rw [ec] at q1
    exact q1.elim
  | ex c fs e' =>
    rw [ec] at q1
    exact q1.elim
  | ok r e' =>
    rw [ec] at q1
    cases r with
    | ow t => exact q1.elim
    | bo i => exact q1.elim
    | fz w =>
      cases w <;> first | exact q1.elim | skip
      dsimp only at q1
      split at q1
      case isFalse => exact q1.elim
      rename_i hi
      intro z F' H' le S' rz
      exact ⟨_, rep_int rz, hi, q1 _ F' H' le S' (mk_int _)⟩
/-! ### o op u -/
def isIn (cs : List Nat) : T → Bool
  | .ins c _ => cs.contains c
  | _ => false
def binM (ci : Nat) (cs : List Nat) (n : Nat) (d : SM) (m : Nat) (f1 f2 : M T) : M Rv := M.bind f1 fun t => M.bind f2 fun u => if isCi ci t = true ∧ (isCi ci u = true ∨ isIn cs u = true) then callA n d m [.fz t, .fz u] else M.no
theorem in_at {cs : List Nat} {Tm : Amb} {F H : Hp} {σ : St} {env : Env} {t : T} {x : V} (S : Sok C.G Tm F H σ env) (r : Rep C.G F t x) (h : isIn cs t = true) : ∃ q ∈ cs, ∃ a dx vs, x = .ref a ∧ H a = some (.ins (C.ca q) dx vs) := by
  cases t <;> first | (cases h; done) | skip
  rename_i c fs
  have e : c ∈ cs := by simpa [isIn] using h
  obtain ⟨a, dx, vs, ex, ha, _⟩ := rep_ins r
  rcases S.sub _ _ ha with q | ⟨q, _⟩
  · exact ⟨c, e, a, dx, vs, ex, q⟩
  · cases q
theorem ev_binO {op : Operator} {nm : Str} {cs : List Nat} (hn : PySem.dunder op.info.2 = nm) (o1 : PySem.fastLookup "object" (PySem.dunder op.info.2) = some none) (o2 : PySem.fastLookup "object" (dunderR op.info.2) = some none)
    (hsf : PySem.W.selfFirst C.X.K (C.ca ci) = true) (hcs : ∀ q ∈ cs, EvOp.noNum C.X.K (C.ca q) op.info.2 = true ∧ C.ca ci ≠ C.ca q) (hmt : Meth C.X.K (C.ca ci) nm f) (F : FnC C k f fd ps m d) (B : Bk C j) (hj : k ≤ j) (hm : ps.length ≤ m) (hb : Binds C.X.K fd ps []) (h1 : EvT C a f1) (h2 : EvT C b f2) :
    EvE C (.BinOp a op b pos) (binM ci cs ps.length d m f1 f2) := by
  subst hn
  refine ⟨fun pins s σ H Q I ⟨Tm, F0, env, S, q⟩ => ?_⟩
  have q1 : tG C (TR C.G) f1 σ H fun x H1 => tG C (TR C.G) f2 σ H1 fun y H2 => ∃ a dx vs, x = .ref a ∧ H2 a = some (.ins (C.ca ci) dx vs) ∧ (∃ b cb dy ws, y = .ref b ∧ H2 b = some (.ins cb dy ws) ∧ (cb = C.ca ci ∨ (EvOp.noNum C.X.K cb op.info.2 = true ∧ C.ca ci ≠ cb))) ∧ spT C.G ps.length m d [x, y] H2 Q (fun cls dd H' => C.W cls dd σ H') := by
    refine ⟨Tm, F0, env, S, At.bind (R' := RvR C.G) (Q' := Q) q fun t env1 x F1 H1 le1 S1 r1 q2 => ⟨Tm, F1, env1, S1, ?_⟩⟩
    refine At.bind (R' := RvR C.G) (Q' := Q) q2 fun u env2 y F2 H2 le2 S2 r2 q3 => ?_
    split at q3
    case isFalse => exact q3.elim
    rename_i hc
    have rt := Rep.mono le2 t r1
    obtain ⟨a, dx, vs, ex, ha⟩ := ci_at S2 rt hc.1
    refine ⟨a, dx, vs, ex, ha, ?_, call_sp hm S2 (as := [.fz t, .fz u]) ⟨x, [y], rfl, rt, y, [], rfl, r2, rfl⟩ q3⟩
    rcases hc.2 with h | h
    · obtain ⟨b, dy, ws, ey, hb⟩ := ci_at S2 r2 h
      exact ⟨b, _, dy, ws, ey, hb, .inl rfl⟩
    · obtain ⟨q, hq, b, dy, ws, ey, hb⟩ := in_at S2 r2 h
      exact ⟨b, _, dy, ws, ey, hb, .inr (hcs q hq)⟩
  refine wpAny_BinOp (thn (h1.run pins s σ H _ I q1) fun v s1 ⟨x, H1, I1, rx, q2⟩ => thn (h2.run pins s1 σ H1 _ I1 q2) fun u s2 ⟨y, H2, I2, ry, a, dx, vs, ex, ha, ⟨b, cb, dy, ws, ey, hb', hcb⟩, hsp⟩ => ?_)
  subst ex ey
  obtain rfl : v = Value.ref a := rx
  obtain rfl : u = Value.ref b := ry
  obtain ⟨mA, J, _⟩ := ins_get I2.hok ha
  obtain ⟨od, J, _⟩ := J.look
  obtain ⟨mB, J', _⟩ := ins_get I2.hok hb'
  obtain ⟨od', J', _⟩ := J'.look
  obtain ⟨m', hF⟩ := I2.fr
  have fin : wpAny (model C.X.prog C.X.w) C.X.A (call (.ref f) [.ref a, .ref b]) (PySem.W.CmpBack (EP C.X pins σ Q)) C.X.xe s2 := by
    have hl : [Value.ref a, Value.ref b].length = ps.length := by rw [← hsp.1]; rfl
    have r2 : Vals [V.ref a, V.ref b] [Value.ref a, Value.ref b] := .cons rfl (.cons rfl .nil)
    refine wpAny_call (codeAny_mono ((F.up hj).go B.room B.grd I2.env0 (by
      have := hb s2 [.ref a, .ref b] I2.kIn (by simpa using hl)
      simpa using this) r2 hsp) fun r s' hq => ?_)
    match r, hq with
    | .error e, hq => exact B.tk _ _ (XE.of_call I2 (fun _ _ _ z => z) hq)
    | .ok (.ret w), hq =>
      obtain ⟨z, H', I', rz, q⟩ := I2.after hq
      have back : EP C.X pins σ Q w s' := ⟨z, H', I', rz, q⟩
      cases w <;> first | exact back | skip
      cases z <;> first | (cases rz; done) | (obtain ⟨_, rz⟩ := rz; cases rz; done)
    | .ok .next, hq => exact False.elim hq
    | .ok .brk, hq => exact False.elim hq
    | .ok .cont, hq => exact False.elim hq
  rcases hcb with h | ⟨h, hne⟩
  · subst h
    exact PySem.W.binop_K hF I2.ok.mod.kin J J'.type hsf hmt.at_ hmt.fn fin
  · exact EvOp.binop_L hF I2.ok.mod.kin J J'.type hne hsf h o1 o2 hmt.at_ hmt.fn fin
end
end Ev
/-! Ev52: a def with *rest; C(*xs), C(a, b) of such; [*xs, *ys]. -/
namespace Ev
open PySem PySem.Spec L2
/-- a def f(ps, *rest) keeps to d -/
structure FnS (P : Program) (w : World) (K : PySem.W.Frag) (mg : Str → Option Value) (base : Heap) (ca : Nat → Addr) (k : Nat) (f : Addr) (n : Nat) (m : Nat) (d : SM) : Prop where
  go : ∀ {A : Around} {outer : List PySem.Env} {s : Shared} {H : Hp} {us rest : List Value} {vs ws : List V} {Q : VK} {E : XK}, Room k A → A.guards = some [] → Env0 P w K mg base A outer s H →
    Vals vs us → Vals ws rest → vs.length = n → ws.length ≤ sizeLine → (∀ p, H p = none → spT ⟨K, ca⟩ (n + 1) m d (vs ++ [.ref p]) (upd H p (.tup ws)) Q E) →
    codeAny (model P w) A (.call (.ref f) ⟨us ++ rest, []⟩) (CR (L2.CX P w) outer P w H s Q E) s
section
variable {P : Program} {w : World} {K : PySem.W.Frag} {mg : Str → Option Value} {base : Heap} {ca : Nat → Addr} {k n : Nat} {f : Addr} {fd : FuncData} {ps : List Str} {m : Nat} {d : SM}
theorem FnS.up {j : Nat} (F : FnS P w K mg base ca j f n m d) (h : j ≤ k) : FnS P w K mg base ca k f n m d := ⟨fun r g e b v l z s => F.go (r.mono h) g e b v l z s⟩
theorem fnS_body {x qual pv : Str} {params : Arguments} {body : List Stmt} {scope : Scope} {kws : List (Str × V)} {N : List Str} (F : FunD K x qual params body scope [] kws f fd) (S : FnScope N (ps ++ [pv]) scope) (hm : N.length = m) (hn : ps.length = n)
    (hbind : ∀ (kV doc pm : Value) (an : Option Addr) (cdv ct : Value) (us rest : List Value), us.length = ps.length → bindArgs (PySem.W.fnOf x qual params body scope .none kV doc pm an cdv ct) ⟨us ++ rest, []⟩ = (newTuple rest >>= fun t => pure (ps.zip us ++ [(pv, t)])))
    (hb : ∀ (cd : Value) (A : Around) (outer : List PySem.Env) (s : Shared) (H : Hp) (E : XK), Bod (cyOf P w K mg base ca N qual scope f cd A outer s H E) k → EvSs (cyOf P w K mg base ca N qual scope f cd A outer s H E) body d) :
    FnS P w K mg base ca (k + 1) f n m d := by
  obtain ⟨oc, od, dV, kV, doc, pm, an, cdv, ct, osl, rfl, lk, hcd, hD, _⟩ := F.ex
  obtain rfl : dV = Value.none := by
    rcases hD with ⟨_, e⟩ | ⟨e, _⟩
    · exact e
    · exact absurd rfl e
  subst hn
  refine ⟨fun {A outer s H us rest vs ws Q E} hr hg e0 r1 r2 hl hz hsp => ?_⟩
  have hn : H s.heap.objs.size = Option.none := e0.hok.fresh (Nat.le_refl _)
  have hl1 : us.length = ps.length := by rw [← r1.length]; exact hl
  have hl2 : rest.length ≤ sizeLine := by rw [← r2.length]; exact hz
  refine StX.run_bnd lk hcd S hr e0 (G := fun xs H2 => ∃ p, H p = Option.none ∧ xs = vs ++ [V.ref p] ∧ H2 = upd H p (.tup ws)) (fun A' Ex Q' h => ?_) fun s2 H2 xs ⟨p, hp, ex, eH⟩ hr' => ?_
  · rw [hbind kV doc pm an cdv ct us rest hl1]
    refine wpAny_bind (wpAny_newTuple (wpAny_pure ?_) hl2)
    have new : ObjOk P w (upd H s.heap.objs.size (.tup ws)) (s.heap.push ({ cls := .type "tuple", data := .seq rest.toArray } : Obj)) s.heap.objs.size (.tup ws) := ⟨hz, rest, r2, ⟨_, Heap.get?_push_size _ rfl, rfl, _, rfl⟩⟩
    have un := StX.un_laid (fs := frs outer) (s := s) (o := ({ cls := .type "tuple", data := .seq rest.toArray } : Obj)) (u := .tup ws) hn
    have z := h _ _ (vs ++ [V.ref s.heap.objs.size]) (us ++ [Value.ref s.heap.objs.size]) (StX.env0_laid e0 new) un rfl (fun e s' => StX.cxUp outer s H _ _ E e s' un (fun b o q => Heap.get?_push_of_some _ q) rfl) (r1.append (.cons rfl .nil))
      (by rw [List.length_append, List.length_append, hl] <;> rfl) ⟨_, hn, rfl, rfl⟩
    rw [List.zip_append hl1.symm] at z
    exact z
  · subst ex eH
    obtain ⟨hl3, Tm, FF, env, Sk, q⟩ := hsp p hp
    have B : Bod (cyOf P w K mg base ca N qual scope f cdv A outer s2 (upd H p (.tup ws)) E) k := {
      room := hr'
      grd := hg
      tk := takes_of rfl rfl rfl rfl
      own := passes_of rfl
      calm := rfl
      stk := rfl
      frm := rfl }
    have es : L2.start N (vs ++ [V.ref p]) = st0 m (vs ++ [V.ref p]) := by
      unfold L2.start st0
      rw [hm]
    refine ⟨_, hb cdv A outer s2 _ E B, Tm, FF, env, by rw [es]; exact Sk, ?_⟩
    revert q
    cases d env with
    | nx e => exact fun q => q
    | rt r e => exact fun q => q
    | ex c fs e => exact fun q => q
    | bk e => exact fun q => q.elim
    | ct e => exact fun q => q.elim
    | no => exact fun q => q.elim
end
/-! ### C(..) of a class whose __init__ has a *rest -/
theorem upd_three {H : Hp} {a b c : Addr} {o u v : HO} (h1 : c ≠ a) (h2 : c ≠ b) : upd (upd (upd H a o) b u) c v = upd (upd (upd H c v) a o) b u := by
  funext y
  unfold upd
  by_cases hc : y = c
  · subst hc
    simp [h1, h2]
  · simp [hc]
def makeV (ci : Nat) (d : SM) (m : Nat) (ts : List T) : M Rv := if ts.length ≤ sizeLine then makeA ci 2 d m [.fz (.tup ts)] else M.no
section
variable {C : Cy} {k j ci : Nat} {f : Addr} {m : Nat} {d : SM}
abbrev FnSC (C : Cy) (k : Nat) (f : Addr) (n m : Nat) (d : SM) : Prop := FnS C.X.prog C.X.w C.X.K C.X.mg C.X.base C.ca k f n m d
theorem makeV_sp {σ : St} {H : Hp} {Q : VK} {ws : List V} {Tm : Amb} {F0 : Hp} {env : Env} {ts : List T} (hm : 2 ≤ m) (S : Sok C.G Tm F0 H σ env) (rl : RepL C.G F0 ts ws)
    (q : At C (RvR C.G) Tm F0 σ Q (makeA ci 2 d m [.fz (.tup ts)] env)) {x dx p : Addr} (nx : H x = none) (nd : H dx = none) (ne : dx ≠ x) (np : upd (upd H dx (.own x)) x (.ins (C.ca ci) dx []) p = none) :
    spT C.G 2 m d [.ref x, .ref p] (upd (upd (upd H dx (.own x)) x (.ins (C.ca ci) dx [])) p (.tup ws)) (fun v H2 => v = .non ∧ Q (.ref x) H2) (fun cls dd H' => C.W cls dd σ H') := by
  have hpx : p ≠ x := fun z => by rw [z, upd_same] at np; cases np
  rw [upd_ne hpx] at np
  have hpd : p ≠ dx := fun z => by rw [z, upd_same] at np; cases np
  rw [upd_ne hpd] at np
  rw [upd_three hpd hpx]
  have le := Le.upd (o := .tup ws) (S.new np).1
  have S1 := S.allocF (o := .tup ws) np
  refine make_sp hm S1 (as := [.fz (.tup ts)]) (vs := [.ref p]) ⟨_, [], rfl, ?_, rfl⟩ (At.weak le q) (by rw [upd_ne (Ne.symm hpx)]; exact nx) (by rw [upd_ne (Ne.symm hpd)]; exact nd) ne
  show Rep C.G _ (.tup ts) (.ref p)
  simp only [Rep]
  exact ⟨p, _, rfl, .inl (.inl upd_same), RepL.mono le _ rl⟩
theorem makeV_run (M : Mk C.X.K (C.ca ci) f) (F : FnSC C k f 1 m d) (B : Bk C (k + 1)) {pins : List (Addr × Obj)} {s : Shared} {σ : St} {H : Hp} {Q : VK} {us : List Value} {ws : List V} (I : Inv C.X pins σ H s) (rv : Vals ws us) (hz : ws.length ≤ sizeLine)
    (h : ∀ x dx p, H x = none → H dx = none → dx ≠ x → upd (upd H dx (.own x)) x (.ins (C.ca ci) dx []) p = none → spT C.G 2 m d [.ref x, .ref p] (upd (upd (upd H dx (.own x)) x (.ins (C.ca ci) dx [])) p (.tup ws)) (fun v H2 => v = .non ∧ Q (.ref x) H2) (fun cls dd H' => C.W cls dd σ H')) :
    wpAny (model C.X.prog C.X.w) C.X.A (call (.ref (C.ca ci)) us) (EP C.X pins σ Q) C.X.xe s := by
  have hq := fun p => h (s.heap.objs.size + 1) s.heap.objs.size p (I.hok.fresh (Nat.le_succ _)) (I.hok.fresh (Nat.le_refl _)) (Nat.ne_of_lt (Nat.lt_succ_self _))
  have I2 := Inv.made (C := C.ca ci) I
  refine wpAny_call (make_map (f := f) I.kIn M.makes M.init (beq_iff_eq.mp M.fn) (codeAny_mono (F.go (us := [Value.ref (s.heap.objs.size + 1)]) (vs := [V.ref (s.heap.objs.size + 1)]) (B.room.make (C.ca ci) us []) B.grd (I2.env0.make (C.ca ci) us []) (.cons rfl .nil) rv rfl hz fun p np => hq p np) fun r s' hq' => ?_))
  match r, hq' with
  | .error e, hq' => exact B.tk _ _ (XE.of_call I2 (fun _ _ _ z => z) hq')
  | .ok (.ret u), hq' =>
    obtain ⟨v, H', I3, rv, ev, q3⟩ := I2.after hq'
    subst ev
    exact ⟨rv, ⟨V.ref (s.heap.objs.size + 1), H', I3, rfl, q3⟩⟩
  | .ok .next, hq' => exact False.elim hq'
  | .ok .brk, hq' => exact False.elim hq'
  | .ok .cont, hq' => exact False.elim hq'
variable {x : Str} {p pos sp : Pos} {e : Expr} {es : List Expr} {fa : M (List T)} {fr : M Rv}
/-- C(a, ..) -/
theorem ev_makeV (MK : Mk C.X.K (C.ca ci) f) (F : FnSC C k f 1 m d) (B : Bk C j) (hj : k + 1 ≤ j) (hm : 2 ≤ m) (hg : Gl C.X x) (hx : C.X.mg x = some (.ref (C.ca ci))) (ha : EvA C (e :: es) fa)
    (hdb : (x == ("__debug__" : Str)) = false := by decide +kernel) (he : starEach (e :: es) C.X.env = (false, eval e C.X.env) :: starEach es C.X.env := by rfl) (hpl : (backTo pos (starEach es C.X.env)).any (·.1) = false := by rfl) :
    EvE C (.Call (.Name x p) (e :: es) [] pos) (M.bind fa fun ts => makeV ci d m ts) := by
  obtain ⟨j', rfl⟩ : ∃ j', j = j' + 1 := ⟨j - 1, by omega⟩
  refine ⟨fun pins s σ H Q I ⟨Tm, F0, env, S, q⟩ => ?_⟩
  refine wpAny_Call_Name_kw (ld_glob I hg hx ?_ hdb)
  have q1 : tG C (TLR C.G) fa σ H fun vs H1 => vs.length ≤ sizeLine ∧ ∀ x dx p, H1 x = none → H1 dx = none → dx ≠ x → upd (upd H1 dx (.own x)) x (.ins (C.ca ci) dx []) p = none → spT C.G 2 m d [.ref x, .ref p] (upd (upd (upd H1 dx (.own x)) x (.ins (C.ca ci) dx [])) p (.tup vs)) (fun v H2 => v = .non ∧ Q (.ref x) H2) (fun cls dd H' => C.W cls dd σ H') := by
    refine ⟨Tm, F0, env, S, At.bind (R' := RvR C.G) (Q' := Q) q fun ts env1 xs F1 H1 le1 S1 r1 q2 => ?_⟩
    unfold makeV at q2
    by_cases hz : ts.length ≤ sizeLine
    · rw [if_pos hz] at q2
      exact ⟨by rw [r1.length]; exact hz, fun x dx p nx nd ne np => makeV_sp hm S1 r1 q2 nx nd ne np⟩
    · rw [if_neg hz] at q2
      exact q2.elim
  refine PySem.W.callWith_K (h₀ := C.X.base) I.ok.mod.kin MK.kp (thn (ha.run pos pins s σ H _ I q1) fun us s1 ⟨vs, H1, I1, r, hz, h⟩ => ⟨I1.kIn, ?_⟩) he hpl
  exact makeV_run MK (F.up (by omega)) B I1 r hz h
/-- C() -/
theorem ev_makeV0 (MK : Mk C.X.K (C.ca ci) f) (F : FnSC C k f 1 m d) (B : Bk C j) (hj : k + 1 ≤ j) (hm : 2 ≤ m) (hg : Gl C.X x) (hx : C.X.mg x = some (.ref (C.ca ci)))
    (hdb : (x == ("__debug__" : Str)) = false := by decide +kernel) : EvE C (.Call (.Name x p) [] [] pos) (makeV ci d m []) := by
  obtain ⟨j', rfl⟩ : ∃ j', j = j' + 1 := ⟨j - 1, by omega⟩
  refine ⟨fun pins s σ H Q I ⟨Tm, F0, env, S, q⟩ => ?_⟩
  refine wpAny_Call_Name_kw (ld_glob I hg hx ?_ hdb)
  have q2 : At C (RvR C.G) Tm F0 σ Q (makeA ci 2 d m [.fz (.tup [])] env) := q
  exact PySem.W.callWith_K0 I.kIn MK.kp (makeV_run (us := []) (ws := []) MK (F.up (by omega)) B I .nil (Nat.zero_le _) fun x dx p nx nd ne np => makeV_sp hm S .nil q2 nx nd ne np)
/-- C(*xs) -/
def makeSt (ci : Nat) (d : SM) (m : Nat) (fr : M Rv) : M Rv := M.bind fr fun r env => match seqOf r env with
  | some ts => makeA ci 2 d m [.fz (.tup ts)] env
  | none => .no
theorem SeqIn.sq {Tm : Amb} {F H : Hp} {σ : St} {env : Env} {ts : List T} {y : V} (S : Sok C.G Tm F H σ env) (h : SeqIn C.G F σ env ts y) : ∃ a xs, y = .ref a ∧ (SqT C.X.K H a xs ∨ SqL C.X.K H a xs) ∧ RepL C.G F ts xs := by
  rcases h with h | h | ⟨i, hi, ow⟩
  · obtain ⟨a, xs, e, hq, rl⟩ := rep_tup h
    exact ⟨a, xs, e, .inl (S.sqT hq), rl⟩
  · obtain ⟨a, xs, e, hq, rl⟩ := rep_lst h
    exact ⟨a, xs, e, .inr (S.lstAt hq).sq, rl⟩
  · obtain ⟨s0, e0, k0⟩ := ow.get
    obtain ⟨z, hz, ok⟩ := S.slot i _ e0
    obtain ⟨a, o, ez, ha, fa, top⟩ := ok.own k0
    rw [hi] at hz
    cases hz
    cases ez
    obtain ⟨xs, eo, rl⟩ := top
    subst eo
    exact ⟨a, xs, rfl, .inr (.inl (.inl ha)), rl⟩
theorem sq_len {pins : List (Addr × Obj)} {σ : L2.St} {H : Hp} {s : Shared} {a : Addr} {xs : List V} (I : Inv C.X pins σ H s) (h : SqT C.X.K H a xs ∨ SqL C.X.K H a xs) : xs.length ≤ sizeLine := by
  rcases h with h | h
  · obtain ⟨_, _, _, z⟩ := I.tuple h
    exact z
  · obtain ⟨_, _, _, z⟩ := I.list h
    exact z
theorem ev_makeSt (MK : Mk C.X.K (C.ca ci) f) (F : FnSC C k f 1 m d) (B : Bk C j) (hj : k + 1 ≤ j) (hm : 2 ≤ m) (hg : Gl C.X x) (hx : C.X.mg x = some (.ref (C.ca ci))) (he : EvH C e fr)
    (hdb : (x == ("__debug__" : Str)) = false := by decide +kernel) (hst : starEach [.Starred e sp] C.X.env = [(true, eval e C.X.env)] := by rfl) :
    EvE C (.Call (.Name x p) [.Starred e sp] [] pos) (makeSt ci d m fr) := by
  obtain ⟨j', rfl⟩ : ∃ j', j = j' + 1 := ⟨j - 1, by omega⟩
  refine ⟨fun pins s σ H Q I ⟨Tm, F0, env, S, q⟩ => ?_⟩
  refine wpAny_Call_Name_kw (ld_glob I hg hx ?_ hdb)
  have q1 : tG C (HoR C.G) fr σ H fun y H1 => ∃ a vs, y = .ref a ∧ (SqT C.X.K H1 a vs ∨ SqL C.X.K H1 a vs) ∧ ∀ x dx p, H1 x = none → H1 dx = none → dx ≠ x → upd (upd H1 dx (.own x)) x (.ins (C.ca ci) dx []) p = none → spT C.G 2 m d [.ref x, .ref p] (upd (upd (upd H1 dx (.own x)) x (.ins (C.ca ci) dx [])) p (.tup vs)) (fun v H2 => v = .non ∧ Q (.ref x) H2) (fun cls dd H' => C.W cls dd σ H') := by
    refine ⟨Tm, F0, env, S, At.bind (R' := RvR C.G) (Q' := Q) q fun r env1 y F1 H1 le1 S1 r1 q2 => ?_⟩
    split at q2
    case h_2 => exact q2.elim
    rename_i ts hts
    obtain ⟨a, xs, ey, hq, rl⟩ := (seqOf_ok S1 r1 hts).sq S1
    exact ⟨a, xs, ey, hq, fun x dx p nx nd ne np => makeV_sp hm S1 rl q2 nx nd ne np⟩
  refine PySem.W.callWith_S (h₀ := C.X.base) I.ok.mod.kin MK.kp (thn (he.run pins s σ H _ I q1) fun v s1 ⟨y, H1, I1, ry, a, xs, ey, hxs, h⟩ => ?_) hst
  subst ey
  obtain rfl : v = Value.ref a := ry
  exact StX.star_any I1 hxs fun us s2 I2 rv => ⟨I2.kIn, makeV_run MK (F.up (by omega)) B I2 rv (sq_len I2 hxs) h⟩
/-! ### [*xs, *ys] -/
def starA (fr : M Rv) (fa : M (List T)) : M (List T) := M.bind fr fun r env => match seqOf r env with
  | some ts => (M.bind fa fun us => M.pure (ts ++ us)) env
  | none => .no
theorem ea_star {f : M (List T)} (he : EvH C e fr) (hr : EvA C es f) (hs : starEach (.Starred e sp :: es) C.X.env = (true, eval e C.X.env) :: starEach es C.X.env := by rfl) : EvA C (.Starred e sp :: es) (starA fr f) := by
  refine pa_imp (StX.pa_star he hr hs) fun σ H Q ⟨Tm, F, env, S, q⟩ => ⟨Tm, F, env, S, ?_⟩
  refine At.bind (R' := TLR C.G) (Q' := Q) q fun r env1 y F1 H1 le1 S1 r1 q1 => ?_
  split at q1
  case h_2 => exact q1.elim
  rename_i ts hts
  obtain ⟨a, xs, ey, hq, rl⟩ := (seqOf_ok S1 r1 hts).sq S1
  refine ⟨a, xs, ey, hq, Tm, F1, env1, S1, ?_⟩
  refine At.bind (R' := TLR C.G) (Q' := Q) q1 fun us env2 ys F2 H2 le2 S2 r2 q2 => ?_
  exact q2 _ F2 H2 Le.rfl S2 ((RepL.mono le2 _ rl).append r2)
end
end Ev
/-! Ev53: x in xs of plain data. -/
namespace Ev
open PySem PySem.Spec L2
section
variable {C : Cy}
def rInD (C : Cy) (neg : Bool) : R2 := fun x y H Q => ∃ d es, Dp C.X.K H x d ∧ (Dp C.X.K H y (.list es) ∨ Dp C.X.K H y (.tuple es)) ∧ d.plain = true ∧ PyData.plainAll es = true ∧ min (PyData.depthAll es) d.depth ≤ 100 ∧ Q (.bl ((es.any fun e => PyData.eqv e d) != neg)) H
theorem op_inD (hu : Rm C) (neg : Bool) : OpR C.X (compareOp (if neg = true then .NotIn else .In)) (rInD C neg) := by
  intro pins s σ H x y v u Q I rx ry h
  obtain ⟨d, es, hd, he, sd, se, hm, q⟩ := h
  obtain ⟨as, r1⟩ := Dp.reads I d x v hd rx
  have hr : C.X.A.units + 1 + min (PyData.depthAll es) d.depth < cLine := by have := hu; omega
  have fin : EP C.X pins σ Q (.bool ((es.any fun e => PyData.eqv e d) != neg)) s := ⟨.bl _, H, I, rfl, q⟩
  rcases he with he | he
  · obtain ⟨bs, r2⟩ := Dp.reads I _ y u he ry
    cases neg with
    | false => exact PySem.SeqAt.in_list_data r2 r1 se sd hr (by simpa using fin)
    | true => exact PySem.SeqAt.notIn_list_data r2 r1 se sd hr (by simpa using fin)
  · obtain ⟨bs, r2⟩ := Dp.reads I _ y u he ry
    cases neg with
    | false => exact PySem.SeqAt.in_tuple_data r2 r1 se sd hr (by simpa using fin)
    | true => exact PySem.SeqAt.notIn_tuple_data r2 r1 se sd hr (by simpa using fin)
def inDL (t : T) (us : List T) : Option Bool := if (toD t).plain = true ∧ PyData.plainAll (toDs us) = true ∧ min (PyData.depthAll (toDs us)) (toD t).depth ≤ 100 then some ((toDs us).any fun e => PyData.eqv e (toD t)) else none
def inDT : T → T → Option Bool
  | t, .tup us => inDL t us
  | t, .lst us => inDL t us
  | _, _ => none
def ninDT (t u : T) : Option Bool := (inDT t u).map not
theorem inD_row {Tm : Amb} {F H : Hp} {σ : St} {env : Env} {x y : V} {t u : T} {w : Bool} (S : Sok C.G Tm F H σ env) (p1 : Pk C.G F H t x) (p2 : Pk C.G F H u y) (hw : inDT t u = some w) :
    ∃ d es, Dp C.X.K H x d ∧ (Dp C.X.K H y (.list es) ∨ Dp C.X.K H y (.tuple es)) ∧ d.plain = true ∧ PyData.plainAll es = true ∧ min (PyData.depthAll es) d.depth ≤ 100 ∧ (es.any fun e => PyData.eqv e d) = w := by
  cases u <;> first | (cases t <;> cases hw; done) | skip
  · rename_i us
    have hw' : inDL t us = some w := hw
    unfold inDL at hw'
    split at hw'
    case isFalse => cases hw'
    rename_i h
    cases hw'
    refine ⟨_, _, p1.dp S h.1, .inr ?_, h.1, h.2.1, h.2.2, rfl⟩
    have := p2.dp S (by simpa only [toD, PyData.plain] using h.2.1)
    simpa only [toD] using this
  · rename_i us
    have hw' : inDL t us = some w := hw
    unfold inDL at hw'
    split at hw'
    case isFalse => cases hw'
    rename_i h
    cases hw'
    refine ⟨_, _, p1.dp S h.1, .inl ?_, h.1, h.2.1, h.2.2, rfl⟩
    have := p2.dp S (by simpa only [toD, PyData.plain] using h.2.1)
    simpa only [toD] using this
theorem ok_inD (hu : Rm C) : CmpOk C .In inDT := by
  refine ⟨_, op_inD hu false, fun {Tm F H σ env x y t u w Q} S p1 p2 hw q => ?_⟩
  obtain ⟨d, es, h1, h2, h3, h4, h5, e⟩ := inD_row S p1 p2 hw
  refine ⟨d, es, h1, h2, h3, h4, h5, ?_⟩
  rw [e]
  simpa using q
theorem ok_ninD (hu : Rm C) : CmpOk C .NotIn ninDT := by
  refine ⟨_, op_inD hu true, fun {Tm F H σ env x y t u w Q} S p1 p2 hw q => ?_⟩
  obtain ⟨b, hb, e0⟩ := Option.map_eq_some_iff.mp hw
  obtain ⟨d, es, h1, h2, h3, h4, h5, e⟩ := inD_row S p1 p2 hb
  refine ⟨d, es, h1, h2, h3, h4, h5, ?_⟩
  rw [e]
  have : (b != true) = w := by rw [← e0]; cases b <;> rfl
  rw [this]
  exact q
end
/-! ### what never comes -/
theorem ev_never {C : Cy} {e : Expr} : EvE C e M.no := ⟨fun pins s σ H Q I ⟨Tm, F, env, S, q⟩ => q.elim⟩
end Ev
/-! Ev54: an own list, lent: frozen while an expression runs, one's own again behind it. -/
namespace Ev
open PySem PySem.Spec L2
mutual
/-- no list in it -/
def noL : T → Bool
  | .lst _ => false
  | .tup ts => noLs ts
  | .dK kvs => noLk kvs
  | .dT kvs => noLd kvs
  | .ins _ fs => noLf fs
  | .exc _ _ => false
  | _ => true
def noLs : List T → Bool
  | [] => true
  | t :: r => noL t && noLs r
def noLk : List (Key × T) → Bool
  | [] => true
  | (_, t) :: r => noL t && noLk r
def noLd : List (List Key × T) → Bool
  | [] => true
  | (_, t) :: r => noL t && noLd r
def noLf : List (Str × T) → Bool
  | [] => true
  | (_, t) :: r => noL t && noLf r
end
/-- a heap without the address a -/
def off (F : Hp) (a : Addr) : Hp := fun b => if b = a then none else F b
theorem off_ne {F : Hp} {a b : Addr} (h : b ≠ a) : off F a b = F b := by unfold off; rw [if_neg h]
theorem off_same {F : Hp} {a : Addr} : off F a a = none := by unfold off; rw [if_pos rfl]
theorem off_none {F : Hp} {a b : Addr} (h : F b = none) : off F a b = none := by
  unfold off
  split
  · rfl
  · exact h
theorem off_sqT {K : PySem.W.Frag} {F : Hp} {a b : Addr} {xs ys : List V} (ha : F a = some (.lst xs)) (h : SqT K F b ys) : SqT K (off F a) b ys := by
  rcases h with (h | ⟨o, h⟩) | h
  · exact .inl (.inl (by rw [off_ne (fun z => by rw [z, ha] at h; cases h)]; exact h))
  · exact .inl (.inr ⟨o, by rw [off_ne (fun z => by rw [z, ha] at h; cases h)]; exact h⟩)
  · exact .inr h
mutual
theorem Rep.off {G : Gr} {F : Hp} {a : Addr} {xs : List V} (ha : F a = some (.lst xs)) : ∀ (t : T) {x : V}, noL t = true → Rep G F t x → Rep G (off F a) t x
  | .non, _, _, r => by simpa only [Rep] using r
  | .bl _, _, _, r => by simpa only [Rep] using r
  | .int _, _, _, r => by simpa only [Rep] using r
  | .str _, _, _, r => by simpa only [Rep] using r
  | .tup ts, _, n, r => by
    simp only [Rep] at r ⊢
    obtain ⟨b, ys, e, q, l⟩ := r
    exact ⟨b, ys, e, off_sqT ha q, RepL.off ha ts (by simpa only [noL] using n) l⟩
  | .lst ts, _, n, _ => by simp only [noL] at n; cases n
  | .dK ts, _, n, r => by
    simp only [Rep] at r ⊢
    obtain ⟨b, ys, e, q, l⟩ := r
    exact ⟨b, ys, e, by rw [off_ne (fun z => by rw [z, ha] at q; cases q)]; exact q, RepK.off ha ts (by simpa only [noL] using n) l⟩
  | .dT ts, _, n, r => by
    simp only [Rep] at r ⊢
    obtain ⟨b, ys, e, q, l⟩ := r
    exact ⟨b, ys, e, by rw [off_ne (fun z => by rw [z, ha] at q; cases q)]; exact q, RepD.off ha ts (by simpa only [noL] using n) l⟩
  | .ins c ts, _, n, r => by
    simp only [Rep] at r ⊢
    obtain ⟨b, dx, ys, e, q, l⟩ := r
    exact ⟨b, dx, ys, e, by rw [off_ne (fun z => by rw [z, ha] at q; cases q)]; exact q, RepF.off ha ts (by simpa only [noL] using n) l⟩
  | .exc _ _, _, n, _ => by simp only [noL] at n; cases n
theorem RepL.off {G : Gr} {F : Hp} {a : Addr} {xs : List V} (ha : F a = some (.lst xs)) : ∀ (ts : List T) {ys : List V}, noLs ts = true → RepL G F ts ys → RepL G (off F a) ts ys
  | [], _, _, r => by simpa only [RepL] using r
  | t :: ts, _, n, r => by
    simp only [noLs, Bool.and_eq_true] at n
    simp only [RepL] at r ⊢
    obtain ⟨x, r, e, q, l⟩ := r
    exact ⟨x, r, e, Rep.off ha t n.1 q, RepL.off ha ts n.2 l⟩
theorem RepK.off {G : Gr} {F : Hp} {a : Addr} {xs : List V} (ha : F a = some (.lst xs)) : ∀ (ts : List (Key × T)) {ys : List (Key × V)}, noLk ts = true → RepK G F ts ys → RepK G (off F a) ts ys
  | [], _, _, r => by simpa only [RepK] using r
  | (k, t) :: ts, _, n, r => by
    simp only [noLk, Bool.and_eq_true] at n
    simp only [RepK] at r ⊢
    obtain ⟨x, r, e, q, l⟩ := r
    exact ⟨x, r, e, Rep.off ha t n.1 q, RepK.off ha ts n.2 l⟩
theorem RepD.off {G : Gr} {F : Hp} {a : Addr} {xs : List V} (ha : F a = some (.lst xs)) : ∀ (ts : List (List Key × T)) {ys : List (List Key × V)}, noLd ts = true → RepD G F ts ys → RepD G (off F a) ts ys
  | [], _, _, r => by simpa only [RepD] using r
  | (k, t) :: ts, _, n, r => by
    simp only [noLd, Bool.and_eq_true] at n
    simp only [RepD] at r ⊢
    obtain ⟨x, r, e, q, l⟩ := r
    exact ⟨x, r, e, Rep.off ha t n.1 q, RepD.off ha ts n.2 l⟩
theorem RepF.off {G : Gr} {F : Hp} {a : Addr} {xs : List V} (ha : F a = some (.lst xs)) : ∀ (ts : List (Str × T)) {ys : List (Str × V)}, noLf ts = true → RepF G F ts ys → RepF G (off F a) ts ys
  | [], _, _, r => by simpa only [RepF] using r
  | (k, t) :: ts, _, n, r => by
    simp only [noLf, Bool.and_eq_true] at n
    simp only [RepF] at r ⊢
    obtain ⟨x, r, e, q, l⟩ := r
    exact ⟨x, r, e, Rep.off ha t n.1 q, RepF.off ha ts n.2 l⟩
end
/-- no list within an own object -/
def noT : T → Bool
  | .lst ts => noLs ts
  | t => noL t
theorem Top.off {G : Gr} {F : Hp} {a : Addr} {xs : List V} (ha : F a = some (.lst xs)) {o : HO} : ∀ {t : T}, noT t = true → Top G F o t → Top G (off F a) o t
  | .lst ts, n, ⟨ys, e, r⟩ => ⟨ys, e, RepL.off ha ts n r⟩
  | .dK ts, n, ⟨ys, e, r⟩ => ⟨ys, e, RepK.off ha ts (by simpa only [noT, noL] using n) r⟩
  | .dT ts, n, ⟨ys, e, r⟩ => ⟨ys, e, RepD.off ha ts (by simpa only [noT, noL] using n) r⟩
  | .ins c ts, n, ⟨dx, ys, e, r⟩ => ⟨dx, ys, e, RepF.off ha ts (by simpa only [noT, noL] using n) r⟩
def noSl : Sl → Bool
  | .un => true
  | .fz t => noL t
  | .ow t => noT t
  | .io t => noT t
mutual
/-- the same tree, surely -/
def beqT : T → T → Bool
  | .non, .non => true
  | .bl a, .bl b => a == b
  | .int a, .int b => a == b
  | .str a, .str b => decide (a = b)
  | .tup a, .tup b => beqTs a b
  | .lst a, .lst b => beqTs a b
  | .ins c a, .ins d b => c == d && beqTf a b
  | _, _ => false
def beqTs : List T → List T → Bool
  | [], [] => true
  | t :: r, u :: s => beqT t u && beqTs r s
  | _, _ => false
def beqTf : List (Str × T) → List (Str × T) → Bool
  | [], [] => true
  | (a, t) :: r, (b, u) :: s => decide (a = b) && beqT t u && beqTf r s
  | _, _ => false
end
mutual
theorem beqT_eq : ∀ (t u : T), beqT t u = true → t = u
  | .non, u, h => by cases u <;> first | rfl | (simp [beqT] at h)
  | .bl a, u, h => by cases u <;> first | (simp [beqT] at h; subst h; rfl) | (simp [beqT] at h)
  | .int a, u, h => by cases u <;> first | (simp [beqT] at h; subst h; rfl) | (simp [beqT] at h)
  | .str a, u, h => by cases u <;> first | (simp [beqT] at h; subst h; rfl) | (simp [beqT] at h)
  | .tup a, u, h => by
    cases u <;> first | (simp only [beqT] at h; rw [beqTs_eq a _ h]) | (simp [beqT] at h)
  | .lst a, u, h => by
    cases u <;> first | (simp only [beqT] at h; rw [beqTs_eq a _ h]) | (simp [beqT] at h)
  | .ins c a, u, h => by
    cases u <;> first | (simp only [beqT, Bool.and_eq_true, beq_iff_eq] at h; rw [h.1, beqTf_eq a _ h.2]) | (simp [beqT] at h)
  | .dK a, u, h => by simp [beqT] at h
  | .dT a, u, h => by simp [beqT] at h
  | .exc _ _, u, h => by simp [beqT] at h
theorem beqTs_eq : ∀ (a b : List T), beqTs a b = true → a = b
  | [], b, h => by cases b <;> first | rfl | (simp [beqTs] at h)
  | t :: r, b, h => by
    cases b with
    | nil => simp [beqTs] at h
    | cons u s =>
      simp only [beqTs, Bool.and_eq_true] at h
      rw [beqT_eq t u h.1, beqTs_eq r s h.2]
theorem beqTf_eq : ∀ (a b : List (Str × T)), beqTf a b = true → a = b
  | [], b, h => by cases b <;> first | rfl | (simp [beqTf] at h)
  | (x, t) :: r, b, h => by
    cases b with
    | nil => simp [beqTf] at h
    | cons u s =>
      obtain ⟨y, u⟩ := u
      simp only [beqTf, Bool.and_eq_true, decide_eq_true_eq] at h
      rw [h.1.1, beqT_eq t u h.1.2, beqTf_eq r s h.2]
end
mutual
/-- no dict in it -/
def noD : T → Bool
  | .dK _ => false
  | .dT _ => false
  | .tup ts => noDs ts
  | .lst ts => noDs ts
  | .ins _ fs => noDf fs
  | .exc _ _ => false
  | _ => true
def noDs : List T → Bool
  | [] => true
  | t :: r => noD t && noDs r
def noDf : List (Str × T) → Bool
  | [] => true
  | (_, t) :: r => noD t && noDf r
end
mutual
theorem beqT_self : ∀ (t : T), noD t = true → beqT t t = true
  | .non, _ => rfl
  | .bl a, _ => by simp [beqT]
  | .int a, _ => by simp [beqT]
  | .str a, _ => by simp [beqT]
  | .tup a, h => by simp only [beqT]; exact beqTs_self a (by simpa only [noD] using h)
  | .lst a, h => by simp only [beqT]; exact beqTs_self a (by simpa only [noD] using h)
  | .ins c a, h => by simp only [beqT, beq_self_eq_true, Bool.true_and]; exact beqTf_self a (by simpa only [noD] using h)
  | .dK a, h => by simp [noD] at h
  | .dT a, h => by simp [noD] at h
  | .exc _ _, h => by simp [noD] at h
theorem beqTs_self : ∀ (a : List T), noDs a = true → beqTs a a = true
  | [], _ => rfl
  | t :: r, h => by
    simp only [noDs, Bool.and_eq_true] at h
    simp only [beqTs, beqT_self t h.1, beqTs_self r h.2, Bool.and_self]
theorem beqTf_self : ∀ (a : List (Str × T)), noDf a = true → beqTf a a = true
  | [], _ => rfl
  | (x, t) :: r, h => by
    simp only [noDf, Bool.and_eq_true] at h
    simp only [beqTf, beqT_self t h.1, beqTf_self r h.2, decide_true, Bool.and_self]
end
/-- a slot as it was -/
def keptS : Sl → Sl → Bool
  | .fz t, .fz u => beqT t u
  | _, _ => false
/-- all slots but the i-th: without lists, or as they were -/
def noEnv (i : Nat) : Env → Env → Nat → Bool
  | _, [], _ => true
  | [], s :: r, k => (k == i || noSl s) && noEnv i [] r (k + 1)
  | s0 :: r0, s :: r, k => (k == i || (noSl s || keptS s0 s)) && noEnv i r0 r (k + 1)
theorem noEnv_at {i : Nat} : ∀ {e0 e : Env} {k j : Nat} {s : Sl}, noEnv i e0 e k = true → e[j]? = some s → k + j ≠ i → noSl s = true ∨ ∃ s0, e0[j]? = some s0 ∧ keptS s0 s = true
  | _, [], _, _, _, _, h, _ => by simp at h
  | [], s :: r, k, 0, u, n, h, hi => by
    simp only [noEnv, Bool.and_eq_true, Bool.or_eq_true, beq_iff_eq] at n
    simp at h
    subst h
    exact .inl (n.1.resolve_left hi)
  | [], s :: r, k, j + 1, u, n, h, hi => by
    simp only [noEnv, Bool.and_eq_true] at n
    rcases noEnv_at n.2 (by simpa using h) (by omega) with h | ⟨s0, h, _⟩
    · exact .inl h
    · simp at h
  | s0 :: r0, s :: r, k, 0, u, n, h, hi => by
    simp only [noEnv, Bool.and_eq_true, Bool.or_eq_true, beq_iff_eq] at n
    simp at h
    subst h
    rcases n.1.resolve_left hi with h | h
    · exact .inl h
    · exact .inr ⟨s0, rfl, h⟩
  | s0 :: r0, s :: r, k, j + 1, u, n, h, hi => by
    simp only [noEnv, Bool.and_eq_true] at n
    rcases noEnv_at n.2 (by simpa using h) (by omega) with h | ⟨z, h, h2⟩
    · exact .inl h
    · exact .inr ⟨z, by simpa using h, h2⟩
section
variable {G : Gr} {Tm : Amb} {F H : Hp} {σ : St} {env : Env}
theorem SlOk.off {x : Option V} {a : Addr} {xs : List V} (ha : F a = some (.lst xs)) : ∀ {s : Sl}, noSl s = true → SlOk G F H x s → SlOk G (off F a) H x s
  | .un, _, q => q
  | .fz t, n, ⟨v, e, r⟩ => ⟨v, e, Rep.off ha t n r⟩
  | .ow t, n, ⟨b, o, e, r, f, p⟩ => ⟨b, o, e, r, off_none f, p.off ha n⟩
  | .io t, n, ⟨b, o, e, r, f, p⟩ => ⟨b, o, e, r, off_none f, p.off ha n⟩
/-- lent -/
theorem Sok.lend (S : Sok G Tm F H σ env) {i : Nat} {a : Addr} {xs : List V} {ts : List T} {s : Sl} (hs : env[i]? = some s) (hk : s = .ow (.lst ts) ∨ s = .io (.lst ts)) (hx : σ[i]? = some (some (.ref a))) (ha : H a = some (.lst xs)) (hf : F a = none) (r : RepL G F ts xs) :
    Le F (upd F a (.lst xs)) ∧ Sok G Tm (upd F a (.lst xs)) H σ (env.set i (.fz (.lst ts))) := by
  have le : Le F (upd F a (.lst xs)) := Le.upd hf
  have ht : Tm.h a = none := S.tmo i a _ (.of hk hs) hx
  have hil : i < env.length := (List.getElem?_eq_some_iff.mp hs).1
  have back : ∀ {j : Nat} {u : T}, OwnAt (env.set i (.fz (.lst ts))) j u → j ≠ i ∧ OwnAt env j u := fun {j u} h => by
    obtain ⟨s', e, k⟩ := h.get
    by_cases hj : j = i
    · subst hj
      rw [List.getElem?_set_self hil] at e
      cases e
      rcases k with k | k <;> cases k
    · rw [List.getElem?_set_ne (Ne.symm hj)] at e
      exact ⟨hj, .of k e⟩
  refine ⟨le, fun b u e => ?_, fun b u e => ?_, by rw [S.len]; simp, fun j u e => ?_, fun j l b t1 u1 h1 h2 h3 h4 => S.apart j l b t1 u1 (back h1).2 h2 (back h3).2 h4, fun j b t1 h1 h2 => S.tmo j b t1 (back h1).2 h2, fun b u e => ⟨(S.lk b u e).1, le.ne (S.lk b u e).2⟩, fun j u e => ?_⟩
  · by_cases hb : b = a
    · subst hb
      rw [upd_same] at e
      cases e
      exact .inl ha
    · rw [upd_ne hb] at e
      exact S.sub _ _ e
  · have q := S.tm _ _ e
    refine ⟨q.1, ?_⟩
    rw [upd_ne (fun z => by rw [z, ht] at e; cases e)]
    exact q.2
  · by_cases hj : j = i
    · subst hj
      rw [List.getElem?_set_self hil] at e
      cases e
      refine ⟨_, hx, .ref a, rfl, ?_⟩
      simp only [Rep]
      exact ⟨a, xs, rfl, .inl (.inl upd_same), RepL.mono le _ r⟩
    · rw [List.getElem?_set_ne (Ne.symm hj)] at e
      obtain ⟨x, hx', k⟩ := S.slot j u e
      refine ⟨x, hx', SlOk.mono le (fun b w es ex => ?_) k⟩
      have nb : b ≠ a := fun z => hj (S.apart j i b w _ (.of es e) (by rw [hx', ex]) (.of hk hs) (by rw [z]; exact hx))
      rw [upd_ne nb]
      obtain ⟨b', o', e', _, f', _⟩ := k.own es
      rw [ex] at e'
      cases e'
      exact f'
  · by_cases hj : j = i
    · subst hj
      rw [List.getElem?_set_self hil] at e
      cases e
    · rw [List.getElem?_set_ne (Ne.symm hj)] at e
      exact S.pio j u e
/-- .. given back -/
theorem Sok.back {F2 H2 : Hp} {env2 : Env} (S : Sok G Tm F H σ env) {i : Nat} {a : Addr} {xs : List V} {ts : List T} {s : Sl} (hs : env[i]? = some s) (hk : s = .ow (.lst ts) ∨ s = .io (.lst ts)) (hx : σ[i]? = some (some (.ref a))) (hf : F a = none) (r : RepL G F ts xs)
    (le : Le (upd F a (.lst xs)) F2) (S2 : Sok G Tm F2 H2 σ env2) (hn : noEnv i env env2 0 = true) :
    Le F (off F2 a) ∧ Sok G Tm (off F2 a) H2 σ (env2.set i s) := by
  have ha2 : F2 a = some (.lst xs) := le _ _ upd_same
  have hH : H2 a = some (.lst xs) := by
    rcases S2.sub _ _ ha2 with q | ⟨q, _⟩
    · exact q
    · cases q
  have leF : Le F (off F2 a) := fun b o e => by
    have nb : b ≠ a := fun z => by rw [z, hf] at e; cases e
    rw [off_ne nb]
    exact le _ _ (by rw [upd_ne nb]; exact e)
  have hil : i < env2.length := by
    have := (List.getElem?_eq_some_iff.mp hx).1
    have := S2.len
    omega
  have own_i : SlOk G (off F2 a) H2 (some (.ref a)) s := by
    rcases hk with k | k
    · subst k
      exact ⟨a, _, rfl, hH, off_same, xs, rfl, RepL.mono leF _ r⟩
    · subst k
      exact ⟨a, _, rfl, hH, off_same, xs, rfl, RepL.mono leF _ r⟩
  have other : ∀ {j : Nat} {u : T}, OwnAt (env2.set i s) j u → j ≠ i → OwnAt env2 j u := fun {j u} h hj => by
    obtain ⟨s', e, k⟩ := h.get
    rw [List.getElem?_set_ne (Ne.symm hj)] at e
    exact .of k e
  have far : ∀ {j : Nat} {u : T}, OwnAt (env2.set i s) j u → j ≠ i → σ[j]? ≠ some (some (.ref a)) := fun {j u} h hj z => by
    obtain ⟨s', e, k⟩ := (other h hj).get
    obtain ⟨x, hx', ok⟩ := S2.slot j _ e
    obtain ⟨b, o, eb, _, fb, _⟩ := ok.own k
    rw [z] at hx'
    cases hx'
    cases eb
    rw [ha2] at fb
    cases fb
  refine ⟨leF, fun b u e => ?_, fun b u e => ⟨(S2.tm b u e).1, off_none (S2.tm b u e).2⟩, by rw [S2.len]; simp, fun j u e => ?_, fun j l b t1 u1 h1 h2 h3 h4 => ?_, fun j b t1 h1 h2 => ?_, fun b u e => ?_, fun j u e => ?_⟩
  · by_cases hb : b = a
    · subst hb
      rw [off_same] at e
      cases e
    · rw [off_ne hb] at e
      exact S2.sub _ _ e
  · by_cases hj : j = i
    · subst hj
      rw [List.getElem?_set_self hil] at e
      cases e
      exact ⟨_, hx, own_i⟩
    · rw [List.getElem?_set_ne (Ne.symm hj)] at e
      obtain ⟨x, hx', k⟩ := S2.slot j u e
      rcases noEnv_at hn e (by omega) with h | ⟨s0, h0, hk0⟩
      · exact ⟨x, hx', SlOk.off ha2 h k⟩
      · cases s0 <;> cases u <;> first | (cases hk0; done) | skip
        rename_i t t'
        have et : t = t' := beqT_eq _ _ hk0
        subst et
        obtain ⟨y, hy, v, ev, rv⟩ := S.slot j _ h0
        exact ⟨y, hy, v, ev, Rep.mono leF t rv⟩
  · by_cases hj : j = i <;> by_cases hl : l = i
    · rw [hj, hl]
    · subst hj
      rw [hx] at h2
      cases h2
      exact absurd h4 (far h3 hl)
    · subst hl
      rw [hx] at h4
      cases h4
      exact absurd h2 (far h1 hj)
    · exact S2.apart j l b t1 u1 (other h1 hj) h2 (other h3 hl) h4
  · by_cases hj : j = i
    · subst hj
      rw [hx] at h2
      cases h2
      exact S.tmo j a _ (.of hk hs) hx
    · exact S2.tmo j b t1 (other h1 hj) h2
  · refine ⟨(S2.lk b u e).1, ?_⟩
    have nb : b ≠ a := fun z => by
      have := (S2.lk b u e).1
      rw [z, hH] at this
      cases this
    rw [off_ne nb]
    exact (S2.lk b u e).2
  · by_cases hj : j = i
    · subst hj
      rw [List.getElem?_set_self hil] at e
      cases e
      exact S.pio j u hs
    · rw [List.getElem?_set_ne (Ne.symm hj)] at e
      exact S2.pio j u e
end
def lstS : Sl → Option (List T)
  | .ow (.lst ts) => some ts
  | .io (.lst ts) => some ts
  | _ => none
theorem lstS_at {s : Sl} {ts : List T} (h : lstS s = some ts) : s = .ow (.lst ts) ∨ s = .io (.lst ts) := by
  cases s with
  | un => cases h
  | fz t => cases h
  | ow t => cases t <;> first | (cases h; done) | (cases h; exact .inl rfl)
  | io t => cases t <;> first | (cases h; done) | (cases h; exact .inr rfl)
/-- an expression while the slot i's own list is lent -/
def lendM (i : Nat) (m : M Rv) : M Rv := fun env => match env[i]? with
  | none => .no
  | some s => (match lstS s with
    | none => .no
    | some ts => (match m (env.set i (.fz (.lst ts))) with
      | .ok r e => if noEnv i env e 0 = true then (match r with
        | .fz t => if noL t = true then .ok (.fz t) (e.set i s) else .no
        | .ow t => if noT t = true then .ok (.ow t) (e.set i s) else .no
        | .bo _ => .no) else .no
      | .ex c fs e => if noEnv i env e 0 = true ∧ noLf fs = true then .ex c fs (e.set i s) else .no
      | .no => .no))
theorem ev_lend {C : Cy} {e : Expr} {m : M Rv} (i : Nat) (h : EvE C e m) : EvE C e (lendM i m) := by
  refine pe_imp h fun σ H Q ⟨Tm, F, env, S, q⟩ => ?_
  unfold lendM at q
  cases hs : env[i]? with
  | none =>
    rw [hs] at q
    exact q.elim
  | some s =>
  rw [hs] at q
  dsimp only at q
  cases hl : lstS s with
  | none =>
    rw [hl] at q
    exact q.elim
  | some ts =>
  rw [hl] at q
  dsimp only at q
  have hk := lstS_at hl
  obtain ⟨z, hz, ok⟩ := S.slot i _ hs
  obtain ⟨a, o, ez, ha, fa, top⟩ := ok.own hk
  subst ez
  obtain ⟨xs, eo, rl⟩ := top
  subst eo
  obtain ⟨le1, S1⟩ := S.lend hs hk hz ha fa rl
  refine ⟨Tm, _, _, S1, ?_⟩
  cases hm : m (env.set i (.fz (.lst ts))) with
  | no =>
    rw [hm] at q
    exact q.elim
  | ex c fs e1 =>
    rw [hm] at q
    dsimp only at q
    split at q
    case isFalse => exact q.elim
    rename_i hn
    intro d F' H' vs le S' hd rf
    obtain ⟨lF, S3⟩ := S.back hs hk hz fa rl le S' hn.1
    exact q d _ H' vs lF S3 hd (RepF.off (le _ _ upd_same) fs hn.2 rf)
  | ok r e1 =>
    rw [hm] at q
    dsimp only at q
    split at q
    case isFalse => exact q.elim
    rename_i hn
    intro x F' H' le S' rv
    have ha' : F' a = some (.lst xs) := le _ _ upd_same
    cases r with
    | bo _ => exact q.elim
    | fz t =>
      dsimp only at q
      split at q
      case isFalse => exact q.elim
      rename_i ht
      obtain ⟨lF, S3⟩ := S.back hs hk hz fa rl le S' hn
      exact q x _ H' lF S3 (Rep.off ha' t ht rv)
    | ow t =>
      dsimp only at q
      split at q
      case isFalse => exact q.elim
      rename_i ht
      obtain ⟨lF, S3⟩ := S.back hs hk hz fa rl le S' hn
      obtain ⟨b, o, ex, h1, h2, h3, h4, h5⟩ := rv
      have nb : b ≠ a := fun z => by rw [z, ha'] at h2; cases h2
      refine q x _ H' lF S3 ⟨b, o, ex, h1, off_none h2, h3, h4.off ha' ht, fun j u ow => ?_⟩
      by_cases hj : j = i
      · subst hj
        rw [hz]
        intro z
        cases z
        exact nb rfl
      · refine h5 j u ?_
        obtain ⟨s', e', k'⟩ := ow.get
        rw [List.getElem?_set_ne (Ne.symm hj)] at e'
        exact .of k' e'
end Ev
/-! Ev55: isinstance of own classes, one or two; == of instances of unlike classes. -/
namespace Ev
open PySem PySem.Spec L2
/-- what the head tells of some own classes -/
structure IsoF (K : PySem.W.Frag) (ca : Nat → Addr) (cs : List Nat) : Prop where
  f : ∀ q ∈ cs, ClsF K (ca q)
  p : ∀ c ∈ cs, ∀ q ∈ cs, PySem.W.kitOne K (.ref (ca c)) (.ref (ca q)) = some (c == q)
def isoLT (cs qs : List Nat) : T → Option Bool
  | .ins c _ => if c ∈ cs then some (qs.contains c) else none
  | t => (tyN t).map fun _ => false
def isoLM (cs qs : List Nat) (m : M Rv) : M T := M.bind m fun r => M.bind (pk r) fun t => M.bind (M.of (isoLT cs qs t)) fun b => M.pure (.bl b)
section
variable {C : Cy} {cs qs : List Nat}
theorem iso_at {Tm : Amb} {F H : Hp} {σ : St} {env : Env} {t : T} {x : V} {b : Bool} (X : IsoF C.X.K C.ca cs) (hq : ∀ q ∈ qs, q ∈ cs) (S : Sok C.G Tm F H σ env) (p : Pk C.G F H t x) (h : isoLT cs qs t = some b) :
    ∃ ty, TyX C.X.K H x ty ∧ (∀ q ∈ cs, ∃ v, PySem.W.kitOne C.X.K ty (.ref (C.ca q)) = some v) ∧ PySem.W.kitAny C.X.K ty (qs.map fun q => .ref (C.ca q)) = some b := by
  have bt : ∀ nm, tyN t = some nm → b = false → ∃ ty, TyX C.X.K H x ty ∧ (∀ q ∈ cs, ∃ v, PySem.W.kitOne C.X.K ty (.ref (C.ca q)) = some v) ∧ PySem.W.kitAny C.X.K ty (qs.map fun q => .ref (C.ca q)) = some b := fun nm e1 e2 => by
    subst e2
    refine ⟨.type nm, p.ty S e1, fun q hq => ⟨_, (X.f q hq).kit0 nm (tyN_mem e1)⟩, ?_⟩
    clear h
    induction qs with
    | nil => rfl
    | cons q qs ih =>
      rw [List.map_cons, PySem.W.kitAny, (X.f q (hq q List.mem_cons_self)).kit0 nm (tyN_mem e1)]
      exact ih fun r hr => hq r (List.mem_cons_of_mem _ hr)
  cases t <;> first | (cases h; done) | exact bt _ rfl (by cases h; rfl) | skip
  rename_i c fs
  simp only [isoLT] at h
  split at h
  case isFalse => cases h
  rename_i hc
  cases h
  obtain ⟨o, dx, vs, ex, ho, _⟩ := pk_ins S p
  subst ex
  have Xc := X.f c hc
  refine ⟨.ref (C.ca c), .base (.ins ho Xc.cls Xc.cat Xc.get Xc.tks Xc.obj), fun q hq => ⟨_, X.p c hc q hq⟩, ?_⟩
  clear bt
  induction qs with
  | nil => rfl
  | cons q qs ih =>
    rw [List.map_cons, PySem.W.kitAny, X.p c hc q (hq q List.mem_cons_self)]
    by_cases e : c = q
    · subst e
      simp
    · have e1 : (c == q) = false := by simpa using e
      rw [e1]
      dsimp only
      rw [ih fun r hr => hq r (List.mem_cons_of_mem _ hr)]
      simp [e]
theorem ev_iso1 {n : Str} {q : Nat} {p p2 pos : Pos} {a : Expr} {m : M Rv} (X : IsoF C.X.K C.ca cs) (hq : q ∈ cs) (h : EvH C a m) (hg : Gl C.X "isinstance") (hm : C.X.mg "isinstance" = none) (hg2 : Gl C.X n) (hm2 : C.X.mg n = some (.ref (C.ca q))) (hd : (n == ("__debug__" : Str)) = false := by decide +kernel)
    (he : starEach [a, .Name n p2] C.X.env = (false, eval a C.X.env) :: starEach [.Name n p2] C.X.env := by rfl) (hpl : (backTo pos (starEach [.Name n p2] C.X.env)).any (·.1) = false := by rfl) :
    EvT C (.Call (.Name "isinstance" p) [a, .Name n p2] [] pos) (isoLM cs [q] m) := by
  refine pe_imp (pe_callB call_isi hg hm PyProof.Rows.boot_isinstance (pa_cons h (pa_cons (pe_glob (v := .ref (C.ca q)) hg2 hm2 rfl hd) pa_nil) he) (by decide) (by decide) he hpl) fun σ H Q ⟨Tm, F, env, S, q'⟩ => ⟨Tm, F, env, S, ?_⟩
  refine At.bind (R' := TR C.G) (Q' := Q) q' fun r env1 x F1 H1 le1 S1 r1 q1 => ?_
  refine pk_bind S1 r1 q1 fun t p1 q2 => ?_
  have q2' : At C (TR C.G) Tm F1 σ Q ((M.of (isoLT cs [q] t) env1).bind fun b => M.pure (.bl b)) := q2
  cases hi : isoLT cs [q] t with
  | none =>
    rw [hi] at q2'
    exact q2'.elim
  | some b =>
    rw [hi] at q2'
    obtain ⟨ty, h1, h2, h3⟩ := iso_at X (fun r hr => by cases hr with | head => exact hq | tail _ z => cases z) S1 p1 hi
    obtain ⟨v, hv⟩ := h2 q hq
    have e : v = b := by
      rw [List.map_cons, PySem.W.kitAny, hv] at h3
      cases v
      · simpa [PySem.W.kitAny] using h3
      · simpa [PySem.W.kitAny] using h3
    subst e
    exact ⟨x, .ref (C.ca q), ty, .ref (C.ca q), v, rfl, .own _, h1, hv, q2' (.bl v) F1 H1 Le.rfl S1 (mk_bl v)⟩
theorem ev_iso2 {n1 n2 : Str} {q1 q2 : Nat} {p p1 p2 pt pos : Pos} {kk} {a : Expr} {m : M Rv} (X : IsoF C.X.K C.ca cs) (hq1 : q1 ∈ cs) (hq2 : q2 ∈ cs) (h : EvH C a m) (hg : Gl C.X "isinstance") (hm : C.X.mg "isinstance" = none) (hg1 : Gl C.X n1) (hm1 : C.X.mg n1 = some (.ref (C.ca q1))) (hg2 : Gl C.X n2) (hm2 : C.X.mg n2 = some (.ref (C.ca q2)))
    (hd1 : (n1 == ("__debug__" : Str)) = false := by decide +kernel) (hd2 : (n2 == ("__debug__" : Str)) = false := by decide +kernel)
    (he : starEach [a, .Tuple [.Name n1 p1, .Name n2 p2] kk pt] C.X.env = (false, eval a C.X.env) :: starEach [.Tuple [.Name n1 p1, .Name n2 p2] kk pt] C.X.env := by rfl) (hpl : (backTo pos (starEach [.Tuple [.Name n1 p1, .Name n2 p2] kk pt] C.X.env)).any (·.1) = false := by rfl) :
    EvT C (.Call (.Name "isinstance" p) [a, .Tuple [.Name n1 p1, .Name n2 p2] kk pt] [] pos) (isoLM cs [q1, q2] m) := by
  refine pe_imp (pe_callB call_isiT hg hm PyProof.Rows.boot_isinstance (pa_cons h (pa_cons (pe_tup (pa_cons (pe_glob (v := .ref (C.ca q1)) hg1 hm1 rfl hd1) (pa_cons (pe_glob (v := .ref (C.ca q2)) hg2 hm2 rfl hd2) pa_nil))) pa_nil) he) (by decide) (by decide) he hpl) fun σ H Q ⟨Tm, F, env, S, q'⟩ => ⟨Tm, F, env, S, ?_⟩
  refine At.bind (R' := TR C.G) (Q' := Q) q' fun r env1 x F1 H1 le1 S1 r1 q1' => ?_
  refine pk_bind S1 r1 q1' fun t pp q2' => ?_
  replace q2' : At C (TR C.G) Tm F1 σ Q ((M.of (isoLT cs [q1, q2] t) env1).bind fun b => M.pure (.bl b)) := q2'
  cases hi : isoLT cs [q1, q2] t with
  | none =>
    rw [hi] at q2'
    exact q2'.elim
  | some b =>
    rw [hi] at q2'
    refine ⟨(show (2 : Nat) ≤ sizeLine by decide), fun tp np => ?_⟩
    have S2 := S1.alloc (o := .tup [.ref (C.ca q1), .ref (C.ca q2)]) np
    have p2' : Pk C.G F1 (upd H1 tp (.tup [.ref (C.ca q1), .ref (C.ca q2)])) t x := by
      rcases pp with h | ⟨a, o, e, ha, top⟩
      · exact .inl h
      · exact .inr ⟨a, o, e, by rw [upd_ne (ne_of_none ha np)]; exact ha, top⟩
    obtain ⟨ty, h1, h2, h3⟩ := iso_at X (fun r hr => by
      rcases List.mem_cons.mp hr with rfl | hr
      · exact hq1
      · rcases List.mem_cons.mp hr with rfl | hr
        · exact hq2
        · cases hr) S2 p2' hi
    exact ⟨x, tp, [.ref (C.ca q1), .ref (C.ca q2)], ty, [.ref (C.ca q1), .ref (C.ca q2)], b, rfl, upd_same, .cons (.own _) (.cons (.own _) .nil), h1, h3, q2' (.bl b) F1 _ Le.rfl S2 (mk_bl b)⟩
/-! ### == of instances of unlike classes -/
variable {k j ci : Nat} {f : Addr} {fd : FuncData} {ps : List Str} {m : Nat} {d : SM}
theorem op_eqY (hmt : Meth C.X.K (C.ca ci) "__eq__" f) (F : FnC C k f fd ps m d) (B : Bk C j) (hj : k ≤ j) (hb : Binds C.X.K fd ps []) :
    OpR C.X (compareOp .Eq) (fun x y H Q => ∃ a dx vs, x = .ref a ∧ H a = some (.ins (C.ca ci) dx vs) ∧ (∃ b cb dy ws, y = .ref b ∧ H b = some (.ins cb dy ws) ∧ PySem.W.notFirst C.X.K (C.ca ci) (.ref cb) = true) ∧ spT C.G ps.length m d [x, y] H (fun v H2 => ∃ b, v = .bl b ∧ Q (.bl b) H2) (fun _ _ _ => False)) := by
  intro pins s σ H x y v u Q I rx ry h
  obtain ⟨a, dx, vs, rfl, ha, ⟨b, cb, dy, ws, rfl, hb', hn⟩, hsp⟩ := h
  cases rx
  cases ry
  obtain ⟨mA, J, _⟩ := ins_get I.hok ha
  obtain ⟨od, J, _⟩ := J.look
  obtain ⟨mB, J', _⟩ := ins_get I.hok hb'
  obtain ⟨od', J', _⟩ := J'.look
  obtain ⟨m', hF⟩ := I.fr
  have fin : wpAny (model C.X.prog C.X.w) C.X.A (call (.ref f) [.ref a, .ref b]) (PySem.W.CmpBack (EP C.X pins σ Q)) C.X.xe s := by
    have hl : [Value.ref a, Value.ref b].length = ps.length := by rw [← hsp.1]; rfl
    have r2 : Vals [V.ref a, V.ref b] [Value.ref a, Value.ref b] := .cons rfl (.cons rfl .nil)
    refine wpAny_call (codeAny_mono ((F.up hj).go B.room B.grd I.env0 (by
      have := hb s [.ref a, .ref b] I.kIn (by simpa using hl)
      simpa using this) r2 hsp) fun r s' hq => ?_)
    match r, hq with
    | .error e, hq => exact B.tk _ _ (XE.of_call I (fun _ _ _ z => False.elim z) hq)
    | .ok (.ret w), hq =>
      obtain ⟨z, H', I', rz, b, ez, q⟩ := I.after hq
      subst ez
      cases rz
      exact ⟨.bl b, H', I', rfl, q⟩
    | .ok .next, hq => exact False.elim hq
    | .ok .brk, hq => exact False.elim hq
    | .ok .cont, hq => exact False.elim hq
  exact PySem.W.cmp_K (op := .Eq) (tb := .ref cb) B.room.units0 hF I.ok.mod.kin J J'.type hn hmt.at_ hmt.fn fin
/-- t == u, u an instance of one of the classes cs -/
def eqY (ci : Nat) (cs : List Nat) (n : Nat) (d : SM) (m : Nat) (f1 f2 : M T) : M Bool := M.bind f1 fun t => M.bind f2 fun u env => if isCi ci t = true ∧ isIn cs u = true then (match callA n d m [.fz t, .fz u] env with
  | .ok (.fz (.bl b)) e => .ok b e
  | _ => .no) else .no
theorem eb_eqY {a b : Expr} {pos : Pos} {f1 f2 : M T} (hcs : ∀ q ∈ cs, PySem.W.notFirst C.X.K (C.ca ci) (.ref (C.ca q)) = true) (hmt : Meth C.X.K (C.ca ci) "__eq__" f) (F : FnC C k f fd ps m d) (B : Bk C j) (hj : k ≤ j) (hm : ps.length ≤ m) (hb : Binds C.X.K fd ps []) (h1 : EvT C a f1) (h2 : EvT C b f2) (hmk : behindInMarks .Eq b = false) :
    EvB C (.Compare a [.Eq] [b] pos) (eqY ci cs ps.length d m f1 f2) := by
  refine pt_imp (pt_cmpR (op_eqY hmt F B hj hb) h1 h2 hmk) fun σ H Q ⟨Tm, F0, env, S, q⟩ => ⟨Tm, F0, env, S, ?_⟩
  refine At.bind (R' := BR) (Q' := Q) q fun t env1 x F1 H1 le1 S1 r1 q1 => ⟨Tm, F1, env1, S1, ?_⟩
  refine At.bind (R' := BR) (Q' := Q) q1 fun u env2 y F2 H2 le2 S2 r2 q2 => ?_
  split at q2
  case isFalse => exact q2.elim
  rename_i hc
  have rt := Rep.mono le2 t r1
  obtain ⟨a, dx, vs, ex, ha⟩ := ci_at S2 rt hc.1
  obtain ⟨q, hq, b, dy, ws, ey, hb⟩ := in_at S2 r2 hc.2
  refine ⟨a, dx, vs, ex, ha, ⟨b, _, dy, ws, ey, hb, hcs q hq⟩, ?_⟩
  refine call_sp (C := ⟨C.X, C.ca, fun _ _ _ _ => False⟩) (Q := fun v H2 => ∃ b, v = .bl b ∧ ∃ w, V.bl b = .bl w ∧ Q w H2) hm S2 (as := [.fz t, .fz u]) ⟨x, [y], rfl, rt, y, [], rfl, r2, rfl⟩ ?_
  cases ec : callA ps.length d m [.fz t, .fz u] env2 with
  | no =>
    rw [ec] at q2
    exact q2.elim
  | ex c fs e' =>
    rw [ec] at q2
    exact q2.elim
  | ok r e' =>
    rw [ec] at q2
    cases r with
    | ow t => exact q2.elim
    | bo i => exact q2.elim
    | fz w =>
      cases w <;> first | exact q2.elim | skip
      intro z F' H' le S' rz
      exact ⟨_, rep_bl rz, _, rfl, q2 _ F' H' le S' rfl⟩
end
end Ev
/-! Ev56: the names of own operators. -/
namespace Ev
open PySem PySem.Spec L2
theorem dn_BitOr : PySem.dunder (Operator.BitOr).info.2 = ("__or__" : Str) := by decide +kernel
theorem dn_BitAnd : PySem.dunder (Operator.BitAnd).info.2 = ("__and__" : Str) := by decide +kernel
theorem dn_Sub : PySem.dunder (Operator.Sub).info.2 = ("__sub__" : Str) := by decide +kernel
theorem of_BitOr : PySem.fastLookup "object" (PySem.dunder (Operator.BitOr).info.2) = some none := by decide +kernel
theorem of_BitAnd : PySem.fastLookup "object" (PySem.dunder (Operator.BitAnd).info.2) = some none := by decide +kernel
theorem of_Sub : PySem.fastLookup "object" (PySem.dunder (Operator.Sub).info.2) = some none := by decide +kernel
theorem or_BitOr : PySem.fastLookup "object" (dunderR (Operator.BitOr).info.2) = some none := by decide +kernel
theorem or_BitAnd : PySem.fastLookup "object" (dunderR (Operator.BitAnd).info.2) = some none := by decide +kernel
theorem or_Sub : PySem.fastLookup "object" (dunderR (Operator.Sub).info.2) = some none := by decide +kernel
end Ev
/-! Ev57: f(new, ..): a new object handed in, to be changed in place. -/
namespace Ev
open PySem PySem.Spec L2
def callNew (n : Nat) (d : SM) (m : Nat) (t : T) (as : List Ar) : M Rv := fun env => match callA n d m (.io env.length :: as) (env ++ [.ow t]) with
  | .ok (.fz r) e' => .ok (.fz r) (e'.take env.length)
  | .ok (.ow r) e' => .ok (.ow r) (e'.take env.length)
  | .ex c fs e' => .ex c fs (e'.take env.length)
  | _ => .no
section
variable {C : Cy} {k j : Nat} {f : Addr} {fd : FuncData} {ps : List Str} {m : Nat} {d : SM}
theorem callNew_sp {σ : St} {H : Hp} {Q : VK} {vs : List V} {Tm : Amb} {F0 : Hp} {env : Env} {ts : List T} {t : T} {x : V} (hm : ps.length ≤ m) (S : Sok C.G Tm F0 H σ env) (rx : RvR C.G Tm F0 H σ env (.ow t) x) (rl : RepL C.G F0 ts vs)
    (q : At C (RvR C.G) Tm F0 σ Q (callNew ps.length d m t (ts.map Ar.fz) env)) : spT C.G ps.length m d (x :: vs) H Q (fun cls dd H' => C.W cls dd σ H') := by
  obtain ⟨a, o, rfl, ha, fa, ta, top, na⟩ := rx
  have hl := S.len
  have S2 := S.push (x := a) ha fa ta top na
  have hxl : (σ ++ [some (V.ref a)])[env.length]? = some (some (.ref a)) := by
    rw [List.getElem?_append_right (by omega), hl, Nat.sub_self]; rfl
  have ra : ArL C.G F0 (σ ++ [some (V.ref a)]) (.io env.length :: ts.map Ar.fz) (.ref a :: vs) := ⟨_, _, rfl, hxl, ArL.consts rl⟩
  refine call_sp (C := ⟨C.X, C.ca, fun cls dd _ H' => C.W cls dd σ H'⟩) (Q := Q) hm S2 ra ?_
  unfold callNew at q
  cases ec : callA ps.length d m (.io env.length :: ts.map Ar.fz) (env ++ [.ow t]) with
  | no =>
    rw [ec] at q
    exact q.elim
  | ex c fs e' =>
    rw [ec] at q
    intro dd F' H' ws le S' e r
    have S3 := S'.pop
    rw [hl] at S3
    exact q dd F' H' ws le S3 e r
  | ok r e' =>
    rw [ec] at q
    cases r with
    | bo i => exact q.elim
    | fz u =>
      intro b F' H' le S' rb
      have S3 := S'.pop
      rw [hl] at S3
      exact q b F' H' le S3 rb
    | ow u =>
      intro b F' H' le S' rb
      have S3 := S'.pop
      rw [hl] at S3
      obtain ⟨y, w, eb, h1, h2, h3, h4, h5⟩ := rb
      refine q b F' H' le S3 ⟨y, w, eb, h1, h2, h3, h4, fun i v ow z => ?_⟩
      obtain ⟨hi, ow'⟩ := own_take ow
      refine h5 i v ow' ?_
      rw [List.getElem?_append_left (by omega)]
      exact z
def newM (n : Nat) (d : SM) (m : Nat) (fe : M Rv) (fa : M (List T)) : M Rv := M.bind fe fun r => match r with
  | .ow t => M.bind fa fun ts => callNew n d m t (ts.map Ar.fz)
  | _ => M.no
theorem Amb.with_same {Tm : Amb} {a : Addr} {o : HO} : (Tm.with a o).h a = some o := upd_same
theorem Sok.keepD {Tm : Amb} {F H : Hp} {σ : St} {env : Env} {a : Addr} {o : HO} (S : Sok C.G Tm F H σ env) (ha : H a = some o) (fa : F a = none) (na : ∀ (i : Nat) u, OwnAt env i u → σ[i]? ≠ some (some (.ref a))) : Sok C.G (Tm.with a o) F H σ env := by
  refine ⟨S.sub, fun b u e => ?_, S.len, S.slot, S.apart, fun k b t own z => ?_, S.lk, S.pio⟩
  · by_cases hb : b = a
    · subst hb
      have e' : upd Tm.h b o b = some u := e
      rw [upd_same] at e'
      cases e'
      exact ⟨ha, fa⟩
    · have e' : upd Tm.h a o b = some u := e
      rw [upd_ne hb] at e'
      exact S.tm b u e'
  · have hb : b ≠ a := fun q => na k t own (by rw [z, q])
    show upd Tm.h a o b = none
    rw [upd_ne hb]
    exact S.tmo k b t own z
variable {x : Str} {p pos : Pos} {e : Expr} {es : List Expr} {fe : M Rv} {fa : M (List T)}
theorem ev_callN (F : FnC C k f fd ps m d) (B : Bk C j) (hj : k ≤ j) (hm : ps.length ≤ m) (hg : Gl C.X x) (hx : C.X.mg x = some (.ref f)) (hk : PySem.W.keepIn C.X.K (.ref f) = true) (hb : Binds C.X.K fd ps []) (he : EvE C e fe) (ha : EvA C es fa)
    (hdb : (x == ("__debug__" : Str)) = false := by decide +kernel) (hs : starEach (e :: es) C.X.env = (false, eval e C.X.env) :: starEach es C.X.env := by rfl) (hpl : (backTo pos (starEach es C.X.env)).any (·.1) = false := by rfl) :
    EvE C (.Call (.Name x p) (e :: es) [] pos) (newM ps.length d m fe fa) := by
  refine ⟨fun pins s σ H Q I ⟨Tm, F0, env, S, q⟩ => ?_⟩
  refine wpAny_Call_Name_kw (ld_glob I hg hx ?_ hdb)
  have q1 : tCons (tG C (RvR C.G) fe) (tG C (TLR C.G) fa) σ H fun vs H1 => spT C.G ps.length m d (vs ++ []) H1 Q (fun cls dd H' => C.W cls dd σ H') := by
    refine ⟨Tm, F0, env, S, At.bind (R' := RvR C.G) (Q' := Q) q fun r env1 y F1 H1 le1 S1 r1 q2 => ?_⟩
    cases r with
    | fz _ => exact q2.elim
    | bo _ => exact q2.elim
    | ow t =>
      obtain ⟨a, o, rfl, ha1, fa1, ta1, top1, na1⟩ := r1
      refine ⟨Tm.with a o, F1, env1, S1.keepD ha1 fa1 na1, ?_⟩
      have q2' : At C (RvR C.G) Tm F1 σ Q ((fa env1).bind fun ts => callNew ps.length d m t (ts.map Ar.fz)) := q2
      cases ef : fa env1 with
      | no =>
        rw [ef] at q2'
        exact q2'.elim
      | ex c fs e2 =>
        rw [ef] at q2'
        exact fun dd F' H' vs le S' h r => q2' dd F' H' vs le (S'.outD ta1) h r
      | ok ts e2 =>
        rw [ef] at q2'
        intro xs F2 H2 le2 S2 r2
        have S3 := S2.outD ta1
        show spT C.G ps.length m d ((V.ref a :: xs) ++ []) H2 Q _
        rw [List.append_nil]
        exact callNew_sp hm S3 (own_at S2 ta1 le2 top1) r2 (At.weak le2 q2')
  refine PySem.W.callWith_K (h₀ := C.X.base) I.ok.mod.kin hk (thn ((pa_cons he ha hs).run pos pins s σ H _ I q1) fun us s1 ⟨vs, H1, I1, r, h⟩ => ⟨I1.kIn, ?_⟩) hs hpl
  exact call_run (F.up hj) B hb .nil I1 r h
end
end Ev
/-! Ev58: t op u, where the own operator is the left one's, or, reflected, the right one's. -/
namespace Ev
open PySem PySem.Spec L2
def binW (ci : Nat) (cs : List Nat) (n : Nat) (d : SM) (m : Nat) (nr : Nat) (dr : SM) (mr : Nat) (f1 f2 : M T) : M Rv := M.bind f1 fun t => M.bind f2 fun u =>
  if isCi ci t = true ∧ (isCi ci u = true ∨ isIn cs u = true) then callA n d m [.fz t, .fz u] else if isIn cs t = true ∧ isCi ci u = true then callA nr dr mr [.fz u, .fz t] else M.no
section
variable {C : Cy} {k kr j ci : Nat} {f fr : Addr} {fd fdr : FuncData} {ps psr : List Str} {m mr : Nat} {d dr : SM} {a b : Expr} {pos : Pos} {f1 f2 : M T}
theorem ev_binW {op : Operator} {nm nmr : Str} {cs : List Nat} (hn : PySem.dunder op.info.2 = nm) (hnr : dunderR op.info.2 = nmr) (o1 : PySem.fastLookup "object" (PySem.dunder op.info.2) = some none) (o2 : PySem.fastLookup "object" (dunderR op.info.2) = some none)
    (hsf : PySem.W.selfFirst C.X.K (C.ca ci) = true) (hcs : ∀ q ∈ cs, EvOp.noNum C.X.K (C.ca q) op.info.2 = true ∧ C.ca ci ≠ C.ca q) (hmt : Meth C.X.K (C.ca ci) nm f) (hmr : Meth C.X.K (C.ca ci) nmr fr) (F : FnC C k f fd ps m d) (Fr : FnC C kr fr fdr psr mr dr) (B : Bk C j) (hj : k ≤ j) (hjr : kr ≤ j)
    (hm : ps.length ≤ m) (hm2 : psr.length ≤ mr) (hb : Binds C.X.K fd ps []) (hbr : Binds C.X.K fdr psr []) (h1 : EvT C a f1) (h2 : EvT C b f2) :
    EvE C (.BinOp a op b pos) (binW ci cs ps.length d m psr.length dr mr f1 f2) := by
  subst hn hnr
  refine ⟨fun pins s σ H Q I ⟨Tm, F0, env, S, q⟩ => ?_⟩
  have q1 : tG C (TR C.G) f1 σ H fun x H1 => tG C (TR C.G) f2 σ H1 fun y H2 =>
      (∃ a dx vs, x = .ref a ∧ H2 a = some (.ins (C.ca ci) dx vs) ∧ (∃ b cb dy ws, y = .ref b ∧ H2 b = some (.ins cb dy ws) ∧ (cb = C.ca ci ∨ (EvOp.noNum C.X.K cb op.info.2 = true ∧ C.ca ci ≠ cb))) ∧ spT C.G ps.length m d [x, y] H2 Q (fun cls dd H' => C.W cls dd σ H')) ∨
      (∃ b dy ws, y = .ref b ∧ H2 b = some (.ins (C.ca ci) dy ws) ∧ (∃ a ca dx vs, x = .ref a ∧ H2 a = some (.ins ca dx vs) ∧ EvOp.noNum C.X.K ca op.info.2 = true ∧ C.ca ci ≠ ca) ∧ spT C.G psr.length mr dr [y, x] H2 Q (fun cls dd H' => C.W cls dd σ H')) := by
    refine ⟨Tm, F0, env, S, At.bind (R' := RvR C.G) (Q' := Q) q fun t env1 x F1 H1 le1 S1 r1 q2 => ⟨Tm, F1, env1, S1, ?_⟩⟩
    refine At.bind (R' := RvR C.G) (Q' := Q) q2 fun u env2 y F2 H2 le2 S2 r2 q3 => ?_
    have rt := Rep.mono le2 t r1
    split at q3
    case isTrue hc =>
      obtain ⟨a, dx, vs, ex, ha⟩ := ci_at S2 rt hc.1
      refine .inl ⟨a, dx, vs, ex, ha, ?_, call_sp hm S2 (as := [.fz t, .fz u]) ⟨x, [y], rfl, rt, y, [], rfl, r2, rfl⟩ q3⟩
      rcases hc.2 with h | h
      · obtain ⟨b, dy, ws, ey, hb⟩ := ci_at S2 r2 h
        exact ⟨b, _, dy, ws, ey, hb, .inl rfl⟩
      · obtain ⟨q, hq, b, dy, ws, ey, hb⟩ := in_at S2 r2 h
        exact ⟨b, _, dy, ws, ey, hb, .inr (hcs q hq)⟩
    case isFalse =>
      split at q3
      case isFalse => exact q3.elim
      rename_i hc
      obtain ⟨b, dy, ws, ey, hb⟩ := ci_at S2 r2 hc.2
      obtain ⟨q, hq, a, dx, vs, ex, ha⟩ := in_at S2 rt hc.1
      exact .inr ⟨b, dy, ws, ey, hb, ⟨a, _, dx, vs, ex, ha, hcs q hq⟩, call_sp hm2 S2 (as := [.fz u, .fz t]) ⟨y, [x], rfl, r2, x, [], rfl, rt, rfl⟩ q3⟩
  refine wpAny_BinOp (thn (h1.run pins s σ H _ I q1) fun v s1 ⟨x, H1, I1, rx, q2⟩ => thn (h2.run pins s1 σ H1 _ I1 q2) fun u s2 ⟨y, H2, I2, ry, q3⟩ => ?_)
  have fin : ∀ {f : Addr} {fd : FuncData} {ps : List Str} {m k : Nat} {d : SM} {a b : Addr}, FnC C k f fd ps m d → k ≤ j → Binds C.X.K fd ps [] → spT C.G ps.length m d [.ref a, .ref b] H2 Q (fun cls dd H' => C.W cls dd σ H') →
      wpAny (model C.X.prog C.X.w) C.X.A (call (.ref f) [.ref a, .ref b]) (PySem.W.CmpBack (EP C.X pins σ Q)) C.X.xe s2 := by
    intro f fd ps m k d a b F hj hb hsp
    have hl : [Value.ref a, Value.ref b].length = ps.length := by rw [← hsp.1]; rfl
    have r2 : Vals [V.ref a, V.ref b] [Value.ref a, Value.ref b] := .cons rfl (.cons rfl .nil)
    refine wpAny_call (codeAny_mono ((F.up hj).go B.room B.grd I2.env0 (by
      have := hb s2 [.ref a, .ref b] I2.kIn (by simpa using hl)
      simpa using this) r2 hsp) fun r s' hq => ?_)
    match r, hq with
    | .error e, hq => exact B.tk _ _ (XE.of_call I2 (fun _ _ _ z => z) hq)
    | .ok (.ret w), hq =>
      obtain ⟨z, H', I', rz, q⟩ := I2.after hq
      have back : EP C.X pins σ Q w s' := ⟨z, H', I', rz, q⟩
      cases w <;> first | exact back | skip
      cases z <;> first | (cases rz; done) | (obtain ⟨_, rz⟩ := rz; cases rz; done)
    | .ok .next, hq => exact False.elim hq
    | .ok .brk, hq => exact False.elim hq
    | .ok .cont, hq => exact False.elim hq
  obtain ⟨m', hF⟩ := I2.fr
  rcases q3 with ⟨a, dx, vs, ex, ha, ⟨b, cb, dy, ws, ey, hb', hcb⟩, hsp⟩ | ⟨b, dy, ws, ey, hb', ⟨a, ca, dx, vs, ex, ha, hno, hne⟩, hsp⟩
  · subst ex ey
    obtain rfl : v = Value.ref a := rx
    obtain rfl : u = Value.ref b := ry
    obtain ⟨mA, J, _⟩ := ins_get I2.hok ha
    obtain ⟨od, J, _⟩ := J.look
    obtain ⟨mB, J', _⟩ := ins_get I2.hok hb'
    obtain ⟨od', J', _⟩ := J'.look
    rcases hcb with h | ⟨h, hne⟩
    · subst h
      exact PySem.W.binop_K hF I2.ok.mod.kin J J'.type hsf hmt.at_ hmt.fn (fin F hj hb hsp)
    · exact EvOp.binop_L hF I2.ok.mod.kin J J'.type hne hsf h o1 o2 hmt.at_ hmt.fn (fin F hj hb hsp)
  · subst ex ey
    obtain rfl : v = Value.ref a := rx
    obtain rfl : u = Value.ref b := ry
    obtain ⟨mA, J, _⟩ := ins_get I2.hok ha
    obtain ⟨od, J, _⟩ := J.look
    obtain ⟨mB, J', _⟩ := ins_get I2.hok hb'
    obtain ⟨od', J', _⟩ := J'.look
    exact EvOp.binop_R hF I2.ok.mod.kin J' J hne hsf hno o1 o2 hmt.at_ hmr.at_ hmr.fn (fin Fr hjr hbr hsp)
end
theorem dr_BitOr : dunderR (Operator.BitOr).info.2 = ("__ror__" : Str) := by decide +kernel
theorem dr_BitAnd : dunderR (Operator.BitAnd).info.2 = ("__rand__" : Str) := by decide +kernel
theorem dr_Sub : dunderR (Operator.Sub).info.2 = ("__rsub__" : Str) := by decide +kernel
end Ev
/-! Ev59: lists of unlike lengths, compared. -/
namespace Ev
open PySem PySem.Spec L2
section
variable {C : Cy}
theorem op_eqLen (hu : Rm C) : OpR C.X (compareOp .Eq) (fun x y H Q => ∃ l b xs zs, x = .ref l ∧ y = .ref b ∧ LstAt C.X.K H l xs ∧ LstAt C.X.K H b zs ∧ xs.length ≠ zs.length ∧ Q (.bl false) H) := by
  intro pins s σ H x y v u Q I rx ry h
  obtain ⟨l, b, xs, zs, rfl, rfl, hL, hB, hz, q⟩ := h
  cases rx
  cases ry
  obtain ⟨its, n, r, e⟩ := LstAt.obj I hL
  obtain ⟨its2, n2, r2, e2⟩ := LstAt.obj I hB
  have hl := Paired.length r
  have hl2 := Paired.length r2
  refine PySem.SeqAt.eq_list_lengthsAt (A := C.X.A) (items := its.toArray) (items2 := its2.toArray) ⟨_, e, rfl, _, rfl⟩ ⟨_, e2, rfl, _, rfl⟩ ?_ (by have := hu; omega) ⟨.bl false, H, I, rfl, q⟩
  rw [List.size_toArray, List.size_toArray, bne_iff_ne]
  omega
/-- == of two lists: unlike lengths, or plain data -/
def eqLn : T → T → Option Bool
  | .lst ts, .lst us => if ts.length = us.length then eqT (.lst ts) (.lst us) else some false
  | _, _ => none
theorem ok_eqLn (hu : Rm C) : CmpOk C .Eq eqLn := by
  refine ⟨_, (op_eqP hu).or (op_eqLen hu), fun {Tm F H σ env x y t u w Q} S rx ry hw q => ?_⟩
  cases t <;> cases u <;> first | (cases hw; done) | skip
  rename_i ts us
  have hw : (if ts.length = us.length then eqT (.lst ts) (.lst us) else some false) = some w := hw
  by_cases hl : ts.length = us.length
  · rw [if_pos hl] at hw
    unfold eqT at hw
    split at hw
    case isFalse => cases hw
    rename_i h
    cases hw
    exact .inl ⟨_, _, rx.dp S h.1, ry.dp S h.2.1, h.1, h.2.1, h.2.2, q⟩
  · rw [if_neg hl] at hw
    cases hw
    obtain ⟨a, xs, ex, hx, r1⟩ := pk_lst S rx
    obtain ⟨b, zs, ey, hy, r2⟩ := pk_lst S ry
    exact .inr ⟨a, b, xs, zs, ex, ey, hx, hy, by rw [r1.length, r2.length]; exact hl, q⟩
end
end Ev
/-! X0: an own exception class called, also by keywords: the exception and its args are laid, the own __init__ runs. -/
namespace EvXc
open PySem PySem.HandSPX Builtin Builtin.ObjectAttr
section
variable {M : Model} {A : Around} {E : Value → Shared → Prop} {h : Heap} {g : Array GenState} {d : Drawn} {t : Nat} {os : OsState}
variable {nm q : Str} {C N : Addr} {bs bm bmB : List Value} {hdct : Bool} {sn : List Str} {sub : List Value} {ab : Bool} {col : Option Bool} {dd : Option Addr} {k0 k1 k2 k3 k5 : Option Value} {B newId initId : String}
/-- what a class's bases say, as far as laying asks -/
structure Under (B : String) (bm : List Value) : Prop where
  has : bm.contains (.type B) = true
  noA : bm.contains (.type "AttributeError") = false
  noN : bm.contains (.type "NameError") = false
theorem checkNew (F : ExcBaseFacts B newId initId bmB) (U : Under B bm) {rest : List Value} {kw : List (Str × Value)} {Q : Unit → Shared → Prop}
    (hC : h.get? C = some (excClassObj nm q C N bs bm hdct sn sub ab col dd k0 k1 k2 k3 k5 newId)) (hq : Q () ⟨h, g, d, t, os⟩) :
    wpAny M A (checkBuiltinCall newId ⟨.ref C :: rest, kw⟩) Q E ⟨h, g, d, t, os⟩ := by
  have hc : (Value.ref C :: bm).contains (.type B) = true := by
    rw [List.contains_cons, U.has]
    exact Bool.or_true _
  have hst := F.noStar
  simp only [checkBuiltinCall, F.newKind, F.newSplit, F.newRow]
  repeat (first
    | refine wpAny_loadPart_at hC ?_
    | (refine wpAny_isSubtype_exc hC ?_; rw [hc])
    | refine wpAny_staticBase_exc hC ?_
    | refine wpAny_madeBy_exc hC ?_
    | simp only [bne_self_eq_false, Bool.false_eq_true, if_false]
    | wp_step)
  exact hq
end
section
variable {prog : Program} {w : World} {A : Around} {E : Value → Shared → Prop} {R : Result → Shared → Prop} {h : Heap} {g : Array GenState} {d : Drawn} {t : Nat} {os : OsState}
variable {nm q : Str} {C N : Addr} {bs bm bmB : List Value} {hdct : Bool} {sn : List Str} {sub : List Value} {ab : Bool} {col : Option Bool} {dd : Option Addr} {k0 k1 k2 k3 k5 : Option Value} {B newId initId : String}
/-- the exception object, its args at T -/
abbrev exOb (C T : Addr) : Obj := { cls := .ref C, data := .fields #[.ref T, .none, .none, .none, .bool false, .none] }
abbrev laid (h : Heap) (C : Addr) (rest : List Value) : Heap := (h.push { cls := .type "tuple", data := .seq rest.toArray }).push (exOb C h.objs.size)
theorem layNew (F : ExcBaseFacts B newId initId bmB) (U : Under B bm) {rest : List Value} {kw : List (Str × Value)}
    (hC : h.get? C = some (excClassObj nm q C N bs bm hdct sn sub ab col dd k0 k1 k2 k3 k5 newId)) (hr : rest.length ≤ sizeLine)
    (hq : R (.ok (.ret (.ref (h.objs.size + 1)))) ⟨laid h C rest, g, d, t, os⟩) :
    codeAny (model prog w) A (.builtin newId ⟨.ref C :: rest, kw⟩) R ⟨h, g, d, t, os⟩ := by
  have he := F.ends
  have hc : (Value.ref C :: bm).contains (.type B) = true := by
    rw [List.contains_cons, U.has]
    exact Bool.or_true _
  have ha : (Value.ref C :: bm).contains (.type "AttributeError") = false := by
    rw [List.contains_cons, U.noA]
    rfl
  have hn : (Value.ref C :: bm).contains (.type "NameError") = false := by
    rw [List.contains_cons, U.noN]
    rfl
  refine codeAny_builtinAt F.entry ?_
  unfold Builtin.«BaseException.__new__»
  refine wpAt_bind ?_
  show wpAt _ _ _ (stack >>= _) _ _ _
  refine wpAt_bind (wpAt_stack fun p below => wpAt_of_wpAny ?_)
  wp_walk
  refine wpAt_of_wpAny ?_
  rw [F.owner]
  repeat (first
    | with_reducible refine wpAny_madeHere_exc F.canon hC ?_
    | with_reducible refine wpAny_loadPart_at hC ?_
    | (with_reducible refine wpAny_isSubtype_exc hC ?_; first | rw [hc] | rw [ha] | rw [hn])
    | wp_step)
  show R _ _
  rw [Heap.size_push]
  exact hq
theorem typeCall (F : ExcBaseFacts B newId initId bmB) (U : Under B bm) {rest : List Value} {kw : List (Str × Value)} {fI : Addr} {Q : PySem.Fin → Shared → Prop}
    (hC : h.get? C = some (excClassObj nm q C N bs bm hdct sn sub ab col dd k0 k1 k2 k3 k5 newId))
    (hi : W.Looks (model prog w) h (typeLookup (.ref C) "__init__") (some (.ref fI))) (hb : ∀ self, W.Looks (model prog w) h (bindSpecial (.ref fI) self) (.ref fI, [self])) (hr : rest.length ≤ sizeLine)
    (hq : codeAny (model prog w) A (.call (.ref fI) ⟨.ref (h.objs.size + 1) :: rest, kw⟩)
      (fun r s' => match r with
        | .ok (.ret v) => v = .none ∧ Q (.done (.ret (.ref (h.objs.size + 1)))) s'
        | .ok _ => False
        | .error e => E e s') ⟨laid h C rest, g, d, t, os⟩) :
    wpAny (model prog w) A (Builtin.«type.__call__» ⟨.ref C :: rest, kw⟩) Q E ⟨h, g, d, t, os⟩ := by
  repeat (first
    | with_reducible refine wpAny_loadPart_at hC ?_
    | with_reducible refine wpAny_madeBy_exc hC ?_
    | wp_step)
  refine codeAny_call_builtin_code (Code.quiet_builtin _ F.quiet) (checkNew F U hC ?_)
  refine layNew F U hC hr ?_
  show wpAny _ _ _ _ _ _
  have k : ∀ b o, h.get? b = some o → (laid h C rest).get? b = some o := fun b o e => Heap.get?_push_of_some _ (Heap.get?_push_of_some _ e)
  have hC1 := k _ _ hC
  have hx : (laid h C rest).get? (h.objs.size + 1) = some (exOb C h.objs.size) := by heap_get
  have hcc : (Value.ref C :: bm).contains (.ref C) = true := by simp
  have i1 := hi.keeps k
  have b1 := (hb (.ref (h.objs.size + 1))).keeps k
  unfold isInstance
  repeat (first
    | with_reducible refine wpAny_loadPart_at hx ?_
    | (with_reducible refine wpAny_isSubtype_exc hC1 ?_; rw [hcc])
    | wp_step)
  show wpAny _ _ (typeLookup (.ref C) _) _ _ _
  refine i1.at ?_
  refine wpAny_holding (wpAny_bind (b1.at ?_))
  refine wpAny_bind (wpAny_call (codeAny_mono hq fun r s' z => ?_))
  match r, z with
  | .error e, z => exact z
  | .ok .next, z => exact z.elim
  | .ok .brk, z => exact z.elim
  | .ok .cont, z => exact z.elim
  | .ok (.ret v), z =>
    obtain ⟨rfl, z⟩ := z
    first
      | exact wpAny_pure (wpAny_pure z)
      | (wp_walk; exact z)
theorem callCls (F : ExcBaseFacts B newId initId bmB) (U : Under B bm) {rest : List Value} {kw : List (Str × Value)} {fI : Addr}
    (hC : h.get? C = some (excClassObj nm q C N bs bm hdct sn sub ab col dd k0 k1 k2 k3 k5 newId))
    (hi : W.Looks (model prog w) h (typeLookup (.ref C) "__init__") (some (.ref fI))) (hb : ∀ self, W.Looks (model prog w) h (bindSpecial (.ref fI) self) (.ref fI, [self])) (hr : rest.length ≤ sizeLine)
    (hq : codeAny (model prog w) (A.under (.builtin "type.__call__" ⟨.ref C :: rest, kw⟩)) (.call (.ref fI) ⟨.ref (h.objs.size + 1) :: rest, kw⟩) (W.InitBack (h.objs.size + 1) R) ⟨laid h C rest, g, d, t, os⟩) :
    codeAny (model prog w) A (.call (.ref C) ⟨rest, kw⟩) R ⟨h, g, d, t, os⟩ := by
  have f1 := tc_lookup
  have f2 := tc_bind (.ref C)
  have hT : (⟨h, g, d, t, os⟩ : Shared).TypeIs (.ref C) "type" := ⟨_, hC, rfl⟩
  refine codeAny_of_tree ?_
  show wpAny _ _ (callAny (.ref C) _) _ _ _
  repeat (any_goals (first
    | assumption
    | with_reducible refine wpAny_loadPart_at hC ?_
    | wp_step))
  refine ⟨rfl, ?_⟩
  refine codeAny_call_builtin_at (Code.quiet_builtin _ (by decide +kernel)) entry_typeCall (wpAny_check_type_call_sub hC (typeCall F U hC hi hb hr ?_))
  refine codeAny_mono hq fun r s' z => ?_
  rcases r with e | (v | _ | _ | _) <;> exact z
end
end EvXc
/-! X1: exceptions of own classes over ValueError, KeyError, IndexError, OverflowError, RuntimeError: made, filled, read, asked for their class. -/
namespace EvXc
open PySem PySem.HandSPX
abbrev exEnd : List Value := [.type "Exception", .type "BaseException", .type "object"]
def tails : List (List Value) := [.type "ValueError" :: exEnd, .type "KeyError" :: .type "LookupError" :: exEnd, .type "IndexError" :: .type "LookupError" :: exEnd, .type "OverflowError" :: .type "ArithmeticError" :: exEnd, .type "RuntimeError" :: exEnd]
/-- own classes, then what lies above one of the five -/
def upX : List Value → Bool
  | .ref _ :: r => upX r
  | l => decide (l ∈ tails)
theorem upX_cases (l : List Value) (h : upX l = true) : (∃ c r, l = .ref c :: r ∧ upX r = true) ∨ l ∈ tails := by
  unfold upX at h
  split at h
  · exact .inl ⟨_, _, rfl, h⟩
  · exact .inr (of_decide_eq_true h)
theorem upX_ind {P : List Value → Prop} (step : ∀ c r, P r → P (.ref c :: r)) (ends : ∀ l ∈ tails, P l) : ∀ l, upX l = true → P l
  | [], h => ends [] (by
    rcases upX_cases _ h with ⟨_, _, z, _⟩ | z
    · cases z
    · exact z)
  | a :: r, h => by
    rcases upX_cases _ h with ⟨c, r', z, h'⟩ | z
    · cases z
      exact step c r (upX_ind step ends r h')
    · exact ends _ z
theorem tails_all {P : List Value → Prop} (h1 : P (.type "ValueError" :: exEnd)) (h2 : P (.type "KeyError" :: .type "LookupError" :: exEnd)) (h3 : P (.type "IndexError" :: .type "LookupError" :: exEnd)) (h4 : P (.type "OverflowError" :: .type "ArithmeticError" :: exEnd)) (h5 : P (.type "RuntimeError" :: exEnd)) : ∀ l ∈ tails, P l := fun l hl => by
  rcases List.mem_cons.mp hl with rfl | hl
  · exact h1
  rcases List.mem_cons.mp hl with rfl | hl
  · exact h2
  rcases List.mem_cons.mp hl with rfl | hl
  · exact h3
  rcases List.mem_cons.mp hl with rfl | hl
  · exact h4
  rcases List.mem_cons.mp hl with rfl | hl
  · exact h5
  cases hl
theorem upX_pass (self : Value) (l : List Value) (h : upX l = true) : refuseLoop self "__setattr__" l = pure () :=
  upX_ind (P := fun l => refuseLoop self "__setattr__" l = pure ()) (fun c r e => by rw [refuseLoop_ref]; exact e) (tails_all (by kernel_rfl) (by kernel_rfl) (by kernel_rfl) (by kernel_rfl) (by kernel_rfl)) l h
theorem upX_obj (l : List Value) (h : upX l = true) : l.contains (.type "object") = true :=
  upX_ind (P := fun l => l.contains (.type "object") = true) (fun c r e => by rw [List.contains_cons, e]; exact Bool.or_true _) (tails_all (by decide +kernel) (by decide +kernel) (by decide +kernel) (by decide +kernel) (by decide +kernel)) l h
theorem upX_noA (l : List Value) (h : upX l = true) : l.contains (.type "AttributeError") = false :=
  upX_ind (P := fun l => l.contains (.type "AttributeError") = false) (fun c r e => by rw [List.contains_cons, e]; rfl) (tails_all (by decide +kernel) (by decide +kernel) (by decide +kernel) (by decide +kernel) (by decide +kernel)) l h
theorem upX_noN (l : List Value) (h : upX l = true) : l.contains (.type "NameError") = false :=
  upX_ind (P := fun l => l.contains (.type "NameError") = false) (fun c r e => by rw [List.contains_cons, e]; rfl) (tails_all (by decide +kernel) (by decide +kernel) (by decide +kernel) (by decide +kernel) (by decide +kernel)) l h
theorem upX_ne (l : List Value) (h : upX l = true) : l.isEmpty = false :=
  upX_ind (P := fun l => l.isEmpty = false) (fun _ _ _ => rfl) (tails_all rfl rfl rfl rfl rfl) l h
section
open Builtin Builtin.ObjectAttr
variable {prog : Program} {w : World} {A : Around} {R : Result → Shared → Prop} {hp : Heap} {g : Array GenState} {d : Drawn} {t : Nat} {os : OsState}
/-- the first field of an exception -/
theorem fstField {K : W.Frag} {name : Str} {tk : Tok} {v : Value} {x C : Addr} {fv : Array Value} {cd : ClassData}
    (X : K.In hp) (hx : hp.get? x = some { cls := .ref C, data := .fields fv }) (hcd : W.clsIn K C = some cd) (hm : upX cd.mro = true) (hh : cd.hasDict = true) (ha : W.findIn K (.ref C) name = some none)
    (hq : ∀ h' tk' dx, (∀ b o, b ≠ x → hp.get? b = some o → h'.get? b = some o) → hp.objs.size ≤ dx → dx ≠ x → h'.get? x = some { cls := .ref C, dict := some dx, data := .fields fv } → h'.Ns1 dx (fun y => if y = name then some v else none) →
      R (.ok (.ret .none)) ⟨h', g, d, tk', os⟩) :
    codeAny (model prog w) A (.call (.builtin "object.__setattr__") ⟨[.ref x, .str name tk, v], []⟩) R ⟨hp, g, d, t, os⟩ := by
  have J : W.InstAt hp x { cls := .ref C, data := .fields fv } C none := ⟨hx, rfl, rfl, trivial⟩
  have Z := F.store_object
  have apart : x ≠ hp.objs.size := Nat.ne_of_lt (Heap.lt_size hx)
  have isO : W.Looks (model prog w) hp (isInstance (.ref x) (.type "object")) true := by
    refine J.type.andThen (W.looks_mroIn X ?_)
    unfold W.mroIn
    rw [hcd, Option.bind_some, if_neg (by rw [upX_ne _ hm]; decide), upX_obj _ hm]
  refine codeAny_call_builtin Z.slot.plain Z.entry (@W.check_slot (model prog w) _ _ ⟨hp, g, d, t, os⟩ "object.__setattr__" "object" "__setattr__" (.ref x) [.str name tk, v] [] _ Z.kind Z.split isO (Z.args (.ref x) (.str name tk) v) ?_)
  have lm : W.Looks (model prog w) hp (mroOf (.ref C)) cd.mro := (W.looks_clsIn X hcd).andThen .now
  have lt : W.Looks (model prog w) hp (storeTaker? none) none := .now
  have lc : W.Looks (model prog w) hp (classData C) cd := W.looks_clsIn X hcd
  rw [W.osa_eq, refuse_eq]
  refine wpAny_bind (wpAny_bind (J.type.at (wpAny_bind (lm.at ?_))))
  rw [upX_pass _ _ hm]
  refine wpAny_pure (wpAny_bind (J.type.at (wpAny_bind ((W.looks_findIn X ha).at (wpAny_bind (lt.at ?_))))))
  show wpAny _ _ (storeInOwnDict (.ref x) (.ref C) (.str name tk) name v false) _ _ _
  obtain ⟨nm, bs, mro, ns, qn, hd, sn, sb, ab, col, del⟩ := cd
  dsimp only at hh
  subst hh
  unfold storeInOwnDict ownDictForStores
  repeat (first
    | with_reducible refine store_in_new ?_ ?_
    | with_reducible refine wpAny_loadPart_at hx ?_
    | with_reducible refine lc.at ?_
    | wp_step)
  · exact ⟨_, #[], _, (Heap.get?_update_ne _ _ _ _ apart.symm).trans (Heap.get?_push_at rfl rfl), rfl, fun e he => absurd he (by simp), fun _ => rfl⟩
  · intro h' tk' hn' same
    have hx1 : (hp.push { cls := .type "dict", data := .dict #[] }).get? x = some { cls := .ref C, data := .fields fv } := Heap.get?_push_of_some _ hx
    refine hq h' tk' hp.objs.size ?_ (Nat.le_refl _) apart.symm ?_ hn'
    · intro b o hb ho
      exact (same.2 b (Nat.ne_of_lt (Heap.lt_size ho))).trans ((Heap.get?_update_ne _ _ _ _ hb).trans (Heap.get?_push_of_some _ ho))
    · exact (same.2 x apart).trans (Heap.get?_update_self _ hx1 rfl)
end
end EvXc

/-! X2: exceptions held as values. -/
namespace Ev
open PySem PySem.Spec L2
/-! ### what the head tells of such a class -/
def newB (n : String) (bm : List Value) : Bool :=
  (n == "ValueError.__new__" && bm.contains (.type "ValueError")) || ((n == "LookupError.__new__" && bm.contains (.type "LookupError")) || ((n == "IndexError.__new__" && bm.contains (.type "IndexError")) ||
  ((n == "OverflowError.__new__" && bm.contains (.type "OverflowError")) || (n == "RuntimeError.__new__" && bm.contains (.type "RuntimeError")))))
def NewOf (n : String) (bm : List Value) : Prop := ∃ B initId bmB, ExcBaseFacts B n initId bmB ∧ bm.contains (.type B) = true
theorem newB_ok {n : String} {bm : List Value} (h : newB n bm = true) : NewOf n bm := by
  unfold newB at h
  simp only [Bool.or_eq_true, Bool.and_eq_true, beq_iff_eq] at h
  rcases h with ⟨rfl, h⟩ | ⟨rfl, h⟩ | ⟨rfl, h⟩ | ⟨rfl, h⟩ | ⟨rfl, h⟩
  · exact ⟨_, _, _, F.excBase_ValueError, h⟩
  · exact ⟨_, _, _, F.excBase_LookupError, h⟩
  · exact ⟨_, _, _, F.excBase_IndexError, h⟩
  · exact ⟨_, _, _, F.excBase_OverflowError, h⟩
  · exact ⟨_, _, _, F.excBase_RuntimeError, h⟩
def clB (K : PySem.W.Frag) (C : Addr) : Bool := match K.lookup C with
  | some ⟨.type "type", _, .cls cd, sl⟩ => (match cd.mro, sl.toList with
    | .ref D :: bm, [_, _, _, _, some (.builtin n), _] => D == C && (cd.hasDict && (!cd.hasDel && (EvXc.upX bm && newB n bm)))
    | _, _ => false)
  | _ => false
def ClX (K : PySem.W.Frag) (C : Addr) : Prop := ∃ nm q N bs bm sn sub ab col dd k0 k1 k2 k3 k5 newId, K.lookup C = some (excClassObj nm q C N bs bm true sn sub ab col dd k0 k1 k2 k3 k5 newId) ∧ EvXc.upX bm = true ∧ NewOf newId bm
theorem clB_ok {K : PySem.W.Frag} {C : Addr} (h : clB K C = true) : ClX K C := by
  unfold clB at h
  split at h
  case h_2 => cases h
  rename_i dd cd sl lk
  split at h
  case h_2 => cases h
  rename_i D bm k0 k1 k2 k3 n k5 em es
  simp only [Bool.and_eq_true, beq_iff_eq, Bool.not_eq_true'] at h
  obtain ⟨rfl, hd, hx, hu, hn⟩ := h
  obtain ⟨nm, bs, mro, ns, qn, hdd, sn, sub, ab, col, del⟩ := cd
  simp only at em hd hx
  subst em hd hx
  obtain ⟨l⟩ := sl
  simp only at es
  subst es
  exact ⟨nm, qn, ns, bs, bm, sn, sub, ab, col, dd, k0, k1, k2, k3, k5, n, lk, hu, newB_ok hn⟩
structure XcC (K : PySem.W.Frag) (C : Addr) : Prop where
  cl : ClX K C
  sa : PySem.W.findIn K (.ref C) "__setattr__" = some (some (.builtin "object.__setattr__"))
  kC : PySem.W.keepIn K (.ref C) = true
  xf : XfC K C
  cls : (PySem.W.clsIn K C).isSome = true
  cat : PySem.W.findIn K (.ref C) "__class__" = some (some (.builtin "object.__class__"))
  get : PySem.W.specialIn K (.builtin "object.__class__") "__get__" = some (some (.builtin "getset_descriptor.__get__"))
  tks : PySem.W.takesIn K (.builtin "object.__class__") = some true
  obj : PySem.W.mroIn K C (.type "object") = some true
def xcB (K : PySem.W.Frag) (C : Addr) : Bool :=
  clB K C && (He.eqO (PySem.W.findIn K (.ref C) "__setattr__") (some (some (.builtin "object.__setattr__"))) && (PySem.W.keepIn K (.ref C) && (xfB K C && ((PySem.W.clsIn K C).isSome &&
  (He.eqO (PySem.W.findIn K (.ref C) "__class__") (some (some (.builtin "object.__class__"))) && (He.eqO (PySem.W.specialIn K (.builtin "object.__class__") "__get__") (some (some (.builtin "getset_descriptor.__get__"))) &&
  (decide (PySem.W.takesIn K (.builtin "object.__class__") = some true) && decide (PySem.W.mroIn K C (.type "object") = some true))))))))
theorem xcB_ok {K : PySem.W.Frag} {C : Addr} (h : xcB K C = true) : XcC K C := by
  unfold xcB at h
  obtain ⟨h1, h⟩ := He.ba h
  obtain ⟨h2, h⟩ := He.ba h
  obtain ⟨h3, h⟩ := He.ba h
  obtain ⟨h4, h⟩ := He.ba h
  obtain ⟨h5, h⟩ := He.ba h
  obtain ⟨h6, h⟩ := He.ba h
  obtain ⟨h7, h⟩ := He.ba h
  obtain ⟨h8, h9⟩ := He.ba h
  exact ⟨clB_ok h1, He.eqO_ok h2, h3, xfB_ok h4, h5, He.eqO_ok h6, He.eqO_ok h7, of_decide_eq_true h8, of_decide_eq_true h9⟩
structure XcF (K : PySem.W.Frag) (C : Addr) (attr : Str) : Prop where
  c : XcC K C
  no : PySem.W.findIn K (.ref C) attr = some none
def xcFB (K : PySem.W.Frag) (C : Addr) (attr : Str) : Bool := xcB K C && He.eqO (PySem.W.findIn K (.ref C) attr) (some none)
theorem xcFB_ok {K : PySem.W.Frag} {C : Addr} {attr : Str} (h : xcFB K C attr = true) : XcF K C attr := by
  obtain ⟨h1, h2⟩ := He.ba h
  exact ⟨xcB_ok h1, He.eqO_ok h2⟩

/-! ### self.f = e, the first one -/
section
variable {X : Cx} {pins : List (Addr × Obj)} {σ : St} {H : Hp} {s : Shared} {a C : Addr} {f : Str} {y : V} {u : Value} {E : Value → Shared → Prop} {A : Around}
theorem put_new {Q : Unit → Shared → Prop} (T : XcC X.K C) (I : Inv X pins σ H s) (e : H a = some (exo a C none)) (hno : PySem.W.findIn X.K (.ref C) f = some none) (ry : RelV y u)
    (h : ∀ dx s', H dx = none → dx ≠ a → Inv X pins σ (upd (upd H dx (exd dx [(f, y)])) a (exo a C (some dx))) s' → Q () s') : wpAny (model X.prog X.w) A (setAttr (.ref a) f u) Q E s := by
  obtain ⟨nm, q, N, bs, bm, sn, sub, ab, col, dd, k0, k1, k2, k3, k5, newId, hC, hu, _⟩ := T.cl
  have hcl : PySem.W.clsIn X.K C = some { name := nm, bases := bs, mro := .ref C :: bm, ns := N, qualname := q, hasDict := true, slotNames := sn, subclasses := sub, abstract := ab, collection := col, hasDel := false } := by
    unfold PySem.W.clsIn
    rw [hC]
  obtain ⟨t1, ho⟩ := exo_at I.hok e
  obtain ⟨hp, g, d, t, os⟩ := s
  refine PySem.W.set_plain I.kIn (ox := { cls := .ref C, dict := none, data := .fields #[.ref t1, .none, .none, .none, .bool false, .none] }) (od := none) ⟨ho, rfl, rfl, trivial⟩ T.sa ?_
  refine EvXc.fstField I.kIn ho hcl (show EvXc.upX (.ref C :: bm) = true from hu) rfl hno fun h' tk' dx k dn dne hx hn => ?_
  have hnd : H dx = none := I.hok.fresh dn
  have old : ∀ {b : Addr} {o : Obj}, hp.get? b = some o → b ≠ dx := fun {b o} z w => by
    have z1 : b < hp.objs.size := Heap.lt_size z
    rw [w] at z1
    exact absurd z1 (Nat.not_lt.mpr dn)
  have ne_a : ∀ {b : Addr}, H b = none → b ≠ a := fun {b} n z => by
    subst z
    rw [e] at n
    cases n
  have U : Un X.fs [] H (upd (upd H dx (exd dx [(f, y)])) a (exo a C (some dx))) hp h' := by
    refine ⟨fun b o z n _ _ => k b o (ne_a n) z, fun b o z n _ _ => ⟨o.slots, k b o (ne_a n) z⟩, fun b o z n _ => ?_, fun b o z _ => ?_, fun b xs z => ?_, fun b o v z => ?_, fun b ps z => ⟨#[], ?_⟩⟩
    · rw [upd_ne (ne_a n), upd_ne (old z)]
      exact n
    · by_cases hb : b = a
      · subst hb
        exact ⟨_, hx⟩
      · exact ⟨o, k b o hb z⟩
    · rw [upd_ne (at_ne e z exo_tup), upd_ne (ne_of_none z hnd)]
      exact z
    · rw [upd_ne (at_ne e z exo_frz), upd_ne (ne_of_none z hnd)]
      exact z
    · rw [upd_ne (at_ne e z exo_tbl), upd_ne (ne_of_none z hnd), z]
      simp
  refine h dx _ hnd dne (I.un (t' := tk') U fun b o z => ?_)
  by_cases hb : b = a
  · subst hb
    rw [upd_same] at z
    cases z
    exact exo_ok hx
  rw [upd_ne hb] at z
  by_cases hd : b = dx
  · subst hd
    rw [upd_same] at z
    cases z
    exact exd_ok hn (relO_put (fs := []) ry fun g => True.intro)
  rw [upd_ne hd] at z
  refine (I.hok b o z).stay (fun c v hc w => k c v ?_ w) (fun c hc => ?_) fun c xs hc => ?_
  · rcases hc with hc | hc
    · subst hc
      exact hb
    · exact at_ne e hc exo_own
  · rw [upd_ne (at_ne e hc exo_own), upd_ne (ne_of_none hc hnd)]
    exact hc
  · rw [upd_ne (at_ne e hc exo_tup), upd_ne (ne_of_none hc hnd)]
    exact hc
end
def tPutX (K : PySem.W.Frag) (f : Str) (to te : TE) : TS := fun D σ H => te σ H fun y H1 => to σ H1 fun x H2 => ∃ a C : Addr, x = .ref a ∧ XcC K C ∧ PySem.W.findIn K (.ref C) f = some none ∧ H2 a = some (exo a C none) ∧
  ∀ dx, H2 dx = none → dx ≠ a → D.nx σ (upd (upd H2 dx (exd dx [(f, y)])) a (exo a C (some dx)))
theorem ps_putX {X : Cx} {o e : Expr} {to te : TE} {f : Str} {p' pos : Pos} (ho : PE X o to) (he : PE X e te) (hs : swapsWith e (some (.Attribute o f p')) pos.line X.env = pure false := by rfl) : PS X (.Assign [.Attribute o f p'] e pos) (tPutX X.K f to te) := by
  refine ⟨fun pins s σ H D I h => ?_⟩
  refine plainObj_wpAny_Assign_Attribute (thn (he.run pins s σ H _ I h) fun v s1 ⟨y, H1, I1, r1, q1⟩ => thn (ho.run pins s1 σ H1 _ I1 q1) fun u s2 ⟨x, H2, I2, r2, a, C, ex, T, no, ea, q⟩ => ?_) hs
  subst ex
  obtain rfl : u = Value.ref a := r2
  exact put_new T I2 ea no r1 fun dx s' n ne J => ⟨σ, _, J, q dx n ne⟩
section
variable {P : Program} {w : World} {K : PySem.W.Frag} {mg : Str → Option Value} {base : Heap} {f : Addr} {fd : FuncData}
/-- its __init__: self.attr = param -/
theorem initX_ok {x qual : Str} {params : Arguments} {scope : Scope} {dvs : List V} {kws : List (Str × V)} {C : Addr} {attr par : Str} {p1 p2 p3 p4 : Pos} (T : XcF K C attr)
    (F : FunD K x qual params [.Assign [.Attribute (.Name "self" p1) attr p2] (.Name par p3) p4] scope dvs kws f fd) (S : FnScope ["self", par] ["self", par] scope)
    (h1 : scope.names.lookup ("self" : Str) = some NameKind.local := by rfl) (h2 : scope.names.lookup par = some NameKind.local := by rfl)
    (n1 : (par == ("__debug__" : Str)) = false := by decide +kernel) (n2 : (par == ("__classdict__" : Str)) = false := by decide +kernel)
    (hs : ∀ env : PySem.Env, swapsWith (.Name par p3) (some (.Attribute (.Name "self" p1) attr p2)) p4.line env = pure false := by intro _; rfl) :
    FnOk P w K mg base CX0 1 f fd ["self", par] (spInit C attr) := by
  refine F.ok S (fun vs H Q E h => ?_) (fun cdv A outer s H vs Q E hr h => ?_)
  · obtain ⟨a, y, rfl, _⟩ := h
    rfl
  · obtain ⟨a, y, rfl, ha, q⟩ := h
    exact ⟨_, PSs.nox (pss_one (ps_putX (pe_var (i := 0) rfl (.inl h1) (by decide +kernel) (by decide +kernel)) (pe_var (i := 1) rfl (.inl h2) n1 n2) (hs _))), y, rfl, .ref a, rfl, a, C, rfl, T.c, T.no, ha, q⟩
/-- an __init__ that does nothing -/
def spNil (C : Addr) : Sp := fun vs H Q _ => ∃ a, vs = [.ref a] ∧ Q .non H
theorem init0_ok {x qual : Str} {params : Arguments} {scope : Scope} {dvs : List V} {kws : List (Str × V)} {C : Addr} {p1 : Pos}
    (F : FunD K x qual params [.Pass p1] scope dvs kws f fd) (S : FnScope ["self"] ["self"] scope) :
    FnOk P w K mg base CX0 1 f fd ["self"] (spNil C) := by
  refine F.ok S (fun vs H Q E h => ?_) (fun cdv A outer s H vs Q E hr h => ?_)
  · obtain ⟨a, rfl, _⟩ := h
    rfl
  · obtain ⟨a, rfl, q⟩ := h
    exact ⟨_, PSs.nox (pss_one ps_pass), q⟩
end
/-! ### the call of the class -/
section
variable {X : Cx} {pins : List (Addr × Obj)} {σ : St} {H : Hp} {s : Shared} {C fI : Addr} {k : Nat} {fd : FuncData} {ps : List Str} {sp : Sp} {Q : VK}
theorem callX_run (T : XcC X.K C) (iC : PySem.W.findIn X.K (.ref C) "__init__" = some (some (.ref fI))) (tI : PySem.W.typeIn X.K (.ref fI) = some (.type "function")) (F1 : FnOk X.prog X.w X.K X.mg X.base CX0 k fI fd ps sp) (hr : Room (k + 1) X.A)
    (I : Inv X pins σ H s) {us : List Value} {kw : List (Str × Value)} {vs : List V} {ws : List Value} (hus : us.length ≤ sizeLine)
    (hb : ∀ (s' : Shared) (a : Addr), X.K.In s'.heap → BindsTo s' fd ⟨.ref a :: us, kw⟩ (ps.zip (.ref a :: ws))) (rv : Vals vs ws)
    (h : ∀ a, H a = none → sp (.ref a :: vs) (upd H a (exo a C none)) (fun v H2 => v = .non ∧ Q (.ref a) H2) (fun _ _ _ => False)) :
    wpAny (model X.prog X.w) X.A (call (.ref C) us kw) (EP X pins σ Q) X.xe s := by
  obtain ⟨nm, q, N, bs, bm, sn, sub, ab, col, dd, k0, k1, k2, k3, k5, newId, hC, hu, B, initId, bmB, FB, hB⟩ := T.cl
  obtain ⟨hp, g, dr, tk, os⟩ := s
  have hz : hp.objs.size ≤ hp.objs.size + 1 := Nat.le_succ _
  have hn : H (hp.objs.size + 1) = none := I.hok.fresh hz
  have hq := h (hp.objs.size + 1) hn
  have kk : ∀ b o, hp.get? b = some o → (EvXc.laid hp C us).get? b = some o := fun b o e => Heap.get?_push_of_some _ (Heap.get?_push_of_some _ e)
  have hget : (EvXc.laid hp C us).get? (hp.objs.size + 1) = some (EvXc.exOb C hp.objs.size) := by heap_get
  have J : Inv X pins σ (upd H (hp.objs.size + 1) (exo (hp.objs.size + 1) C none)) ⟨EvXc.laid hp C us, g, dr, tk, os⟩ :=
    I.laid (t' := tk) (a := hp.objs.size + 1) (o := exo (hp.objs.size + 1) C none) (h' := EvXc.laid hp C us) kk hz (exo_ok hget)
  have U : EvXc.Under B bm := ⟨hB, EvXc.upX_noA bm hu, EvXc.upX_noN bm hu⟩
  have r2 : Vals (V.ref (hp.objs.size + 1) :: vs) (Value.ref (hp.objs.size + 1) :: ws) := .cons rfl rv
  refine wpAny_call (EvXc.callCls FB U (I.kIn _ _ hC) (PySem.W.looks_findIn I.kIn iC) (fun self => PySem.W.bind_fn I.kIn self tI) hus
    (codeAny_mono (F1.run _ X.stack _ _ ⟨Value.ref (hp.objs.size + 1) :: us, kw⟩ (Value.ref (hp.objs.size + 1) :: ws) _ _ (fun _ _ _ => False) (hr.make C us kw) (J.env0.make C us kw) (hb _ _ J.kIn) r2 hq) fun r s' hq' => ?_))
  match r, hq' with
  | .error e, hq' => exact (show False from hq').elim
  | .ok (.ret u), hq' =>
    obtain ⟨v, H', I4, ru, ev, q3⟩ := J.after hq'
    subst ev
    exact ⟨ru, ⟨V.ref (hp.objs.size + 1), H', I4, rfl, q3⟩⟩
  | .ok .next, hq' => exact False.elim hq'
  | .ok .brk, hq' => exact False.elim hq'
  | .ok .cont, hq' => exact False.elim hq'
end
section
variable {C : Cy} {k j ci : Nat} {f : Addr} {fd : FuncData} {attr par x : Str} {e : Expr} {p pos kpos : Pos} {m : M T}
def excM (ci : Nat) (attr : Str) (m : M T) : M Rv := M.bind m fun t => M.pure (.fz (.exc ci [(attr, t)]))
/-- the exception that is made stands, frozen -/
theorem exc_new {Tm : Amb} {F0 : Hp} {σ : St} {env : Env} {Q : VK} (q : At C (RvR C.G) Tm F0 σ Q (excM ci attr m env)) :
    At C (TLR C.G) Tm F0 σ (fun xs H1 => ∃ y, xs = [y] ∧ ∀ a, H1 a = none → spInit (C.ca ci) attr [.ref a, y] (upd H1 a (exo a (C.ca ci) none)) (fun v H2 => v = .non ∧ Q (.ref a) H2) (fun _ _ _ => False)) (consM m (M.pure []) env) := by
  have q' : At C (RvR C.G) Tm F0 σ Q ((m env).bind fun t => M.pure (.fz (.exc ci [(attr, t)]))) := q
  show At C _ Tm F0 σ _ ((m env).bind fun t => M.bind (M.pure []) fun ts => M.pure (t :: ts))
  cases em : m env with
  | no =>
    rw [em] at q'
    exact q'.elim
  | ex c fs e1 =>
    rw [em] at q'
    exact q'
  | ok t e1 =>
    rw [em] at q'
    intro xs F' H' le S r
    obtain ⟨y, r', ex, ry, rn⟩ := RepL.uncons r
    have en := rn.unnil
    subst en ex
    refine ⟨y, rfl, fun a na => ⟨a, y, rfl, upd_same, fun dx nd ne => ⟨rfl, ?_⟩⟩⟩
    rw [upd_ne ne] at nd
    have same : upd (upd (upd H' a (exo a (C.ca ci) none)) dx (exd dx [(attr, y)])) a (exo a (C.ca ci) (some dx)) = upd (upd H' dx (exd dx [(attr, y)])) a (exo a (C.ca ci) (some dx)) := by
      funext b
      by_cases hb : b = a
      · rw [hb, upd_same, upd_same]
      rw [upd_ne hb, upd_ne hb]
      by_cases hd : b = dx
      · rw [hd, upd_same, upd_same]
      rw [upd_ne hd, upd_ne hd, upd_ne hb]
    rw [same]
    have na2 : upd H' dx (exd dx [(attr, y)]) a = none := by rw [upd_ne (Ne.symm ne)]; exact na
    have S1 := S.allocF (o := exd dx [(attr, y)]) nd
    have l1 : Le F' (upd F' dx (exd dx [(attr, y)])) := Le.upd (S.new nd).1
    have S2 := S1.allocF (o := exo a (C.ca ci) (some dx)) na2
    have l2 : Le (upd F' dx (exd dx [(attr, y)])) (upd (upd F' dx (exd dx [(attr, y)])) a (exo a (C.ca ci) (some dx))) := Le.upd (S1.new na2).1
    refine q' (.ref a) _ _ (le.trans (l1.trans l2)) S2 ?_
    show Rep C.G _ (.exc ci [(attr, t)]) (.ref a)
    simp only [Rep]
    exact ⟨a, [(attr, y)], rfl, .inr ⟨dx, upd_same, by rw [upd_ne ne, upd_same]⟩, .cons (Rep.mono (l1.trans l2) t ry) .nil⟩
theorem ev_exc (X : XcF C.X.K (C.ca ci) attr) (F : FnOk C.X.prog C.X.w C.X.K C.X.mg C.X.base CX0 k f fd ["self", par] (spInit (C.ca ci) attr)) (B : Bk C j) (hj : k + 1 ≤ j) (iC : PySem.W.findIn C.X.K (.ref (C.ca ci)) "__init__" = some (some (.ref f))) (tI : PySem.W.isFn C.X.K (.ref f) = true)
    (hb : Binds C.X.K fd ["self", par] []) (hg : Gl C.X x) (hm : C.X.mg x = some (.ref (C.ca ci))) (he : EvT C e m) (hdb : (x == ("__debug__" : Str)) = false := by decide +kernel) (hst : starEach [e] C.X.env = [(false, eval e C.X.env)] := by rfl) (hpl : (backTo pos (starEach [] C.X.env)).any (·.1) = false := by rfl) :
    EvE C (.Call (.Name x p) [e] [] pos) (excM ci attr m) := by
  have ha : EvA C [e] (consM m (M.pure [])) := ea_cons he ea_nil hst
  refine ⟨fun pins s σ H Q I ⟨Tm, F0, env, S, q⟩ => ?_⟩
  refine wpAny_Call_Name_kw (ld_glob I hg hm ?_ hdb)
  refine PySem.W.callWith_K (h₀ := C.X.base) I.ok.mod.kin X.c.kC (thn (ha.run pos pins s σ H _ I ⟨Tm, F0, env, S, exc_new q⟩) fun us s1 ⟨vs, H1, I1, r1, y, ey, q1⟩ => ⟨I1.kIn, ?_⟩) hst hpl
  subst ey
  obtain ⟨u, rfl, ry⟩ := vals1 r1
  exact callX_run X.c iC (beq_iff_eq.mp tI) F (B.room.mono hj) I1 (us := [u]) (kw := []) (ws := [u]) (vs := [y]) (by show 1 ≤ sizeLine; rw [sizeLine_eq]; omega) (fun s' a K' => by
      have := hb s' [Value.ref a, u] K' rfl
      simpa using this) (.cons ry .nil) q1
/-- .. by keyword -/
theorem ev_excK (X : XcF C.X.K (C.ca ci) attr) (F : FnOk C.X.prog C.X.w C.X.K C.X.mg C.X.base CX0 k f fd ["self", par] (spInit (C.ca ci) attr)) (B : Bk C j) (hj : k + 1 ≤ j) (iC : PySem.W.findIn C.X.K (.ref (C.ca ci)) "__init__" = some (some (.ref f))) (tI : PySem.W.isFn C.X.K (.ref f) = true)
    (hb : ∀ (s : Shared) (u v : Value), BindsTo s fd ⟨[u], [(par, v)]⟩ [("self", u), (par, v)]) (hg : Gl C.X x) (hm : C.X.mg x = some (.ref (C.ca ci))) (he : EvT C e m) (hdb : (x == ("__debug__" : Str)) = false := by decide +kernel)
    (hall : (backToKw pos (keywordEach [⟨some par, e, kpos⟩] C.X.env)).all (·.1.isSome) = true := by rfl) (hks : (backToKw pos (keywordEach [⟨some par, e, kpos⟩] C.X.env)).filterMap (·.1) = [par] := by rfl)
    (hpl : ((backTo pos (starEach [] C.X.env)).any (·.1) || (backToKw pos (keywordEach [⟨some par, e, kpos⟩] C.X.env)).any (·.1.isNone)) = false := by rfl) :
    EvE C (.Call (.Name x p) [] [⟨some par, e, kpos⟩] pos) (excM ci attr m) := by
  have hk : EvK C [⟨some par, e, kpos⟩] (consM m (M.pure [])) := ek_cons he ek_nil
  refine ⟨fun pins s σ H Q I ⟨Tm, F0, env, S, q⟩ => ?_⟩
  refine wpAny_Call_Name_kw (ld_glob I hg hm ?_ hdb)
  refine PySem.W.callWith_KW0 (h₀ := C.X.base) I.ok.mod.kin X.c.kC hall ?_ hpl
  refine thn (hk.run pos pins s σ H _ I ⟨Tm, F0, env, S, exc_new q⟩) fun ws s2 ⟨zs, H2, I2, rz, y, ey, q1⟩ => ⟨I2.kIn, ?_⟩
  rw [hks]
  subst ey
  obtain ⟨u, rfl, ry⟩ := vals1 rz
  exact callX_run X.c iC (beq_iff_eq.mp tI) F (B.room.mono hj) I2 (us := []) (kw := [(par, u)]) (ws := [u]) (vs := [y]) (Nat.zero_le _) (fun s' a _ => hb s' (.ref a) u) (.cons ry .nil) q1
/-- .. of a class whose __init__ takes nothing and does nothing -/
theorem ev_exc0 (X : XcC C.X.K (C.ca ci)) (F : FnOk C.X.prog C.X.w C.X.K C.X.mg C.X.base CX0 k f fd ["self"] (spNil (C.ca ci))) (B : Bk C j) (hj : k + 1 ≤ j) (iC : PySem.W.findIn C.X.K (.ref (C.ca ci)) "__init__" = some (some (.ref f))) (tI : PySem.W.isFn C.X.K (.ref f) = true)
    (hb : Binds C.X.K fd ["self"] []) (hg : Gl C.X x) (hm : C.X.mg x = some (.ref (C.ca ci))) (hdb : (x == ("__debug__" : Str)) = false := by decide +kernel) :
    EvE C (.Call (.Name x p) [] [] pos) (M.pure (.fz (.exc ci []))) := by
  refine ⟨fun pins s σ H Q I ⟨Tm, F0, env, S, q⟩ => ?_⟩
  refine wpAny_Call_Name_kw (ld_glob I hg hm ?_ hdb)
  refine PySem.W.callWith_KW0 (h₀ := C.X.base) I.ok.mod.kin X.kC rfl ?_ rfl
  refine thn (ek_nil.run pos pins s σ H (fun zs H1 => zs = [] ∧ ∀ a, H1 a = none → spNil (C.ca ci) [.ref a] (upd H1 a (exo a (C.ca ci) none)) (fun v H2 => v = .non ∧ Q (.ref a) H2) (fun _ _ _ => False)) I ⟨Tm, F0, env, S, fun zs F' H' le S' r => ⟨r.unnil, fun a na => ⟨a, rfl, rfl, ?_⟩⟩⟩) fun ws s2 ⟨zs, H2, I2, rz, ez, q1⟩ => ⟨I2.kIn, ?_⟩
  · have q' : ∀ b F1 H1, Le F0 F1 → Sok C.G Tm F1 H1 σ env → RvR C.G Tm F1 H1 σ env (.fz (.exc ci [])) b → Q b H1 := q
    refine q' (.ref a) _ _ (le.trans (Le.upd (S'.new na).1)) (S'.allocF (o := exo a (C.ca ci) none) na) ?_
    show Rep C.G _ (.exc ci []) (.ref a)
    simp only [Rep]
    exact ⟨a, [], rfl, .inl ⟨rfl, upd_same⟩, .nil⟩
  · subst ez
    cases rz
    exact callX_run X iC (beq_iff_eq.mp tI) F (B.room.mono hj) I2 (us := []) (kw := []) (ws := []) (vs := []) (Nat.zero_le _) (fun s' a K' => by
      have := hb s' [Value.ref a] K' rfl
      simpa using this) .nil q1
end
/-! ### a field of it -/
section
variable {C : Cy} {pos : Pos}
theorem pk_exc {G : Gr} {Tm : Amb} {F H : Hp} {σ : St} {env : Env} {x : V} (S : Sok G Tm F H σ env) {c : Nat} {ts : List (Str × T)} (h : Pk G F H (.exc c ts) x) : ∃ a vs, x = .ref a ∧ ExAt H (G.ca c) a vs ∧ RepF G F ts vs := by
  rcases h with h | ⟨a, o, _, _, k⟩
  · simp only [Rep] at h
    obtain ⟨a, vs, e, q, r⟩ := h
    refine ⟨a, vs, e, ?_, r⟩
    have up : ∀ {b : Addr} {o : HO}, F b = some o → isDk o = false → H b = some o := fun {b o} z n => by
      rcases S.sub _ _ z with w | ⟨w, _⟩
      · exact w
      · rw [n] at w
        cases w
    rcases q with ⟨e1, q⟩ | ⟨d, q, q2⟩
    · exact .inl ⟨e1, up q rfl⟩
    · exact .inr ⟨d, up q rfl, up q2 rfl⟩
  · exact k.elim
/-- an instance, as the walks over classes ask for it -/
theorem exc_inst {X : Cx} {pins : List (Addr × Obj)} {σ : St} {H : Hp} {s : Shared} {D a : Addr} {vs : List (Str × V)} (I : Inv X pins σ H s) (h : ExAt H D a vs) :
    ∃ ox od, PySem.W.InstAt s.heap a ox D od ∧ ∀ f v, vs.lookup f = some v → ∃ o u, od = some o ∧ RelV v u ∧ PySem.W.lookIn f o = some (some u) := by
  rcases h with ⟨rfl, ha⟩ | ⟨d, ha, hd⟩
  · obtain ⟨t1, ho⟩ := exo_at I.hok ha
    exact ⟨_, none, ⟨ho, rfl, rfl, trivial⟩, fun f v z => by cases z⟩
  · obtain ⟨t1, ho⟩ := exo_at I.hok ha
    obtain ⟨mA, hns, hr⟩ := exd_at I.hok hd
    obtain ⟨od, hod, hl⟩ := lookIn_ns hns
    refine ⟨_, some od, ⟨ho, rfl, rfl, hod⟩, fun f v z => ?_⟩
    obtain ⟨u, hu, ru⟩ := RelO.some_of (v := v) (o := mA f) (by rw [← z]; exact hr f)
    exact ⟨od, u, rfl, ru, by rw [hl, hu]⟩
def xfT (cs : List Nat) (f : Str) : T → Option T
  | .exc c fs => if c ∈ cs then fs.lookup f else none
  | _ => none
def xfM (cs : List Nat) (f : Str) (m : M Rv) : M T := M.bind m fun r => M.bind (pk r) fun t => M.of (xfT cs f t)
theorem ev_xf {cs : List Nat} {f : Str} {e : Expr} {m : M Rv} (hc : ∀ c ∈ cs, XcF C.X.K (C.ca c) f) (he : EvH C e m) (hb : attributeBase e f C.X.env (eval e C.X.env) = eval e C.X.env := by rfl) : EvT C (.Attribute e f pos) (xfM cs f m) := by
  refine ⟨fun pins s σ H Q I ⟨Tm, F, env, S, q⟩ => ?_⟩
  refine attr_of hb (thn (he.run pins s σ H (fun x H1 => ∃ a D vs v, x = .ref a ∧ XcF C.X.K D f ∧ ExAt H1 D a vs ∧ vs.lookup f = some v ∧ Q v H1) I ⟨Tm, F, env, S, ?_⟩) fun u s1 hh => ?_)
  · refine At.bind (R' := TR C.G) (Q' := Q) q fun r env1 x F1 H1 le1 S1 r1 q1 => ?_
    refine pk_bind S1 r1 q1 fun t p1 q3 => of_some q3 fun w hw q4 => ?_
    cases t <;> first | (cases hw; done) | skip
    rename_i c fs
    simp only [xfT] at hw
    split at hw
    case isFalse => cases hw
    rename_i hm
    obtain ⟨a, vs, rfl, ha, rf⟩ := pk_exc S1 p1
    obtain ⟨v, hv, rv⟩ := rf.lookup hw
    exact ⟨a, _, vs, v, rfl, hc c hm, ha, hv, q4 v F1 H1 Le.rfl S1 rv⟩
  · obtain ⟨x, H1, I1, rx, a, D, vs, v, ex, T, hx, l, q1⟩ := hh
    subst ex
    obtain rfl : u = Value.ref a := rx
    obtain ⟨ox, od, J, hf⟩ := exc_inst I1 hx
    obtain ⟨o, u, rfl, ru, lo⟩ := hf f v l
    exact HandSPX.exc_get I1.kIn J T.c.xf.ga T.c.xf.gg T.c.xf.exC (PySem.W.findObj_own T.c.xf.hdC T.no rfl lo) (handed_of ru) ⟨v, H1, I1.tok _, ru, q1⟩
/-! ### isinstance of it -/
def xisT (em : Nat → Option Bool) : T → Option Bool
  | .exc c _ => em c
  | _ => none
def xisM (em : Nat → Option Bool) (m : M Rv) : M T := M.bind m fun r => M.bind (pk r) fun t => M.bind (M.of (xisT em t)) fun b => M.pure (.bl b)
theorem call_xis {X : Cx} {u : Value} : CallR X (.builtin "isinstance") (fun xs H Q => ∃ (c : V) (b : Bool) (a D : Addr) (vs : List (Str × V)), xs = [.ref a, c] ∧ ClsV c u ∧ XcC X.K D ∧ ExAt H D a vs ∧ PySem.W.kitOne X.K (.ref D) u = some b ∧ Q (.bl b) H) := by
  intro pins s σ H xs us Q I r h
  obtain ⟨c, b, a, D, vs, rfl, k, T, hx, hk, q⟩ := h
  obtain ⟨u1, u2, rfl, r1, r2⟩ := vals2 r
  have e2 := k.eq r2
  subst e2
  cases r1
  obtain ⟨ox, od, J, _⟩ := exc_inst I hx
  have kit := PySem.W.kitx_exc (K := X.K) (x := a) (ox := ox) (od := od) T.cls T.xf.ga T.xf.gg T.xf.exC T.cat T.get T.tks T.obj
  exact PySem.W.kia_one kit I.kIn J hk (fun z => nomatch z) fun tk => ⟨.bl b, H, I.tok tk, rfl, q⟩
theorem ev_xis {em : Nat → Option Bool} {n : Str} {c : V} {u : Value} {p p2 pos : Pos} {a : Expr} {m : M Rv} (hk : ∀ k b, em k = some b → XcC C.X.K (C.ca k) ∧ PySem.W.kitOne C.X.K (.ref (C.ca k)) u = some b) (h : EvH C a m)
    (hg : Gl C.X "isinstance") (hm : C.X.mg "isinstance" = none) (kc : ClsV c u) (hu : PE C.X (.Name n p2) (tC c))
    (he : starEach [a, .Name n p2] C.X.env = (false, eval a C.X.env) :: starEach [.Name n p2] C.X.env := by rfl) (hpl : (backTo pos (starEach [.Name n p2] C.X.env)).any (·.1) = false := by rfl) :
    EvT C (.Call (.Name "isinstance" p) [a, .Name n p2] [] pos) (xisM em m) := by
  refine pe_imp (pe_callB (call_xis (u := u)) hg hm PyProof.Rows.boot_isinstance (pa_cons h (pa_cons hu pa_nil) he) (by decide) (by decide) he hpl) fun σ H Q ⟨Tm, F, env, S, q⟩ => ⟨Tm, F, env, S, ?_⟩
  refine At.bind (R' := TR C.G) (Q' := Q) q fun r env1 x F1 H1 le1 S1 r1 q1 => ?_
  refine pk_bind S1 r1 q1 fun t p1 q2 => ?_
  have q2' : At C (TR C.G) Tm F1 σ Q ((M.of (xisT em t) env1).bind fun b => M.pure (.bl b)) := q2
  cases hi : xisT em t with
  | none =>
    rw [hi] at q2'
    exact q2'.elim
  | some b =>
    rw [hi] at q2'
    have fin := q2' (.bl b) F1 H1 Le.rfl S1 (mk_bl b)
    cases t <;> first | (cases hi; done) | skip
    rename_i k fs
    obtain ⟨o, vs, ex, ho, _⟩ := pk_exc S1 p1
    subst ex
    obtain ⟨T, hkk⟩ := hk k b hi
    exact ⟨c, b, o, _, vs, rfl, kc, T, ho, hkk, fin⟩
end
end Ev
/-! X3: a text and a list times an int; repr of an empty dict; tables of classes. -/
namespace Ev
open PySem PySem.Spec L2
section
variable {C : Cy}
/-- a text times a small number -/
def mulX : T → T → Option Rv
  | .int i, .int j => mulT (.int i) (.int j)
  | .str s, .int k => if 0 ≤ k ∧ k ≤ 1000 ∧ s.length ≤ 1000 then some (.fz (.str (Txt.mul s k))) else none
  | _, _ => none
theorem op_mulS : OpR C.X (binaryOp .Mult) (fun x y H Q => ∃ (s : Str) (k : Int), x = .str s ∧ y = .int k ∧ 0 ≤ k ∧ k ≤ 1000 ∧ s.length ≤ 1000 ∧ Q (.str (Txt.mul s k)) H) := by
  intro pins st σ H x y v u Q I rx ry h
  obtain ⟨s, k, rfl, rfl, h0, h1, h2, q⟩ := h
  obtain ⟨t, rfl⟩ := rx
  obtain ⟨t', rfl⟩ := ry
  refine SB.mul ⟨?_, fun a b => ?_, fun a b => ?_⟩ fun z n => ⟨.str _, H, I.tok n, ⟨z, rfl⟩, q⟩
  · rw [decide_eq_false (by omega), decide_eq_false (by omega)]
    rfl
  · have hk : 0 < k := by omega
    refine Int.not_lt.mpr ((Int.le_ediv_iff_mul_le hk).mpr ?_)
    have : (s.length : Int) * k ≤ 1000 * 1000 := Int.mul_le_mul (by omega) h1 h0 (by omega)
    omega
  · have : s.length * k.toNat ≤ 1000 * 1000 := Nat.mul_le_mul h2 (by omega)
    refine decide_eq_false ?_
    rw [sizeLine_eq]
    omega
theorem ok_mulX : OpOk C .Mult mulX := by
  refine ⟨_, op_mul.or op_mulS, fun {Tm F H σ env x y t u w Q} S rx ry hw q => ?_⟩
  cases t <;> cases u <;> first | (cases hw; done) | skip
  · simp only [mulX, mulT] at hw
    split at hw
    · rename_i hz
      cases hw
      exact .inl ⟨_, _, rep_int rx, rep_int ry, hz, q _ F H Le.rfl S (mk_int _)⟩
    · cases hw
  · simp only [mulX] at hw
    split at hw
    · rename_i hz
      cases hw
      exact .inr ⟨_, _, rep_str rx, rep_int ry, hz.1, hz.2.1, hz.2.2, q _ F H Le.rfl S (mk_str _)⟩
    · cases hw
theorem RepL.times {G : Gr} {F : Hp} {ts : List T} {xs : List V} (r : RepL G F ts xs) : ∀ n : Nat, RepL G F (List.replicate n ts).flatten (List.replicate n xs).flatten
  | 0 => .nil
  | n + 1 => by
    rw [List.replicate_succ, List.replicate_succ, List.flatten_cons, List.flatten_cons]
    exact r.append (RepL.times r n)
/-- a new list times a written number -/
def repM (k : Nat) (m : M Rv) : M Rv := M.bind m fun r => match r with
  | .ow (.lst ts) => if ts.length * k ≤ sizeLine then M.pure (.ow (.lst (List.replicate k ts).flatten)) else M.no
  | _ => M.no
theorem ev_repC {a : Expr} {m : M Rv} {k j : Nat} {p pos : Pos} (h : EvE C a m) (hk : k ≤ 1000000 := by decide) : EvE C (.BinOp a .Mult (.Constant (.int (k : Int)) j p) pos) (repM k m) := by
  refine pe_imp (pe_op op_rep h pe_int) fun σ H Q ⟨Tm, F, env, S, q⟩ => ⟨Tm, F, env, S, ?_⟩
  refine At.bind (R' := RvR C.G) (Q' := Q) q fun r env1 x F1 H1 le1 S1 r1 q1 => ?_
  cases r with
  | fz t => exact q1.elim
  | bo i => exact q1.elim
  | ow t =>
    cases t <;> first | exact q1.elim | skip
    rename_i ts
    obtain ⟨a, o, ex, ha, hf, ht, ⟨xs, eo, rl⟩, _⟩ := r1
    subst ex eo
    have q2 : At C (RvR C.G) Tm F1 σ Q ((if ts.length * k ≤ sizeLine then M.pure (.ow (.lst (List.replicate k ts).flatten)) else M.no : M Rv) env1) := q1
    split at q2
    case isFalse => exact q2.elim
    rename_i hz
    refine ⟨a, k, xs, rfl, rfl, ha, by omega, by omega, by rw [rl.length, Int.toNat_natCast]; exact hz, fun p np => ?_⟩
    rw [Int.toNat_natCast]
    have q3 : ∀ b F' H', Le F1 F' → Sok C.G Tm F' H' σ env1 → RvR C.G Tm F' H' σ env1 (.ow (.lst (List.replicate k ts).flatten)) b → Q b H' := q2
    exact q3 _ F1 _ Le.rfl (S1.alloc np) (RvR.new S1 np ⟨_, rfl, rl.times k⟩)
/-! ### repr of an empty dict too -/
def reprX2 : T → Option Rv
  | .dK [] => some (.fz (.str "{}"))
  | t => reprT t
theorem call_repr0 {X : Cx} (hg : X.A.guards = some []) (hu : X.A.units + 190 < cLine) : CallR X (.builtin "repr") (fun xs H Q => ∃ a, xs = [.ref a] ∧ Hd H a (.dK []) ∧ Q (.str "{}") H) := by
  intro pins s σ H xs us Q I r h
  obtain ⟨a, rfl, hd, q⟩ := h
  obtain ⟨u, rfl, ru⟩ := vals1 r
  cases ru
  have ok : ObjOk X.prog X.w H s.heap a (.dK []) := hd.rd.ok I.hok
  obtain ⟨_, hs, vs, kv, o, es, ep, ho, ex, hdt, _, prs, _⟩ := ok
  cases kv
  have ees : es.toList = [] := by
    cases e : es.toList with
    | nil => rfl
    | cons x r =>
      rw [e] at prs
      cases prs
  have rd : Reads s.heap (.ref a) (.dict []) (a :: [] ++ []) := by
    refine .dict ho ex.1 hdt ?_ ?_
    · rw [ees]; exact .nil
    · rw [ees]; exact .nil
  refine PySem.repr_of_reads' rd (by rfl) (fun _ => ?_) hg (by have : (PyData.dict []).depth + 1 ≤ 190 := by decide +kernel
                                                               omega) (fun b o e => e) (fun h' u tk k => ?_) (by decide +kernel)
  · intro z
    have z' : sysModules = a := by simpa using z
    subst z'
    simp at hs
  · exact ⟨.str "{}", H, I.kept k, ⟨u, rfl⟩, q⟩
theorem ok_reprX (hg : C.X.A.guards = some []) (hu : Rm C) : Call1Ok C (.builtin "repr") reprX2 := by
  obtain ⟨r, hr, hq⟩ := ok_repr (C := C) hg hu
  refine ⟨_, hr.or (call_repr0 hg hu), fun {Tm F H σ env x t w Q} S p hw q => ?_⟩
  unfold reprX2 at hw
  split at hw
  · cases hw
    obtain ⟨a, xs, rfl, hd, rk⟩ := pk_dK S p
    have e : xs = [] := by simpa only [RepK] using rk
    subst e
    exact .inr ⟨a, rfl, hd, q _ F H Le.rfl S (mk_str _)⟩
  · exact .inl (hq S p hw q)
end
/-! ### tables -/
def tabL (tab : List (Nat × Bool)) (k : Nat) : Option Bool := tab.lookup k
def kitAllB (K : PySem.W.Frag) (ca : Nat → Addr) (u : Value) (ks : List Nat) (tab : List (Nat × Bool)) : Bool := tab.all fun p => ks.contains p.1 && decide (PySem.W.kitOne K (.ref (ca p.1)) u = some p.2)
def xcAllB (K : PySem.W.Frag) (ca : Nat → Addr) (ks : List Nat) : Bool := ks.all fun k => xcB K (ca k)
def xfAllB (K : PySem.W.Frag) (ca : Nat → Addr) (f : Str) (ks : List Nat) : Bool := ks.all fun k => xcFB K (ca k) f
theorem tab_mem {k : Nat} {b : Bool} : ∀ {tab : List (Nat × Bool)}, tab.lookup k = some b → (k, b) ∈ tab
  | [], h => by cases h
  | (a, c) :: r, h => by
    rw [List.lookup_cons] at h
    split at h
    · rename_i e
      cases h
      rw [beq_iff_eq.mp e]
      exact List.mem_cons_self
    · exact List.mem_cons_of_mem _ (tab_mem h)
theorem kitAll_ok {K : PySem.W.Frag} {ca : Nat → Addr} {u : Value} {ks : List Nat} {tab : List (Nat × Bool)} (h1 : xcAllB K ca ks = true) (h : kitAllB K ca u ks tab = true) :
    ∀ k b, tabL tab k = some b → XcC K (ca k) ∧ PySem.W.kitOne K (.ref (ca k)) u = some b := fun k b e => by
  have q := List.all_eq_true.mp h _ (tab_mem e)
  obtain ⟨q1, q2⟩ := Bool.and_eq_true_iff.mp q
  exact ⟨xcB_ok (List.all_eq_true.mp h1 k (by simpa using q1)), of_decide_eq_true q2⟩
theorem xfAll_ok {K : PySem.W.Frag} {ca : Nat → Addr} {f : Str} {ks : List Nat} (h : xfAllB K ca f ks = true) : ∀ k ∈ ks, XcF K (ca k) f := fun k hk => xcFB_ok (List.all_eq_true.mp h k hk)
end Ev
namespace K01
open PySem PySem.Spec L2 Ev
def top (i : Nat) : Stmt := PySem.Challenge.pw_addednames_k01_errors.main.body.getD i (.Pass ⟨0, 0, 0, 0⟩)
def mth (i j : Nat) : Stmt := (clsBody (top i)).getD j (.Pass ⟨0, 0, 0, 0⟩)
def caOf (K : PySem.W.Frag) (i : Nat) : Addr := He.ga K ((["NamesError", "BadPlace", "BadThing", "BadClass", "BadLibrary", "BadImport", "BadOwn", "BadScope", "BadUse", "BadPart", "BadSpot", "AlreadyThere", "NotRight", "NotTouched", "UnknownCase", "BadName", "BadAddition", "BadMove", "BadText", "BadCommand", "BadBook", "FailedDeed", "UnknownName", "UnknownThing", "NoUse", "TooMany", "NothingToUndo"] : List Str).getD i "")
def xks : List Nat := [1, 2, 3, 4, 5, 6, 7, 8, 9, 10, 11, 12, 13, 14, 15, 16, 17, 18, 19, 20, 21, 22, 23, 24, 25, 26]
def xt_AlreadyThere : List (Nat × Bool) := [(1, false), (2, false), (3, false), (4, false), (5, false), (6, false), (7, false), (8, false), (9, false), (10, false), (11, true), (12, false), (13, false), (14, false), (15, false), (16, false), (17, false), (18, false), (19, false), (20, false), (21, false), (22, false), (23, false), (24, false), (25, false), (26, false)]
def xt_BadAddition : List (Nat × Bool) := [(1, false), (2, false), (3, false), (4, false), (5, false), (6, false), (7, false), (8, false), (9, false), (10, false), (11, false), (12, false), (13, false), (14, false), (15, false), (16, true), (17, false), (18, false), (19, false), (20, false), (21, false), (22, false), (23, false), (24, false), (25, false), (26, false)]
def xt_BadBook : List (Nat × Bool) := [(1, false), (2, false), (3, false), (4, false), (5, false), (6, false), (7, false), (8, false), (9, false), (10, false), (11, false), (12, false), (13, false), (14, false), (15, false), (16, false), (17, false), (18, false), (19, false), (20, true), (21, false), (22, false), (23, false), (24, false), (25, false), (26, false)]
def xt_BadClass : List (Nat × Bool) := [(1, false), (2, false), (3, true), (4, false), (5, false), (6, false), (7, false), (8, false), (9, false), (10, false), (11, false), (12, false), (13, false), (14, false), (15, false), (16, false), (17, false), (18, false), (19, false), (20, false), (21, false), (22, false), (23, false), (24, false), (25, false), (26, false)]
def xt_BadCommand : List (Nat × Bool) := [(1, false), (2, false), (3, false), (4, false), (5, false), (6, false), (7, false), (8, false), (9, false), (10, false), (11, false), (12, false), (13, false), (14, false), (15, false), (16, false), (17, false), (18, false), (19, true), (20, false), (21, false), (22, false), (23, false), (24, false), (25, false), (26, false)]
def xt_BadImport : List (Nat × Bool) := [(1, false), (2, false), (3, false), (4, false), (5, true), (6, false), (7, false), (8, false), (9, false), (10, false), (11, false), (12, false), (13, false), (14, false), (15, false), (16, false), (17, false), (18, false), (19, false), (20, false), (21, false), (22, false), (23, false), (24, false), (25, false), (26, false)]
def xt_BadLibrary : List (Nat × Bool) := [(1, false), (2, false), (3, false), (4, true), (5, false), (6, false), (7, false), (8, false), (9, false), (10, false), (11, false), (12, false), (13, false), (14, false), (15, false), (16, false), (17, false), (18, false), (19, false), (20, false), (21, false), (22, false), (23, false), (24, false), (25, false), (26, false)]
def xt_BadMove : List (Nat × Bool) := [(1, false), (2, false), (3, false), (4, false), (5, false), (6, false), (7, false), (8, false), (9, false), (10, false), (11, false), (12, false), (13, false), (14, false), (15, false), (16, false), (17, true), (18, false), (19, false), (20, false), (21, false), (22, false), (23, false), (24, false), (25, false), (26, false)]
def xt_BadName : List (Nat × Bool) := [(1, false), (2, false), (3, false), (4, false), (5, false), (6, false), (7, false), (8, false), (9, false), (10, false), (11, false), (12, false), (13, false), (14, false), (15, true), (16, false), (17, false), (18, false), (19, false), (20, false), (21, false), (22, false), (23, false), (24, false), (25, false), (26, false)]
def xt_BadOwn : List (Nat × Bool) := [(1, false), (2, false), (3, false), (4, false), (5, false), (6, true), (7, false), (8, false), (9, false), (10, false), (11, false), (12, false), (13, false), (14, false), (15, false), (16, false), (17, false), (18, false), (19, false), (20, false), (21, false), (22, false), (23, false), (24, false), (25, false), (26, false)]
def xt_BadPart : List (Nat × Bool) := [(1, false), (2, false), (3, false), (4, false), (5, false), (6, false), (7, false), (8, false), (9, true), (10, false), (11, false), (12, false), (13, false), (14, false), (15, false), (16, false), (17, false), (18, false), (19, false), (20, false), (21, false), (22, false), (23, false), (24, false), (25, false), (26, false)]
def xt_BadPlace : List (Nat × Bool) := [(1, true), (2, false), (3, false), (4, false), (5, false), (6, false), (7, false), (8, false), (9, false), (10, false), (11, false), (12, false), (13, false), (14, false), (15, false), (16, false), (17, false), (18, false), (19, false), (20, false), (21, false), (22, false), (23, false), (24, false), (25, false), (26, false)]
def xt_BadScope : List (Nat × Bool) := [(1, false), (2, false), (3, false), (4, false), (5, false), (6, false), (7, true), (8, false), (9, false), (10, false), (11, false), (12, false), (13, false), (14, false), (15, false), (16, false), (17, false), (18, false), (19, false), (20, false), (21, false), (22, false), (23, false), (24, false), (25, false), (26, false)]
def xt_BadSpot : List (Nat × Bool) := [(1, false), (2, false), (3, false), (4, false), (5, false), (6, false), (7, false), (8, false), (9, false), (10, true), (11, false), (12, false), (13, false), (14, false), (15, false), (16, false), (17, false), (18, false), (19, false), (20, false), (21, false), (22, false), (23, false), (24, false), (25, false), (26, false)]
def xt_BadText : List (Nat × Bool) := [(1, false), (2, false), (3, false), (4, false), (5, false), (6, false), (7, false), (8, false), (9, false), (10, false), (11, false), (12, false), (13, false), (14, false), (15, false), (16, false), (17, false), (18, true), (19, false), (20, false), (21, false), (22, false), (23, false), (24, false), (25, false), (26, false)]
def xt_BadThing : List (Nat × Bool) := [(1, false), (2, true), (3, false), (4, false), (5, false), (6, false), (7, false), (8, false), (9, false), (10, false), (11, false), (12, false), (13, false), (14, false), (15, false), (16, false), (17, false), (18, false), (19, false), (20, false), (21, false), (22, false), (23, false), (24, false), (25, false), (26, false)]
def xt_BadUse : List (Nat × Bool) := [(1, false), (2, false), (3, false), (4, false), (5, false), (6, false), (7, false), (8, true), (9, false), (10, false), (11, false), (12, false), (13, false), (14, false), (15, false), (16, false), (17, false), (18, false), (19, false), (20, false), (21, false), (22, false), (23, false), (24, false), (25, false), (26, false)]
def xt_FailedDeed : List (Nat × Bool) := [(1, false), (2, false), (3, false), (4, false), (5, false), (6, false), (7, false), (8, false), (9, false), (10, false), (11, false), (12, false), (13, false), (14, false), (15, false), (16, false), (17, false), (18, false), (19, false), (20, false), (21, true), (22, false), (23, false), (24, false), (25, false), (26, false)]
def xt_IndexError : List (Nat × Bool) := [(1, false), (2, false), (3, false), (4, false), (5, false), (6, false), (7, false), (8, false), (9, false), (10, false), (11, false), (12, false), (13, false), (14, false), (15, false), (16, false), (17, false), (18, false), (19, false), (20, false), (21, false), (22, false), (23, false), (24, true), (25, false), (26, false)]
def xt_KeyError : List (Nat × Bool) := [(1, false), (2, false), (3, false), (4, false), (5, false), (6, false), (7, false), (8, false), (9, false), (10, false), (11, false), (12, false), (13, false), (14, false), (15, false), (16, false), (17, false), (18, false), (19, false), (20, false), (21, false), (22, true), (23, true), (24, false), (25, false), (26, false)]
def xt_NamesError : List (Nat × Bool) := [(1, true), (2, true), (3, true), (4, true), (5, true), (6, true), (7, true), (8, true), (9, true), (10, true), (11, true), (12, true), (13, true), (14, true), (15, true), (16, true), (17, true), (18, true), (19, true), (20, true), (21, true), (22, false), (23, false), (24, false), (25, false), (26, false)]
def xt_NoUse : List (Nat × Bool) := [(1, false), (2, false), (3, false), (4, false), (5, false), (6, false), (7, false), (8, false), (9, false), (10, false), (11, false), (12, false), (13, false), (14, false), (15, false), (16, false), (17, false), (18, false), (19, false), (20, false), (21, false), (22, false), (23, false), (24, true), (25, false), (26, false)]
def xt_NotRight : List (Nat × Bool) := [(1, false), (2, false), (3, false), (4, false), (5, false), (6, false), (7, false), (8, false), (9, false), (10, false), (11, false), (12, true), (13, false), (14, false), (15, false), (16, false), (17, false), (18, false), (19, false), (20, false), (21, false), (22, false), (23, false), (24, false), (25, false), (26, false)]
def xt_NotTouched : List (Nat × Bool) := [(1, false), (2, false), (3, false), (4, false), (5, false), (6, false), (7, false), (8, false), (9, false), (10, false), (11, false), (12, false), (13, true), (14, false), (15, false), (16, false), (17, false), (18, false), (19, false), (20, false), (21, false), (22, false), (23, false), (24, false), (25, false), (26, false)]
def xt_OverflowError : List (Nat × Bool) := [(1, false), (2, false), (3, false), (4, false), (5, false), (6, false), (7, false), (8, false), (9, false), (10, false), (11, false), (12, false), (13, false), (14, false), (15, false), (16, false), (17, false), (18, false), (19, false), (20, false), (21, false), (22, false), (23, false), (24, false), (25, true), (26, false)]
def xt_RuntimeError : List (Nat × Bool) := [(1, false), (2, false), (3, false), (4, false), (5, false), (6, false), (7, false), (8, false), (9, false), (10, false), (11, false), (12, false), (13, false), (14, false), (15, false), (16, false), (17, false), (18, false), (19, false), (20, false), (21, false), (22, false), (23, false), (24, false), (25, false), (26, true)]
def xt_TooMany : List (Nat × Bool) := [(1, false), (2, false), (3, false), (4, false), (5, false), (6, false), (7, false), (8, false), (9, false), (10, false), (11, false), (12, false), (13, false), (14, false), (15, false), (16, false), (17, false), (18, false), (19, false), (20, false), (21, false), (22, false), (23, false), (24, false), (25, true), (26, false)]
def xt_UnknownCase : List (Nat × Bool) := [(1, false), (2, false), (3, false), (4, false), (5, false), (6, false), (7, false), (8, false), (9, false), (10, false), (11, false), (12, false), (13, false), (14, true), (15, false), (16, false), (17, false), (18, false), (19, false), (20, false), (21, false), (22, false), (23, false), (24, false), (25, false), (26, false)]
def xt_UnknownName : List (Nat × Bool) := [(1, false), (2, false), (3, false), (4, false), (5, false), (6, false), (7, false), (8, false), (9, false), (10, false), (11, false), (12, false), (13, false), (14, false), (15, false), (16, false), (17, false), (18, false), (19, false), (20, false), (21, false), (22, true), (23, false), (24, false), (25, false), (26, false)]
def xt_UnknownThing : List (Nat × Bool) := [(1, false), (2, false), (3, false), (4, false), (5, false), (6, false), (7, false), (8, false), (9, false), (10, false), (11, false), (12, false), (13, false), (14, false), (15, false), (16, false), (17, false), (18, false), (19, false), (20, false), (21, false), (22, false), (23, true), (24, false), (25, false), (26, false)]
def xt_ValueError : List (Nat × Bool) := [(1, true), (2, true), (3, true), (4, true), (5, true), (6, true), (7, true), (8, true), (9, true), (10, true), (11, true), (12, true), (13, true), (14, true), (15, true), (16, true), (17, true), (18, true), (19, true), (20, true), (21, true), (22, false), (23, false), (24, false), (25, false), (26, false)]
def xf_addition : List Nat := [13]
def xf_index : List Nat := [3, 4, 5, 6, 7, 8, 18, 21, 24]
def xf_label : List Nat := [14]
def xf_limit : List Nat := [25]
def xf_line : List Nat := [19]
def xf_move : List Nat := [17]
def xf_name : List Nat := [15, 22]
def xf_part : List Nat := [9]
def xf_place : List Nat := [1, 11]
def xf_problems : List Nat := [12]
def xf_spot : List Nat := [10]
def xf_thing : List Nat := [2, 23]
def xf_value : List Nat := [16, 20]
/-- what the top leaves -/
structure Fx (K : PySem.W.Frag) (w : World) (mg : Str → Option Value) : Prop where
  g_ulaw_value : mg "_law_value" = some (.ref (He.ga K "_law_value"))
  g_ulaw_by_place : mg "_law_by_place" = some (.ref (He.ga K "_law_by_place"))
  g_ulaw_by_name : mg "_law_by_name" = some (.ref (He.ga K "_law_by_name"))
  g_ulaw_kept : mg "_law_kept" = some (.ref (He.ga K "_law_kept"))
  g_ulaw_below : mg "_law_below" = some (.ref (He.ga K "_law_below"))
  g_ulaw_bases : mg "_law_bases" = some (.ref (He.ga K "_law_bases"))
  g_ulaw_due_bases : mg "_law_due_bases" = some (.ref (He.ga K "_law_due_bases"))
  g_law : mg "law" = some (.ref (He.ga K "law"))
  z_IndexError : mg "IndexError" = none
  z_KeyError : mg "KeyError" = none
  z_OverflowError : mg "OverflowError" = none
  z_RuntimeError : mg "RuntimeError" = none
  z_ValueError : mg "ValueError" = none
  z_abs : mg "abs" = none
  z_int : mg "int" = none
  z_isinstance : mg "isinstance" = none
  z_len : mg "len" = none
  z_max : mg "max" = none
  z_min : mg "min" = none
  z_range : mg "range" = none
  z_repr : mg "repr" = none
  g_NamesError : mg "NamesError" = some (.ref (He.ga K "NamesError"))
  g_BadPlace : mg "BadPlace" = some (.ref (He.ga K "BadPlace"))
  g_BadThing : mg "BadThing" = some (.ref (He.ga K "BadThing"))
  g_BadClass : mg "BadClass" = some (.ref (He.ga K "BadClass"))
  g_BadLibrary : mg "BadLibrary" = some (.ref (He.ga K "BadLibrary"))
  g_BadImport : mg "BadImport" = some (.ref (He.ga K "BadImport"))
  g_BadOwn : mg "BadOwn" = some (.ref (He.ga K "BadOwn"))
  g_BadScope : mg "BadScope" = some (.ref (He.ga K "BadScope"))
  g_BadUse : mg "BadUse" = some (.ref (He.ga K "BadUse"))
  g_BadPart : mg "BadPart" = some (.ref (He.ga K "BadPart"))
  g_BadSpot : mg "BadSpot" = some (.ref (He.ga K "BadSpot"))
  g_AlreadyThere : mg "AlreadyThere" = some (.ref (He.ga K "AlreadyThere"))
  g_NotRight : mg "NotRight" = some (.ref (He.ga K "NotRight"))
  g_NotTouched : mg "NotTouched" = some (.ref (He.ga K "NotTouched"))
  g_UnknownCase : mg "UnknownCase" = some (.ref (He.ga K "UnknownCase"))
  g_BadName : mg "BadName" = some (.ref (He.ga K "BadName"))
  g_BadAddition : mg "BadAddition" = some (.ref (He.ga K "BadAddition"))
  g_BadMove : mg "BadMove" = some (.ref (He.ga K "BadMove"))
  g_BadText : mg "BadText" = some (.ref (He.ga K "BadText"))
  g_BadCommand : mg "BadCommand" = some (.ref (He.ga K "BadCommand"))
  g_BadBook : mg "BadBook" = some (.ref (He.ga K "BadBook"))
  g_FailedDeed : mg "FailedDeed" = some (.ref (He.ga K "FailedDeed"))
  g_UnknownName : mg "UnknownName" = some (.ref (He.ga K "UnknownName"))
  g_UnknownThing : mg "UnknownThing" = some (.ref (He.ga K "UnknownThing"))
  g_NoUse : mg "NoUse" = some (.ref (He.ga K "NoUse"))
  g_TooMany : mg "TooMany" = some (.ref (He.ga K "TooMany"))
  g_NothingToUndo : mg "NothingToUndo" = some (.ref (He.ga K "NothingToUndo"))
  xm_AlreadyThere : XcF K (He.ga K "AlreadyThere") "place"
  i_AlreadyThere : Meth K (He.ga K "AlreadyThere") "__init__" (He.ma K (He.ga K "AlreadyThere") "__init__")
  xm_BadAddition : XcF K (He.ga K "BadAddition") "value"
  i_BadAddition : Meth K (He.ga K "BadAddition") "__init__" (He.ma K (He.ga K "BadAddition") "__init__")
  xm_BadBook : XcF K (He.ga K "BadBook") "value"
  i_BadBook : Meth K (He.ga K "BadBook") "__init__" (He.ma K (He.ga K "BadBook") "__init__")
  xm_BadClass : XcF K (He.ga K "BadClass") "index"
  i_BadClass : Meth K (He.ga K "BadClass") "__init__" (He.ma K (He.ga K "BadClass") "__init__")
  xm_BadCommand : XcF K (He.ga K "BadCommand") "line"
  i_BadCommand : Meth K (He.ga K "BadCommand") "__init__" (He.ma K (He.ga K "BadCommand") "__init__")
  xm_BadImport : XcF K (He.ga K "BadImport") "index"
  i_BadImport : Meth K (He.ga K "BadImport") "__init__" (He.ma K (He.ga K "BadImport") "__init__")
  xm_BadLibrary : XcF K (He.ga K "BadLibrary") "index"
  i_BadLibrary : Meth K (He.ga K "BadLibrary") "__init__" (He.ma K (He.ga K "BadLibrary") "__init__")
  xm_BadMove : XcF K (He.ga K "BadMove") "move"
  i_BadMove : Meth K (He.ga K "BadMove") "__init__" (He.ma K (He.ga K "BadMove") "__init__")
  xm_BadName : XcF K (He.ga K "BadName") "name"
  i_BadName : Meth K (He.ga K "BadName") "__init__" (He.ma K (He.ga K "BadName") "__init__")
  xm_BadOwn : XcF K (He.ga K "BadOwn") "index"
  i_BadOwn : Meth K (He.ga K "BadOwn") "__init__" (He.ma K (He.ga K "BadOwn") "__init__")
  xm_BadPart : XcF K (He.ga K "BadPart") "part"
  i_BadPart : Meth K (He.ga K "BadPart") "__init__" (He.ma K (He.ga K "BadPart") "__init__")
  xm_BadPlace : XcF K (He.ga K "BadPlace") "place"
  i_BadPlace : Meth K (He.ga K "BadPlace") "__init__" (He.ma K (He.ga K "BadPlace") "__init__")
  xm_BadScope : XcF K (He.ga K "BadScope") "index"
  i_BadScope : Meth K (He.ga K "BadScope") "__init__" (He.ma K (He.ga K "BadScope") "__init__")
  xm_BadSpot : XcF K (He.ga K "BadSpot") "spot"
  i_BadSpot : Meth K (He.ga K "BadSpot") "__init__" (He.ma K (He.ga K "BadSpot") "__init__")
  xm_BadText : XcF K (He.ga K "BadText") "index"
  i_BadText : Meth K (He.ga K "BadText") "__init__" (He.ma K (He.ga K "BadText") "__init__")
  xm_BadThing : XcF K (He.ga K "BadThing") "thing"
  i_BadThing : Meth K (He.ga K "BadThing") "__init__" (He.ma K (He.ga K "BadThing") "__init__")
  xm_BadUse : XcF K (He.ga K "BadUse") "index"
  i_BadUse : Meth K (He.ga K "BadUse") "__init__" (He.ma K (He.ga K "BadUse") "__init__")
  xm_FailedDeed : XcF K (He.ga K "FailedDeed") "index"
  i_FailedDeed : Meth K (He.ga K "FailedDeed") "__init__" (He.ma K (He.ga K "FailedDeed") "__init__")
  xm_NoUse : XcF K (He.ga K "NoUse") "index"
  i_NoUse : Meth K (He.ga K "NoUse") "__init__" (He.ma K (He.ga K "NoUse") "__init__")
  xm_NotRight : XcF K (He.ga K "NotRight") "problems"
  i_NotRight : Meth K (He.ga K "NotRight") "__init__" (He.ma K (He.ga K "NotRight") "__init__")
  xm_NotTouched : XcF K (He.ga K "NotTouched") "addition"
  i_NotTouched : Meth K (He.ga K "NotTouched") "__init__" (He.ma K (He.ga K "NotTouched") "__init__")
  xm_NothingToUndo : XcC K (He.ga K "NothingToUndo")
  i_NothingToUndo : Meth K (He.ga K "NothingToUndo") "__init__" (He.ma K (He.ga K "NothingToUndo") "__init__")
  xm_TooMany : XcF K (He.ga K "TooMany") "limit"
  i_TooMany : Meth K (He.ga K "TooMany") "__init__" (He.ma K (He.ga K "TooMany") "__init__")
  xm_UnknownCase : XcF K (He.ga K "UnknownCase") "label"
  i_UnknownCase : Meth K (He.ga K "UnknownCase") "__init__" (He.ma K (He.ga K "UnknownCase") "__init__")
  xm_UnknownName : XcF K (He.ga K "UnknownName") "name"
  i_UnknownName : Meth K (He.ga K "UnknownName") "__init__" (He.ma K (He.ga K "UnknownName") "__init__")
  xm_UnknownThing : XcF K (He.ga K "UnknownThing") "thing"
  i_UnknownThing : Meth K (He.ga K "UnknownThing") "__init__" (He.ma K (He.ga K "UnknownThing") "__init__")
  xk_AlreadyThere : ∀ k b, tabL xt_AlreadyThere k = some b → XcC K (caOf K k) ∧ PySem.W.kitOne K (.ref (caOf K k)) (.ref (He.ga K "AlreadyThere")) = some b
  xk_BadAddition : ∀ k b, tabL xt_BadAddition k = some b → XcC K (caOf K k) ∧ PySem.W.kitOne K (.ref (caOf K k)) (.ref (He.ga K "BadAddition")) = some b
  xk_BadBook : ∀ k b, tabL xt_BadBook k = some b → XcC K (caOf K k) ∧ PySem.W.kitOne K (.ref (caOf K k)) (.ref (He.ga K "BadBook")) = some b
  xk_BadClass : ∀ k b, tabL xt_BadClass k = some b → XcC K (caOf K k) ∧ PySem.W.kitOne K (.ref (caOf K k)) (.ref (He.ga K "BadClass")) = some b
  xk_BadCommand : ∀ k b, tabL xt_BadCommand k = some b → XcC K (caOf K k) ∧ PySem.W.kitOne K (.ref (caOf K k)) (.ref (He.ga K "BadCommand")) = some b
  xk_BadImport : ∀ k b, tabL xt_BadImport k = some b → XcC K (caOf K k) ∧ PySem.W.kitOne K (.ref (caOf K k)) (.ref (He.ga K "BadImport")) = some b
  xk_BadLibrary : ∀ k b, tabL xt_BadLibrary k = some b → XcC K (caOf K k) ∧ PySem.W.kitOne K (.ref (caOf K k)) (.ref (He.ga K "BadLibrary")) = some b
  xk_BadMove : ∀ k b, tabL xt_BadMove k = some b → XcC K (caOf K k) ∧ PySem.W.kitOne K (.ref (caOf K k)) (.ref (He.ga K "BadMove")) = some b
  xk_BadName : ∀ k b, tabL xt_BadName k = some b → XcC K (caOf K k) ∧ PySem.W.kitOne K (.ref (caOf K k)) (.ref (He.ga K "BadName")) = some b
  xk_BadOwn : ∀ k b, tabL xt_BadOwn k = some b → XcC K (caOf K k) ∧ PySem.W.kitOne K (.ref (caOf K k)) (.ref (He.ga K "BadOwn")) = some b
  xk_BadPart : ∀ k b, tabL xt_BadPart k = some b → XcC K (caOf K k) ∧ PySem.W.kitOne K (.ref (caOf K k)) (.ref (He.ga K "BadPart")) = some b
  xk_BadPlace : ∀ k b, tabL xt_BadPlace k = some b → XcC K (caOf K k) ∧ PySem.W.kitOne K (.ref (caOf K k)) (.ref (He.ga K "BadPlace")) = some b
  xk_BadScope : ∀ k b, tabL xt_BadScope k = some b → XcC K (caOf K k) ∧ PySem.W.kitOne K (.ref (caOf K k)) (.ref (He.ga K "BadScope")) = some b
  xk_BadSpot : ∀ k b, tabL xt_BadSpot k = some b → XcC K (caOf K k) ∧ PySem.W.kitOne K (.ref (caOf K k)) (.ref (He.ga K "BadSpot")) = some b
  xk_BadText : ∀ k b, tabL xt_BadText k = some b → XcC K (caOf K k) ∧ PySem.W.kitOne K (.ref (caOf K k)) (.ref (He.ga K "BadText")) = some b
  xk_BadThing : ∀ k b, tabL xt_BadThing k = some b → XcC K (caOf K k) ∧ PySem.W.kitOne K (.ref (caOf K k)) (.ref (He.ga K "BadThing")) = some b
  xk_BadUse : ∀ k b, tabL xt_BadUse k = some b → XcC K (caOf K k) ∧ PySem.W.kitOne K (.ref (caOf K k)) (.ref (He.ga K "BadUse")) = some b
  xk_FailedDeed : ∀ k b, tabL xt_FailedDeed k = some b → XcC K (caOf K k) ∧ PySem.W.kitOne K (.ref (caOf K k)) (.ref (He.ga K "FailedDeed")) = some b
  xk_IndexError : ∀ k b, tabL xt_IndexError k = some b → XcC K (caOf K k) ∧ PySem.W.kitOne K (.ref (caOf K k)) (.type "IndexError") = some b
  xk_KeyError : ∀ k b, tabL xt_KeyError k = some b → XcC K (caOf K k) ∧ PySem.W.kitOne K (.ref (caOf K k)) (.type "KeyError") = some b
  xk_NamesError : ∀ k b, tabL xt_NamesError k = some b → XcC K (caOf K k) ∧ PySem.W.kitOne K (.ref (caOf K k)) (.ref (He.ga K "NamesError")) = some b
  xk_NoUse : ∀ k b, tabL xt_NoUse k = some b → XcC K (caOf K k) ∧ PySem.W.kitOne K (.ref (caOf K k)) (.ref (He.ga K "NoUse")) = some b
  xk_NotRight : ∀ k b, tabL xt_NotRight k = some b → XcC K (caOf K k) ∧ PySem.W.kitOne K (.ref (caOf K k)) (.ref (He.ga K "NotRight")) = some b
  xk_NotTouched : ∀ k b, tabL xt_NotTouched k = some b → XcC K (caOf K k) ∧ PySem.W.kitOne K (.ref (caOf K k)) (.ref (He.ga K "NotTouched")) = some b
  xk_OverflowError : ∀ k b, tabL xt_OverflowError k = some b → XcC K (caOf K k) ∧ PySem.W.kitOne K (.ref (caOf K k)) (.type "OverflowError") = some b
  xk_RuntimeError : ∀ k b, tabL xt_RuntimeError k = some b → XcC K (caOf K k) ∧ PySem.W.kitOne K (.ref (caOf K k)) (.type "RuntimeError") = some b
  xk_TooMany : ∀ k b, tabL xt_TooMany k = some b → XcC K (caOf K k) ∧ PySem.W.kitOne K (.ref (caOf K k)) (.ref (He.ga K "TooMany")) = some b
  xk_UnknownCase : ∀ k b, tabL xt_UnknownCase k = some b → XcC K (caOf K k) ∧ PySem.W.kitOne K (.ref (caOf K k)) (.ref (He.ga K "UnknownCase")) = some b
  xk_UnknownName : ∀ k b, tabL xt_UnknownName k = some b → XcC K (caOf K k) ∧ PySem.W.kitOne K (.ref (caOf K k)) (.ref (He.ga K "UnknownName")) = some b
  xk_UnknownThing : ∀ k b, tabL xt_UnknownThing k = some b → XcC K (caOf K k) ∧ PySem.W.kitOne K (.ref (caOf K k)) (.ref (He.ga K "UnknownThing")) = some b
  xk_ValueError : ∀ k b, tabL xt_ValueError k = some b → XcC K (caOf K k) ∧ PySem.W.kitOne K (.ref (caOf K k)) (.type "ValueError") = some b
  xf_addition : ∀ c ∈ xf_addition, XcF K (caOf K c) "addition"
  xf_index : ∀ c ∈ xf_index, XcF K (caOf K c) "index"
  xf_label : ∀ c ∈ xf_label, XcF K (caOf K c) "label"
  xf_limit : ∀ c ∈ xf_limit, XcF K (caOf K c) "limit"
  xf_line : ∀ c ∈ xf_line, XcF K (caOf K c) "line"
  xf_move : ∀ c ∈ xf_move, XcF K (caOf K c) "move"
  xf_name : ∀ c ∈ xf_name, XcF K (caOf K c) "name"
  xf_part : ∀ c ∈ xf_part, XcF K (caOf K c) "part"
  xf_place : ∀ c ∈ xf_place, XcF K (caOf K c) "place"
  xf_problems : ∀ c ∈ xf_problems, XcF K (caOf K c) "problems"
  xf_spot : ∀ c ∈ xf_spot, XcF K (caOf K c) "spot"
  xf_thing : ∀ c ∈ xf_thing, XcF K (caOf K c) "thing"
  xf_value : ∀ c ∈ xf_value, XcF K (caOf K c) "value"
def D_ulaw_value : He.DefD := ⟨("_law_value", none), "_law_value", "_law_value", defArgs (top 29), defBody (top 29), defScope (top 29), [], []⟩
def D_ulaw_by_place : He.DefD := ⟨("_law_by_place", none), "_law_by_place", "_law_by_place", defArgs (top 30), defBody (top 30), defScope (top 30), [], []⟩
def D_ulaw_by_name : He.DefD := ⟨("_law_by_name", none), "_law_by_name", "_law_by_name", defArgs (top 31), defBody (top 31), defScope (top 31), [], []⟩
def D_ulaw_kept : He.DefD := ⟨("_law_kept", none), "_law_kept", "_law_kept", defArgs (top 32), defBody (top 32), defScope (top 32), [], []⟩
def D_ulaw_below : He.DefD := ⟨("_law_below", none), "_law_below", "_law_below", defArgs (top 33), defBody (top 33), defScope (top 33), [], []⟩
def D_ulaw_bases : He.DefD := ⟨("_law_bases", none), "_law_bases", "_law_bases", defArgs (top 34), defBody (top 34), defScope (top 34), [], []⟩
def D_ulaw_due_bases : He.DefD := ⟨("_law_due_bases", none), "_law_due_bases", "_law_due_bases", defArgs (top 35), defBody (top 35), defScope (top 35), [], []⟩
def D_law : He.DefD := ⟨("law", none), "law", "law", defArgs (top 36), defBody (top 36), defScope (top 36), [], []⟩
def I_AlreadyThere : He.DefD := ⟨("AlreadyThere", some "__init__"), "__init__", "AlreadyThere.__init__", defArgs (mth 12 0), defBody (mth 12 0), defScope (mth 12 0), [], []⟩
def I_BadAddition : He.DefD := ⟨("BadAddition", some "__init__"), "__init__", "BadAddition.__init__", defArgs (mth 17 0), defBody (mth 17 0), defScope (mth 17 0), [], []⟩
def I_BadBook : He.DefD := ⟨("BadBook", some "__init__"), "__init__", "BadBook.__init__", defArgs (mth 21 0), defBody (mth 21 0), defScope (mth 21 0), [], []⟩
def I_BadClass : He.DefD := ⟨("BadClass", some "__init__"), "__init__", "BadClass.__init__", defArgs (mth 4 0), defBody (mth 4 0), defScope (mth 4 0), [], []⟩
def I_BadCommand : He.DefD := ⟨("BadCommand", some "__init__"), "__init__", "BadCommand.__init__", defArgs (mth 20 0), defBody (mth 20 0), defScope (mth 20 0), [], []⟩
def I_BadImport : He.DefD := ⟨("BadImport", some "__init__"), "__init__", "BadImport.__init__", defArgs (mth 6 0), defBody (mth 6 0), defScope (mth 6 0), [], []⟩
def I_BadLibrary : He.DefD := ⟨("BadLibrary", some "__init__"), "__init__", "BadLibrary.__init__", defArgs (mth 5 0), defBody (mth 5 0), defScope (mth 5 0), [], []⟩
def I_BadMove : He.DefD := ⟨("BadMove", some "__init__"), "__init__", "BadMove.__init__", defArgs (mth 18 0), defBody (mth 18 0), defScope (mth 18 0), [], []⟩
def I_BadName : He.DefD := ⟨("BadName", some "__init__"), "__init__", "BadName.__init__", defArgs (mth 16 0), defBody (mth 16 0), defScope (mth 16 0), [], []⟩
def I_BadOwn : He.DefD := ⟨("BadOwn", some "__init__"), "__init__", "BadOwn.__init__", defArgs (mth 7 0), defBody (mth 7 0), defScope (mth 7 0), [], []⟩
def I_BadPart : He.DefD := ⟨("BadPart", some "__init__"), "__init__", "BadPart.__init__", defArgs (mth 10 0), defBody (mth 10 0), defScope (mth 10 0), [], []⟩
def I_BadPlace : He.DefD := ⟨("BadPlace", some "__init__"), "__init__", "BadPlace.__init__", defArgs (mth 2 0), defBody (mth 2 0), defScope (mth 2 0), [], []⟩
def I_BadScope : He.DefD := ⟨("BadScope", some "__init__"), "__init__", "BadScope.__init__", defArgs (mth 8 0), defBody (mth 8 0), defScope (mth 8 0), [], []⟩
def I_BadSpot : He.DefD := ⟨("BadSpot", some "__init__"), "__init__", "BadSpot.__init__", defArgs (mth 11 0), defBody (mth 11 0), defScope (mth 11 0), [], []⟩
def I_BadText : He.DefD := ⟨("BadText", some "__init__"), "__init__", "BadText.__init__", defArgs (mth 19 0), defBody (mth 19 0), defScope (mth 19 0), [], []⟩
def I_BadThing : He.DefD := ⟨("BadThing", some "__init__"), "__init__", "BadThing.__init__", defArgs (mth 3 0), defBody (mth 3 0), defScope (mth 3 0), [], []⟩
def I_BadUse : He.DefD := ⟨("BadUse", some "__init__"), "__init__", "BadUse.__init__", defArgs (mth 9 0), defBody (mth 9 0), defScope (mth 9 0), [], []⟩
def I_FailedDeed : He.DefD := ⟨("FailedDeed", some "__init__"), "__init__", "FailedDeed.__init__", defArgs (mth 22 0), defBody (mth 22 0), defScope (mth 22 0), [], []⟩
def I_NoUse : He.DefD := ⟨("NoUse", some "__init__"), "__init__", "NoUse.__init__", defArgs (mth 25 0), defBody (mth 25 0), defScope (mth 25 0), [], []⟩
def I_NotRight : He.DefD := ⟨("NotRight", some "__init__"), "__init__", "NotRight.__init__", defArgs (mth 13 0), defBody (mth 13 0), defScope (mth 13 0), [], []⟩
def I_NotTouched : He.DefD := ⟨("NotTouched", some "__init__"), "__init__", "NotTouched.__init__", defArgs (mth 14 0), defBody (mth 14 0), defScope (mth 14 0), [], []⟩
def I_NothingToUndo : He.DefD := ⟨("NothingToUndo", some "__init__"), "__init__", "NothingToUndo.__init__", defArgs (mth 27 0), defBody (mth 27 0), defScope (mth 27 0), [], []⟩
def I_TooMany : He.DefD := ⟨("TooMany", some "__init__"), "__init__", "TooMany.__init__", defArgs (mth 26 0), defBody (mth 26 0), defScope (mth 26 0), [], []⟩
def I_UnknownCase : He.DefD := ⟨("UnknownCase", some "__init__"), "__init__", "UnknownCase.__init__", defArgs (mth 15 0), defBody (mth 15 0), defScope (mth 15 0), [], []⟩
def I_UnknownName : He.DefD := ⟨("UnknownName", some "__init__"), "__init__", "UnknownName.__init__", defArgs (mth 23 0), defBody (mth 23 0), defScope (mth 23 0), [], []⟩
def I_UnknownThing : He.DefD := ⟨("UnknownThing", some "__init__"), "__init__", "UnknownThing.__init__", defArgs (mth 24 0), defBody (mth 24 0), defScope (mth 24 0), [], []⟩
def fnl : List He.DefD := [D_ulaw_value, D_ulaw_by_place, D_ulaw_by_name, D_ulaw_kept, D_ulaw_below, D_ulaw_bases, D_ulaw_due_bases, D_law, I_AlreadyThere, I_BadAddition, I_BadBook, I_BadClass, I_BadCommand, I_BadImport, I_BadLibrary, I_BadMove, I_BadName, I_BadOwn, I_BadPart, I_BadPlace, I_BadScope, I_BadSpot, I_BadText, I_BadThing, I_BadUse, I_FailedDeed, I_NoUse, I_NotRight, I_NotTouched, I_NothingToUndo, I_TooMany, I_UnknownCase, I_UnknownName, I_UnknownThing]
def pfl : List AdD := []
def fal : List He.Fa := [.glo "_law_value", .glo "_law_by_place", .glo "_law_by_name", .glo "_law_kept", .glo "_law_below", .glo "_law_bases", .glo "_law_due_bases", .glo "law", .free "IndexError", .free "KeyError", .free "OverflowError", .free "RuntimeError", .free "ValueError", .free "abs", .free "int", .free "isinstance", .free "len", .free "max", .free "min", .free "range", .free "repr", .glo "NamesError", .glo "BadPlace", .glo "BadThing", .glo "BadClass", .glo "BadLibrary", .glo "BadImport", .glo "BadOwn", .glo "BadScope", .glo "BadUse", .glo "BadPart", .glo "BadSpot", .glo "AlreadyThere", .glo "NotRight", .glo "NotTouched", .glo "UnknownCase", .glo "BadName", .glo "BadAddition", .glo "BadMove", .glo "BadText", .glo "BadCommand", .glo "BadBook", .glo "FailedDeed", .glo "UnknownName", .glo "UnknownThing", .glo "NoUse", .glo "TooMany", .glo "NothingToUndo", .meth "AlreadyThere" "__init__", .meth "BadAddition" "__init__", .meth "BadBook" "__init__", .meth "BadClass" "__init__", .meth "BadCommand" "__init__", .meth "BadImport" "__init__", .meth "BadLibrary" "__init__", .meth "BadMove" "__init__", .meth "BadName" "__init__", .meth "BadOwn" "__init__", .meth "BadPart" "__init__", .meth "BadPlace" "__init__", .meth "BadScope" "__init__", .meth "BadSpot" "__init__", .meth "BadText" "__init__", .meth "BadThing" "__init__", .meth "BadUse" "__init__", .meth "FailedDeed" "__init__", .meth "NoUse" "__init__", .meth "NotRight" "__init__", .meth "NotTouched" "__init__", .meth "NothingToUndo" "__init__", .meth "TooMany" "__init__", .meth "UnknownCase" "__init__", .meth "UnknownName" "__init__", .meth "UnknownThing" "__init__"]
def dkl : List (Str × List Str) := []
def exL (K : PySem.W.Frag) : List Bool := [xcAllB K (caOf K) xks, xcFB K (He.ga K "AlreadyThere") "place", xcFB K (He.ga K "BadAddition") "value", xcFB K (He.ga K "BadBook") "value", xcFB K (He.ga K "BadClass") "index", xcFB K (He.ga K "BadCommand") "line", xcFB K (He.ga K "BadImport") "index", xcFB K (He.ga K "BadLibrary") "index", xcFB K (He.ga K "BadMove") "move", xcFB K (He.ga K "BadName") "name", xcFB K (He.ga K "BadOwn") "index", xcFB K (He.ga K "BadPart") "part", xcFB K (He.ga K "BadPlace") "place", xcFB K (He.ga K "BadScope") "index", xcFB K (He.ga K "BadSpot") "spot", xcFB K (He.ga K "BadText") "index", xcFB K (He.ga K "BadThing") "thing", xcFB K (He.ga K "BadUse") "index", xcFB K (He.ga K "FailedDeed") "index", xcFB K (He.ga K "NoUse") "index", xcFB K (He.ga K "NotRight") "problems", xcFB K (He.ga K "NotTouched") "addition", xcB K (He.ga K "NothingToUndo"), xcFB K (He.ga K "TooMany") "limit", xcFB K (He.ga K "UnknownCase") "label", xcFB K (He.ga K "UnknownName") "name", xcFB K (He.ga K "UnknownThing") "thing", kitAllB K (caOf K) (.ref (He.ga K "AlreadyThere")) xks xt_AlreadyThere, kitAllB K (caOf K) (.ref (He.ga K "BadAddition")) xks xt_BadAddition, kitAllB K (caOf K) (.ref (He.ga K "BadBook")) xks xt_BadBook, kitAllB K (caOf K) (.ref (He.ga K "BadClass")) xks xt_BadClass, kitAllB K (caOf K) (.ref (He.ga K "BadCommand")) xks xt_BadCommand, kitAllB K (caOf K) (.ref (He.ga K "BadImport")) xks xt_BadImport, kitAllB K (caOf K) (.ref (He.ga K "BadLibrary")) xks xt_BadLibrary, kitAllB K (caOf K) (.ref (He.ga K "BadMove")) xks xt_BadMove, kitAllB K (caOf K) (.ref (He.ga K "BadName")) xks xt_BadName, kitAllB K (caOf K) (.ref (He.ga K "BadOwn")) xks xt_BadOwn, kitAllB K (caOf K) (.ref (He.ga K "BadPart")) xks xt_BadPart, kitAllB K (caOf K) (.ref (He.ga K "BadPlace")) xks xt_BadPlace, kitAllB K (caOf K) (.ref (He.ga K "BadScope")) xks xt_BadScope, kitAllB K (caOf K) (.ref (He.ga K "BadSpot")) xks xt_BadSpot, kitAllB K (caOf K) (.ref (He.ga K "BadText")) xks xt_BadText, kitAllB K (caOf K) (.ref (He.ga K "BadThing")) xks xt_BadThing, kitAllB K (caOf K) (.ref (He.ga K "BadUse")) xks xt_BadUse, kitAllB K (caOf K) (.ref (He.ga K "FailedDeed")) xks xt_FailedDeed, kitAllB K (caOf K) (.type "IndexError") xks xt_IndexError, kitAllB K (caOf K) (.type "KeyError") xks xt_KeyError, kitAllB K (caOf K) (.ref (He.ga K "NamesError")) xks xt_NamesError, kitAllB K (caOf K) (.ref (He.ga K "NoUse")) xks xt_NoUse, kitAllB K (caOf K) (.ref (He.ga K "NotRight")) xks xt_NotRight, kitAllB K (caOf K) (.ref (He.ga K "NotTouched")) xks xt_NotTouched, kitAllB K (caOf K) (.type "OverflowError") xks xt_OverflowError, kitAllB K (caOf K) (.type "RuntimeError") xks xt_RuntimeError, kitAllB K (caOf K) (.ref (He.ga K "TooMany")) xks xt_TooMany, kitAllB K (caOf K) (.ref (He.ga K "UnknownCase")) xks xt_UnknownCase, kitAllB K (caOf K) (.ref (He.ga K "UnknownName")) xks xt_UnknownName, kitAllB K (caOf K) (.ref (He.ga K "UnknownThing")) xks xt_UnknownThing, kitAllB K (caOf K) (.type "ValueError") xks xt_ValueError, xfAllB K (caOf K) "addition" xf_addition, xfAllB K (caOf K) "index" xf_index, xfAllB K (caOf K) "label" xf_label, xfAllB K (caOf K) "limit" xf_limit, xfAllB K (caOf K) "line" xf_line, xfAllB K (caOf K) "move" xf_move, xfAllB K (caOf K) "name" xf_name, xfAllB K (caOf K) "part" xf_part, xfAllB K (caOf K) "place" xf_place, xfAllB K (caOf K) "problems" xf_problems, xfAllB K (caOf K) "spot" xf_spot, xfAllB K (caOf K) "thing" xf_thing, xfAllB K (caOf K) "value" xf_value]
def exB (K : PySem.W.Frag) : Bool := (exL K).all id
def hy : HY := ⟨6, fal, fnl, pfl, dkl, exB⟩
theorem ex_at {K : PySem.W.Frag} {b : Bool} (h : exB K = true) {i : Nat} (e : (exL K)[i]? = some b) : b = true := List.all_eq_true.mp h b (List.mem_of_getElem? e)
theorem fx {w : World} {K : PySem.W.Frag} {h : Heap} {mg : Str → Option Value} (X : K.In h) (G : h.Ns mainGlobals mg) (c : SaysY hy w K) : Fx K w mg := {
  g_ulaw_value := He.glo_ok X G (c.d.fact 0 (f := .glo "_law_value") rfl)
  g_ulaw_by_place := He.glo_ok X G (c.d.fact 1 (f := .glo "_law_by_place") rfl)
  g_ulaw_by_name := He.glo_ok X G (c.d.fact 2 (f := .glo "_law_by_name") rfl)
  g_ulaw_kept := He.glo_ok X G (c.d.fact 3 (f := .glo "_law_kept") rfl)
  g_ulaw_below := He.glo_ok X G (c.d.fact 4 (f := .glo "_law_below") rfl)
  g_ulaw_bases := He.glo_ok X G (c.d.fact 5 (f := .glo "_law_bases") rfl)
  g_ulaw_due_bases := He.glo_ok X G (c.d.fact 6 (f := .glo "_law_due_bases") rfl)
  g_law := He.glo_ok X G (c.d.fact 7 (f := .glo "law") rfl)
  z_IndexError := He.free_ok X G (c.d.fact 8 (f := .free "IndexError") rfl)
  z_KeyError := He.free_ok X G (c.d.fact 9 (f := .free "KeyError") rfl)
  z_OverflowError := He.free_ok X G (c.d.fact 10 (f := .free "OverflowError") rfl)
  z_RuntimeError := He.free_ok X G (c.d.fact 11 (f := .free "RuntimeError") rfl)
  z_ValueError := He.free_ok X G (c.d.fact 12 (f := .free "ValueError") rfl)
  z_abs := He.free_ok X G (c.d.fact 13 (f := .free "abs") rfl)
  z_int := He.free_ok X G (c.d.fact 14 (f := .free "int") rfl)
  z_isinstance := He.free_ok X G (c.d.fact 15 (f := .free "isinstance") rfl)
  z_len := He.free_ok X G (c.d.fact 16 (f := .free "len") rfl)
  z_max := He.free_ok X G (c.d.fact 17 (f := .free "max") rfl)
  z_min := He.free_ok X G (c.d.fact 18 (f := .free "min") rfl)
  z_range := He.free_ok X G (c.d.fact 19 (f := .free "range") rfl)
  z_repr := He.free_ok X G (c.d.fact 20 (f := .free "repr") rfl)
  g_NamesError := He.glo_ok X G (c.d.fact 21 (f := .glo "NamesError") rfl)
  g_BadPlace := He.glo_ok X G (c.d.fact 22 (f := .glo "BadPlace") rfl)
  g_BadThing := He.glo_ok X G (c.d.fact 23 (f := .glo "BadThing") rfl)
  g_BadClass := He.glo_ok X G (c.d.fact 24 (f := .glo "BadClass") rfl)
  g_BadLibrary := He.glo_ok X G (c.d.fact 25 (f := .glo "BadLibrary") rfl)
  g_BadImport := He.glo_ok X G (c.d.fact 26 (f := .glo "BadImport") rfl)
  g_BadOwn := He.glo_ok X G (c.d.fact 27 (f := .glo "BadOwn") rfl)
  g_BadScope := He.glo_ok X G (c.d.fact 28 (f := .glo "BadScope") rfl)
  g_BadUse := He.glo_ok X G (c.d.fact 29 (f := .glo "BadUse") rfl)
  g_BadPart := He.glo_ok X G (c.d.fact 30 (f := .glo "BadPart") rfl)
  g_BadSpot := He.glo_ok X G (c.d.fact 31 (f := .glo "BadSpot") rfl)
  g_AlreadyThere := He.glo_ok X G (c.d.fact 32 (f := .glo "AlreadyThere") rfl)
  g_NotRight := He.glo_ok X G (c.d.fact 33 (f := .glo "NotRight") rfl)
  g_NotTouched := He.glo_ok X G (c.d.fact 34 (f := .glo "NotTouched") rfl)
  g_UnknownCase := He.glo_ok X G (c.d.fact 35 (f := .glo "UnknownCase") rfl)
  g_BadName := He.glo_ok X G (c.d.fact 36 (f := .glo "BadName") rfl)
  g_BadAddition := He.glo_ok X G (c.d.fact 37 (f := .glo "BadAddition") rfl)
  g_BadMove := He.glo_ok X G (c.d.fact 38 (f := .glo "BadMove") rfl)
  g_BadText := He.glo_ok X G (c.d.fact 39 (f := .glo "BadText") rfl)
  g_BadCommand := He.glo_ok X G (c.d.fact 40 (f := .glo "BadCommand") rfl)
  g_BadBook := He.glo_ok X G (c.d.fact 41 (f := .glo "BadBook") rfl)
  g_FailedDeed := He.glo_ok X G (c.d.fact 42 (f := .glo "FailedDeed") rfl)
  g_UnknownName := He.glo_ok X G (c.d.fact 43 (f := .glo "UnknownName") rfl)
  g_UnknownThing := He.glo_ok X G (c.d.fact 44 (f := .glo "UnknownThing") rfl)
  g_NoUse := He.glo_ok X G (c.d.fact 45 (f := .glo "NoUse") rfl)
  g_TooMany := He.glo_ok X G (c.d.fact 46 (f := .glo "TooMany") rfl)
  g_NothingToUndo := He.glo_ok X G (c.d.fact 47 (f := .glo "NothingToUndo") rfl)
  xm_AlreadyThere := xcFB_ok (ex_at c.x (i := 1) rfl)
  i_AlreadyThere := He.meth_ok (c.d.fact 48 (f := .meth "AlreadyThere" "__init__") rfl)
  xm_BadAddition := xcFB_ok (ex_at c.x (i := 2) rfl)
  i_BadAddition := He.meth_ok (c.d.fact 49 (f := .meth "BadAddition" "__init__") rfl)
  xm_BadBook := xcFB_ok (ex_at c.x (i := 3) rfl)
  i_BadBook := He.meth_ok (c.d.fact 50 (f := .meth "BadBook" "__init__") rfl)
  xm_BadClass := xcFB_ok (ex_at c.x (i := 4) rfl)
  i_BadClass := He.meth_ok (c.d.fact 51 (f := .meth "BadClass" "__init__") rfl)
  xm_BadCommand := xcFB_ok (ex_at c.x (i := 5) rfl)
  i_BadCommand := He.meth_ok (c.d.fact 52 (f := .meth "BadCommand" "__init__") rfl)
  xm_BadImport := xcFB_ok (ex_at c.x (i := 6) rfl)
  i_BadImport := He.meth_ok (c.d.fact 53 (f := .meth "BadImport" "__init__") rfl)
  xm_BadLibrary := xcFB_ok (ex_at c.x (i := 7) rfl)
  i_BadLibrary := He.meth_ok (c.d.fact 54 (f := .meth "BadLibrary" "__init__") rfl)
  xm_BadMove := xcFB_ok (ex_at c.x (i := 8) rfl)
  i_BadMove := He.meth_ok (c.d.fact 55 (f := .meth "BadMove" "__init__") rfl)
  xm_BadName := xcFB_ok (ex_at c.x (i := 9) rfl)
  i_BadName := He.meth_ok (c.d.fact 56 (f := .meth "BadName" "__init__") rfl)
  xm_BadOwn := xcFB_ok (ex_at c.x (i := 10) rfl)
  i_BadOwn := He.meth_ok (c.d.fact 57 (f := .meth "BadOwn" "__init__") rfl)
  xm_BadPart := xcFB_ok (ex_at c.x (i := 11) rfl)
  i_BadPart := He.meth_ok (c.d.fact 58 (f := .meth "BadPart" "__init__") rfl)
  xm_BadPlace := xcFB_ok (ex_at c.x (i := 12) rfl)
  i_BadPlace := He.meth_ok (c.d.fact 59 (f := .meth "BadPlace" "__init__") rfl)
  xm_BadScope := xcFB_ok (ex_at c.x (i := 13) rfl)
  i_BadScope := He.meth_ok (c.d.fact 60 (f := .meth "BadScope" "__init__") rfl)
  xm_BadSpot := xcFB_ok (ex_at c.x (i := 14) rfl)
  i_BadSpot := He.meth_ok (c.d.fact 61 (f := .meth "BadSpot" "__init__") rfl)
  xm_BadText := xcFB_ok (ex_at c.x (i := 15) rfl)
  i_BadText := He.meth_ok (c.d.fact 62 (f := .meth "BadText" "__init__") rfl)
  xm_BadThing := xcFB_ok (ex_at c.x (i := 16) rfl)
  i_BadThing := He.meth_ok (c.d.fact 63 (f := .meth "BadThing" "__init__") rfl)
  xm_BadUse := xcFB_ok (ex_at c.x (i := 17) rfl)
  i_BadUse := He.meth_ok (c.d.fact 64 (f := .meth "BadUse" "__init__") rfl)
  xm_FailedDeed := xcFB_ok (ex_at c.x (i := 18) rfl)
  i_FailedDeed := He.meth_ok (c.d.fact 65 (f := .meth "FailedDeed" "__init__") rfl)
  xm_NoUse := xcFB_ok (ex_at c.x (i := 19) rfl)
  i_NoUse := He.meth_ok (c.d.fact 66 (f := .meth "NoUse" "__init__") rfl)
  xm_NotRight := xcFB_ok (ex_at c.x (i := 20) rfl)
  i_NotRight := He.meth_ok (c.d.fact 67 (f := .meth "NotRight" "__init__") rfl)
  xm_NotTouched := xcFB_ok (ex_at c.x (i := 21) rfl)
  i_NotTouched := He.meth_ok (c.d.fact 68 (f := .meth "NotTouched" "__init__") rfl)
  xm_NothingToUndo := xcB_ok (ex_at c.x (i := 22) rfl)
  i_NothingToUndo := He.meth_ok (c.d.fact 69 (f := .meth "NothingToUndo" "__init__") rfl)
  xm_TooMany := xcFB_ok (ex_at c.x (i := 23) rfl)
  i_TooMany := He.meth_ok (c.d.fact 70 (f := .meth "TooMany" "__init__") rfl)
  xm_UnknownCase := xcFB_ok (ex_at c.x (i := 24) rfl)
  i_UnknownCase := He.meth_ok (c.d.fact 71 (f := .meth "UnknownCase" "__init__") rfl)
  xm_UnknownName := xcFB_ok (ex_at c.x (i := 25) rfl)
  i_UnknownName := He.meth_ok (c.d.fact 72 (f := .meth "UnknownName" "__init__") rfl)
  xm_UnknownThing := xcFB_ok (ex_at c.x (i := 26) rfl)
  i_UnknownThing := He.meth_ok (c.d.fact 73 (f := .meth "UnknownThing" "__init__") rfl)
  xk_AlreadyThere := kitAll_ok (ex_at c.x (i := 0) rfl) (ex_at c.x (i := 27) rfl)
  xk_BadAddition := kitAll_ok (ex_at c.x (i := 0) rfl) (ex_at c.x (i := 28) rfl)
  xk_BadBook := kitAll_ok (ex_at c.x (i := 0) rfl) (ex_at c.x (i := 29) rfl)
  xk_BadClass := kitAll_ok (ex_at c.x (i := 0) rfl) (ex_at c.x (i := 30) rfl)
  xk_BadCommand := kitAll_ok (ex_at c.x (i := 0) rfl) (ex_at c.x (i := 31) rfl)
  xk_BadImport := kitAll_ok (ex_at c.x (i := 0) rfl) (ex_at c.x (i := 32) rfl)
  xk_BadLibrary := kitAll_ok (ex_at c.x (i := 0) rfl) (ex_at c.x (i := 33) rfl)
  xk_BadMove := kitAll_ok (ex_at c.x (i := 0) rfl) (ex_at c.x (i := 34) rfl)
  xk_BadName := kitAll_ok (ex_at c.x (i := 0) rfl) (ex_at c.x (i := 35) rfl)
  xk_BadOwn := kitAll_ok (ex_at c.x (i := 0) rfl) (ex_at c.x (i := 36) rfl)
  xk_BadPart := kitAll_ok (ex_at c.x (i := 0) rfl) (ex_at c.x (i := 37) rfl)
  xk_BadPlace := kitAll_ok (ex_at c.x (i := 0) rfl) (ex_at c.x (i := 38) rfl)
  xk_BadScope := kitAll_ok (ex_at c.x (i := 0) rfl) (ex_at c.x (i := 39) rfl)
  xk_BadSpot := kitAll_ok (ex_at c.x (i := 0) rfl) (ex_at c.x (i := 40) rfl)
  xk_BadText := kitAll_ok (ex_at c.x (i := 0) rfl) (ex_at c.x (i := 41) rfl)
  xk_BadThing := kitAll_ok (ex_at c.x (i := 0) rfl) (ex_at c.x (i := 42) rfl)
  xk_BadUse := kitAll_ok (ex_at c.x (i := 0) rfl) (ex_at c.x (i := 43) rfl)
  xk_FailedDeed := kitAll_ok (ex_at c.x (i := 0) rfl) (ex_at c.x (i := 44) rfl)
  xk_IndexError := kitAll_ok (ex_at c.x (i := 0) rfl) (ex_at c.x (i := 45) rfl)
  xk_KeyError := kitAll_ok (ex_at c.x (i := 0) rfl) (ex_at c.x (i := 46) rfl)
  xk_NamesError := kitAll_ok (ex_at c.x (i := 0) rfl) (ex_at c.x (i := 47) rfl)
  xk_NoUse := kitAll_ok (ex_at c.x (i := 0) rfl) (ex_at c.x (i := 48) rfl)
  xk_NotRight := kitAll_ok (ex_at c.x (i := 0) rfl) (ex_at c.x (i := 49) rfl)
  xk_NotTouched := kitAll_ok (ex_at c.x (i := 0) rfl) (ex_at c.x (i := 50) rfl)
  xk_OverflowError := kitAll_ok (ex_at c.x (i := 0) rfl) (ex_at c.x (i := 51) rfl)
  xk_RuntimeError := kitAll_ok (ex_at c.x (i := 0) rfl) (ex_at c.x (i := 52) rfl)
  xk_TooMany := kitAll_ok (ex_at c.x (i := 0) rfl) (ex_at c.x (i := 53) rfl)
  xk_UnknownCase := kitAll_ok (ex_at c.x (i := 0) rfl) (ex_at c.x (i := 54) rfl)
  xk_UnknownName := kitAll_ok (ex_at c.x (i := 0) rfl) (ex_at c.x (i := 55) rfl)
  xk_UnknownThing := kitAll_ok (ex_at c.x (i := 0) rfl) (ex_at c.x (i := 56) rfl)
  xk_ValueError := kitAll_ok (ex_at c.x (i := 0) rfl) (ex_at c.x (i := 57) rfl)
  xf_addition := xfAll_ok (ex_at c.x (i := 58) rfl)
  xf_index := xfAll_ok (ex_at c.x (i := 59) rfl)
  xf_label := xfAll_ok (ex_at c.x (i := 60) rfl)
  xf_limit := xfAll_ok (ex_at c.x (i := 61) rfl)
  xf_line := xfAll_ok (ex_at c.x (i := 62) rfl)
  xf_move := xfAll_ok (ex_at c.x (i := 63) rfl)
  xf_name := xfAll_ok (ex_at c.x (i := 64) rfl)
  xf_part := xfAll_ok (ex_at c.x (i := 65) rfl)
  xf_place := xfAll_ok (ex_at c.x (i := 66) rfl)
  xf_problems := xfAll_ok (ex_at c.x (i := 67) rfl)
  xf_spot := xfAll_ok (ex_at c.x (i := 68) rfl)
  xf_thing := xfAll_ok (ex_at c.x (i := 69) rfl)
  xf_value := xfAll_ok (ex_at c.x (i := 70) rfl)
  }
/-! ### ulaw_value -/
abbrev N_ulaw_value : List Str := ["_law_script", "_law_k", "_law_cell", "_law_number", "_law_some"]
abbrev sc_ulaw_value : Scope := defScope (top 29)
def d_ulaw_value : SM := (seqS (asgS 2 (fzE (M.pure (.int 0))))
  (seqS (ifS (cmpM ltT (hldE (rdS 1)) (hldE (call1M lenT (hldE (rdS 0))))) (asgS 2 (itemXM (hldE (rdS 0)) (frzE (rdS 1)))) nilS)
  (seqS (asgS 3 (opM modT (frzE (call1M intT (hldE (call1M absT (hldE (rdS 2)))))) (frzE (opM powT (M.pure (.int 10)) (M.pure (.int 9))))))
  (seqS (asgS 4 (lstM (consM (frzE (rdS 3)) (consM (frzE (opM subT (M.pure (.int 0)) (frzE (rdS 3)))) (consM (frzE (opM mulX (M.pure (.str "ab")) (frzE (opM modT (frzE (rdS 3)) (M.pure (.int 5)))))) (consM (M.pure .non) (consM (frzE (lstM (consM (frzE (rdS 3)) (M.pure [])))) (consM (tupM (consM (frzE (rdS 3)) (consM (M.pure (.str "a")) (M.pure [])))) (consM (M.pure (.bl true)) (consM (frzE (M.pure (.ow (.dK [])))) (consM (M.pure (.str "")) (consM (frzE (lstM (consM (frzE (lstM (M.pure []))) (M.pure [])))) (M.pure [])))))))))))))
  (retS (itemXM (hldE (rdS 4)) (frzE (opM modT (frzE (call1M intT (hldE (opM addT (frzE (opM addT (frzE (opM fdivT (frzE (call1M intT (hldE (call1M absT (hldE (rdS 2)))))) (frzE (opM powT (M.pure (.int 10)) (M.pure (.int 9)))))) (frzE (rdS 1)))) (frzE (call1M lenT (hldE (rdS 0)))))))) (M.pure (.int 10))))))))))
theorem s_ulaw_value : FnScope N_ulaw_value ["_law_script", "_law_k"] sc_ulaw_value := ⟨rfl, rfl, rfl, by decide +kernel, rfl, by decide +kernel, by decide +kernel⟩
/-! ### ulaw_by_place -/
abbrev N_ulaw_by_place : List Str := ["_law_worth", "_law_found"]
abbrev sc_ulaw_by_place : Scope := defScope (top 30)
def d_ulaw_by_place : SM := (seqS (asgS 1 (lstM (consM (frzE (excM 1 "place" (frzE (rdS 0)))) (consM (frzE (excM 11 "place" (frzE (rdS 0)))) (consM (frzE (excM 2 "thing" (frzE (rdS 0)))) (M.pure []))))))
  (seqS (asgS 1 (opM addT (frzE (rdS 1)) (frzE (lstM (consM (frzE (excM 3 "index" (frzE (rdS 0)))) (consM (frzE (excM 4 "index" (frzE (rdS 0)))) (consM (frzE (excM 5 "index" (frzE (rdS 0)))) (M.pure []))))))))
  (seqS (asgS 1 (opM addT (frzE (rdS 1)) (frzE (lstM (consM (frzE (excM 6 "index" (frzE (rdS 0)))) (consM (frzE (excM 7 "index" (frzE (rdS 0)))) (consM (frzE (excM 8 "index" (frzE (rdS 0)))) (M.pure []))))))))
  (seqS (asgS 1 (opM addT (frzE (rdS 1)) (frzE (lstM (consM (frzE (excM 9 "part" (frzE (rdS 0)))) (consM (frzE (excM 10 "spot" (frzE (rdS 0)))) (consM (frzE (excM 12 "problems" (frzE (rdS 0)))) (M.pure []))))))))
  (seqS (asgS 1 (opM addT (frzE (rdS 1)) (frzE (lstM (consM (frzE (excM 13 "addition" (frzE (rdS 0)))) (consM (frzE (excM 14 "label" (frzE (rdS 0)))) (consM (frzE (excM 22 "name" (frzE (rdS 0)))) (M.pure []))))))))
  (seqS (asgS 1 (opM addT (frzE (rdS 1)) (frzE (lstM (consM (frzE (excM 23 "thing" (frzE (rdS 0)))) (consM (frzE (excM 24 "index" (frzE (rdS 0)))) (consM (frzE (excM 25 "limit" (frzE (rdS 0)))) (M.pure []))))))))
  (seqS (asgS 1 (opM addT (frzE (rdS 1)) (frzE (lstM (consM (frzE (excM 15 "name" (frzE (rdS 0)))) (consM (frzE (excM 16 "value" (frzE (rdS 0)))) (consM (frzE (excM 17 "move" (frzE (rdS 0)))) (M.pure []))))))))
  (seqS (asgS 1 (opM addT (frzE (rdS 1)) (frzE (lstM (consM (frzE (excM 18 "index" (frzE (rdS 0)))) (consM (frzE (excM 19 "line" (frzE (rdS 0)))) (consM (frzE (excM 20 "value" (frzE (rdS 0)))) (M.pure []))))))))
  (retS (opM addT (frzE (rdS 1)) (frzE (lstM (consM (frzE (excM 21 "index" (frzE (rdS 0)))) (M.pure []))))))))))))))
theorem s_ulaw_by_place : FnScope N_ulaw_by_place ["_law_worth"] sc_ulaw_by_place := ⟨rfl, rfl, rfl, by decide +kernel, rfl, by decide +kernel, by decide +kernel⟩
/-! ### ulaw_by_name -/
abbrev N_ulaw_by_name : List Str := ["_law_worth", "_law_found"]
abbrev sc_ulaw_by_name : Scope := defScope (top 31)
def d_ulaw_by_name : SM := (seqS (asgS 1 (lstM (consM (frzE (excM 1 "place" (frzE (rdS 0)))) (consM (frzE (excM 11 "place" (frzE (rdS 0)))) (consM (frzE (excM 2 "thing" (frzE (rdS 0)))) (M.pure []))))))
  (seqS (asgS 1 (opM addT (frzE (rdS 1)) (frzE (lstM (consM (frzE (excM 3 "index" (frzE (rdS 0)))) (consM (frzE (excM 4 "index" (frzE (rdS 0)))) (consM (frzE (excM 5 "index" (frzE (rdS 0)))) (M.pure []))))))))
  (seqS (asgS 1 (opM addT (frzE (rdS 1)) (frzE (lstM (consM (frzE (excM 6 "index" (frzE (rdS 0)))) (consM (frzE (excM 7 "index" (frzE (rdS 0)))) (consM (frzE (excM 8 "index" (frzE (rdS 0)))) (M.pure []))))))))
  (seqS (asgS 1 (opM addT (frzE (rdS 1)) (frzE (lstM (consM (frzE (excM 9 "part" (frzE (rdS 0)))) (consM (frzE (excM 10 "spot" (frzE (rdS 0)))) (consM (frzE (excM 12 "problems" (frzE (rdS 0)))) (M.pure []))))))))
  (seqS (asgS 1 (opM addT (frzE (rdS 1)) (frzE (lstM (consM (frzE (excM 13 "addition" (frzE (rdS 0)))) (consM (frzE (excM 14 "label" (frzE (rdS 0)))) (consM (frzE (excM 22 "name" (frzE (rdS 0)))) (M.pure []))))))))
  (seqS (asgS 1 (opM addT (frzE (rdS 1)) (frzE (lstM (consM (frzE (excM 23 "thing" (frzE (rdS 0)))) (consM (frzE (excM 24 "index" (frzE (rdS 0)))) (consM (frzE (excM 25 "limit" (frzE (rdS 0)))) (M.pure []))))))))
  (seqS (asgS 1 (opM addT (frzE (rdS 1)) (frzE (lstM (consM (frzE (excM 15 "name" (frzE (rdS 0)))) (consM (frzE (excM 16 "value" (frzE (rdS 0)))) (consM (frzE (excM 17 "move" (frzE (rdS 0)))) (M.pure []))))))))
  (seqS (asgS 1 (opM addT (frzE (rdS 1)) (frzE (lstM (consM (frzE (excM 18 "index" (frzE (rdS 0)))) (consM (frzE (excM 19 "line" (frzE (rdS 0)))) (consM (frzE (excM 20 "value" (frzE (rdS 0)))) (M.pure []))))))))
  (retS (opM addT (frzE (rdS 1)) (frzE (lstM (consM (frzE (excM 21 "index" (frzE (rdS 0)))) (M.pure []))))))))))))))
theorem s_ulaw_by_name : FnScope N_ulaw_by_name ["_law_worth"] sc_ulaw_by_name := ⟨rfl, rfl, rfl, by decide +kernel, rfl, by decide +kernel, by decide +kernel⟩
/-! ### ulaw_kept -/
abbrev N_ulaw_kept : List Str := ["_law_made", "_law_found"]
abbrev sc_ulaw_kept : Scope := defScope (top 32)
def d_ulaw_kept : SM := (seqS (asgS 1 (lstM (consM (xfM xf_place "place" (hldE (itemXM (hldE (rdS 0)) (M.pure (.int 0))))) (consM (xfM xf_place "place" (hldE (itemXM (hldE (rdS 0)) (M.pure (.int 1))))) (consM (xfM xf_thing "thing" (hldE (itemXM (hldE (rdS 0)) (M.pure (.int 2))))) (consM (xfM xf_index "index" (hldE (itemXM (hldE (rdS 0)) (M.pure (.int 3))))) (consM (xfM xf_index "index" (hldE (itemXM (hldE (rdS 0)) (M.pure (.int 4))))) (consM (xfM xf_index "index" (hldE (itemXM (hldE (rdS 0)) (M.pure (.int 5))))) (consM (xfM xf_index "index" (hldE (itemXM (hldE (rdS 0)) (M.pure (.int 6))))) (M.pure []))))))))))
  (seqS (asgS 1 (opM addT (frzE (rdS 1)) (frzE (lstM (consM (xfM xf_index "index" (hldE (itemXM (hldE (rdS 0)) (M.pure (.int 7))))) (consM (xfM xf_index "index" (hldE (itemXM (hldE (rdS 0)) (M.pure (.int 8))))) (consM (xfM xf_part "part" (hldE (itemXM (hldE (rdS 0)) (M.pure (.int 9))))) (consM (xfM xf_spot "spot" (hldE (itemXM (hldE (rdS 0)) (M.pure (.int 10))))) (consM (xfM xf_problems "problems" (hldE (itemXM (hldE (rdS 0)) (M.pure (.int 11))))) (consM (xfM xf_addition "addition" (hldE (itemXM (hldE (rdS 0)) (M.pure (.int 12))))) (M.pure [])))))))))))
  (seqS (asgS 1 (opM addT (frzE (rdS 1)) (frzE (lstM (consM (xfM xf_label "label" (hldE (itemXM (hldE (rdS 0)) (M.pure (.int 13))))) (consM (xfM xf_name "name" (hldE (itemXM (hldE (rdS 0)) (M.pure (.int 14))))) (consM (xfM xf_thing "thing" (hldE (itemXM (hldE (rdS 0)) (M.pure (.int 15))))) (consM (xfM xf_index "index" (hldE (itemXM (hldE (rdS 0)) (M.pure (.int 16))))) (M.pure [])))))))))
  (seqS (asgS 1 (opM addT (frzE (rdS 1)) (frzE (lstM (consM (xfM xf_limit "limit" (hldE (itemXM (hldE (rdS 0)) (M.pure (.int 17))))) (consM (xfM xf_name "name" (hldE (itemXM (hldE (rdS 0)) (M.pure (.int 18))))) (consM (xfM xf_value "value" (hldE (itemXM (hldE (rdS 0)) (M.pure (.int 19))))) (consM (xfM xf_move "move" (hldE (itemXM (hldE (rdS 0)) (M.pure (.int 20))))) (M.pure [])))))))))
  (retS (opM addT (frzE (rdS 1)) (frzE (lstM (consM (xfM xf_index "index" (hldE (itemXM (hldE (rdS 0)) (M.pure (.int 21))))) (consM (xfM xf_line "line" (hldE (itemXM (hldE (rdS 0)) (M.pure (.int 22))))) (consM (xfM xf_value "value" (hldE (itemXM (hldE (rdS 0)) (M.pure (.int 23))))) (consM (xfM xf_index "index" (hldE (itemXM (hldE (rdS 0)) (M.pure (.int 24))))) (M.pure [])))))))))))))
theorem s_ulaw_kept : FnScope N_ulaw_kept ["_law_made"] sc_ulaw_kept := ⟨rfl, rfl, rfl, by decide +kernel, rfl, by decide +kernel, by decide +kernel⟩
/-! ### ulaw_below -/
abbrev N_ulaw_below : List Str := ["_law_one", "_law_found"]
abbrev sc_ulaw_below : Scope := defScope (top 33)
def d_ulaw_below : SM := (seqS (asgS 1 (lstM (consM (xisM (tabL xt_BadPlace) (hldE (rdS 0))) (consM (xisM (tabL xt_AlreadyThere) (hldE (rdS 0))) (consM (xisM (tabL xt_BadThing) (hldE (rdS 0))) (M.pure []))))))
  (seqS (asgS 1 (opM addT (frzE (rdS 1)) (frzE (lstM (consM (xisM (tabL xt_BadClass) (hldE (rdS 0))) (consM (xisM (tabL xt_BadLibrary) (hldE (rdS 0))) (consM (xisM (tabL xt_BadImport) (hldE (rdS 0))) (M.pure []))))))))
  (seqS (asgS 1 (opM addT (frzE (rdS 1)) (frzE (lstM (consM (xisM (tabL xt_BadOwn) (hldE (rdS 0))) (consM (xisM (tabL xt_BadScope) (hldE (rdS 0))) (consM (xisM (tabL xt_BadUse) (hldE (rdS 0))) (M.pure []))))))))
  (seqS (asgS 1 (opM addT (frzE (rdS 1)) (frzE (lstM (consM (xisM (tabL xt_BadPart) (hldE (rdS 0))) (consM (xisM (tabL xt_BadSpot) (hldE (rdS 0))) (consM (xisM (tabL xt_NotRight) (hldE (rdS 0))) (M.pure []))))))))
  (seqS (asgS 1 (opM addT (frzE (rdS 1)) (frzE (lstM (consM (xisM (tabL xt_NotTouched) (hldE (rdS 0))) (consM (xisM (tabL xt_UnknownCase) (hldE (rdS 0))) (consM (xisM (tabL xt_UnknownName) (hldE (rdS 0))) (M.pure []))))))))
  (seqS (asgS 1 (opM addT (frzE (rdS 1)) (frzE (lstM (consM (xisM (tabL xt_UnknownThing) (hldE (rdS 0))) (consM (xisM (tabL xt_NoUse) (hldE (rdS 0))) (M.pure [])))))))
  (seqS (asgS 1 (opM addT (frzE (rdS 1)) (frzE (lstM (consM (xisM (tabL xt_TooMany) (hldE (rdS 0))) (consM (xisM (tabL xt_BadName) (hldE (rdS 0))) (M.pure [])))))))
  (seqS (asgS 1 (opM addT (frzE (rdS 1)) (frzE (lstM (consM (xisM (tabL xt_BadAddition) (hldE (rdS 0))) (consM (xisM (tabL xt_BadMove) (hldE (rdS 0))) (M.pure [])))))))
  (seqS (asgS 1 (opM addT (frzE (rdS 1)) (frzE (lstM (consM (xisM (tabL xt_BadText) (hldE (rdS 0))) (consM (xisM (tabL xt_BadCommand) (hldE (rdS 0))) (M.pure [])))))))
  (retS (opM addT (frzE (rdS 1)) (frzE (lstM (consM (xisM (tabL xt_BadBook) (hldE (rdS 0))) (consM (xisM (tabL xt_FailedDeed) (hldE (rdS 0))) (M.pure []))))))))))))))))
theorem s_ulaw_below : FnScope N_ulaw_below ["_law_one"] sc_ulaw_below := ⟨rfl, rfl, rfl, by decide +kernel, rfl, by decide +kernel, by decide +kernel⟩
/-! ### ulaw_bases -/
abbrev N_ulaw_bases : List Str := ["_law_one", "_law_found"]
abbrev sc_ulaw_bases : Scope := defScope (top 34)
def d_ulaw_bases : SM := (seqS (asgS 1 (lstM (consM (xisM (tabL xt_NamesError) (hldE (rdS 0))) (consM (xisM (tabL xt_ValueError) (hldE (rdS 0))) (consM (xisM (tabL xt_KeyError) (hldE (rdS 0))) (M.pure []))))))
  (retS (opM addT (frzE (rdS 1)) (frzE (lstM (consM (xisM (tabL xt_IndexError) (hldE (rdS 0))) (consM (xisM (tabL xt_OverflowError) (hldE (rdS 0))) (consM (xisM (tabL xt_RuntimeError) (hldE (rdS 0))) (M.pure [])))))))))
theorem s_ulaw_bases : FnScope N_ulaw_bases ["_law_one"] sc_ulaw_bases := ⟨rfl, rfl, rfl, by decide +kernel, rfl, by decide +kernel, by decide +kernel⟩
/-! ### ulaw_due_bases -/
abbrev N_ulaw_due_bases : List Str := ["_law_at"]
abbrev sc_ulaw_due_bases : Scope := defScope (top 35)
def d_ulaw_due_bases : SM := (seqS (ifS (orM (cmpM ltT (hldE (rdS 0)) (hldE (fzE (M.pure (.int 14))))) (cmpM gtT (hldE (rdS 0)) (hldE (fzE (M.pure (.int 17)))))) (retS (lstM (consM (M.pure (.bl true)) (consM (M.pure (.bl true)) (consM (M.pure (.bl false)) (consM (M.pure (.bl false)) (consM (M.pure (.bl false)) (consM (M.pure (.bl false)) (M.pure []))))))))) nilS)
  (retS (lstM (consM (M.pure (.bl false)) (consM (M.pure (.bl false)) (consM (M.bind (cmpM ltT (hldE (rdS 0)) (hldE (fzE (M.pure (.int 16))))) fun w => M.pure (.bl w)) (consM (M.bind (cmpM eqT (hldE (rdS 0)) (hldE (fzE (M.pure (.int 16))))) fun w => M.pure (.bl w)) (consM (M.bind (cmpM eqT (hldE (rdS 0)) (hldE (fzE (M.pure (.int 17))))) fun w => M.pure (.bl w)) (consM (M.pure (.bl false)) (M.pure []))))))))))
theorem s_ulaw_due_bases : FnScope N_ulaw_due_bases ["_law_at"] sc_ulaw_due_bases := ⟨rfl, rfl, rfl, by decide +kernel, rfl, by decide +kernel, by decide +kernel⟩
/-! ### law -/
abbrev N_law : List Str := ["_law_script", "_law_k", "_law_worth", "_law_made", "_law_at", "_law_kept_here", "_law_other"]
abbrev sc_law : Scope := defScope (top 36)
def d_law : SM := (seqS (ifS (cmpM neT (hldE (M.bind (arCons (frzE (M.pure (.fz (.exc 26 [])))) (M.pure [])) fun as => callA 1 d_ulaw_bases 2 (as ++ List.map Ar.fz []))) (hldE (lstM (consM (M.pure (.bl false)) (consM (M.pure (.bl false)) (consM (M.pure (.bl false)) (consM (M.pure (.bl false)) (consM (M.pure (.bl false)) (consM (M.pure (.bl true)) (M.pure [])))))))))) (retS (fzE (M.pure (.bl false)))) nilS)
  (seqS (forS (M.bind (consM (frzE (callM maxT (consM (M.pure (.int 1)) (consM (frzE (callM minT (consM (frzE (call1M lenT (hldE (rdS 0)))) (consM (M.pure (.int 6)) (M.pure []))))) (M.pure []))))) (M.pure [])) fun ts => M.of (rng1 ts)) (stT 1) (seqS (asgS 2 (M.bind (arCons (frzE (rdS 0)) (arCons (frzE (rdS 1)) (M.pure []))) fun as => callA 2 d_ulaw_value 5 (as ++ List.map Ar.fz [])))
  (forS (M.bind (frzE (lstM (consM (frzE (M.bind (arCons (frzE (rdS 2)) (M.pure [])) fun as => callA 1 d_ulaw_by_place 2 (as ++ List.map Ar.fz []))) (consM (frzE (M.bind (arCons (frzE (rdS 2)) (M.pure [])) fun as => callA 1 d_ulaw_by_name 2 (as ++ List.map Ar.fz []))) (M.pure []))))) fun t => M.of (walkT t)) (stT 3) (seqS (ifS (cmpM neT (hldE (compM (M.bind (frzE (M.bind (arCons (frzE (rdS 3)) (M.pure [])) fun as => callA 1 d_ulaw_kept 2 (as ++ List.map Ar.fz []))) fun t => M.of (walkT t)) (stT 5) (M.pure true) (frzE (call1M reprX2 (hldE (rdS 5)))) (List.map Prod.snd ([("_law_kept_here", 5)] : List (Str × Nat))))) (hldE (repM 25 (lstM (consM (frzE (call1M reprX2 (hldE (rdS 2)))) (M.pure [])))))) (retS (fzE (M.pure (.bl false)))) nilS)
  (forS (M.bind (consM (M.pure (.int 25)) (M.pure [])) fun ts => M.of (rng1 ts)) (stT 4) (seqS (ifS (cmpM neT (hldE (M.bind (arCons (frzE (itemXM (hldE (rdS 3)) (frzE (rdS 4)))) (M.pure [])) fun as => callA 1 d_ulaw_below 2 (as ++ List.map Ar.fz []))) (hldE (compM (M.bind (consM (M.pure (.int 25)) (M.pure [])) fun ts => M.of (rng1 ts)) (stT 6) (M.pure true) (M.bind (cmpM eqT (hldE (rdS 6)) (hldE (rdS 4))) fun w => M.pure (.bl w)) (List.map Prod.snd ([("_law_other", 6)] : List (Str × Nat)))))) (retS (fzE (M.pure (.bl false)))) nilS)
  (ifS (cmpM neT (hldE (M.bind (arCons (frzE (itemXM (hldE (rdS 3)) (frzE (rdS 4)))) (M.pure [])) fun as => callA 1 d_ulaw_bases 2 (as ++ List.map Ar.fz []))) (hldE (M.bind (arCons (frzE (rdS 4)) (M.pure [])) fun as => callA 1 d_ulaw_due_bases 1 (as ++ List.map Ar.fz [])))) (retS (fzE (M.pure (.bl false)))) nilS)))))))
  (retS (fzE (M.pure (.bl true))))))
theorem s_law : FnScope N_law ["_law_script"] sc_law := ⟨rfl, rfl, rfl, by decide +kernel, rfl, by decide +kernel, by decide +kernel⟩
section
variable {P : Program} {w : World} {K : PySem.W.Frag} {mg : Str → Option Value} {base : Heap}
theorem inx_AlreadyThere (X : Fx K w mg) (c : SaysY hy w K) : ∃ fd, FnOk P w K mg base CX0 1 (He.ma K (He.ga K "AlreadyThere") "__init__") fd ["self", "place"] (spInit (He.ga K "AlreadyThere") "place") ∧ Binds K fd ["self", "place"] [] ∧ ∀ (s : Shared) (u v : Value), BindsTo s fd ⟨[u], [("place", v)]⟩ [("self", u), ("place", v)] := by
  obtain ⟨fd, F⟩ := c.d.def_ 8 (d := I_AlreadyThere) rfl
  have kb := binds_kw (ps := ["self", "place"]) (ks := ["place"]) (ix := [0]) F fun _ _ _ _ _ _ _ us hl => match us, hl with | [_], _ => rfl
  exact ⟨fd, initX_ok (attr := "place") (par := "place") X.xm_AlreadyThere F ⟨rfl, rfl, rfl, by decide +kernel, rfl, by decide +kernel, by decide +kernel⟩, F.bindsN fun _ _ _ _ _ _ us hl => match us, hl with | [_, _], _ => rfl, fun s u v => kb s u [v] rfl⟩
theorem inx_BadAddition (X : Fx K w mg) (c : SaysY hy w K) : ∃ fd, FnOk P w K mg base CX0 1 (He.ma K (He.ga K "BadAddition") "__init__") fd ["self", "value"] (spInit (He.ga K "BadAddition") "value") ∧ Binds K fd ["self", "value"] [] ∧ ∀ (s : Shared) (u v : Value), BindsTo s fd ⟨[u], [("value", v)]⟩ [("self", u), ("value", v)] := by
  obtain ⟨fd, F⟩ := c.d.def_ 9 (d := I_BadAddition) rfl
  have kb := binds_kw (ps := ["self", "value"]) (ks := ["value"]) (ix := [0]) F fun _ _ _ _ _ _ _ us hl => match us, hl with | [_], _ => rfl
  exact ⟨fd, initX_ok (attr := "value") (par := "value") X.xm_BadAddition F ⟨rfl, rfl, rfl, by decide +kernel, rfl, by decide +kernel, by decide +kernel⟩, F.bindsN fun _ _ _ _ _ _ us hl => match us, hl with | [_, _], _ => rfl, fun s u v => kb s u [v] rfl⟩
theorem inx_BadBook (X : Fx K w mg) (c : SaysY hy w K) : ∃ fd, FnOk P w K mg base CX0 1 (He.ma K (He.ga K "BadBook") "__init__") fd ["self", "value"] (spInit (He.ga K "BadBook") "value") ∧ Binds K fd ["self", "value"] [] ∧ ∀ (s : Shared) (u v : Value), BindsTo s fd ⟨[u], [("value", v)]⟩ [("self", u), ("value", v)] := by
  obtain ⟨fd, F⟩ := c.d.def_ 10 (d := I_BadBook) rfl
  have kb := binds_kw (ps := ["self", "value"]) (ks := ["value"]) (ix := [0]) F fun _ _ _ _ _ _ _ us hl => match us, hl with | [_], _ => rfl
  exact ⟨fd, initX_ok (attr := "value") (par := "value") X.xm_BadBook F ⟨rfl, rfl, rfl, by decide +kernel, rfl, by decide +kernel, by decide +kernel⟩, F.bindsN fun _ _ _ _ _ _ us hl => match us, hl with | [_, _], _ => rfl, fun s u v => kb s u [v] rfl⟩
theorem inx_BadClass (X : Fx K w mg) (c : SaysY hy w K) : ∃ fd, FnOk P w K mg base CX0 1 (He.ma K (He.ga K "BadClass") "__init__") fd ["self", "index"] (spInit (He.ga K "BadClass") "index") ∧ Binds K fd ["self", "index"] [] ∧ ∀ (s : Shared) (u v : Value), BindsTo s fd ⟨[u], [("index", v)]⟩ [("self", u), ("index", v)] := by
  obtain ⟨fd, F⟩ := c.d.def_ 11 (d := I_BadClass) rfl
  have kb := binds_kw (ps := ["self", "index"]) (ks := ["index"]) (ix := [0]) F fun _ _ _ _ _ _ _ us hl => match us, hl with | [_], _ => rfl
  exact ⟨fd, initX_ok (attr := "index") (par := "index") X.xm_BadClass F ⟨rfl, rfl, rfl, by decide +kernel, rfl, by decide +kernel, by decide +kernel⟩, F.bindsN fun _ _ _ _ _ _ us hl => match us, hl with | [_, _], _ => rfl, fun s u v => kb s u [v] rfl⟩
theorem inx_BadCommand (X : Fx K w mg) (c : SaysY hy w K) : ∃ fd, FnOk P w K mg base CX0 1 (He.ma K (He.ga K "BadCommand") "__init__") fd ["self", "line"] (spInit (He.ga K "BadCommand") "line") ∧ Binds K fd ["self", "line"] [] ∧ ∀ (s : Shared) (u v : Value), BindsTo s fd ⟨[u], [("line", v)]⟩ [("self", u), ("line", v)] := by
  obtain ⟨fd, F⟩ := c.d.def_ 12 (d := I_BadCommand) rfl
  have kb := binds_kw (ps := ["self", "line"]) (ks := ["line"]) (ix := [0]) F fun _ _ _ _ _ _ _ us hl => match us, hl with | [_], _ => rfl
  exact ⟨fd, initX_ok (attr := "line") (par := "line") X.xm_BadCommand F ⟨rfl, rfl, rfl, by decide +kernel, rfl, by decide +kernel, by decide +kernel⟩, F.bindsN fun _ _ _ _ _ _ us hl => match us, hl with | [_, _], _ => rfl, fun s u v => kb s u [v] rfl⟩
theorem inx_BadImport (X : Fx K w mg) (c : SaysY hy w K) : ∃ fd, FnOk P w K mg base CX0 1 (He.ma K (He.ga K "BadImport") "__init__") fd ["self", "index"] (spInit (He.ga K "BadImport") "index") ∧ Binds K fd ["self", "index"] [] ∧ ∀ (s : Shared) (u v : Value), BindsTo s fd ⟨[u], [("index", v)]⟩ [("self", u), ("index", v)] := by
  obtain ⟨fd, F⟩ := c.d.def_ 13 (d := I_BadImport) rfl
  have kb := binds_kw (ps := ["self", "index"]) (ks := ["index"]) (ix := [0]) F fun _ _ _ _ _ _ _ us hl => match us, hl with | [_], _ => rfl
  exact ⟨fd, initX_ok (attr := "index") (par := "index") X.xm_BadImport F ⟨rfl, rfl, rfl, by decide +kernel, rfl, by decide +kernel, by decide +kernel⟩, F.bindsN fun _ _ _ _ _ _ us hl => match us, hl with | [_, _], _ => rfl, fun s u v => kb s u [v] rfl⟩
theorem inx_BadLibrary (X : Fx K w mg) (c : SaysY hy w K) : ∃ fd, FnOk P w K mg base CX0 1 (He.ma K (He.ga K "BadLibrary") "__init__") fd ["self", "index"] (spInit (He.ga K "BadLibrary") "index") ∧ Binds K fd ["self", "index"] [] ∧ ∀ (s : Shared) (u v : Value), BindsTo s fd ⟨[u], [("index", v)]⟩ [("self", u), ("index", v)] := by
  obtain ⟨fd, F⟩ := c.d.def_ 14 (d := I_BadLibrary) rfl
  have kb := binds_kw (ps := ["self", "index"]) (ks := ["index"]) (ix := [0]) F fun _ _ _ _ _ _ _ us hl => match us, hl with | [_], _ => rfl
  exact ⟨fd, initX_ok (attr := "index") (par := "index") X.xm_BadLibrary F ⟨rfl, rfl, rfl, by decide +kernel, rfl, by decide +kernel, by decide +kernel⟩, F.bindsN fun _ _ _ _ _ _ us hl => match us, hl with | [_, _], _ => rfl, fun s u v => kb s u [v] rfl⟩
theorem inx_BadMove (X : Fx K w mg) (c : SaysY hy w K) : ∃ fd, FnOk P w K mg base CX0 1 (He.ma K (He.ga K "BadMove") "__init__") fd ["self", "move"] (spInit (He.ga K "BadMove") "move") ∧ Binds K fd ["self", "move"] [] ∧ ∀ (s : Shared) (u v : Value), BindsTo s fd ⟨[u], [("move", v)]⟩ [("self", u), ("move", v)] := by
  obtain ⟨fd, F⟩ := c.d.def_ 15 (d := I_BadMove) rfl
  have kb := binds_kw (ps := ["self", "move"]) (ks := ["move"]) (ix := [0]) F fun _ _ _ _ _ _ _ us hl => match us, hl with | [_], _ => rfl
  exact ⟨fd, initX_ok (attr := "move") (par := "move") X.xm_BadMove F ⟨rfl, rfl, rfl, by decide +kernel, rfl, by decide +kernel, by decide +kernel⟩, F.bindsN fun _ _ _ _ _ _ us hl => match us, hl with | [_, _], _ => rfl, fun s u v => kb s u [v] rfl⟩
theorem inx_BadName (X : Fx K w mg) (c : SaysY hy w K) : ∃ fd, FnOk P w K mg base CX0 1 (He.ma K (He.ga K "BadName") "__init__") fd ["self", "name"] (spInit (He.ga K "BadName") "name") ∧ Binds K fd ["self", "name"] [] ∧ ∀ (s : Shared) (u v : Value), BindsTo s fd ⟨[u], [("name", v)]⟩ [("self", u), ("name", v)] := by
  obtain ⟨fd, F⟩ := c.d.def_ 16 (d := I_BadName) rfl
  have kb := binds_kw (ps := ["self", "name"]) (ks := ["name"]) (ix := [0]) F fun _ _ _ _ _ _ _ us hl => match us, hl with | [_], _ => rfl
  exact ⟨fd, initX_ok (attr := "name") (par := "name") X.xm_BadName F ⟨rfl, rfl, rfl, by decide +kernel, rfl, by decide +kernel, by decide +kernel⟩, F.bindsN fun _ _ _ _ _ _ us hl => match us, hl with | [_, _], _ => rfl, fun s u v => kb s u [v] rfl⟩
theorem inx_BadOwn (X : Fx K w mg) (c : SaysY hy w K) : ∃ fd, FnOk P w K mg base CX0 1 (He.ma K (He.ga K "BadOwn") "__init__") fd ["self", "index"] (spInit (He.ga K "BadOwn") "index") ∧ Binds K fd ["self", "index"] [] ∧ ∀ (s : Shared) (u v : Value), BindsTo s fd ⟨[u], [("index", v)]⟩ [("self", u), ("index", v)] := by
  obtain ⟨fd, F⟩ := c.d.def_ 17 (d := I_BadOwn) rfl
  have kb := binds_kw (ps := ["self", "index"]) (ks := ["index"]) (ix := [0]) F fun _ _ _ _ _ _ _ us hl => match us, hl with | [_], _ => rfl
  exact ⟨fd, initX_ok (attr := "index") (par := "index") X.xm_BadOwn F ⟨rfl, rfl, rfl, by decide +kernel, rfl, by decide +kernel, by decide +kernel⟩, F.bindsN fun _ _ _ _ _ _ us hl => match us, hl with | [_, _], _ => rfl, fun s u v => kb s u [v] rfl⟩
theorem inx_BadPart (X : Fx K w mg) (c : SaysY hy w K) : ∃ fd, FnOk P w K mg base CX0 1 (He.ma K (He.ga K "BadPart") "__init__") fd ["self", "part"] (spInit (He.ga K "BadPart") "part") ∧ Binds K fd ["self", "part"] [] ∧ ∀ (s : Shared) (u v : Value), BindsTo s fd ⟨[u], [("part", v)]⟩ [("self", u), ("part", v)] := by
  obtain ⟨fd, F⟩ := c.d.def_ 18 (d := I_BadPart) rfl
  have kb := binds_kw (ps := ["self", "part"]) (ks := ["part"]) (ix := [0]) F fun _ _ _ _ _ _ _ us hl => match us, hl with | [_], _ => rfl
  exact ⟨fd, initX_ok (attr := "part") (par := "part") X.xm_BadPart F ⟨rfl, rfl, rfl, by decide +kernel, rfl, by decide +kernel, by decide +kernel⟩, F.bindsN fun _ _ _ _ _ _ us hl => match us, hl with | [_, _], _ => rfl, fun s u v => kb s u [v] rfl⟩
theorem inx_BadPlace (X : Fx K w mg) (c : SaysY hy w K) : ∃ fd, FnOk P w K mg base CX0 1 (He.ma K (He.ga K "BadPlace") "__init__") fd ["self", "place"] (spInit (He.ga K "BadPlace") "place") ∧ Binds K fd ["self", "place"] [] ∧ ∀ (s : Shared) (u v : Value), BindsTo s fd ⟨[u], [("place", v)]⟩ [("self", u), ("place", v)] := by
  obtain ⟨fd, F⟩ := c.d.def_ 19 (d := I_BadPlace) rfl
  have kb := binds_kw (ps := ["self", "place"]) (ks := ["place"]) (ix := [0]) F fun _ _ _ _ _ _ _ us hl => match us, hl with | [_], _ => rfl
  exact ⟨fd, initX_ok (attr := "place") (par := "place") X.xm_BadPlace F ⟨rfl, rfl, rfl, by decide +kernel, rfl, by decide +kernel, by decide +kernel⟩, F.bindsN fun _ _ _ _ _ _ us hl => match us, hl with | [_, _], _ => rfl, fun s u v => kb s u [v] rfl⟩
theorem inx_BadScope (X : Fx K w mg) (c : SaysY hy w K) : ∃ fd, FnOk P w K mg base CX0 1 (He.ma K (He.ga K "BadScope") "__init__") fd ["self", "index"] (spInit (He.ga K "BadScope") "index") ∧ Binds K fd ["self", "index"] [] ∧ ∀ (s : Shared) (u v : Value), BindsTo s fd ⟨[u], [("index", v)]⟩ [("self", u), ("index", v)] := by
  obtain ⟨fd, F⟩ := c.d.def_ 20 (d := I_BadScope) rfl
  have kb := binds_kw (ps := ["self", "index"]) (ks := ["index"]) (ix := [0]) F fun _ _ _ _ _ _ _ us hl => match us, hl with | [_], _ => rfl
  exact ⟨fd, initX_ok (attr := "index") (par := "index") X.xm_BadScope F ⟨rfl, rfl, rfl, by decide +kernel, rfl, by decide +kernel, by decide +kernel⟩, F.bindsN fun _ _ _ _ _ _ us hl => match us, hl with | [_, _], _ => rfl, fun s u v => kb s u [v] rfl⟩
theorem inx_BadSpot (X : Fx K w mg) (c : SaysY hy w K) : ∃ fd, FnOk P w K mg base CX0 1 (He.ma K (He.ga K "BadSpot") "__init__") fd ["self", "spot"] (spInit (He.ga K "BadSpot") "spot") ∧ Binds K fd ["self", "spot"] [] ∧ ∀ (s : Shared) (u v : Value), BindsTo s fd ⟨[u], [("spot", v)]⟩ [("self", u), ("spot", v)] := by
  obtain ⟨fd, F⟩ := c.d.def_ 21 (d := I_BadSpot) rfl
  have kb := binds_kw (ps := ["self", "spot"]) (ks := ["spot"]) (ix := [0]) F fun _ _ _ _ _ _ _ us hl => match us, hl with | [_], _ => rfl
  exact ⟨fd, initX_ok (attr := "spot") (par := "spot") X.xm_BadSpot F ⟨rfl, rfl, rfl, by decide +kernel, rfl, by decide +kernel, by decide +kernel⟩, F.bindsN fun _ _ _ _ _ _ us hl => match us, hl with | [_, _], _ => rfl, fun s u v => kb s u [v] rfl⟩
theorem inx_BadText (X : Fx K w mg) (c : SaysY hy w K) : ∃ fd, FnOk P w K mg base CX0 1 (He.ma K (He.ga K "BadText") "__init__") fd ["self", "index"] (spInit (He.ga K "BadText") "index") ∧ Binds K fd ["self", "index"] [] ∧ ∀ (s : Shared) (u v : Value), BindsTo s fd ⟨[u], [("index", v)]⟩ [("self", u), ("index", v)] := by
  obtain ⟨fd, F⟩ := c.d.def_ 22 (d := I_BadText) rfl
  have kb := binds_kw (ps := ["self", "index"]) (ks := ["index"]) (ix := [0]) F fun _ _ _ _ _ _ _ us hl => match us, hl with | [_], _ => rfl
  exact ⟨fd, initX_ok (attr := "index") (par := "index") X.xm_BadText F ⟨rfl, rfl, rfl, by decide +kernel, rfl, by decide +kernel, by decide +kernel⟩, F.bindsN fun _ _ _ _ _ _ us hl => match us, hl with | [_, _], _ => rfl, fun s u v => kb s u [v] rfl⟩
theorem inx_BadThing (X : Fx K w mg) (c : SaysY hy w K) : ∃ fd, FnOk P w K mg base CX0 1 (He.ma K (He.ga K "BadThing") "__init__") fd ["self", "thing"] (spInit (He.ga K "BadThing") "thing") ∧ Binds K fd ["self", "thing"] [] ∧ ∀ (s : Shared) (u v : Value), BindsTo s fd ⟨[u], [("thing", v)]⟩ [("self", u), ("thing", v)] := by
  obtain ⟨fd, F⟩ := c.d.def_ 23 (d := I_BadThing) rfl
  have kb := binds_kw (ps := ["self", "thing"]) (ks := ["thing"]) (ix := [0]) F fun _ _ _ _ _ _ _ us hl => match us, hl with | [_], _ => rfl
  exact ⟨fd, initX_ok (attr := "thing") (par := "thing") X.xm_BadThing F ⟨rfl, rfl, rfl, by decide +kernel, rfl, by decide +kernel, by decide +kernel⟩, F.bindsN fun _ _ _ _ _ _ us hl => match us, hl with | [_, _], _ => rfl, fun s u v => kb s u [v] rfl⟩
theorem inx_BadUse (X : Fx K w mg) (c : SaysY hy w K) : ∃ fd, FnOk P w K mg base CX0 1 (He.ma K (He.ga K "BadUse") "__init__") fd ["self", "index"] (spInit (He.ga K "BadUse") "index") ∧ Binds K fd ["self", "index"] [] ∧ ∀ (s : Shared) (u v : Value), BindsTo s fd ⟨[u], [("index", v)]⟩ [("self", u), ("index", v)] := by
  obtain ⟨fd, F⟩ := c.d.def_ 24 (d := I_BadUse) rfl
  have kb := binds_kw (ps := ["self", "index"]) (ks := ["index"]) (ix := [0]) F fun _ _ _ _ _ _ _ us hl => match us, hl with | [_], _ => rfl
  exact ⟨fd, initX_ok (attr := "index") (par := "index") X.xm_BadUse F ⟨rfl, rfl, rfl, by decide +kernel, rfl, by decide +kernel, by decide +kernel⟩, F.bindsN fun _ _ _ _ _ _ us hl => match us, hl with | [_, _], _ => rfl, fun s u v => kb s u [v] rfl⟩
theorem inx_FailedDeed (X : Fx K w mg) (c : SaysY hy w K) : ∃ fd, FnOk P w K mg base CX0 1 (He.ma K (He.ga K "FailedDeed") "__init__") fd ["self", "index"] (spInit (He.ga K "FailedDeed") "index") ∧ Binds K fd ["self", "index"] [] ∧ ∀ (s : Shared) (u v : Value), BindsTo s fd ⟨[u], [("index", v)]⟩ [("self", u), ("index", v)] := by
  obtain ⟨fd, F⟩ := c.d.def_ 25 (d := I_FailedDeed) rfl
  have kb := binds_kw (ps := ["self", "index"]) (ks := ["index"]) (ix := [0]) F fun _ _ _ _ _ _ _ us hl => match us, hl with | [_], _ => rfl
  exact ⟨fd, initX_ok (attr := "index") (par := "index") X.xm_FailedDeed F ⟨rfl, rfl, rfl, by decide +kernel, rfl, by decide +kernel, by decide +kernel⟩, F.bindsN fun _ _ _ _ _ _ us hl => match us, hl with | [_, _], _ => rfl, fun s u v => kb s u [v] rfl⟩
theorem inx_NoUse (X : Fx K w mg) (c : SaysY hy w K) : ∃ fd, FnOk P w K mg base CX0 1 (He.ma K (He.ga K "NoUse") "__init__") fd ["self", "index"] (spInit (He.ga K "NoUse") "index") ∧ Binds K fd ["self", "index"] [] ∧ ∀ (s : Shared) (u v : Value), BindsTo s fd ⟨[u], [("index", v)]⟩ [("self", u), ("index", v)] := by
  obtain ⟨fd, F⟩ := c.d.def_ 26 (d := I_NoUse) rfl
  have kb := binds_kw (ps := ["self", "index"]) (ks := ["index"]) (ix := [0]) F fun _ _ _ _ _ _ _ us hl => match us, hl with | [_], _ => rfl
  exact ⟨fd, initX_ok (attr := "index") (par := "index") X.xm_NoUse F ⟨rfl, rfl, rfl, by decide +kernel, rfl, by decide +kernel, by decide +kernel⟩, F.bindsN fun _ _ _ _ _ _ us hl => match us, hl with | [_, _], _ => rfl, fun s u v => kb s u [v] rfl⟩
theorem inx_NotRight (X : Fx K w mg) (c : SaysY hy w K) : ∃ fd, FnOk P w K mg base CX0 1 (He.ma K (He.ga K "NotRight") "__init__") fd ["self", "problems"] (spInit (He.ga K "NotRight") "problems") ∧ Binds K fd ["self", "problems"] [] ∧ ∀ (s : Shared) (u v : Value), BindsTo s fd ⟨[u], [("problems", v)]⟩ [("self", u), ("problems", v)] := by
  obtain ⟨fd, F⟩ := c.d.def_ 27 (d := I_NotRight) rfl
  have kb := binds_kw (ps := ["self", "problems"]) (ks := ["problems"]) (ix := [0]) F fun _ _ _ _ _ _ _ us hl => match us, hl with | [_], _ => rfl
  exact ⟨fd, initX_ok (attr := "problems") (par := "problems") X.xm_NotRight F ⟨rfl, rfl, rfl, by decide +kernel, rfl, by decide +kernel, by decide +kernel⟩, F.bindsN fun _ _ _ _ _ _ us hl => match us, hl with | [_, _], _ => rfl, fun s u v => kb s u [v] rfl⟩
theorem inx_NotTouched (X : Fx K w mg) (c : SaysY hy w K) : ∃ fd, FnOk P w K mg base CX0 1 (He.ma K (He.ga K "NotTouched") "__init__") fd ["self", "addition"] (spInit (He.ga K "NotTouched") "addition") ∧ Binds K fd ["self", "addition"] [] ∧ ∀ (s : Shared) (u v : Value), BindsTo s fd ⟨[u], [("addition", v)]⟩ [("self", u), ("addition", v)] := by
  obtain ⟨fd, F⟩ := c.d.def_ 28 (d := I_NotTouched) rfl
  have kb := binds_kw (ps := ["self", "addition"]) (ks := ["addition"]) (ix := [0]) F fun _ _ _ _ _ _ _ us hl => match us, hl with | [_], _ => rfl
  exact ⟨fd, initX_ok (attr := "addition") (par := "addition") X.xm_NotTouched F ⟨rfl, rfl, rfl, by decide +kernel, rfl, by decide +kernel, by decide +kernel⟩, F.bindsN fun _ _ _ _ _ _ us hl => match us, hl with | [_, _], _ => rfl, fun s u v => kb s u [v] rfl⟩
theorem inx_NothingToUndo (X : Fx K w mg) (c : SaysY hy w K) : ∃ fd, FnOk P w K mg base CX0 1 (He.ma K (He.ga K "NothingToUndo") "__init__") fd ["self"] (spNil (He.ga K "NothingToUndo")) ∧ Binds K fd ["self"] [] ∧ True := by
  obtain ⟨fd, F⟩ := c.d.def_ 29 (d := I_NothingToUndo) rfl
  exact ⟨fd, init0_ok F ⟨rfl, rfl, rfl, by decide +kernel, rfl, by decide +kernel, by decide +kernel⟩, F.bindsN fun _ _ _ _ _ _ us hl => match us, hl with | [_], _ => rfl, True.intro⟩
theorem inx_TooMany (X : Fx K w mg) (c : SaysY hy w K) : ∃ fd, FnOk P w K mg base CX0 1 (He.ma K (He.ga K "TooMany") "__init__") fd ["self", "limit"] (spInit (He.ga K "TooMany") "limit") ∧ Binds K fd ["self", "limit"] [] ∧ ∀ (s : Shared) (u v : Value), BindsTo s fd ⟨[u], [("limit", v)]⟩ [("self", u), ("limit", v)] := by
  obtain ⟨fd, F⟩ := c.d.def_ 30 (d := I_TooMany) rfl
  have kb := binds_kw (ps := ["self", "limit"]) (ks := ["limit"]) (ix := [0]) F fun _ _ _ _ _ _ _ us hl => match us, hl with | [_], _ => rfl
  exact ⟨fd, initX_ok (attr := "limit") (par := "limit") X.xm_TooMany F ⟨rfl, rfl, rfl, by decide +kernel, rfl, by decide +kernel, by decide +kernel⟩, F.bindsN fun _ _ _ _ _ _ us hl => match us, hl with | [_, _], _ => rfl, fun s u v => kb s u [v] rfl⟩
theorem inx_UnknownCase (X : Fx K w mg) (c : SaysY hy w K) : ∃ fd, FnOk P w K mg base CX0 1 (He.ma K (He.ga K "UnknownCase") "__init__") fd ["self", "label"] (spInit (He.ga K "UnknownCase") "label") ∧ Binds K fd ["self", "label"] [] ∧ ∀ (s : Shared) (u v : Value), BindsTo s fd ⟨[u], [("label", v)]⟩ [("self", u), ("label", v)] := by
  obtain ⟨fd, F⟩ := c.d.def_ 31 (d := I_UnknownCase) rfl
  have kb := binds_kw (ps := ["self", "label"]) (ks := ["label"]) (ix := [0]) F fun _ _ _ _ _ _ _ us hl => match us, hl with | [_], _ => rfl
  exact ⟨fd, initX_ok (attr := "label") (par := "label") X.xm_UnknownCase F ⟨rfl, rfl, rfl, by decide +kernel, rfl, by decide +kernel, by decide +kernel⟩, F.bindsN fun _ _ _ _ _ _ us hl => match us, hl with | [_, _], _ => rfl, fun s u v => kb s u [v] rfl⟩
theorem inx_UnknownName (X : Fx K w mg) (c : SaysY hy w K) : ∃ fd, FnOk P w K mg base CX0 1 (He.ma K (He.ga K "UnknownName") "__init__") fd ["self", "name"] (spInit (He.ga K "UnknownName") "name") ∧ Binds K fd ["self", "name"] [] ∧ ∀ (s : Shared) (u v : Value), BindsTo s fd ⟨[u], [("name", v)]⟩ [("self", u), ("name", v)] := by
  obtain ⟨fd, F⟩ := c.d.def_ 32 (d := I_UnknownName) rfl
  have kb := binds_kw (ps := ["self", "name"]) (ks := ["name"]) (ix := [0]) F fun _ _ _ _ _ _ _ us hl => match us, hl with | [_], _ => rfl
  exact ⟨fd, initX_ok (attr := "name") (par := "name") X.xm_UnknownName F ⟨rfl, rfl, rfl, by decide +kernel, rfl, by decide +kernel, by decide +kernel⟩, F.bindsN fun _ _ _ _ _ _ us hl => match us, hl with | [_, _], _ => rfl, fun s u v => kb s u [v] rfl⟩
theorem inx_UnknownThing (X : Fx K w mg) (c : SaysY hy w K) : ∃ fd, FnOk P w K mg base CX0 1 (He.ma K (He.ga K "UnknownThing") "__init__") fd ["self", "thing"] (spInit (He.ga K "UnknownThing") "thing") ∧ Binds K fd ["self", "thing"] [] ∧ ∀ (s : Shared) (u v : Value), BindsTo s fd ⟨[u], [("thing", v)]⟩ [("self", u), ("thing", v)] := by
  obtain ⟨fd, F⟩ := c.d.def_ 33 (d := I_UnknownThing) rfl
  have kb := binds_kw (ps := ["self", "thing"]) (ks := ["thing"]) (ix := [0]) F fun _ _ _ _ _ _ _ us hl => match us, hl with | [_], _ => rfl
  exact ⟨fd, initX_ok (attr := "thing") (par := "thing") X.xm_UnknownThing F ⟨rfl, rfl, rfl, by decide +kernel, rfl, by decide +kernel, by decide +kernel⟩, F.bindsN fun _ _ _ _ _ _ us hl => match us, hl with | [_, _], _ => rfl, fun s u v => kb s u [v] rfl⟩
theorem fnq_ulaw_value (X : Fx K w mg) (c : SaysY hy w K) {fd : FuncData} (F : FunD K D_ulaw_value.name D_ulaw_value.qual D_ulaw_value.params D_ulaw_value.body D_ulaw_value.scope (He.DefD.dvs K D_ulaw_value) (He.DefD.kws K D_ulaw_value) (He.fAd K D_ulaw_value.at_) fd) : FnT P w K mg base (caOf K) 1 (He.fAd K ("_law_value", none)) fd ["_law_script", "_law_k"] 5 d_ulaw_value := by
  have S := s_ulaw_value
  refine fn_body F S rfl (fun cd A outer s H E B => ?_)
  exact (es_cons (e_asg (i := 2) S.nd rfl (.inl rfl) (ev_e ev_int))
  (es_cons (e_if (eb_cmp ok_lt (ev_h (ev_name (i := 1) rfl (.inl rfl))) (ev_h (ev_call1B (x := "len") ok_len rfl X.z_len bb_len (ev_h (ev_name (i := 0) rfl (.inl rfl))))) (nomark _)) (es_one (e_asg (i := 2) S.nd rfl (.inl rfl) (ev_itemX B.rm (ev_h (ev_name (i := 0) rfl (.inl rfl))) (ev_t (ev_name (i := 1) rfl (.inl rfl))) (fun _ _ => rfl)))) es_nil)
  (es_cons (e_asg (i := 3) S.nd rfl (.inl rfl) (ev_op ok_mod (ev_t (ev_call1T (x := "int") ok_int rfl X.z_int bb_int (ev_h (ev_call1B (x := "abs") ok_abs rfl X.z_abs bb_abs (ev_h (ev_name (i := 2) rfl (.inl rfl))))))) (ev_t (ev_op ok_pow ev_int ev_int))))
  (es_cons (e_asg (i := 4) S.nd rfl (.inl rfl) (ev_lst (ea_cons (ev_t (ev_name (i := 3) rfl (.inl rfl))) (ea_cons (ev_t (ev_op ok_sub ev_int (ev_t (ev_name (i := 3) rfl (.inl rfl))))) (ea_cons (ev_t (ev_op ok_mulX ev_str (ev_t (ev_op ok_mod (ev_t (ev_name (i := 3) rfl (.inl rfl))) ev_int)))) (ea_cons ev_non (ea_cons (ev_t (ev_lst (ea_cons (ev_t (ev_name (i := 3) rfl (.inl rfl))) ea_nil))) (ea_cons (ev_tup (ea_cons (ev_t (ev_name (i := 3) rfl (.inl rfl))) (ea_cons ev_str ea_nil))) (ea_cons ev_bl (ea_cons (ev_t ev_dct0) (ea_cons ev_str (ea_cons (ev_t (ev_lst (ea_cons (ev_t (ev_lst ea_nil)) ea_nil))) ea_nil))))))))))))
  (es_one (e_ret (ev_itemX B.rm (ev_h (ev_name (i := 4) rfl (.inl rfl))) (ev_t (ev_op ok_mod (ev_t (ev_call1T (x := "int") ok_int rfl X.z_int bb_int (ev_h (ev_op ok_add (ev_t (ev_op ok_add (ev_t (ev_op ok_fdiv (ev_t (ev_call1T (x := "int") ok_int rfl X.z_int bb_int (ev_h (ev_call1B (x := "abs") ok_abs rfl X.z_abs bb_abs (ev_h (ev_name (i := 2) rfl (.inl rfl))))))) (ev_t (ev_op ok_pow ev_int ev_int)))) (ev_t (ev_name (i := 1) rfl (.inl rfl))))) (ev_t (ev_call1B (x := "len") ok_len rfl X.z_len bb_len (ev_h (ev_name (i := 0) rfl (.inl rfl))))))))) ev_int)) (fun _ _ => rfl))))))))
theorem fn_ulaw_value (X : Fx K w mg) (c : SaysY hy w K) : ∃ fd, FnT P w K mg base (caOf K) 1 (He.fAd K ("_law_value", none)) fd ["_law_script", "_law_k"] 5 d_ulaw_value ∧ (Binds K fd ["_law_script", "_law_k"] []) ∧ (PySem.W.keepIn K (.ref (He.fAd K ("_law_value", none))) = true) ∧ FunD K D_ulaw_value.name D_ulaw_value.qual D_ulaw_value.params D_ulaw_value.body D_ulaw_value.scope (He.DefD.dvs K D_ulaw_value) (He.DefD.kws K D_ulaw_value) (He.fAd K D_ulaw_value.at_) fd := by
  obtain ⟨fd, F⟩ := c.d.def_ 0 (d := D_ulaw_value) rfl
  exact ⟨fd, fnq_ulaw_value X c F, F.bindsN fun _ _ _ _ _ _ us hl => match us, hl with | [_, _], _ => rfl, F.kp, F⟩
theorem fnq_ulaw_by_place (X : Fx K w mg) (c : SaysY hy w K) {fd : FuncData} (F : FunD K D_ulaw_by_place.name D_ulaw_by_place.qual D_ulaw_by_place.params D_ulaw_by_place.body D_ulaw_by_place.scope (He.DefD.dvs K D_ulaw_by_place) (He.DefD.kws K D_ulaw_by_place) (He.fAd K D_ulaw_by_place.at_) fd) : FnT P w K mg base (caOf K) 3 (He.fAd K ("_law_by_place", none)) fd ["_law_worth"] 2 d_ulaw_by_place := by
  obtain ⟨rd_AlreadyThere, R_AlreadyThere, r_AlreadyThere, rk_AlreadyThere⟩ := inx_AlreadyThere (P := P) (w := w) (base := base) X c
  obtain ⟨rd_BadAddition, R_BadAddition, r_BadAddition, rk_BadAddition⟩ := inx_BadAddition (P := P) (w := w) (base := base) X c
  obtain ⟨rd_BadBook, R_BadBook, r_BadBook, rk_BadBook⟩ := inx_BadBook (P := P) (w := w) (base := base) X c
  obtain ⟨rd_BadClass, R_BadClass, r_BadClass, rk_BadClass⟩ := inx_BadClass (P := P) (w := w) (base := base) X c
  obtain ⟨rd_BadCommand, R_BadCommand, r_BadCommand, rk_BadCommand⟩ := inx_BadCommand (P := P) (w := w) (base := base) X c
  obtain ⟨rd_BadImport, R_BadImport, r_BadImport, rk_BadImport⟩ := inx_BadImport (P := P) (w := w) (base := base) X c
  obtain ⟨rd_BadLibrary, R_BadLibrary, r_BadLibrary, rk_BadLibrary⟩ := inx_BadLibrary (P := P) (w := w) (base := base) X c
  obtain ⟨rd_BadMove, R_BadMove, r_BadMove, rk_BadMove⟩ := inx_BadMove (P := P) (w := w) (base := base) X c
  obtain ⟨rd_BadName, R_BadName, r_BadName, rk_BadName⟩ := inx_BadName (P := P) (w := w) (base := base) X c
  obtain ⟨rd_BadOwn, R_BadOwn, r_BadOwn, rk_BadOwn⟩ := inx_BadOwn (P := P) (w := w) (base := base) X c
  obtain ⟨rd_BadPart, R_BadPart, r_BadPart, rk_BadPart⟩ := inx_BadPart (P := P) (w := w) (base := base) X c
  obtain ⟨rd_BadPlace, R_BadPlace, r_BadPlace, rk_BadPlace⟩ := inx_BadPlace (P := P) (w := w) (base := base) X c
  obtain ⟨rd_BadScope, R_BadScope, r_BadScope, rk_BadScope⟩ := inx_BadScope (P := P) (w := w) (base := base) X c
  obtain ⟨rd_BadSpot, R_BadSpot, r_BadSpot, rk_BadSpot⟩ := inx_BadSpot (P := P) (w := w) (base := base) X c
  obtain ⟨rd_BadText, R_BadText, r_BadText, rk_BadText⟩ := inx_BadText (P := P) (w := w) (base := base) X c
  obtain ⟨rd_BadThing, R_BadThing, r_BadThing, rk_BadThing⟩ := inx_BadThing (P := P) (w := w) (base := base) X c
  obtain ⟨rd_BadUse, R_BadUse, r_BadUse, rk_BadUse⟩ := inx_BadUse (P := P) (w := w) (base := base) X c
  obtain ⟨rd_FailedDeed, R_FailedDeed, r_FailedDeed, rk_FailedDeed⟩ := inx_FailedDeed (P := P) (w := w) (base := base) X c
  obtain ⟨rd_NoUse, R_NoUse, r_NoUse, rk_NoUse⟩ := inx_NoUse (P := P) (w := w) (base := base) X c
  obtain ⟨rd_NotRight, R_NotRight, r_NotRight, rk_NotRight⟩ := inx_NotRight (P := P) (w := w) (base := base) X c
  obtain ⟨rd_NotTouched, R_NotTouched, r_NotTouched, rk_NotTouched⟩ := inx_NotTouched (P := P) (w := w) (base := base) X c
  obtain ⟨rd_TooMany, R_TooMany, r_TooMany, rk_TooMany⟩ := inx_TooMany (P := P) (w := w) (base := base) X c
  obtain ⟨rd_UnknownCase, R_UnknownCase, r_UnknownCase, rk_UnknownCase⟩ := inx_UnknownCase (P := P) (w := w) (base := base) X c
  obtain ⟨rd_UnknownName, R_UnknownName, r_UnknownName, rk_UnknownName⟩ := inx_UnknownName (P := P) (w := w) (base := base) X c
  obtain ⟨rd_UnknownThing, R_UnknownThing, r_UnknownThing, rk_UnknownThing⟩ := inx_UnknownThing (P := P) (w := w) (base := base) X c
  have S := s_ulaw_by_place
  refine fn_body F S rfl (fun cd A outer s H E B => ?_)
  exact (es_cons (e_asg (i := 1) S.nd rfl (.inl rfl) (ev_lst (ea_cons (ev_t (ev_exc (ci := 1) X.xm_BadPlace R_BadPlace B.bk (by decide) X.i_BadPlace.at_ X.i_BadPlace.fn r_BadPlace rfl X.g_BadPlace (ev_t (ev_name (i := 0) rfl (.inl rfl))))) (ea_cons (ev_t (ev_exc (ci := 11) X.xm_AlreadyThere R_AlreadyThere B.bk (by decide) X.i_AlreadyThere.at_ X.i_AlreadyThere.fn r_AlreadyThere rfl X.g_AlreadyThere (ev_t (ev_name (i := 0) rfl (.inl rfl))))) (ea_cons (ev_t (ev_exc (ci := 2) X.xm_BadThing R_BadThing B.bk (by decide) X.i_BadThing.at_ X.i_BadThing.fn r_BadThing rfl X.g_BadThing (ev_t (ev_name (i := 0) rfl (.inl rfl))))) ea_nil)))))
  (es_cons (e_asg (i := 1) S.nd rfl (.inl rfl) (ev_op ok_add (ev_t (ev_name (i := 1) rfl (.inl rfl))) (ev_t (ev_lst (ea_cons (ev_t (ev_exc (ci := 3) X.xm_BadClass R_BadClass B.bk (by decide) X.i_BadClass.at_ X.i_BadClass.fn r_BadClass rfl X.g_BadClass (ev_t (ev_name (i := 0) rfl (.inl rfl))))) (ea_cons (ev_t (ev_exc (ci := 4) X.xm_BadLibrary R_BadLibrary B.bk (by decide) X.i_BadLibrary.at_ X.i_BadLibrary.fn r_BadLibrary rfl X.g_BadLibrary (ev_t (ev_name (i := 0) rfl (.inl rfl))))) (ea_cons (ev_t (ev_exc (ci := 5) X.xm_BadImport R_BadImport B.bk (by decide) X.i_BadImport.at_ X.i_BadImport.fn r_BadImport rfl X.g_BadImport (ev_t (ev_name (i := 0) rfl (.inl rfl))))) ea_nil)))))))
  (es_cons (e_asg (i := 1) S.nd rfl (.inl rfl) (ev_op ok_add (ev_t (ev_name (i := 1) rfl (.inl rfl))) (ev_t (ev_lst (ea_cons (ev_t (ev_exc (ci := 6) X.xm_BadOwn R_BadOwn B.bk (by decide) X.i_BadOwn.at_ X.i_BadOwn.fn r_BadOwn rfl X.g_BadOwn (ev_t (ev_name (i := 0) rfl (.inl rfl))))) (ea_cons (ev_t (ev_exc (ci := 7) X.xm_BadScope R_BadScope B.bk (by decide) X.i_BadScope.at_ X.i_BadScope.fn r_BadScope rfl X.g_BadScope (ev_t (ev_name (i := 0) rfl (.inl rfl))))) (ea_cons (ev_t (ev_exc (ci := 8) X.xm_BadUse R_BadUse B.bk (by decide) X.i_BadUse.at_ X.i_BadUse.fn r_BadUse rfl X.g_BadUse (ev_t (ev_name (i := 0) rfl (.inl rfl))))) ea_nil)))))))
  (es_cons (e_asg (i := 1) S.nd rfl (.inl rfl) (ev_op ok_add (ev_t (ev_name (i := 1) rfl (.inl rfl))) (ev_t (ev_lst (ea_cons (ev_t (ev_exc (ci := 9) X.xm_BadPart R_BadPart B.bk (by decide) X.i_BadPart.at_ X.i_BadPart.fn r_BadPart rfl X.g_BadPart (ev_t (ev_name (i := 0) rfl (.inl rfl))))) (ea_cons (ev_t (ev_exc (ci := 10) X.xm_BadSpot R_BadSpot B.bk (by decide) X.i_BadSpot.at_ X.i_BadSpot.fn r_BadSpot rfl X.g_BadSpot (ev_t (ev_name (i := 0) rfl (.inl rfl))))) (ea_cons (ev_t (ev_exc (ci := 12) X.xm_NotRight R_NotRight B.bk (by decide) X.i_NotRight.at_ X.i_NotRight.fn r_NotRight rfl X.g_NotRight (ev_t (ev_name (i := 0) rfl (.inl rfl))))) ea_nil)))))))
  (es_cons (e_asg (i := 1) S.nd rfl (.inl rfl) (ev_op ok_add (ev_t (ev_name (i := 1) rfl (.inl rfl))) (ev_t (ev_lst (ea_cons (ev_t (ev_exc (ci := 13) X.xm_NotTouched R_NotTouched B.bk (by decide) X.i_NotTouched.at_ X.i_NotTouched.fn r_NotTouched rfl X.g_NotTouched (ev_t (ev_name (i := 0) rfl (.inl rfl))))) (ea_cons (ev_t (ev_exc (ci := 14) X.xm_UnknownCase R_UnknownCase B.bk (by decide) X.i_UnknownCase.at_ X.i_UnknownCase.fn r_UnknownCase rfl X.g_UnknownCase (ev_t (ev_name (i := 0) rfl (.inl rfl))))) (ea_cons (ev_t (ev_exc (ci := 22) X.xm_UnknownName R_UnknownName B.bk (by decide) X.i_UnknownName.at_ X.i_UnknownName.fn r_UnknownName rfl X.g_UnknownName (ev_t (ev_name (i := 0) rfl (.inl rfl))))) ea_nil)))))))
  (es_cons (e_asg (i := 1) S.nd rfl (.inl rfl) (ev_op ok_add (ev_t (ev_name (i := 1) rfl (.inl rfl))) (ev_t (ev_lst (ea_cons (ev_t (ev_exc (ci := 23) X.xm_UnknownThing R_UnknownThing B.bk (by decide) X.i_UnknownThing.at_ X.i_UnknownThing.fn r_UnknownThing rfl X.g_UnknownThing (ev_t (ev_name (i := 0) rfl (.inl rfl))))) (ea_cons (ev_t (ev_exc (ci := 24) X.xm_NoUse R_NoUse B.bk (by decide) X.i_NoUse.at_ X.i_NoUse.fn r_NoUse rfl X.g_NoUse (ev_t (ev_name (i := 0) rfl (.inl rfl))))) (ea_cons (ev_t (ev_exc (ci := 25) X.xm_TooMany R_TooMany B.bk (by decide) X.i_TooMany.at_ X.i_TooMany.fn r_TooMany rfl X.g_TooMany (ev_t (ev_name (i := 0) rfl (.inl rfl))))) ea_nil)))))))
  (es_cons (e_asg (i := 1) S.nd rfl (.inl rfl) (ev_op ok_add (ev_t (ev_name (i := 1) rfl (.inl rfl))) (ev_t (ev_lst (ea_cons (ev_t (ev_exc (ci := 15) X.xm_BadName R_BadName B.bk (by decide) X.i_BadName.at_ X.i_BadName.fn r_BadName rfl X.g_BadName (ev_t (ev_name (i := 0) rfl (.inl rfl))))) (ea_cons (ev_t (ev_exc (ci := 16) X.xm_BadAddition R_BadAddition B.bk (by decide) X.i_BadAddition.at_ X.i_BadAddition.fn r_BadAddition rfl X.g_BadAddition (ev_t (ev_name (i := 0) rfl (.inl rfl))))) (ea_cons (ev_t (ev_exc (ci := 17) X.xm_BadMove R_BadMove B.bk (by decide) X.i_BadMove.at_ X.i_BadMove.fn r_BadMove rfl X.g_BadMove (ev_t (ev_name (i := 0) rfl (.inl rfl))))) ea_nil)))))))
  (es_cons (e_asg (i := 1) S.nd rfl (.inl rfl) (ev_op ok_add (ev_t (ev_name (i := 1) rfl (.inl rfl))) (ev_t (ev_lst (ea_cons (ev_t (ev_exc (ci := 18) X.xm_BadText R_BadText B.bk (by decide) X.i_BadText.at_ X.i_BadText.fn r_BadText rfl X.g_BadText (ev_t (ev_name (i := 0) rfl (.inl rfl))))) (ea_cons (ev_t (ev_exc (ci := 19) X.xm_BadCommand R_BadCommand B.bk (by decide) X.i_BadCommand.at_ X.i_BadCommand.fn r_BadCommand rfl X.g_BadCommand (ev_t (ev_name (i := 0) rfl (.inl rfl))))) (ea_cons (ev_t (ev_exc (ci := 20) X.xm_BadBook R_BadBook B.bk (by decide) X.i_BadBook.at_ X.i_BadBook.fn r_BadBook rfl X.g_BadBook (ev_t (ev_name (i := 0) rfl (.inl rfl))))) ea_nil)))))))
  (es_one (e_ret (ev_op ok_add (ev_t (ev_name (i := 1) rfl (.inl rfl))) (ev_t (ev_lst (ea_cons (ev_t (ev_exc (ci := 21) X.xm_FailedDeed R_FailedDeed B.bk (by decide) X.i_FailedDeed.at_ X.i_FailedDeed.fn r_FailedDeed rfl X.g_FailedDeed (ev_t (ev_name (i := 0) rfl (.inl rfl))))) ea_nil))))))))))))))
theorem fn_ulaw_by_place (X : Fx K w mg) (c : SaysY hy w K) : ∃ fd, FnT P w K mg base (caOf K) 3 (He.fAd K ("_law_by_place", none)) fd ["_law_worth"] 2 d_ulaw_by_place ∧ (Binds K fd ["_law_worth"] []) ∧ (PySem.W.keepIn K (.ref (He.fAd K ("_law_by_place", none))) = true) ∧ FunD K D_ulaw_by_place.name D_ulaw_by_place.qual D_ulaw_by_place.params D_ulaw_by_place.body D_ulaw_by_place.scope (He.DefD.dvs K D_ulaw_by_place) (He.DefD.kws K D_ulaw_by_place) (He.fAd K D_ulaw_by_place.at_) fd := by
  obtain ⟨fd, F⟩ := c.d.def_ 1 (d := D_ulaw_by_place) rfl
  exact ⟨fd, fnq_ulaw_by_place X c F, F.bindsN fun _ _ _ _ _ _ us hl => match us, hl with | [_], _ => rfl, F.kp, F⟩
theorem fnq_ulaw_by_name (X : Fx K w mg) (c : SaysY hy w K) {fd : FuncData} (F : FunD K D_ulaw_by_name.name D_ulaw_by_name.qual D_ulaw_by_name.params D_ulaw_by_name.body D_ulaw_by_name.scope (He.DefD.dvs K D_ulaw_by_name) (He.DefD.kws K D_ulaw_by_name) (He.fAd K D_ulaw_by_name.at_) fd) : FnT P w K mg base (caOf K) 3 (He.fAd K ("_law_by_name", none)) fd ["_law_worth"] 2 d_ulaw_by_name := by
  obtain ⟨rd_AlreadyThere, R_AlreadyThere, r_AlreadyThere, rk_AlreadyThere⟩ := inx_AlreadyThere (P := P) (w := w) (base := base) X c
  obtain ⟨rd_BadAddition, R_BadAddition, r_BadAddition, rk_BadAddition⟩ := inx_BadAddition (P := P) (w := w) (base := base) X c
  obtain ⟨rd_BadBook, R_BadBook, r_BadBook, rk_BadBook⟩ := inx_BadBook (P := P) (w := w) (base := base) X c
  obtain ⟨rd_BadClass, R_BadClass, r_BadClass, rk_BadClass⟩ := inx_BadClass (P := P) (w := w) (base := base) X c
  obtain ⟨rd_BadCommand, R_BadCommand, r_BadCommand, rk_BadCommand⟩ := inx_BadCommand (P := P) (w := w) (base := base) X c
  obtain ⟨rd_BadImport, R_BadImport, r_BadImport, rk_BadImport⟩ := inx_BadImport (P := P) (w := w) (base := base) X c
  obtain ⟨rd_BadLibrary, R_BadLibrary, r_BadLibrary, rk_BadLibrary⟩ := inx_BadLibrary (P := P) (w := w) (base := base) X c
  obtain ⟨rd_BadMove, R_BadMove, r_BadMove, rk_BadMove⟩ := inx_BadMove (P := P) (w := w) (base := base) X c
  obtain ⟨rd_BadName, R_BadName, r_BadName, rk_BadName⟩ := inx_BadName (P := P) (w := w) (base := base) X c
  obtain ⟨rd_BadOwn, R_BadOwn, r_BadOwn, rk_BadOwn⟩ := inx_BadOwn (P := P) (w := w) (base := base) X c
  obtain ⟨rd_BadPart, R_BadPart, r_BadPart, rk_BadPart⟩ := inx_BadPart (P := P) (w := w) (base := base) X c
  obtain ⟨rd_BadPlace, R_BadPlace, r_BadPlace, rk_BadPlace⟩ := inx_BadPlace (P := P) (w := w) (base := base) X c
  obtain ⟨rd_BadScope, R_BadScope, r_BadScope, rk_BadScope⟩ := inx_BadScope (P := P) (w := w) (base := base) X c
  obtain ⟨rd_BadSpot, R_BadSpot, r_BadSpot, rk_BadSpot⟩ := inx_BadSpot (P := P) (w := w) (base := base) X c
  obtain ⟨rd_BadText, R_BadText, r_BadText, rk_BadText⟩ := inx_BadText (P := P) (w := w) (base := base) X c
  obtain ⟨rd_BadThing, R_BadThing, r_BadThing, rk_BadThing⟩ := inx_BadThing (P := P) (w := w) (base := base) X c
  obtain ⟨rd_BadUse, R_BadUse, r_BadUse, rk_BadUse⟩ := inx_BadUse (P := P) (w := w) (base := base) X c
  obtain ⟨rd_FailedDeed, R_FailedDeed, r_FailedDeed, rk_FailedDeed⟩ := inx_FailedDeed (P := P) (w := w) (base := base) X c
  obtain ⟨rd_NoUse, R_NoUse, r_NoUse, rk_NoUse⟩ := inx_NoUse (P := P) (w := w) (base := base) X c
  obtain ⟨rd_NotRight, R_NotRight, r_NotRight, rk_NotRight⟩ := inx_NotRight (P := P) (w := w) (base := base) X c
  obtain ⟨rd_NotTouched, R_NotTouched, r_NotTouched, rk_NotTouched⟩ := inx_NotTouched (P := P) (w := w) (base := base) X c
  obtain ⟨rd_TooMany, R_TooMany, r_TooMany, rk_TooMany⟩ := inx_TooMany (P := P) (w := w) (base := base) X c
  obtain ⟨rd_UnknownCase, R_UnknownCase, r_UnknownCase, rk_UnknownCase⟩ := inx_UnknownCase (P := P) (w := w) (base := base) X c
  obtain ⟨rd_UnknownName, R_UnknownName, r_UnknownName, rk_UnknownName⟩ := inx_UnknownName (P := P) (w := w) (base := base) X c
  obtain ⟨rd_UnknownThing, R_UnknownThing, r_UnknownThing, rk_UnknownThing⟩ := inx_UnknownThing (P := P) (w := w) (base := base) X c
  have S := s_ulaw_by_name
  refine fn_body F S rfl (fun cd A outer s H E B => ?_)
  exact (es_cons (e_asg (i := 1) S.nd rfl (.inl rfl) (ev_lst (ea_cons (ev_t (ev_excK (ci := 1) X.xm_BadPlace R_BadPlace B.bk (by decide) X.i_BadPlace.at_ X.i_BadPlace.fn rk_BadPlace rfl X.g_BadPlace (ev_t (ev_name (i := 0) rfl (.inl rfl))))) (ea_cons (ev_t (ev_excK (ci := 11) X.xm_AlreadyThere R_AlreadyThere B.bk (by decide) X.i_AlreadyThere.at_ X.i_AlreadyThere.fn rk_AlreadyThere rfl X.g_AlreadyThere (ev_t (ev_name (i := 0) rfl (.inl rfl))))) (ea_cons (ev_t (ev_excK (ci := 2) X.xm_BadThing R_BadThing B.bk (by decide) X.i_BadThing.at_ X.i_BadThing.fn rk_BadThing rfl X.g_BadThing (ev_t (ev_name (i := 0) rfl (.inl rfl))))) ea_nil)))))
  (es_cons (e_asg (i := 1) S.nd rfl (.inl rfl) (ev_op ok_add (ev_t (ev_name (i := 1) rfl (.inl rfl))) (ev_t (ev_lst (ea_cons (ev_t (ev_excK (ci := 3) X.xm_BadClass R_BadClass B.bk (by decide) X.i_BadClass.at_ X.i_BadClass.fn rk_BadClass rfl X.g_BadClass (ev_t (ev_name (i := 0) rfl (.inl rfl))))) (ea_cons (ev_t (ev_excK (ci := 4) X.xm_BadLibrary R_BadLibrary B.bk (by decide) X.i_BadLibrary.at_ X.i_BadLibrary.fn rk_BadLibrary rfl X.g_BadLibrary (ev_t (ev_name (i := 0) rfl (.inl rfl))))) (ea_cons (ev_t (ev_excK (ci := 5) X.xm_BadImport R_BadImport B.bk (by decide) X.i_BadImport.at_ X.i_BadImport.fn rk_BadImport rfl X.g_BadImport (ev_t (ev_name (i := 0) rfl (.inl rfl))))) ea_nil)))))))
  (es_cons (e_asg (i := 1) S.nd rfl (.inl rfl) (ev_op ok_add (ev_t (ev_name (i := 1) rfl (.inl rfl))) (ev_t (ev_lst (ea_cons (ev_t (ev_excK (ci := 6) X.xm_BadOwn R_BadOwn B.bk (by decide) X.i_BadOwn.at_ X.i_BadOwn.fn rk_BadOwn rfl X.g_BadOwn (ev_t (ev_name (i := 0) rfl (.inl rfl))))) (ea_cons (ev_t (ev_excK (ci := 7) X.xm_BadScope R_BadScope B.bk (by decide) X.i_BadScope.at_ X.i_BadScope.fn rk_BadScope rfl X.g_BadScope (ev_t (ev_name (i := 0) rfl (.inl rfl))))) (ea_cons (ev_t (ev_excK (ci := 8) X.xm_BadUse R_BadUse B.bk (by decide) X.i_BadUse.at_ X.i_BadUse.fn rk_BadUse rfl X.g_BadUse (ev_t (ev_name (i := 0) rfl (.inl rfl))))) ea_nil)))))))
  (es_cons (e_asg (i := 1) S.nd rfl (.inl rfl) (ev_op ok_add (ev_t (ev_name (i := 1) rfl (.inl rfl))) (ev_t (ev_lst (ea_cons (ev_t (ev_excK (ci := 9) X.xm_BadPart R_BadPart B.bk (by decide) X.i_BadPart.at_ X.i_BadPart.fn rk_BadPart rfl X.g_BadPart (ev_t (ev_name (i := 0) rfl (.inl rfl))))) (ea_cons (ev_t (ev_excK (ci := 10) X.xm_BadSpot R_BadSpot B.bk (by decide) X.i_BadSpot.at_ X.i_BadSpot.fn rk_BadSpot rfl X.g_BadSpot (ev_t (ev_name (i := 0) rfl (.inl rfl))))) (ea_cons (ev_t (ev_excK (ci := 12) X.xm_NotRight R_NotRight B.bk (by decide) X.i_NotRight.at_ X.i_NotRight.fn rk_NotRight rfl X.g_NotRight (ev_t (ev_name (i := 0) rfl (.inl rfl))))) ea_nil)))))))
  (es_cons (e_asg (i := 1) S.nd rfl (.inl rfl) (ev_op ok_add (ev_t (ev_name (i := 1) rfl (.inl rfl))) (ev_t (ev_lst (ea_cons (ev_t (ev_excK (ci := 13) X.xm_NotTouched R_NotTouched B.bk (by decide) X.i_NotTouched.at_ X.i_NotTouched.fn rk_NotTouched rfl X.g_NotTouched (ev_t (ev_name (i := 0) rfl (.inl rfl))))) (ea_cons (ev_t (ev_excK (ci := 14) X.xm_UnknownCase R_UnknownCase B.bk (by decide) X.i_UnknownCase.at_ X.i_UnknownCase.fn rk_UnknownCase rfl X.g_UnknownCase (ev_t (ev_name (i := 0) rfl (.inl rfl))))) (ea_cons (ev_t (ev_excK (ci := 22) X.xm_UnknownName R_UnknownName B.bk (by decide) X.i_UnknownName.at_ X.i_UnknownName.fn rk_UnknownName rfl X.g_UnknownName (ev_t (ev_name (i := 0) rfl (.inl rfl))))) ea_nil)))))))
  (es_cons (e_asg (i := 1) S.nd rfl (.inl rfl) (ev_op ok_add (ev_t (ev_name (i := 1) rfl (.inl rfl))) (ev_t (ev_lst (ea_cons (ev_t (ev_excK (ci := 23) X.xm_UnknownThing R_UnknownThing B.bk (by decide) X.i_UnknownThing.at_ X.i_UnknownThing.fn rk_UnknownThing rfl X.g_UnknownThing (ev_t (ev_name (i := 0) rfl (.inl rfl))))) (ea_cons (ev_t (ev_excK (ci := 24) X.xm_NoUse R_NoUse B.bk (by decide) X.i_NoUse.at_ X.i_NoUse.fn rk_NoUse rfl X.g_NoUse (ev_t (ev_name (i := 0) rfl (.inl rfl))))) (ea_cons (ev_t (ev_excK (ci := 25) X.xm_TooMany R_TooMany B.bk (by decide) X.i_TooMany.at_ X.i_TooMany.fn rk_TooMany rfl X.g_TooMany (ev_t (ev_name (i := 0) rfl (.inl rfl))))) ea_nil)))))))
  (es_cons (e_asg (i := 1) S.nd rfl (.inl rfl) (ev_op ok_add (ev_t (ev_name (i := 1) rfl (.inl rfl))) (ev_t (ev_lst (ea_cons (ev_t (ev_excK (ci := 15) X.xm_BadName R_BadName B.bk (by decide) X.i_BadName.at_ X.i_BadName.fn rk_BadName rfl X.g_BadName (ev_t (ev_name (i := 0) rfl (.inl rfl))))) (ea_cons (ev_t (ev_excK (ci := 16) X.xm_BadAddition R_BadAddition B.bk (by decide) X.i_BadAddition.at_ X.i_BadAddition.fn rk_BadAddition rfl X.g_BadAddition (ev_t (ev_name (i := 0) rfl (.inl rfl))))) (ea_cons (ev_t (ev_excK (ci := 17) X.xm_BadMove R_BadMove B.bk (by decide) X.i_BadMove.at_ X.i_BadMove.fn rk_BadMove rfl X.g_BadMove (ev_t (ev_name (i := 0) rfl (.inl rfl))))) ea_nil)))))))
  (es_cons (e_asg (i := 1) S.nd rfl (.inl rfl) (ev_op ok_add (ev_t (ev_name (i := 1) rfl (.inl rfl))) (ev_t (ev_lst (ea_cons (ev_t (ev_excK (ci := 18) X.xm_BadText R_BadText B.bk (by decide) X.i_BadText.at_ X.i_BadText.fn rk_BadText rfl X.g_BadText (ev_t (ev_name (i := 0) rfl (.inl rfl))))) (ea_cons (ev_t (ev_excK (ci := 19) X.xm_BadCommand R_BadCommand B.bk (by decide) X.i_BadCommand.at_ X.i_BadCommand.fn rk_BadCommand rfl X.g_BadCommand (ev_t (ev_name (i := 0) rfl (.inl rfl))))) (ea_cons (ev_t (ev_excK (ci := 20) X.xm_BadBook R_BadBook B.bk (by decide) X.i_BadBook.at_ X.i_BadBook.fn rk_BadBook rfl X.g_BadBook (ev_t (ev_name (i := 0) rfl (.inl rfl))))) ea_nil)))))))
  (es_one (e_ret (ev_op ok_add (ev_t (ev_name (i := 1) rfl (.inl rfl))) (ev_t (ev_lst (ea_cons (ev_t (ev_excK (ci := 21) X.xm_FailedDeed R_FailedDeed B.bk (by decide) X.i_FailedDeed.at_ X.i_FailedDeed.fn rk_FailedDeed rfl X.g_FailedDeed (ev_t (ev_name (i := 0) rfl (.inl rfl))))) ea_nil))))))))))))))
theorem fn_ulaw_by_name (X : Fx K w mg) (c : SaysY hy w K) : ∃ fd, FnT P w K mg base (caOf K) 3 (He.fAd K ("_law_by_name", none)) fd ["_law_worth"] 2 d_ulaw_by_name ∧ (Binds K fd ["_law_worth"] []) ∧ (PySem.W.keepIn K (.ref (He.fAd K ("_law_by_name", none))) = true) ∧ FunD K D_ulaw_by_name.name D_ulaw_by_name.qual D_ulaw_by_name.params D_ulaw_by_name.body D_ulaw_by_name.scope (He.DefD.dvs K D_ulaw_by_name) (He.DefD.kws K D_ulaw_by_name) (He.fAd K D_ulaw_by_name.at_) fd := by
  obtain ⟨fd, F⟩ := c.d.def_ 2 (d := D_ulaw_by_name) rfl
  exact ⟨fd, fnq_ulaw_by_name X c F, F.bindsN fun _ _ _ _ _ _ us hl => match us, hl with | [_], _ => rfl, F.kp, F⟩
theorem fnq_ulaw_kept (X : Fx K w mg) (c : SaysY hy w K) {fd : FuncData} (F : FunD K D_ulaw_kept.name D_ulaw_kept.qual D_ulaw_kept.params D_ulaw_kept.body D_ulaw_kept.scope (He.DefD.dvs K D_ulaw_kept) (He.DefD.kws K D_ulaw_kept) (He.fAd K D_ulaw_kept.at_) fd) : FnT P w K mg base (caOf K) 1 (He.fAd K ("_law_kept", none)) fd ["_law_made"] 2 d_ulaw_kept := by
  have S := s_ulaw_kept
  refine fn_body F S rfl (fun cd A outer s H E B => ?_)
  exact (es_cons (e_asg (i := 1) S.nd rfl (.inl rfl) (ev_lst (ea_cons (ev_xf (cs := xf_place) X.xf_place (ev_h (ev_itemX B.rm (ev_h (ev_name (i := 0) rfl (.inl rfl))) ev_int (fun _ _ => rfl)))) (ea_cons (ev_xf (cs := xf_place) X.xf_place (ev_h (ev_itemX B.rm (ev_h (ev_name (i := 0) rfl (.inl rfl))) ev_int (fun _ _ => rfl)))) (ea_cons (ev_xf (cs := xf_thing) X.xf_thing (ev_h (ev_itemX B.rm (ev_h (ev_name (i := 0) rfl (.inl rfl))) ev_int (fun _ _ => rfl)))) (ea_cons (ev_xf (cs := xf_index) X.xf_index (ev_h (ev_itemX B.rm (ev_h (ev_name (i := 0) rfl (.inl rfl))) ev_int (fun _ _ => rfl)))) (ea_cons (ev_xf (cs := xf_index) X.xf_index (ev_h (ev_itemX B.rm (ev_h (ev_name (i := 0) rfl (.inl rfl))) ev_int (fun _ _ => rfl)))) (ea_cons (ev_xf (cs := xf_index) X.xf_index (ev_h (ev_itemX B.rm (ev_h (ev_name (i := 0) rfl (.inl rfl))) ev_int (fun _ _ => rfl)))) (ea_cons (ev_xf (cs := xf_index) X.xf_index (ev_h (ev_itemX B.rm (ev_h (ev_name (i := 0) rfl (.inl rfl))) ev_int (fun _ _ => rfl)))) ea_nil)))))))))
  (es_cons (e_asg (i := 1) S.nd rfl (.inl rfl) (ev_op ok_add (ev_t (ev_name (i := 1) rfl (.inl rfl))) (ev_t (ev_lst (ea_cons (ev_xf (cs := xf_index) X.xf_index (ev_h (ev_itemX B.rm (ev_h (ev_name (i := 0) rfl (.inl rfl))) ev_int (fun _ _ => rfl)))) (ea_cons (ev_xf (cs := xf_index) X.xf_index (ev_h (ev_itemX B.rm (ev_h (ev_name (i := 0) rfl (.inl rfl))) ev_int (fun _ _ => rfl)))) (ea_cons (ev_xf (cs := xf_part) X.xf_part (ev_h (ev_itemX B.rm (ev_h (ev_name (i := 0) rfl (.inl rfl))) ev_int (fun _ _ => rfl)))) (ea_cons (ev_xf (cs := xf_spot) X.xf_spot (ev_h (ev_itemX B.rm (ev_h (ev_name (i := 0) rfl (.inl rfl))) ev_int (fun _ _ => rfl)))) (ea_cons (ev_xf (cs := xf_problems) X.xf_problems (ev_h (ev_itemX B.rm (ev_h (ev_name (i := 0) rfl (.inl rfl))) ev_int (fun _ _ => rfl)))) (ea_cons (ev_xf (cs := xf_addition) X.xf_addition (ev_h (ev_itemX B.rm (ev_h (ev_name (i := 0) rfl (.inl rfl))) ev_int (fun _ _ => rfl)))) ea_nil))))))))))
  (es_cons (e_asg (i := 1) S.nd rfl (.inl rfl) (ev_op ok_add (ev_t (ev_name (i := 1) rfl (.inl rfl))) (ev_t (ev_lst (ea_cons (ev_xf (cs := xf_label) X.xf_label (ev_h (ev_itemX B.rm (ev_h (ev_name (i := 0) rfl (.inl rfl))) ev_int (fun _ _ => rfl)))) (ea_cons (ev_xf (cs := xf_name) X.xf_name (ev_h (ev_itemX B.rm (ev_h (ev_name (i := 0) rfl (.inl rfl))) ev_int (fun _ _ => rfl)))) (ea_cons (ev_xf (cs := xf_thing) X.xf_thing (ev_h (ev_itemX B.rm (ev_h (ev_name (i := 0) rfl (.inl rfl))) ev_int (fun _ _ => rfl)))) (ea_cons (ev_xf (cs := xf_index) X.xf_index (ev_h (ev_itemX B.rm (ev_h (ev_name (i := 0) rfl (.inl rfl))) ev_int (fun _ _ => rfl)))) ea_nil))))))))
  (es_cons (e_asg (i := 1) S.nd rfl (.inl rfl) (ev_op ok_add (ev_t (ev_name (i := 1) rfl (.inl rfl))) (ev_t (ev_lst (ea_cons (ev_xf (cs := xf_limit) X.xf_limit (ev_h (ev_itemX B.rm (ev_h (ev_name (i := 0) rfl (.inl rfl))) ev_int (fun _ _ => rfl)))) (ea_cons (ev_xf (cs := xf_name) X.xf_name (ev_h (ev_itemX B.rm (ev_h (ev_name (i := 0) rfl (.inl rfl))) ev_int (fun _ _ => rfl)))) (ea_cons (ev_xf (cs := xf_value) X.xf_value (ev_h (ev_itemX B.rm (ev_h (ev_name (i := 0) rfl (.inl rfl))) ev_int (fun _ _ => rfl)))) (ea_cons (ev_xf (cs := xf_move) X.xf_move (ev_h (ev_itemX B.rm (ev_h (ev_name (i := 0) rfl (.inl rfl))) ev_int (fun _ _ => rfl)))) ea_nil))))))))
  (es_one (e_ret (ev_op ok_add (ev_t (ev_name (i := 1) rfl (.inl rfl))) (ev_t (ev_lst (ea_cons (ev_xf (cs := xf_index) X.xf_index (ev_h (ev_itemX B.rm (ev_h (ev_name (i := 0) rfl (.inl rfl))) ev_int (fun _ _ => rfl)))) (ea_cons (ev_xf (cs := xf_line) X.xf_line (ev_h (ev_itemX B.rm (ev_h (ev_name (i := 0) rfl (.inl rfl))) ev_int (fun _ _ => rfl)))) (ea_cons (ev_xf (cs := xf_value) X.xf_value (ev_h (ev_itemX B.rm (ev_h (ev_name (i := 0) rfl (.inl rfl))) ev_int (fun _ _ => rfl)))) (ea_cons (ev_xf (cs := xf_index) X.xf_index (ev_h (ev_itemX B.rm (ev_h (ev_name (i := 0) rfl (.inl rfl))) ev_int (fun _ _ => rfl)))) ea_nil)))))))))))))
theorem fn_ulaw_kept (X : Fx K w mg) (c : SaysY hy w K) : ∃ fd, FnT P w K mg base (caOf K) 1 (He.fAd K ("_law_kept", none)) fd ["_law_made"] 2 d_ulaw_kept ∧ (Binds K fd ["_law_made"] []) ∧ (PySem.W.keepIn K (.ref (He.fAd K ("_law_kept", none))) = true) ∧ FunD K D_ulaw_kept.name D_ulaw_kept.qual D_ulaw_kept.params D_ulaw_kept.body D_ulaw_kept.scope (He.DefD.dvs K D_ulaw_kept) (He.DefD.kws K D_ulaw_kept) (He.fAd K D_ulaw_kept.at_) fd := by
  obtain ⟨fd, F⟩ := c.d.def_ 3 (d := D_ulaw_kept) rfl
  exact ⟨fd, fnq_ulaw_kept X c F, F.bindsN fun _ _ _ _ _ _ us hl => match us, hl with | [_], _ => rfl, F.kp, F⟩
theorem fnq_ulaw_below (X : Fx K w mg) (c : SaysY hy w K) {fd : FuncData} (F : FunD K D_ulaw_below.name D_ulaw_below.qual D_ulaw_below.params D_ulaw_below.body D_ulaw_below.scope (He.DefD.dvs K D_ulaw_below) (He.DefD.kws K D_ulaw_below) (He.fAd K D_ulaw_below.at_) fd) : FnT P w K mg base (caOf K) 1 (He.fAd K ("_law_below", none)) fd ["_law_one"] 2 d_ulaw_below := by
  have S := s_ulaw_below
  refine fn_body F S rfl (fun cd A outer s H E B => ?_)
  exact (es_cons (e_asg (i := 1) S.nd rfl (.inl rfl) (ev_lst (ea_cons (ev_xis (em := tabL xt_BadPlace) X.xk_BadPlace (ev_h (ev_name (i := 0) rfl (.inl rfl))) rfl X.z_isinstance (.own _) (pe_glob rfl X.g_BadPlace rfl)) (ea_cons (ev_xis (em := tabL xt_AlreadyThere) X.xk_AlreadyThere (ev_h (ev_name (i := 0) rfl (.inl rfl))) rfl X.z_isinstance (.own _) (pe_glob rfl X.g_AlreadyThere rfl)) (ea_cons (ev_xis (em := tabL xt_BadThing) X.xk_BadThing (ev_h (ev_name (i := 0) rfl (.inl rfl))) rfl X.z_isinstance (.own _) (pe_glob rfl X.g_BadThing rfl)) ea_nil)))))
  (es_cons (e_asg (i := 1) S.nd rfl (.inl rfl) (ev_op ok_add (ev_t (ev_name (i := 1) rfl (.inl rfl))) (ev_t (ev_lst (ea_cons (ev_xis (em := tabL xt_BadClass) X.xk_BadClass (ev_h (ev_name (i := 0) rfl (.inl rfl))) rfl X.z_isinstance (.own _) (pe_glob rfl X.g_BadClass rfl)) (ea_cons (ev_xis (em := tabL xt_BadLibrary) X.xk_BadLibrary (ev_h (ev_name (i := 0) rfl (.inl rfl))) rfl X.z_isinstance (.own _) (pe_glob rfl X.g_BadLibrary rfl)) (ea_cons (ev_xis (em := tabL xt_BadImport) X.xk_BadImport (ev_h (ev_name (i := 0) rfl (.inl rfl))) rfl X.z_isinstance (.own _) (pe_glob rfl X.g_BadImport rfl)) ea_nil)))))))
  (es_cons (e_asg (i := 1) S.nd rfl (.inl rfl) (ev_op ok_add (ev_t (ev_name (i := 1) rfl (.inl rfl))) (ev_t (ev_lst (ea_cons (ev_xis (em := tabL xt_BadOwn) X.xk_BadOwn (ev_h (ev_name (i := 0) rfl (.inl rfl))) rfl X.z_isinstance (.own _) (pe_glob rfl X.g_BadOwn rfl)) (ea_cons (ev_xis (em := tabL xt_BadScope) X.xk_BadScope (ev_h (ev_name (i := 0) rfl (.inl rfl))) rfl X.z_isinstance (.own _) (pe_glob rfl X.g_BadScope rfl)) (ea_cons (ev_xis (em := tabL xt_BadUse) X.xk_BadUse (ev_h (ev_name (i := 0) rfl (.inl rfl))) rfl X.z_isinstance (.own _) (pe_glob rfl X.g_BadUse rfl)) ea_nil)))))))
  (es_cons (e_asg (i := 1) S.nd rfl (.inl rfl) (ev_op ok_add (ev_t (ev_name (i := 1) rfl (.inl rfl))) (ev_t (ev_lst (ea_cons (ev_xis (em := tabL xt_BadPart) X.xk_BadPart (ev_h (ev_name (i := 0) rfl (.inl rfl))) rfl X.z_isinstance (.own _) (pe_glob rfl X.g_BadPart rfl)) (ea_cons (ev_xis (em := tabL xt_BadSpot) X.xk_BadSpot (ev_h (ev_name (i := 0) rfl (.inl rfl))) rfl X.z_isinstance (.own _) (pe_glob rfl X.g_BadSpot rfl)) (ea_cons (ev_xis (em := tabL xt_NotRight) X.xk_NotRight (ev_h (ev_name (i := 0) rfl (.inl rfl))) rfl X.z_isinstance (.own _) (pe_glob rfl X.g_NotRight rfl)) ea_nil)))))))
  (es_cons (e_asg (i := 1) S.nd rfl (.inl rfl) (ev_op ok_add (ev_t (ev_name (i := 1) rfl (.inl rfl))) (ev_t (ev_lst (ea_cons (ev_xis (em := tabL xt_NotTouched) X.xk_NotTouched (ev_h (ev_name (i := 0) rfl (.inl rfl))) rfl X.z_isinstance (.own _) (pe_glob rfl X.g_NotTouched rfl)) (ea_cons (ev_xis (em := tabL xt_UnknownCase) X.xk_UnknownCase (ev_h (ev_name (i := 0) rfl (.inl rfl))) rfl X.z_isinstance (.own _) (pe_glob rfl X.g_UnknownCase rfl)) (ea_cons (ev_xis (em := tabL xt_UnknownName) X.xk_UnknownName (ev_h (ev_name (i := 0) rfl (.inl rfl))) rfl X.z_isinstance (.own _) (pe_glob rfl X.g_UnknownName rfl)) ea_nil)))))))
  (es_cons (e_asg (i := 1) S.nd rfl (.inl rfl) (ev_op ok_add (ev_t (ev_name (i := 1) rfl (.inl rfl))) (ev_t (ev_lst (ea_cons (ev_xis (em := tabL xt_UnknownThing) X.xk_UnknownThing (ev_h (ev_name (i := 0) rfl (.inl rfl))) rfl X.z_isinstance (.own _) (pe_glob rfl X.g_UnknownThing rfl)) (ea_cons (ev_xis (em := tabL xt_NoUse) X.xk_NoUse (ev_h (ev_name (i := 0) rfl (.inl rfl))) rfl X.z_isinstance (.own _) (pe_glob rfl X.g_NoUse rfl)) ea_nil))))))
  (es_cons (e_asg (i := 1) S.nd rfl (.inl rfl) (ev_op ok_add (ev_t (ev_name (i := 1) rfl (.inl rfl))) (ev_t (ev_lst (ea_cons (ev_xis (em := tabL xt_TooMany) X.xk_TooMany (ev_h (ev_name (i := 0) rfl (.inl rfl))) rfl X.z_isinstance (.own _) (pe_glob rfl X.g_TooMany rfl)) (ea_cons (ev_xis (em := tabL xt_BadName) X.xk_BadName (ev_h (ev_name (i := 0) rfl (.inl rfl))) rfl X.z_isinstance (.own _) (pe_glob rfl X.g_BadName rfl)) ea_nil))))))
  (es_cons (e_asg (i := 1) S.nd rfl (.inl rfl) (ev_op ok_add (ev_t (ev_name (i := 1) rfl (.inl rfl))) (ev_t (ev_lst (ea_cons (ev_xis (em := tabL xt_BadAddition) X.xk_BadAddition (ev_h (ev_name (i := 0) rfl (.inl rfl))) rfl X.z_isinstance (.own _) (pe_glob rfl X.g_BadAddition rfl)) (ea_cons (ev_xis (em := tabL xt_BadMove) X.xk_BadMove (ev_h (ev_name (i := 0) rfl (.inl rfl))) rfl X.z_isinstance (.own _) (pe_glob rfl X.g_BadMove rfl)) ea_nil))))))
  (es_cons (e_asg (i := 1) S.nd rfl (.inl rfl) (ev_op ok_add (ev_t (ev_name (i := 1) rfl (.inl rfl))) (ev_t (ev_lst (ea_cons (ev_xis (em := tabL xt_BadText) X.xk_BadText (ev_h (ev_name (i := 0) rfl (.inl rfl))) rfl X.z_isinstance (.own _) (pe_glob rfl X.g_BadText rfl)) (ea_cons (ev_xis (em := tabL xt_BadCommand) X.xk_BadCommand (ev_h (ev_name (i := 0) rfl (.inl rfl))) rfl X.z_isinstance (.own _) (pe_glob rfl X.g_BadCommand rfl)) ea_nil))))))
  (es_one (e_ret (ev_op ok_add (ev_t (ev_name (i := 1) rfl (.inl rfl))) (ev_t (ev_lst (ea_cons (ev_xis (em := tabL xt_BadBook) X.xk_BadBook (ev_h (ev_name (i := 0) rfl (.inl rfl))) rfl X.z_isinstance (.own _) (pe_glob rfl X.g_BadBook rfl)) (ea_cons (ev_xis (em := tabL xt_FailedDeed) X.xk_FailedDeed (ev_h (ev_name (i := 0) rfl (.inl rfl))) rfl X.z_isinstance (.own _) (pe_glob rfl X.g_FailedDeed rfl)) ea_nil))))))))))))))))
theorem fn_ulaw_below (X : Fx K w mg) (c : SaysY hy w K) : ∃ fd, FnT P w K mg base (caOf K) 1 (He.fAd K ("_law_below", none)) fd ["_law_one"] 2 d_ulaw_below ∧ (Binds K fd ["_law_one"] []) ∧ (PySem.W.keepIn K (.ref (He.fAd K ("_law_below", none))) = true) ∧ FunD K D_ulaw_below.name D_ulaw_below.qual D_ulaw_below.params D_ulaw_below.body D_ulaw_below.scope (He.DefD.dvs K D_ulaw_below) (He.DefD.kws K D_ulaw_below) (He.fAd K D_ulaw_below.at_) fd := by
  obtain ⟨fd, F⟩ := c.d.def_ 4 (d := D_ulaw_below) rfl
  exact ⟨fd, fnq_ulaw_below X c F, F.bindsN fun _ _ _ _ _ _ us hl => match us, hl with | [_], _ => rfl, F.kp, F⟩
theorem fnq_ulaw_bases (X : Fx K w mg) (c : SaysY hy w K) {fd : FuncData} (F : FunD K D_ulaw_bases.name D_ulaw_bases.qual D_ulaw_bases.params D_ulaw_bases.body D_ulaw_bases.scope (He.DefD.dvs K D_ulaw_bases) (He.DefD.kws K D_ulaw_bases) (He.fAd K D_ulaw_bases.at_) fd) : FnT P w K mg base (caOf K) 1 (He.fAd K ("_law_bases", none)) fd ["_law_one"] 2 d_ulaw_bases := by
  have S := s_ulaw_bases
  refine fn_body F S rfl (fun cd A outer s H E B => ?_)
  exact (es_cons (e_asg (i := 1) S.nd rfl (.inl rfl) (ev_lst (ea_cons (ev_xis (em := tabL xt_NamesError) X.xk_NamesError (ev_h (ev_name (i := 0) rfl (.inl rfl))) rfl X.z_isinstance (.own _) (pe_glob rfl X.g_NamesError rfl)) (ea_cons (ev_xis (em := tabL xt_ValueError) X.xk_ValueError (ev_h (ev_name (i := 0) rfl (.inl rfl))) rfl X.z_isinstance (.ty _) (pe_bltn rfl X.z_ValueError PyProof.Rows.Boot.«ValueError» rfl (by decide +kernel) (by decide +kernel))) (ea_cons (ev_xis (em := tabL xt_KeyError) X.xk_KeyError (ev_h (ev_name (i := 0) rfl (.inl rfl))) rfl X.z_isinstance (.ty _) (pe_bltn rfl X.z_KeyError PyProof.Rows.Boot.«KeyError» rfl (by decide +kernel) (by decide +kernel))) ea_nil)))))
  (es_one (e_ret (ev_op ok_add (ev_t (ev_name (i := 1) rfl (.inl rfl))) (ev_t (ev_lst (ea_cons (ev_xis (em := tabL xt_IndexError) X.xk_IndexError (ev_h (ev_name (i := 0) rfl (.inl rfl))) rfl X.z_isinstance (.ty _) (pe_bltn rfl X.z_IndexError PyProof.Rows.Boot.«IndexError» rfl (by decide +kernel) (by decide +kernel))) (ea_cons (ev_xis (em := tabL xt_OverflowError) X.xk_OverflowError (ev_h (ev_name (i := 0) rfl (.inl rfl))) rfl X.z_isinstance (.ty _) (pe_bltn rfl X.z_OverflowError PyProof.Rows.Boot.«OverflowError» rfl (by decide +kernel) (by decide +kernel))) (ea_cons (ev_xis (em := tabL xt_RuntimeError) X.xk_RuntimeError (ev_h (ev_name (i := 0) rfl (.inl rfl))) rfl X.z_isinstance (.ty _) (pe_bltn rfl X.z_RuntimeError PyProof.Rows.Boot.«RuntimeError» rfl (by decide +kernel) (by decide +kernel))) ea_nil)))))))))
theorem fn_ulaw_bases (X : Fx K w mg) (c : SaysY hy w K) : ∃ fd, FnT P w K mg base (caOf K) 1 (He.fAd K ("_law_bases", none)) fd ["_law_one"] 2 d_ulaw_bases ∧ (Binds K fd ["_law_one"] []) ∧ (PySem.W.keepIn K (.ref (He.fAd K ("_law_bases", none))) = true) ∧ FunD K D_ulaw_bases.name D_ulaw_bases.qual D_ulaw_bases.params D_ulaw_bases.body D_ulaw_bases.scope (He.DefD.dvs K D_ulaw_bases) (He.DefD.kws K D_ulaw_bases) (He.fAd K D_ulaw_bases.at_) fd := by
  obtain ⟨fd, F⟩ := c.d.def_ 5 (d := D_ulaw_bases) rfl
  exact ⟨fd, fnq_ulaw_bases X c F, F.bindsN fun _ _ _ _ _ _ us hl => match us, hl with | [_], _ => rfl, F.kp, F⟩
theorem fnq_ulaw_due_bases (X : Fx K w mg) (c : SaysY hy w K) {fd : FuncData} (F : FunD K D_ulaw_due_bases.name D_ulaw_due_bases.qual D_ulaw_due_bases.params D_ulaw_due_bases.body D_ulaw_due_bases.scope (He.DefD.dvs K D_ulaw_due_bases) (He.DefD.kws K D_ulaw_due_bases) (He.fAd K D_ulaw_due_bases.at_) fd) : FnT P w K mg base (caOf K) 1 (He.fAd K ("_law_due_bases", none)) fd ["_law_at"] 1 d_ulaw_due_bases := by
  have S := s_ulaw_due_bases
  refine fn_body F S rfl (fun cd A outer s H E B => ?_)
  exact (es_cons (e_if (eb_w (ew_or (eb_cmp ok_lt (ev_h (ev_name (i := 0) rfl (.inl rfl))) (ev_h (ev_e ev_int)) (nomark _)) (ew_or1 (eb_cmp ok_gt (ev_h (ev_name (i := 0) rfl (.inl rfl))) (ev_h (ev_e ev_int)) (nomark _))))) (es_one (e_ret (ev_lst (ea_cons ev_bl (ea_cons ev_bl (ea_cons ev_bl (ea_cons ev_bl (ea_cons ev_bl (ea_cons ev_bl ea_nil))))))))) es_nil)
  (es_one (e_ret (ev_lst (ea_cons ev_bl (ea_cons ev_bl (ea_cons (ev_cmp ok_lt (ev_h (ev_name (i := 0) rfl (.inl rfl))) (ev_h (ev_e ev_int)) (nomark _)) (ea_cons (ev_cmp (ok_eq B.rm) (ev_h (ev_name (i := 0) rfl (.inl rfl))) (ev_h (ev_e ev_int)) (nomark _)) (ea_cons (ev_cmp (ok_eq B.rm) (ev_h (ev_name (i := 0) rfl (.inl rfl))) (ev_h (ev_e ev_int)) (nomark _)) (ea_cons ev_bl ea_nil))))))))))
theorem fn_ulaw_due_bases (X : Fx K w mg) (c : SaysY hy w K) : ∃ fd, FnT P w K mg base (caOf K) 1 (He.fAd K ("_law_due_bases", none)) fd ["_law_at"] 1 d_ulaw_due_bases ∧ (Binds K fd ["_law_at"] []) ∧ (PySem.W.keepIn K (.ref (He.fAd K ("_law_due_bases", none))) = true) ∧ FunD K D_ulaw_due_bases.name D_ulaw_due_bases.qual D_ulaw_due_bases.params D_ulaw_due_bases.body D_ulaw_due_bases.scope (He.DefD.dvs K D_ulaw_due_bases) (He.DefD.kws K D_ulaw_due_bases) (He.fAd K D_ulaw_due_bases.at_) fd := by
  obtain ⟨fd, F⟩ := c.d.def_ 6 (d := D_ulaw_due_bases) rfl
  exact ⟨fd, fnq_ulaw_due_bases X c F, F.bindsN fun _ _ _ _ _ _ us hl => match us, hl with | [_], _ => rfl, F.kp, F⟩
theorem fnq_law (X : Fx K w mg) (c : SaysY hy w K) {fd : FuncData} (F : FunD K D_law.name D_law.qual D_law.params D_law.body D_law.scope (He.DefD.dvs K D_law) (He.DefD.kws K D_law) (He.fAd K D_law.at_) fd) : FnT P w K mg base (caOf K) 4 (He.fAd K ("law", none)) fd ["_law_script"] 7 d_law := by
  obtain ⟨fd_ulaw_bases, F_ulaw_bases, b_ulaw_bases, k_ulaw_bases, Q_ulaw_bases⟩ := fn_ulaw_bases (P := P) (w := w) (base := base) X c
  obtain ⟨fd_ulaw_value, F_ulaw_value, b_ulaw_value, k_ulaw_value, Q_ulaw_value⟩ := fn_ulaw_value (P := P) (w := w) (base := base) X c
  obtain ⟨fd_ulaw_by_name, F_ulaw_by_name, b_ulaw_by_name, k_ulaw_by_name, Q_ulaw_by_name⟩ := fn_ulaw_by_name (P := P) (w := w) (base := base) X c
  obtain ⟨fd_ulaw_by_place, F_ulaw_by_place, b_ulaw_by_place, k_ulaw_by_place, Q_ulaw_by_place⟩ := fn_ulaw_by_place (P := P) (w := w) (base := base) X c
  obtain ⟨fd_ulaw_kept, F_ulaw_kept, b_ulaw_kept, k_ulaw_kept, Q_ulaw_kept⟩ := fn_ulaw_kept (P := P) (w := w) (base := base) X c
  obtain ⟨fd_ulaw_below, F_ulaw_below, b_ulaw_below, k_ulaw_below, Q_ulaw_below⟩ := fn_ulaw_below (P := P) (w := w) (base := base) X c
  obtain ⟨fd_ulaw_due_bases, F_ulaw_due_bases, b_ulaw_due_bases, k_ulaw_due_bases, Q_ulaw_due_bases⟩ := fn_ulaw_due_bases (P := P) (w := w) (base := base) X c
  obtain ⟨rd_NothingToUndo, R_NothingToUndo, r_NothingToUndo, rk_NothingToUndo⟩ := inx_NothingToUndo (P := P) (w := w) (base := base) X c
  have S := s_law
  refine fn_body F S rfl (fun cd A outer s H E B => ?_)
  exact (es_cons (e_if (eb_cmp (ok_ne B.rm) (ev_h (ev_call (x := "_law_bases") (dts := []) F_ulaw_bases B.bk (by decide) (by decide) rfl X.g_ulaw_bases k_ulaw_bases b_ulaw_bases .nil (fun _ => .nil) (er_cons (ev_t (ev_exc0 (ci := 26) X.xm_NothingToUndo R_NothingToUndo B.bk (by decide) X.i_NothingToUndo.at_ X.i_NothingToUndo.fn r_NothingToUndo rfl X.g_NothingToUndo)) er_nil))) (ev_h (ev_lst (ea_cons ev_bl (ea_cons ev_bl (ea_cons ev_bl (ea_cons ev_bl (ea_cons ev_bl (ea_cons ev_bl ea_nil)))))))) (nomark _)) (es_one (e_ret (ev_e ev_bl))) es_nil)
  (es_cons (e_forJ B.own B.calm (ej_up (ei_range1 rfl X.z_range (ea_cons (ev_t (ev_callB (x := "max") (ok_max B.calm) rfl X.z_max bb_max (ea_cons ev_int (ea_cons (ev_t (ev_callB (x := "min") (ok_min B.calm) rfl X.z_min bb_min (ea_cons (ev_t (ev_call1B (x := "len") ok_len rfl X.z_len bb_len (ev_h (ev_name (i := 0) rfl (.inl rfl))))) (ea_cons ev_int ea_nil)))) ea_nil)))) ea_nil))) (eg_name (i := 1) S.nd rfl (.inl rfl)) (es_cons (e_asg (i := 2) S.nd rfl (.inl rfl) (ev_call (x := "_law_value") (dts := []) F_ulaw_value B.bk (by decide) (by decide) rfl X.g_ulaw_value k_ulaw_value b_ulaw_value .nil (fun _ => .nil) (er_cons (ev_t (ev_name (i := 0) rfl (.inl rfl))) (er_cons (ev_t (ev_name (i := 1) rfl (.inl rfl))) er_nil))))
  (es_one (e_forJ B.own B.calm (ej_any (ev_t (ev_lst (ea_cons (ev_t (ev_call (x := "_law_by_place") (dts := []) F_ulaw_by_place B.bk (by decide) (by decide) rfl X.g_ulaw_by_place k_ulaw_by_place b_ulaw_by_place .nil (fun _ => .nil) (er_cons (ev_t (ev_name (i := 2) rfl (.inl rfl))) er_nil))) (ea_cons (ev_t (ev_call (x := "_law_by_name") (dts := []) F_ulaw_by_name B.bk (by decide) (by decide) rfl X.g_ulaw_by_name k_ulaw_by_name b_ulaw_by_name .nil (fun _ => .nil) (er_cons (ev_t (ev_name (i := 2) rfl (.inl rfl))) er_nil))) ea_nil))))) (eg_name (i := 3) S.nd rfl (.inl rfl)) (es_cons (e_if (eb_cmp (ok_ne B.rm) (ev_h (ev_compJ B.calm S.nd (ej_any (ev_t (ev_call (x := "_law_kept") (dts := []) F_ulaw_kept B.bk (by decide) (by decide) rfl X.g_ulaw_kept k_ulaw_kept b_ulaw_kept .nil (fun _ => .nil) (er_cons (ev_t (ev_name (i := 3) rfl (.inl rfl))) er_nil)))) (blkOk_by (own := [("_law_kept_here", 5)]) (N := N_law) (sc := sc_law) (by decide +kernel)) (by decide) (fun _ _ _ _ _ => (eg_name (i := 5) S.nd rfl (.inl rfl))) (fun _ _ _ _ _ => et_nil) (fun _ _ _ _ _ => (ev_t (ev_call1B (x := "repr") (ok_reprX B.grd B.rm) (by with_unfolding_all rfl) X.z_repr bb_repr (ev_h (ev_name (i := 5) rfl (.inl (by with_unfolding_all rfl))))))))) (ev_h (ev_repC (ev_lst (ea_cons (ev_t (ev_call1B (x := "repr") (ok_reprX B.grd B.rm) rfl X.z_repr bb_repr (ev_h (ev_name (i := 2) rfl (.inl rfl))))) ea_nil)))) (nomark _)) (es_one (e_ret (ev_e ev_bl))) es_nil)
  (es_one (e_forJ B.own B.calm (ej_up (ei_range1 rfl X.z_range (ea_cons ev_int ea_nil))) (eg_name (i := 4) S.nd rfl (.inr rfl)) (es_cons (e_if (eb_cmp (ok_ne B.rm) (ev_h (ev_call (x := "_law_below") (dts := []) F_ulaw_below B.bk (by decide) (by decide) rfl X.g_ulaw_below k_ulaw_below b_ulaw_below .nil (fun _ => .nil) (er_cons (ev_t (ev_itemX B.rm (ev_h (ev_name (i := 3) rfl (.inl rfl))) (ev_t (ev_name (i := 4) rfl (.inr (.inl rfl)))) (fun _ _ => rfl))) er_nil))) (ev_h (ev_compJ B.calm S.nd (ej_up (ei_range1 rfl X.z_range (ea_cons ev_int ea_nil))) (blkOk_by (own := [("_law_other", 6)]) (N := N_law) (sc := sc_law) (by decide +kernel)) (by decide) (fun _ _ _ _ _ => (eg_name (i := 6) S.nd rfl (.inl rfl))) (fun _ _ _ _ _ => et_nil) (fun _ _ _ _ _ => (ev_cmp (ok_eq B.rm) (ev_h (ev_name (i := 6) rfl (.inl (by with_unfolding_all rfl)))) (ev_h (ev_name (i := 4) rfl (.inr (.inl (by with_unfolding_all rfl))))) (nomark _))))) (nomark _)) (es_one (e_ret (ev_e ev_bl))) es_nil)
  (es_one (e_if (eb_cmp (ok_ne B.rm) (ev_h (ev_call (x := "_law_bases") (dts := []) F_ulaw_bases B.bk (by decide) (by decide) rfl X.g_ulaw_bases k_ulaw_bases b_ulaw_bases .nil (fun _ => .nil) (er_cons (ev_t (ev_itemX B.rm (ev_h (ev_name (i := 3) rfl (.inl rfl))) (ev_t (ev_name (i := 4) rfl (.inr (.inl rfl)))) (fun _ _ => rfl))) er_nil))) (ev_h (ev_call (x := "_law_due_bases") (dts := []) F_ulaw_due_bases B.bk (by decide) (by decide) rfl X.g_ulaw_due_bases k_ulaw_due_bases b_ulaw_due_bases .nil (fun _ => .nil) (er_cons (ev_t (ev_name (i := 4) rfl (.inr (.inl rfl)))) er_nil))) (nomark _)) (es_one (e_ret (ev_e ev_bl))) es_nil))))))))))
  (es_one (e_ret (ev_e ev_bl)))))
theorem fn_law (X : Fx K w mg) (c : SaysY hy w K) : ∃ fd, FnT P w K mg base (caOf K) 4 (He.fAd K ("law", none)) fd ["_law_script"] 7 d_law ∧ (Binds K fd ["_law_script"] []) ∧ (PySem.W.keepIn K (.ref (He.fAd K ("law", none))) = true) ∧ FunD K D_law.name D_law.qual D_law.params D_law.body D_law.scope (He.DefD.dvs K D_law) (He.DefD.kws K D_law) (He.fAd K D_law.at_) fd := by
  obtain ⟨fd, F⟩ := c.d.def_ 7 (d := D_law) rfl
  exact ⟨fd, fnq_law X c F, F.bindsN fun _ _ _ _ _ _ us hl => match us, hl with | [_], _ => rfl, F.kp, F⟩
end
end K01
namespace K01
open PySem PySem.Spec L2 Ev
def rsh (t : T) : T := .str (toD t).shown
def OkS (t : T) : Prop := reprT t = some (.fz (rsh t))
theorem oks {t : T} (h0 : (toD t).plain = true) (h1 : (toD t).canLay0 = true) (h2 : (toD t).showable = true) (h3 : (toD t).depth ≤ 100) (h4 : (toD t).weight ≤ 5000) (h5 : (toD t).intsShort 1921 = true) : OkS t := by
  have hs := PyData.shown_le 1921 (by decide) _ (PyData.leavesShort_of_canLay0 1921 _ h1 h5)
  unfold OkS reprT
  rw [if_pos ⟨h0, h2, h3, by show _ ≤ 16777216; omega⟩]
  rfl
inductive Gd : Nat → T → Prop
  | non {k : Nat} : Gd k .non
  | bl {k : Nat} (b : Bool) : Gd k (.bl b)
  | int {k : Nat} {i : Int} (h : i.natAbs < 2 ^ 40) : Gd k (.int i)
  | str {k : Nat} {s : Str} (h : PyData.strOk s = true) (h2 : s.cps.size ≤ 10) : Gd k (.str s)
  | tup {k : Nat} {ts : List T} (h : ∀ t ∈ ts, Gd k t) (h2 : ts.length ≤ 8) : Gd (k + 1) (.tup ts)
  | lst {k : Nat} {ts : List T} (h : ∀ t ∈ ts, Gd k t) (h2 : ts.length ≤ 8) : Gd (k + 1) (.lst ts)
def wB : Nat → Nat
  | 0 => 41
  | k + 1 => 8 * (wB k + 1)
theorem wB_pos : ∀ k, 41 ≤ wB k
  | 0 => Nat.le_refl _
  | k + 1 => by have := wB_pos k; show 41 ≤ 8 * (wB k + 1); omega
structure Six (k : Nat) (d : PyData) : Prop where
  pl : d.plain = true
  cl : d.canLay0 = true
  sh : d.showable = true
  dp : d.depth ≤ k
  wt : d.weight ≤ wB k
  is_ : d.intsShort 1921 = true
structure SixA (k n : Nat) (ds : List PyData) : Prop where
  pl : PyData.plainAll ds = true
  cl : PyData.canLayAll0 ds = true
  sh : PyData.showableAll ds = true
  dp : PyData.depthAll ds ≤ k
  wt : PyData.weightAll ds ≤ n * (wB k + 1)
  is_ : PyData.intsShortAll 1921 ds = true
theorem six_all {k : Nat} {ts : List T} (h : ∀ t ∈ ts, Six k (toD t)) : SixA k ts.length (toDs ts) := by
  induction ts with
  | nil => exact ⟨rfl, rfl, rfl, Nat.zero_le _, Nat.zero_le _, rfl⟩
  | cons t ts ih =>
    obtain ⟨a1, a2, a3, a4, a5, a6⟩ := h t List.mem_cons_self
    obtain ⟨b1, b2, b3, b4, b5, b6⟩ := ih fun u hu => h u (List.mem_cons_of_mem _ hu)
    refine ⟨?_, ?_, ?_, ?_, ?_, ?_⟩
    · simp only [toDs, PyData.plainAll, a1, b1, Bool.and_self]
    · simp only [toDs, PyData.canLayAll0, a2, b2, Bool.and_self]
    · simp only [toDs, PyData.showableAll, a3, b3, Bool.and_self]
    · simp only [toDs, PyData.depthAll]; omega
    · simp only [toDs, PyData.weightAll, List.length_cons, Nat.add_mul, Nat.one_mul]; omega
    · simp only [toDs, PyData.intsShortAll, a6, b6, Bool.and_self]
theorem Gd.six {k : Nat} {t : T} (h : Gd k t) : Six k (toD t) := by
  induction h with
  | @non k => exact ⟨rfl, rfl, rfl, Nat.zero_le _, Nat.zero_le _, rfl⟩
  | @bl k b => exact ⟨rfl, rfl, rfl, Nat.zero_le _, Nat.zero_le _, rfl⟩
  | @int k i h =>
    have hl : i.natAbs = 0 ∨ i.natAbs.log2 < 40 := by
      by_cases z : i.natAbs = 0
      · exact .inl z
      · exact .inr ((Nat.log2_lt z).mpr h)
    have h2 : i.natAbs.log2 < 1920 := by
      rcases hl with z | z
      · rw [z]; decide
      · omega
    have hw := wB_pos k
    refine ⟨rfl, rfl, by simp only [toD, PyData.showable]; exact decide_eq_true h2, Nat.zero_le _, ?_, by simp only [toD, PyData.intsShort, PyData.shown_int]; exact decide_eq_true (PyProof.Rows.int_text_len_1921 h2)⟩
    simp only [toD, PyData.weight]
    split
    · omega
    · rename_i hz
      rcases hl with z | z
      · exact absurd (by simpa using z) hz
      · omega
  | @str k s h h2 =>
    have hw := wB_pos k
    exact ⟨rfl, by simp only [toD, PyData.canLay0]; exact h, rfl, Nat.zero_le _, by simp only [toD, PyData.weight]; omega, rfl⟩
  | @tup k ts h h2 ih =>
    obtain ⟨a1, a2, a3, a4, a5, a6⟩ := six_all ih
    refine ⟨by simp only [toD, PyData.plain]; exact a1, by simp only [toD, PyData.canLay0]; exact a2, by simp only [toD, PyData.showable]; exact a3, by simp only [toD, PyData.depth]; omega, ?_, by simp only [toD, PyData.intsShort]; exact a6⟩
    simp only [toD, PyData.weight, wB]
    exact Nat.le_trans a5 (Nat.mul_le_mul_right _ h2)
  | @lst k ts h h2 ih =>
    obtain ⟨a1, a2, a3, a4, a5, a6⟩ := six_all ih
    refine ⟨by simp only [toD, PyData.plain]; exact a1, by simp only [toD, PyData.canLay0]; exact a2, by simp only [toD, PyData.showable]; exact a3, by simp only [toD, PyData.depth]; omega, ?_, by simp only [toD, PyData.intsShort]; exact a6⟩
    simp only [toD, PyData.weight, wB]
    exact Nat.le_trans a5 (Nat.mul_le_mul_right _ h2)
theorem Gd.oks {t : T} (h : Gd 2 t) : OkS t := by
  obtain ⟨a1, a2, a3, a4, a5, a6⟩ := h.six
  have e : wB 2 = 2696 := rfl
  exact K01.oks a1 a2 a3 (by omega) (by omega) a6

/-- its repr is a text -/
def Shw (t : T) : Prop := ∃ r, reprX2 t = some (.fz (.str r))
theorem Gd.shw {t : T} (h : Gd 2 t) : Shw t := by
  have e := h.oks
  cases h <;> exact ⟨_, e⟩
def madeL (w : T) : List T := [.exc 1 [("place", w)], .exc 11 [("place", w)], .exc 2 [("thing", w)], .exc 3 [("index", w)], .exc 4 [("index", w)], .exc 5 [("index", w)], .exc 6 [("index", w)], .exc 7 [("index", w)], .exc 8 [("index", w)], .exc 9 [("part", w)], .exc 10 [("spot", w)], .exc 12 [("problems", w)], .exc 13 [("addition", w)], .exc 14 [("label", w)], .exc 22 [("name", w)], .exc 23 [("thing", w)], .exc 24 [("index", w)], .exc 25 [("limit", w)], .exc 15 [("name", w)], .exc 16 [("value", w)], .exc 17 [("move", w)], .exc 18 [("index", w)], .exc 19 [("line", w)], .exc 20 [("value", w)], .exc 21 [("index", w)]]
theorem place_ok (w : T) (a b c d e f g : Sl) : callA 1 d_ulaw_by_place 2 [.fz w] [a, b, c, d, e, f, g] = .ok (.ow (.lst (madeL w))) [a, b, c, d, e, f, g] := by kernel_rfl
theorem name_ok (w : T) (a b c d e f g : Sl) : callA 1 d_ulaw_by_name 2 [.fz w] [a, b, c, d, e, f, g] = .ok (.ow (.lst (madeL w))) [a, b, c, d, e, f, g] := by kernel_rfl
theorem kept_ok (w : T) (a b c d e f g : Sl) : callA 1 d_ulaw_kept 2 [.fz (.lst (madeL w))] [a, b, c, d, e, f, g] = .ok (.ow (.lst (List.replicate 25 w))) [a, b, c, d, e, f, g] := by kernel_rfl
abbrev S1 : SM := (ifS (cmpM neT (hldE (M.bind (arCons (frzE (M.pure (.fz (.exc 26 [])))) (M.pure [])) fun as => callA 1 d_ulaw_bases 2 (as ++ List.map Ar.fz []))) (hldE (lstM (consM (M.pure (.bl false)) (consM (M.pure (.bl false)) (consM (M.pure (.bl false)) (consM (M.pure (.bl false)) (consM (M.pure (.bl false)) (consM (M.pure (.bl true)) (M.pure [])))))))))) (retS (fzE (M.pure (.bl false)))) nilS)
abbrev R4 : SM := (ifS (cmpM neT (hldE (compM (M.bind (frzE (M.bind (arCons (frzE (rdS 3)) (M.pure [])) fun as => callA 1 d_ulaw_kept 2 (as ++ List.map Ar.fz []))) fun t => M.of (walkT t)) (stT 5) (M.pure true) (frzE (call1M reprX2 (hldE (rdS 5)))) (List.map Prod.snd ([("_law_kept_here", 5)] : List (Str × Nat))))) (hldE (repM 25 (lstM (consM (frzE (call1M reprX2 (hldE (rdS 2)))) (M.pure [])))))) (retS (fzE (M.pure (.bl false)))) nilS)
abbrev F5 : SM := (forS (M.bind (consM (M.pure (.int 25)) (M.pure [])) fun ts => M.of (rng1 ts)) (stT 4) (seqS (ifS (cmpM neT (hldE (M.bind (arCons (frzE (itemXM (hldE (rdS 3)) (frzE (rdS 4)))) (M.pure [])) fun as => callA 1 d_ulaw_below 2 (as ++ List.map Ar.fz []))) (hldE (compM (M.bind (consM (M.pure (.int 25)) (M.pure [])) fun ts => M.of (rng1 ts)) (stT 6) (M.pure true) (M.bind (cmpM eqT (hldE (rdS 6)) (hldE (rdS 4))) fun w => M.pure (.bl w)) (List.map Prod.snd ([("_law_other", 6)] : List (Str × Nat)))))) (retS (fzE (M.pure (.bl false)))) nilS)
  (ifS (cmpM neT (hldE (M.bind (arCons (frzE (itemXM (hldE (rdS 3)) (frzE (rdS 4)))) (M.pure [])) fun as => callA 1 d_ulaw_bases 2 (as ++ List.map Ar.fz []))) (hldE (M.bind (arCons (frzE (rdS 4)) (M.pure [])) fun as => callA 1 d_ulaw_due_bases 1 (as ++ List.map Ar.fz [])))) (retS (fzE (M.pure (.bl false)))) nilS)))
abbrev A2 : SM := (asgS 2 (M.bind (arCons (frzE (rdS 0)) (arCons (frzE (rdS 1)) (M.pure []))) fun as => callA 2 d_ulaw_value 5 (as ++ List.map Ar.fz [])))
abbrev B3 : SM := seqS R4 F5
abbrev F3 : SM := forS (M.bind (frzE (lstM (consM (frzE (M.bind (arCons (frzE (rdS 2)) (M.pure [])) fun as => callA 1 d_ulaw_by_place 2 (as ++ List.map Ar.fz []))) (consM (frzE (M.bind (arCons (frzE (rdS 2)) (M.pure [])) fun as => callA 1 d_ulaw_by_name 2 (as ++ List.map Ar.fz []))) (M.pure []))))) fun t => M.of (walkT t)) (stT 3) B3
abbrev S2 : SM := forS (M.bind (consM (frzE (callM maxT (consM (M.pure (.int 1)) (consM (frzE (callM minT (consM (frzE (call1M lenT (hldE (rdS 0)))) (consM (M.pure (.int 6)) (M.pure []))))) (M.pure []))))) (M.pure [])) fun ts => M.of (rng1 ts)) (stT 1) (seqS A2 F3)
theorem law_eq : d_law = seqS S1 (seqS S2 (retS (fzE (M.pure (.bl true))))) := rfl
theorem s1 (x : Sl) : S1 [x, .un, .un, .un, .un, .un, .un] = .nx [x, .un, .un, .un, .un, .un, .un] := by kernel_rfl
theorem f5a (x y : Sl) (w : T) : F5 [x, y, .fz w, .fz (.lst (madeL w)), .un, .un, .un] = .nx [x, y, .fz w, .fz (.lst (madeL w)), .fz (.int 24), .un, .un] := by kernel_rfl
theorem f5b (x y : Sl) (w : T) : F5 [x, y, .fz w, .fz (.lst (madeL w)), .fz (.int 24), .un, .un] = .nx [x, y, .fz w, .fz (.lst (madeL w)), .fz (.int 24), .un, .un] := by kernel_rfl
end K01
namespace K01
open PySem PySem.Spec L2 Ev
theorem ne_pl {t : T} (h : (toD t).plain = true) (h2 : (toD t).depth ≤ 100) : neT t t = some false := by
  unfold neT eqT
  rw [if_pos ⟨h, h, Nat.le_trans (Nat.min_le_left _ _) h2⟩, PySem.SeqAt.eqv_refl_plain _ h]
  rfl
/-! ### the values -/
def ten (n : Int) : List T := [.int n, .int (0 - n), .str (Txt.mul "ab" (n % 5)), .non, .lst [.int n], .tup [.int n, .str "a"], .bl true, .dK [], .str "", .lst [.lst []]]
theorem abs_ : ∀ j : Fin 5, PyData.strOk (Txt.mul "ab" (j.val : Int)) = true ∧ (Txt.mul "ab" (j.val : Int)).cps.size ≤ 10 := by decide +kernel
theorem ten_shw {n : Int} (h0 : 0 ≤ n) (h1 : n < 1000000000) : ∀ t ∈ ten n, Shw t := by
  intro t ht
  have i1 : ∀ {k : Nat}, Gd k (.int n) := fun {k} => .int (by omega)
  have i2 : Gd 2 (.int (0 - n)) := .int (by omega)
  have g0 : ∀ {k : Nat}, ∀ u ∈ ([] : List T), Gd k u := fun {k} u h => nomatch h
  have g1 : ∀ {k : Nat} {u : T} {us : List T}, Gd k u → (∀ v ∈ us, Gd k v) → ∀ v ∈ u :: us, Gd k v := fun {k u us} h hs v hv => by
    rcases List.mem_cons.mp hv with e | hv
    · rw [e]; exact h
    · exact hs v hv
  have e5 : ∃ j : Fin 5, ((j.val : Nat) : Int) = n % 5 := ⟨⟨(n % 5).toNat, by omega⟩, by show (((n % 5).toNat : Nat) : Int) = n % 5; omega⟩
  obtain ⟨j, ej⟩ := e5
  obtain ⟨a1, a2⟩ := abs_ j
  rw [ej] at a1 a2
  simp only [ten, List.mem_cons, List.not_mem_nil, or_false] at ht
  rcases ht with h | h | h | h | h | h | h | h | h | h <;> subst h
  · exact i1.shw
  · exact i2.shw
  · exact (Gd.str a1 a2).shw
  · exact Gd.non.shw
  · exact (Gd.lst (g1 i1 g0) (by show 1 ≤ 8; decide)).shw
  · exact (Gd.tup (g1 i1 (g1 (.str (by decide +kernel) (by decide +kernel)) g0)) (by show 2 ≤ 8; decide)).shw
  · exact (Gd.bl true).shw
  · exact ⟨_, rfl⟩
  · exact (Gd.str (by decide +kernel) (by decide +kernel)).shw
  · exact (Gd.lst (g1 (.lst g0 (by decide)) g0) (by decide)).shw
def V1 : SM := (asgS 2 (fzE (M.pure (.int 0))))
def V2 : SM := (ifS (cmpM ltT (hldE (rdS 1)) (hldE (call1M lenT (hldE (rdS 0))))) (asgS 2 (itemXM (hldE (rdS 0)) (frzE (rdS 1)))) nilS)
def VR : SM := (seqS (asgS 3 (opM modT (frzE (call1M intT (hldE (call1M absT (hldE (rdS 2)))))) (frzE (opM powT (M.pure (.int 10)) (M.pure (.int 9))))))
  (seqS (asgS 4 (lstM (consM (frzE (rdS 3)) (consM (frzE (opM subT (M.pure (.int 0)) (frzE (rdS 3)))) (consM (frzE (opM mulX (M.pure (.str "ab")) (frzE (opM modT (frzE (rdS 3)) (M.pure (.int 5)))))) (consM (M.pure .non) (consM (frzE (lstM (consM (frzE (rdS 3)) (M.pure [])))) (consM (tupM (consM (frzE (rdS 3)) (consM (M.pure (.str "a")) (M.pure [])))) (consM (M.pure (.bl true)) (consM (frzE (M.pure (.ow (.dK [])))) (consM (M.pure (.str "")) (consM (frzE (lstM (consM (frzE (lstM (M.pure []))) (M.pure [])))) (M.pure [])))))))))))))
  (retS (itemXM (hldE (rdS 4)) (frzE (opM modT (frzE (call1M intT (hldE (opM addT (frzE (opM addT (frzE (opM fdivT (frzE (call1M intT (hldE (call1M absT (hldE (rdS 2)))))) (frzE (opM powT (M.pure (.int 10)) (M.pure (.int 9)))))) (frzE (rdS 1)))) (frzE (call1M lenT (hldE (rdS 0)))))))) (M.pure (.int 10))))))))
theorem value_eq : d_ulaw_value = seqS V1 (seqS V2 VR) := rfl
theorem atI_ten {n i : Int} (h : 0 ≤ i) (h2 : i < 10) : ∃ t, t ∈ ten n ∧ L2.atI (ten n) i = some t := atI_some h (by show i < ((10 : Nat) : Int); omega)
theorem vr (ns : List Int) {k cell : Int} (hk : 0 ≤ k) : ∃ t ce, Shw t ∧ VR [.fz (scr ns), .fz (.int k), .fz (.int cell), .un, .un] = .rt (.fz t) ce := by
  have hc : ∃ c : Int, 0 ≤ c ∧ (if cell < 0 then -cell else cell) = c := ⟨_, by split <;> omega, rfl⟩
  obtain ⟨c, c0, ec⟩ := hc
  have p : powT (.int 10) (.int 9) = some (.fz (.int 1000000000)) := by kernel_rfl
  have n0 : 0 ≤ c % 1000000000 := Int.emod_nonneg _ (by decide)
  have n1 : c % 1000000000 < 1000000000 := Int.emod_lt_of_pos _ (by decide)
  generalize hn : c % 1000000000 = n at n0 n1
  have m1 : modT (.int c) (.int 1000000000) = some (.fz (.int n)) := by rw [← hn]; simp only [modT]; exact if_pos (by decide)
  have m5 : modT (.int n) (.int 5) = some (.fz (.int (n % 5))) := by simp only [modT]; exact if_pos (by decide)
  have d9 : fdivT (.int c) (.int 1000000000) = some (.fz (.int (c / 1000000000))) := by simp only [fdivT]; exact if_pos ⟨by decide, by decide⟩
  have q0 : 0 ≤ c / 1000000000 := Int.ediv_nonneg c0 (by decide)
  have x0 : mulX (.str "ab") (.int (n % 5)) = some (.fz (.str (Txt.mul "ab" (n % 5)))) := by simp only [mulX]; exact if_pos ⟨by omega, by omega, by decide⟩
  have i0 : 0 ≤ (c / 1000000000 + k + (ns.length : Int)) % 10 := Int.emod_nonneg _ (by decide)
  have i1 : (c / 1000000000 + k + (ns.length : Int)) % 10 < 10 := Int.emod_lt_of_pos _ (by decide)
  generalize hi : (c / 1000000000 + k + (ns.length : Int)) % 10 = i at i0 i1
  have m10 : modT (.int (c / 1000000000 + k + (ns.length : Int))) (.int 10) = some (.fz (.int i)) := by rw [← hi]; simp only [modT]; exact if_pos (by decide)
  obtain ⟨t, ht, et⟩ := atI_ten (n := n) i0 i1
  have s0 : (0 ≤ sizeLine) = True := eq_true (Nat.zero_le _)
  have s1 : (1 ≤ sizeLine) = True := eq_true (by decide)
  have s2 : (2 ≤ sizeLine) = True := eq_true (by decide)
  have s10 : (10 ≤ sizeLine) = True := eq_true (by decide)
  have ab : absT (.int cell) = some (.fz (.int c)) := by rw [← ec]; rfl
  have hl : lenT (scr ns) = some (.fz (.int ns.length)) := by show some (Rv.fz (.int ((ns.map T.int).length : Int))) = _; rw [List.length_map]
  have it : itemXT (.lst (ten n)) (.int i) = some (.fz t) := by
    show (L2.atI (ten n) i).map Rv.fz = _
    rw [et]; rfl
  have tn : T.lst [.int n, .int (0 - n), .str (Txt.mul "ab" (n % 5)), .non, .lst [.int n], .tup [.int n, .str "a"], .bl true, .dK [], .str "", .lst [.lst []]] = .lst (ten n) := rfl
  refine ⟨t, [.fz (scr ns), .fz (.int k), .fz (.int cell), .fz (.int n), .ow (.lst (ten n))], ten_shw n0 n1 t ht, ?_⟩
  simp only [VR, seqS_ap, seq_nx, seq_rt, nilS_ap, exprS_ap, so_ok, ifS_ap, so_if, retS_ap, dropS_ap, opS_some, asgS_ap, asK_ow, asK_fz, asK_bo, asgGS_ap, bind_ap, obind_ok, pure_ap, of_ap, frzE_ap, hldE_ap, fzE_ap, frz_fz, frz_ow, frz_bo, hld_fz, hld_ow, hld_bo, pk_fz, opM_ap, cmpM_ap, chainM_ap, notM_ap, andM_ap, orM_ap, ite_ap, iteS_ap, truM_ap, ifM_ap, consM_ap, lstM_ap, tupM_ap, callM_ap, call1M_ap, itemM_ap, sliceM_ap, arCons_ap, endM_ap, rdS, pk, stT, stO, chO, List.getElem?_cons_zero, List.getElem?_cons_succ, List.set_cons_zero, List.set_cons_succ, itemXM, ab, intT, p, m1, m5, x0, d9, addT, subT, hl, m10, List.length_cons, List.length_nil, Nat.zero_add, Nat.reduceAdd, s0, s1, s2, s10, if_true, tn, it]
theorem value_ok (ns : List Int) {k : Int} (hk : 0 ≤ k) : ∃ t, Shw t ∧ ∀ env : Ev.Env, callA 2 d_ulaw_value 5 [.fz (scr ns), .fz (.int k)] env = .ok (.fz t) env := by
  have two : ∃ cell : Int, (seqS V1 (seqS V2 VR)) [.fz (scr ns), .fz (.int k), .un, .un, .un] = VR [.fz (scr ns), .fz (.int k), .fz (.int cell), .un, .un] := by
    have hl : lenT (scr ns) = some (.fz (.int ns.length)) := by show some (Rv.fz (.int ((ns.map T.int).length : Int))) = _; rw [List.length_map]
    have lt : ltT (.int k) (.int ns.length) = some (decide (k < (ns.length : Int))) := rfl
    by_cases h : k < (ns.length : Int)
    · obtain ⟨c, hc⟩ := atI_map ns hk h
      have it : itemXT (scr ns) (.int k) = some (.fz (.int c)) := by
        show (L2.atI (ns.map T.int) k).map Rv.fz = _
        rw [hc]; rfl
      exact ⟨c, by simp only [V1, V2, seqS_ap, seq_nx, seq_rt, nilS_ap, exprS_ap, so_ok, ifS_ap, so_if, retS_ap, dropS_ap, opS_some, asgS_ap, asK_ow, asK_fz, asK_bo, asgGS_ap, bind_ap, obind_ok, pure_ap, of_ap, frzE_ap, hldE_ap, fzE_ap, frz_fz, frz_ow, frz_bo, hld_fz, hld_ow, hld_bo, pk_fz, opM_ap, cmpM_ap, chainM_ap, notM_ap, andM_ap, orM_ap, ite_ap, iteS_ap, truM_ap, ifM_ap, consM_ap, lstM_ap, tupM_ap, callM_ap, call1M_ap, itemM_ap, sliceM_ap, arCons_ap, endM_ap, rdS, pk, stT, stO, chO, List.getElem?_cons_zero, List.getElem?_cons_succ, List.set_cons_zero, List.set_cons_succ, itemXM, hl, lt, decide_eq_true h, it, if_true]⟩
    · exact ⟨0, by simp only [V1, V2, seqS_ap, seq_nx, seq_rt, nilS_ap, exprS_ap, so_ok, ifS_ap, so_if, retS_ap, dropS_ap, opS_some, asgS_ap, asK_ow, asK_fz, asK_bo, asgGS_ap, bind_ap, obind_ok, pure_ap, of_ap, frzE_ap, hldE_ap, fzE_ap, frz_fz, frz_ow, frz_bo, hld_fz, hld_ow, hld_bo, pk_fz, opM_ap, cmpM_ap, chainM_ap, notM_ap, andM_ap, orM_ap, ite_ap, iteS_ap, truM_ap, ifM_ap, consM_ap, lstM_ap, tupM_ap, callM_ap, call1M_ap, itemM_ap, sliceM_ap, arCons_ap, endM_ap, rdS, pk, stT, stO, chO, List.getElem?_cons_zero, List.getElem?_cons_succ, List.set_cons_zero, List.set_cons_succ, itemXM, hl, lt, decide_eq_false h, Bool.false_eq_true, if_false]⟩
  obtain ⟨cell, e⟩ := two
  obtain ⟨t, ce, ht, e2⟩ := vr ns (cell := cell) hk
  exact ⟨t, ht, fun env => call_fz (ts := [scr ns, .int k]) (n := 2) (m := 5) (env := env) rfl (by
    show d_ulaw_value [.fz (scr ns), .fz (.int k), .un, .un, .un] = _
    rw [value_eq, e]
    exact e2)⟩
/-! ### the fields -/
abbrev el : M T := (frzE (call1M reprX2 (hldE (rdS 5))))
theorem kept_loop {w : T} {r : Str} (h : reprX2 w = some (.fz (.str r))) (x y m z : Sl) : ∀ n : Nat, compL (stT 5) (M.pure true) el [5] (List.replicate n w) [x, y, .fz w, m, z, .un, .un] = .ok (List.replicate n (.str r)) [x, y, .fz w, m, z, .un, .un]
  | 0 => rfl
  | n + 1 => by
    have e : el [x, y, .fz w, m, z, .fz w, .un] = .ok (.str r) [x, y, .fz w, m, z, .fz w, .un] := by simp only [el, seqS_ap, seq_nx, seq_rt, nilS_ap, exprS_ap, so_ok, ifS_ap, so_if, retS_ap, dropS_ap, opS_some, asgS_ap, asK_ow, asK_fz, asK_bo, asgGS_ap, bind_ap, obind_ok, pure_ap, of_ap, frzE_ap, hldE_ap, fzE_ap, frz_fz, frz_ow, frz_bo, hld_fz, hld_ow, hld_bo, pk_fz, opM_ap, cmpM_ap, chainM_ap, notM_ap, andM_ap, orM_ap, ite_ap, iteS_ap, truM_ap, ifM_ap, consM_ap, lstM_ap, tupM_ap, callM_ap, call1M_ap, itemM_ap, sliceM_ap, arCons_ap, endM_ap, rdS, pk, stT, stO, chO, List.getElem?_cons_zero, List.getElem?_cons_succ, List.set_cons_zero, List.set_cons_succ, h]
    exact compL_step rfl rfl rfl e (kept_loop h x y m z n)
theorem r4 {w : T} (h : Shw w) (x y z : Sl) : R4 [x, y, .fz w, .fz (.lst (madeL w)), z, .un, .un] = .nx [x, y, .fz w, .fz (.lst (madeL w)), z, .un, .un] := by
  obtain ⟨r, h⟩ := h
  have k : (M.bind (frzE (M.bind (arCons (frzE (rdS 3)) (M.pure [])) fun as => callA 1 d_ulaw_kept 2 (as ++ List.map Ar.fz []))) fun t => M.of (walkT t)) [x, y, .fz w, .fz (.lst (madeL w)), z, .un, .un] = .ok (List.replicate 25 w) [x, y, .fz w, .fz (.lst (madeL w)), z, .un, .un] := by kernel_rfl
  have c : compM (M.bind (frzE (M.bind (arCons (frzE (rdS 3)) (M.pure [])) fun as => callA 1 d_ulaw_kept 2 (as ++ List.map Ar.fz []))) fun t => M.of (walkT t)) (stT 5) (M.pure true) el [5] [x, y, .fz w, .fz (.lst (madeL w)), z, .un, .un] = .ok (.ow (.lst (List.replicate 25 (.str r)))) [x, y, .fz w, .fz (.lst (madeL w)), z, .un, .un] := by
    unfold compM
    rw [bind_ap, k, obind_ok, if_pos (by rw [List.length_replicate]; decide), bind_ap, kept_loop h, obind_ok]
    rfl
  have s1 : (1 ≤ sizeLine) = True := eq_true (by decide)
  have d1 : lstM (consM (frzE (call1M reprX2 (hldE (rdS 2)))) (M.pure [])) [x, y, .fz w, .fz (.lst (madeL w)), z, .un, .un] = .ok (.ow (.lst [.str r])) [x, y, .fz w, .fz (.lst (madeL w)), z, .un, .un] := by
    simp only [seqS_ap, seq_nx, seq_rt, nilS_ap, exprS_ap, so_ok, ifS_ap, so_if, retS_ap, dropS_ap, opS_some, asgS_ap, asK_ow, asK_fz, asK_bo, asgGS_ap, bind_ap, obind_ok, pure_ap, of_ap, frzE_ap, hldE_ap, fzE_ap, frz_fz, frz_ow, frz_bo, hld_fz, hld_ow, hld_bo, pk_fz, opM_ap, cmpM_ap, chainM_ap, notM_ap, andM_ap, orM_ap, ite_ap, iteS_ap, truM_ap, ifM_ap, consM_ap, lstM_ap, tupM_ap, callM_ap, call1M_ap, itemM_ap, sliceM_ap, arCons_ap, endM_ap, rdS, pk, stT, stO, chO, List.getElem?_cons_zero, List.getElem?_cons_succ, List.set_cons_zero, List.set_cons_succ, h, List.length_cons, List.length_nil, Nat.zero_add, s1, if_true]
  have d : repM 25 (lstM (consM (frzE (call1M reprX2 (hldE (rdS 2)))) (M.pure []))) [x, y, .fz w, .fz (.lst (madeL w)), z, .un, .un] = .ok (.ow (.lst (List.replicate 25 (.str r)))) [x, y, .fz w, .fz (.lst (madeL w)), z, .un, .un] := by
    unfold repM
    rw [bind_ap, d1, obind_ok]
    rfl
  have ne : neT (.lst (List.replicate 25 (.str r))) (.lst (List.replicate 25 (.str r))) = some false := ne_pl (by rfl) (by show (PyData.depth _) ≤ 100; exact (by decide : (1 : Nat) ≤ 100))
  show (ifS (cmpM neT (hldE (compM _ (stT 5) (M.pure true) el [5])) (hldE (repM 25 _))) _ _) _ = _
  simp only [ifS_ap, cmpM_ap, hldE_ap, c, d, obind_ok, hld_ow, pk_fz, bind_ap, pure_ap, of_ap, ne, so_if, nilS_ap, seqS_ap, seq_nx, seq_rt, nilS_ap, exprS_ap, so_ok, ifS_ap, so_if, retS_ap, dropS_ap, opS_some, asgS_ap, asK_ow, asK_fz, asK_bo, asgGS_ap, bind_ap, obind_ok, pure_ap, of_ap, frzE_ap, hldE_ap, fzE_ap, frz_fz, frz_ow, frz_bo, hld_fz, hld_ow, hld_bo, pk_fz, opM_ap, cmpM_ap, chainM_ap, notM_ap, andM_ap, orM_ap, ite_ap, iteS_ap, truM_ap, ifM_ap, consM_ap, lstM_ap, tupM_ap, callM_ap, call1M_ap, itemM_ap, sliceM_ap, arCons_ap, endM_ap, rdS, pk, stT, stO, chO, List.getElem?_cons_zero, List.getElem?_cons_succ, List.set_cons_zero, List.set_cons_succ, Bool.false_eq_true, if_false]
/-! ### the loops -/
theorem f3 {w : T} (h : Shw w) (x y : Sl) {a : Sl} (ha : (a = .un) ∨ (∃ t, a = .fz t)) {b : Sl} (hb : b = .un ∨ b = .fz (.int 24)) : F3 [x, y, .fz w, a, b, .un, .un] = .nx [x, y, .fz w, .fz (.lst (madeL w)), .fz (.int 24), .un, .un] := by
  have i : (M.bind (frzE (lstM (consM (frzE (M.bind (arCons (frzE (rdS 2)) (M.pure [])) fun as => callA 1 d_ulaw_by_place 2 (as ++ List.map Ar.fz []))) (consM (frzE (M.bind (arCons (frzE (rdS 2)) (M.pure [])) fun as => callA 1 d_ulaw_by_name 2 (as ++ List.map Ar.fz []))) (M.pure []))))) fun t => M.of (walkT t)) [x, y, .fz w, a, b, .un, .un] = .ok [.lst (madeL w), .lst (madeL w)] [x, y, .fz w, a, b, .un, .un] := by kernel_rfl
  have st : stT 3 (.lst (madeL w)) [x, y, .fz w, a, b, .un, .un] = some [x, y, .fz w, .fz (.lst (madeL w)), b, .un, .un] := by
    rcases ha with rfl | ⟨t, rfl⟩ <;> rfl
  have b1 : B3 [x, y, .fz w, .fz (.lst (madeL w)), b, .un, .un] = .nx [x, y, .fz w, .fz (.lst (madeL w)), .fz (.int 24), .un, .un] := by
    show seqS R4 F5 _ = _
    rw [seqS_ap, r4 h, seq_nx]
    rcases hb with rfl | rfl
    · exact f5a x y w
    · exact f5b x y w
  have b2 : B3 [x, y, .fz w, .fz (.lst (madeL w)), .fz (.int 24), .un, .un] = .nx [x, y, .fz w, .fz (.lst (madeL w)), .fz (.int 24), .un, .un] := by
    show seqS R4 F5 _ = _
    rw [seqS_ap, r4 h, seq_nx]
    exact f5b x y w
  show exprS _ _ _ = _
  rw [exprS_ap, i, so_ok]
  rw [loop_step st b1, loop_step rfl b2]
  rfl
theorem turn {ns : List Int} {k : Int} (hk : 0 ≤ k) {q r : Sl} (hq : q = .un ∨ ∃ t, q = .fz t) (hr : r = .un ∨ ∃ t, r = .fz t) {b : Sl} (hb : b = .un ∨ b = .fz (.int 24)) :
    ∃ w, (seqS A2 F3) [.fz (scr ns), .fz (.int k), q, r, b, .un, .un] = .nx [.fz (scr ns), .fz (.int k), .fz w, .fz (.lst (madeL w)), .fz (.int 24), .un, .un] := by
  obtain ⟨w, hw, e⟩ := value_ok ns hk
  have a2 : A2 [.fz (scr ns), .fz (.int k), q, r, b, .un, .un] = .nx [.fz (scr ns), .fz (.int k), .fz w, r, b, .un, .un] := by
    rcases hq with rfl | ⟨t, rfl⟩ <;> simp only [A2, seqS_ap, seq_nx, seq_rt, nilS_ap, exprS_ap, so_ok, ifS_ap, so_if, retS_ap, dropS_ap, opS_some, asgS_ap, asK_ow, asK_fz, asK_bo, asgGS_ap, bind_ap, obind_ok, pure_ap, of_ap, frzE_ap, hldE_ap, fzE_ap, frz_fz, frz_ow, frz_bo, hld_fz, hld_ow, hld_bo, pk_fz, opM_ap, cmpM_ap, chainM_ap, notM_ap, andM_ap, orM_ap, ite_ap, iteS_ap, truM_ap, ifM_ap, consM_ap, lstM_ap, tupM_ap, callM_ap, call1M_ap, itemM_ap, sliceM_ap, arCons_ap, endM_ap, rdS, pk, stT, stO, chO, List.getElem?_cons_zero, List.getElem?_cons_succ, List.set_cons_zero, List.set_cons_succ, List.map_nil, List.append_nil, e]
  exact ⟨w, by rw [seqS_ap, a2, seq_nx]; exact f3 hw _ _ hr hb⟩
theorem turns (ns : List Int) : ∀ (ks : List Int), (∀ k ∈ ks, 0 ≤ k) → ∀ {p q r b : Sl}, (p = .un ∨ ∃ t, p = .fz t) → (q = .un ∨ ∃ t, q = .fz t) → (r = .un ∨ ∃ t, r = .fz t) → (b = .un ∨ b = .fz (.int 24)) →
    ∃ e, loopS (stT 1) (seqS A2 F3) (ks.map T.int) [.fz (scr ns), p, q, r, b, .un, .un] = .nx e
  | [], _, _, _, _, _, _, _, _, _ => ⟨_, rfl⟩
  | k :: ks, hk, p, q, r, b, hp, hq, hr, hb => by
    have st : stT 1 (.int k) [.fz (scr ns), p, q, r, b, .un, .un] = some [.fz (scr ns), .fz (.int k), q, r, b, .un, .un] := by
      rcases hp with rfl | ⟨t, rfl⟩ <;> rfl
    obtain ⟨w, e⟩ := turn (ns := ns) (hk k List.mem_cons_self) hq hr hb
    obtain ⟨e2, h2⟩ := turns ns ks (fun j hj => hk j (List.mem_cons_of_mem _ hj)) (p := .fz (.int k)) (q := .fz w) (r := .fz (.lst (madeL w))) (b := .fz (.int 24)) (.inr ⟨_, rfl⟩) (.inr ⟨_, rfl⟩) (.inr ⟨_, rfl⟩) (.inr rfl)
    exact ⟨e2, by rw [List.map_cons, loop_step st e]; exact h2⟩
theorem pure_law : ∀ ns : List Int, ns.length ≤ 63 → True_ (d_law (.fz (scr ns) :: List.replicate (7 - 1) .un)) := by
  intro ns hns
  have hmm : ∃ m : Int, 0 ≤ m ∧ m < 2 ^ 62 ∧ (if (if (6 : Int) < (ns.length : Int) then 6 else (ns.length : Int)) > 1 then (if (6 : Int) < (ns.length : Int) then 6 else (ns.length : Int)) else 1) = m := ⟨_, by split <;> (try split) <;> omega, by split <;> (try split) <;> omega, rfl⟩
  obtain ⟨m, m0, m1, hm⟩ := hmm
  have hr : rng1 [.int m] = some (((List.range m.toNat).map fun i => (0 + (i : Nat) : Int)).map T.int) := by
    show (if _ then _ else _) = _
    rw [if_pos ⟨by omega, by omega⟩, ups, List.map_map]
    rfl
  obtain ⟨e, he⟩ := turns ns ((List.range m.toNat).map fun i => (0 + (i : Nat) : Int)) (by
    intro k hk
    obtain ⟨i, hi, rfl⟩ := List.mem_map.mp hk
    omega) (p := .un) (q := .un) (r := .un) (b := .un) (.inl rfl) (.inl rfl) (.inl rfl) (.inl rfl)
  have hl : lenT (scr ns) = some (.fz (.int ns.length)) := by show some (Rv.fz (.int ((ns.map T.int).length : Int))) = _; rw [List.length_map]
  have i2 : (M.bind (consM (frzE (callM maxT (consM (M.pure (.int 1)) (consM (frzE (callM minT (consM (frzE (call1M lenT (hldE (rdS 0)))) (consM (M.pure (.int 6)) (M.pure []))))) (M.pure []))))) (M.pure [])) fun ts => M.of (rng1 ts)) [.fz (scr ns), .un, .un, .un, .un, .un, .un] = .ok (((List.range m.toNat).map fun i => (0 + (i : Nat) : Int)).map T.int) [.fz (scr ns), .un, .un, .un, .un, .un, .un] := by
    simp only [seqS_ap, seq_nx, seq_rt, nilS_ap, exprS_ap, so_ok, ifS_ap, so_if, retS_ap, dropS_ap, opS_some, asgS_ap, asK_ow, asK_fz, asK_bo, asgGS_ap, bind_ap, obind_ok, pure_ap, of_ap, frzE_ap, hldE_ap, fzE_ap, frz_fz, frz_ow, frz_bo, hld_fz, hld_ow, hld_bo, pk_fz, opM_ap, cmpM_ap, chainM_ap, notM_ap, andM_ap, orM_ap, ite_ap, iteS_ap, truM_ap, ifM_ap, consM_ap, lstM_ap, tupM_ap, callM_ap, call1M_ap, itemM_ap, sliceM_ap, arCons_ap, endM_ap, rdS, pk, stT, stO, chO, List.getElem?_cons_zero, List.getElem?_cons_succ, List.set_cons_zero, List.set_cons_succ, hl, minT, maxT, seqT, List.map_nil, List.append_nil, hm, hr]
  have s2 : S2 [.fz (scr ns), .un, .un, .un, .un, .un, .un] = .nx e := by
    show exprS _ _ _ = _
    rw [exprS_ap, i2, so_ok]
    exact he
  refine ⟨e, ?_⟩
  show d_law [.fz (scr ns), .un, .un, .un, .un, .un, .un] = _
  rw [law_eq, seqS_ap, s1, seq_nx, seqS_ap, s2, seq_nx]
  rfl
end K01
namespace K01
open PySem PySem.Spec L2 Ev
abbrev R : PySem.W.OpenRow := PySem.W.OpenLaw.row PySem.Challenge.rw_addednames_k01_errors
abbrev hk : PySem.W.Hook := Ev.hookY hy
def ob (s : PySem.W.SharedT) : Ev.AlY := hy.ob (HandSHeadRun.getT s)
theorem ob_eq (s : PySem.W.SharedT) : ob s = hk.obs s.abs := Ev.obY_eq (HandSHeadRun.getT_eq s)
abbrev lo : List Str := (["NamesError", "BadPlace", "BadThing", "BadClass", "BadLibrary", "BadImport", "BadOwn", "BadScope", "BadUse", "BadPart", "BadSpot", "AlreadyThere", "NotRight", "NotTouched", "UnknownCase", "BadName", "BadAddition", "BadMove", "BadText", "BadCommand", "BadBook", "FailedDeed", "UnknownName", "UnknownThing", "NoUse", "TooMany", "NothingToUndo", "_law_value", "_law_by_place", "_law_by_name"] : List Str) ++ (["_law_kept", "_law_below", "_law_bases", "_law_due_bases"] : List Str)
theorem runT (w : World) : HandSHeadRun.RunEq R (PySem.W.view R.prog [36]) hk ob 20000 lo (wF w true) := by
  intro os
  kernel_rfl
theorem runF (w : World) : HandSHeadRun.RunEq R (PySem.W.view R.prog [36]) hk ob 20000 lo (wF w false) := by
  intro os
  kernel_rfl
theorem run (w : World) : HandSHeadRun.RunEq R (PySem.W.view R.prog [36]) hk ob 20000 lo w := wF_all (fun w b => match b with
  | true => runT w
  | false => runF w) w
theorem facts {P : Program} {w : World} {K : PySem.W.Frag} {h : Heap} {mg : Str → Option Value} {f : Addr} (X : K.In h) (G : h.Ns mainGlobals mg) (hfa : mg ("law" : Str) = some (.ref f)) (c : SaysY hy w K) :
    ∃ (ca : Nat → Addr) (fd : FuncData), (∀ (s : Shared) (v : Value), BindsTo s fd ⟨[v], []⟩ [("_law_script", v)]) ∧ ∀ base : Heap, K.In base → base.Ns mainGlobals mg → FnT P w K mg base ca 4 f fd ["_law_script"] 7 d_law := by
  have F0 := fx X G c
  obtain ⟨fd, F⟩ := c.d.def_ 7 (d := D_law) rfl
  have e := hfa.symm.trans F0.g_law
  cases e
  have b := FunD.bindsA (ps := ["_law_script"]) F fun _ _ _ _ _ _ us hl => match us, hl with | [_], _ => rfl
  refine ⟨caOf K, fd, fun s v => b s [v] rfl, fun base _ _ => ?_⟩
  exact (fnq_law F0 c F)
end K01
open PySem PySem.W PySem.Calls PyProof.Rows
theorem PySem.Challenge.cw_addednames_k01_errors_holds : PySem.Challenge.rw_addednames_k01_errors.Holds := by
  w_on; o_law
  refine HandSHeadRun.head_any (r := OpenLaw.row PySem.Challenge.rw_addednames_k01_errors) (q := view (OpenLaw.row PySem.Challenge.rw_addednames_k01_errors).prog [36]) (H := K01.hk) (ob := K01.ob) (M := 20000) (loose := K01.lo) (d := HandSHeadRun.topDef (OpenLaw.row PySem.Challenge.rw_addednames_k01_errors).prog 36) (kwd := []) K01.ob_eq
    (by kernel_rfl) (fun s => by kernel_rfl) K01.run (by kernel_rfl) (by kernel_rfl) (by kernel_rfl) (by rfl) (by first | assumption | decide +kernel) (by decide +kernel) ⟨rfl, rfl, rfl, rfl, rfl, by decide +kernel⟩ ?hw ?hc
  case hw => w_witness2
  case hc =>
    refine Ev.law_walk (l := PySem.Challenge.rw_addednames_k01_errors) (n := 63) (k := 4) (m := 7) (x := "_law_script") (d := K01.d_law) rfl (by decide) (by kernel_rfl) ⟨rfl, by decide, by decide⟩ (by decide) ?F K01.pure_law
    intro w mg fa h Y G hmg0
    obtain ⟨K, KX, c⟩ := Y
    have hmg : mg ("law" : PySem.Str) = some (.ref fa) := by
      have e : (HandSHeadRun.topDef (OpenLaw.row PySem.Challenge.rw_addednames_k01_errors).prog 36).name = ("law" : PySem.Str) := by kernel_rfl
      rw [← e]
      exact hmg0
    obtain ⟨ca, fd, hb, hF⟩ := K01.facts (P := (PySem.Challenge.rw_addednames_k01_errors).prog) (w := w) KX G hmg c
    exact ⟨K, ca, fd, KX, hb, hF⟩
