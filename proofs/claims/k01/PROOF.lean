import PyProof.Rows.All
import Wide.All
import OpenK.AllK
import Wide.FinOn
import HandS.ForMost
import HandS.Walk
import HandS.Star
import HandS.IsInst
import HandS.FStr
import HandS.Wide
import HandS.StrMore
import HandS.Deep
import HandS.Zip
import HandS.Style
import HandS.TupAny
import HandS.Flow
import HandS.ForExc
import HandS.CallSlots
import HandS.ReplaceLit
import HandS.ReplaceList
import PySem.Challenge.RW_worldtale_k01_words
set_option Elab.async false
set_option linter.all false
set_option maxRecDepth 100000
set_option maxHeartbeats 8000000
/-! Z1: data without addresses, heaps of them, how they stand for the layer's values and heaps -/
namespace Z
open PySem L2

/-- data: lst is a new list that nothing else holds; frl a list that never changes; ref n the n-th object -/
inductive D where
  | non | bl (b : Bool) | int (i : Int) | str (x : Str) | tup (xs : List D) | lst (xs : List D) | frl (xs : List D) | ref (n : Nat) | ty (n : String) | fn (x : Str) | cls (x : Str)

/-- objects -/
inductive O where
  | lst (xs : List D) | dic (kvs : List (Key × D)) | ins (C : Str) (fs : List (Str × D))

abbrev Hh := List O
abbrev Sl := List (Option D)

/-- what the relation leans on -/
structure Wd where
  K : PySem.W.Frag
  mg : Str → Option Value
  ρ : Nat → Addr
  n : Nat
  H : Hp

/-- a list that never changes -/
def FzL (K : PySem.W.Frag) (H : Hp) (a : Addr) (xs : List V) : Prop := (∃ ob, H a = some (.frz ob (.lst xs))) ∨
  ∃ (o : Obj) (its : Array Value) (n : Nat), K.lookup a = some o ∧ o.cls = .type "list" ∧ o.dict = none ∧ o.data = .seq its n ∧ its.size ≤ sizeLine ∧ Vals xs its.toList
theorem FzL.sq {K : PySem.W.Frag} {H : Hp} {a : Addr} {xs : List V} (f : FzL K H a xs) : SqL K H a xs := by
  rcases f with f | f
  · exact .inl (.inr f)
  · exact .inr f
mutual
inductive R (W : Wd) : V → D → Prop
  | non : R W .non .non
  | bl (b : Bool) : R W (.bl b) (.bl b)
  | int (i : Int) : R W (.int i) (.int i)
  | str (x : Str) : R W (.str x) (.str x)
  | ty (x : String) : R W (.ty x) (.ty x)
  | ref (i : Nat) (h : i < W.n) : R W (.ref (W.ρ i)) (.ref i)
  | tup {a : Addr} {vs : List V} {xs : List D} (h : SqT W.K W.H a vs) (r : RL W vs xs) : R W (.ref a) (.tup xs)
  | frl {a : Addr} {vs : List V} {xs : List D} (h : FzL W.K W.H a vs) (r : RL W vs xs) : R W (.ref a) (.frl xs)
  | fn {x : Str} {a : Addr} (h : W.mg x = some (.ref a)) : R W (.ref a) (.fn x)
  | cls {x : Str} {a : Addr} (h : W.mg x = some (.ref a)) : R W (.ref a) (.cls x)
inductive RL (W : Wd) : List V → List D → Prop
  | nil : RL W [] []
  | cons {v : V} {d : D} {vs : List V} {ds : List D} (h : R W v d) (t : RL W vs ds) : RL W (v :: vs) (d :: ds)
end

theorem RL.length {W : Wd} : ∀ {vs : List V} {ds : List D}, RL W vs ds → vs.length = ds.length
  | _, _, .nil => rfl
  | _, _, .cons _ t => congrArg (· + 1) (RL.length t)
theorem RL.append {W : Wd} : ∀ {vs ws : List V} {ds es : List D}, RL W vs ds → RL W ws es → RL W (vs ++ ws) (ds ++ es)
  | _, _, _, _, .nil, s => s
  | _, _, _, _, .cons h t, s => .cons h (RL.append t s)
theorem RL.get {W : Wd} : ∀ {vs : List V} {ds : List D} (i : Nat) {d : D}, RL W vs ds → ds[i]? = some d → ∃ v, vs[i]? = some v ∧ R W v d
  | _, _, _, _, .nil, e => by simp at e
  | _, _, 0, _, .cons h _, e => by simp at e; subst e; exact ⟨_, rfl, h⟩
  | _, _, i + 1, d, .cons _ t, e => by
    obtain ⟨u, h1, h2⟩ := RL.get i t (d := d) (by simpa using e)
    exact ⟨u, by simpa using h1, h2⟩
theorem RL.getV {W : Wd} : ∀ {vs : List V} {ds : List D} (i : Nat) {v : V}, RL W vs ds → vs[i]? = some v → ∃ d, ds[i]? = some d ∧ R W v d
  | _, _, _, _, .nil, e => by simp at e
  | _, _, 0, _, .cons h _, e => by simp at e; subst e; exact ⟨_, rfl, h⟩
  | _, _, i + 1, d, .cons _ t, e => by
    obtain ⟨u, h1, h2⟩ := RL.getV i t (v := d) (by simpa using e)
    exact ⟨u, by simpa using h1, h2⟩
theorem RL.take {W : Wd} : ∀ {vs : List V} {ds : List D} (n : Nat), RL W vs ds → RL W (vs.take n) (ds.take n)
  | _, _, 0, _ => .nil
  | _, _, _ + 1, .nil => .nil
  | _, _, n + 1, .cons h t => .cons h (RL.take n t)
theorem RL.drop {W : Wd} : ∀ {vs : List V} {ds : List D} (n : Nat), RL W vs ds → RL W (vs.drop n) (ds.drop n)
  | _, _, 0, r => r
  | _, _, _ + 1, .nil => .nil
  | _, _, n + 1, .cons _ t => RL.drop n t
theorem RL.rev {W : Wd} : ∀ {vs : List V} {ds : List D}, RL W vs ds → RL W vs.reverse ds.reverse
  | _, _, .nil => .nil
  | _, _, .cons h t => by
    rw [List.reverse_cons, List.reverse_cons]
    exact (RL.rev t).append (.cons h .nil)
theorem RL.of_map {W : Wd} {α : Type} {f : α → V} {g : α → D} (h : ∀ a, R W (f a) (g a)) : ∀ l : List α, RL W (l.map f) (l.map g)
  | [] => .nil
  | a :: l => .cons (h a) (RL.of_map h l)
/-- data that are all of one plain kind -/
theorem RL.map_inv {W : Wd} {α : Type} {f : α → V} {g : α → D} (h : ∀ a v, R W v (g a) → v = f a) : ∀ {l : List α} {vs : List V}, RL W vs (l.map g) → vs = l.map f
  | [], _, .nil => rfl
  | a :: l, _, .cons r t => by rw [h a _ r, RL.map_inv h t]; rfl

/-- an object -/
inductive RO (W : Wd) (a : Addr) : O → Prop
  | lst {vs : List V} {xs : List D} (h : W.H a = some (.lst vs)) (r : RL W vs xs) : RO W a (.lst xs)
  | dic {ks : List (Key × V)} {kvs : List (Key × D)} (h : W.H a = some (.dK ks)) (e : ks.map (·.1) = kvs.map (·.1)) (r : RL W (ks.map (·.2)) (kvs.map (·.2))) : RO W a (.dic kvs)
  | ins {C : Str} {Ca dx : Addr} {gs : List (Str × V)} {fs : List (Str × D)} (c : W.mg C = some (.ref Ca)) (h : W.H a = some (.ins Ca dx gs)) (e : gs.map (·.1) = fs.map (·.1)) (r : RL W (gs.map (·.2)) (fs.map (·.2))) : RO W a (.ins C fs)

/-- all objects -/
structure Rep (W : Wd) (h : Hh) : Prop where
  len : W.n = h.length
  inj : ∀ i j, i < W.n → j < W.n → W.ρ i = W.ρ j → i = j
  obj : ∀ i o, h[i]? = some o → RO W (W.ρ i) o

/-- what is no tuple, nor another thing of the layer's own -/
theorem RO.ntup {W : Wd} {a : Addr} {o : O} (r : RO W a o) : ∃ u, W.H a = some u ∧ (∀ xs, u ≠ .tup xs) ∧ (∀ ob xs, u ≠ .frz ob xs) ∧ ∀ x, u ≠ .own x := by
  cases r with
  | lst h => exact ⟨_, h, (fun _ z => by cases z), (fun _ _ z => by cases z), fun _ z => by cases z⟩
  | dic h => exact ⟨_, h, (fun _ z => by cases z), (fun _ _ z => by cases z), fun _ z => by cases z⟩
  | ins _ h => exact ⟨_, h, (fun _ z => by cases z), (fun _ _ z => by cases z), fun _ z => by cases z⟩

/-- from one world to a later one -/
structure Go (W W' : Wd) : Prop where
  K : W'.K = W.K
  mg : W'.mg = W.mg
  n : W.n ≤ W'.n
  ag : ∀ i, i < W.n → W'.ρ i = W.ρ i
  keep : ∀ a o, W.H a = some o → (∀ i, i < W.n → W.ρ i ≠ a) → W'.H a = some o
  dom : ∀ a, W'.H a = none → W.H a = none
  fresh : ∀ i, W.n ≤ i → i < W'.n → W.H (W'.ρ i) = none
theorem Go.refl (W : Wd) : Go W W := ⟨rfl, rfl, Nat.le_refl _, fun _ _ => rfl, fun _ _ e _ => e, fun _ e => e, fun i a b => by omega⟩
theorem Go.trans {A B C : Wd} (x : Go A B) (y : Go B C) : Go A C where
  K := y.K.trans x.K
  mg := y.mg.trans x.mg
  n := Nat.le_trans x.n y.n
  ag := fun i h => (y.ag i (Nat.lt_of_lt_of_le h x.n)).trans (x.ag i h)
  keep := fun a o e f => by
    refine y.keep a o (x.keep a o e f) fun i hi q => ?_
    by_cases c : i < A.n
    · exact f i c ((x.ag i c).symm.trans q)
    · have := x.fresh i (by omega) hi
      rw [q, e] at this
      cases this
  dom := fun a e => x.dom a (y.dom a e)
  fresh := fun i a b => by
    by_cases c : i < B.n
    · rw [y.ag i c]; exact x.fresh i a c
    · exact x.dom _ (y.fresh i (by omega) b)

/-- what held data lean on stands -/
structure Le (W W' : Wd) : Prop where
  mg : W'.mg = W.mg
  n : W.n ≤ W'.n
  ag : ∀ i, i < W.n → W'.ρ i = W.ρ i
  tup : ∀ a vs, SqT W.K W.H a vs → SqT W'.K W'.H a vs
  fz : ∀ a vs, FzL W.K W.H a vs → FzL W'.K W'.H a vs
theorem Go.le {W W' : Wd} (g : Go W W') {h : Hh} (p : Rep W h) : Le W W' := by
  have ne : ∀ {a : Addr} {u : HO}, W.H a = some u → ((∃ xs, u = .tup xs) ∨ ∃ ob xs, u = .frz ob xs) → ∀ i, i < W.n → W.ρ i ≠ a := fun {a u} e t i hi z => by
    have hl : i < h.length := by rw [← p.len]; exact hi
    obtain ⟨u', e', n1, n2, _⟩ := (p.obj i _ (List.getElem?_eq_getElem hl)).ntup
    rw [z, e] at e'
    cases e'
    rcases t with ⟨xs, rfl⟩ | ⟨ob, xs, rfl⟩
    · exact n1 _ rfl
    · exact n2 _ _ rfl
  refine ⟨g.mg, g.n, g.ag, fun a vs q => ?_, fun a vs q => ?_⟩
  · rcases q with (q | ⟨ob, q⟩) | q
    · exact .inl (.inl (g.keep _ _ q (ne q (.inl ⟨_, rfl⟩))))
    · exact .inl (.inr ⟨ob, g.keep _ _ q (ne q (.inr ⟨_, _, rfl⟩))⟩)
    · rw [g.K]; exact .inr q
  · rcases q with ⟨ob, q⟩ | q
    · exact .inl ⟨ob, g.keep _ _ q (ne q (.inr ⟨_, _, rfl⟩))⟩
    · rw [g.K]; exact .inr q
mutual
theorem R.le {W W' : Wd} (g : Le W W') : ∀ {v : V} {d : D}, R W v d → R W' v d
  | _, _, .non => .non
  | _, _, .bl b => .bl b
  | _, _, .int b => .int b
  | _, _, .str b => .str b
  | _, _, .ty b => .ty b
  | _, _, .ref i hi => by
    rw [← g.ag i hi]
    exact .ref i (Nat.lt_of_lt_of_le hi g.n)
  | _, _, .tup q r => .tup (g.tup _ _ q) (RL.le g r)
  | _, _, .frl q r => .frl (g.fz _ _ q) (RL.le g r)
  | _, _, .fn e => .fn (by rw [g.mg]; exact e)
  | _, _, .cls e => .cls (by rw [g.mg]; exact e)
theorem RL.le {W W' : Wd} (g : Le W W') : ∀ {vs : List V} {ds : List D}, RL W vs ds → RL W' vs ds
  | _, _, .nil => .nil
  | _, _, .cons r t => .cons (R.le g r) (RL.le g t)
end
theorem R.go {W W' : Wd} (g : Go W W') {h : Hh} (p : Rep W h) {v : V} {d : D} (r : R W v d) : R W' v d := r.le (g.le p)
theorem RL.go {W W' : Wd} (g : Go W W') {h : Hh} (p : Rep W h) {vs : List V} {ds : List D} (r : RL W vs ds) : RL W' vs ds := r.le (g.le p)
/-- a value that has just come: held, or a new list (H0: the heap ahead of its coming) -/
inductive RE (W : Wd) (H0 : Hp) : V → D → Prop
  | held {v : V} {d : D} (r : R W v d) : RE W H0 v d
  | new {a : Addr} {vs : List V} {xs : List D} (h : W.H a = some (.lst vs)) (f : ∀ i, i < W.n → W.ρ i ≠ a) (n0 : H0 a = none) (r : RL W vs xs) : RE W H0 (.ref a) (.lst xs)
theorem RE.go {W W' : Wd} (g : Go W W') {h : Hh} (p : Rep W h) {H0 : Hp} {v : V} {d : D} (r : RE W H0 v d) : RE W' H0 v d := by
  cases r with
  | held r => exact .held (r.go g p)
  | new e f n0 r =>
    refine .new (g.keep _ _ e f) (fun i hi z => ?_) n0 (r.go g p)
    by_cases c : i < W.n
    · exact f i c ((g.ag i c).symm.trans z)
    · have := g.fresh i (by omega) hi
      rw [z, e] at this
      cases this
theorem RE.old {W : Wd} {H0 H1 : Hp} (k : ∀ a, H0 a = none → H1 a = none) {v : V} {d : D} (r : RE W H0 v d) : RE W H1 v d := by
  cases r with
  | held r => exact .held r
  | new e f n0 r => exact .new e f (k _ n0) r

/-- the names' values -/
structure RS (W : Wd) (σ : St) (S : Sl) : Prop where
  len : σ.length = S.length
  at_ : ∀ (i : Nat) (d : D), S[i]? = some (some d) → ∃ v, σ[i]? = some (some v) ∧ R W v d
theorem RS.go {W W' : Wd} (g : Go W W') {h : Hh} (p : Rep W h) {σ : St} {S : Sl} (r : RS W σ S) : RS W' σ S :=
  ⟨r.len, fun i d e => let ⟨v, e', q⟩ := r.at_ i d e; ⟨v, e', q.go g p⟩⟩
theorem RS.set {W : Wd} {σ : St} {S : Sl} (r : RS W σ S) (i : Nat) {v : V} {d : D} (q : R W v d) : RS W (σ.set i (some v)) (S.set i (some d)) := by
  refine ⟨by rw [List.length_set, List.length_set]; exact r.len, fun j e h => ?_⟩
  by_cases c : i = j
  · subst c
    by_cases hl : i < S.length
    · rw [List.getElem?_set_self hl] at h
      cases h
      exact ⟨v, by rw [List.getElem?_set_self (by rw [r.len]; exact hl)], q⟩
    · rw [List.getElem?_eq_none (by simpa using hl)] at h
      cases h
  · rw [List.getElem?_set_ne c] at h
    obtain ⟨u, e', q'⟩ := r.at_ j e h
    exact ⟨u, by rw [List.getElem?_set_ne c]; exact e', q'⟩

/-- an exception's fields: its own dict -/
def RX (W : Wd) (cls : Value) (dx : Option Addr) (C : Str) (fs : List (Str × D)) : Prop :=
  (∃ Ca, W.mg C = some (.ref Ca) ∧ cls = .ref Ca) ∧ match fs with
    | [] => True
    | _ :: _ => ∃ d gs, dx = some d ∧ W.H d = some (.xd gs) ∧ gs.map (·.1) = fs.map (·.1) ∧ RL W (gs.map (·.2)) (fs.map (·.2))

/-- what comes: a value, or an exception by its class's name and its fields -/
inductive Rs (α : Type) where
  | ok (a : α) | ex (C : Str) (fs : List (Str × D))
abbrev M (α : Type) := Option (Rs α × Hh)
def bd {α β : Type} (r : M α) (k : α → Hh → M β) : M β := match r with
  | none => none
  | some (.ok a, h) => k a h
  | some (.ex C fs, h) => some (.ex C fs, h)
def pu {α : Type} (o : Option α) (h : Hh) : M α := match o with
  | none => none
  | some a => some (.ok a, h)

/-! ### what a reading of ours is: f tells what comes and the objects -/
abbrev EF := Sl → Hh → M D
abbrev TF := Sl → Hh → M Bool
abbrev AF := Sl → Hh → M (List D)
/-- the world of a context at a heap -/
abbrev wd (X : Cx) (ρ : Nat → Addr) (h : Hh) (H : Hp) : Wd := ⟨X.K, X.mg, ρ, h.length, H⟩
structure At (X : Cx) (ρ : Nat → Addr) (h : Hh) (H : Hp) (σ : St) (S : Sl) : Prop where
  rep : Rep (wd X ρ h H) h
  sl : RS (wd X ρ h H) σ S
def Fin {α : Type} (X : Cx) (Wx : WX) (ρ : Nat → Addr) (h : Hh) (H : Hp) (σ : St) (S : Sl) (r : Rs α × Hh) (P : (Nat → Addr) → Hh → Hp → α → Prop) : Prop :=
  match r with
  | (.ok a, h') => ∀ ρ' H', Go (wd X ρ h H) (wd X ρ' h' H') → At X ρ' h' H' σ S → P ρ' h' H' a
  | (.ex C fs, h') => ∀ ρ' H' cls dx, Go (wd X ρ h H) (wd X ρ' h' H') → At X ρ' h' H' σ S → RX (wd X ρ' h' H') cls dx C fs → Wx cls dx σ H'
theorem Fin.go {α : Type} {X : Cx} {Wx : WX} {ρ ρ1 : Nat → Addr} {h h1 : Hh} {H H1 : Hp} {σ : St} {S : Sl} {r : Rs α × Hh} {P : (Nat → Addr) → Hh → Hp → α → Prop} (g : Go (wd X ρ h H) (wd X ρ1 h1 H1)) (F : Fin X Wx ρ h H σ S r P) :
    Fin X Wx ρ1 h1 H1 σ S r P := by
  match r, F with
  | (.ok a, h'), F => exact fun ρ' H' g' a' => F ρ' H' (g.trans g') a'
  | (.ex C fs, h'), F => exact fun ρ' H' cls dx g' a' x => F ρ' H' cls dx (g.trans g') a' x
theorem Fin.bd {α β : Type} {X : Cx} {Wx : WX} {ρ : Nat → Addr} {h : Hh} {H : Hp} {σ : St} {S : Sl} {fa : M α} {k : α → Hh → M β} {r : Rs β × Hh} {P : (Nat → Addr) → Hh → Hp → β → Prop} {Pa : (Nat → Addr) → Hh → Hp → α → Prop}
    (e : Z.bd fa k = some r) (F : Fin X Wx ρ h H σ S r P)
    (hk : ∀ a h1 ρ' H', fa = some (.ok a, h1) → Go (wd X ρ h H) (wd X ρ' h1 H') → At X ρ' h1 H' σ S → k a h1 = some r → Fin X Wx ρ' h1 H' σ S r P → Pa ρ' h1 H' a) : ∃ ra, fa = some ra ∧ Fin X Wx ρ h H σ S ra Pa := by
  match fa, e, hk with
  | some (.ok a, h1), e, hk => exact ⟨_, rfl, fun ρ' H' g A => hk a h1 ρ' H' rfl g A e (F.go g)⟩
  | some (.ex C fs, h1), e, _ =>
    cases e
    exact ⟨_, rfl, F⟩
theorem Fin.pu {α : Type} {X : Cx} {Wx : WX} {ρ : Nat → Addr} {h h1 : Hh} {H : Hp} {σ : St} {S : Sl} {o : Option α} {r : Rs α × Hh} {P : (Nat → Addr) → Hh → Hp → α → Prop}
    (e : Z.pu o h1 = some r) (F : Fin X Wx ρ h H σ S r P) : ∃ a, o = some a ∧ ∀ ρ' H', Go (wd X ρ h H) (wd X ρ' h1 H') → At X ρ' h1 H' σ S → P ρ' h1 H' a := by
  match o, e with
  | some a, e =>
    cases e
    exact ⟨a, rfl, F⟩

def tE (X : Cx) (Wx : WX) (f : EF) : TE := fun σ H Q => ∃ ρ S h r, At X ρ h H σ S ∧ f S h = some r ∧ Fin X Wx ρ h H σ S r fun ρ' h' H' d => ∀ v, RE (wd X ρ' h' H') H v d → Q v H'
def tT (X : Cx) (Wx : WX) (f : TF) : TT := fun σ H Q => ∃ ρ S h r, At X ρ h H σ S ∧ f S h = some r ∧ Fin X Wx ρ h H σ S r fun _ _ H' b => Q b H'
def tA (X : Cx) (Wx : WX) (f : AF) : TA := fun σ H Q => ∃ ρ S h r, At X ρ h H σ S ∧ f S h = some r ∧ Fin X Wx ρ h H σ S r fun ρ' h' H' ds => ∀ vs, RL (wd X ρ' h' H') vs ds → Q vs H'
abbrev JE (X : Cx) (Wx : WX) (e : Expr) (f : EF) : Prop := PE X e (tE X Wx f)
abbrev JT (X : Cx) (Wx : WX) (e : Expr) (f : TF) : Prop := PT X e (tT X Wx f)
abbrev JA (X : Cx) (Wx : WX) (es : List Expr) (f : AF) : Prop := PA X es (tA X Wx f)
theorem PE.imp {X : Cx} {e : Expr} {t t' : TE} (h : PE X e t) (i : ∀ σ H Q, t' σ H Q → t σ H Q) : PE X e t' := ⟨fun pins s σ H Q I q => h.run pins s σ H Q I (i _ _ _ q)⟩
theorem PT.imp {X : Cx} {e : Expr} {t t' : TT} (h : PT X e t) (i : ∀ σ H Q, t' σ H Q → t σ H Q) : PT X e t' := ⟨fun pins s σ H Q I q => h.run pins s σ H Q I (i _ _ _ q)⟩
theorem PA.imp {X : Cx} {e : List Expr} {t t' : TA} (h : PA X e t) (i : ∀ σ H Q, t' σ H Q → t σ H Q) : PA X e t' := ⟨fun pos pins s σ H Q I q => h.run pos pins s σ H Q I (i _ _ _ q)⟩
theorem PS.imp {X : Cx} {e : Stmt} {t t' : TS} (h : PS X e t) (i : ∀ D σ H, t' D σ H → t D σ H) : PS X e t' := ⟨fun pins s σ H Q I q => h.run pins s σ H Q I (i _ _ _ q)⟩
theorem PSs.imp {X : Cx} {e : List Stmt} {t t' : TS} (h : PSs X e t) (i : ∀ D σ H, t' D σ H → t D σ H) : PSs X e t' := ⟨fun pins s σ H Q I q => h.run pins s σ H Q I (i _ _ _ q)⟩

/-- a step of a reading: the part fa, then k -/
theorem tE.bd {β : Type} {X : Cx} {Wx : WX} {ρ : Nat → Addr} {h : Hh} {H : Hp} {σ : St} {S : Sl} {fa : EF} {k : D → Hh → M β} {r : Rs β × Hh} {P : (Nat → Addr) → Hh → Hp → β → Prop} {Q : VK} (A : At X ρ h H σ S)
    (e : Z.bd (fa S h) k = some r) (F : Fin X Wx ρ h H σ S r P)
    (hk : ∀ d h1 ρ' H' v, Go (wd X ρ h H) (wd X ρ' h1 H') → At X ρ' h1 H' σ S → RE (wd X ρ' h1 H') H v d → k d h1 = some r → Fin X Wx ρ' h1 H' σ S r P → Q v H') : tE X Wx fa σ H Q := by
  obtain ⟨ra, e1, F1⟩ := Fin.bd (Pa := fun ρ' h' H' d => ∀ v, RE (wd X ρ' h' H') H v d → Q v H') e F fun d h1 ρ' H' _ g A1 ek F1 v rv => hk d h1 ρ' H' v g A1 rv ek F1
  exact ⟨ρ, S, h, ra, A, e1, F1⟩
/-- .. where it is told what the part comes to -/
theorem tE.bdq {β : Type} {X : Cx} {Wx : WX} {ρ : Nat → Addr} {h : Hh} {H : Hp} {σ : St} {S : Sl} {fa : EF} {k : D → Hh → M β} {r : Rs β × Hh} {P : (Nat → Addr) → Hh → Hp → β → Prop} {Q : VK} (A : At X ρ h H σ S)
    (e : Z.bd (fa S h) k = some r) (F : Fin X Wx ρ h H σ S r P)
    (hk : ∀ d h1 ρ' H' v, fa S h = some (.ok d, h1) → Go (wd X ρ h H) (wd X ρ' h1 H') → At X ρ' h1 H' σ S → RE (wd X ρ' h1 H') H v d → k d h1 = some r → Fin X Wx ρ' h1 H' σ S r P → Q v H') : tE X Wx fa σ H Q := by
  obtain ⟨ra, e1, F1⟩ := Fin.bd (Pa := fun ρ' h' H' d => ∀ v, RE (wd X ρ' h' H') H v d → Q v H') e F fun d h1 ρ' H' eq g A1 ek F1 v rv => hk d h1 ρ' H' v eq g A1 rv ek F1
  exact ⟨ρ, S, h, ra, A, e1, F1⟩
theorem tE.bd' {β : Type} {X : Cx} {Wx : WX} {ρ : Nat → Addr} {h h0 : Hh} {H : Hp} {σ : St} {S : Sl} {fa : EF} {k : D → Hh → M β} {r : Rs β × Hh} {P : (Nat → Addr) → Hh → Hp → β → Prop} {Q : VK} {d : D} (ef : fa S h = some (.ok d, h0)) (A : At X ρ h H σ S)
    (e : Z.bd (fa S h) k = some r) (F : Fin X Wx ρ h H σ S r P)
    (hk : ∀ ρ' H' v, Go (wd X ρ h H) (wd X ρ' h0 H') → At X ρ' h0 H' σ S → RE (wd X ρ' h0 H') H v d → k d h0 = some r → Fin X Wx ρ' h0 H' σ S r P → Q v H') : tE X Wx fa σ H Q :=
  tE.bdq A e F fun d' h1 ρ' H' v eq g A1 rv ek F1 => by
    rw [ef] at eq
    cases eq
    exact hk ρ' H' v g A1 rv ek F1
theorem tT.bd {β : Type} {X : Cx} {Wx : WX} {ρ : Nat → Addr} {h : Hh} {H : Hp} {σ : St} {S : Sl} {fa : TF} {k : Bool → Hh → M β} {r : Rs β × Hh} {P : (Nat → Addr) → Hh → Hp → β → Prop} {Q : Bool → Hp → Prop} (A : At X ρ h H σ S)
    (e : Z.bd (fa S h) k = some r) (F : Fin X Wx ρ h H σ S r P)
    (hk : ∀ b h1 ρ' H', Go (wd X ρ h H) (wd X ρ' h1 H') → At X ρ' h1 H' σ S → k b h1 = some r → Fin X Wx ρ' h1 H' σ S r P → Q b H') : tT X Wx fa σ H Q := by
  obtain ⟨ra, e1, F1⟩ := Fin.bd (Pa := fun _ _ H' b => Q b H') e F fun b h1 ρ' H' _ g A1 ek F1 => hk b h1 ρ' H' g A1 ek F1
  exact ⟨ρ, S, h, ra, A, e1, F1⟩
theorem tA.bd {β : Type} {X : Cx} {Wx : WX} {ρ : Nat → Addr} {h : Hh} {H : Hp} {σ : St} {S : Sl} {fa : AF} {k : List D → Hh → M β} {r : Rs β × Hh} {P : (Nat → Addr) → Hh → Hp → β → Prop} {Q : List V → Hp → Prop} (A : At X ρ h H σ S)
    (e : Z.bd (fa S h) k = some r) (F : Fin X Wx ρ h H σ S r P)
    (hk : ∀ ds h1 ρ' H' vs, Go (wd X ρ h H) (wd X ρ' h1 H') → At X ρ' h1 H' σ S → RL (wd X ρ' h1 H') vs ds → k ds h1 = some r → Fin X Wx ρ' h1 H' σ S r P → Q vs H') : tA X Wx fa σ H Q := by
  obtain ⟨ra, e1, F1⟩ := Fin.bd (Pa := fun ρ' h' H' d => ∀ v, RL (wd X ρ' h' H') v d → Q v H') e F fun d h1 ρ' H' _ g A1 ek F1 v rv => hk d h1 ρ' H' v g A1 rv ek F1
  exact ⟨ρ, S, h, ra, A, e1, F1⟩

/-! ### a new thing that is not ours -/
theorem RO.keep {W W' : Wd} (g : Go W W') {h : Hh} (p : Rep W h) {a : Addr} {o : O} (e : W'.H a = W.H a) (r : RO W a o) : RO W' a o := by
  cases r with
  | lst x y => exact .lst (e.trans x) (y.go g p)
  | dic x z y => exact .dic (e.trans x) z (y.go g p)
  | ins c x z y => exact .ins (by rw [g.mg]; exact c) (e.trans x) z (y.go g p)
theorem RO.some {W : Wd} {a : Addr} {o : O} (r : RO W a o) : ∃ u, W.H a = Option.some u := let ⟨u, e, _⟩ := r.ntup; ⟨u, e⟩
theorem Rep.some {W : Wd} {h : Hh} (p : Rep W h) {i : Nat} (hi : i < W.n) : ∃ u, W.H (W.ρ i) = Option.some u := by
  have hl : i < h.length := by rw [← p.len]; exact hi
  exact (p.obj i _ (List.getElem?_eq_getElem hl)).some
theorem Rep.ne {W : Wd} {h : Hh} (p : Rep W h) {a : Addr} (e : W.H a = none) : ∀ i, i < W.n → W.ρ i ≠ a := fun i hi z => by
  obtain ⟨u, q⟩ := p.some hi
  rw [z, e] at q
  cases q
theorem At.tmp {X : Cx} {ρ : Nat → Addr} {h : Hh} {H : Hp} {σ : St} {S : Sl} (A : At X ρ h H σ S) {a : Addr} {o : HO} (e : H a = none) : Go (wd X ρ h H) (wd X ρ h (upd H a o)) ∧ At X ρ h (upd H a o) σ S := by
  have g : Go (wd X ρ h H) (wd X ρ h (upd H a o)) := ⟨rfl, rfl, Nat.le_refl _, fun _ _ => rfl, fun b u q _ => by
    show upd H a o b = some u
    rw [upd_ne (ne_of_none q e)]
    exact q, fun b q => by
    have q' : upd H a o b = none := q
    by_cases c : b = a
    · rw [c, upd_same] at q'; cases q'
    · rwa [upd_ne c] at q', fun i x y => by
    have x' : h.length ≤ i := x
    have y' : i < h.length := y
    omega⟩
  refine ⟨g, ⟨A.rep.len, A.rep.inj, fun i u q => ?_⟩, A.sl.go g A.rep⟩
  have hi : i < h.length := (List.getElem?_eq_some_iff.mp q).1
  exact (A.rep.obj i u q).keep g A.rep (upd_ne (A.rep.ne e i hi))
/-- a new list that nothing holds -/
theorem At.new {X : Cx} {ρ : Nat → Addr} {h : Hh} {H H0 : Hp} {σ : St} {S : Sl} (A : At X ρ h H σ S) {a : Addr} (e : H a = none) (e0 : H0 a = none) {vs : List V} {xs : List D} (r : RL (wd X ρ h H) vs xs) :
    Go (wd X ρ h H) (wd X ρ h (upd H a (.lst vs))) ∧ At X ρ h (upd H a (.lst vs)) σ S ∧ RE (wd X ρ h (upd H a (.lst vs))) H0 (.ref a) (.lst xs) := by
  obtain ⟨g, A'⟩ := A.tmp (o := .lst vs) e
  exact ⟨g, A', .new upd_same (A.rep.ne e) e0 (r.go g A.rep)⟩
theorem At.newT {X : Cx} {ρ : Nat → Addr} {h : Hh} {H : Hp} {σ : St} {S : Sl} (A : At X ρ h H σ S) {a : Addr} (e : H a = none) {vs : List V} {xs : List D} (r : RL (wd X ρ h H) vs xs) :
    Go (wd X ρ h H) (wd X ρ h (upd H a (.tup vs))) ∧ At X ρ h (upd H a (.tup vs)) σ S ∧ R (wd X ρ h (upd H a (.tup vs))) (.ref a) (.tup xs) := by
  obtain ⟨g, A'⟩ := A.tmp (o := .tup vs) e
  exact ⟨g, A', .tup (SqT.of upd_same) (r.go g A.rep)⟩
/-- a new list becomes an object of ours -/
def own (ρ : Nat → Addr) (n : Nat) (a : Addr) : Nat → Addr := fun i => if i = n then a else ρ i
theorem At.give {X : Cx} {ρ : Nat → Addr} {h : Hh} {H : Hp} {σ : St} {S : Sl} {W0 : Wd} (A : At X ρ h H σ S) (g0 : Go W0 (wd X ρ h H)) {a : Addr} {o : O} (f : ∀ i, i < h.length → ρ i ≠ a) (n0 : W0.H a = none)
    (r : Le (wd X ρ h H) (wd X (own ρ h.length a) (h ++ [o]) H) → RO (wd X (own ρ h.length a) (h ++ [o]) H) a o) :
    Go W0 (wd X (own ρ h.length a) (h ++ [o]) H) ∧ At X (own ρ h.length a) (h ++ [o]) H σ S ∧ R (wd X (own ρ h.length a) (h ++ [o]) H) (.ref a) (.ref h.length) ∧ Le (wd X ρ h H) (wd X (own ρ h.length a) (h ++ [o]) H) := by
  have ho : ∀ i, i < h.length → own ρ h.length a i = ρ i := fun i hi => if_neg (by omega)
  have hn : own ρ h.length a h.length = a := if_pos rfl
  have hl : (h ++ [o]).length = h.length + 1 := by simp
  have le : Le (wd X ρ h H) (wd X (own ρ h.length a) (h ++ [o]) H) := ⟨rfl, by show h.length ≤ (h ++ [o]).length; omega, ho, fun _ _ q => q, fun _ _ q => q⟩
  have hr := r le
  refine ⟨⟨g0.K, g0.mg, Nat.le_trans g0.n (by show h.length ≤ (h ++ [o]).length; omega), fun i hi => ?_, g0.keep, g0.dom, fun i x y => ?_⟩, ⟨⟨rfl, fun i j hi hj z => ?_, fun i u q => ?_⟩, ⟨A.sl.len, fun i d e => ?_⟩⟩, ?_, le⟩
  · exact (ho i (Nat.lt_of_lt_of_le hi g0.n)).trans (g0.ag i hi)
  · have y' : i < h.length + 1 := by rw [← hl]; exact y
    show W0.H (own ρ h.length a i) = none
    by_cases c : i = h.length
    · rw [c, hn]; exact n0
    · rw [ho i (by omega)]; exact g0.fresh i x (by show i < h.length; omega)
  · have hi' : i < h.length + 1 := by rw [← hl]; exact hi
    have hj' : j < h.length + 1 := by rw [← hl]; exact hj
    have z' : own ρ h.length a i = own ρ h.length a j := z
    by_cases ci : i = h.length <;> by_cases cj : j = h.length
    · omega
    · rw [ci, hn, ho j (by omega)] at z'
      exact absurd z'.symm (f j (by omega))
    · rw [cj, hn, ho i (by omega)] at z'
      exact absurd z' (f i (by omega))
    · rw [ho i (by omega), ho j (by omega)] at z'
      exact A.rep.inj i j (by show i < h.length; omega) (by show j < h.length; omega) z'
  · show RO _ (own ρ h.length a i) u
    by_cases c : i < h.length
    · rw [List.getElem?_append_left c] at q
      rw [ho i c]
      cases A.rep.obj i u q with
      | lst x y => exact .lst x (y.le le)
      | dic x z y => exact .dic x z (y.le le)
      | ins c x z y => exact .ins c x z (y.le le)
    · have hi : i < h.length + 1 := by
        have := (List.getElem?_eq_some_iff.mp q).1
        rwa [hl] at this
      have ei : i = h.length := by omega
      subst ei
      rw [List.getElem?_append_right (Nat.le_refl _)] at q
      have eu : o = u := by simpa using q
      subst eu
      rw [hn]
      exact hr
  · obtain ⟨v, e', q⟩ := A.sl.at_ i d e
    exact ⟨v, e', q.le le⟩
  · have := R.ref (W := wd X (own ρ h.length a) (h ++ [o]) H) h.length (by show h.length < (h ++ [o]).length; omega)
    have e : (wd X (own ρ h.length a) (h ++ [o]) H).ρ h.length = a := hn
    rw [e] at this
    exact this

/-! ### a value that is to be held -/
def mat (d : D) (h : Hh) : M D := match d with
  | .lst xs => some (.ok (.ref h.length), h ++ [.lst xs])
  | d => some (.ok d, h)
def vv (f : EF) : EF := fun S h => bd (f S h) mat
theorem RE.ofHeld {W : Wd} {H0 : Hp} {v : V} {d : D} (r : RE W H0 v d) (n : ∀ xs, d ≠ .lst xs) : R W v d := by
  cases r with
  | held r => exact r
  | new _ _ _ _ => exact absurd rfl (n _)
theorem R.notLst {W : Wd} {v : V} {xs : List D} (r : R W v (.lst xs)) : False := by cases r
theorem tE.vv {X : Cx} {Wx : WX} {f : EF} {σ : St} {H : Hp} {Q : VK} (q : tE X Wx (vv f) σ H Q) : tE X Wx f σ H Q := by
  obtain ⟨ρ, S, h, r, A, e, F⟩ := q
  refine tE.bd A e F fun d h1 ρ' H' v g A1 rv ek F1 => ?_
  cases rv with
  | new x fr n0 rl =>
    rename_i a vs xs
    have ek' : (Rs.ok (.ref h1.length), h1 ++ [.lst xs]) = r := by
      have : some (Rs.ok (D.ref h1.length), h1 ++ [O.lst xs]) = some r := ek
      exact Option.some.inj this
    subst ek'
    obtain ⟨g2, A2, r2, _⟩ := A1.give (o := .lst xs) g fr n0 fun le => .lst x (rl.le le)
    exact F _ _ g2 A2 _ (.held r2)
  | held rv =>
    have ek' : some (Rs.ok d, h1) = some r := by
      rw [← ek]
      cases d with
      | lst xs => exact rv.notLst.elim
      | _ => rfl
    cases ek'
    exact F _ _ g A1 _ (.held rv)
theorem JE.vv {X : Cx} {Wx : WX} {ex : Expr} {f : EF} (j : JE X Wx ex f) : JE X Wx ex (Z.vv f) := PE.imp j fun _ _ _ q => tE.vv q
/-- what vv gives is held -/
theorem vv_held {f : EF} {S : Sl} {h h' : Hh} {d : D} (e : vv f S h = some (.ok d, h')) : ∀ xs, d ≠ .lst xs := by
  unfold Z.vv at e
  cases q : f S h with
  | none => rw [q] at e; cases e
  | some r =>
    rw [q] at e
    match r, e with
    | (.ok x, h1), e =>
      intro xs z
      subst z
      cases x <;> cases e
end Z

/-! Z2: programs over data, and what they come to -/
namespace Z
open PySem L2

/-- built-in functions, methods of texts, methods that change -/
inductive Bn where
  | len | sum | any | all | str | int | list | tuple | isi
inductive Mn where
  | split | join | index
inductive Mu where
  | append
def Bn.nm : Bn → Str
  | .len => "len" | .sum => "sum" | .any => "any" | .all => "all" | .str => "str" | .int => "int" | .list => "list" | .tuple => "tuple" | .isi => "isinstance"
def Mn.nm : Mn → Str
  | .split => "split" | .join => "join" | .index => "index"
def Mu.nm : Mu → Str
  | .append => "append"
/-- one argument -/
def Bn.one : Bn → Bool
  | .isi => false
  | _ => true
mutual
inductive E where
  | var (i : Nat) | int (i : Int) | str (x : Str) | bl (b : Bool) | non
  | glob (x : Str) | typ (x : Str) (t : String)
  | bin (op : Operator) (a b : E) | neg (a : E) | cmp (op : CmpOp) (a b : E) | chn (o p : CmpOp) (a b c : E)
  | and (a b : E) | or (a b : E) | not (a : E) | ite (c a b : E)
  | tup (es : EL) | lst (es : EL) | dic0
  | crep (c : Str) (o : E) (y z : Str)
  | call0 (x : Str) | call (x : Str) (es : EL) | make (x : Str) (es : EL)
  | blt (x : Bn) (es : EL) | bl1 (x : Bn) (e : E) | met1 (a : E) (m : Mn) (e : E) | meth (a : E) (m : Mu) (es : EL)
  | fld (a : E) (f : Str)
  | ix (a b : E) | slc (a : E) (lo hi : EO)
  | lc (elt : E) (tg : Tg) (it : It) (c : EO) (own : List Nat)
  | fmt (ps : EL) | fv (a : E)
inductive EO where
  | no | yes (e : E)
inductive EL where
  | nil | cons (st : Bool) (e : E) (es : EL)
inductive It where
  | sq (e : E) | r1 (a : E) | r2 (a b : E) | en (e : E) | zp (a b : E)
inductive Tg where
  | nm (i : Nat) | tp (l : TL)
inductive TL where
  | nil | cons (t : Tg) (l : TL)
end

/-! ### values -/
/-- the items of a list (the object, a new one), of the script -/
def lsD (h : Hh) : D → Option (List D)
  | .lst xs => some xs
  | .frl xs => some xs
  | .ref n => match h[n]? with
    | some (.lst xs) => some xs
    | _ => none
  | _ => none
/-- .. of one that may be changed -/
def mlD (h : Hh) : D → Option (List D)
  | .lst xs => some xs
  | .ref n => match h[n]? with
    | some (.lst xs) => some xs
    | _ => none
  | _ => none
/-- .. or of a tuple -/
def sqD (h : Hh) : D → Option (List D)
  | .tup xs => some xs
  | d => lsD h d
def truD (h : Hh) : D → Option Bool
  | .non => some false
  | .bl b => some b
  | .int i => some (i != 0)
  | .str y => if y.length ≤ sizeLine then some ((y.length : Int) != 0) else none
  | .tup xs => some (!xs.isEmpty)
  | .lst xs => some (!xs.isEmpty)
  | .frl xs => some (!xs.isEmpty)
  | .ref n => match h[n]? with
    | some (.lst xs) => some (!xs.isEmpty)
    | some (.dic kvs) => some (!kvs.isEmpty)
    | _ => none
  | _ => none
mutual
/-- data as they are compared -/
def toPy (h : Hh) : Nat → D → Option PyData
  | _, .non => some .none
  | _, .bl b => some (.bool b)
  | _, .int i => some (.int i)
  | _, .str x => some (.str x)
  | k + 1, .tup xs => (toPyL h k xs).map .tuple
  | k + 1, .lst xs => (toPyL h k xs).map .list
  | k + 1, .frl xs => (toPyL h k xs).map .list
  | k + 1, .ref n => match h[n]? with
    | some (.lst xs) => (toPyL h k xs).map .list
    | _ => none
  | _, _ => none
def toPyL (h : Hh) : Nat → List D → Option (List PyData)
  | _, [] => some []
  | k + 1, d :: ds => match toPy h k d, toPyL h k ds with
    | some a, some b => some (a :: b)
    | _, _ => none
  | _, _ => none
end
/-- == of plain values -/
def scD : D → D → Option Bool
  | .non, .non => some true
  | .non, .int _ => some false | .int _, .non => some false | .non, .bl _ => some false | .bl _, .non => some false | .non, .str _ => some false | .str _, .non => some false
  | .int i, .int j => some (decide (i = j))
  | .bl i, .bl j => some (decide (i = j))
  | .str i, .str j => some (decide (i = j))
  | .int _, .str _ => some false | .str _, .int _ => some false | .bl _, .str _ => some false | .str _, .bl _ => some false
  | _, _ => none
def eqD (h : Hh) (x y : D) : Option Bool := match scD x y with
  | some b => some b
  | none => match toPy h 100000 x, toPy h 100000 y with
    | some a, some b => if SeqAt.shaped a = true ∧ SeqAt.shaped b = true then some (PyData.eqv a b) else none
    | _, _ => none
/-- flat values -/
def flD : D → Option V
  | .non => some .non
  | .bl b => some (.bl b)
  | .int i => some (.int i)
  | .str x => some (.str x)
  | _ => none
def flL : List D → Option (List V)
  | [] => some []
  | d :: ds => match flD d, flL ds with
    | some v, some vs => some (v :: vs)
    | _, _ => none
def inD (h : Hh) (x y : D) : Option Bool := match x, y with
  | .str i, .str j => some (!(Builtin.Str.occurrences j i 0 j.length 1).isEmpty)
  | x, y => match sqD h y with
    | none => none
    | some ys => match flD x, flL ys with
      | some v, some vs => if flatV v = true ∧ vs.all flatV = true then some (inV v vs) else none
      | _, _ => match lsD h y with
        | none => none
        | some _ => match toPy h 100000 x, toPyL h 100000 ys with
          | some a, some bs => if SeqAt.shaped a = true ∧ SeqAt.shaped (.list bs) = true then some (bs.any fun z => PyData.eqv z a) else none
          | _, _ => none
def cmpD (h : Hh) (op : CmpOp) (x y : D) : Option D := match op with
  | .Eq => (eqD h x y).map .bl
  | .NotEq => (eqD h x y).map fun b => .bl (!b)
  | .Lt => match x, y with
    | .int i, .int j => some (.bl (decide (i < j)))
    | .str i, .str j => some (.bl (decide (i.cps.toList < j.cps.toList)))
    | _, _ => none
  | .LtE => match x, y with
    | .int i, .int j => some (.bl (decide (i ≤ j)))
    | .str i, .str j => some (.bl (!decide (j.cps.toList < i.cps.toList)))
    | _, _ => none
  | .Gt => match x, y with
    | .int i, .int j => some (.bl (decide (j < i)))
    | .str i, .str j => some (.bl (decide (j.cps.toList < i.cps.toList)))
    | _, _ => none
  | .GtE => match x, y with
    | .int i, .int j => some (.bl (decide (j ≤ i)))
    | .str i, .str j => some (.bl (!decide (i.cps.toList < j.cps.toList)))
    | _, _ => none
  | .Is => match x, y with
    | .bl i, .bl j => some (.bl (decide (i = j)))
    | .non, .non => some (.bl true)
    | .bl _, .non => some (.bl false) | .int _, .non => some (.bl false) | .str _, .non => some (.bl false) | .tup _, .non => some (.bl false) | .lst _, .non => some (.bl false) | .ref _, .non => some (.bl false)
    | _, _ => none
  | .IsNot => match x, y with
    | .bl i, .bl j => some (.bl (!decide (i = j)))
    | .non, .non => some (.bl false)
    | .bl _, .non => some (.bl true) | .int _, .non => some (.bl true) | .str _, .non => some (.bl true) | .tup _, .non => some (.bl true) | .lst _, .non => some (.bl true) | .ref _, .non => some (.bl true)
    | _, _ => none
  | .In => (inD h x y).map .bl
  | .NotIn => (inD h x y).map fun b => .bl (!b)
def binD (h : Hh) (op : Operator) (x y : D) : Option D := match op with
  | .Add => match x, y with
    | .int i, .int j => some (.int (i + j))
    | .int i, .bl k => some (.int (i + (if k then 1 else 0)))
    | .str i, .str j => if i.length + j.length ≤ sizeLine then some (.str (i ++ j)) else none
    | .tup xs, .tup ys => if xs.length + ys.length ≤ sizeLine then some (.tup (xs ++ ys)) else none
    | x, y => match mlD h x, mlD h y with
      | some xs, some ys => if xs.length + ys.length ≤ sizeLine then some (.lst (xs ++ ys)) else none
      | _, _ => none
  | .Sub => match x, y with
    | .int i, .int j => some (.int (i - j))
    | _, _ => none
  | .Mult => match x, y with
    | .int i, .int j => if (-(2 ^ 64) < i ∧ i < 2 ^ 64) ∨ (-(2 ^ 64) < j ∧ j < 2 ^ 64) then some (.int (i * j)) else none
    | x, .int k => match mlD h x with
      | some xs => if -(2 ^ 63) ≤ k ∧ k < 2 ^ 63 ∧ xs.length * k.toNat ≤ sizeLine then some (.lst (List.replicate k.toNat xs).flatten) else none
      | none => none
    | _, _ => none
  | .FloorDiv => match x, y with
    | .int i, .int j => if 0 < j ∧ j < 1073741824 then some (.int (i / j)) else none
    | _, _ => none
  | .Mod => match x, y with
    | .int i, .int j => if 0 < j then some (.int (i % j)) else none
    | _, _ => none
  | .Pow => match x, y with
    | .int i, .int j => if 0 ≤ j ∧ j ≤ 1000000 ∧ i.natAbs < 2 ^ 64 then some (.int (i ^ j.toNat)) else none
    | _, _ => none
  | .RShift => match x, y with
    | .int i, .int j => if 0 ≤ j then some (.int (i / 2 ^ j.toNat)) else none
    | _, _ => none
  | .BitAnd => match x, y with
    | .int i, .int j => some (.int (Builtin.bitAnd i j))
    | _, _ => none
  | _ => none
def negD : D → Option D
  | .int i => some (.int (-i))
  | _ => none
def ixD (h : Hh) (x y : D) : Option D := match x, y with
  | .str z, .int i => if z.length ≤ sizeLine then (atI z.cps.toList i).map fun c => .str ⟨#[c]⟩ else none
  | x, .int i => match sqD h x with
    | some xs => atI xs i
    | none => none
  | _, _ => none
def cutD (xs : List D) (lo hi : Option Int) : List D := (xs.drop (HT.sIx xs.length 0 lo)).take (HT.sIx xs.length xs.length hi - HT.sIx xs.length 0 lo)
def slcD (h : Hh) (x : D) (lo hi : Option Int) : Option D := match x with
  | .str z => if z.length ≤ sizeLine then some (.str (cutS z lo hi)) else none
  | .tup xs => some (.tup (cutD xs lo hi))
  | x => (lsD h x).map fun xs => .lst (cutD xs lo hi)
def strsD : List D → Option (List Str)
  | [] => some []
  | .str x :: ds => (strsD ds).map (x :: ·)
  | _ => none
def intsD : List D → Option (List Int)
  | [] => some []
  | .int x :: ds => (intsD ds).map (x :: ·)
  | _ => none
def blsD : List D → Option (List Bool)
  | [] => some []
  | .bl x :: ds => (blsD ds).map (x :: ·)
  | _ => none
/-- the type's name of a plain value, a list, a tuple, a dict -/
def tyD (h : Hh) : D → Option String
  | .non => some "NoneType"
  | .bl _ => some "bool"
  | .int _ => some "int"
  | .str _ => some "str"
  | .tup _ => some "tuple"
  | .lst _ => some "list"
  | .frl _ => some "list"
  | .ref n => match h[n]? with
    | some (.lst _) => some "list"
    | some (.dic _) => some "dict"
    | _ => none
  | _ => none
def isiD (a b : String) : Option Bool :=
  if b = "int" then (if a = "int" ∨ a = "bool" then some true else if a = "NoneType" ∨ a = "str" ∨ a = "tuple" ∨ a = "list" ∨ a = "dict" then some false else none)
  else if b = "bool" ∨ b = "str" ∨ b = "list" ∨ b = "tuple" ∨ b = "dict" then (if a = "NoneType" ∨ a = "bool" ∨ a = "int" ∨ a = "str" ∨ a = "tuple" ∨ a = "list" ∨ a = "dict" then some (decide (a = b)) else none)
  else none
/-- built-in functions and types, called -/
def lenD (h : Hh) (ds : List D) : Option D := match ds with
  | [.str z] => if z.length ≤ sizeLine then some (.int z.length) else none
  | [d] => (sqD h d).map fun xs => .int xs.length
  | _ => none
def overL (g : List D → Option D) (h : Hh) (ds : List D) : Option D := match ds with
  | [d] => match lsD h d with
    | some xs => g xs
    | none => none
  | _ => none
def strD (ds : List D) : Option D := match ds with
  | [.int i] => if i.natAbs.log2 < 1920 then some (.str (toString i)) else none
  | _ => none
def intD (ds : List D) : Option D := match ds with
  | [.int i] => some (.int i)
  | [.bl k] => some (.int (if k then 1 else 0))
  | _ => none
def listD (h : Hh) (ds : List D) : Option D := match ds with
  | [d] => (sqD h d).map .lst
  | _ => none
def tupD (h : Hh) (ds : List D) : Option D := match ds with
  | [d] => (sqD h d).map .tup
  | _ => none
def isinD (h : Hh) (ds : List D) : Option D := match ds with
  | [d, .ty t] => match tyD h d with
    | some a => (isiD a t).map .bl
    | none => none
  | _ => none
def bltD (h : Hh) (x : Bn) (ds : List D) : Option D := match x with
  | .len => lenD h ds
  | .sum => overL (fun xs => (intsD xs).map fun ns => .int ns.sum) h ds
  | .any => overL (fun xs => (blsD xs).map fun ns => .bl (ns.any id)) h ds
  | .all => overL (fun xs => (blsD xs).map fun ns => .bl (ns.all id)) h ds
  | .str => strD ds
  | .int => intD ds
  | .list => listD h ds
  | .tuple => tupD h ds
  | .isi => isinD h ds
/-- methods of texts, one argument -/
def mthD (h : Hh) (a : Str) (m : Mn) (d : D) : Option D := match m with
  | .split => match d with
    | .str b => if (b.length == 0) = false ∧ a.length + 2 ≤ sizeLine then some (.lst ((Txt.split a b).map .str)) else none
    | _ => none
  | .join => match sqD h d with
    | some xs => match strsD xs with
      | some ys => if (ys.map (·.length)).sum + ys.length * a.length ≤ 16777216 then some (.str (Txt.join a ys)) else none
      | none => none
    | none => none
  | .index => match d with
    | .str b => match Builtin.Str.occurrences a b 0 a.length 1 with
      | i :: _ => some (.int (i : Nat))
      | [] => none
    | _ => none
/-- methods that change -/
def mutD (h : Hh) (n : Nat) (m : Mu) (ds : List D) : Option (D × Hh) := match m with
  | .append => match ds with
    | [d] => match h[n]? with
      | some (.lst xs) => if xs.length < sizeLine then some (.non, h.set n (.lst (xs ++ [d]))) else none
      | _ => none
    | _ => none

/-! ### programs -/
abbrev CallF := Str → List D → Hh → M D
def getS (S : Sl) (i : Nat) : Option D := (S[i]?).bind id
def wipeS (S : Sl) : List Nat → Sl
  | [] => S
  | v :: vs => (wipeS S vs).set v none
mutual
def bindT (h : Hh) : Tg → D → Sl → Option Sl
  | .nm i, d, S => some (S.set i (some d))
  | .tp l, d, S => match d with
    | .tup xs => bindTs h l xs S
    | _ => none
def bindTs (h : Hh) : TL → List D → Sl → Option Sl
  | .nil, [], S => some S
  | .cons t l, d :: ds, S => (bindT h t d S).bind fun S1 => bindTs h l ds S1
  | _, _, _ => none
end
/-- what is walked: the items, the lists that must stay -/
structure Src where
  items : List D
  stay : List (Nat × List D)
def stayB (h : Hh) : List (Nat × List D) → Prop
  | [] => True
  | (n, xs) :: r => h[n]? = some (.lst xs) ∧ stayB h r
def stayOf (d : D) (xs : List D) : List (Nat × List D) := match d with
  | .ref n => [(n, xs)]
  | _ => []
def strItems (z : Str) : List D := z.cps.toList.map fun c => .str ⟨#[c]⟩
def rngItems (lo : Int) (n : Nat) : List D := (List.range n).map fun i => .int (lo + (i : Nat))
def enItems : Nat → List D → List D
  | _, [] => []
  | k, d :: ds => .tup [.int k, d] :: enItems (k + 1) ds
def zpItems : List D → List D → List D
  | a :: as, b :: bs => .tup [a, b] :: zpItems as bs
  | _, _ => []
open Classical in
/-- a comprehension's turns -/
noncomputable def lcGo (st : List (Nat × List D)) (f : D → Hh → M (Option D)) : List D → Hh → Option (List D × Hh)
  | [], h => if stayB h st then some ([], h) else none
  | x :: xs, h => if stayB h st then match f x h with
      | some (.ok o, h1) => match lcGo st f xs h1 with
        | some (ys, h2) => some ((match o with | some y => y :: ys | none => ys), h2)
        | none => none
      | _ => none
    else none
mutual
/-- only objects below n are in it -/
def clD (n : Nat) : D → Bool
  | .tup xs => clL n xs
  | .lst xs => clL n xs
  | .frl xs => clL n xs
  | .ref m => decide (m < n)
  | _ => true
def clL (n : Nat) : List D → Bool
  | [] => true
  | d :: ds => clD n d && clL n ds
end
def clO (n : Nat) : O → Bool
  | .lst xs => clL n xs
  | .dic kvs => clL n (kvs.map (·.2))
  | .ins _ fs => clL n (fs.map (·.2))
def okH (h h2 : Hh) : Prop := h2.take h.length = h ∨ (h2.take h.length).all (clO h.length) = true
open Classical in
/-- behind a call: what was made on the way and is not told is let go; a list that was made and is told is new -/
noncomputable def fix (h : Hh) (d : D) (h2 : Hh) : M D := match d with
  | .ref m => if m < h.length then (if okH h h2 then some (.ok d, h2.take h.length) else some (.ok d, h2)) else match h2[m]? with
    | some (.lst xs) => if okH h h2 ∧ clL h.length xs = true then some (.ok (.lst xs), h2.take h.length) else some (.ok d, h2)
    | _ => some (.ok d, h2)
  | d => if okH h h2 ∧ clD h.length d = true then some (.ok d, h2.take h.length) else some (.ok d, h2)
/-- a value's reading; a test's -/
structure Ev where
  v : EF
  t : TF
def tv (f : EF) : TF := fun S h => bd (f S h) fun x h1 => pu (truD h1 x) h1
def vt (f : EF) : Ev := ⟨f, tv f⟩
mutual
noncomputable def ev (G : List (Str × D)) (Φ : CallF) (e : E) : Ev := match e with
  | .var i => vt (fun S h => pu (getS S i) h)
  | .int i => vt (fun _ h => some (.ok (.int i), h))
  | .str x => vt (fun _ h => some (.ok (.str x), h))
  | .bl b => vt (fun _ h => some (.ok (.bl b), h))
  | .non => vt (fun _ h => some (.ok .non, h))
  | .glob x => vt (fun _ h => pu (G.lookup x) h)
  | .typ _ t => vt (fun _ h => some (.ok (.ty t), h))
  | .bin op a b => vt (fun S h => bd ((ev G Φ a).v S h) fun x h1 => bd ((ev G Φ b).v S h1) fun y h2 => pu (binD h2 op x y) h2)
  | .neg a => vt (fun S h => bd ((ev G Φ a).v S h) fun x h1 => pu (negD x) h1)
  | .cmp op a b => ⟨fun S h => bd ((ev G Φ a).v S h) fun x h1 => bd ((ev G Φ b).v S h1) fun y h2 => pu (cmpD h2 op x y) h2,
      fun S h => bd ((ev G Φ a).v S h) fun x h1 => bd ((ev G Φ b).v S h1) fun y h2 => match cmpD h2 op x y with
      | some (.bl k) => some (.ok k, h2)
      | _ => none⟩
  | .chn o p a b c => ⟨fun S h => bd ((ev G Φ a).v S h) fun x h1 => bd ((ev G Φ b).v S h1) fun y h2 => match cmpD h2 o x y with
      | some (.bl true) => bd ((ev G Φ c).v S h2) fun z h3 => pu (cmpD h3 p y z) h3
      | some (.bl false) => some (.ok (.bl false), h2)
      | _ => none,
      fun S h => bd ((ev G Φ a).v S h) fun x h1 => bd ((ev G Φ b).v S h1) fun y h2 => match cmpD h2 o x y with
      | some (.bl true) => bd ((ev G Φ c).v S h2) fun z h3 => match cmpD h3 p y z with
        | some (.bl k) => some (.ok k, h3)
        | _ => none
      | some (.bl false) => some (.ok false, h2)
      | _ => none⟩
  | .and a b => ⟨fun S h => bd ((ev G Φ a).v S h) fun x h1 => match x with
      | .bl true => (ev G Φ b).v S h1
      | .bl false => some (.ok (.bl false), h1)
      | _ => none,
      fun S h => bd ((ev G Φ a).t S h) fun k h1 => if k = true then (ev G Φ b).t S h1 else some (.ok false, h1)⟩
  | .or a b => ⟨fun S h => bd ((ev G Φ a).v S h) fun x h1 => match x with
      | .bl true => some (.ok (.bl true), h1)
      | .bl false => (ev G Φ b).v S h1
      | _ => none,
      fun S h => bd ((ev G Φ a).t S h) fun k h1 => if k = true then some (.ok true, h1) else (ev G Φ b).t S h1⟩
  | .not a => ⟨fun S h => bd ((ev G Φ a).v S h) fun x h1 => match x with
      | .bl k => some (.ok (.bl (!k)), h1)
      | _ => none,
      fun S h => bd ((ev G Φ a).t S h) fun k h1 => some (.ok (!k), h1)⟩
  | .ite c a b => ⟨fun S h => bd ((ev G Φ c).t S h) fun k h1 => if k = true then (ev G Φ a).v S h1 else (ev G Φ b).v S h1, fun _ _ => none⟩
  | .tup es => vt (fun S h => bd (evA G Φ es S h) fun ds h1 => if ds.length ≤ sizeLine then some (.ok (.tup ds), h1) else none)
  | .lst es => vt (fun S h => bd (evA G Φ es S h) fun ds h1 => if ds.length ≤ sizeLine then some (.ok (.lst ds), h1) else none)
  | .dic0 => vt (fun _ h => some (.ok (.ref h.length), h ++ [.dic []]))
  | .crep c o y z => vt (fun S h => bd ((ev G Φ o).v S h) fun x h1 => match x with
      | .str x => if x.length + (x.length + 1) * z.length ≤ 16777216 ∧ c.length + (Txt.replace x y z).length ≤ sizeLine then some (.ok (.str (c ++ Txt.replace x y z)), h1) else none
      | _ => none)
  | .call0 x => vt (fun S h => match Φ x [] h with
      | some (.ok d, h2) => fix h d h2
      | _ => none)
  | .call x es => vt (fun S h => bd (evA G Φ es S h) fun ds h1 => bd (Φ x ds h1) fun d h2 => fix h d h2)
  | .make x es => vt (fun S h => none)
  | .bl1 x e => vt (fun S h => bd ((ev G Φ e).v S h) fun d h1 => pu (bltD h1 x [d]) h1)
  | .blt x es => vt (fun S h => bd (evA G Φ es S h) fun ds h1 => pu (bltD h1 x ds) h1)
  | .met1 a m e => vt (fun S h => bd (vv ((ev G Φ a).v) S h) fun x h1 => match x with
      | .str z => bd ((ev G Φ e).v S h1) fun d h2 => pu (mthD h2 z m d) h2
      | _ => none)
  | .meth a m es => vt (fun S h => bd (vv ((ev G Φ a).v) S h) fun x h1 => match x with
      | .ref n => match h1[n]? with
        | some (.lst _) => bd (evA G Φ es S h1) fun ds h2 => match mutD h2 n m ds with
          | some (d, h3) => some (.ok d, h3)
          | none => none
        | _ => none
      | _ => none)
  | .fld a f => vt (fun S h => none)
  | .ix a b => vt (fun S h => bd ((ev G Φ a).v S h) fun x h1 => bd ((ev G Φ b).v S h1) fun y h2 => pu (ixD h2 x y) h2)
  | .slc a lo hi => vt (fun S h => bd ((ev G Φ a).v S h) fun x h1 => bd (evO G Φ lo S h1) fun l h2 => bd (evO G Φ hi S h2) fun u h3 => pu (slcD h3 x l u) h3)
  | .lc elt tg it c own => vt (fun S h => bd (evI G Φ it S h) fun s h1 => if s.items.length ≤ sizeLine then
      match lcGo s.stay (fun x h => match bindT h tg x (wipeS S own) with
        | none => none
        | some S1 => match evC G Φ c S1 h with
          | some (.ok true, h2) => (bd (vv ((ev G Φ elt).v) S1 h2) fun d h3 => some (.ok (some d), h3))
          | some (.ok false, h2) => some (.ok none, h2)
          | _ => none) s.items h1 with
      | some (ys, h2) => some (.ok (.lst ys), h2)
      | none => none
    else none)
  | .fmt ps => vt (fun S h => bd (evF G Φ ps S h) fun x h1 => some (.ok (.str x), h1))
  | .fv a => vt (fun S h => bd ((ev G Φ a).v S h) fun x h1 => match x with
      | .str y => if y.length ≤ sizeLine then some (.ok (.str y), h1) else none
      | .int i => if i.natAbs.log2 < 1920 then some (.ok (.str (toString i)), h1) else none
      | _ => none)
noncomputable def evA (G : List (Str × D)) (Φ : CallF) : EL → Sl → Hh → M (List D)
  | .nil => fun _ h => some (.ok [], h)
  | .cons false e es => fun S h => bd (vv ((ev G Φ e).v) S h) fun d h1 => bd (evA G Φ es S h1) fun ds h2 => some (.ok (d :: ds), h2)
  | .cons true e es => fun S h => bd ((ev G Φ e).v S h) fun x h1 => match sqD h1 x with
      | some xs => bd (evA G Φ es S h1) fun ds h2 => some (.ok (xs ++ ds), h2)
      | none => none
noncomputable def evO (G : List (Str × D)) (Φ : CallF) : EO → Sl → Hh → M (Option Int)
  | .no => fun _ h => some (.ok none, h)
  | .yes e => fun S h => bd ((ev G Φ e).v S h) fun x h1 => match x with
      | .int i => some (.ok (some i), h1)
      | _ => none
noncomputable def evC (G : List (Str × D)) (Φ : CallF) : EO → Sl → Hh → M Bool
  | .no => fun _ h => some (.ok true, h)
  | .yes e => fun S h => (ev G Φ e).t S h
noncomputable def evF (G : List (Str × D)) (Φ : CallF) : EL → Sl → Hh → M Str
  | _ => fun _ _ => none
noncomputable def evI (G : List (Str × D)) (Φ : CallF) : It → Sl → Hh → M Src
  | .sq e => fun S h => bd ((ev G Φ e).v S h) fun x h1 => match x with
      | .str z => some (.ok ⟨strItems z, []⟩, h1)
      | x => match sqD h1 x with
        | some xs => some (.ok ⟨xs, stayOf x xs⟩, h1)
        | none => none
  | .r1 a => fun S h => bd ((ev G Φ a).v S h) fun x h1 => match x with
      | .int j => if -(2 ^ 62) ≤ j ∧ j < 2 ^ 62 then some (.ok ⟨rngItems 0 j.toNat, []⟩, h1) else none
      | _ => none
  | .r2 a b => fun S h => bd ((ev G Φ a).v S h) fun x h1 => bd ((ev G Φ b).v S h1) fun y h2 => match x, y with
      | .int i, .int j => if -(2 ^ 62) ≤ i ∧ i < 2 ^ 62 ∧ -(2 ^ 62) ≤ j ∧ j < 2 ^ 62 then some (.ok ⟨rngItems i (j - i).toNat, []⟩, h2) else none
      | _, _ => none
  | .en e => fun S h => bd ((ev G Φ e).v S h) fun x h1 => match lsD h1 x with
      | some xs => some (.ok ⟨enItems 0 xs, stayOf x xs⟩, h1)
      | none => none
  | .zp a b => fun S h => bd ((ev G Φ a).v S h) fun x h1 => bd ((ev G Φ b).v S h1) fun y h2 => match lsD h2 x, lsD h2 y with
      | some xs, some ys => some (.ok ⟨zpItems xs ys, stayOf x xs ++ stayOf y ys⟩, h2)
      | _, _ => none
end
noncomputable abbrev evE (G : List (Str × D)) (Φ : CallF) (e : E) : EF := (ev G Φ e).v
noncomputable abbrev evT (G : List (Str × D)) (Φ : CallF) (e : E) : TF := (ev G Φ e).t

/-! ### the programs' texts -/
structure Sc where
  N : List Str
  sc : Scope
  blk : Option Scope
structure Gs where
  glob : List (Str × D)
  blt : List Str
  fns : List (Str × Nat)
def visB (sc : Scope) (x : Str) : Bool := match sc.names.lookup x with
  | some .local => true | some .cell => true | some .free => true
  | _ => false
def glB (sc : Scope) (x : Str) : Bool := match sc.names.lookup x with
  | some .globalImplicit => true
  | _ => false
def locB (sc : Scope) (x : Str) : Bool := match sc.names.lookup x with
  | some .local => true | some .cell => true
  | _ => false
def stoB (Γ : Sc) (x : Str) : Bool := match Γ.blk with
  | none => locB Γ.sc x
  | some b => locB b x && locB Γ.sc x
def okName (x : Str) : Bool := !(x == ("__debug__" : Str)) && !(x == ("__classdict__" : Str)) && !(x == ("__name__" : Str))
def nsup : Expr → Bool
  | .Call (.Name _ _) [] [] _ => false
  | _ => true
def nsl : Expr → Bool
  | .Slice _ _ _ _ => false
  | _ => true
def Γin (Γ : Sc) (scope : Scope) : Sc := ⟨Γ.N, relS scope Γ.sc, some scope⟩
def ownOf (N : List Str) (own : List Nat) : List (Str × Nat) := own.map fun i => (N.getD i Str.empty, i)
def nostar : EL → Bool
  | .nil => true
  | .cons st _ es => !st && nostar es
def tyNames : List String := ["int", "bool", "str", "list", "tuple", "dict"]
mutual
def tgIx : Tg → List Nat
  | .nm i => [i]
  | .tp l => tgIxs l
def tgIxs : TL → List Nat
  | .nil => []
  | .cons t l => tgIx t ++ tgIxs l
end
mutual
def chkE (K : Gs) (Γ : Sc) (e : E) (ex : Expr) : Bool := match e with
  | .var i => match ex with
    | .Name x _ => decide (Γ.N[i]? = some x) && visB Γ.sc x && okName x
    | _ => false
  | .int i => match ex with
    | .Constant (.int j) _ _ => decide (i = j)
    | _ => false
  | .str i => match ex with
    | .Constant (.str j) _ _ => decide (i = j)
    | _ => false
  | .bl i => match ex with
    | .Constant (.bool j) _ _ => decide (i = j)
    | _ => false
  | .non => match ex with
    | .Constant .none _ _ => true
    | _ => false
  | .glob x => match ex with
    | .Name y _ => decide (x = y) && glB Γ.sc x && (K.glob.lookup x).isSome && okName x
    | _ => false
  | .typ x t => match ex with
    | .Name y _ => decide (x = y) && glB Γ.sc x && decide (x ∈ K.blt) && decide (x = Str.ofString t) && okName x && decide (t ∈ tyNames)
    | _ => false
  | .bin op a b => match ex with
    | .BinOp x o y _ => decide (op = o) && chkE K Γ a x && chkE K Γ b y
    | _ => false
  | .neg a => match ex with
    | .UnaryOp .USub x _ => chkE K Γ a x
    | _ => false
  | .cmp op a b => match ex with
    | .Compare x [o] [y] _ => decide (op = o) && chkE K Γ a x && chkE K Γ b y
    | _ => false
  | .chn o p a b c => match ex with
    | .Compare x [o', p'] [y, z] _ => decide (o = o') && decide (p = p') && decide (o ≠ .In) && decide (o ≠ .NotIn) && decide (p ≠ .In) && decide (p ≠ .NotIn) && chkE K Γ a x && chkE K Γ b y && chkE K Γ c z
    | _ => false
  | .and a b => match ex with
    | .BoolOp .And (x :: y :: r) pos => chkE K Γ a x && (match r with | [] => chkE K Γ b y | _ => chkE K Γ b (.BoolOp .And (y :: r) pos))
    | _ => false
  | .or a b => match ex with
    | .BoolOp .Or (x :: y :: r) pos => chkE K Γ a x && (match r with | [] => chkE K Γ b y | _ => chkE K Γ b (.BoolOp .Or (y :: r) pos))
    | _ => false
  | .not a => match ex with
    | .UnaryOp .Not x _ => chkE K Γ a x
    | _ => false
  | .ite c a b => match ex with
    | .IfExp z x y _ => chkE K Γ c z && chkE K Γ a x && chkE K Γ b y
    | _ => false
  | .tup es => match ex with
    | .Tuple xs _ _ => chkL K Γ es xs
    | _ => false
  | .lst es => match ex with
    | .List xs _ => chkL K Γ es xs
    | _ => false
  | .dic0 => match ex with
    | .Dict [] [] _ => true
    | _ => false
  | .crep c o y z => match ex with
    | .BinOp (.Constant (.str c') _ _) .Add (.Call (.Attribute x m apos) [.Constant (.str y') _ _, .Constant (.str z') _ _] [] pos) _ =>
      decide (c = c') && decide (y = y') && decide (z = z') && decide (m = "replace") && !(y == z) && (apos.endLine == pos.line) && nsup x && chkE K Γ o x
    | _ => false
  | .call0 x => match ex with
    | .Call (.Name y _) [] [] _ => decide (x = y) && glB Γ.sc x && okName x && decide (K.fns.lookup x = some 0)
    | _ => false
  | .call x es => match ex with
    | .Call (.Name y _) (z :: zs) [] _ => decide (x = y) && glB Γ.sc x && okName x && decide (K.fns.lookup x = some (zs.length + 1)) && nostar es && chkL K Γ es (z :: zs)
    | _ => false
  | .make _ _ => false
  | .blt x es => match ex with
    | .Call (.Name y _) (z :: zs) [] _ => decide (y = x.nm) && glB Γ.sc y && okName y && decide (y ∈ K.blt) && !x.one && nostar es && chkL K Γ es (z :: zs)
    | _ => false
  | .bl1 x e => match ex with
    | .Call (.Name y _) [z] [] _ => decide (y = x.nm) && glB Γ.sc y && okName y && decide (y ∈ K.blt) && x.one && chkE K Γ e z
    | _ => false
  | .met1 a m e => match ex with
    | .Call (.Attribute o n apos) [z] [] pos => decide (n = m.nm) && (apos.endLine == pos.line) && nsup o && chkE K Γ a o && chkE K Γ e z
    | _ => false
  | .meth a m es => match ex with
    | .Call (.Attribute o n apos) [z] [] pos => decide (n = m.nm) && (apos.endLine == pos.line) && nsup o && nostar es && chkE K Γ a o && chkL K Γ es [z]
    | _ => false
  | .fld _ _ => false
  | .ix a b => match ex with
    | .Subscript x y _ => nsl y && chkE K Γ a x && chkE K Γ b y
    | _ => false
  | .slc a lo hi => match ex with
    | .Subscript x (.Slice l u none _) _ => chkE K Γ a x && chkO K Γ lo l && chkO K Γ hi u
    | _ => false
  | .lc elt tg it c own => match ex with
    | .ListComp y [⟨t, i, ifs, 0⟩] scope _ => blkC Γ.N Γ.sc scope (ownOf Γ.N own) && (tgIx tg).all (fun i => own.contains i) && chkI K Γ it t i && chkG (Γin Γ scope) tg t && chkC K (Γin Γ scope) c ifs && chkE K (Γin Γ scope) elt y
    | _ => false
  | .fmt _ => false
  | .fv _ => false
def chkO (K : Gs) (Γ : Sc) (e : EO) (ex : Option Expr) : Bool := match e with
  | .no => ex.isNone
  | .yes e => match ex with
    | some x => chkE K Γ e x
    | none => false
def chkC (K : Gs) (Γ : Sc) (e : EO) (ex : List Expr) : Bool := match e with
  | .no => ex.isEmpty
  | .yes e => match ex with
    | [x] => chkE K Γ e x
    | _ => false
def chkL (K : Gs) (Γ : Sc) (e : EL) (ex : List Expr) : Bool := match e with
  | .nil => ex.isEmpty
  | .cons st e es => match ex with
    | x :: xs => (if st = true then (match x with | .Starred y _ => chkE K Γ e y | _ => false) else chkE K Γ e x) && chkL K Γ es xs
    | [] => false
def chkI (K : Gs) (Γ : Sc) (i : It) (t ex : Expr) : Bool := match i with
  | .sq e => chkE K Γ e ex
  | .r1 a => match ex with
    | .Call (.Name y _) [x] [] _ => decide (y = "range") && glB Γ.sc y && decide (y ∈ K.blt) && chkE K Γ a x
    | _ => false
  | .r2 a b => match ex with
    | .Call (.Name y _) [x, z] [] _ => decide (y = "range") && glB Γ.sc y && decide (y ∈ K.blt) && chkE K Γ a x && chkE K Γ b z
    | _ => false
  | .en a => match t, ex with
    | .Tuple _ _ _, .Call (.Name y _) [x] [] _ => decide (y = "enumerate") && glB Γ.sc y && decide (y ∈ K.blt) && chkE K Γ a x
    | _, _ => false
  | .zp a b => match t, ex with
    | .Tuple _ _ _, .Call (.Name y _) [x, z] [] _ => decide (y = "zip") && glB Γ.sc y && decide (y ∈ K.blt) && chkE K Γ a x && chkE K Γ b z
    | _, _ => false
def chkG (Γ : Sc) (t : Tg) (ex : Expr) : Bool := match t with
  | .nm i => match ex with
    | .Name x _ => decide (Γ.N[i]? = some x) && stoB Γ x
    | _ => false
  | .tp l => match ex with
    | .Tuple xs _ _ => chkGL Γ l xs
    | _ => false
def chkGL (Γ : Sc) (t : TL) (ex : List Expr) : Bool := match t with
  | .nil => ex.isEmpty
  | .cons t l => match ex with
    | x :: xs => chkG Γ t x && chkGL Γ l xs
    | [] => false
end

/-! ### statements -/
mutual
inductive S where
  | ex (e : E) | set (i : Nat) (e : E) | asg (t : TL) (e : E) | aug (i : Nat) (op : Operator) (e : E)
  | ret (e : E) | retn | ife (c : E) (a b : SL) | fo (t : Tg) (it : It) (b : SL) | wh (c : E) (b : SL) | pas | brk | cnt
inductive SL where
  | nil | cons (s : S) (l : SL)
end
/-- how a block ends -/
inductive Fw where
  | nx (S : Sl) | rt (d : D) | bk (S : Sl) | ct (S : Sl) | xx (C : Str) (fs : List (Str × D)) (S : Sl)
abbrev BM := Option (Fw × Hh)
/-- a part's value, then a statement's end -/
def bs {α : Type} (r : M α) (S : Sl) (k : α → Hh → BM) : BM := match r with
  | none => none
  | some (.ok a, h) => k a h
  | some (.ex C fs, h) => some (.xx C fs S, h)
/-- a block behind a block -/
def bq (r : BM) (k : Sl → Hh → BM) : BM := match r with
  | none => none
  | some (.nx S, h) => k S h
  | some (w, h) => some (w, h)
open Classical in
/-- a loop's turns -/
noncomputable def foGo (st : List (Nat × List D)) (t : Tg) (b : Sl → Hh → BM) : List D → Sl → Hh → BM
  | [], S, h => if stayB h st then some (.nx S, h) else none
  | x :: xs, S, h => if stayB h st then match bindT h t x S with
      | none => none
      | some S1 => match b S1 h with
        | none => none
        | some (.nx S2, h1) => foGo st t b xs S2 h1
        | some (.ct S2, h1) => foGo st t b xs S2 h1
        | some (.bk S2, h1) => some (.nx S2, h1)
        | some (w, h1) => some (w, h1)
    else none
def whGo (c : TF) (b : Sl → Hh → BM) : Nat → Sl → Hh → BM
  | 0, _, _ => none
  | n + 1, S, h => bs (c S h) S fun k h1 => if k = true then match b S h1 with
      | none => none
      | some (.nx S2, h2) => whGo c b n S2 h2
      | some (.ct S2, h2) => whGo c b n S2 h2
      | some (.bk S2, h2) => some (.nx S2, h2)
      | some (w, h2) => some (w, h2)
    else some (.nx S, h1)
def augD (h : Hh) (op : Operator) (x y : D) : Option D := match op, x, y with
  | .Add, .int i, .int j => some (.int (i + j))
  | .Add, .str i, .str j => if i.length + j.length ≤ sizeLine then some (.str (i ++ j)) else none
  | .Sub, .int i, .int j => some (.int (i - j))
  | _, _, _ => none
mutual
noncomputable def evS (G : List (Str × D)) (Φ : CallF) : S → Sl → Hh → BM
  | .ex e => fun S h => bs (evE G Φ e S h) S fun _ h1 => some (.nx S, h1)
  | .set i e => fun S h => bs (vv (evE G Φ e) S h) S fun d h1 => some (.nx (S.set i (some d)), h1)
  | .asg t e => fun S h => bs (vv (evE G Φ e) S h) S fun d h1 => match bindT h1 (.tp t) d S with
      | some S1 => some (.nx S1, h1)
      | none => none
  | .aug i op e => fun S h => match getS S i with
      | none => none
      | some x => bs (evE G Φ e S h) S fun y h1 => match augD h1 op x y with
        | some d => some (.nx (S.set i (some d)), h1)
        | none => none
  | .ret e => fun S h => bs (evE G Φ e S h) S fun d h1 => some (.rt d, h1)
  | .retn => fun _ h => some (.rt .non, h)
  | .ife c a b => fun S h => bs (evT G Φ c S h) S fun k h1 => if k = true then evB G Φ a S h1 else evB G Φ b S h1
  | .fo t it b => fun S h => bs (evI G Φ it S h) S fun s h1 => foGo s.stay t (evB G Φ b) s.items S h1
  | .wh c b => fun S h => whGo (evT G Φ c) (evB G Φ b) 1000000 S h
  | .pas => fun S h => some (.nx S, h)
  | .brk => fun S h => some (.bk S, h)
  | .cnt => fun S h => some (.ct S, h)
noncomputable def evB (G : List (Str × D)) (Φ : CallF) : SL → Sl → Hh → BM
  | .nil => fun S h => some (.nx S, h)
  | .cons s l => fun S h => bq (evS G Φ s S h) fun S1 h1 => evB G Φ l S1 h1
end
/-- a def: its parameters' number, its names' number, its body -/
structure Df where
  ps : Nat
  ns : Nat
  body : SL
/-- calls, k deep -/
noncomputable def calls (G : List (Str × D)) (T : Str → Option Df) : Nat → CallF
  | 0 => fun _ _ _ => none
  | k + 1 => fun x ds h => match T x with
    | none => none
    | some f => if ds.length = f.ps then match evB G (calls G T k) f.body (ds.map some ++ List.replicate (f.ns - f.ps) none) h with
        | some (.nx _, h1) => some (.ok .non, h1)
        | some (.rt d, h1) => some (.ok d, h1)
        | some (.xx C fs _, h1) => some (.ex C fs, h1)
        | _ => none
      else none
/-! ### the statements' texts -/
def nocomp : Expr → Bool
  | .ListComp _ _ _ _ | .SetComp _ _ _ _ | .DictComp _ _ _ _ _ => false
  | _ => true
def notup : Expr → Bool
  | .Tuple _ _ _ => false
  | _ => true
def augOp : Operator → Bool
  | .Add | .Sub => true
  | _ => false
def setOk (Γ : Sc) (x : Str) (p : Pos) (ex : Expr) : Bool := match ex with
  | .ListComp _ _ scope pos => decide (Γ.sc.names.lookup x = some .local) && (p.line == pos.line) && !(scope.names.any fun (n, k) => n == x && (k == .local || k == .cell))
  | _ => nocomp ex
mutual
def chkS (K : Gs) (Γ : Sc) (s : S) (st : Stmt) : Bool := match s with
  | .ex e => match st with
    | .Expr x _ => nocomp x && chkE K Γ e x
    | _ => false
  | .set i e => match st with
    | .Assign [.Name y p] x _ => decide (Γ.N[i]? = some y) && stoB Γ y && setOk Γ y p x && chkE K Γ e x
    | _ => false
  | .asg t e => match st with
    | .Assign [.Tuple ts k p] x _ => notup x && chkGL Γ t ts && chkE K Γ e x
    | _ => false
  | .aug i op e => match st with
    | .AugAssign (.Name y _) o x _ => decide (Γ.N[i]? = some y) && stoB Γ y && decide (op = o) && augOp op && chkE K Γ e x
    | _ => false
  | .ret e => match st with
    | .Return (some x) _ => chkE K Γ e x
    | _ => false
  | .retn => match st with
    | .Return none _ => true
    | _ => false
  | .ife c a b => match st with
    | .If x as bs _ => chkE K Γ c x && chkB K Γ a as && chkB K Γ b bs
    | _ => false
  | .fo t it b => match st with
    | .For tg i body [] _ => chkI K Γ it tg i && chkG Γ t tg && chkB K Γ b body
    | _ => false
  | .wh c b => match st with
    | .While x body [] _ => chkE K Γ c x && chkB K Γ b body
    | _ => false
  | .pas => match st with
    | .Pass _ => true
    | _ => false
  | .brk => match st with
    | .Break _ => true
    | _ => false
  | .cnt => match st with
    | .Continue _ => true
    | _ => false
def chkB (K : Gs) (Γ : Sc) (l : SL) (sts : List Stmt) : Bool := match l with
  | .nil => sts.isEmpty
  | .cons s l => match sts with
    | st :: sts => chkS K Γ s st && chkB K Γ l sts
    | [] => false
end
end Z

/-! Z3: what the operators, the built-ins and the methods come to is what the layer's rules tell -/
namespace Z
open PySem L2

section
variable {X : Cx} {ρ : Nat → Addr} {h : Hh} {H H0 : Hp} {σ : St} {S : Sl} {v vx vy : V} {d x y : D} {xs ys : List D} {Q : VK}

theorem At.cell (A : At X ρ h H σ S) {n : Nat} {o : O} (e : h[n]? = some o) : RO (wd X ρ h H) (ρ n) o := A.rep.obj n o e
theorem ls_of (A : At X ρ h H σ S) (r : RE (wd X ρ h H) H0 v d) (e : lsD h d = some xs) : ∃ a vs, v = .ref a ∧ SqL X.K H a vs ∧ RL (wd X ρ h H) vs xs := by
  cases r with
  | new q _ _ rl =>
    have e' : some _ = some xs := e
    cases e'
    exact ⟨_, _, rfl, SqL.of q, rl⟩
  | held r =>
    cases r with
    | ref n hn =>
      simp only [lsD] at e
      split at e
      · rename_i ys q
        cases e
        cases A.cell q with
        | lst hh rl => exact ⟨_, _, rfl, SqL.of hh, rl⟩
      · cases e
    | frl q rl =>
      cases e
      exact ⟨_, _, rfl, q.sq, rl⟩
    | _ => cases e
theorem ml_of (A : At X ρ h H σ S) (r : RE (wd X ρ h H) H0 v d) (e : mlD h d = some xs) : ∃ a vs, v = .ref a ∧ H a = some (.lst vs) ∧ RL (wd X ρ h H) vs xs := by
  cases r with
  | new q _ _ rl =>
    have e' : some _ = some xs := e
    cases e'
    exact ⟨_, _, rfl, q, rl⟩
  | held r =>
    cases r with
    | ref n hn =>
      simp only [mlD] at e
      split at e
      · rename_i ys q
        cases e
        cases A.cell q with
        | lst hh rl => exact ⟨_, _, rfl, hh, rl⟩
      · cases e
    | _ => cases e
theorem sq_of (A : At X ρ h H σ S) (r : RE (wd X ρ h H) H0 v d) (e : sqD h d = some xs) : ∃ a vs, v = .ref a ∧ (SqL X.K H a vs ∨ SqT X.K H a vs) ∧ RL (wd X ρ h H) vs xs := by
  by_cases c : ∃ zs, d = .tup zs
  · obtain ⟨zs, rfl⟩ := c
    have e' : some zs = some xs := e
    cases e'
    cases r with
    | held r =>
      cases r with
      | tup q rl => exact ⟨_, _, rfl, .inr q, rl⟩
  · have e' : lsD h d = some xs := by
      rw [← e]
      cases d <;> first | rfl | exact absurd ⟨_, rfl⟩ c
    obtain ⟨a, vs, e1, q, rl⟩ := ls_of A r e'
    exact ⟨a, vs, e1, .inl q, rl⟩

theorem RE.int_inv {W : Wd} {i : Int} (r : RE W H0 v (.int i)) : v = .int i := by cases r with | held r => cases r; rfl
theorem RE.str_inv {W : Wd} {i : Str} (r : RE W H0 v (.str i)) : v = .str i := by cases r with | held r => cases r; rfl
theorem RE.bl_inv {W : Wd} {i : Bool} (r : RE W H0 v (.bl i)) : v = .bl i := by cases r with | held r => cases r; rfl
theorem RE.non_inv {W : Wd} (r : RE W H0 v .non) : v = .non := by cases r with | held r => cases r; rfl
theorem RE.ty_inv {W : Wd} {t : String} (r : RE W H0 v (.ty t)) : v = .ty t := by cases r with | held r => cases r; rfl
theorem RE.tup_inv {W : Wd} {xs : List D} (r : RE W H0 v (.tup xs)) : ∃ a vs, v = .ref a ∧ SqT W.K W.H a vs ∧ RL W vs xs := by
  cases r with
  | held r => cases r with | tup q rl => exact ⟨_, _, rfl, q, rl⟩
theorem RL.cons_inv {W : Wd} {vs : List V} {d : D} {ds : List D} (r : RL W vs (d :: ds)) : ∃ v ws, vs = v :: ws ∧ R W v d ∧ RL W ws ds := by
  cases r with | cons a b => exact ⟨_, _, rfl, a, b⟩
theorem RL.nil_inv {W : Wd} {vs : List V} (r : RL W vs []) : vs = [] := by cases r; rfl
theorem R.int_inv {W : Wd} {i : Int} (r : R W v (.int i)) : v = .int i := by cases r; rfl
theorem R.str_inv {W : Wd} {i : Str} (r : R W v (.str i)) : v = .str i := by cases r; rfl
theorem R.bl_inv {W : Wd} {i : Bool} (r : R W v (.bl i)) : v = .bl i := by cases r; rfl
theorem ints_of {W : Wd} : ∀ {xs : List D} {vs : List V} {ns : List Int}, RL W vs xs → intsD xs = some ns → vs = ns.map V.int
  | [], _, _, r, e => by cases e; exact r.nil_inv
  | .int i :: xs, _, _, r, e => by
    simp only [intsD, Option.map_eq_some_iff] at e
    obtain ⟨ms, e1, rfl⟩ := e
    obtain ⟨v, ws, rfl, rv, rl⟩ := r.cons_inv
    rw [rv.int_inv, ints_of rl e1]; rfl
  | .non :: _, _, _, _, e | .bl _ :: _, _, _, _, e | .str _ :: _, _, _, _, e | .tup _ :: _, _, _, _, e | .lst _ :: _, _, _, _, e | .frl _ :: _, _, _, _, e | .ref _ :: _, _, _, _, e | .ty _ :: _, _, _, _, e | .fn _ :: _, _, _, _, e | .cls _ :: _, _, _, _, e => by cases e
theorem strs_of {W : Wd} : ∀ {xs : List D} {vs : List V} {ns : List Str}, RL W vs xs → strsD xs = some ns → vs = ns.map V.str
  | [], _, _, r, e => by cases e; exact r.nil_inv
  | .str i :: xs, _, _, r, e => by
    simp only [strsD, Option.map_eq_some_iff] at e
    obtain ⟨ms, e1, rfl⟩ := e
    obtain ⟨v, ws, rfl, rv, rl⟩ := r.cons_inv
    rw [rv.str_inv, strs_of rl e1]; rfl
  | .non :: _, _, _, _, e | .bl _ :: _, _, _, _, e | .int _ :: _, _, _, _, e | .tup _ :: _, _, _, _, e | .lst _ :: _, _, _, _, e | .frl _ :: _, _, _, _, e | .ref _ :: _, _, _, _, e | .ty _ :: _, _, _, _, e | .fn _ :: _, _, _, _, e | .cls _ :: _, _, _, _, e => by cases e
theorem bls_of {W : Wd} : ∀ {xs : List D} {vs : List V} {ns : List Bool}, RL W vs xs → blsD xs = some ns → vs = ns.map V.bl
  | [], _, _, r, e => by cases e; exact r.nil_inv
  | .bl i :: xs, _, _, r, e => by
    simp only [blsD, Option.map_eq_some_iff] at e
    obtain ⟨ms, e1, rfl⟩ := e
    obtain ⟨v, ws, rfl, rv, rl⟩ := r.cons_inv
    rw [rv.bl_inv, bls_of rl e1]; rfl
  | .non :: _, _, _, _, e | .str _ :: _, _, _, _, e | .int _ :: _, _, _, _, e | .tup _ :: _, _, _, _, e | .lst _ :: _, _, _, _, e | .frl _ :: _, _, _, _, e | .ref _ :: _, _, _, _, e | .ty _ :: _, _, _, _, e | .fn _ :: _, _, _, _, e | .cls _ :: _, _, _, _, e => by cases e

/-! ### data compared -/
mutual
theorem py_of (A : At X ρ h H σ S) : ∀ (k : Nat) {v : V} {d : D} {p : PyData}, R (wd X ρ h H) v d → toPy h k d = some p → Dp X.K H v p
  | k, _, .non, _, r, e => by simp only [toPy] at e; cases e; cases r; exact .non
  | k, _, .bl b, _, r, e => by simp only [toPy] at e; cases e; cases r; exact .bl b
  | k, _, .int b, _, r, e => by simp only [toPy] at e; cases e; cases r; exact .int b
  | k, _, .str b, _, r, e => by simp only [toPy] at e; cases e; cases r; exact .str b
  | k + 1, _, .tup xs, _, r, e => by
    simp only [toPy, Option.map_eq_some_iff] at e
    obtain ⟨ps, e1, rfl⟩ := e
    cases r with
    | tup q rl => exact .tup q (pyL_of A k rl e1)
  | k + 1, _, .lst xs, _, r, e => r.notLst.elim
  | k + 1, _, .frl xs, _, r, e => by
    simp only [toPy, Option.map_eq_some_iff] at e
    obtain ⟨ps, e1, rfl⟩ := e
    cases r with
    | frl q rl => exact .lst q.sq (pyL_of A k rl e1)
  | k + 1, _, .ref n, _, r, e => by
    cases r with
    | ref n hn =>
      simp only [toPy] at e
      split at e
      · rename_i xs q
        simp only [Option.map_eq_some_iff] at e
        obtain ⟨ps, e1, rfl⟩ := e
        cases A.cell q with
        | lst hh rl => exact .lst (SqL.of hh) (pyL_of A k rl e1)
      · cases e
  | 0, _, .tup _, _, _, e => by simp [toPy] at e
  | 0, _, .lst _, _, _, e => by simp [toPy] at e
  | 0, _, .frl _, _, _, e => by simp [toPy] at e
  | 0, _, .ref _, _, _, e => by simp [toPy] at e
  | k, _, .ty _, _, _, e => by simp [toPy] at e
  | k, _, .fn _, _, _, e => by simp [toPy] at e
  | k, _, .cls _, _, _, e => by simp [toPy] at e
theorem pyL_of (A : At X ρ h H σ S) : ∀ (k : Nat) {vs : List V} {ds : List D} {ps : List PyData}, RL (wd X ρ h H) vs ds → toPyL h k ds = some ps → DpAll X.K H vs ps
  | k, _, [], _, r, e => by simp only [toPyL] at e; cases e; rw [r.nil_inv]; exact .nil
  | k + 1, _, d :: ds, _, r, e => by
    obtain ⟨v, ws, rfl, rv, rl⟩ := r.cons_inv
    simp only [toPyL] at e
    split at e
    · rename_i a b ea eb
      cases e
      exact .cons (py_of A k rv ea) (pyL_of A k rl eb)
    · cases e
  | 0, _, _ :: _, _, _, e => by simp [toPyL] at e
end
theorem pyE_of (A : At X ρ h H σ S) {k : Nat} {p : PyData} (r : RE (wd X ρ h H) H0 v d) (e : toPy h k d = some p) : Dp X.K H v p := by
  cases r with
  | held r => exact py_of A k r e
  | new q f n0 rl =>
    cases k with
    | zero => simp [toPy] at e
    | succ k =>
      simp only [toPy, Option.map_eq_some_iff] at e
      obtain ⟨ps, e1, rfl⟩ := e
      exact .lst (SqL.of q) (pyL_of A k rl e1)

/-! ### operators -/
/-- what two values come to: the layer's reading follows from ours -/
def Op2 (X : Cx) (f : Value → Value → Sem Value) (g : Hh → D → D → Option D) : Prop :=
  ∃ r : R2, OpR X f r ∧ ∀ ρ h H σ S H0 x y vx vy d Q, At X ρ h H σ S → (∀ a, H a = none → H0 a = none) → RE (wd X ρ h H) H0 vx x → RE (wd X ρ h H) H0 vy y → g h x y = some d →
    (∀ H' v, Go (wd X ρ h H) (wd X ρ h H') → At X ρ h H' σ S → RE (wd X ρ h H') H0 v d → Q v H') → r vx vy H Q
theorem Op2.or {f : Value → Value → Sem Value} {g g' g2 : Hh → D → D → Option D} (a : Op2 X f g) (b : Op2 X f g') (e : ∀ h x y d, g2 h x y = some d → g h x y = some d ∨ g' h x y = some d) : Op2 X f g2 := by
  obtain ⟨r, o, k⟩ := a
  obtain ⟨r', o', k'⟩ := b
  refine ⟨_, o.or o', fun ρ h H σ S H0 x y vx vy d Q A dm rx ry eg q => ?_⟩
  rcases e h x y d eg with z | z
  · exact .inl (k ρ h H σ S H0 x y vx vy d Q A dm rx ry z q)
  · exact .inr (k' ρ h H σ S H0 x y vx vy d Q A dm rx ry z q)
theorem Op2.none {f : Value → Value → Sem Value} {r : R2} (o : OpR X f r) : Op2 X f fun _ _ _ => none := ⟨r, o, fun _ _ _ _ _ _ _ _ _ _ _ _ _ _ _ _ e _ => by cases e⟩
/-- held values from values alone -/
theorem Op2.mk {f : Value → Value → Sem Value} {g : Hh → D → D → Option D} {r : R2} (o : OpR X f r)
    (k : ∀ ρ h H σ S H0 x y vx vy d Q, At X ρ h H σ S → (∀ a, H a = Option.none → H0 a = Option.none) → RE (wd X ρ h H) H0 vx x → RE (wd X ρ h H) H0 vy y → g h x y = some d →
    (∀ H' v, Go (wd X ρ h H) (wd X ρ h H') → At X ρ h H' σ S → RE (wd X ρ h H') H0 v d → Q v H') → r vx vy H Q) : Op2 X f g := ⟨r, o, k⟩
abbrev nowA (A : At X ρ h H σ S) {v : V} {d : D} {Q : VK} (k : ∀ H' v, Go (wd X ρ h H) (wd X ρ h H') → At X ρ h H' σ S → RE (wd X ρ h H') H0 v d → Q v H') (r : R (wd X ρ h H) v d) : Q v H := k H v (Go.refl _) A (.held r)

def gII (g : Int → Int → D) (C : Int → Int → Prop) [∀ i j, Decidable (C i j)] : Hh → D → D → Option D := fun _ x y => match x, y with
  | .int i, .int j => if C i j then some (g i j) else none
  | _, _ => none
theorem op2_I {f : Value → Value → Sem Value} {C : Int → Int → Prop} [∀ i j, Decidable (C i j)] {g : Int → Int → V} {g' : Int → Int → D} (hg : ∀ W i j, R W (g i j) (g' i j)) (o : OpR X f (rI C g)) : Op2 X f (gII g' C) := by
  refine ⟨_, o, fun ρ h H σ S H0 x y vx vy d Q A dm rx ry e k => ?_⟩
  cases x with
  | int i =>
    cases y with
    | int j =>
      simp only [gII] at e
      split at e
      · rename_i c
        cases e
        exact ⟨i, j, rx.int_inv, ry.int_inv, c, k _ _ (Go.refl _) A (.held (hg _ i j))⟩
      · cases e
    | _ => cases e
  | _ => cases e
theorem op2_I0 {f : Value → Value → Sem Value} {g : Int → Int → V} {g' : Int → Int → D} (hg : ∀ W i j, R W (g i j) (g' i j)) (o : OpR X f (rI0 g)) : Op2 X f (gII g' fun _ _ => True) := by
  refine ⟨_, o, fun ρ h H σ S H0 x y vx vy d Q A dm rx ry e k => ?_⟩
  cases x with
  | int i =>
    cases y with
    | int j =>
      cases e
      exact ⟨i, j, rx.int_inv, ry.int_inv, k _ _ (Go.refl _) A (.held (hg _ i j))⟩
    | _ => cases e
  | _ => cases e
def gSS (g : Str → Str → D) (C : Str → Str → Prop) [∀ i j, Decidable (C i j)] : Hh → D → D → Option D := fun _ x y => match x, y with
  | .str i, .str j => if C i j then some (g i j) else none
  | _, _ => none
theorem op2_S {f : Value → Value → Sem Value} {C : Str → Str → Prop} [∀ i j, Decidable (C i j)] {g : Str → Str → V} {g' : Str → Str → D} (hg : ∀ W i j, R W (g i j) (g' i j))
    (o : OpR X f (fun x y H Q => ∃ i j, x = .str i ∧ y = .str j ∧ C i j ∧ Q (g i j) H)) : Op2 X f (gSS g' C) := by
  refine ⟨_, o, fun ρ h H σ S H0 x y vx vy d Q A dm rx ry e k => ?_⟩
  cases x with
  | str i =>
    cases y with
    | str j =>
      simp only [gSS] at e
      split at e
      · rename_i c
        cases e
        exact ⟨i, j, rx.str_inv, ry.str_inv, c, k _ _ (Go.refl _) A (.held (hg _ i j))⟩
      · cases e
    | _ => cases e
  | _ => cases e
theorem op2_S0 {f : Value → Value → Sem Value} {g : Str → Str → V} {g' : Str → Str → D} (hg : ∀ W i j, R W (g i j) (g' i j))
    (o : OpR X f (fun x y H Q => ∃ i j, x = .str i ∧ y = .str j ∧ Q (g i j) H)) : Op2 X f (gSS g' fun _ _ => True) := by
  refine ⟨_, o, fun ρ h H σ S H0 x y vx vy d Q A dm rx ry e k => ?_⟩
  cases x with
  | str i =>
    cases y with
    | str j =>
      cases e
      exact ⟨i, j, rx.str_inv, ry.str_inv, k _ _ (Go.refl _) A (.held (hg _ i j))⟩
    | _ => cases e
  | _ => cases e
end
end Z

/-! Z4: the operators, one after another -/
namespace Z
open PySem L2 PyProof.Rows
section
variable {X : Cx}
theorem bd_gII {g : Int → Int → D} {C : Int → Int → Prop} [∀ i j, Decidable (C i j)] {h : Hh} {i j : Int} {d : D} (e : (if C i j then some (g i j) else none) = some d) : gII g C h (.int i) (.int j) = some d := e

/-- + of two tuples -/
theorem op2_catT : Op2 X (binaryOp .Add) (fun _ x y => match x, y with | .tup xs, .tup ys => if xs.length + ys.length ≤ sizeLine then some (.tup (xs ++ ys)) else none | _, _ => none) := by
  refine ⟨_, op_catA, fun ρ h H σ S H0 x y vx vy d Q A dm rx ry e k => ?_⟩
  cases x with
  | tup xs =>
    cases y with
    | tup ys =>
      simp only at e
      split at e
      · rename_i c
        cases e
        obtain ⟨a, vs, rfl, qa, ra⟩ := rx.tup_inv
        obtain ⟨b, ws, rfl, qb, rb⟩ := ry.tup_inv
        refine ⟨a, b, vs, ws, rfl, rfl, qa, qb, by rw [ra.length, rb.length]; exact c, fun z => ?_, fun n z => ?_, fun n m p hp => ?_⟩
        · subst z
          have : xs = [] := List.eq_nil_of_length_eq_zero ra.length.symm
          subst this
          exact k _ _ (Go.refl _) A (.held (.tup qb rb))
        · subst z
          have : ys = [] := List.eq_nil_of_length_eq_zero rb.length.symm
          subst this
          refine k _ _ (Go.refl _) A ?_
          rw [List.append_nil]
          exact .held (.tup qa ra)
        · obtain ⟨g, A', r'⟩ := A.newT hp (ra.append rb)
          exact k _ _ g A' (.held r')
      · cases e
    | _ => cases e
  | _ => cases e
/-- + of two lists -/
theorem op2_cat : Op2 X (binaryOp .Add) (fun h x y => match mlD h x, mlD h y with | some xs, some ys => if xs.length + ys.length ≤ sizeLine then some (.lst (xs ++ ys)) else none | _, _ => none) := by
  refine ⟨_, op_cat, fun ρ h H σ S H0 x y vx vy d Q A dm rx ry e k => ?_⟩
  simp only at e
  split at e
  · rename_i xs ys ex ey
    split at e
    · rename_i c
      cases e
      obtain ⟨a, vs, rfl, qa, ra⟩ := ml_of A rx ex
      obtain ⟨b, ws, rfl, qb, rb⟩ := ml_of A ry ey
      refine ⟨a, b, vs, ws, rfl, rfl, qa, qb, by rw [ra.length, rb.length]; exact c, fun p hp => ?_⟩
      obtain ⟨g, A', r'⟩ := A.new hp (dm _ hp) (ra.append rb)
      exact k _ _ g A' r'
    · cases e
  · cases e
theorem RL.rep {W : Wd} {vs : List V} {xs : List D} (r : RL W vs xs) : ∀ n : Nat, RL W (List.replicate n vs).flatten (List.replicate n xs).flatten
  | 0 => .nil
  | n + 1 => by
    rw [List.replicate_succ, List.replicate_succ, List.flatten_cons, List.flatten_cons]
    exact r.append (RL.rep r n)
theorem op2_rep : Op2 X (binaryOp .Mult) (fun h x y => match y with | .int k => (match mlD h x with | some xs => if -(2 ^ 63) ≤ k ∧ k < 2 ^ 63 ∧ xs.length * k.toNat ≤ sizeLine then some (.lst (List.replicate k.toNat xs).flatten) else none | none => none) | _ => none) := by
  refine ⟨_, op_rep, fun ρ h H σ S H0 x y vx vy d Q A dm rx ry e k => ?_⟩
  cases y with
  | int n =>
    simp only at e
    split at e
    · rename_i xs ex
      split at e
      · rename_i c
        cases e
        obtain ⟨a, vs, rfl, qa, ra⟩ := ml_of A rx ex
        refine ⟨a, n, vs, rfl, ry.int_inv, qa, c.1, c.2.1, by rw [ra.length]; exact c.2.2, fun p hp => ?_⟩
        obtain ⟨g, A', r'⟩ := A.new hp (dm _ hp) (ra.rep n.toNat)
        exact k _ _ g A' r'
      · cases e
    · cases e
  | _ => cases e

instance : ∀ i j, Decidable (CMul i j) := fun i j => by unfold CMul; infer_instance
instance : ∀ i j, Decidable (CDiv i j) := fun i j => by unfold CDiv; infer_instance
instance : ∀ i j, Decidable (CPow i j) := fun i j => by unfold CPow; infer_instance

theorem op2_add_ib : Op2 X (binaryOp .Add) (fun _ x y => match x, y with | .int i, .bl k => some (.int (i + (if k then 1 else 0))) | _, _ => none) := by
  refine ⟨_, op_add_ib, fun ρ h H σ S H0 x y vx vy d Q A dm rx ry e k => ?_⟩
  cases x with
  | int i =>
    cases y with
    | bl b =>
      cases e
      refine ⟨i, b, rx.int_inv, ry.bl_inv, ?_⟩
      have := k _ _ (Go.refl _) A (.held (.int (i + (if b = true then 1 else 0))))
      unfold b2i
      exact this
    | _ => cases e
  | _ => cases e
theorem Op2.nil {f : Value → Value → Sem Value} : Op2 X f fun _ _ _ => Option.none := Op2.none (r := fun _ _ _ _ => False) fun _ _ _ _ _ _ _ _ _ _ _ _ z => z.elim
theorem bin_ok (op : Operator) : Op2 X (binaryOp op) (fun h x y => binD h op x y) := by
  cases op with
  | Add =>
    refine Op2.or (op2_I0 (g' := fun i j => .int (i + j)) (fun _ _ _ => .int _) op_add) (Op2.or op2_add_ib (Op2.or (op2_S (g' := fun i j => .str (i ++ j)) (fun _ _ _ => .str _) op_add_str) (Op2.or op2_catT op2_cat (g2 := fun h x y => match x, y with | .tup xs, .tup ys => if xs.length + ys.length ≤ sizeLine then some (.tup (xs ++ ys)) else none | x, y => match mlD h x, mlD h y with
      | some xs, some ys => if xs.length + ys.length ≤ sizeLine then some (.lst (xs ++ ys)) else none
      | _, _ => none) ?_) (g2 := fun h x y => match x, y with | .str i, .str j => if i.length + j.length ≤ sizeLine then some (.str (i ++ j)) else none | x, y => match x, y with | .tup xs, .tup ys => if xs.length + ys.length ≤ sizeLine then some (.tup (xs ++ ys)) else none | x, y => match mlD h x, mlD h y with
      | some xs, some ys => if xs.length + ys.length ≤ sizeLine then some (.lst (xs ++ ys)) else none
      | _, _ => none) ?_) (g2 := fun h x y => match x, y with | .int i, .bl k => some (.int (i + (if k then 1 else 0))) | x, y => match x, y with | .str i, .str j => if i.length + j.length ≤ sizeLine then some (.str (i ++ j)) else none | x, y => match x, y with | .tup xs, .tup ys => if xs.length + ys.length ≤ sizeLine then some (.tup (xs ++ ys)) else none | x, y => match mlD h x, mlD h y with
      | some xs, some ys => if xs.length + ys.length ≤ sizeLine then some (.lst (xs ++ ys)) else none
      | _, _ => none) ?_) ?_
    all_goals intro h x y d e
    · cases x <;> first | exact .inr e | (cases y <;> first | exact .inl e | exact .inr e)
    · cases x <;> first | exact .inr e | (cases y <;> first | exact .inl e | exact .inr e)
    · cases x <;> first | exact .inr e | (cases y <;> first | exact .inl e | exact .inr e)
    · cases x <;> first | exact .inr e | (cases y <;> first | exact .inl e | exact .inr e)
  | Sub =>
    refine Op2.or (op2_I0 (g' := fun i j => .int (i - j)) (fun _ _ _ => .int _) op_sub) (Op2.none op_sub) fun h x y d e => ?_
    cases x <;> first | exact .inr e | (cases y <;> first | exact .inl e | exact .inr e)
  | Mult =>
    refine Op2.or (op2_I (C := CMul) (g' := fun i j => .int (i * j)) (fun _ _ _ => .int _) op_mul) op2_rep fun h x y d e => ?_
    cases x <;> cases y <;> first | exact .inl e | exact .inr e
  | FloorDiv =>
    refine Op2.or (op2_I (C := CDiv) (g' := fun i j => .int (i / j)) (fun _ _ _ => .int _) op_fdiv) (Op2.none op_fdiv) fun h x y d e => ?_
    cases x <;> first | exact .inr e | (cases y <;> first | exact .inl e | exact .inr e)
  | Mod =>
    refine Op2.or (op2_I (C := fun _ j => 0 < j) (g' := fun i j => .int (i % j)) (fun _ _ _ => .int _) op_mod) (Op2.none op_mod) fun h x y d e => ?_
    cases x <;> first | exact .inr e | (cases y <;> first | exact .inl e | exact .inr e)
  | Pow =>
    refine Op2.or (op2_I (C := CPow) (g' := fun i j => .int (i ^ j.toNat)) (fun _ _ _ => .int _) op_pow) (Op2.none op_pow) fun h x y d e => ?_
    cases x <;> first | exact .inr e | (cases y <;> first | exact .inl e | exact .inr e)
  | RShift =>
    refine Op2.or (op2_I (C := fun _ j => 0 ≤ j) (g' := fun i j => .int (i / 2 ^ j.toNat)) (fun _ _ _ => .int _) op_shr) (Op2.none op_shr) fun h x y d e => ?_
    cases x <;> first | exact .inr e | (cases y <;> first | exact .inl e | exact .inr e)
  | BitAnd =>
    refine Op2.or (op2_I0 (g' := fun i j => .int (Builtin.bitAnd i j)) (fun _ _ _ => .int _) op_and) (Op2.none op_and) fun h x y d e => ?_
    cases x <;> first | exact .inr e | (cases y <;> first | exact .inl e | exact .inr e)
  | _ => exact Op2.nil
theorem RE.go2 {ρ : Nat → Addr} {h : Hh} {H H0 H' : Hp} {σ : L2.St} {S : Sl} (A : At X ρ h H σ S) (g : Go (wd X ρ h H) (wd X ρ h H')) {v : V} {d : D} (r : RE (wd X ρ h H) H0 v d) : RE (wd X ρ h H') H0 v d := r.go g A.rep

theorem Op2.or3 {f : Value → Value → Sem Value} {g g' g3 g2 : Hh → D → D → Option D} (a : Op2 X f g) (b : Op2 X f g') (c : Op2 X f g3) (e : ∀ h x y d, g2 h x y = some d → g h x y = some d ∨ g' h x y = some d ∨ g3 h x y = some d) : Op2 X f g2 := by
  obtain ⟨r, o, k⟩ := a
  obtain ⟨r', o', k'⟩ := b
  obtain ⟨r3, o3, k3⟩ := c
  refine ⟨_, o.or (o'.or o3), fun ρ h H σ S H0 x y vx vy d Q A dm rx ry eg q => ?_⟩
  rcases e h x y d eg with z | z | z
  · exact .inl (k ρ h H σ S H0 x y vx vy d Q A dm rx ry z q)
  · exact .inr (.inl (k' ρ h H σ S H0 x y vx vy d Q A dm rx ry z q))
  · exact .inr (.inr (k3 ρ h H σ S H0 x y vx vy d Q A dm rx ry z q))
/-! ### comparisons -/
theorem op2_sc {f : Value → Value → Sem Value} {neg : Bool} (o : OpR X f (if neg then rNe else rEq)) : Op2 X f (fun _ x y => (scD x y).map fun b => .bl (if neg then !b else b)) := by
  refine ⟨_, o, fun ρ h H σ S H0 x y vx vy d Q A dm rx ry e k => ?_⟩
  simp only [Option.map_eq_some_iff] at e
  obtain ⟨b, e, rfl⟩ := e
  have fin : ∀ {b' : Bool}, b' = b → scal vx vy = true → decide (vx = vy) = b' → (if neg then rNe else rEq) vx vy H Q := fun {b'} eb s de => by
    have q := k _ _ (Go.refl _) A (.held (.bl (if neg then !b else b)))
    cases neg with
    | true => exact ⟨s, by rw [de, eb]; exact q⟩
    | false => exact ⟨s, by rw [de, eb]; exact q⟩
  cases x <;> cases y <;> simp only [scD, Option.some.injEq, reduceCtorEq] at e
  all_goals first
    | (have ex := rx.non_inv; have ey := ry.non_inv; subst ex; subst ey; exact fin (b' := true) e rfl (by decide))
    | (have ex := rx.int_inv; have ey := ry.int_inv; subst ex; subst ey; refine fin (b' := decide (_ = _)) e rfl ?_; simp)
    | (have ex := rx.bl_inv; have ey := ry.bl_inv; subst ex; subst ey; refine fin (b' := decide (_ = _)) e rfl ?_; simp)
    | (have ex := rx.str_inv; have ey := ry.str_inv; subst ex; subst ey; refine fin (b' := decide (_ = _)) e rfl ?_; simp)
    | (have ex := rx.non_inv; have ey := ry.int_inv; subst ex; subst ey; exact fin (b' := false) e rfl (by simp))
    | (have ex := rx.non_inv; have ey := ry.bl_inv; subst ex; subst ey; exact fin (b' := false) e rfl (by simp))
    | (have ex := rx.non_inv; have ey := ry.str_inv; subst ex; subst ey; exact fin (b' := false) e rfl (by simp))
    | (have ex := rx.int_inv; have ey := ry.non_inv; subst ex; subst ey; exact fin (b' := false) e rfl (by simp))
    | (have ex := rx.bl_inv; have ey := ry.non_inv; subst ex; subst ey; exact fin (b' := false) e rfl (by simp))
    | (have ex := rx.str_inv; have ey := ry.non_inv; subst ex; subst ey; exact fin (b' := false) e rfl (by simp))
    | (have ex := rx.int_inv; have ey := ry.str_inv; subst ex; subst ey; exact fin (b' := false) e rfl (by simp))
    | (have ex := rx.str_inv; have ey := ry.int_inv; subst ex; subst ey; exact fin (b' := false) e rfl (by simp))
    | (have ex := rx.bl_inv; have ey := ry.str_inv; subst ex; subst ey; exact fin (b' := false) e rfl (by simp))
    | (have ex := rx.str_inv; have ey := ry.bl_inv; subst ex; subst ey; exact fin (b' := false) e rfl (by simp))
theorem op2_eqP (hu : X.A.units + 64 < cLine) : Op2 X (compareOp .Eq) (fun h x y => match toPy h 100000 x, toPy h 100000 y with
    | some a, some b => if SeqAt.shaped a = true ∧ SeqAt.shaped b = true then some (.bl (PyData.eqv a b)) else none
    | _, _ => none) := by
  refine ⟨_, op_eqD hu, fun ρ h H σ S H0 x y vx vy d Q A dm rx ry e k => ?_⟩
  simp only at e
  split at e
  · rename_i a b ea eb
    split at e
    · rename_i c
      cases e
      exact ⟨a, b, pyE_of A rx ea, pyE_of A ry eb, c.1, c.2, k _ _ (Go.refl _) A (.held (.bl _))⟩
    · cases e
  · cases e
theorem op2_neP (hu : X.A.units + 64 < cLine) : Op2 X (compareOp .NotEq) (fun h x y => match toPy h 100000 x, toPy h 100000 y with
    | some a, some b => if SeqAt.shaped a = true ∧ SeqAt.shaped b = true then some (.bl (!PyData.eqv a b)) else none
    | _, _ => none) := by
  refine ⟨_, op_neD hu, fun ρ h H σ S H0 x y vx vy d Q A dm rx ry e k => ?_⟩
  simp only at e
  split at e
  · rename_i a b ea eb
    split at e
    · rename_i c
      cases e
      exact ⟨a, b, pyE_of A rx ea, pyE_of A ry eb, c.1, c.2, k _ _ (Go.refl _) A (.held (.bl _))⟩
    · cases e
  · cases e
theorem fl_of {W : Wd} {v : V} {d : D} {w : V} (r : R W v d) (e : flD d = some w) : v = w := by
  cases r <;> first | (cases e; rfl) | cases e
theorem flE_of {W : Wd} {H0 : Hp} {v : V} {d : D} {w : V} (r : RE W H0 v d) (e : flD d = some w) : v = w := by
  cases r with
  | held r => exact fl_of r e
  | new => cases e
theorem flL_of {W : Wd} : ∀ {vs : List V} {ds : List D} {ws : List V}, RL W vs ds → flL ds = some ws → vs = ws
  | _, [], _, r, e => by cases e; exact r.nil_inv
  | _, d :: ds, _, r, e => by
    obtain ⟨v, us, rfl, rv, rl⟩ := r.cons_inv
    simp only [flL] at e
    split at e
    · rename_i w ws e1 e2
      cases e
      rw [fl_of rv e1, flL_of rl e2]
    · cases e
def inFl (h : Hh) (x y : D) : Option Bool := match sqD h y with
  | none => none
  | some ys => match flD x, flL ys with
    | some v, some vs => if flatV v = true ∧ vs.all flatV = true then some (inV v vs) else none
    | _, _ => none
def inPy (h : Hh) (x y : D) : Option Bool := match lsD h y with
  | none => none
  | some ys => match toPy h 100000 x, toPyL h 100000 ys with
    | some a, some bs => if SeqAt.shaped a = true ∧ SeqAt.shaped (.list bs) = true then some (bs.any fun z => PyData.eqv z a) else none
    | _, _ => none
def inSt (x y : D) : Option Bool := match x, y with
  | .str i, .str j => some (!(Builtin.Str.occurrences j i 0 j.length 1).isEmpty)
  | _, _ => none
theorem inD_cases {h : Hh} {x y : D} {b : Bool} (e : inD h x y = some b) : inSt x y = some b ∨ inFl h x y = some b ∨ inPy h x y = some b := by
  have sec : ∀ {x y : D}, (match sqD h y with
    | none => none
    | some ys => match flD x, flL ys with
      | some v, some vs => if flatV v = true ∧ vs.all flatV = true then some (inV v vs) else none
      | _, _ => match lsD h y with
        | none => none
        | some _ => match toPy h 100000 x, toPyL h 100000 ys with
          | some a, some bs => if SeqAt.shaped a = true ∧ SeqAt.shaped (.list bs) = true then some (bs.any fun z => PyData.eqv z a) else none
          | _, _ => none) = some b → inFl h x y = some b ∨ inPy h x y = some b := fun {x y} e => by
    split at e
    · cases e
    · rename_i ys es
      split at e
      · rename_i v vs e1 e2
        refine .inl ?_
        unfold inFl
        simp only [es, e1, e2]
        exact e
      · split at e
        · cases e
        · rename_i zs ez
          refine .inr ?_
          have : zs = ys := by
            have : sqD h y = some zs := by
              cases y <;> first | exact ez | cases ez
            rw [es] at this
            exact (Option.some.inj this).symm
          subst this
          unfold inPy
          simp only [ez]
          exact e
  cases x <;> cases y <;> first | exact .inl e | exact .inr (sec e)
theorem op2_inS {f : Value → Value → Sem Value} {neg : Bool} (o : OpR X f (fun x y H Q => ∃ i j, x = .str i ∧ y = .str j ∧ Q (.bl (if neg then !(!(Builtin.Str.occurrences j i 0 j.length 1).isEmpty) else (!(Builtin.Str.occurrences j i 0 j.length 1).isEmpty))) H)) :
    Op2 X f (fun _ x y => (inSt x y).map fun b => .bl (if neg then !b else b)) := by
  refine ⟨_, o, fun ρ h H σ S H0 x y vx vy d Q A dm rx ry e k => ?_⟩
  simp only [Option.map_eq_some_iff] at e
  obtain ⟨b, e, rfl⟩ := e
  cases x with
  | str i =>
    cases y with
    | str j =>
      cases e
      exact ⟨i, j, rx.str_inv, ry.str_inv, k _ _ (Go.refl _) A (.held (.bl _))⟩
    | _ => cases e
  | _ => cases e
theorem op2_inF {f : Value → Value → Sem Value} {neg : Bool} (o : OpR X f (rIn X.K neg)) : Op2 X f (fun h x y => (inFl h x y).map fun b => .bl (if neg then !b else b)) := by
  refine ⟨_, o, fun ρ h H σ S H0 x y vx vy d Q A dm rx ry e k => ?_⟩
  simp only [Option.map_eq_some_iff] at e
  obtain ⟨b, e, rfl⟩ := e
  unfold inFl at e
  split at e
  · cases e
  · rename_i ys es
    split at e
    · rename_i v vs e1 e2
      split at e
      · rename_i c
        cases e
        obtain ⟨a, ws, rfl, q, rl⟩ := sq_of A ry es
        have := flL_of rl e2
        subst this
        have := flE_of rx e1
        subst this
        exact ⟨a, ws, rfl, q, c.1, c.2, k _ _ (Go.refl _) A (.held (.bl _))⟩
      · cases e
    · cases e
theorem op2_inP (hu : X.A.units + 65 < cLine) : Op2 X (compareOp .In) (fun h x y => (inPy h x y).map fun b => .bl (if false then !b else b)) := by
  refine ⟨_, op_inD hu, fun ρ h H σ S H0 x y vx vy d Q A dm rx ry e k => ?_⟩
  simp only [Option.map_eq_some_iff] at e
  obtain ⟨b, e, rfl⟩ := e
  unfold inPy at e
  split at e
  · cases e
  · rename_i ys es
    split at e
    · rename_i p bs e1 e2
      split at e
      · rename_i c
        cases e
        obtain ⟨a, ws, rfl, q, rl⟩ := ls_of A ry es
        exact ⟨p, bs, pyE_of A rx e1, .lst q (pyL_of A _ rl e2), c.1, c.2, k _ _ (Go.refl _) A (.held (.bl _))⟩
      · cases e
    · cases e
theorem op2_notInP (hu : X.A.units + 65 < cLine) : Op2 X (compareOp .NotIn) (fun h x y => (inPy h x y).map fun b => .bl (if true then !b else b)) := by
  refine ⟨_, op_notInD hu, fun ρ h H σ S H0 x y vx vy d Q A dm rx ry e k => ?_⟩
  simp only [Option.map_eq_some_iff] at e
  obtain ⟨b, e, rfl⟩ := e
  unfold inPy at e
  split at e
  · cases e
  · rename_i ys es
    split at e
    · rename_i p bs e1 e2
      split at e
      · rename_i c
        cases e
        obtain ⟨a, ws, rfl, q, rl⟩ := ls_of A ry es
        exact ⟨p, bs, pyE_of A rx e1, .lst q (pyL_of A _ rl e2), c.1, c.2, k _ _ (Go.refl _) A (.held (.bl _))⟩
      · cases e
    · cases e
theorem op2_isB {f : Value → Value → Sem Value} {neg : Bool} (o : OpR X f (fun x y H Q => ∃ a b : Bool, x = .bl a ∧ y = .bl b ∧ Q (.bl (if neg then !decide (a = b) else decide (a = b))) H)) :
    Op2 X f (fun _ x y => match x, y with | .bl i, .bl j => some (.bl (if neg then !decide (i = j) else decide (i = j))) | _, _ => none) := by
  refine ⟨_, o, fun ρ h H σ S H0 x y vx vy d Q A dm rx ry e k => ?_⟩
  cases x with
  | bl i =>
    cases y with
    | bl j =>
      cases e
      exact ⟨i, j, rx.bl_inv, ry.bl_inv, k _ _ (Go.refl _) A (.held (.bl _))⟩
    | _ => cases e
  | _ => cases e
/-- whether it is None -/
def isN : D → Option Bool
  | .non => some true
  | .bl _ => some false | .int _ => some false | .str _ => some false | .tup _ => some false | .lst _ => some false | .ref _ => some false
  | _ => none
theorem op2_isN {f : Value → Value → Sem Value} {neg : Bool} (o : OpR X f (fun x y H Q => y = .non ∧ Q (.bl (if neg then !decide (x = .non) else decide (x = .non))) H)) :
    Op2 X f (fun _ x y => match y with | .non => (isN x).map fun b => .bl (if neg then !b else b) | _ => none) := by
  refine ⟨_, o, fun ρ h H σ S H0 x y vx vy d Q A dm rx ry e k => ?_⟩
  cases y with
  | non =>
    simp only [Option.map_eq_some_iff] at e
    obtain ⟨b, e, rfl⟩ := e
    refine ⟨ry.non_inv, ?_⟩
    have q := k _ _ (Go.refl _) A (.held (.bl (if neg then !b else b)))
    have : decide (vx = V.non) = b := by
      cases rx with
      | new => cases e; simp
      | held rx => cases rx <;> first | (cases e; simp) | cases e
    rw [this]
    exact q
  | _ => cases e
theorem cmp_ok (hu : X.A.units + 65 < cLine) (op : CmpOp) : Op2 X (compareOp op) (fun h x y => cmpD h op x y) := by
  cases op with
  | Eq =>
    refine Op2.or (op2_sc (neg := false) op_eq) (op2_eqP (by omega)) fun h x y d e => ?_
    simp only [cmpD, eqD, Option.map_eq_some_iff] at e
    obtain ⟨b, e, rfl⟩ := e
    split at e
    · rename_i b' eb
      cases e
      exact .inl (by rw [eb]; rfl)
    · refine .inr ?_
      split at e
      · rename_i a b ea eb
        try simp only [ea, eb]
        split at e
        · rename_i c
          cases e
          first | rw [if_pos c] | rfl
        · cases e
      · cases e
  | NotEq =>
    refine Op2.or (op2_sc (neg := true) op_ne) (op2_neP (by omega)) fun h x y d e => ?_
    simp only [cmpD, eqD, Option.map_eq_some_iff] at e
    obtain ⟨b, e, rfl⟩ := e
    split at e
    · rename_i b' eb
      cases e
      exact .inl (by rw [eb]; rfl)
    · refine .inr ?_
      split at e
      · rename_i a b ea eb
        try simp only [ea, eb]
        split at e
        · rename_i c
          cases e
          first | rw [if_pos c] | rfl
        · cases e
      · cases e
  | Lt =>
    refine Op2.or (op2_I0 (g' := fun i j => .bl (decide (i < j))) (fun _ _ _ => .bl _) op_lt) (op2_S0 (g' := fun i j => .bl (decide (i.cps.toList < j.cps.toList))) (fun _ _ _ => .bl _) op_lt_str) fun h x y d e => ?_
    cases x <;> first | exact .inr e | (cases y <;> first | exact .inl e | exact .inr e)
  | LtE =>
    refine Op2.or (op2_I0 (g' := fun i j => .bl (decide (i ≤ j))) (fun _ _ _ => .bl _) op_le) (op2_S0 (g' := fun i j => .bl (!decide (j.cps.toList < i.cps.toList))) (fun _ _ _ => .bl _) op_le_str) fun h x y d e => ?_
    cases x <;> first | exact .inr e | (cases y <;> first | exact .inl e | exact .inr e)
  | Gt =>
    refine Op2.or (op2_I0 (g' := fun i j => .bl (decide (j < i))) (fun _ _ _ => .bl _) op_gt) (op2_S0 (g' := fun i j => .bl (decide (j.cps.toList < i.cps.toList))) (fun _ _ _ => .bl _) op_gt_str) fun h x y d e => ?_
    cases x <;> first | exact .inr e | (cases y <;> first | exact .inl e | exact .inr e)
  | GtE =>
    refine Op2.or (op2_I0 (g' := fun i j => .bl (decide (j ≤ i))) (fun _ _ _ => .bl _) op_ge) (op2_S0 (g' := fun i j => .bl (!decide (i.cps.toList < j.cps.toList))) (fun _ _ _ => .bl _) op_ge_str) fun h x y d e => ?_
    cases x <;> first | exact .inr e | (cases y <;> first | exact .inl e | exact .inr e)
  | Is =>
    refine Op2.or (op2_isB (neg := false) op_isBl) (op2_isN (neg := false) op_isN) fun h x y d e => ?_
    cases x <;> cases y <;> first | exact .inl e | exact .inr e | cases e
  | IsNot =>
    refine Op2.or (op2_isB (neg := true) op_notBl) (op2_isN (neg := true) op_notN) fun h x y d e => ?_
    cases x <;> cases y <;> first | exact .inl e | exact .inr e | cases e
  | In =>
    refine Op2.or3 (op2_inS (neg := false) op_in_str) (op2_inF (neg := false) op_in_seq) (op2_inP hu) fun h x y d e => ?_
    simp only [cmpD, Option.map_eq_some_iff] at e
    obtain ⟨b, e, rfl⟩ := e
    rcases inD_cases e with z | z | z
    · exact .inl (by rw [z]; rfl)
    · exact .inr (.inl (by rw [z]; rfl))
    · exact .inr (.inr (by rw [z]; rfl))
  | NotIn =>
    refine Op2.or3 (op2_inS (neg := true) op_notin_str) (op2_inF (neg := true) op_notIn_seq) (op2_notInP hu) fun h x y d e => ?_
    simp only [cmpD, Option.map_eq_some_iff] at e
    obtain ⟨b, e, rfl⟩ := e
    rcases inD_cases e with z | z | z
    · exact .inl (by rw [z]; rfl)
    · exact .inr (.inl (by rw [z]; rfl))
    · exact .inr (.inr (by rw [z]; rfl))
end
end Z

/-! Z5: signs, subscripts, truth, built-ins, methods -/
namespace Z
open PySem L2 PyProof.Rows
section
variable {X : Cx} {ρ : Nat → Addr} {h : Hh} {H H0 : Hp} {σ : L2.St} {S : Sl} {v vx vy : V} {d x y : D} {xs ys : List D} {Q : VK}

theorem neg_ok (r : RE (wd X ρ h H) H0 v x) (e : negD x = some d) (A : At X ρ h H σ S)
    (k : ∀ H' v, Go (wd X ρ h H) (wd X ρ h H') → At X ρ h H' σ S → RE (wd X ρ h H') H0 v d → Q v H') : (rU fun i => .int (-i)) v H Q := by
  cases x with
  | int i =>
    cases e
    exact ⟨i, r.int_inv, k _ _ (Go.refl _) A (.held (.int _))⟩
  | _ => cases e

theorem atI_rl {W : Wd} {vs : List V} {xs : List D} {i : Int} {d : D} (r : RL W vs xs) (e : atI xs i = some d) : ∃ v, atI vs i = some v ∧ R W v d := by
  unfold atI at e ⊢
  rw [r.length]
  cases q : ixN xs.length i with
  | none => rw [q] at e; cases e
  | some j =>
    rw [q] at e
    obtain ⟨v, e1, r1⟩ := r.get j e
    exact ⟨v, e1, r1⟩
theorem ix_ok : ∃ r : R2, IxR X r ∧ ∀ ρ h H σ S H0 x y vx vy d Q, At X ρ h H σ S → RE (wd X ρ h H) H0 vx x → RE (wd X ρ h H) H0 vy y → ixD h x y = some d →
    (∀ H' v, Go (wd X ρ h H) (wd X ρ h H') → At X ρ h H' σ S → RE (wd X ρ h H') H0 v d → Q v H') → r vx vy H Q := by
  refine ⟨_, ix_seq, fun ρ h H σ S H0 x y vx vy d Q A rx ry e k => ?_⟩
  cases y with
  | int i =>
    by_cases c : ∃ z, x = .str z
    · obtain ⟨z, rfl⟩ := c
      simp only [ixD] at e
      split at e
      · rename_i hz
        simp only [Option.map_eq_some_iff] at e
        obtain ⟨c, e1, rfl⟩ := e
        exact .inr (.inr ⟨z, i, c, rx.str_inv, ry.int_inv, hz, e1, k _ _ (Go.refl _) A (.held (.str _))⟩)
      · cases e
    · have e' : (match sqD h x with | some xs => atI xs i | none => none) = some d := by
        rw [← e]
        cases x <;> first | rfl | exact absurd ⟨_, rfl⟩ c
      split at e'
      · rename_i xs es
        obtain ⟨a, vs, rfl, q, rl⟩ := sq_of A rx es
        obtain ⟨v, e2, r2⟩ := atI_rl rl e'
        rcases q with q | q
        · exact .inl ⟨a, vs, i, v, rfl, ry.int_inv, q, e2, k _ _ (Go.refl _) A (.held r2)⟩
        · exact .inr (.inl ⟨a, vs, i, v, rfl, ry.int_inv, q, e2, k _ _ (Go.refl _) A (.held r2)⟩)
      · cases e'
  | _ => cases x <;> cases e

theorem cut_rl {W : Wd} {vs : List V} {xs : List D} (r : RL W vs xs) (lo hi : Option Int) : RL W (cutV vs lo hi) (cutD xs lo hi) := by
  unfold cutV cutD
  rw [r.length]
  exact (r.drop _).take _
theorem sl_ok : ∃ r, SlR X r ∧ ∀ ρ h H σ S H0 x vx lo hi d Q, At X ρ h H σ S → (∀ a, H a = none → H0 a = none) → RE (wd X ρ h H) H0 vx x → slcD h x lo hi = some d →
    (∀ H' v, Go (wd X ρ h H) (wd X ρ h H') → At X ρ h H' σ S → RE (wd X ρ h H') H0 v d → Q v H') → r vx lo hi H Q := by
  refine ⟨_, sl_list.or (sl_tupA.or sl_str), fun ρ h H σ S H0 x vx lo hi d Q A dm rx e k => ?_⟩
  by_cases c : (∃ z, x = .str z) ∨ ∃ zs, x = .tup zs
  · rcases c with ⟨z, rfl⟩ | ⟨zs, rfl⟩
    · simp only [slcD] at e
      split at e
      · rename_i hz
        cases e
        exact .inr (.inr ⟨z, rx.str_inv, hz, k _ _ (Go.refl _) A (.held (.str _))⟩)
      · cases e
    · cases e
      obtain ⟨a, vs, rfl, q, rl⟩ := rx.tup_inv
      refine .inr (.inl ⟨a, vs, rfl, q, fun z => ?_, fun z p hp => ?_⟩)
      · refine k _ _ (Go.refl _) A (.held ?_)
        have e1 : cutD zs lo hi = zs := by
          unfold cutD
          rw [← rl.length]
          have z1 := z.1
          have z2 := z.2
          rw [z1, z2]
          rw [rl.length]
          simp
        rw [e1]
        exact .tup q rl
      · obtain ⟨g, A', r'⟩ := A.newT hp (cut_rl rl lo hi)
        exact k _ _ g A' (.held r')
  · have e' : (lsD h x).map (fun xs => D.lst (cutD xs lo hi)) = some d := by
      rw [← e]
      cases x <;> first | rfl | exact absurd (.inl ⟨_, rfl⟩) c | exact absurd (.inr ⟨_, rfl⟩) c
    simp only [Option.map_eq_some_iff] at e'
    obtain ⟨xs, es, rfl⟩ := e'
    obtain ⟨a, vs, rfl, q, rl⟩ := ls_of A rx es
    refine .inl ⟨a, vs, rfl, q, fun p hp => ?_⟩
    obtain ⟨g, A', r'⟩ := A.new hp (dm _ hp) (cut_rl rl lo hi)
    exact k _ _ g A' r'

theorem isEmpty_rl {W : Wd} {vs : List V} {xs : List D} (r : RL W vs xs) : vs.isEmpty = xs.isEmpty := by cases r <;> rfl
theorem tru_of (A : At X ρ h H σ S) (r : RE (wd X ρ h H) H0 v x) {b : Bool} (e : truD h x = some b) : TruV X.K v H b := by
  cases x with
  | non => cases e; rw [r.non_inv]; exact rfl
  | bl k => cases e; rw [r.bl_inv]; exact rfl
  | int i => cases e; rw [r.int_inv]; exact rfl
  | str z =>
    simp only [truD] at e
    split at e
    · rename_i hz
      cases e
      rw [r.str_inv]
      exact ⟨hz, rfl⟩
    · cases e
  | tup zs =>
    cases e
    obtain ⟨a, vs, rfl, q, rl⟩ := r.tup_inv
    exact .inr (.inl ⟨vs, q, by rw [isEmpty_rl rl]⟩)
  | lst zs =>
    cases e
    obtain ⟨a, vs, rfl, q, rl⟩ := ls_of A r (show lsD h (.lst zs) = some zs from rfl)
    exact .inl ⟨vs, q, by rw [isEmpty_rl rl]⟩
  | frl zs =>
    cases e
    obtain ⟨a, vs, rfl, q, rl⟩ := ls_of A r (show lsD h (.frl zs) = some zs from rfl)
    exact .inl ⟨vs, q, by rw [isEmpty_rl rl]⟩
  | ref n =>
    simp only [truD] at e
    cases r with
    | held r =>
      cases r with
      | ref n hn =>
        split at e
        · rename_i zs q
          cases e
          cases A.cell q with
          | lst hh rl => exact .inl ⟨_, SqL.of hh, by rw [isEmpty_rl rl]⟩
        · rename_i kvs q
          cases e
          cases A.cell q with
          | dic hh ek rl =>
            refine .inr (.inr ⟨_, hh, ?_⟩)
            have := congrArg List.isEmpty ek
            simpa using this.symm
        · cases e
  | ty _ => cases e
  | fn _ => cases e
  | cls _ => cases e

/-! ### built-ins of one argument -/
/-- f is called with values that come to d -/
def Cal (X : Cx) (f : Value) (g : Hh → List D → Option D) : Prop := ∃ r, CallR X f r ∧ ∀ ρ h H σ S H0 ds vs d Q, At X ρ h H σ S → (∀ a, H a = none → H0 a = none) → Paired (fun v d => RE (wd X ρ h H) H0 v d) vs ds → g h ds = some d →
    (∀ H' v, Go (wd X ρ h H) (wd X ρ h H') → At X ρ h H' σ S → RE (wd X ρ h H') H0 v d → Q v H') → r vs H Q
theorem pr1 {F : V → D → Prop} {vs : List V} {d : D} (p : Paired F vs [d]) : ∃ v, vs = [v] ∧ F v d := by
  cases p with | cons a t => cases t; exact ⟨_, rfl, a⟩
theorem pr2 {F : V → D → Prop} {vs : List V} {d d' : D} (p : Paired F vs [d, d']) : ∃ v v', vs = [v, v'] ∧ F v d ∧ F v' d' := by
  cases p with | cons a t => cases t with | cons b t => cases t; exact ⟨_, _, rfl, a, b⟩
theorem cal_len : Cal X (.builtin "len") lenD := by
  refine ⟨_, call_len_str.or call_len_seq, fun ρ h H σ S H0 ds vs d Q A dm rr e k => ?_⟩
  match ds, rr, e with
  | [x], rr, e =>
    obtain ⟨v, rfl, r⟩ := pr1 rr
    by_cases c : ∃ z, x = .str z
    · obtain ⟨z, rfl⟩ := c
      simp only [lenD] at e
      split at e
      · rename_i hz
        cases e
        exact .inl ⟨z, by rw [r.str_inv], hz, k _ _ (Go.refl _) A (.held (.int _))⟩
      · cases e
    · have e' : (sqD h x).map (fun xs => D.int xs.length) = some d := by
        rw [← e]
        cases x <;> first | rfl | exact absurd ⟨_, rfl⟩ c
      simp only [Option.map_eq_some_iff] at e'
      obtain ⟨xs, es, rfl⟩ := e'
      obtain ⟨a, ws, rfl, q, rl⟩ := sq_of A r es
      refine .inr ⟨a, ws, rfl, q, ?_⟩
      rw [rl.length]
      exact k _ _ (Go.refl _) A (.held (.int _))
  | _ :: _ :: _, _, e => simp [lenD] at e
theorem cal_sum (hc : X.calm = true) : Cal X (.builtin "sum") (overL fun xs => (intsD xs).map fun ns => .int ns.sum) := by
  refine ⟨_, cr_sum hc, fun ρ h H σ S H0 ds vs d Q A dm rr e k => ?_⟩
  match ds, rr, e with
  | [x], rr, e =>
    obtain ⟨v, rfl, r⟩ := pr1 rr
    simp only [overL] at e
    split at e
    · rename_i xs es
      simp only [Option.map_eq_some_iff] at e
      obtain ⟨ns, e1, rfl⟩ := e
      obtain ⟨a, ws, rfl, q, rl⟩ := ls_of A r es
      have := ints_of rl e1
      subst this
      exact ⟨a, ns, rfl, q, k _ _ (Go.refl _) A (.held (.int _))⟩
    · cases e
theorem cal_any (hc : X.calm = true) : Cal X (.builtin "any") (overL fun xs => (blsD xs).map fun ns => .bl (ns.any id)) := by
  refine ⟨_, cr_any hc, fun ρ h H σ S H0 ds vs d Q A dm rr e k => ?_⟩
  match ds, rr, e with
  | [x], rr, e =>
    obtain ⟨v, rfl, r⟩ := pr1 rr
    simp only [overL] at e
    split at e
    · rename_i xs es
      simp only [Option.map_eq_some_iff] at e
      obtain ⟨ns, e1, rfl⟩ := e
      obtain ⟨a, ws, rfl, q, rl⟩ := ls_of A r es
      have := bls_of rl e1
      subst this
      exact ⟨a, ns, rfl, q, k _ _ (Go.refl _) A (.held (.bl _))⟩
    · cases e
theorem cal_all (hc : X.calm = true) : Cal X (.builtin "all") (overL fun xs => (blsD xs).map fun ns => .bl (ns.all id)) := by
  refine ⟨_, cr_all hc, fun ρ h H σ S H0 ds vs d Q A dm rr e k => ?_⟩
  match ds, rr, e with
  | [x], rr, e =>
    obtain ⟨v, rfl, r⟩ := pr1 rr
    simp only [overL] at e
    split at e
    · rename_i xs es
      simp only [Option.map_eq_some_iff] at e
      obtain ⟨ns, e1, rfl⟩ := e
      obtain ⟨a, ws, rfl, q, rl⟩ := ls_of A r es
      have := bls_of rl e1
      subst this
      exact ⟨a, ns, rfl, q, k _ _ (Go.refl _) A (.held (.bl _))⟩
    · cases e
theorem cal_str : Cal X (.type "str") (fun _ ds => strD ds) := by
  refine ⟨_, call_str_int, fun ρ h H σ S H0 ds vs d Q A dm rr e k => ?_⟩
  match ds, rr, e with
  | [.int i], rr, e =>
    obtain ⟨v, rfl, r⟩ := pr1 rr
    simp only [strD] at e
    split at e
    · rename_i hz
      cases e
      exact ⟨i, by rw [r.int_inv], hz, k _ _ (Go.refl _) A (.held (.str _))⟩
    · cases e
theorem cal_int : Cal X (.type "int") (fun _ ds => intD ds) := by
  refine ⟨_, call_int1, fun ρ h H σ S H0 ds vs d Q A dm rr e k => ?_⟩
  match ds, rr, e with
  | [.int i], rr, e =>
    obtain ⟨v, rfl, r⟩ := pr1 rr
    cases e
    exact .inl ⟨i, by rw [r.int_inv], k _ _ (Go.refl _) A (.held (.int _))⟩
  | [.bl b], rr, e =>
    obtain ⟨v, rfl, r⟩ := pr1 rr
    cases e
    exact .inr ⟨b, by rw [r.bl_inv], k _ _ (Go.refl _) A (.held (.int _))⟩
theorem cal_list : Cal X (.type "list") listD := by
  refine ⟨_, call_list_of, fun ρ h H σ S H0 ds vs d Q A dm rr e k => ?_⟩
  match ds, rr, e with
  | [x], rr, e =>
    obtain ⟨v, rfl, r⟩ := pr1 rr
    simp only [listD, Option.map_eq_some_iff] at e
    obtain ⟨xs, es, rfl⟩ := e
    obtain ⟨a, ws, rfl, q, rl⟩ := sq_of A r es
    refine ⟨a, ws, rfl, q, fun p hp => ?_⟩
    obtain ⟨g, A', r'⟩ := A.new hp (dm _ hp) rl
    exact k _ _ g A' r'
theorem cal_tuple : Cal X (.type "tuple") tupD := by
  refine ⟨_, call_tuple_of, fun ρ h H σ S H0 ds vs d Q A dm rr e k => ?_⟩
  match ds, rr, e with
  | [x], rr, e =>
    obtain ⟨v, rfl, r⟩ := pr1 rr
    simp only [tupD, Option.map_eq_some_iff] at e
    obtain ⟨xs, es, rfl⟩ := e
    obtain ⟨a, ws, rfl, q, rl⟩ := sq_of A r es
    rcases q with q | q
    · refine ⟨a, ws, rfl, .inl ⟨q, fun p hp => ?_⟩⟩
      obtain ⟨g, A', r'⟩ := A.newT hp rl
      exact k _ _ g A' (.held r')
    · exact ⟨a, ws, rfl, .inr ⟨q, k _ _ (Go.refl _) A (.held (.tup q rl))⟩⟩
theorem ty_of (A : At X ρ h H σ S) (r : RE (wd X ρ h H) H0 v x) {t : String} (e : tyD h x = some t) : TyX X.K H v (.type t) := by
  cases x with
  | non => cases e; rw [r.non_inv]; exact .base .non
  | bl k => cases e; rw [r.bl_inv]; exact .base (.bl _)
  | int i => cases e; rw [r.int_inv]; exact .base (.int _)
  | str z => cases e; rw [r.str_inv]; exact .base (.str _)
  | tup zs =>
    cases e
    obtain ⟨a, vs, rfl, q, rl⟩ := r.tup_inv
    rcases q with (q | ⟨ob, q⟩) | ⟨o, its, n, q, hc, _⟩
    · exact .base (.tup q)
    · exact .fTuple q
    · exact .kTuple q hc
  | lst zs =>
    cases e
    cases r with
    | new q _ _ _ => exact .base (.lst q)
    | held r => exact r.notLst.elim
  | frl zs =>
    cases e
    cases r with
    | held r =>
      cases r with
      | frl q rl =>
        rcases q with ⟨ob, q⟩ | ⟨o, its, n, q, hc, _⟩
        · exact .base (.frz q)
        · exact .kList q hc
  | ref n =>
    simp only [tyD] at e
    cases r with
    | held r =>
      cases r with
      | ref n hn =>
        split at e
        · rename_i zs q
          cases e
          cases A.cell q with
          | lst hh rl => exact .base (.lst hh)
        · rename_i kvs q
          cases e
          cases A.cell q with
          | dic hh ek rl => exact .base (.dK hh)
        · cases e
  | ty _ => cases e
  | fn _ => cases e
  | cls _ => cases e
theorem isi_kit {a b : String} {r : Bool} (e : isiD a b = some r) : kitB a b = some r := by
  unfold isiD at e
  split at e
  · rename_i hb
    subst hb
    split at e
    · rename_i ha
      cases e
      rcases ha with rfl | rfl <;> decide +kernel
    · split at e
      · rename_i ha
        cases e
        rcases ha with rfl | rfl | rfl | rfl | rfl <;> decide +kernel
      · cases e
  · split at e
    · rename_i hb
      split at e
      · rename_i ha
        cases e
        rcases hb with rfl | rfl | rfl | rfl | rfl <;> rcases ha with rfl | rfl | rfl | rfl | rfl | rfl | rfl <;> decide +kernel
      · cases e
    · cases e
theorem cal_isi : Cal X (.builtin "isinstance") isinD := by
  refine ⟨_, call_isi, fun ρ h H σ S H0 ds vs d Q A dm rr e k => ?_⟩
  match ds, rr, e with
  | [x, .ty t], rr, e =>
    obtain ⟨v, u, rfl, r, ru⟩ := pr2 rr
    simp only [isinD] at e
    split at e
    · rename_i a ea
      simp only [Option.map_eq_some_iff] at e
      obtain ⟨b, e1, rfl⟩ := e
      refine ⟨v, u, .type a, .type t, b, rfl, ?_, ty_of A r ea, kit_ty (isi_kit e1), k _ _ (Go.refl _) A (.held (.bl _))⟩
      rw [ru.ty_inv]
      constructor
    · cases e
end
end Z

/-! Z6: where an expression stands; the parts of its soundness -/
namespace Z
open PySem L2

/-- what a call promises -/
def spF (P : Program) (w : World) (K : PySem.W.Frag) (mg : Str → Option Value) (Φ : CallF) (x : Str) (n : Nat) : Sp := fun vs H Q E =>
  ∃ ρ h ds r, Rep ⟨K, mg, ρ, h.length, H⟩ h ∧ RL ⟨K, mg, ρ, h.length, H⟩ vs ds ∧ ds.length = n ∧ Φ x ds h = some r ∧ match r with
    | (.ok d, h') => ∀ ρ' H' v, Go ⟨K, mg, ρ, h.length, H⟩ ⟨K, mg, ρ', h'.length, H'⟩ → Rep ⟨K, mg, ρ', h'.length, H'⟩ h' → RE ⟨K, mg, ρ', h'.length, H'⟩ H v d → Q v H'
    | (.ex C fs, h') => ∀ ρ' H' cls dx, Go ⟨K, mg, ρ, h.length, H⟩ ⟨K, mg, ρ', h'.length, H'⟩ → Rep ⟨K, mg, ρ', h'.length, H'⟩ h' → RX ⟨K, mg, ρ', h'.length, H'⟩ cls dx C fs → E cls dx H'
/-- a def that may be called from here -/
structure CallOk (X : Cx) (Φ : CallF) (x : Str) (n : Nat) : Prop where
  ex : ∃ (f : Addr) (fd : FuncData) (ps : List Str) (k : Nat), FnOk X.prog X.w X.K X.mg X.base (L2.CX X.prog X.w) k f fd ps (spF X.prog X.w X.K X.mg Φ x n) ∧ Room k X.A ∧ X.mg x = some (.ref f) ∧ PySem.W.keepIn X.K (.ref f) = true ∧ Binds X.K fd ps []
/-- where an expression stands -/
structure Cok (G : Gs) (Φ : CallF) (Γ : Sc) (X : Cx) (Wx : WX) : Prop where
  N : X.N = Γ.N
  nd : Γ.N.Nodup
  sc : X.env.scope = Γ.sc
  calm : X.calm = true
  units : X.A.units + 65 < cLine
  fn : ∀ x, stoB Γ x = true → X.fn x = true ∨ X.env.scope.names.lookup x = some .local
  takes : Takes X Wx
  glob : ∀ x d, G.glob.lookup x = some d → ∃ u v, X.mg x = some u ∧ RelV v u ∧ ∀ ρ n H, R ⟨X.K, X.mg, ρ, n, H⟩ v d
  blt : ∀ x ∈ G.blt, X.mg x = none
  fns : ∀ x n, G.fns.lookup x = some n → CallOk X Φ x n

section
variable {G : Gs} {Φ : CallF} {Γ : Sc} {X : Cx} {Wx : WX}
theorem vis_of (c : Cok G Φ Γ X Wx) {x : Str} (h : visB Γ.sc x = true) : Vis X.env.scope x := by
  rw [c.sc]
  unfold visB at h
  unfold Vis
  split at h
  · exact .inl (by assumption)
  · exact .inr (.inl (by assumption))
  · exact .inr (.inr (by assumption))
  · cases h
theorem gl_of (c : Cok G Φ Γ X Wx) {x : Str} (h : glB Γ.sc x = true) : Gl X x := by
  unfold glB at h
  split at h
  · rename_i e
    show X.env.scope.names.lookup x = _
    rw [c.sc]
    exact e
  · cases h
theorem sto_of (c : Cok G Φ Γ X Wx) {x : Str} (h : stoB Γ x = true) : L2.Loc X.env.scope x := by
  have key : ∀ sc : Scope, locB sc x = true → L2.Loc sc x := fun sc h => by
    unfold locB at h
    unfold L2.Loc
    split at h
    · exact .inl (by assumption)
    · exact .inr (by assumption)
    · cases h
  rw [c.sc]
  unfold stoB at h
  split at h
  · exact key _ h
  · exact key _ (by simp only [Bool.and_eq_true] at h; exact h.2)
theorem okName_d {x : Str} (h : okName x = true) : (x == ("__debug__" : Str)) = false ∧ (x == ("__classdict__" : Str)) = false ∧ x ≠ "__name__" := by
  unfold okName at h
  simp only [Bool.and_eq_true, Bool.not_eq_true'] at h
  exact ⟨h.1.1, h.1.2, fun z => by rw [z] at h; simp at h⟩

/-! ### the forms -/
theorem notStar {G : Gs} {Γ : Sc} {e : E} {ex : Expr} (h : chkE G Γ e ex = true) : ∀ y p, ex ≠ .Starred y p := by
  rintro y p rfl
  cases e <;> simp [chkE] at h
theorem starEach_of {ex : Expr} {es : List Expr} {env : Env} (h : ∀ y p, ex ≠ .Starred y p) : starEach (ex :: es) env = (false, eval ex env) :: starEach es env := by
  cases ex <;> first | rfl | exact absurd rfl (h _ _)
theorem nomark_of {G : Gs} {Γ : Sc} {e : E} {ex : Expr} (h : chkE G Γ e ex = true) (op : CmpOp) : behindInMarks op ex = false := by
  cases ex <;> first | rfl | (cases e <;> simp [chkE] at h)
theorem plainIx_of {ex : Expr} (h : nsl ex = true) : PlainIx ex := by
  intro o i
  cases ex <;> first | rfl | (simp [nsl] at h)
theorem base_of {ex : Expr} {a : Str} {env : Env} {wh : Sem Value} (h : nsup ex = true) : attributeBase ex a env wh = wh := by
  cases ex with
  | Call f as kws p =>
    cases f with
    | Name id q =>
      cases as with
      | nil =>
        cases kws with
        | nil => simp [nsup] at h
        | cons _ _ => rfl
      | cons _ _ => rfl
    | _ => rfl
  | _ => rfl
theorem folded_of {G : Gs} {Γ : Sc} {e : E} {ex : Expr} {env : Env} (h : chkE G Γ e ex = true) : ∀ x, foldedSetIterable ex env x = pure x := by
  intro x
  cases ex <;> first | rfl | (cases e <;> simp [chkE] at h)

/-! ### from one part to the next -/
theorem At.newer {ρ ρ' : Nat → Addr} {h h' : Hh} {H H' : Hp} {σ : St} {S : Sl} (A : At X ρ h H σ S) (g : Go (wd X ρ h H) (wd X ρ' h' H')) {H0 : Hp} {v : V} {d : D} (r : RE (wd X ρ h H) H0 v d) : RE (wd X ρ' h' H') H0 v d := r.go g A.rep

theorem RE.since {W : Wd} {ρ ρ' : Nat → Addr} {h h' : Hh} {H H' : Hp} (g : Go (wd X ρ h H) (wd X ρ' h' H')) {v : V} {d : D} (r : RE W H' v d) : RE W H v d := by
  cases r with
  | held r => exact .held r
  | new e f n0 r => exact .new e f (g.dom _ n0) r

theorem Fin.since {ρ ρ1 : Nat → Addr} {h h1 : Hh} {H H1 : Hp} {σ : St} {S : Sl} {r : Rs D × Hh} {Q : VK} (g : Go (wd X ρ h H) (wd X ρ1 h1 H1))
    (F : Fin X Wx ρ1 h1 H1 σ S r fun ρ' h' H' d => ∀ v, RE (wd X ρ' h' H') H v d → Q v H') : Fin X Wx ρ1 h1 H1 σ S r fun ρ' h' H' d => ∀ v, RE (wd X ρ' h' H') H1 v d → Q v H' := by
  match r, F with
  | (.ok d, h'), F => exact fun ρ' H' g' A' v rv => F ρ' H' g' A' v (rv.since g)
  | (.ex C fs, h'), F => exact F
theorem je_op {op : Operator} {a b : Expr} {fa fb : EF} {pos : Pos} (ja : JE X Wx a fa) (jb : JE X Wx b fb) : JE X Wx (.BinOp a op b pos) (fun S h => bd (fa S h) fun x h1 => bd (fb S h1) fun y h2 => pu (binD h2 op x y) h2) := by
  obtain ⟨r, o, k⟩ := bin_ok (X := X) op
  refine PE.imp (pe_op o ja jb) fun σ H Q ⟨ρ, S, h, rr, A, e, F⟩ => ?_
  refine tE.bd A e F fun x h1 ρ1 H1 vx g1 A1 rx e1 F1 => ?_
  refine tE.bd A1 e1 F1 fun y h2 ρ2 H2 vy g2 A2 ry e2 F2 => ?_
  obtain ⟨d, ed, q⟩ := Fin.pu e2 F2
  refine k ρ2 h2 H2 σ S H x y vx vy d Q A2 (fun a z => g1.dom a (g2.dom a z)) (A1.newer g2 rx) (ry.since g1) ed fun H' v g A' r' => q ρ2 H' g A' v r'

theorem je_neg {a : Expr} {fa : EF} {pos : Pos} (ja : JE X Wx a fa) : JE X Wx (.UnaryOp .USub a pos) (fun S h => bd (fa S h) fun x h1 => pu (negD x) h1) := by
  refine PE.imp (pe_un un_neg ja) fun σ H Q ⟨ρ, S, h, rr, A, e, F⟩ => ?_
  refine tE.bd A e F fun x h1 ρ1 H1 vx g1 A1 rx e1 F1 => ?_
  obtain ⟨d, ed, q⟩ := Fin.pu e1 F1
  exact neg_ok rx ed A1 fun H' v g A' r' => q ρ1 H' g A' v r'
theorem je_cmp {op : CmpOp} {a b : Expr} {fa fb : EF} {pos : Pos} (hu : X.A.units + 65 < cLine) (ja : JE X Wx a fa) (jb : JE X Wx b fb) (hm : behindInMarks op b = false) :
    JE X Wx (.Compare a [op] [b] pos) (fun S h => bd (fa S h) fun x h1 => bd (fb S h1) fun y h2 => pu (cmpD h2 op x y) h2) := by
  obtain ⟨r, o, k⟩ := cmp_ok hu op
  refine PE.imp (pe_cmpR o ja jb hm) fun σ H Q ⟨ρ, S, h, rr, A, e, F⟩ => ?_
  refine tE.bd A e F fun x h1 ρ1 H1 vx g1 A1 rx e1 F1 => ?_
  refine tE.bd A1 e1 F1 fun y h2 ρ2 H2 vy g2 A2 ry e2 F2 => ?_
  obtain ⟨d, ed, q⟩ := Fin.pu e2 F2
  exact k ρ2 h2 H2 σ S H x y vx vy d Q A2 (fun a z => g1.dom a (g2.dom a z)) (A1.newer g2 rx) (ry.since g1) ed fun H' v g A' r' => q ρ2 H' g A' v r'
theorem jt_cmp {op : CmpOp} {a b : Expr} {fa fb : EF} {pos : Pos} (hu : X.A.units + 65 < cLine) (ja : JE X Wx a fa) (jb : JE X Wx b fb) (hm : behindInMarks op b = false) :
    JT X Wx (.Compare a [op] [b] pos) (fun S h => bd (fa S h) fun x h1 => bd (fb S h1) fun y h2 => match cmpD h2 op x y with | some (.bl k) => some (.ok k, h2) | _ => none) := by
  obtain ⟨r, o, k⟩ := cmp_ok hu op
  refine PT.imp (pt_cmpR o ja jb hm) fun σ H Q ⟨ρ, S, h, rr, A, e, F⟩ => ?_
  refine tE.bd A e F fun x h1 ρ1 H1 vx g1 A1 rx e1 F1 => ?_
  refine tE.bd A1 e1 F1 fun y h2 ρ2 H2 vy g2 A2 ry e2 F2 => ?_
  split at e2
  · rename_i b eb
    cases e2
    exact k ρ2 h2 H2 σ S H x y vx vy _ _ A2 (fun a z => g1.dom a (g2.dom a z)) (A1.newer g2 rx) (ry.since g1) eb fun H' v g A' r' => ⟨b, r'.bl_inv, F2 ρ2 H' g A'⟩
  · cases e2
theorem je_chn {o p : CmpOp} {a b c : Expr} {fa fb fc : EF} {pos : Pos} (hu : X.A.units + 65 < cLine) (ja : JE X Wx a fa) (jb : JE X Wx b fb) (jc : JE X Wx c fc) (h1 : o ≠ .In) (h2 : o ≠ .NotIn) (h3 : p ≠ .In) (h4 : p ≠ .NotIn) :
    JE X Wx (.Compare a [o, p] [b, c] pos) (fun S h => bd (fa S h) fun x h1 => bd (fb S h1) fun y h2 => match cmpD h2 o x y with
      | some (.bl true) => bd (fc S h2) fun z h3 => pu (cmpD h3 p y z) h3
      | some (.bl false) => some (.ok (.bl false), h2)
      | _ => none) := by
  obtain ⟨r, ro, k⟩ := cmp_ok hu o
  obtain ⟨r', ro', k'⟩ := cmp_ok hu p
  refine PE.imp (pe_chain ro ro' ja jb jc (nobehind c h3 h4)) fun σ H Q ⟨ρ, S, h, rr, A, e, F⟩ => ?_
  refine tE.bd A e F fun x h1 ρ1 H1 vx g1 A1 rx e1 F1 => ?_
  refine tE.bd A1 e1 F1 fun y h2 ρ2 H2 vy g2 A2 ry e2 F2 => ?_
  split at e2
  · rename_i eb
    refine k ρ2 h2 H2 σ S H x y vx vy _ _ A2 (fun a z => g1.dom a (g2.dom a z)) (A1.newer g2 rx) (ry.since g1) eb fun H' v g A' r' => ⟨true, r'.bl_inv, ?_⟩
    rw [if_pos rfl]
    refine tE.bd A' e2 (F2.go g) fun z h3 ρ3 H3 vz g3 A3 rz e3 F3 => ?_
    obtain ⟨d, ed, q⟩ := Fin.pu e3 F3
    exact k' ρ3 h3 H3 σ S H y z vy vz d Q A3 (fun a z => g1.dom a (g2.dom a (g.dom a (g3.dom a z)))) (A'.newer g3 (A2.newer g (ry.since g1))) ((rz.since g).since (g1.trans g2)) ed fun H' v g A' r' => q ρ3 H' g A' v r'
  · rename_i eb
    cases e2
    refine k ρ2 h2 H2 σ S H x y vx vy _ _ A2 (fun a z => g1.dom a (g2.dom a z)) (A1.newer g2 rx) (ry.since g1) eb fun H' v g A' r' => ⟨false, r'.bl_inv, ?_⟩
    rw [if_neg Bool.false_ne_true]
    exact F2 ρ2 H' g A' _ (.held (.bl false))
  · cases e2
theorem jt_chn {o p : CmpOp} {a b c : Expr} {fa fb fc : EF} {pos : Pos} (hu : X.A.units + 65 < cLine) (ja : JE X Wx a fa) (jb : JE X Wx b fb) (jc : JE X Wx c fc) (h1 : o ≠ .In) (h2 : o ≠ .NotIn) (h3 : p ≠ .In) (h4 : p ≠ .NotIn) :
    JT X Wx (.Compare a [o, p] [b, c] pos) (fun S h => bd (fa S h) fun x h1 => bd (fb S h1) fun y h2 => match cmpD h2 o x y with
      | some (.bl true) => bd (fc S h2) fun z h3 => match cmpD h3 p y z with
        | some (.bl k) => some (.ok k, h3)
        | _ => none
      | some (.bl false) => some (.ok false, h2)
      | _ => none) := by
  obtain ⟨r, ro, k⟩ := cmp_ok hu o
  obtain ⟨r', ro', k'⟩ := cmp_ok hu p
  refine PT.imp (pt_chain ro ro' ja jb jc (nobehind c h3 h4)) fun σ H Q ⟨ρ, S, h, rr, A, e, F⟩ => ?_
  refine tE.bd A e F fun x h1 ρ1 H1 vx g1 A1 rx e1 F1 => ?_
  refine tE.bd A1 e1 F1 fun y h2 ρ2 H2 vy g2 A2 ry e2 F2 => ?_
  split at e2
  · rename_i eb
    refine k ρ2 h2 H2 σ S H x y vx vy _ _ A2 (fun a z => g1.dom a (g2.dom a z)) (A1.newer g2 rx) (ry.since g1) eb fun H' v g A' r' => ⟨true, r'.bl_inv, ?_⟩
    rw [if_pos rfl]
    refine tE.bd A' e2 (F2.go g) fun z h3 ρ3 H3 vz g3 A3 rz e3 F3 => ?_
    split at e3
    · rename_i b eb
      cases e3
      exact k' ρ3 h3 H3 σ S H y z vy vz _ _ A3 (fun a z => g1.dom a (g2.dom a (g.dom a (g3.dom a z)))) (A'.newer g3 (A2.newer g (ry.since g1))) ((rz.since g).since (g1.trans g2)) eb fun H' v g A' r' => ⟨b, r'.bl_inv, F3 ρ3 H' g A'⟩
    · cases e3
  · rename_i eb
    cases e2
    refine k ρ2 h2 H2 σ S H x y vx vy _ _ A2 (fun a z => g1.dom a (g2.dom a z)) (A1.newer g2 rx) (ry.since g1) eb fun H' v g A' r' => ⟨false, r'.bl_inv, ?_⟩
    rw [if_neg Bool.false_ne_true]
    exact ⟨false, rfl, F2 ρ2 H' g A'⟩
  · cases e2
theorem je_and {a b : Expr} {r : List Expr} {fa fb : EF} {pos : Pos} (ja : JE X Wx a fa) (jb : JE X Wx (.BoolOp .And (b :: r) pos) fb) : JE X Wx (.BoolOp .And (a :: b :: r) pos) (fun S h => bd (fa S h) fun x h1 => match x with
      | .bl true => fb S h1
      | .bl false => some (.ok (.bl false), h1)
      | _ => none) := by
  refine PE.imp (pe_and ja jb) fun σ H Q ⟨ρ, S, h, rr, A, e, F⟩ => ?_
  refine tE.bd A e F fun x h1 ρ1 H1 vx g1 A1 rx e1 F1 => ?_
  split at e1
  · refine ⟨true, rx.bl_inv, ?_⟩
    rw [if_pos rfl]
    refine ⟨ρ1, S, h1, rr, A1, e1, ?_⟩
    exact F1.since g1
  · refine ⟨false, rx.bl_inv, ?_⟩
    rw [if_neg Bool.false_ne_true]
    cases e1
    exact F1 ρ1 H1 (Go.refl _) A1 _ (.held (.bl false))
  · cases e1
theorem je_or {a b : Expr} {r : List Expr} {fa fb : EF} {pos : Pos} (ja : JE X Wx a fa) (jb : JE X Wx (.BoolOp .Or (b :: r) pos) fb) : JE X Wx (.BoolOp .Or (a :: b :: r) pos) (fun S h => bd (fa S h) fun x h1 => match x with
      | .bl true => some (.ok (.bl true), h1)
      | .bl false => fb S h1
      | _ => none) := by
  refine PE.imp (pe_or ja jb) fun σ H Q ⟨ρ, S, h, rr, A, e, F⟩ => ?_
  refine tE.bd A e F fun x h1 ρ1 H1 vx g1 A1 rx e1 F1 => ?_
  split at e1
  · refine ⟨true, rx.bl_inv, ?_⟩
    rw [if_pos rfl]
    cases e1
    exact F1 ρ1 H1 (Go.refl _) A1 _ (.held (.bl true))
  · refine ⟨false, rx.bl_inv, ?_⟩
    rw [if_neg Bool.false_ne_true]
    refine ⟨ρ1, S, h1, rr, A1, e1, ?_⟩
    exact F1.since g1
  · cases e1
theorem je_not {a : Expr} {fa : EF} {pos : Pos} (ja : JE X Wx a fa) : JE X Wx (.UnaryOp .Not a pos) (fun S h => bd (fa S h) fun x h1 => match x with
      | .bl k => some (.ok (.bl (!k)), h1)
      | _ => none) := by
  refine PE.imp (pe_not ja) fun σ H Q ⟨ρ, S, h, rr, A, e, F⟩ => ?_
  refine tE.bd A e F fun x h1 ρ1 H1 vx g1 A1 rx e1 F1 => ?_
  split at e1
  · rename_i k
    cases e1
    exact ⟨k, rx.bl_inv, F1 ρ1 H1 (Go.refl _) A1 _ (.held (.bl _))⟩
  · cases e1
theorem je_ite {c a b : Expr} {ft : TF} {fa fb : EF} {pos : Pos} (jc : JT X Wx c ft) (ja : JE X Wx a fa) (jb : JE X Wx b fb) : JE X Wx (.IfExp c a b pos) (fun S h => bd (ft S h) fun k h1 => if k = true then fa S h1 else fb S h1) := by
  refine PE.imp (pe_ifExp jc ja jb) fun σ H Q ⟨ρ, S, h, rr, A, e, F⟩ => ?_
  refine tT.bd A e F fun k h1 ρ1 H1 g1 A1 e1 F1 => ?_
  cases k with
  | true =>
    rw [if_pos rfl] at e1 ⊢
    exact ⟨ρ1, S, h1, rr, A1, e1, F1.since g1⟩
  | false =>
    rw [if_neg Bool.false_ne_true] at e1 ⊢
    exact ⟨ρ1, S, h1, rr, A1, e1, F1.since g1⟩

/-! ### tests -/
theorem jt_and1 {a b : Expr} {fa fb : TF} {pos : Pos} (ja : JT X Wx a fa) (jb : JT X Wx b fb) : JT X Wx (.BoolOp .And [a, b] pos) (fun S h => bd (fa S h) fun k h1 => if k = true then fb S h1 else some (.ok false, h1)) := by
  refine PT.imp (pw_and ja (pw_and1 jb)).pt fun σ H Q ⟨ρ, S, h, rr, A, e, F⟩ => ?_
  refine tT.bd A e F fun k h1 ρ1 H1 g1 A1 e1 F1 => ?_
  cases k with
  | true =>
    rw [if_pos rfl] at e1 ⊢
    exact ⟨ρ1, S, h1, rr, A1, e1, F1⟩
  | false =>
    rw [if_neg Bool.false_ne_true] at e1 ⊢
    cases e1
    exact F1 ρ1 H1 (Go.refl _) A1
theorem jt_or1 {a b : Expr} {fa fb : TF} {pos : Pos} (ja : JT X Wx a fa) (jb : JT X Wx b fb) : JT X Wx (.BoolOp .Or [a, b] pos) (fun S h => bd (fa S h) fun k h1 => if k = true then some (.ok true, h1) else fb S h1) := by
  refine PT.imp (pw_or ja (pw_or1 jb)).pt fun σ H Q ⟨ρ, S, h, rr, A, e, F⟩ => ?_
  refine tT.bd A e F fun k h1 ρ1 H1 g1 A1 e1 F1 => ?_
  cases k with
  | true =>
    rw [if_pos rfl] at e1 ⊢
    cases e1
    exact F1 ρ1 H1 (Go.refl _) A1
  | false =>
    rw [if_neg Bool.false_ne_true] at e1 ⊢
    exact ⟨ρ1, S, h1, rr, A1, e1, F1⟩
abbrev JW (X : Cx) (Wx : WX) (e : Expr) (f : TF) : Prop := PW X e (tT X Wx f)
theorem PW.imp {e : Expr} {t t' : TT} (h : PW X e t) (i : ∀ σ H Q, t' σ H Q → t σ H Q) : PW X e t' := ⟨fun wh pins s σ H Q I q => h.run wh pins s σ H Q I (i _ _ _ q)⟩
theorem jw_and {a b : Expr} {r : List Expr} {fa fb : TF} {pos : Pos} (ja : JT X Wx a fa) (jb : JW X Wx (.BoolOp .And (b :: r) pos) fb) : JW X Wx (.BoolOp .And (a :: b :: r) pos) (fun S h => bd (fa S h) fun k h1 => if k = true then fb S h1 else some (.ok false, h1)) := by
  refine PW.imp (pw_and ja jb) fun σ H Q ⟨ρ, S, h, rr, A, e, F⟩ => ?_
  refine tT.bd A e F fun k h1 ρ1 H1 g1 A1 e1 F1 => ?_
  cases k with
  | true =>
    rw [if_pos rfl] at e1 ⊢
    exact ⟨ρ1, S, h1, rr, A1, e1, F1⟩
  | false =>
    rw [if_neg Bool.false_ne_true] at e1 ⊢
    cases e1
    exact F1 ρ1 H1 (Go.refl _) A1
theorem jw_or {a b : Expr} {r : List Expr} {fa fb : TF} {pos : Pos} (ja : JT X Wx a fa) (jb : JW X Wx (.BoolOp .Or (b :: r) pos) fb) : JW X Wx (.BoolOp .Or (a :: b :: r) pos) (fun S h => bd (fa S h) fun k h1 => if k = true then some (.ok true, h1) else fb S h1) := by
  refine PW.imp (pw_or ja jb) fun σ H Q ⟨ρ, S, h, rr, A, e, F⟩ => ?_
  refine tT.bd A e F fun k h1 ρ1 H1 g1 A1 e1 F1 => ?_
  cases k with
  | true =>
    rw [if_pos rfl] at e1 ⊢
    cases e1
    exact F1 ρ1 H1 (Go.refl _) A1
  | false =>
    rw [if_neg Bool.false_ne_true] at e1 ⊢
    exact ⟨ρ1, S, h1, rr, A1, e1, F1⟩
theorem jt_not {a : Expr} {fa : TF} {pos : Pos} (ja : JT X Wx a fa) : JT X Wx (.UnaryOp .Not a pos) (fun S h => bd (fa S h) fun k h1 => some (.ok (!k), h1)) := by
  refine PT.imp (pt_not ja) fun σ H Q ⟨ρ, S, h, rr, A, e, F⟩ => ?_
  refine tT.bd A e F fun k h1 ρ1 H1 g1 A1 e1 F1 => ?_
  cases e1
  exact F1 ρ1 H1 (Go.refl _) A1
/-- a test by its value's truth -/
theorem jt_val {a : Expr} {fa : EF} (ja : JE X Wx a fa) (he : ∀ whole, isTrue a X.env whole = (do let v ← whole; standAt a.pos; holding [v] (truthy v))) : JT X Wx a (tv fa) := by
  refine PT.imp (pt_truth ja he) fun σ H Q ⟨ρ, S, h, rr, A, e, F⟩ => ?_
  refine tE.bd A e F fun x h1 ρ1 H1 vx g1 A1 rx e1 F1 => ?_
  obtain ⟨b, eb, q⟩ := Fin.pu e1 F1
  exact ⟨b, tru_of A1 rx eb, q ρ1 H1 (Go.refl _) A1⟩

/-! ### names and constants -/
theorem je_const {ex : Expr} {v : V} {d : D} (p : PE X ex (tC v)) (r : ∀ W, R W v d) : JE X Wx ex (fun _ h => some (.ok d, h)) := by
  refine PE.imp p fun σ H Q ⟨ρ, S, h, rr, A, e, F⟩ => ?_
  cases e
  exact F ρ H (Go.refl _) A v (.held (r _))
theorem je_var {i : Nat} {x : Str} {pos : Pos} (c : Cok G Φ Γ X Wx) (hN : Γ.N[i]? = some x) (hv : visB Γ.sc x = true) (ho : okName x = true) : JE X Wx (.Name x pos) (fun S h => pu (getS S i) h) := by
  obtain ⟨o1, o2, o3⟩ := okName_d ho
  refine PE.imp (pe_var (i := i) (by rw [c.N]; exact hN) (vis_of c hv) o1 o2) fun σ H Q ⟨ρ, S, h, rr, A, e, F⟩ => ?_
  obtain ⟨d, ed, q⟩ := Fin.pu e F
  have : S[i]? = some (some d) := by
    unfold getS at ed
    cases z : S[i]? with
    | none => rw [z] at ed; cases ed
    | some y =>
      rw [z] at ed
      have ed' : y = some d := ed
      rw [ed']
  obtain ⟨v, ev, rv⟩ := A.sl.at_ i d this
  exact ⟨v, ev, q ρ H (Go.refl _) A v (.held rv)⟩
theorem je_glob {x : Str} {pos : Pos} (c : Cok G Φ Γ X Wx) (hg : glB Γ.sc x = true) (ho : okName x = true) (hs : (G.glob.lookup x).isSome = true) : JE X Wx (.Name x pos) (fun _ h => pu (G.glob.lookup x) h) := by
  obtain ⟨o1, o2, o3⟩ := okName_d ho
  obtain ⟨d, ed⟩ := Option.isSome_iff_exists.mp hs
  obtain ⟨u, v, hm, rv, hr⟩ := c.glob x d ed
  refine PE.imp (pe_glob (gl_of c hg) hm rv o1) fun σ H Q ⟨ρ, S, h, rr, A, e, F⟩ => ?_
  rw [ed] at e
  cases e
  exact F ρ H (Go.refl _) A v (.held (hr _ _ _))
theorem typ_boot {t : String} (h : t ∈ tyNames) : bootBuiltins (Str.ofString t) = some (.type t) := by
  simp only [tyNames, List.mem_cons, List.not_mem_nil, or_false] at h
  rcases h with rfl | rfl | rfl | rfl | rfl | rfl <;> decide +kernel
theorem je_typ {x : Str} {t : String} {pos : Pos} (c : Cok G Φ Γ X Wx) (hg : glB Γ.sc x = true) (ho : okName x = true) (hb : x ∈ G.blt) (ht : x = Str.ofString t) (hx : t ∈ tyNames) :
    JE X Wx (.Name x pos) (fun _ h => some (.ok (.ty t), h)) := by
  obtain ⟨o1, o2, o3⟩ := okName_d ho
  exact je_const (pe_bltn (v := .ty t) (gl_of c hg) (c.blt x hb) (by rw [ht]; exact typ_boot hx) rfl o3 o1) fun W => .ty t

/-! ### lists of parts -/
theorem ja_nil : JA X Wx [] (fun _ h => some (.ok [], h)) := by
  refine PA.imp pa_nil fun σ H Q ⟨ρ, S, h, rr, A, e, F⟩ => ?_
  cases e
  exact F ρ H (Go.refl _) A [] .nil
theorem ja_cons {ex : Expr} {es : List Expr} {f : EF} {fs : AF} (j : JE X Wx ex f) (js : JA X Wx es fs) (ns : ∀ y p, ex ≠ .Starred y p) :
    JA X Wx (ex :: es) (fun S h => bd (vv f S h) fun d h1 => bd (fs S h1) fun ds h2 => some (.ok (d :: ds), h2)) := by
  refine PA.imp (pa_cons (JE.vv j) js (starEach_of ns)) fun σ H Q ⟨ρ, S, h, rr, A, e, F⟩ => ?_
  obtain ⟨ra, e1, F1⟩ := Fin.bd (Pa := fun ρ' h' H' d => ∀ v, RE (wd X ρ' h' H') H v d → tA X Wx fs σ H' fun vs H2 => Q (v :: vs) H2) e F fun d h1 ρ1 H1 eq1 g1 A1 e1 F1 v rv => by
    have hv := rv.ofHeld (vv_held eq1)
    refine tA.bd A1 e1 F1 fun ds h2 ρ2 H2 vs g2 A2 rs e2 F2 => ?_
    cases e2
    exact F2 ρ2 H2 (Go.refl _) A2 (v :: vs) (.cons (hv.go g2 A1.rep) rs)
  exact ⟨ρ, S, h, ra, A, e1, F1⟩
theorem ja_star {ex : Expr} {es : List Expr} {f : EF} {fs : AF} {p : Pos} (j : JE X Wx ex f) (js : JA X Wx es fs) :
    JA X Wx (.Starred ex p :: es) (fun S h => bd (f S h) fun x h1 => match sqD h1 x with
      | some xs => bd (fs S h1) fun ds h2 => some (.ok (xs ++ ds), h2)
      | none => none) := by
  refine PA.imp (StX.pa_star j js) fun σ H Q ⟨ρ, S, h, rr, A, e, F⟩ => ?_
  refine tE.bd A e F fun x h1 ρ1 H1 vx g1 A1 rx e1 F1 => ?_
  split at e1
  · rename_i xs es
    obtain ⟨a, vs, rfl, q, rl⟩ := sq_of A1 rx es
    refine ⟨a, vs, rfl, q.symm, ?_⟩
    refine tA.bd A1 e1 F1 fun ds h2 ρ2 H2 ws g2 A2 rs e2 F2 => ?_
    cases e2
    exact F2 ρ2 H2 (Go.refl _) A2 (vs ++ ws) ((rl.go g2 A1.rep).append rs)
  · cases e1
theorem je_tup {es : List Expr} {fs : AF} {k : Nat} {pos : Pos} (js : JA X Wx es fs) : JE X Wx (.Tuple es k pos) (fun S h => bd (fs S h) fun ds h1 => if ds.length ≤ sizeLine then some (.ok (.tup ds), h1) else none) := by
  refine PE.imp (pe_tup js) fun σ H Q ⟨ρ, S, h, rr, A, e, F⟩ => ?_
  refine tA.bd A e F fun ds h1 ρ1 H1 vs g1 A1 rs e1 F1 => ?_
  split at e1
  · rename_i c
    cases e1
    refine ⟨by rw [rs.length]; exact c, fun p hp => ?_⟩
    obtain ⟨g, A', r'⟩ := A1.newT hp rs
    exact F1 ρ1 _ g A' _ (.held r')
  · cases e1
theorem je_lst {es : List Expr} {fs : AF} {pos : Pos} (js : JA X Wx es fs) : JE X Wx (.List es pos) (fun S h => bd (fs S h) fun ds h1 => if ds.length ≤ sizeLine then some (.ok (.lst ds), h1) else none) := by
  refine PE.imp (pe_lst js) fun σ H Q ⟨ρ, S, h, rr, A, e, F⟩ => ?_
  refine tA.bd A e F fun ds h1 ρ1 H1 vs g1 A1 rs e1 F1 => ?_
  split at e1
  · rename_i c
    cases e1
    refine ⟨by rw [rs.length]; exact c, fun p hp => ?_⟩
    obtain ⟨g, A', r'⟩ := A1.new hp (g1.dom _ hp) rs
    exact F1 ρ1 _ g A' _ r'
  · cases e1

theorem je_dic0 {pos : Pos} : JE X Wx (.Dict [] [] pos) (fun _ h => some (.ok (.ref h.length), h ++ [.dic []])) := by
  refine PE.imp pe_dnewK fun σ H Q ⟨ρ, S, h, r, A, e, F⟩ => ?_
  cases e
  intro p hp
  obtain ⟨g, A1⟩ := A.tmp (o := .dK []) hp
  obtain ⟨g2, A2, r2, _⟩ := A1.give (o := .dic []) g (A.rep.ne hp) hp fun le => .dic upd_same rfl .nil
  exact F _ _ g2 A2 _ (.held r2)

/-! ### what is behind a call -/
mutual
theorem R.cut {W : Wd} {n : Nat} : ∀ {v : V} {d : D}, R W v d → clD n d = true → R { W with n := n } v d
  | _, _, .non, _ => .non
  | _, _, .bl b, _ => .bl b
  | _, _, .int b, _ => .int b
  | _, _, .str b, _ => .str b
  | _, _, .ty b, _ => .ty b
  | _, _, .ref i hi, c => .ref (W := { W with n := n }) i (by simpa [clD] using c)
  | _, _, .tup q r, c => .tup q (RL.cut r (by simpa [clD] using c))
  | _, _, .frl q r, c => .frl q (RL.cut r (by simpa [clD] using c))
  | _, _, .fn e, _ => .fn e
  | _, _, .cls e, _ => .cls e
theorem RL.cut {W : Wd} {n : Nat} : ∀ {vs : List V} {ds : List D}, RL W vs ds → clL n ds = true → RL { W with n := n } vs ds
  | _, _, .nil, _ => .nil
  | _, _, .cons r t, c => by
    simp only [clL, Bool.and_eq_true] at c
    exact .cons (R.cut r c.1) (RL.cut t c.2)
end
mutual
theorem R.cl {W : Wd} : ∀ {v : V} {d : D}, R W v d → clD W.n d = true
  | _, _, .non => rfl
  | _, _, .bl b => rfl
  | _, _, .int b => rfl
  | _, _, .str b => rfl
  | _, _, .ty b => rfl
  | _, _, .ref i hi => by simpa [clD] using hi
  | _, _, .tup q r => by simp only [clD]; exact RL.cl r
  | _, _, .frl q r => by simp only [clD]; exact RL.cl r
  | _, _, .fn e => rfl
  | _, _, .cls e => rfl
theorem RL.cl {W : Wd} : ∀ {vs : List V} {ds : List D}, RL W vs ds → clL W.n ds = true
  | _, _, .nil => rfl
  | _, _, .cons r t => by simp only [clL, Bool.and_eq_true]; exact ⟨R.cl r, RL.cl t⟩
end
theorem RO.cl {W : Wd} {a : Addr} {o : O} (r : RO W a o) : clO W.n o = true := by
  cases r with
  | lst _ rl => exact rl.cl
  | dic _ _ rl => exact rl.cl
  | ins _ _ _ rl => exact rl.cl
theorem RO.cut {W : Wd} {a : Addr} {o : O} {n : Nat} (r : RO W a o) (c : clO n o = true) : RO { W with n := n } a o := by
  cases r with
  | lst q rl => exact .lst q (rl.cut c)
  | dic q z rl => exact .dic q z (rl.cut c)
  | ins k q z rl => exact .ins k q z (rl.cut c)
theorem At.cut {ρ ρ2 : Nat → Addr} {h h2 : Hh} {H H2 : Hp} {σ : St} {S : Sl} (A0 : At X ρ h H σ S) (g : Go (wd X ρ h H) (wd X ρ2 h2 H2)) (p2 : Rep (wd X ρ2 h2 H2) h2) (ok : okH h h2) :
    wd X ρ2 (h2.take h.length) H2 = { wd X ρ2 h2 H2 with n := h.length } ∧ Go (wd X ρ h H) (wd X ρ2 (h2.take h.length) H2) ∧ At X ρ2 (h2.take h.length) H2 σ S := by
  have hn : h.length ≤ h2.length := g.n
  have hl : (h2.take h.length).length = h.length := by rw [List.length_take]; omega
  have ew : wd X ρ2 (h2.take h.length) H2 = { wd X ρ2 h2 H2 with n := h.length } := by
    show (⟨X.K, X.mg, ρ2, (h2.take h.length).length, H2⟩ : Wd) = ⟨X.K, X.mg, ρ2, h.length, H2⟩
    rw [hl]
  have g' : Go (wd X ρ h H) (wd X ρ2 (h2.take h.length) H2) := by
    rw [ew]
    exact ⟨rfl, rfl, Nat.le_refl _, g.ag, g.keep, g.dom, fun i a b => by
      have a' : h.length ≤ i := a
      have b' : i < h.length := b
      omega⟩
  refine ⟨ew, g', ⟨?_, A0.sl.go g' A0.rep⟩⟩
  refine ⟨by rw [ew]; exact hl.symm, fun i j hi hj z => ?_, fun i o e => ?_⟩
  · rw [ew] at hi hj
    have hi' : i < h.length := hi
    have hj' : j < h.length := hj
    exact p2.inj i j (show i < h2.length by omega) (show j < h2.length by omega) z
  · have hi : i < h.length := by
      have := (List.getElem?_eq_some_iff.mp e).1
      omega
    rw [List.getElem?_take_of_lt hi] at e
    rw [ew]
    refine (p2.obj i o e).cut ?_
    rcases ok with z | z
    · have e' : h[i]? = some o := by
        rw [← z, List.getElem?_take_of_lt hi]
        exact e
      exact (A0.rep.obj i o e').cl
    · refine List.all_eq_true.mp z o (List.mem_of_getElem? (i := i) ?_)
      rw [List.getElem?_take_of_lt hi]
      exact e
open Classical in
theorem fix_ok {ρ ρ2 : Nat → Addr} {h h2 : Hh} {H H2 : Hp} {σ : St} {S : Sl} {v : V} {d : D} {r : Rs D × Hh} (A0 : At X ρ h H σ S) (g : Go (wd X ρ h H) (wd X ρ2 h2 H2)) (A2 : At X ρ2 h2 H2 σ S) (rv : RE (wd X ρ2 h2 H2) H v d)
    (e : fix h d h2 = some r) : ∃ d' h', r = (.ok d', h') ∧ Go (wd X ρ h H) (wd X ρ2 h' H2) ∧ At X ρ2 h' H2 σ S ∧ RE (wd X ρ2 h' H2) H v d' := by
  have same : some (Rs.ok d, h2) = some r → ∃ d' h', r = (.ok d', h') ∧ Go (wd X ρ h H) (wd X ρ2 h' H2) ∧ At X ρ2 h' H2 σ S ∧ RE (wd X ρ2 h' H2) H v d' := fun z => by
    cases z
    exact ⟨d, h2, rfl, g, A2, rv⟩
  have plain : (∀ m, d ≠ .ref m) → fix h d h2 = (if okH h h2 ∧ clD h.length d = true then some (Rs.ok d, h2.take h.length) else some (Rs.ok d, h2)) := fun nr => by
    cases d <;> first | rfl | exact absurd rfl (nr _)
  by_cases c : ∃ m, d = .ref m
  · obtain ⟨m, rfl⟩ := c
    simp only [fix] at e
    split at e
    · rename_i hm
      split at e
      · rename_i ok
        cases e
        obtain ⟨ew, g', A'⟩ := A0.cut g A2.rep ok
        refine ⟨_, _, rfl, g', A', ?_⟩
        rw [ew]
        cases rv with
        | held rv => exact .held (rv.cut (by simpa [clD] using hm))
      · exact same e
    · rename_i hm
      split at e
      · rename_i xs ex
        split at e
        · rename_i ok
          cases e
          obtain ⟨ew, g', A'⟩ := A0.cut g A2.rep ok.1
          refine ⟨_, _, rfl, g', A', ?_⟩
          cases rv with
          | held rv =>
            cases rv with
            | ref m hm2 =>
              cases A2.rep.obj m _ ex with
              | lst q rl =>
                refine .new q (fun i hi z => ?_) (g.fresh m (by show h.length ≤ m; omega) hm2) (by rw [ew]; exact rl.cut ok.2)
                rw [ew] at hi
                have hi' : i < h.length := hi
                have hn : h.length ≤ h2.length := g.n
                have := A2.rep.inj i m (show i < h2.length by omega) hm2 z
                omega
        · exact same e
      · exact same e
  · rw [plain fun m z => c ⟨m, z⟩] at e
    split at e
    · rename_i ok
      cases e
      obtain ⟨ew, g', A'⟩ := A0.cut g A2.rep ok.1
      refine ⟨_, _, rfl, g', A', ?_⟩
      cases rv with
      | held rv => rw [ew]; exact .held (rv.cut ok.2)
      | new q f n0 rl =>
        refine .new q (fun i hi => ?_) n0 (by rw [ew]; exact rl.cut (by simpa [clD] using ok.2))
        rw [ew] at hi
        have hi' : i < h.length := hi
        have hn : h.length ≤ h2.length := g.n
        exact f i (show i < h2.length by omega)
    · exact same e

/-! ### calls -/
theorem je_call {x : Str} {e0 : Expr} {es : List Expr} {fs : AF} {p pos : Pos} (c : Cok G Φ Γ X Wx) (hg : glB Γ.sc x = true) (ho : okName x = true) {n : Nat} (hf : G.fns.lookup x = some n) (js : JA X Wx (e0 :: es) fs)
    (ns : ∀ y q, e0 ≠ .Starred y q) (hpl : ∀ pos, (backTo pos (starEach es X.env)).any (·.1) = false) (hlen : ∀ S h ds h', fs S h = some (.ok ds, h') → ds.length = n) :
    JE X Wx (.Call (.Name x p) (e0 :: es) [] pos) (fun S h => bd (fs S h) fun ds h1 => bd (Φ x ds h1) fun d h2 => fix h d h2) := by
  obtain ⟨o1, o2, o3⟩ := okName_d ho
  obtain ⟨f, fd, ps, k, F, hr, hm, hk, hb⟩ := (c.fns x n hf).ex
  refine PE.imp (pe_callSD (E := fun σ => WE Wx σ) F hr (gl_of c hg) hm hk hb .nil (fun σ => passAt c.takes σ) js o1 (starEach_of ns) (hpl _)) fun σ H Q ⟨ρ, S, h, rr, A, e, Fi⟩ => ?_
  obtain ⟨ra, e1, F1⟩ := Fin.bd (Pa := fun ρ' h' H' ds => ∀ vs, RL (wd X ρ' h' H') vs ds → spF X.prog X.w X.K X.mg Φ x n (vs ++ []) H' Q (WE Wx σ)) e Fi fun ds h1 ρ1 H1 eq1 g1 A1 e1 F1 vs rs => by
    rw [List.append_nil]
    refine ⟨ρ1, h1, ds, ?_⟩
    cases z : Φ x ds h1 with
    | none => rw [z] at e1; cases e1
    | some r =>
      refine ⟨r, A1.rep, rs, hlen _ _ _ _ eq1, rfl, ?_⟩
      match r, z with
      | (.ok d, h'), z =>
        rw [z] at e1
        intro ρ' H' v g2 p2 rv
        have e2 : fix h d h' = some rr := e1
        have A2 : At X ρ' h' H' σ S := ⟨p2, A1.sl.go g2 A1.rep⟩
        obtain ⟨d', h3, rfl, g3, A3, r3⟩ := fix_ok A (g1.trans g2) A2 (rv.since g1) e2
        exact Fi ρ' H' g3 A3 v r3
      | (.ex C fs', h'), z =>
        rw [z] at e1
        intro ρ' H' cls dx g2 p2 rx
        have e2 : some (Rs.ex C fs', h') = some rr := e1
        cases e2
        exact Fi ρ' H' cls dx (g1.trans g2) ⟨p2, A1.sl.go g2 A1.rep⟩ rx
  exact ⟨ρ, S, h, ra, A, e1, F1⟩
theorem je_call0 {x : Str} {p pos : Pos} (c : Cok G Φ Γ X Wx) (hg : glB Γ.sc x = true) (ho : okName x = true) (hf : G.fns.lookup x = some 0) :
    JE X Wx (.Call (.Name x p) [] [] pos) (fun S h => match Φ x [] h with
      | some (.ok d, h2) => fix h d h2
      | _ => none) := by
  obtain ⟨o1, o2, o3⟩ := okName_d ho
  obtain ⟨f, fd, ps, k, F, hr, hm, hk, hb⟩ := (c.fns x 0 hf).ex
  refine PE.imp (pe_call0 F hr (gl_of c hg) hm hk hb .nil passL o1) fun σ H Q ⟨ρ, S, h, rr, A, e, Fi⟩ => ?_
  dsimp only at e
  split at e
  · rename_i d h2 z
    refine ⟨ρ, h, [], _, A.rep, .nil, rfl, z, fun ρ' H' v g2 p2 rv => ?_⟩
    have A2 : At X ρ' h2 H' σ S := ⟨p2, A.sl.go g2 A.rep⟩
    obtain ⟨d', h3, rfl, g3, A3, r3⟩ := fix_ok A g2 A2 rv e
    exact Fi ρ' H' g3 A3 v r3
  · cases e
end
end Z

/-! Z7: built-ins, methods, subscripts, comprehensions -/
namespace Z
open PySem L2
section
variable {G : Gs} {Φ : CallF} {Γ : Sc} {X : Cx} {Wx : WX}

/-- an object of ours is changed -/
theorem At.write {ρ : Nat → Addr} {h : Hh} {H : Hp} {σ : St} {S : Sl} (A : At X ρ h H σ S) {n : Nat} (hn : n < h.length) {u : HO} {o : O}
    (r : Le (wd X ρ h H) (wd X ρ (h.set n o) (upd H (ρ n) u)) → RO (wd X ρ (h.set n o) (upd H (ρ n) u)) (ρ n) o) :
    Go (wd X ρ h H) (wd X ρ (h.set n o) (upd H (ρ n) u)) ∧ At X ρ (h.set n o) (upd H (ρ n) u) σ S := by
  have hl : (h.set n o).length = h.length := List.length_set
  have g : Go (wd X ρ h H) (wd X ρ (h.set n o) (upd H (ρ n) u)) := by
    refine ⟨rfl, rfl, Nat.le_of_eq hl.symm, fun _ _ => rfl, fun a b q f => ?_, fun a q => ?_, fun i x y => ?_⟩
    · show upd H (ρ n) u a = some b
      rw [upd_ne (Ne.symm (f n hn))]
      exact q
    · have q' : upd H (ρ n) u a = none := q
      by_cases c : a = ρ n
      · rw [c, upd_same] at q'; cases q'
      · rwa [upd_ne c] at q'
    · have x' : h.length ≤ i := x
      have y' : i < (h.set n o).length := y
      omega
  refine ⟨g, ⟨⟨rfl, fun i j hi hj => A.rep.inj i j (by have h1 : i < (h.set n o).length := hi; show i < h.length; omega) (by have h1 : j < (h.set n o).length := hj; show j < h.length; omega), fun i b q => ?_⟩, A.sl.go g A.rep⟩⟩
  by_cases c : n = i
  · subst c
    rw [List.getElem?_set_self hn] at q
    cases q
    exact r (g.le A.rep)
  · rw [List.getElem?_set_ne c] at q
    have hi : i < h.length := (List.getElem?_eq_some_iff.mp q).1
    refine (A.rep.obj i b q).keep g A.rep (upd_ne fun z => c ?_)
    exact (A.rep.inj i n hi hn z).symm

theorem pd_of {ρ : Nat → Addr} {h : Hh} {H H0 : Hp} : ∀ {vs : List V} {ds : List D}, RL (wd X ρ h H) vs ds → Paired (fun v d => RE (wd X ρ h H) H0 v d) vs ds
  | _, _, .nil => .nil
  | _, _, .cons r t => .cons (.held r) (pd_of t)

/-- f(e) of a built-in -/
theorem je_cal1 {x : Str} {ex : Expr} {f : EF} {p pos : Pos} {F : Value} {g : Hh → List D → Option D} (pe : ∀ {r : List V → Hp → VK → Prop} {t : TA}, CallR X F r → PA X [ex] t → PE X (.Call (.Name x p) [ex] [] pos) (tCB r t))
    (k : Cal X F g) (j : JE X Wx ex f) (ns : ∀ y p, ex ≠ .Starred y p) : JE X Wx (.Call (.Name x p) [ex] [] pos) (fun S h => bd (f S h) fun d h1 => pu (g h1 [d]) h1) := by
  obtain ⟨r, hr, k⟩ := k
  refine PE.imp (pe hr (pa_cons j pa_nil (starEach_of ns))) fun σ H Q ⟨ρ, S, h, rr, A, e, F⟩ => ?_
  refine tE.bd A e F fun d h1 ρ1 H1 v g1 A1 rv e1 F1 => ?_
  obtain ⟨d', ed, q⟩ := Fin.pu e1 F1
  exact k ρ1 h1 H1 σ S H [d] [v] d' Q A1 (fun a z => g1.dom a z) (.cons rv .nil) ed fun H' v' g' A' r' => q ρ1 H' g' A' v' r'
theorem je_cals {x : Str} {e0 : Expr} {es : List Expr} {fs : AF} {p pos : Pos} {F : Value} {g : Hh → List D → Option D} (pe : ∀ {r : List V → Hp → VK → Prop} {t : TA}, CallR X F r → PA X (e0 :: es) t → PE X (.Call (.Name x p) (e0 :: es) [] pos) (tCB r t))
    (k : Cal X F g) (js : JA X Wx (e0 :: es) fs) : JE X Wx (.Call (.Name x p) (e0 :: es) [] pos) (fun S h => bd (fs S h) fun ds h1 => pu (g h1 ds) h1) := by
  obtain ⟨r, hr, k⟩ := k
  refine PE.imp (pe hr js) fun σ H Q ⟨ρ, S, h, rr, A, e, F⟩ => ?_
  refine tA.bd A e F fun ds h1 ρ1 H1 vs g1 A1 rs e1 F1 => ?_
  obtain ⟨d', ed, q⟩ := Fin.pu e1 F1
  exact k ρ1 h1 H1 σ S H ds vs d' Q A1 (fun a z => g1.dom a z) (pd_of rs) ed fun H' v' g' A' r' => q ρ1 H' g' A' v' r'
theorem je_bl1 {x : Str} {b : Bn} {ex : Expr} {f : EF} {p pos : Pos} (c : Cok G Φ Γ X Wx) (hg : glB Γ.sc x = true) (ho : okName x = true) (hb : x ∈ G.blt) (hx : x = b.nm) (h1 : b.one = true) (j : JE X Wx ex f) (ns : ∀ y p, ex ≠ .Starred y p) :
    JE X Wx (.Call (.Name x p) [ex] [] pos) (fun S h => bd (f S h) fun d h1 => pu (bltD h1 b [d]) h1) := by
  obtain ⟨o1, o2, o3⟩ := okName_d ho
  have gl := gl_of c hg
  have mn := c.blt x hb
  subst hx
  cases b with
  | len => exact je_cal1 (fun hc ha => pe_callB hc gl mn (by decide +kernel) ha o3 o1 (starEach_of ns) rfl) cal_len j ns
  | sum => exact je_cal1 (fun hc ha => pe_callB hc gl mn (by decide +kernel) ha o3 o1 (starEach_of ns) rfl) (cal_sum c.calm) j ns
  | any => exact je_cal1 (fun hc ha => pe_callB hc gl mn (by decide +kernel) ha o3 o1 (starEach_of ns) rfl) (cal_any c.calm) j ns
  | all => exact je_cal1 (fun hc ha => pe_callB hc gl mn (by decide +kernel) ha o3 o1 (starEach_of ns) rfl) (cal_all c.calm) j ns
  | str => exact je_cal1 (fun hc ha => pe_callTy hc gl mn (by decide +kernel) ha o3 o1 (starEach_of ns) rfl) cal_str j ns
  | int => exact je_cal1 (fun hc ha => pe_callTy hc gl mn (by decide +kernel) ha o3 o1 (starEach_of ns) rfl) cal_int j ns
  | list => exact je_cal1 (fun hc ha => pe_callTy hc gl mn (by decide +kernel) ha o3 o1 (starEach_of ns) rfl) cal_list j ns
  | tuple => exact je_cal1 (fun hc ha => pe_callTy hc gl mn (by decide +kernel) ha o3 o1 (starEach_of ns) rfl) cal_tuple j ns
  | isi => cases h1
theorem je_blt {x : Str} {b : Bn} {e0 : Expr} {es : List Expr} {fs : AF} {p pos : Pos} (c : Cok G Φ Γ X Wx) (hg : glB Γ.sc x = true) (ho : okName x = true) (hb : x ∈ G.blt) (hx : x = b.nm) (h1 : b.one = false) (js : JA X Wx (e0 :: es) fs) (ns : ∀ y p, e0 ≠ .Starred y p)
    (hpl : ∀ pos, (backTo pos (starEach es X.env)).any (·.1) = false) : JE X Wx (.Call (.Name x p) (e0 :: es) [] pos) (fun S h => bd (fs S h) fun ds h1 => pu (bltD h1 b ds) h1) := by
  obtain ⟨o1, o2, o3⟩ := okName_d ho
  have gl := gl_of c hg
  have mn := c.blt x hb
  subst hx
  cases b with
  | isi => exact je_cals (fun hc ha => pe_callB hc gl mn (by decide +kernel) ha o3 o1 (starEach_of ns) (hpl _)) cal_isi js
  | _ => cases h1

/-! ### methods -/
theorem mth_ok (m : Mn) : ∃ id r, PySem.Slot "str" m.nm id ∧ typeOf (.builtin id) = pure (.type "method_descriptor") ∧ MtR X id r ∧
    ∀ ρ h H σ S H0 z y vy d Q, At X ρ h H σ S → (∀ a, H a = none → H0 a = none) → RE (wd X ρ h H) H0 vy y → mthD h z m y = some d →
    (∀ H' v, Go (wd X ρ h H) (wd X ρ h H') → At X ρ h H' σ S → RE (wd X ρ h H') H0 v d → Q v H') → r (.str z) [vy] H Q := by
  cases m with
  | split =>
    refine ⟨_, _, PySem.F.slot_str_split, PySem.F.type_str_split, mt_split, fun ρ h H σ S H0 z y vy d Q A dm ry e k => ?_⟩
    simp only [mthD] at e
    split at e
    · rename_i b
      split at e
      · rename_i c
        cases e
        refine ⟨z, b, rfl, by rw [ry.str_inv], c.1, c.2, fun p hp => ?_⟩
        obtain ⟨g, A', r'⟩ := A.new hp (dm _ hp) (RL.of_map (W := wd X ρ h H) (f := V.str) (g := D.str) (fun a => .str a) (Txt.split z b))
        exact k _ _ g A' r'
      · cases e
    · cases e
  | join =>
    refine ⟨_, _, PySem.F.slot_str_join, PySem.F.type_str_join, mt_join, fun ρ h H σ S H0 z y vy d Q A dm ry e k => ?_⟩
    simp only [mthD] at e
    split at e
    · rename_i xs es
      split at e
      · rename_i ys eys
        split at e
        · rename_i c
          cases e
          obtain ⟨p, vs, rfl, q, rl⟩ := sq_of A ry es
          have := strs_of rl eys
          subst this
          exact ⟨z, p, ys, rfl, rfl, q, c, k _ _ (Go.refl _) A (.held (.str _))⟩
        · cases e
      · cases e
    · cases e
  | index =>
    refine ⟨_, _, PySem.F.slot_str_index, PySem.F.type_str_index, mt_sindex, fun ρ h H σ S H0 z y vy d Q A dm ry e k => ?_⟩
    simp only [mthD] at e
    split at e
    · rename_i b
      split at e
      · rename_i i rest eo
        cases e
        exact ⟨z, b, i, rest, rfl, by rw [ry.str_inv], eo, k _ _ (Go.refl _) A (.held (.int _))⟩
      · cases e
    · cases e
theorem je_met1 {x : Str} {m : Mn} {o ex : Expr} {fo f : EF} {apos pos : Pos} (hm : x = m.nm) (hl : (apos.endLine == pos.line) = true) (hs : nsup o = true) (jo : JE X Wx o fo) (j : JE X Wx ex f) (ns : ∀ y p, ex ≠ .Starred y p) :
    JE X Wx (.Call (.Attribute o x apos) [ex] [] pos) (fun S h => bd (vv fo S h) fun x h1 => match x with
      | .str z => bd (f S h1) fun d h2 => pu (mthD h2 z m d) h2
      | _ => none) := by
  subst hm
  obtain ⟨id, r, slot, ty, rule, k⟩ := mth_ok (X := X) m
  refine PE.imp (pe_m1 slot ty rule (JE.vv jo) j (starEach_of ns) (base_of hs) hl) fun σ H Q ⟨ρ, S, h, rr, A, e, F⟩ => ?_
  refine tE.bd A e F fun x h1 ρ1 H1 vx g1 A1 rx e1 F1 => ?_
  split at e1
  · rename_i z
    refine ⟨⟨z, rx.str_inv⟩, ?_⟩
    refine tE.bd A1 e1 F1 fun d h2 ρ2 H2 vy g2 A2 ry e2 F2 => ?_
    obtain ⟨d', ed, q⟩ := Fin.pu e2 F2
    rw [rx.str_inv]
    exact k ρ2 h2 H2 σ S H z d vy d' Q A2 (fun a z => g1.dom a (g2.dom a z)) (ry.since g1) ed fun H' v' g' A' r' => q ρ2 H' g' A' v' r'
  · cases e1
theorem few1 {ex : Expr} {cpos : Pos} {env : Env} (ns : ∀ y p, ex ≠ .Starred y p) : ((backTo cpos (starEach (ex :: []) env)).all (fun x => !x.1) && (backToKw cpos (keywordEach [] env)).all (fun x => x.1.isSome)
      && decide ((ex :: []).length + ([] : List Keyword).length + (if ([] : List Keyword).isEmpty then 0 else 1) < 30)) = true := by
  rw [starEach_of ns]
  rfl
theorem je_append {x : Str} {m : Mu} {o ex : Expr} {fo : EF} {fs : AF} {apos pos : Pos} (hm : x = m.nm) (hl : (apos.endLine == pos.line) = true) (hs : nsup o = true) (jo : JE X Wx o fo) (js : JA X Wx [ex] fs) (ns : ∀ y p, ex ≠ .Starred y p) :
    JE X Wx (.Call (.Attribute o x apos) [ex] [] pos) (fun S h => bd (vv fo S h) fun x h1 => match x with
      | .ref n => match h1[n]? with
        | some (.lst _) => bd (fs S h1) fun ds h2 => match mutD h2 n m ds with
          | some (d, h3) => some (.ok d, h3)
          | none => none
        | _ => none
      | _ => none) := by
  subst hm
  cases m
  refine PE.imp (pe_bm PySem.F.plainAttrs_list PySem.F.slot_list_append PySem.F.type_list_append mt_append (JE.vv jo) js (base_of hs) (few1 ns) hl (starEach_of ns) rfl) fun σ H Q ⟨ρ, S, h, rr, A, e, F⟩ => ?_
  refine tE.bd A e F fun x h1 ρ1 H1 vx g1 A1 rx e1 F1 => ?_
  split at e1
  · rename_i n
    split at e1
    · rename_i xs0 ex0
      cases rx with
      | held rx =>
        cases rx with
        | ref n hn =>
          refine ⟨?_, ?_⟩
          · cases A1.cell ex0 with
            | lst q rl => exact .inl ⟨rfl, _, SqL.of q⟩
          · refine tA.bd A1 e1 F1 fun ds h2 ρ2 H2 vs g2 A2 rs e2 F2 => ?_
            split at e2
            · rename_i d h3 em
              cases e2
              simp only [mutD] at em
              split at em
              · rename_i d0
                split at em
                · rename_i xs exs
                  split at em
                  · rename_i hz
                    cases em
                    obtain ⟨v, ws, rfl, rv, rw'⟩ := rs.cons_inv
                    have := rw'.nil_inv
                    subst this
                    have hn2 : n < h2.length := (List.getElem?_eq_some_iff.mp exs).1
                    cases A2.cell exs with
                    | lst q rl =>
                      rename_i us
                      obtain ⟨g', A'⟩ := A2.write (u := .lst (us ++ [v])) (o := .lst (xs ++ [d0])) hn2 fun le => .lst upd_same ((rl.append (.cons rv .nil)).le le)
                      refine ⟨ρ2 n, us, v, ?_, rfl, q, by rw [rl.length]; exact hz, F2 ρ2 _ g' A' _ (.held .non)⟩
                      have : (wd X ρ2 h2 H2).ρ n = (wd X ρ1 h1 H1).ρ n := g2.ag n hn
                      exact congrArg V.ref this.symm
                  · cases em
                · cases em
              · cases em
            · cases e2
    · cases e1
  · cases e1

/-! ### subscripts -/
theorem je_ix {a b : Expr} {fa fb : EF} {pos : Pos} (ja : JE X Wx a fa) (jb : JE X Wx b fb) (hn : nsl b = true) : JE X Wx (.Subscript a b pos) (fun S h => bd (fa S h) fun x h1 => bd (fb S h1) fun y h2 => pu (ixD h2 x y) h2) := by
  obtain ⟨r, o, k⟩ := ix_ok (X := X)
  refine PE.imp (pe_ix o ja jb (plainIx_of hn)) fun σ H Q ⟨ρ, S, h, rr, A, e, F⟩ => ?_
  refine tE.bd A e F fun x h1 ρ1 H1 vx g1 A1 rx e1 F1 => ?_
  refine tE.bd A1 e1 F1 fun y h2 ρ2 H2 vy g2 A2 ry e2 F2 => ?_
  obtain ⟨d, ed, q⟩ := Fin.pu e2 F2
  exact k ρ2 h2 H2 σ S H x y vx vy d Q A2 (A1.newer g2 rx) (ry.since g1) ed fun H' v g A' r' => q ρ2 H' g A' v r'
/-- an optional part -/
abbrev OF := Sl → Hh → M (Option Int)
def tOo (X : Cx) (Wx : WX) (f : OF) : TO := fun σ H Q => ∃ ρ S h r, At X ρ h H σ S ∧ f S h = some r ∧ Fin X Wx ρ h H σ S r fun _ _ H' b => Q b H'
abbrev JO (X : Cx) (Wx : WX) (e : Option Expr) (f : OF) : Prop := PO X e (tOo X Wx f)
theorem PO.imp {e : Option Expr} {t t' : TO} (h : PO X e t) (i : ∀ σ H Q, t' σ H Q → t σ H Q) : PO X e t' := ⟨fun pins s σ H Q I q => h.run pins s σ H Q I (i _ _ _ q)⟩
theorem jo_no : JO X Wx none (fun _ h => some (.ok none, h)) := by
  refine PO.imp po_none fun σ H Q ⟨ρ, S, h, rr, A, e, F⟩ => ?_
  cases e
  exact F ρ H (Go.refl _) A
theorem jo_yes {ex : Expr} {f : EF} (j : JE X Wx ex f) : JO X Wx (some ex) (fun S h => bd (f S h) fun x h1 => match x with
      | .int i => some (.ok (some i), h1)
      | _ => none) := by
  refine PO.imp (po_some j) fun σ H Q ⟨ρ, S, h, rr, A, e, F⟩ => ?_
  refine tE.bd A e F fun x h1 ρ1 H1 vx g1 A1 rx e1 F1 => ?_
  split at e1
  · rename_i i
    cases e1
    exact ⟨i, rx.int_inv, F1 ρ1 H1 (Go.refl _) A1⟩
  · cases e1
theorem tOo.bd {β : Type} {ρ : Nat → Addr} {h : Hh} {H : Hp} {σ : St} {S : Sl} {fa : OF} {k : Option Int → Hh → M β} {r : Rs β × Hh} {P : (Nat → Addr) → Hh → Hp → β → Prop} {Q : Option Int → Hp → Prop} (A : At X ρ h H σ S)
    (e : Z.bd (fa S h) k = some r) (F : Fin X Wx ρ h H σ S r P)
    (hk : ∀ b h1 ρ' H', Go (wd X ρ h H) (wd X ρ' h1 H') → At X ρ' h1 H' σ S → k b h1 = some r → Fin X Wx ρ' h1 H' σ S r P → Q b H') : tOo X Wx fa σ H Q := by
  obtain ⟨ra, e1, F1⟩ := Fin.bd (Pa := fun _ _ H' b => Q b H') e F fun b h1 ρ' H' _ g A1 ek F1 => hk b h1 ρ' H' g A1 ek F1
  exact ⟨ρ, S, h, ra, A, e1, F1⟩
theorem je_slc {a : Expr} {lo hi : Option Expr} {fa : EF} {fl fu : OF} {p2 pos : Pos} (ja : JE X Wx a fa) (jl : JO X Wx lo fl) (ju : JO X Wx hi fu) :
    JE X Wx (.Subscript a (.Slice lo hi none p2) pos) (fun S h => bd (fa S h) fun x h1 => bd (fl S h1) fun l h2 => bd (fu S h2) fun u h3 => pu (slcD h3 x l u) h3) := by
  obtain ⟨r, o, k⟩ := sl_ok (X := X)
  refine PE.imp (pe_slice o ja jl ju) fun σ H Q ⟨ρ, S, h, rr, A, e, F⟩ => ?_
  refine tE.bd A e F fun x h1 ρ1 H1 vx g1 A1 rx e1 F1 => ?_
  refine tOo.bd A1 e1 F1 fun l h2 ρ2 H2 g2 A2 e2 F2 => ?_
  refine tOo.bd A2 e2 F2 fun u h3 ρ3 H3 g3 A3 e3 F3 => ?_
  obtain ⟨d, ed, q⟩ := Fin.pu e3 F3
  exact k ρ3 h3 H3 σ S H x vx l u d Q A3 (fun a z => g1.dom a (g2.dom a (g3.dom a z))) (A2.newer g3 (A1.newer g2 rx)) ed fun H' v g A' r' => q ρ3 H' g A' v r'

/-- a written text and a replaced one -/
theorem je_crep {o : Expr} {fo : EF} {c y z : Str} {k0 k1 k2 : Nat} {p0 p1 p2 apos cpos pos : Pos} (hyz : (y == z) = false) (hl : (apos.endLine == cpos.line) = true) (hs : nsup o = true) (jo : JE X Wx o fo) :
    JE X Wx (.BinOp (.Constant (.str c) k0 p0) .Add (.Call (.Attribute o "replace" apos) [.Constant (.str y) k1 p1, .Constant (.str z) k2 p2] [] cpos) pos) (fun S h => bd (fo S h) fun x h1 => match x with
      | .str x => if x.length + (x.length + 1) * z.length ≤ 16777216 ∧ c.length + (Txt.replace x y z).length ≤ sizeLine then some (.ok (.str (c ++ Txt.replace x y z)), h1) else none
      | _ => none) := by
  refine ⟨fun pins s σ H Q I ⟨ρ, S, h, rr, A, e, F⟩ => ?_⟩
  refine wpAny_BinOp (Calls.Constant_str ?_)
  have I' : Inv X pins σ H { s with toks := s.toks + 1 } := I.tok _
  have hq : CwR.tReplC (tE X Wx fo) y z σ H (fun v H1 => ∃ x, v = .str (Txt.replace x y z) ∧ c.length + (Txt.replace x y z).length ≤ sizeLine ∧ Q (.str (c ++ Txt.replace x y z)) H1) := by
    refine tE.bd A e F fun x h1 ρ1 H1 vx g1 A1 rx e1 F1 => ?_
    split at e1
    · rename_i x
      split at e1
      · rename_i hz
        cases e1
        exact ⟨x, rx.str_inv, hz.1, x, rfl, hz.2, F1 ρ1 H1 (Go.refl _) A1 _ (.held (.str _))⟩
      · cases e1
    · cases e1
  refine thn (CwR.pet_replC jo hyz rfl (base_of hs) hl pins _ σ H _ (by show 1 ≤ s.toks + 1; omega) I' hq) fun v s1 ⟨w, H1, I1, r1, x, ew, hz, q⟩ => ?_
  subst ew
  obtain ⟨t, rfl⟩ := r1
  exact op_add_str pins s1 σ H1 (.str c) (.str (Txt.replace x y z)) _ _ Q I1 ⟨_, rfl⟩ ⟨_, rfl⟩ ⟨c, Txt.replace x y z, rfl, rfl, hz, q⟩
end
end Z

/-! Z8: what is walked; comprehensions -/
namespace Z
open PySem L2
section
variable {G : Gs} {Φ : CallF} {Γ : Sc} {X : Cx} {Wx : WX}

/-- an iterator over these items, so long as what must stay stays -/
def Wk (X : Cx) (s : Src) (ρ : Nat → Addr) (h : Hh) (H : Hp) (J : L2.It) : Prop := ∀ ρ2 h2 H2 σ S, Go (wd X ρ h H) (wd X ρ2 h2 H2) → At X ρ2 h2 H2 σ S → stayB h2 s.stay →
  J.stop s.items.length H2 ∧ ∀ i, i < s.items.length → J.go i H2 ∧ ∀ x H3, J.yld i H2 x H3 → ∃ d, s.items[i]? = some d ∧ Go (wd X ρ2 h2 H2) (wd X ρ2 h2 H3) ∧ At X ρ2 h2 H3 σ S ∧ R (wd X ρ2 h2 H3) x d
abbrev IF := Sl → Hh → M Src
def tI (X : Cx) (Wx : WX) (f : IF) : TI := fun σ H R => ∃ ρ S h r, At X ρ h H σ S ∧ f S h = some r ∧ Fin X Wx ρ h H σ S r fun ρ' h' H' s => ∀ J, Wk X s ρ' h' H' J → R J H'
abbrev JI (X : Cx) (Wx : WX) (tg e : Expr) (f : IF) : Prop := PI X tg e (tI X Wx f)

theorem stay_app {h : Hh} : ∀ {a b : List (Nat × List D)}, stayB h (a ++ b) → stayB h a ∧ stayB h b
  | [], _, s => ⟨trivial, s⟩
  | (n, xs) :: r, b, s => by
    obtain ⟨s1, s2⟩ := s
    obtain ⟨s3, s4⟩ := stay_app (a := r) s2
    exact ⟨⟨s1, s3⟩, s4⟩
/-- a list is, later, the list it was -/
theorem ls_later {ρ : Nat → Addr} {h : Hh} {H H0 : Hp} {σ : St} {S : Sl} {v : V} {d : D} {xs : List D} (A : At X ρ h H σ S) (r : RE (wd X ρ h H) H0 v d) (e : lsD h d = some xs) :
    ∃ a, v = .ref a ∧ ∀ ρ2 h2 H2 σ S, Go (wd X ρ h H) (wd X ρ2 h2 H2) → At X ρ2 h2 H2 σ S → stayB h2 (stayOf d xs) → ∃ vs, SqL X.K H2 a vs ∧ RL (wd X ρ2 h2 H2) vs xs := by
  cases r with
  | new q f _ rl =>
    have e' : some _ = some xs := e
    cases e'
    exact ⟨_, rfl, fun ρ2 h2 H2 σ S g A2 _ => ⟨_, SqL.of (g.keep _ _ q f), rl.go g A.rep⟩⟩
  | held r =>
    cases r with
    | ref n hn =>
      refine ⟨_, rfl, fun ρ2 h2 H2 σ S g A2 st => ?_⟩
      have en : ρ2 n = ρ n := g.ag n hn
      obtain ⟨s1, _⟩ := st
      cases A2.rep.obj n _ s1 with
      | lst q rl =>
        rename_i vs
        have q' : H2 (ρ2 n) = some (.lst vs) := q
        rw [en] at q'
        exact ⟨vs, SqL.of q', rl⟩
    | frl q rl =>
      cases e
      exact ⟨_, rfl, fun ρ2 h2 H2 σ S g A2 _ => ⟨_, ((g.le A.rep).fz _ _ q).sq, rl.go g A.rep⟩⟩
    | _ => cases e
theorem tup_later {ρ : Nat → Addr} {h : Hh} {H H0 : Hp} {σ : St} {S : Sl} {v : V} {xs : List D} (A : At X ρ h H σ S) (r : RE (wd X ρ h H) H0 v (.tup xs)) :
    ∃ a, v = .ref a ∧ ∀ ρ2 h2 H2, Go (wd X ρ h H) (wd X ρ2 h2 H2) → ∃ vs, SqT X.K H2 a vs ∧ RL (wd X ρ2 h2 H2) vs xs := by
  obtain ⟨a, vs, rfl, q, rl⟩ := r.tup_inv
  exact ⟨a, rfl, fun ρ2 h2 H2 g => ⟨vs, (g.le A.rep).tup _ _ q, rl.go g A.rep⟩⟩
theorem wk_list {ρ : Nat → Addr} {h : Hh} {H H0 : Hp} {σ : St} {S : Sl} {v : V} {d : D} {xs : List D} (A : At X ρ h H σ S) (r : RE (wd X ρ h H) H0 v d) (e : lsD h d = some xs) :
    ∃ a, v = .ref a ∧ (∃ vs, SqL X.K H a vs) ∧ Wk X ⟨xs, stayOf d xs⟩ ρ h H (Itl X.K a) := by
  obtain ⟨a, rfl, k⟩ := ls_later A r e
  obtain ⟨a', vs, e2, q, _⟩ := ls_of A r e
  cases e2
  refine ⟨a, rfl, ⟨vs, q⟩, fun ρ2 h2 H2 σ2 S2 g A2 st => ?_⟩
  obtain ⟨ws, q2, rl⟩ := k ρ2 h2 H2 σ2 S2 g A2 st
  have w := walk_list (K := X.K) (a := a) (xs := ws)
  refine ⟨by have := w.stops H2 q2; rw [rl.length] at this; exact this, fun i hi => ⟨w.goes i H2 (by rw [rl.length]; exact hi) q2, fun x H3 y => ?_⟩⟩
  obtain ⟨rfl, ex⟩ := w.yields i H2 x H3 (by rw [rl.length]; exact hi) q2 y
  obtain ⟨d, ed, rd⟩ := rl.getV i ex
  exact ⟨d, ed, Go.refl _, A2, rd⟩
theorem wk_tup {ρ : Nat → Addr} {h : Hh} {H H0 : Hp} {σ : St} {S : Sl} {v : V} {xs : List D} (A : At X ρ h H σ S) (r : RE (wd X ρ h H) H0 v (.tup xs)) (st0 : List (Nat × List D)) :
    ∃ a, v = .ref a ∧ (∃ vs, SqT X.K H a vs) ∧ Wk X ⟨xs, st0⟩ ρ h H (Itt X.K a) := by
  obtain ⟨a, rfl, k⟩ := tup_later A r
  obtain ⟨vs, q, _⟩ := k ρ h H (Go.refl _)
  refine ⟨a, rfl, ⟨vs, q⟩, fun ρ2 h2 H2 σ2 S2 g A2 st => ?_⟩
  obtain ⟨ws, q2, rl⟩ := k ρ2 h2 H2 g
  have w := walk_tup (K := X.K) (a := a) (xs := ws)
  refine ⟨by have := w.stops H2 q2; rw [rl.length] at this; exact this, fun i hi => ⟨w.goes i H2 (by rw [rl.length]; exact hi) q2, fun x H3 y => ?_⟩⟩
  obtain ⟨rfl, ex⟩ := w.yields i H2 x H3 (by rw [rl.length]; exact hi) q2 y
  obtain ⟨d, ed, rd⟩ := rl.getV i ex
  exact ⟨d, ed, Go.refl _, A2, rd⟩
theorem wk_str {ρ : Nat → Addr} {h : Hh} {H : Hp} (z : Str) : Wk X ⟨strItems z, []⟩ ρ h H (Its z) := by
  intro ρ2 h2 H2 σ2 S2 g A2 st
  have w := walk_str (z := z)
  have hl : (strItems z).length = z.cps.size := by simp [strItems]
  refine ⟨by have := w.stops H2 trivial; rw [← hl] at this; exact this, fun i hi => ⟨w.goes i H2 (by rw [← hl]; exact hi) trivial, fun x H3 y => ?_⟩⟩
  obtain ⟨rfl, c, ec, rfl⟩ := w.yields i H2 x H3 (by rw [← hl]; exact hi) trivial y
  refine ⟨.str ⟨#[c]⟩, ?_, Go.refl _, A2, .str _⟩
  show (strItems z)[i]? = _
  unfold strItems
  rw [List.getElem?_map, Array.getElem?_toList, ec]
  rfl
theorem wk_rng {ρ : Nat → Addr} {h : Hh} {H : Hp} (lo : Int) (n : Nat) : Wk X ⟨rngItems lo n, []⟩ ρ h H (Itr lo n) := by
  intro ρ2 h2 H2 σ2 S2 g A2 st
  have w := walk_range (lo := lo) (n := n)
  have hl : (rngItems lo n).length = n := by simp [rngItems]
  refine ⟨by have := w.stops H2 trivial; show (Itr lo n).stop (rngItems lo n).length H2; rw [hl]; exact this, fun i hi => ?_⟩
  have hi' : i < n := by rw [← hl]; exact hi
  refine ⟨w.goes i H2 hi' trivial, fun x H3 y => ?_⟩
  obtain ⟨rfl, rfl⟩ := w.yields i H2 x H3 hi' trivial y
  refine ⟨.int (lo + (i : Nat)), ?_, Go.refl _, A2, .int _⟩
  show (rngItems lo n)[i]? = _
  unfold rngItems
  rw [List.getElem?_map, List.getElem?_range hi']
  rfl
theorem enItems_get : ∀ (xs : List D) (k i : Nat) {d : D}, xs[i]? = some d → (enItems k xs)[i]? = some (.tup [.int ((k + i : Nat) : Int), d])
  | [], _, _, _, e => by simp at e
  | x :: xs, k, 0, d, e => by simp at e; subst e; rfl
  | x :: xs, k, i + 1, d, e => by
    have := enItems_get xs (k + 1) i (d := d) (by simpa using e)
    show (enItems (k + 1) xs)[i]? = _
    rw [this, show k + 1 + i = k + (i + 1) by omega]
theorem enItems_len : ∀ (xs : List D) (k : Nat), (enItems k xs).length = xs.length
  | [], _ => rfl
  | _ :: xs, k => congrArg (· + 1) (enItems_len xs (k + 1))
theorem zpItems_len : ∀ (xs ys : List D), (zpItems xs ys).length = min xs.length ys.length
  | [], _ => by simp [zpItems]
  | _ :: _, [] => by simp [zpItems]
  | _ :: xs, _ :: ys => by
    show (zpItems xs ys).length + 1 = _
    rw [zpItems_len xs ys]
    simp only [List.length_cons]
    omega
theorem zpItems_get : ∀ (xs ys : List D) (i : Nat) {a b : D}, xs[i]? = some a → ys[i]? = some b → (zpItems xs ys)[i]? = some (.tup [a, b])
  | [], _, _, _, _, e, _ => by simp at e
  | _ :: _, [], _, _, _, _, e => by simp at e
  | x :: xs, y :: ys, 0, a, b, e, f => by simp at e f; subst e; subst f; rfl
  | x :: xs, y :: ys, i + 1, a, b, e, f => by
    show (zpItems xs ys)[i]? = _
    exact zpItems_get xs ys i (by simpa using e) (by simpa using f)
theorem wk_en {ρ : Nat → Addr} {h : Hh} {H H0 : Hp} {σ : St} {S : Sl} {v : V} {d : D} {xs : List D} (A : At X ρ h H σ S) (r : RE (wd X ρ h H) H0 v d) (e : lsD h d = some xs) :
    ∃ a vs, v = .ref a ∧ SqL X.K H a vs ∧ Wk X ⟨enItems 0 xs, stayOf d xs⟩ ρ h H (Ite X.K a) := by
  obtain ⟨a, rfl, k⟩ := ls_later A r e
  obtain ⟨a', vs, e2, q, _⟩ := ls_of A r e
  cases e2
  refine ⟨a, vs, rfl, q, fun ρ2 h2 H2 σ2 S2 g A2 st => ?_⟩
  obtain ⟨ws, q2, rl⟩ := k ρ2 h2 H2 σ2 S2 g A2 st
  have w := walk_enum (K := X.K) (a := a) (xs := ws)
  have hl : (enItems 0 xs).length = ws.length := by rw [enItems_len, rl.length]
  refine ⟨by have := w.stops H2 q2; rw [← hl] at this; exact this, fun i hi => ?_⟩
  have hi' : i < ws.length := by rw [← hl]; exact hi
  refine ⟨w.goes i H2 hi' q2, fun x H3 y => ?_⟩
  obtain ⟨T, p, u, rfl, hT, rfl, e1, e2⟩ := w.yields i H2 x H3 hi' q2 y
  cases e1
  obtain ⟨du, edu, rdu⟩ := rl.getV i e2
  obtain ⟨g3, A3, r3⟩ := A2.newT hT (RL.cons (.int (i : Nat)) (.cons rdu .nil))
  refine ⟨_, ?_, g3, A3, r3⟩
  have := enItems_get xs 0 i edu
  rw [Nat.zero_add] at this
  exact this
theorem wk_zp {ρ : Nat → Addr} {h : Hh} {H H0 : Hp} {σ : St} {S : Sl} {v u : V} {d d' : D} {xs ys : List D} (A : At X ρ h H σ S) (r : RE (wd X ρ h H) H0 v d) (e : lsD h d = some xs) (r' : RE (wd X ρ h H) H0 u d') (e' : lsD h d' = some ys) :
    ∃ a b vs us, v = .ref a ∧ u = .ref b ∧ SqL X.K H a vs ∧ SqL X.K H b us ∧ Wk X ⟨zpItems xs ys, stayOf d xs ++ stayOf d' ys⟩ ρ h H (Itz X.K a b) := by
  obtain ⟨a, rfl, k⟩ := ls_later A r e
  obtain ⟨_, vs, z1, q, _⟩ := ls_of A r e
  cases z1
  obtain ⟨b, rfl, k'⟩ := ls_later A r' e'
  obtain ⟨_, us, z2, q', _⟩ := ls_of A r' e'
  cases z2
  refine ⟨a, b, vs, us, rfl, rfl, q, q', fun ρ2 h2 H2 σ2 S2 g A2 st => ?_⟩
  obtain ⟨st1, st2⟩ := stay_app st
  obtain ⟨ws, q2, rl⟩ := k ρ2 h2 H2 σ2 S2 g A2 st1
  obtain ⟨ws', q2', rl'⟩ := k' ρ2 h2 H2 σ2 S2 g A2 st2
  have w := walk_zip (K := X.K) (a := a) (b := b) (xs := ws) (ys := ws') rfl
  have hl : (zpItems xs ys).length = min ws.length ws'.length := by rw [zpItems_len, rl.length, rl'.length]
  refine ⟨by have := w.stops H2 ⟨q2, q2'⟩; rw [← hl] at this; exact this, fun i hi => ?_⟩
  have hi' : i < min ws.length ws'.length := by rw [← hl]; exact hi
  refine ⟨w.goes i H2 hi' ⟨q2, q2'⟩, fun x H3 y => ?_⟩
  obtain ⟨T, p, u, rfl, hT, rfl, e1, e2⟩ := w.yields i H2 x H3 hi' ⟨q2, q2'⟩ y
  obtain ⟨dp, edp, rdp⟩ := rl.getV i e1
  obtain ⟨du, edu, rdu⟩ := rl'.getV i e2
  obtain ⟨g3, A3, r3⟩ := A2.newT hT (RL.cons rdp (.cons rdu .nil))
  exact ⟨_, zpItems_get xs ys i edp edu, g3, A3, r3⟩

/-! ### the judgements of what is walked -/
theorem ji_sq {tg ex : Expr} {f : EF} (j : JE X Wx ex f) : JI X Wx tg ex (fun S h => bd (f S h) fun x h1 => match x with
      | .str z => some (.ok ⟨strItems z, []⟩, h1)
      | x => match sqD h1 x with
        | some xs => some (.ok ⟨xs, stayOf x xs⟩, h1)
        | none => none) := by
  refine ⟨fun pins s σ H Rr I ⟨ρ, S, h, rr, A, e, F⟩ => ?_⟩
  by_cases c1 : ∃ z h1, f S h = some (.ok (.str z), h1)
  · obtain ⟨z0, h0, ef⟩ := c1
    refine (pi_str j).run pins s σ H Rr I ?_
    refine tE.bd' ef A e F fun ρ1 H1 vx g1 A1 rx e1 F1 => ?_
    cases e1
    exact ⟨z0, rx.str_inv, F1 ρ1 H1 (Go.refl _) A1 _ (wk_str z0)⟩
  · by_cases c2 : ∃ zs h1, f S h = some (.ok (.tup zs), h1)
    · obtain ⟨zs, h0, ef⟩ := c2
      refine (pi_tup j).run pins s σ H Rr I ?_
      refine tE.bd' ef A e F fun ρ1 H1 vx g1 A1 rx e1 F1 => ?_
      cases e1
      obtain ⟨a, rfl, q, w⟩ := wk_tup A1 rx (stayOf (.tup zs) zs)
      exact ⟨a, rfl, q, F1 ρ1 H1 (Go.refl _) A1 _ w⟩
    · refine (pi_list j).run pins s σ H Rr I ?_
      refine tE.bdq A e F fun x h1 ρ1 H1 vx eq1 g1 A1 rx e1 F1 => ?_
      have e2 : (match lsD h1 x with
        | some xs => some (Rs.ok (⟨xs, stayOf x xs⟩ : Src), h1)
        | none => none) = some rr := by
        rw [← e1]
        cases x with
        | str z => exact (c1 ⟨_, _, eq1⟩).elim
        | tup zs => exact (c2 ⟨_, _, eq1⟩).elim
        | _ => rfl
      split at e2
      · rename_i xs ex
        cases e2
        obtain ⟨a, rfl, q, w⟩ := wk_list A1 rx ex
        exact ⟨a, rfl, q, F1 ρ1 H1 (Go.refl _) A1 _ w⟩
      · cases e2

theorem ji_r1 {tg a : Expr} {f : EF} {p pos : Pos} {y : Str} (c : Cok G Φ Γ X Wx) (hy : y = "range") (hg : glB Γ.sc y = true) (hb : y ∈ G.blt) (j : JE X Wx a f) (ns : ∀ y p, a ≠ .Starred y p) :
    JI X Wx tg (.Call (.Name y p) [a] [] pos) (fun S h => bd (f S h) fun x h1 => match x with
      | .int j => if -(2 ^ 62) ≤ j ∧ j < 2 ^ 62 then some (.ok ⟨rngItems 0 j.toNat, []⟩, h1) else none
      | _ => none) := by
  subst hy
  refine ⟨fun pins s σ H Rr I ⟨ρ, S, h, rr, A, e, F⟩ => ?_⟩
  refine (pi_range1 (gl_of c hg) (c.blt _ hb) (pa_cons j pa_nil (starEach_of ns)) (starEach_of ns)).run pins s σ H Rr I ?_
  refine tE.bd A e F fun x h1 ρ1 H1 vx g1 A1 rx e1 F1 => ?_
  split at e1
  · rename_i n
    split at e1
    · rename_i hz
      cases e1
      rw [rx.int_inv]
      exact ⟨n, rfl, hz.1, hz.2, F1 ρ1 H1 (Go.refl _) A1 _ (wk_rng 0 n.toNat)⟩
    · cases e1
  · cases e1
theorem ji_r2 {tg a b : Expr} {f f' : EF} {p pos : Pos} {y : Str} (c : Cok G Φ Γ X Wx) (hy : y = "range") (hg : glB Γ.sc y = true) (hb : y ∈ G.blt) (j : JE X Wx a f) (j' : JE X Wx b f') (ns : ∀ y p, a ≠ .Starred y p) (ns' : ∀ y p, b ≠ .Starred y p) :
    JI X Wx tg (.Call (.Name y p) [a, b] [] pos) (fun S h => bd (f S h) fun x h1 => bd (f' S h1) fun y h2 => match x, y with
      | .int i, .int j => if -(2 ^ 62) ≤ i ∧ i < 2 ^ 62 ∧ -(2 ^ 62) ≤ j ∧ j < 2 ^ 62 then some (.ok ⟨rngItems i (j - i).toNat, []⟩, h2) else none
      | _, _ => none) := by
  subst hy
  refine ⟨fun pins s σ H Rr I ⟨ρ, S, h, rr, A, e, F⟩ => ?_⟩
  refine (pi_range2 (gl_of c hg) (c.blt _ hb) (pa_cons j (pa_cons j' pa_nil (starEach_of ns')) (starEach_of ns)) (by rw [starEach_of ns, starEach_of ns']; rfl) (starEach_of ns')).run pins s σ H Rr I ?_
  refine tE.bd A e F fun x h1 ρ1 H1 vx g1 A1 rx e1 F1 => ?_
  refine tE.bd A1 e1 F1 fun y h2 ρ2 H2 vy g2 A2 ry e2 F2 => ?_
  split at e2
  · rename_i i k
    split at e2
    · rename_i hz
      cases e2
      rw [rx.int_inv, ry.int_inv]
      exact ⟨i, k, rfl, hz, F2 ρ2 H2 (Go.refl _) A2 _ (wk_rng i (k - i).toNat)⟩
    · cases e2
  · cases e2
theorem ji_en {a : Expr} {f : EF} {elts : List Expr} {kk : Nat} {p pos tpos : Pos} {y : Str} (c : Cok G Φ Γ X Wx) (hy : y = "enumerate") (hg : glB Γ.sc y = true) (hb : y ∈ G.blt) (j : JE X Wx a f) (ns : ∀ y p, a ≠ .Starred y p) :
    JI X Wx (.Tuple elts kk tpos) (.Call (.Name y p) [a] [] pos) (fun S h => bd (f S h) fun x h1 => match lsD h1 x with
      | some xs => some (.ok ⟨enItems 0 xs, stayOf x xs⟩, h1)
      | none => none) := by
  subst hy
  refine ⟨fun pins s σ H Rr I ⟨ρ, S, h, rr, A, e, F⟩ => ?_⟩
  refine (pi_enum (gl_of c hg) (c.blt _ hb) (pa_cons j pa_nil (starEach_of ns)) (starEach_of ns)).run pins s σ H Rr I ?_
  refine tE.bd A e F fun x h1 ρ1 H1 vx g1 A1 rx e1 F1 => ?_
  split at e1
  · rename_i xs ex
    cases e1
    obtain ⟨a, vs, rfl, q, w⟩ := wk_en A1 rx ex
    exact ⟨a, vs, rfl, q, F1 ρ1 H1 (Go.refl _) A1 _ w⟩
  · cases e1
theorem ji_zp {a b : Expr} {f f' : EF} {elts : List Expr} {kk : Nat} {p pos tpos : Pos} {y : Str} (c : Cok G Φ Γ X Wx) (hy : y = "zip") (hg : glB Γ.sc y = true) (hb : y ∈ G.blt) (j : JE X Wx a f) (j' : JE X Wx b f') (ns : ∀ y p, a ≠ .Starred y p) (ns' : ∀ y p, b ≠ .Starred y p) :
    JI X Wx (.Tuple elts kk tpos) (.Call (.Name y p) [a, b] [] pos) (fun S h => bd (f S h) fun x h1 => bd (f' S h1) fun y h2 => match lsD h2 x, lsD h2 y with
      | some xs, some ys => some (.ok ⟨zpItems xs ys, stayOf x xs ++ stayOf y ys⟩, h2)
      | _, _ => none) := by
  subst hy
  refine ⟨fun pins s σ H Rr I ⟨ρ, S, h, rr, A, e, F⟩ => ?_⟩
  refine (pi_zip (gl_of c hg) (c.blt _ hb) (pa_cons j (pa_cons j' pa_nil (starEach_of ns')) (starEach_of ns)) (starEach_of ns) (by rw [starEach_of ns']; rfl)).run pins s σ H Rr I ?_
  refine tE.bd A e F fun x h1 ρ1 H1 vx g1 A1 rx e1 F1 => ?_
  refine tE.bd A1 e1 F1 fun y h2 ρ2 H2 vy g2 A2 ry e2 F2 => ?_
  split at e2
  · rename_i xs ys ex ey
    cases e2
    obtain ⟨a, b, vs, us, rfl, rfl, q, q', w⟩ := wk_zp A2 (A1.newer g2 rx) ex (ry.since g1) ey
    exact ⟨a, b, vs, us, rfl, q, q', F2 ρ2 H2 (Go.refl _) A2 _ w⟩
  · cases e2
end
end Z

/-! Z9: targets; list comprehensions -/
namespace Z
open PySem L2
section
variable {G : Gs} {Φ : CallF} {Γ : Sc} {X : Cx} {Wx : WX}

theorem wipe_idem (σ : St) : ∀ vs : List Nat, ∀ i : Nat, ((wipe σ vs)[i]? = if i ∈ vs then (if i < σ.length then some none else none) else σ[i]?)
  | [], i => by simp [wipe]
  | v :: vs, i => by
    unfold wipe
    by_cases c : v = i
    · subst c
      by_cases hl : v < σ.length
      · rw [List.getElem?_set_self (by rw [wipe_length]; exact hl)]
        simp [hl]
      · rw [List.getElem?_eq_none (by rw [List.length_set, wipe_length]; omega)]
        simp [hl]
    · rw [List.getElem?_set_ne c, wipe_idem σ vs i]
      have : (i ∈ v :: vs) = (i ∈ vs) := by
        simp [List.mem_cons, Ne.symm c]
      simp only [this]
theorem wipe_eq {σ τ : St} {vs : List Nat} (hl : σ.length = τ.length) (h : ∀ i, i ∉ vs → σ[i]? = τ[i]?) : wipe σ vs = wipe τ vs := by
  refine List.ext_getElem? fun i => ?_
  rw [wipe_idem, wipe_idem, hl]
  split
  · rfl
  · exact h i (by assumption)
theorem wipe_wipe (σ : St) (vs : List Nat) : wipe (wipe σ vs) vs = wipe σ vs := by
  refine wipe_eq (wipe_length _ _) fun i hi => ?_
  rw [wipe_idem, if_neg hi]
theorem wipeS_at : ∀ (S : Sl) (vs : List Nat) (i : Nat), ((wipeS S vs)[i]? = if i ∈ vs then (if i < S.length then some none else none) else S[i]?) ∧ (wipeS S vs).length = S.length
  | S, [], i => by simp [wipeS]
  | S, v :: vs, i => by
    unfold wipeS
    have ih := wipeS_at S vs i
    refine ⟨?_, by rw [List.length_set]; exact ih.2⟩
    by_cases c : v = i
    · subst c
      by_cases hl : v < S.length
      · rw [List.getElem?_set_self (by rw [ih.2]; exact hl)]
        simp [hl]
      · rw [List.getElem?_eq_none (by rw [List.length_set, ih.2]; omega)]
        simp [hl]
    · rw [List.getElem?_set_ne c, ih.1]
      have : (i ∈ v :: vs) = (i ∈ vs) := by
        simp [List.mem_cons, Ne.symm c]
      simp only [this]
theorem RS.wipe {W : Wd} {σ : St} {S : Sl} (r : RS W σ S) (vs : List Nat) : RS W (L2.wipe σ vs) (wipeS S vs) := by
  refine ⟨by rw [wipe_length, (wipeS_at S vs 0).2]; exact r.len, fun i d e => ?_⟩
  rw [(wipeS_at S vs i).1] at e
  rw [wipe_idem]
  split at e
  · split at e <;> cases e
  · rename_i c
    rw [if_neg c]
    exact r.at_ i d e

/-! ### targets -/
def tG (X : Cx) (t : Tg) : TG := fun v σ H Q => ∃ ρ S h d S', At X ρ h H σ S ∧ R (wd X ρ h H) v d ∧ bindT h t d S = some S' ∧ ∀ σ', At X ρ h H σ' S' → σ'.length = σ.length → (∀ i, i ∉ tgIx t → σ'[i]? = σ[i]?) → Q σ' H
def tGs (X : Cx) (t : TL) : TGs := fun vs σ H Q => ∃ ρ S h ds S', At X ρ h H σ S ∧ RL (wd X ρ h H) vs ds ∧ bindTs h t ds S = some S' ∧ ∀ σ', At X ρ h H σ' S' → σ'.length = σ.length → (∀ i, i ∉ tgIxs t → σ'[i]? = σ[i]?) → Q σ' H
theorem PG.imp {e : Expr} {t t' : TG} (h : PG X e t) (i : ∀ v σ H Q, t' v σ H Q → t v σ H Q) : PG X e t' := ⟨fun pins s σ H v u Q I r q => h.run pins s σ H v u Q I r (i _ _ _ _ q)⟩
theorem PGs.imp {e : List Expr} {t t' : TGs} (h : PGs X e t) (i : ∀ v σ H Q, t' v σ H Q → t v σ H Q) : PGs X e t' := ⟨fun pins s σ H v u Q I r q => h.run pins s σ H v u Q I r (i _ _ _ _ q)⟩
theorem chkG_ns {t : Tg} {ex : Expr} (h : chkG Γ t ex = true) : ∀ y p, ex ≠ .Starred y p := by
  rintro y p rfl
  cases t <;> simp [chkG] at h
theorem assignEach_of {ex : Expr} {es : List Expr} {env : Env} (h : ∀ y p, ex ≠ .Starred y p) : assignEach (ex :: es) env = (false, assign ex env) :: assignEach es env := by
  cases ex <;> first | rfl | exact absurd rfl (h _ _)
theorem assignEach_len {env : Env} : ∀ {l : TL} {es : List Expr}, chkGL Γ l es = true → (assignEach es env).length = es.length ∧ (assignEach es env).findIdx? (·.1) = none
  | .nil, [], _ => ⟨rfl, rfl⟩
  | .nil, _ :: _, h => by simp [chkGL] at h
  | .cons t l, [], h => by simp [chkGL] at h
  | .cons t l, x :: xs, h => by
    simp only [chkGL, Bool.and_eq_true] at h
    rw [assignEach_of (chkG_ns h.1)]
    obtain ⟨h1, h2⟩ := assignEach_len (env := env) h.2
    refine ⟨by rw [List.length_cons, h1]; rfl, ?_⟩
    rw [List.findIdx?_cons]
    simp [h2]
theorem bindTs_len {h : Hh} : ∀ {l : TL} {ds : List D} {S S' : Sl} {es : List Expr}, chkGL Γ l es = true → bindTs h l ds S = some S' → ds.length = es.length
  | .nil, [], _, _, [], _, _ => rfl
  | .nil, [], _, _, _ :: _, c, _ => by simp [chkGL] at c
  | .nil, _ :: _, _, _, _, _, e => by simp [bindTs] at e
  | .cons t l, [], _, _, _, _, e => by simp [bindTs] at e
  | .cons t l, d :: ds, S, S', [], c, _ => by simp [chkGL] at c
  | .cons t l, d :: ds, S, S', x :: xs, c, e => by
    simp only [chkGL, Bool.and_eq_true] at c
    simp only [bindTs, Option.bind_eq_some_iff] at e
    obtain ⟨S1, _, e2⟩ := e
    rw [List.length_cons, List.length_cons, bindTs_len c.2 e2]
mutual
theorem jg (c : Cok G Φ Γ X Wx) : ∀ (t : Tg) (ex : Expr), chkG Γ t ex = true → PG X ex (tG X t)
  | .nm i, ex, h => by
    cases ex with
    | Name x pos =>
      simp only [chkG, Bool.and_eq_true, decide_eq_true_eq] at h
      refine PG.imp (pg_name (i := i) (by rw [c.N]; exact c.nd) (by rw [c.N]; exact h.1) (sto_of c h.2) (c.fn x h.2)) fun v σ H Q ⟨ρ, S, hh, d, S', A, r, e, k⟩ => ?_
      simp only [bindT, Option.some.injEq] at e
      subst e
      refine k _ ⟨A.rep, A.sl.set i r⟩ List.length_set fun j hj => ?_
      have : i ≠ j := fun z => hj (by simp [tgIx, z])
      rw [List.getElem?_set_ne this]
    | _ => simp [chkG] at h
  | .tp l, ex, h => by
    cases ex with
    | Tuple xs kk pos =>
      simp only [chkG] at h
      obtain ⟨h1, h2⟩ := assignEach_len (env := X.env) h
      refine PG.imp (pg_tup c.calm (jgs c l xs h) h1 h2) fun v σ H Q ⟨ρ, S, hh, d, S', A, r, e, k⟩ => ?_
      simp only [bindT] at e
      split at e
      · rename_i ds
        cases r with
        | tup q rl =>
          refine ⟨_, _, rfl, q, by rw [rl.length]; exact bindTs_len h e, ?_⟩
          exact ⟨ρ, S, hh, ds, S', A, rl, e, k⟩
      · cases e
    | _ => simp [chkG] at h
theorem jgs (c : Cok G Φ Γ X Wx) : ∀ (t : TL) (es : List Expr), chkGL Γ t es = true → PGs X es (tGs X t)
  | .nil, [], _ => by
    refine PGs.imp pgs_nil fun vs σ H Q ⟨ρ, S, hh, ds, S', A, r, e, k⟩ => ?_
    cases ds with
    | nil =>
      simp only [bindTs, Option.some.injEq] at e
      subst e
      exact ⟨r.nil_inv, k σ A rfl fun _ _ => rfl⟩
    | cons _ _ => simp [bindTs] at e
  | .nil, _ :: _, h => by simp [chkGL] at h
  | .cons t l, [], h => by simp [chkGL] at h
  | .cons t l, x :: xs, h => by
    simp only [chkGL, Bool.and_eq_true] at h
    refine PGs.imp (pgs_cons (jg c t x h.1) (jgs c l xs h.2) (by rw [assignEach_of (chkG_ns h.1)]; rfl)) fun vs σ H Q ⟨ρ, S, hh, ds, S', A, r, e, k⟩ => ?_
    cases ds with
    | nil => simp [bindTs] at e
    | cons d ds =>
      simp only [bindTs, Option.bind_eq_some_iff] at e
      obtain ⟨S1, e1, e2⟩ := e
      obtain ⟨v, ws, rfl, rv, rl⟩ := r.cons_inv
      refine ⟨v, ws, rfl, ρ, S, hh, d, S1, A, rv, e1, fun σ1 A1 l1 o1 => ?_⟩
      refine ⟨ρ, S1, hh, ds, S', A1, rl, e2, fun σ2 A2 l2 o2 => k σ2 A2 (l2.trans l1) fun i hi => ?_⟩
      simp only [tgIxs, List.mem_append, not_or] at hi
      rw [o2 i hi.2, o1 i hi.1]
end

/-! ### a comprehension's block -/
/-- the same from another context over the same text -/
structure Same2 (X Y : Cx) : Prop where
  K : Y.K = X.K
  mg : Y.mg = X.mg
theorem Same2.wd {X Y : Cx} (e : Same2 X Y) (ρ : Nat → Addr) (h : Hh) (H : Hp) : Z.wd Y ρ h H = Z.wd X ρ h H := by
  show (⟨Y.K, Y.mg, ρ, h.length, H⟩ : Wd) = ⟨X.K, X.mg, ρ, h.length, H⟩
  rw [e.K, e.mg]
theorem Same2.at_ {X Y : Cx} (e : Same2 X Y) {ρ : Nat → Addr} {h : Hh} {H : Hp} {σ : St} {S : Sl} (A : At X ρ h H σ S) : At Y ρ h H σ S := ⟨by rw [e.wd]; exact A.rep, by rw [e.wd]; exact A.sl⟩
theorem Same2.symm {X Y : Cx} (e : Same2 X Y) : Same2 Y X := ⟨e.K.symm, e.mg.symm⟩
theorem Same2.fin {α : Type} {X Y : Cx} (e : Same2 X Y) {Wx : WX} {ρ : Nat → Addr} {h : Hh} {H : Hp} {σ : St} {S : Sl} {r : Rs α × Hh} {P P' : (Nat → Addr) → Hh → Hp → α → Prop} (F : Fin X Wx ρ h H σ S r P) (hP : ∀ ρ h H a, P ρ h H a → P' ρ h H a) : Fin Y Wx ρ h H σ S r P' := by
  match r, F with
  | (.ok a, h'), F => exact fun ρ' H' g A => hP _ _ _ _ (F ρ' H' (by rw [← e.wd, ← e.wd]; exact g) (e.symm.at_ A))
  | (.ex C fs, h'), F => exact fun ρ' H' cls dx g A x => F ρ' H' cls dx (by rw [← e.wd, ← e.wd]; exact g) (e.symm.at_ A) (by rw [← e.wd]; exact x)
theorem Same2.tE {X Y : Cx} (e : Same2 X Y) {Wx : WX} {f : EF} {σ : St} {H : Hp} {Q : VK} (q : Z.tE X Wx f σ H Q) : Z.tE Y Wx f σ H Q := by
  obtain ⟨ρ, S, h, r, A, ef, F⟩ := q
  exact ⟨ρ, S, h, r, e.at_ A, ef, e.fin F fun ρ' h' H' d k v rv => k v (by rw [← e.wd]; exact rv)⟩
theorem Same2.tT {X Y : Cx} (e : Same2 X Y) {Wx : WX} {f : TF} {σ : St} {H : Hp} {Q : Bool → Hp → Prop} (q : Z.tT X Wx f σ H Q) : Z.tT Y Wx f σ H Q := by
  obtain ⟨ρ, S, h, r, A, ef, F⟩ := q
  exact ⟨ρ, S, h, r, e.at_ A, ef, e.fin F fun ρ' h' H' d k => k⟩
theorem Same2.tG {X Y : Cx} (e : Same2 X Y) {t : Tg} {v : V} {σ : St} {H : Hp} {Q : St → Hp → Prop} (q : Z.tG X t v σ H Q) : Z.tG Y t v σ H Q := by
  obtain ⟨ρ, S, h, d, S', A, rv, eb, k⟩ := q
  exact ⟨ρ, S, h, d, S', e.at_ A, by rw [e.wd]; exact rv, eb, fun σ' A' l o => k σ' (e.symm.at_ A') l o⟩
theorem same_blk {s : Shared} {H : Hp} {scope : Scope} {ce : Env} {fp : List Addr} : Same2 X (X.blk s H scope ce fp) := ⟨rfl, rfl⟩
abbrev W0 : WX := fun _ _ _ _ => False
theorem Cok.block (c : Cok G Φ Γ X Wx) (scope : Scope) (s : Shared) (H : Hp) (C : Addr) (cl : List (Str × Addr)) (fp : List Addr) : Cok G Φ (Γin Γ scope) (X.blk s H scope (compEnvC scope cl C X.env) fp) W0 where
  N := c.N
  nd := c.nd
  sc := by
    show relS scope X.env.scope = relS scope Γ.sc
    rw [c.sc]
  calm := c.calm
  units := c.units
  fn := fun x h => by
    have h' : locB scope x = true ∧ locB (relS scope Γ.sc) x = true := by simpa [stoB, Γin] using h
    have h1 := h'.1
    unfold locB at h1
    split at h1
    · rename_i e
      exact .inr (lookup_relS_keep (by decide) e)
    · rename_i e
      refine .inl ?_
      show (scope.names.lookup x == some .cell) = true
      rw [e]
      rfl
    · cases h1
  takes := takes0
  glob := c.glob
  blt := c.blt
  fns := fun x n e => ⟨(c.fns x n e).ex⟩
theorem RO.le {W W' : Wd} (g : Le W W') {a : Addr} {o : O} (e : W'.H a = W.H a) (r : RO W a o) : RO W' a o := by
  cases r with
  | lst x y => exact .lst (e.trans x) (y.le g)
  | dic x z y => exact .dic (e.trans x) z (y.le g)
  | ins c x z y => exact .ins (by rw [g.mg]; exact c) (e.trans x) z (y.le g)
/-- a list of nobody is changed -/
theorem At.over {ρ : Nat → Addr} {h : Hh} {H : Hp} {σ : St} {S : Sl} (A : At X ρ h H σ S) {Dd : Addr} {acc acc' : List V} (f : ∀ i, i < h.length → ρ i ≠ Dd) (e : H Dd = some (.lst acc)) :
    Le (wd X ρ h H) (wd X ρ h (upd H Dd (.lst acc'))) ∧ At X ρ h (upd H Dd (.lst acc')) σ S := by
  have le : Le (wd X ρ h H) (wd X ρ h (upd H Dd (.lst acc'))) := by
    have ne : ∀ {a : Addr} {u : HO}, H a = some u → u ≠ .lst acc → upd H Dd (.lst acc') a = some u := fun {a u} q1 q2 => by
      rw [upd_ne]
      · exact q1
      · rintro rfl
        rw [e] at q1
        cases q1
        exact q2 rfl
    refine ⟨rfl, Nat.le_refl _, fun _ _ => rfl, fun a vs q => ?_, fun a vs q => ?_⟩
    · rcases q with (q | ⟨ob, q⟩) | q
      · exact .inl (.inl (ne q (by intro z; cases z)))
      · exact .inl (.inr ⟨ob, ne q (by intro z; cases z)⟩)
      · exact .inr q
    · rcases q with ⟨ob, q⟩ | q
      · exact .inl ⟨ob, ne q (by intro z; cases z)⟩
      · exact .inr q
  refine ⟨le, ⟨⟨A.rep.len, A.rep.inj, fun i o q => ?_⟩, ⟨A.sl.len, fun i d q => ?_⟩⟩⟩
  · have hi : i < h.length := (List.getElem?_eq_some_iff.mp q).1
    exact (A.rep.obj i o q).le le (upd_ne (f i hi))
  · obtain ⟨v, e', r⟩ := A.sl.at_ i d q
    exact ⟨v, e', r.le le⟩
theorem Go.over {W : Wd} {ρ : Nat → Addr} {h : Hh} {H : Hp} (g : Go W (wd X ρ h H)) {Dd : Addr} {u : HO} (n0 : W.H Dd = none) (f : ∃ b, H Dd = some b) : Go W (wd X ρ h (upd H Dd u)) :=
  ⟨g.K, g.mg, g.n, g.ag, fun a o q k => by
    show upd H Dd u a = some o
    rw [upd_ne (ne_of_none q n0)]
    exact g.keep a o q k, fun a q => by
    have q' : upd H Dd u a = none := q
    by_cases c : a = Dd
    · rw [c, upd_same] at q'; cases q'
    · rw [upd_ne c] at q'
      exact g.dom a q', g.fresh⟩
abbrev BF := Sl → Hh → M Bool
/-- one turn's item -/
noncomputable def lcF (tg : Tg) (own : List Nat) (fc : BF) (fe : EF) (S : Sl) : D → Hh → M (Option D) := fun x h => match bindT h tg x (wipeS S own) with
  | none => none
  | some S1 => match fc S1 h with
    | some (.ok true, h2) => (bd (vv fe S1 h2) fun d h3 => some (.ok (some d), h3))
    | some (.ok false, h2) => some (.ok none, h2)
    | _ => none
theorem lc_read {t : Tg} {own : List Nat} {fi : IF} {fc : BF} {fe : EF} (hix : ∀ i ∈ tgIx t, i ∈ own) {σ : St} {H : Hp} {Q : VK}
    (q : tE X Wx (fun S h => bd (fi S h) fun s h1 => if s.items.length ≤ sizeLine then
      match lcGo s.stay (lcF t own fc fe S) s.items h1 with
      | some (ys, h2) => some (.ok (.lst ys), h2)
      | none => none
    else none) σ H Q) : tLc (tI X Wx fi) (tG X t) (tT X W0 fc) (tE X W0 (vv fe)) own σ H Q := by
  obtain ⟨ρ, S, h, rr, A, e, F⟩ := q
  obtain ⟨ra, e1, F1⟩ := Fin.bd (Pa := fun ρ' h' H' s => ∀ J, Wk X s ρ' h' H' J → ∀ D, H' D = none → ∃ W : Nat → Nat → Hp → Prop, (∃ m, W 0 m (upd H' D (.lst []))) ∧ ∀ i m H, W i m H →
      (J.stop i H ∧ Q (.ref D) H) ∨ (J.go i H ∧ ∃ Nx : Hp → Prop, (∀ H', Nx H' → ∃ m', m' < m ∧ W (i + 1) m' H') ∧ ∀ x H', J.yld i H x H' → tG X t x (L2.wipe σ own) H' fun σ2 H2 => L2.wipe σ2 own = L2.wipe σ own ∧ tT X W0 fc σ2 H2 fun b H3 =>
        if b = true then tE X W0 (vv fe) σ2 H3 fun y H4 => ∃ acc, H4 D = some (.lst acc) ∧ acc.length < sizeLine ∧ Nx (upd H4 D (.lst (acc ++ [y]))) else Nx H3)) e F (fun s h1 ρ1 H1 _ g1 A1 e1 F1 J wk Dd hD => by
    split at e1
    · rename_i hz
      split at e1
      · rename_i ys h2 el
        cases e1
        -- the items still to come make the rest of the list
        refine ⟨fun i m H' => m = s.items.length - i ∧ i ≤ s.items.length ∧ ∃ ρ' h' acc zs, At X ρ' h' H' σ S ∧ Go (wd X ρ1 h1 H1) (wd X ρ' h' H') ∧ H' Dd = some (.lst acc) ∧ (∀ j, j < h'.length → ρ' j ≠ Dd) ∧ acc.length ≤ i ∧
          (∃ accD, RL (wd X ρ' h' H') acc accD ∧ ∃ rest, lcGo s.stay (lcF t own fc fe S) (s.items.drop i) h' = some (rest, h2) ∧ ys = accD ++ rest) ∧ zs = s.items, ⟨s.items.length, by simp, Nat.zero_le _, ρ1, h1, [], _, ?_, ?_, upd_same, A1.rep.ne hD, Nat.le_refl _, ⟨[], .nil, ys, ?_, rfl⟩, rfl⟩, ?_⟩
        · exact (A1.tmp hD).2
        · exact (A1.tmp hD).1
        · rw [List.drop_zero]; exact el
        · rintro i m H' ⟨rfl, hi, ρ', h', acc, zs, A', g', hacc, free, hal, ⟨accD, racc, rest, er, ey⟩, ez⟩
          by_cases hlt : i < s.items.length
          · refine .inr ?_
            have hd : s.items.drop i = s.items[i] :: s.items.drop (i + 1) := (List.getElem_cons_drop hlt).symm
            rw [hd] at er
            simp only [lcGo] at er
            split at er
            · rename_i st
              split at er
              · rename_i o h3 ef
                split at er
                · rename_i ys' h4 er'
                  cases er
                  have A'w : At X ρ' h' H' (L2.wipe σ own) (wipeS S own) := ⟨A'.rep, A'.sl.wipe own⟩
                  obtain ⟨_, turn⟩ := wk ρ' h' H' _ _ g' A'w st
                  obtain ⟨go, yl⟩ := turn i hlt
                  refine ⟨go, fun H5 => ∃ ρ5 h5 acc5, At X ρ5 h5 H5 σ S ∧ Go (wd X ρ1 h1 H1) (wd X ρ5 h5 H5) ∧ H5 Dd = some (.lst acc5) ∧ (∀ j, j < h5.length → ρ5 j ≠ Dd) ∧ acc5.length ≤ i + 1 ∧
                    (∃ accD5, RL (wd X ρ5 h5 H5) acc5 accD5 ∧ ∃ rest5, lcGo s.stay (lcF t own fc fe S) (s.items.drop (i + 1)) h5 = some (rest5, h2) ∧ ys = accD5 ++ rest5), fun H5 n5 => ?_, fun x H6 y6 => ?_⟩
                  · obtain ⟨ρ5, h5, acc5, a, b, cc, d, ee, f⟩ := n5
                    exact ⟨s.items.length - (i + 1), by omega, rfl, hlt, ρ5, h5, acc5, _, a, b, cc, d, ee, f, rfl⟩
                  · obtain ⟨dx, edx, g6, A6, r6⟩ := yl x H6 y6
                    have edx' : s.items[i] = dx := by
                      rw [List.getElem?_eq_getElem hlt] at edx
                      exact Option.some.inj edx
                    subst edx'
                    have A6' : At X ρ' h' H6 σ S := ⟨A6.rep, A'.sl.go g6 A'.rep⟩
                    have keepD : ∀ {ρa : Nat → Addr} {ha : Hh} {Ha : Hp}, Go (wd X ρ' h' H') (wd X ρa ha Ha) → Ha Dd = some (.lst acc) ∧ ∀ j, j < ha.length → ρa j ≠ Dd := fun {ρa ha Ha} ga => by
                      refine ⟨ga.keep Dd _ hacc free, fun j hj z => ?_⟩
                      by_cases cj : j < h'.length
                      · exact free j cj ((ga.ag j cj).symm.trans z)
                      · have q1 : H' (ρa j) = none := ga.fresh j (by show h'.length ≤ j; omega) hj
                        rw [z, hacc] at q1
                        cases q1
                    unfold lcF at ef
                    cases eb : bindT h' t s.items[i] (wipeS S own) with
                    | none => rw [eb] at ef; cases ef
                    | some S1 =>
                      rw [eb] at ef
                      dsimp only at ef
                      refine ⟨ρ', wipeS S own, h', s.items[i], S1, A6, r6, eb, fun σ2 A2 l2 o2 => ⟨?_, ?_⟩⟩
                      · rw [← wipe_wipe σ own]
                        exact wipe_eq l2 fun j hj => o2 j fun z => hj (hix j z)
                      · cases ec : fc S1 h' with
                        | none => rw [ec] at ef; cases ef
                        | some rc =>
                          rw [ec] at ef
                          match rc, ec, ef with
                          | (.ex _ _, _), _, ef => cases ef
                          | (.ok false, h7), ec, ef =>
                            cases ef
                            refine ⟨ρ', S1, h', _, A2, ec, fun ρ7 H7 g7 A7 => ?_⟩
                            dsimp only
                            rw [if_neg Bool.false_ne_true]
                            have gg : Go (wd X ρ' h' H') (wd X ρ7 h3 H7) := g6.trans g7
                            obtain ⟨k1, k2⟩ := keepD gg
                            exact ⟨ρ7, h3, acc, ⟨A7.rep, A6'.sl.go g7 A6'.rep⟩, g'.trans gg, k1, k2, by omega, accD, racc.go gg A'.rep, ys', er', ey⟩
                          | (.ok true, h7), ec, ef =>
                            refine ⟨ρ', S1, h', _, A2, ec, fun ρ7 H7 g7 A7 => ?_⟩
                            dsimp only
                            rw [if_pos rfl]
                            dsimp only at ef
                            cases eq : vv fe S1 h7 with
                            | none => rw [eq] at ef; cases ef
                            | some rq =>
                              rw [eq] at ef
                              match rq, eq, ef with
                              | (.ex _ _, _), _, ef => cases ef
                              | (.ok dq, h8), eq, ef =>
                                cases ef
                                refine ⟨ρ7, S1, h7, _, A7, eq, fun ρ8 H8 g8 A8 v8 r8 => ?_⟩
                                have gg : Go (wd X ρ' h' H') (wd X ρ8 h3 H8) := (g6.trans g7).trans g8
                                obtain ⟨k1, k2⟩ := keepD gg
                                have A8' : At X ρ8 h3 H8 σ S := ⟨A8.rep, A'.sl.go gg A'.rep⟩
                                obtain ⟨le, A9⟩ := A8'.over (acc' := acc ++ [v8]) k2 k1
                                refine ⟨acc, k1, by omega, ρ8, h3, acc ++ [v8], A9, (g'.trans gg).over hD ⟨_, k1⟩, upd_same, k2, by rw [List.length_append, List.length_singleton]; omega, accD ++ [dq], ?_, ys', er', ?_⟩
                                · exact ((racc.go gg A'.rep).append (.cons (r8.ofHeld (vv_held eq)) .nil)).le le
                                · rw [ey, List.append_assoc]
                                  rfl
                · cases er
              · cases er
            · cases er
          · have ei : i = s.items.length := by omega
            subst ei
            rw [List.drop_length] at er
            simp only [lcGo] at er
            split at er
            · rename_i st
              cases er
              refine .inl ⟨(wk ρ' _ H' _ _ g' A' st).1, ?_⟩
              rw [List.append_nil] at ey
              subst ey
              refine F1 ρ' H' g' A' _ (.new hacc free (g1.dom _ hD) racc)
            · cases er
      · cases e1
    · cases e1)
  exact ⟨ρ, S, h, ra, A, e1, F1⟩
theorem je_lc {elt tg iter : Expr} {ifs : List Expr} {scope : Scope} {own : List Nat} {pos : Pos} {t : Tg} {fi : IF} {fc : BF} {fe : EF} (c : Cok G Φ Γ X Wx) (hb : blkC Γ.N Γ.sc scope (ownOf Γ.N own) = true) (hix : ∀ i ∈ tgIx t, i ∈ own)
    (ji : JI X Wx tg iter fi) (hg : chkG (Γin Γ scope) t tg = true)
    (jc : ∀ s H C cl fp, PTs (X.blk s H scope (compEnvC scope cl C X.env) fp) ifs (tT X W0 fc)) (je : ∀ s H C cl fp, JE (X.blk s H scope (compEnvC scope cl C X.env) fp) W0 elt fe) (hs : ∀ x, foldedSetIterable iter X.env x = pure x) :
    JE X Wx (.ListComp elt [⟨tg, iter, ifs, 0⟩] scope pos) (fun S h => bd (fi S h) fun s h1 => if s.items.length ≤ sizeLine then
      match lcGo s.stay (lcF t own fc fe S) s.items h1 with
      | some (ys, h2) => some (.ok (.lst ys), h2)
      | none => none
    else none) := by
  have ho : (ownOf Γ.N own).map (·.2) = own := by
    unfold ownOf
    rw [List.map_map]
    exact List.map_id'' (fun _ => rfl) own
  have ok : BlkOk X.N X.env.scope scope (ownOf Γ.N own) := by
    rw [c.N, c.sc]
    exact blkOk_by hb
  have p := pe_lc (g := tG X t) (tt := tT X W0 fc) (te := tE X W0 (vv fe)) c.calm (by rw [c.N]; exact c.nd) ji ok (fun s H C cl fp => PG.imp (jg (c.block scope s H C cl fp) t tg hg) fun _ _ _ _ q => same_blk.tG q) jc (fun s H C cl fp => PE.imp (JE.vv (je s H C cl fp)) fun _ _ _ q => same_blk.tE q) hs (pos := pos)
  rw [ho] at p
  exact PE.imp p fun σ H Q q => lc_read hix q
/-- a name that is given a comprehension -/
theorem js_setLc {elt tg iter : Expr} {ifs : List Expr} {scope : Scope} {own : List Nat} {py pos spos : Pos} {t : Tg} {fi : IF} {fc : BF} {fe : EF} {i : Nat} {y : Str} (c : Cok G Φ Γ X Wx) (hb : blkC Γ.N Γ.sc scope (ownOf Γ.N own) = true) (hix : ∀ i ∈ tgIx t, i ∈ own)
    (ji : JI X Wx tg iter fi) (hg : chkG (Γin Γ scope) t tg = true)
    (jc : ∀ s H C cl fp, PTs (X.blk s H scope (compEnvC scope cl C X.env) fp) ifs (tT X W0 fc)) (je : ∀ s H C cl fp, JE (X.blk s H scope (compEnvC scope cl C X.env) fp) W0 elt fe) (hs : ∀ x, foldedSetIterable iter X.env x = pure x)
    (hN : Γ.N[i]? = some y) (hl : Γ.sc.names.lookup y = some .local) (hk : X.env.scope.kind = .function) (hline : (py.line == pos.line) = true) (ha : (scope.names.any fun (n, k) => n == y && (k == .local || k == .cell)) = false) :
    PS X (.Assign [.Name y py] (.ListComp elt [⟨tg, iter, ifs, 0⟩] scope pos) spos) (tAsg (tE X Wx (fun S h => bd (fi S h) fun s h1 => if s.items.length ≤ sizeLine then
      match lcGo s.stay (lcF t own fc fe S) s.items h1 with
      | some (ys, h2) => some (.ok (.lst ys), h2)
      | none => none
    else none)) (gName i)) := by
  have ho : (ownOf Γ.N own).map (·.2) = own := by
    unfold ownOf
    rw [List.map_map]
    exact List.map_id'' (fun _ => rfl) own
  have ok : BlkOk X.N X.env.scope scope (ownOf Γ.N own) := by
    rw [c.N, c.sc]
    exact blkOk_by hb
  have hy : X.env.scope.names.lookup y = some .local := by rw [c.sc]; exact hl
  have p := ps_setLc (g := tG X t) (tt := tT X W0 fc) (te := tE X W0 (vv fe)) (spos := spos) (py := py) c.calm (by rw [c.N]; exact c.nd) (by rw [c.N]; exact hN) hy (sw_true hk hy hline ha) ji ok
    (fun s H C cl fp => PG.imp (jg (c.block scope s H C cl fp) t tg hg) fun _ _ _ _ q => same_blk.tG q) jc (fun s H C cl fp => PE.imp (JE.vv (je s H C cl fp)) fun _ _ _ q => same_blk.tE q) hs (pos := pos)
  rw [ho] at p
  exact PS.imp p fun D σ H q => lc_read hix q
end
end Z

/-! Z10: expressions, all together -/
namespace Z
open PySem L2
section
variable {G : Gs} {Φ : CallF}
theorem jt_none {X : Cx} {Wx : WX} {ex : Expr} : JT X Wx ex (fun _ _ => none) := ⟨fun _ _ _ _ _ _ ⟨_, _, _, _, _, e, _⟩ => by cases e⟩
theorem je_none {X : Cx} {Wx : WX} {ex : Expr} : JE X Wx ex (fun _ _ => none) := ⟨fun _ _ _ _ _ _ ⟨_, _, _, _, _, e, _⟩ => by cases e⟩
theorem pw_bool {X : Cx} {op : BoolOp} {es : List Expr} {pos : Pos} {t : TT} (h : PT X (.BoolOp op es pos) t) : PW X (.BoolOp op es pos) t := ⟨fun wh pins s σ H Q I q => h.run pins s σ H Q I q⟩
theorem je_one {X : Cx} {Wx : WX} {op : BoolOp} {b : Expr} {pos : Pos} {f : EF} (j : JE X Wx b f) : JE X Wx (.BoolOp op [b] pos) f := pe_one j
theorem bd_none {α β : Type} (r : M α) : bd r (fun _ _ => (none : M β)) = none ∨ ∃ x, r = some x := by cases r <;> simp [bd]
theorem hpl_of {Γ : Sc} : ∀ {es : EL} {xs : List Expr} {env : Env} (pos : Pos), chkL G Γ es xs = true → nostar es = true → (backTo pos (starEach xs env)).any (·.1) = false
  | .nil, [], env, pos, _, _ => rfl
  | .nil, _ :: _, _, _, h, _ => by simp [chkL] at h
  | .cons st e es, [], _, _, h, _ => by simp [chkL] at h
  | .cons st e es, x :: xs, env, pos, h, n => by
    simp only [nostar, Bool.and_eq_true, Bool.not_eq_true'] at n
    obtain ⟨n1, n2⟩ := n
    subst n1
    simp only [chkL, Bool.and_eq_true, Bool.false_eq_true, if_false] at h
    have ih := hpl_of (env := env) pos h.2 n2
    rw [starEach_of (notStar h.1)]
    cases q : starEach xs env with
    | nil => rfl
    | cons a r =>
      rw [q] at ih
      exact ih
theorem len_of {Γ : Sc} : ∀ {es : EL} {xs : List Expr}, chkL G Γ es xs = true → nostar es = true → ∀ (S : Sl) (h : Hh) (ds : List D) (h' : Hh), evA G.glob Φ es S h = some (.ok ds, h') → ds.length = xs.length
  | .nil, [], _, _, S, h, ds, h', e => by
    simp only [evA, Option.some.injEq, Prod.mk.injEq, Rs.ok.injEq] at e
    rw [← e.1]; rfl
  | .nil, _ :: _, h, _, _, _, _, _, _ => by simp [chkL] at h
  | .cons st e es, [], h, _, _, _, _, _, _ => by simp [chkL] at h
  | .cons st e es, x :: xs, c, n, S, h, ds, h', eq => by
    simp only [nostar, Bool.and_eq_true, Bool.not_eq_true'] at n
    obtain ⟨n1, n2⟩ := n
    subst n1
    simp only [chkL, Bool.and_eq_true, Bool.false_eq_true, if_false] at c
    simp only [evA] at eq
    cases q : vv (ev G.glob Φ e).v S h with
    | none => rw [q] at eq; cases eq
    | some r =>
      rw [q] at eq
      match r, eq with
      | (.ex _ _, _), eq => cases eq
      | (.ok d, h1), eq =>
        simp only [bd] at eq
        cases q2 : evA G.glob Φ es S h1 with
        | none => rw [q2] at eq; cases eq
        | some r2 =>
          rw [q2] at eq
          match r2, q2, eq with
          | (.ex _ _, _), _, eq => cases eq
          | (.ok ds', h2), q2, eq =>
            cases eq
            rw [List.length_cons, List.length_cons, len_of c.2 n2 S h1 ds' _ q2]

theorem PTs.imp {X : Cx} {e : List Expr} {t t' : TT} (h : PTs X e t) (i : ∀ σ H Q, t' σ H Q → t σ H Q) : PTs X e t' := ⟨fun pins s σ H Q I q => h.run pins s σ H Q I (i _ _ _ q)⟩
theorem ns_head {Γ : Sc} : ∀ {es : EL} {z : Expr} {zs : List Expr}, chkL G Γ es (z :: zs) = true → nostar es = true → (∀ y q, z ≠ .Starred y q) ∧ ∀ (env : Env) (pos : Pos), (backTo pos (starEach zs env)).any (·.1) = false
  | .nil, _, _, h, _ => by simp [chkL] at h
  | .cons st e es, z, zs, h, n => by
    simp only [nostar, Bool.and_eq_true, Bool.not_eq_true'] at n
    obtain ⟨n1, n2⟩ := n
    subst n1
    simp only [chkL, Bool.and_eq_true, Bool.false_eq_true, if_false] at h
    exact ⟨notStar h.1, fun env pos => hpl_of pos h.2 n2⟩
abbrev Both (X : Cx) (Wx : WX) (ex : Expr) (e : Ev) : Prop := JE X Wx ex e.v ∧ JT X Wx ex e.t
theorem both_vt {X : Cx} {Wx : WX} {ex : Expr} {f : EF} (j : JE X Wx ex f) (he : ∀ whole, isTrue ex X.env whole = (do let v ← whole; standAt ex.pos; holding [v] (truthy v))) : Both X Wx ex (vt f) := ⟨j, jt_val j he⟩

mutual
theorem sE : ∀ (e : E) {Γ : Sc} {X : Cx} {Wx : WX}, Cok G Φ Γ X Wx → ∀ (ex : Expr), chkE G Γ e ex = true → Both X Wx ex (ev G.glob Φ e)
  | .var i, Γ, X, Wx, c, ex, h => by
    cases ex with
    | Name x p =>
      simp only [chkE, Bool.and_eq_true, decide_eq_true_eq] at h
      exact both_vt (je_var c h.1.1 h.1.2 h.2) fun _ => rfl
    | _ => simp [chkE] at h
  | .int i, Γ, X, Wx, c, ex, h => by
    cases ex with
    | Constant k j p =>
      cases k <;> simp only [chkE, decide_eq_true_eq, Bool.false_eq_true] at h
      subst h
      exact both_vt (je_const pe_int fun W => .int i) fun _ => rfl
    | _ => simp [chkE] at h
  | .str i, Γ, X, Wx, c, ex, h => by
    cases ex with
    | Constant k j p =>
      cases k <;> simp only [chkE, decide_eq_true_eq, Bool.false_eq_true] at h
      subst h
      exact both_vt (je_const pe_str fun W => .str i) fun _ => rfl
    | _ => simp [chkE] at h
  | .bl i, Γ, X, Wx, c, ex, h => by
    cases ex with
    | Constant k j p =>
      cases k <;> simp only [chkE, decide_eq_true_eq, Bool.false_eq_true] at h
      subst h
      exact both_vt (je_const pe_bl fun W => .bl i) fun _ => rfl
    | _ => simp [chkE] at h
  | .non, Γ, X, Wx, c, ex, h => by
    cases ex with
    | Constant k j p =>
      cases k <;> simp only [chkE, Bool.false_eq_true] at h
      exact both_vt (je_const pe_non fun W => .non) fun _ => rfl
    | _ => simp [chkE] at h
  | .glob x, Γ, X, Wx, c, ex, h => by
    cases ex with
    | Name y p =>
      simp only [chkE, Bool.and_eq_true, decide_eq_true_eq] at h
      obtain ⟨⟨⟨rfl, h1⟩, h2⟩, h3⟩ := h
      exact both_vt (je_glob c h1 h3 h2) fun _ => rfl
    | _ => simp [chkE] at h
  | .typ x t, Γ, X, Wx, c, ex, h => by
    cases ex with
    | Name y p =>
      simp only [chkE, Bool.and_eq_true, decide_eq_true_eq] at h
      obtain ⟨⟨⟨⟨⟨rfl, h1⟩, h2⟩, h3⟩, h4⟩, h5⟩ := h
      exact both_vt (je_typ c h1 h4 h2 h3 h5) fun _ => rfl
    | _ => simp [chkE] at h
  | .bin op a b, Γ, X, Wx, c, ex, h => by
    cases ex with
    | BinOp x o y p =>
      simp only [chkE, Bool.and_eq_true, decide_eq_true_eq] at h
      obtain ⟨⟨rfl, h1⟩, h2⟩ := h
      exact both_vt (je_op (sE a c x h1).1 (sE b c y h2).1) fun _ => rfl
    | _ => simp [chkE] at h
  | .neg a, Γ, X, Wx, c, ex, h => by
    cases ex with
    | UnaryOp o x p =>
      cases o <;> simp only [chkE, Bool.false_eq_true] at h
      exact both_vt (je_neg (sE a c x h).1) fun _ => rfl
    | _ => simp [chkE] at h
  | .cmp op a b, Γ, X, Wx, c, ex, h => by
    cases ex with
    | Compare x os ys p =>
      simp only [chkE] at h
      split at h
      · rename_i x' o y p' eq
        cases eq
        simp only [Bool.and_eq_true, decide_eq_true_eq] at h
        obtain ⟨⟨rfl, h1⟩, h2⟩ := h
        exact ⟨je_cmp c.units (sE a c x h1).1 (sE b c y h2).1 (nomark_of h2 _), jt_cmp c.units (sE a c x h1).1 (sE b c y h2).1 (nomark_of h2 _)⟩
      · cases h
    | _ => simp [chkE] at h
  | .chn o p a b d, Γ, X, Wx, c, ex, h => by
    cases ex with
    | Compare x os ys ps =>
      simp only [chkE] at h
      split at h
      · rename_i x' o' p' y z ps' eq
        cases eq
        simp only [Bool.and_eq_true, decide_eq_true_eq] at h
        obtain ⟨⟨⟨⟨⟨⟨⟨⟨rfl, rfl⟩, n1⟩, n2⟩, n3⟩, n4⟩, h1⟩, h2⟩, h3⟩ := h
        exact ⟨je_chn c.units (sE a c x h1).1 (sE b c y h2).1 (sE d c z h3).1 n1 n2 n3 n4, jt_chn c.units (sE a c x h1).1 (sE b c y h2).1 (sE d c z h3).1 n1 n2 n3 n4⟩
      · cases h
    | _ => simp [chkE] at h
  | .and a b, Γ, X, Wx, c, ex, h => by
    cases ex with
    | BoolOp o vs p =>
      simp only [chkE] at h
      split at h
      · rename_i x y r p' eq
        cases eq
        simp only [Bool.and_eq_true] at h
        obtain ⟨h1, h2⟩ := h
        have ja := sE a c x h1
        split at h2
        · have jb := sE b c y h2
          exact ⟨je_and ja.1 (je_one jb.1), jt_and1 ja.2 jb.2⟩
        · have jb := sE b c _ h2
          exact ⟨je_and ja.1 jb.1, (jw_and ja.2 (pw_bool jb.2)).pt⟩
      · cases h
    | _ => simp [chkE] at h
  | .or a b, Γ, X, Wx, c, ex, h => by
    cases ex with
    | BoolOp o vs p =>
      simp only [chkE] at h
      split at h
      · rename_i x y r p' eq
        cases eq
        simp only [Bool.and_eq_true] at h
        obtain ⟨h1, h2⟩ := h
        have ja := sE a c x h1
        split at h2
        · have jb := sE b c y h2
          exact ⟨je_or ja.1 (je_one jb.1), jt_or1 ja.2 jb.2⟩
        · have jb := sE b c _ h2
          exact ⟨je_or ja.1 jb.1, (jw_or ja.2 (pw_bool jb.2)).pt⟩
      · cases h
    | _ => simp [chkE] at h
  | .not a, Γ, X, Wx, c, ex, h => by
    cases ex with
    | UnaryOp o x p =>
      cases o <;> simp only [chkE, Bool.false_eq_true] at h
      exact ⟨je_not (sE a c x h).1, jt_not (sE a c x h).2⟩
    | _ => simp [chkE] at h
  | .ite d a b, Γ, X, Wx, c, ex, h => by
    cases ex with
    | IfExp z x y p =>
      simp only [chkE, Bool.and_eq_true] at h
      obtain ⟨⟨h1, h2⟩, h3⟩ := h
      exact ⟨je_ite (sE d c z h1).2 (sE a c x h2).1 (sE b c y h3).1, jt_none⟩
    | _ => simp [chkE] at h
  | .tup es, Γ, X, Wx, c, ex, h => by
    cases ex with
    | Tuple xs k p =>
      simp only [chkE] at h
      exact both_vt (je_tup (sL es c xs h)) fun _ => rfl
    | _ => simp [chkE] at h
  | .lst es, Γ, X, Wx, c, ex, h => by
    cases ex with
    | List xs p =>
      simp only [chkE] at h
      exact both_vt (je_lst (sL es c xs h)) fun _ => rfl
    | _ => simp [chkE] at h
  | .dic0, Γ, X, Wx, c, ex, h => by
    unfold chkE at h
    split at h
    · exact both_vt je_dic0 fun _ => rfl
    · cases h
  | .crep t o y z, Γ, X, Wx, c, ex, h => by
    cases ex with
    | BinOp a op b p =>
      simp only [chkE] at h
      split at h
      · rename_i c' k0 p0 x m apos y' k1 p1 z' k2 p2 cpos p' eq
        cases eq
        simp only [Bool.and_eq_true, decide_eq_true_eq, Bool.not_eq_true'] at h
        obtain ⟨⟨⟨⟨⟨⟨⟨rfl, rfl⟩, rfl⟩, rfl⟩, h1⟩, h2⟩, h3⟩, h4⟩ := h
        exact both_vt (je_crep h1 h2 h3 (sE o c x h4).1) fun _ => rfl
      · cases h
    | _ => simp [chkE] at h
  | .call0 x, Γ, X, Wx, c, ex, h => by
    cases ex with
    | Call f as ks p =>
      simp only [chkE] at h
      split at h
      · rename_i y p1 p' eq
        cases eq
        simp only [Bool.and_eq_true, decide_eq_true_eq] at h
        obtain ⟨⟨⟨rfl, h1⟩, h2⟩, h3⟩ := h
        exact both_vt (je_call0 c h1 h2 h3) fun _ => rfl
      · cases h
    | _ => simp [chkE] at h
  | .call x es, Γ, X, Wx, c, ex, h => by
    cases ex with
    | Call f as ks p =>
      simp only [chkE] at h
      split at h
      · rename_i y p1 z zs p' eq
        cases eq
        simp only [Bool.and_eq_true, decide_eq_true_eq] at h
        obtain ⟨⟨⟨⟨⟨rfl, h1⟩, h2⟩, h3⟩, h4⟩, h5⟩ := h
        have hz := ns_head h5 h4
        exact both_vt (je_call c h1 h2 h3 (sL es c _ h5) hz.1 (fun pos => hz.2 X.env pos) fun S h ds h' e => len_of h5 h4 S h ds h' e) fun _ => rfl
      · cases h
    | _ => simp [chkE] at h
  | .make _ _, Γ, X, Wx, c, ex, h => by simp [chkE] at h
  | .blt b es, Γ, X, Wx, c, ex, h => by
    cases ex with
    | Call f as ks p =>
      simp only [chkE] at h
      split at h
      · rename_i y p1 z zs p' eq
        cases eq
        simp only [Bool.and_eq_true, decide_eq_true_eq, Bool.not_eq_true'] at h
        obtain ⟨⟨⟨⟨⟨⟨e1, h1⟩, h2⟩, h3⟩, h6⟩, h4⟩, h5⟩ := h
        have hz := ns_head h5 h4
        exact both_vt (je_blt c h1 h2 h3 e1 h6 (sL es c _ h5) hz.1 fun pos => hz.2 X.env pos) fun _ => rfl
      · cases h
    | _ => simp [chkE] at h
  | .bl1 b e, Γ, X, Wx, c, ex, h => by
    cases ex with
    | Call f as ks p =>
      simp only [chkE] at h
      split at h
      · rename_i y p1 z p' eq
        cases eq
        simp only [Bool.and_eq_true, decide_eq_true_eq] at h
        obtain ⟨⟨⟨⟨⟨e1, h1⟩, h2⟩, h3⟩, h4⟩, h5⟩ := h
        exact both_vt (je_bl1 c h1 h2 h3 e1 h4 (sE e c z h5).1 (notStar h5)) fun _ => rfl
      · cases h
    | _ => simp [chkE] at h
  | .met1 a m e, Γ, X, Wx, c, ex, h => by
    cases ex with
    | Call f as ks p =>
      simp only [chkE] at h
      split at h
      · rename_i o n apos z p' eq
        cases eq
        simp only [Bool.and_eq_true, decide_eq_true_eq] at h
        obtain ⟨⟨⟨⟨e1, h1⟩, h2⟩, h3⟩, h4⟩ := h
        exact both_vt (je_met1 e1 h1 h2 (sE a c o h3).1 (sE e c z h4).1 (notStar h4)) fun _ => rfl
      · cases h
    | _ => simp [chkE] at h
  | .meth a m es, Γ, X, Wx, c, ex, h => by
    cases ex with
    | Call f as ks p =>
      simp only [chkE] at h
      split at h
      · rename_i o n apos z p' eq
        cases eq
        simp only [Bool.and_eq_true, decide_eq_true_eq] at h
        obtain ⟨⟨⟨⟨⟨e1, h1⟩, h2⟩, h3⟩, h4⟩, h5⟩ := h
        exact both_vt (je_append e1 h1 h2 (sE a c o h4).1 (sL es c _ h5) (ns_head h5 h3).1) fun _ => rfl
      · cases h
    | _ => simp [chkE] at h
  | .fld _ _, Γ, X, Wx, c, ex, h => by simp [chkE] at h
  | .ix a b, Γ, X, Wx, c, ex, h => by
    cases ex with
    | Subscript x y p =>
      simp only [chkE, Bool.and_eq_true] at h
      obtain ⟨⟨h1, h2⟩, h3⟩ := h
      exact both_vt (je_ix (sE a c x h2).1 (sE b c y h3).1 h1) fun _ => rfl
    | _ => simp [chkE] at h
  | .slc a lo hi, Γ, X, Wx, c, ex, h => by
    cases ex with
    | Subscript x y p =>
      simp only [chkE] at h
      split at h
      · rename_i x' l u p2 p' eq
        cases eq
        simp only [Bool.and_eq_true] at h
        obtain ⟨⟨h1, h2⟩, h3⟩ := h
        exact both_vt (je_slc (sE a c x h1).1 (sO lo c l h2) (sO hi c u h3)) fun _ => rfl
      · cases h
    | _ => simp [chkE] at h
  | .lc elt tg it cd own, Γ, X, Wx, c, ex, h => by
    cases ex with
    | ListComp y gs scope p =>
      simp only [chkE] at h
      split at h
      · rename_i y' t i ifs scope' p' eq
        cases eq
        simp only [Bool.and_eq_true, List.all_eq_true] at h
        obtain ⟨⟨⟨⟨⟨h1, h2⟩, h3⟩, h4⟩, h5⟩, h6⟩ := h
        refine both_vt (je_lc c h1 (fun i hi => by simpa using h2 i hi) (sI it c t i h3).1 h4 (fun s H C cl fp => ?_) (fun s H C cl fp => (sE elt (c.block scope s H C cl fp) y h6).1) (sI it c t i h3).2) fun _ => rfl
        exact PTs.imp (sC cd (c.block scope s H C cl fp) ifs h5) fun _ _ _ q => same_blk.tT q
      · cases h
    | _ => simp [chkE] at h
  | .fmt _, Γ, X, Wx, c, ex, h => by simp [chkE] at h
  | .fv _, Γ, X, Wx, c, ex, h => by simp [chkE] at h
theorem sL : ∀ (es : EL) {Γ : Sc} {X : Cx} {Wx : WX}, Cok G Φ Γ X Wx → ∀ (xs : List Expr), chkL G Γ es xs = true → JA X Wx xs (evA G.glob Φ es)
  | .nil, Γ, X, Wx, c, xs, h => by
    cases xs with
    | nil => exact ja_nil
    | cons _ _ => simp [chkL] at h
  | .cons st e es, Γ, X, Wx, c, xs, h => by
    cases xs with
    | nil => simp [chkL] at h
    | cons x xs =>
      simp only [chkL, Bool.and_eq_true] at h
      obtain ⟨h1, h2⟩ := h
      cases st with
      | false =>
        simp only [Bool.false_eq_true, if_false] at h1
        exact ja_cons (sE e c x h1).1 (sL es c xs h2) (notStar h1)
      | true =>
        simp only [if_true] at h1
        split at h1
        · rename_i y p
          exact ja_star (sE e c y h1).1 (sL es c xs h2)
        · cases h1
theorem sO : ∀ (e : EO) {Γ : Sc} {X : Cx} {Wx : WX}, Cok G Φ Γ X Wx → ∀ (ex : Option Expr), chkO G Γ e ex = true → JO X Wx ex (evO G.glob Φ e)
  | .no, Γ, X, Wx, c, ex, h => by
    cases ex with
    | none => exact jo_no
    | some _ => simp [chkO] at h
  | .yes e, Γ, X, Wx, c, ex, h => by
    cases ex with
    | none => simp [chkO] at h
    | some x =>
      simp only [chkO] at h
      exact jo_yes (sE e c x h).1
theorem sC : ∀ (e : EO) {Γ : Sc} {X : Cx} {Wx : WX}, Cok G Φ Γ X Wx → ∀ (ex : List Expr), chkC G Γ e ex = true → PTs X ex (tT X Wx (evC G.glob Φ e))
  | .no, Γ, X, Wx, c, ex, h => by
    cases ex with
    | nil =>
      refine PTs.imp pts_nil fun σ H Q ⟨ρ, S, hh, rr, A, e, F⟩ => ?_
      cases e
      exact F ρ H (Go.refl _) A
    | cons _ _ => simp [chkC] at h
  | .yes e, Γ, X, Wx, c, ex, h => by
    simp only [chkC] at h
    split at h
    · rename_i x
      exact pts_one (sE e c x h).2
    · cases h
theorem sI : ∀ (i : It) {Γ : Sc} {X : Cx} {Wx : WX}, Cok G Φ Γ X Wx → ∀ (t ex : Expr), chkI G Γ i t ex = true → JI X Wx t ex (evI G.glob Φ i) ∧ ∀ x, foldedSetIterable ex X.env x = pure x
  | .sq e, Γ, X, Wx, c, t, ex, h => by
    simp only [chkI] at h
    exact ⟨ji_sq (sE e c ex h).1, folded_of h⟩
  | .r1 a, Γ, X, Wx, c, t, ex, h => by
    simp only [chkI] at h
    split at h
    · rename_i y p1 x p'
      simp only [Bool.and_eq_true, decide_eq_true_eq] at h
      obtain ⟨⟨⟨e1, h1⟩, h2⟩, h3⟩ := h
      exact ⟨ji_r1 c e1 h1 h2 (sE a c x h3).1 (notStar h3), fun _ => rfl⟩
    · cases h
  | .r2 a b, Γ, X, Wx, c, t, ex, h => by
    simp only [chkI] at h
    split at h
    · rename_i y p1 x z p'
      simp only [Bool.and_eq_true, decide_eq_true_eq] at h
      obtain ⟨⟨⟨⟨e1, h1⟩, h2⟩, h3⟩, h4⟩ := h
      exact ⟨ji_r2 c e1 h1 h2 (sE a c x h3).1 (sE b c z h4).1 (notStar h3) (notStar h4), fun _ => rfl⟩
    · cases h
  | .en a, Γ, X, Wx, c, t, ex, h => by
    simp only [chkI] at h
    split at h
    · rename_i ts k tp y p1 x p'
      simp only [Bool.and_eq_true, decide_eq_true_eq] at h
      obtain ⟨⟨⟨e1, h1⟩, h2⟩, h3⟩ := h
      exact ⟨ji_en c e1 h1 h2 (sE a c x h3).1 (notStar h3), fun _ => rfl⟩
    · cases h
  | .zp a b, Γ, X, Wx, c, t, ex, h => by
    simp only [chkI] at h
    split at h
    · rename_i ts k tp y p1 x z p'
      simp only [Bool.and_eq_true, decide_eq_true_eq] at h
      obtain ⟨⟨⟨⟨e1, h1⟩, h2⟩, h3⟩, h4⟩ := h
      exact ⟨ji_zp c e1 h1 h2 (sE a c x h3).1 (sE b c z h4).1 (notStar h3) (notStar h4), fun _ => rfl⟩
    · cases h
end
end
end Z

/-! Z11: statements -/
namespace Z
open PySem L2
section
variable {G : Gs} {Φ : CallF} {Γ : Sc} {X : Cx} {Wx : WX}

/-- where a statement stands -/
structure Cos (G : Gs) (Φ : CallF) (Γ : Sc) (X : Cx) (Wx : WX) : Prop where
  e : Cok G Φ Γ X Wx
  kind : X.env.scope.kind = .function
  pass : PassesOwn (model X.prog X.w) X.A X.env X.xe

def FinS (X : Cx) (Wx : WX) (W0 : Wd) (H0 : Hp) (r : Fw × Hh) (D : Ends) : Prop := ∀ ρ' H', Go W0 (wd X ρ' r.2 H') → Rep (wd X ρ' r.2 H') r.2 → match r.1 with
  | .nx S' => ∀ σ', RS (wd X ρ' r.2 H') σ' S' → D.nx σ' H'
  | .rt d => ∀ v, RE (wd X ρ' r.2 H') H0 v d → D.rt v H'
  | .bk S' => ∀ σ', RS (wd X ρ' r.2 H') σ' S' → D.bk σ' H'
  | .ct S' => ∀ σ', RS (wd X ρ' r.2 H') σ' S' → D.ct σ' H'
  | .xx C fs S' => ∀ σ' cls dx, RS (wd X ρ' r.2 H') σ' S' → RX (wd X ρ' r.2 H') cls dx C fs → Wx cls dx σ' H'
abbrev SF := Sl → Hh → BM
def tS (X : Cx) (Wx : WX) (f : SF) : TS := fun D σ H => ∃ ρ S h r, At X ρ h H σ S ∧ f S h = some r ∧ FinS X Wx (wd X ρ h H) H r D
abbrev JS (X : Cx) (Wx : WX) (st : Stmt) (f : SF) : Prop := PS X st (tS X Wx f)
abbrev JB (X : Cx) (Wx : WX) (st : List Stmt) (f : SF) : Prop := PSs X st (tS X Wx f)
theorem FinS.go {W0 : Wd} {ρ : Nat → Addr} {h : Hh} {H H0 : Hp} {r : Fw × Hh} {D : Ends} (g : Go W0 (wd X ρ h H)) (k : ∀ a, H a = none → H0 a = none) (F : FinS X Wx W0 H0 r D) : FinS X Wx (wd X ρ h H) H r D := by
  intro ρ' H' g' p'
  have q := F ρ' H' (g.trans g') p'
  obtain ⟨w, h'⟩ := r
  cases w with
  | rt d => exact fun v rv => q v (rv.old k)
  | nx S' => exact q
  | bk S' => exact q
  | ct S' => exact q
  | xx C fs S' => exact q
/-- the value first, then the rest -/
theorem tE.bs {ρ : Nat → Addr} {h : Hh} {H : Hp} {σ : St} {S : Sl} {fa : EF} {k : D → Hh → BM} {r : Fw × Hh} {D0 : Ends} {Q : VK} (A : At X ρ h H σ S)
    (e : Z.bs (fa S h) S k = some r) (F : FinS X Wx (wd X ρ h H) H r D0)
    (hk : ∀ d h1 ρ' H' v, fa S h = some (.ok d, h1) → Go (wd X ρ h H) (wd X ρ' h1 H') → At X ρ' h1 H' σ S → RE (wd X ρ' h1 H') H v d → k d h1 = some r → FinS X Wx (wd X ρ' h1 H') H' r D0 → Q v H') : tE X Wx fa σ H Q := by
  cases q : fa S h with
  | none => rw [q] at e; cases e
  | some ra =>
    rw [q] at e
    refine ⟨ρ, S, h, ra, A, q, ?_⟩
    match ra, q, e with
    | (.ok d, h1), q, e => exact fun ρ' H' g A' v rv => hk d h1 ρ' H' v q g A' rv e (F.go g g.dom)
    | (.ex C fs, h1), q, e =>
      cases e
      exact fun ρ' H' cls dx g A' rx => F ρ' H' g A'.rep σ cls dx A'.sl rx
theorem tT.bs {ρ : Nat → Addr} {h : Hh} {H : Hp} {σ : St} {S : Sl} {fa : TF} {k : Bool → Hh → BM} {r : Fw × Hh} {D0 : Ends} {Q : Bool → Hp → Prop} (A : At X ρ h H σ S)
    (e : Z.bs (fa S h) S k = some r) (F : FinS X Wx (wd X ρ h H) H r D0)
    (hk : ∀ b h1 ρ' H', Go (wd X ρ h H) (wd X ρ' h1 H') → At X ρ' h1 H' σ S → k b h1 = some r → FinS X Wx (wd X ρ' h1 H') H' r D0 → Q b H') : tT X Wx fa σ H Q := by
  cases q : fa S h with
  | none => rw [q] at e; cases e
  | some ra =>
    rw [q] at e
    refine ⟨ρ, S, h, ra, A, q, ?_⟩
    match ra, q, e with
    | (.ok d, h1), q, e => exact fun ρ' H' g A' => hk d h1 ρ' H' g A' e (F.go g g.dom)
    | (.ex C fs, h1), q, e =>
      cases e
      exact fun ρ' H' cls dx g A' rx => F ρ' H' g A'.rep σ cls dx A'.sl rx
theorem tI.bs {ρ : Nat → Addr} {h : Hh} {H : Hp} {σ : St} {S : Sl} {fa : IF} {k : Src → Hh → BM} {r : Fw × Hh} {D0 : Ends} {Q : L2.It → Hp → Prop} (A : At X ρ h H σ S)
    (e : Z.bs (fa S h) S k = some r) (F : FinS X Wx (wd X ρ h H) H r D0)
    (hk : ∀ s h1 ρ' H', Go (wd X ρ h H) (wd X ρ' h1 H') → At X ρ' h1 H' σ S → k s h1 = some r → FinS X Wx (wd X ρ' h1 H') H' r D0 → ∀ J, Wk X s ρ' h1 H' J → Q J H') : tI X Wx fa σ H Q := by
  cases q : fa S h with
  | none => rw [q] at e; cases e
  | some ra =>
    rw [q] at e
    refine ⟨ρ, S, h, ra, A, q, ?_⟩
    match ra, q, e with
    | (.ok d, h1), q, e => exact fun ρ' H' g A' => hk d h1 ρ' H' g A' e (F.go g g.dom)
    | (.ex C fs, h1), q, e =>
      cases e
      exact fun ρ' H' cls dx g A' rx => F ρ' H' g A'.rep σ cls dx A'.sl rx

theorem swaps_of {ex : Expr} {t : Option Expr} {l : Nat} {env : Env} (h : nocomp ex = true) : swapsWith ex t l env = pure false := by
  cases ex <;> first | rfl | (simp [nocomp] at h)
theorem swapsT_of {ex : Expr} {ts : List Expr} {k : Nat} {p : Pos} {l : Nat} {env : Env} : swapsWithSole [.Tuple ts k p] ex l env = pure false := by
  cases ex <;> rfl
theorem stores_of {ex : Expr} {ts : List Expr} {k : Nat} {p : Pos} {env : Env} (h : notup ex = true) : swappedStores [.Tuple ts k p] ex env = pure none := by
  cases ex <;> first | rfl | (simp [notup] at h)

theorem js_ex {x : Expr} {f : EF} {pos : Pos} (j : JE X Wx x f) (h : nocomp x = true) : JS X Wx (.Expr x pos) (fun S h => bs (f S h) S fun _ h1 => some (.nx S, h1)) := by
  refine PS.imp (ps_expr j (swaps_of h)) fun D σ H ⟨ρ, S, hh, r, A, e, F⟩ => ?_
  refine tE.bs A e F fun d h1 ρ1 H1 v _ g A1 rv e1 F1 => ?_
  cases e1
  exact F1 ρ1 H1 (Go.refl _) A1.rep σ A1.sl
theorem set_imp {i : Nat} {f : EF} {D : Ends} {σ : St} {H : Hp} (q : tS X Wx (fun S h => bs (vv f S h) S fun d h1 => some (.nx (S.set i (some d)), h1)) D σ H) : tAsg (tE X Wx (vv f)) (gName i) D σ H := by
  obtain ⟨ρ, S, hh, r, A, e, F⟩ := q
  refine tE.bs A e F fun d h1 ρ1 H1 v eq g A1 rv e1 F1 => ?_
  cases e1
  exact F1 ρ1 H1 (Go.refl _) A1.rep _ (A1.sl.set i (rv.ofHeld (vv_held eq)))
theorem js_set {i : Nat} {y : Str} {x : Expr} {f : EF} {p pos : Pos} (c : Cok G Φ Γ X Wx) (j : JE X Wx x f) (h : nocomp x = true) (hN : Γ.N[i]? = some y) (hs : stoB Γ y = true) :
    JS X Wx (.Assign [.Name y p] x pos) (fun S h => bs (vv f S h) S fun d h1 => some (.nx (S.set i (some d)), h1)) :=
  PS.imp (ps_set (i := i) (by rw [c.N]; exact c.nd) (by rw [c.N]; exact hN) (sto_of c hs) (JE.vv j) (swaps_of h) (c.fn y hs)) fun D σ H q => set_imp q
theorem js_asg {ts : List Expr} {k : Nat} {l : TL} {x : Expr} {f : EF} {p pos : Pos} (c : Cok G Φ Γ X Wx) (j : JE X Wx x f) (h : notup x = true) (hg : chkGL Γ l ts = true) :
    JS X Wx (.Assign [.Tuple ts k p] x pos) (fun S h => bs (vv f S h) S fun d h1 => match bindT h1 (.tp l) d S with
      | some S1 => some (.nx S1, h1)
      | none => none) := by
  refine PS.imp (ps_asg (JE.vv j) (jg c (.tp l) (.Tuple ts k p) hg) swapsT_of (stores_of h) rfl) fun D σ H ⟨ρ, S, hh, r, A, e, F⟩ => ?_
  refine tE.bs A e F fun d h1 ρ1 H1 v eq g A1 rv e1 F1 => ?_
  split at e1
  · rename_i S1 eb
    cases e1
    exact ⟨ρ1, S, h1, d, S1, A1, rv.ofHeld (vv_held eq), eb, fun σ' A' _ _ => F1 ρ1 H1 (Go.refl _) A'.rep σ' A'.sl⟩
  · cases e1
theorem aug_ok (op : Operator) (ho : augOp op = true) : Op2 X (inplaceOp op) (fun h x y => augD h op x y) := by
  cases op with
  | Add =>
    refine Op2.or (op2_I0 (g' := fun i j => .int (i + j)) (fun _ _ _ => .int _) iop_add) (op2_S (g' := fun i j => .str (i ++ j)) (fun _ _ _ => .str _) iop_add_str) fun h x y d e => ?_
    cases x <;> first | exact .inr e | (cases y <;> first | exact .inl e | exact .inr e)
  | Sub =>
    refine Op2.or (op2_I0 (g' := fun i j => .int (i - j)) (fun _ _ _ => .int _) iop_sub) Op2.nil fun h x y d e => ?_
    cases x <;> first | exact .inr e | (cases y <;> first | exact .inl e | exact .inr e)
  | _ => simp [augOp] at ho
theorem js_aug {i : Nat} {y : Str} {x : Expr} {f : EF} {op : Operator} {p pos : Pos} (c : Cok G Φ Γ X Wx) (j : JE X Wx x f) (hN : Γ.N[i]? = some y) (hs : stoB Γ y = true) (ho : augOp op = true) :
    JS X Wx (.AugAssign (.Name y p) op x pos) (fun S h => match getS S i with
      | none => none
      | some x => bs (f S h) S fun y h1 => match augD h1 op x y with
        | some d => some (.nx (S.set i (some d)), h1)
        | none => none) := by
  obtain ⟨r0, o, k⟩ := aug_ok (X := X) op ho
  refine PS.imp (ps_aug (i := i) (by rw [c.N]; exact c.nd) (by rw [c.N]; exact hN) (sto_of c hs) j (ti := r0) o (c.fn y hs)) fun D σ H ⟨ρ, S, hh, r, A, e, F⟩ => ?_
  dsimp only at e
  split at e
  · cases e
  · rename_i x0 ex0
    have hx : S[i]? = some (some x0) := by
      unfold getS at ex0
      cases z : S[i]? with
      | none => rw [z] at ex0; cases ex0
      | some y =>
        rw [z] at ex0
        have ed' : y = some x0 := ex0
        rw [ed']
    obtain ⟨v0, ev0, rv0⟩ := A.sl.at_ i x0 hx
    refine ⟨v0, ev0, ?_⟩
    refine tE.bs A e F fun d h1 ρ1 H1 v eq g A1 rv e1 F1 => ?_
    split at e1
    · rename_i d' ed
      cases e1
      refine k ρ1 h1 H1 σ S H x0 d v0 v d' _ A1 (fun a z => g.dom a z) (.held (rv0.go g A.rep)) rv ed fun H' v' g' A' r' => ?_
      have : ∀ xs, d' ≠ .lst xs := by
        rintro xs rfl
        unfold augD at ed
        split at ed <;> first | cases ed | (split at ed <;> cases ed)
      exact F1 ρ1 H' g' A'.rep _ (A'.sl.set i (r'.ofHeld this))
    · cases e1
theorem js_ret {x : Expr} {f : EF} {pos : Pos} (j : JE X Wx x f) : JS X Wx (.Return (some x) pos) (fun S h => bs (f S h) S fun d h1 => some (.rt d, h1)) := by
  refine PS.imp (ps_ret j) fun D σ H ⟨ρ, S, hh, r, A, e, F⟩ => ?_
  refine tE.bs A e F fun d h1 ρ1 H1 v eq g A1 rv e1 F1 => ?_
  cases e1
  exact F ρ1 H1 g A1.rep v rv
theorem js_retn {pos : Pos} : JS X Wx (.Return none pos) (fun _ h => some (.rt .non, h)) := by
  refine PS.imp ps_retN fun D σ H ⟨ρ, S, hh, r, A, e, F⟩ => ?_
  cases e
  exact F ρ H (Go.refl _) A.rep .non (.held .non)
theorem js_if {x : Expr} {a b : List Stmt} {ft : TF} {fa fb : SF} {pos : Pos} (j : JT X Wx x ft) (ja : JB X Wx a fa) (jb : JB X Wx b fb) : JS X Wx (.If x a b pos) (fun S h => bs (ft S h) S fun k h1 => if k = true then fa S h1 else fb S h1) := by
  refine PS.imp (ps_if j ja jb) fun D σ H ⟨ρ, S, hh, r, A, e, F⟩ => ?_
  refine tT.bs A e F fun k h1 ρ1 H1 g A1 e1 F1 => ?_
  cases k with
  | true =>
    rw [if_pos rfl] at e1 ⊢
    exact ⟨ρ1, S, h1, r, A1, e1, F1⟩
  | false =>
    rw [if_neg Bool.false_ne_true] at e1 ⊢
    exact ⟨ρ1, S, h1, r, A1, e1, F1⟩
theorem js_pass {pos : Pos} : JS X Wx (.Pass pos) (fun S h => some (.nx S, h)) := PS.imp ps_pass fun D σ H ⟨ρ, S, hh, r, A, e, F⟩ => by
  cases e
  exact F ρ H (Go.refl _) A.rep σ A.sl
theorem js_brk {pos : Pos} : JS X Wx (.Break pos) (fun S h => some (.bk S, h)) := PS.imp ps_break fun D σ H ⟨ρ, S, hh, r, A, e, F⟩ => by
  cases e
  exact F ρ H (Go.refl _) A.rep σ A.sl
theorem js_cnt {pos : Pos} : JS X Wx (.Continue pos) (fun S h => some (.ct S, h)) := PS.imp ps_continue fun D σ H ⟨ρ, S, hh, r, A, e, F⟩ => by
  cases e
  exact F ρ H (Go.refl _) A.rep σ A.sl
theorem jb_nil : JB X Wx [] (fun S h => some (.nx S, h)) := PSs.imp pss_nil fun D σ H ⟨ρ, S, hh, r, A, e, F⟩ => by
  cases e
  exact F ρ H (Go.refl _) A.rep σ A.sl
theorem jb_cons {st : Stmt} {sts : List Stmt} {f fs : SF} (j : JS X Wx st f) (js : JB X Wx sts fs) : JB X Wx (st :: sts) (fun S h => bq (f S h) fun S1 h1 => fs S1 h1) := by
  refine PSs.imp (pss_cons j js) fun D σ H ⟨ρ, S, hh, r, A, e, F⟩ => ?_
  dsimp only at e
  cases q : f S hh with
  | none => rw [q] at e; cases e
  | some ra =>
    rw [q] at e
    refine ⟨ρ, S, hh, ra, A, q, fun ρ1 H1 g1 p1 => ?_⟩
    obtain ⟨w, h1⟩ := ra
    cases w with
    | nx S1 =>
      intro σ1 s1
      exact ⟨ρ1, S1, h1, r, ⟨p1, s1⟩, e, F.go g1 g1.dom⟩
    | rt d => cases e; exact F ρ1 H1 g1 p1
    | bk S1 => cases e; exact F ρ1 H1 g1 p1
    | ct S1 => cases e; exact F ρ1 H1 g1 p1
    | xx C fs' S1 => cases e; exact F ρ1 H1 g1 p1
theorem js_for {tg i : Expr} {body : List Stmt} {t : Tg} {fi : IF} {fb : SF} {pos : Pos} (c : Cos G Φ Γ X Wx) (ji : JI X Wx tg i fi) (hg : chkG Γ t tg = true) (jb : JB X Wx body fb) (hs : ∀ x, foldedSetIterable i X.env x = pure x) :
    JS X Wx (.For tg i body [] pos) (fun S h => bs (fi S h) S fun s h1 => foGo s.stay t fb s.items S h1) := by
  refine PS.imp (ps_for c.pass c.e.calm ji (jg c.e t tg hg) jb hs) fun Dn σ H ⟨ρ, S, hh, r, A, e, F⟩ => ?_
  refine tI.bs A e F fun s h1 ρ1 H1 g1 A1 e1 F1 J wk => ?_
  refine ⟨fun i m σ' H' => m = s.items.length - i ∧ i ≤ s.items.length ∧ ∃ ρ' S' h', At X ρ' h' H' σ' S' ∧ Go (wd X ρ1 h1 H1) (wd X ρ' h' H') ∧ foGo s.stay t fb (s.items.drop i) S' h' = some r, ⟨s.items.length, by simp, Nat.zero_le _, ρ1, S, h1, A1, Go.refl _, by rw [List.drop_zero]; exact e1⟩, ?_⟩
  rintro i m σ' H' ⟨rfl, hi, ρ', S', h', A', g', e'⟩
  by_cases hlt : i < s.items.length
  · refine .inr ?_
    have hd : s.items.drop i = s.items[i] :: s.items.drop (i + 1) := (List.getElem_cons_drop hlt).symm
    rw [hd] at e'
    simp only [foGo] at e'
    split at e'
    · rename_i st
      obtain ⟨_, turn⟩ := wk ρ' h' H' σ' S' g' A' st
      obtain ⟨go, yl⟩ := turn i hlt
      refine ⟨go, fun σ2 H2 => ∃ ρ2 S2 h2, At X ρ2 h2 H2 σ2 S2 ∧ Go (wd X ρ1 h1 H1) (wd X ρ2 h2 H2) ∧ foGo s.stay t fb (s.items.drop (i + 1)) S2 h2 = some r, fun σ2 H2 ⟨ρ2, S2, h2, a, b, cc⟩ => ⟨s.items.length - (i + 1), by omega, rfl, hlt, ρ2, S2, h2, a, b, cc⟩, fun x H6 y6 => ?_⟩
      obtain ⟨dx, edx, g6, A6, r6⟩ := yl x H6 y6
      have edx' : s.items[i] = dx := by
        rw [List.getElem?_eq_getElem hlt] at edx
        exact Option.some.inj edx
      subst edx'
      cases eb : bindT h' t s.items[i] S' with
      | none => rw [eb] at e'; cases e'
      | some S1 =>
        rw [eb] at e'
        dsimp only at e'
        refine ⟨ρ', S', h', s.items[i], S1, A6, r6, eb, fun σ2 A2 _ _ => ?_⟩
        cases ef : fb S1 h' with
        | none => rw [ef] at e'; cases e'
        | some rb =>
          rw [ef] at e'
          refine ⟨ρ', S1, h', rb, A2, ef, fun ρ3 H3 g3 p3 => ?_⟩
          have gg : Go (wd X ρ1 h1 H1) (wd X ρ3 rb.2 H3) := (g'.trans g6).trans g3
          obtain ⟨w, h3⟩ := rb
          cases w with
          | nx S3 => exact fun σ3 s3 => ⟨ρ3, S3, h3, ⟨p3, s3⟩, gg, e'⟩
          | ct S3 => exact fun σ3 s3 => ⟨ρ3, S3, h3, ⟨p3, s3⟩, gg, e'⟩
          | bk S3 =>
            cases e'
            exact fun σ3 s3 => F1 ρ3 H3 gg p3 σ3 s3
          | rt d =>
            cases e'
            exact fun v rv => F1 ρ3 H3 gg p3 v (rv.old fun a z => (g'.trans g6).dom a z)
          | xx C fs S3 =>
            cases e'
            exact F1 ρ3 H3 gg p3
    · cases e'
  · have ei : i = s.items.length := by omega
    subst ei
    rw [List.drop_length] at e'
    simp only [foGo] at e'
    split at e'
    · rename_i st
      cases e'
      exact .inl ⟨(wk ρ' _ H' _ _ g' A' st).1, F1 ρ' H' g' A'.rep σ' A'.sl⟩
    · cases e'
theorem js_while {x : Expr} {body : List Stmt} {ft : TF} {fb : SF} {pos : Pos} {N : Nat} (c : Cos G Φ Γ X Wx) (j : JT X Wx x ft) (jb : JB X Wx body fb) :
    JS X Wx (.While x body [] pos) (fun S h => whGo ft fb N S h) := by
  refine PS.imp (ps_while c.pass j jb) fun Dn σ H ⟨ρ, S, hh, r, A, e, F⟩ => ?_
  refine ⟨fun m σ' H' => ∃ ρ' S' h', At X ρ' h' H' σ' S' ∧ Go (wd X ρ hh H) (wd X ρ' h' H') ∧ whGo ft fb m S' h' = some r, ⟨N, ρ, S, hh, A, Go.refl _, e⟩, ?_⟩
  rintro m σ' H' ⟨ρ', S', h', A', g', e'⟩
  cases m with
  | zero => cases e'
  | succ m =>
    simp only [whGo] at e'
    have F' : FinS X Wx (wd X ρ' h' H') H' r Dn := F.go g' g'.dom
    refine tT.bs A' e' F' fun k h1 ρ1 H1 g A1 e1 F1 => ?_
    cases k with
    | true =>
      rw [if_pos rfl] at e1 ⊢
      refine ⟨fun σ2 H2 => ∃ ρ2 S2 h2, At X ρ2 h2 H2 σ2 S2 ∧ Go (wd X ρ hh H) (wd X ρ2 h2 H2) ∧ whGo ft fb m S2 h2 = some r, fun σ2 H2 q => ⟨m, Nat.lt_succ_self m, q⟩, ?_⟩
      cases ef : fb S' h1 with
      | none => rw [ef] at e1; cases e1
      | some rb =>
        rw [ef] at e1
        refine ⟨ρ1, S', h1, rb, A1, ef, fun ρ3 H3 g3 p3 => ?_⟩
        have gg : Go (wd X ρ hh H) (wd X ρ3 rb.2 H3) := (g'.trans g).trans g3
        obtain ⟨w, h3⟩ := rb
        cases w with
        | nx S3 => exact fun σ3 s3 => ⟨ρ3, S3, h3, ⟨p3, s3⟩, gg, e1⟩
        | ct S3 => exact fun σ3 s3 => ⟨ρ3, S3, h3, ⟨p3, s3⟩, gg, e1⟩
        | bk S3 =>
          cases e1
          exact fun σ3 s3 => F1 ρ3 H3 g3 p3 σ3 s3
        | rt d =>
          cases e1
          exact F1 ρ3 H3 g3 p3
        | xx C fs S3 =>
          cases e1
          exact F1 ρ3 H3 g3 p3
    | false =>
      rw [if_neg Bool.false_ne_true] at e1 ⊢
      cases e1
      exact F1 ρ1 H1 (Go.refl _) A1.rep σ' A1.sl
theorem tAsg_vv {f : EF} {i : Nat} {D : Ends} {σ : St} {H : Hp} (q : tAsg (tE X Wx (vv f)) (gName i) D σ H) : tAsg (tE X Wx f) (gName i) D σ H := tE.vv q
theorem sSet (c : Cos G Φ Γ X Wx) {i : Nat} {e : E} {y : Str} {p : Pos} {x : Expr} {pos : Pos} (h1 : Γ.N[i]? = some y) (h2 : stoB Γ y = true) (h3 : setOk Γ y p x = true) (h4 : chkE G Γ e x = true) : JS X Wx (.Assign [.Name y p] x pos) (evS G.glob Φ (.set i e)) := by
  by_cases hc : nocomp x = true
  · exact js_set c.e (sE e c.e x h4).1 hc h1 h2
  · cases x with
    | ListComp y' gs scope cpos =>
      simp only [setOk, Bool.and_eq_true, decide_eq_true_eq, Bool.not_eq_true'] at h3
      obtain ⟨⟨l1, l2⟩, l3⟩ := h3
      cases e <;> simp only [chkE, Bool.false_eq_true] at h4
      rename_i elt tg it cd own
      split at h4
      · rename_i y'' t i' ifs scope' p'' eq
        cases eq
        simp only [Bool.and_eq_true, List.all_eq_true] at h4
        obtain ⟨⟨⟨⟨⟨k1, k2⟩, k3⟩, k4⟩, k5⟩, k6⟩ := h4
        refine PS.imp (js_setLc c.e k1 (fun i hi => by simpa using k2 i hi) (sI it c.e t i' k3).1 k4 (fun s H C cl fp => PTs.imp (sC cd (c.e.block scope s H C cl fp) ifs k5) fun _ _ _ q => same_blk.tT q)
          (fun s H C cl fp => (sE elt (c.e.block scope s H C cl fp) _ k6).1) (sI it c.e t i' k3).2 h1 l1 c.kind l2 l3) fun D σ H q => ?_
        exact tAsg_vv (set_imp q)
      · cases h4
    | SetComp _ _ _ _ => simp [setOk, nocomp] at h3
    | DictComp _ _ _ _ _ => simp [setOk, nocomp] at h3
    | _ => exact absurd rfl hc
mutual
theorem sS (c : Cos G Φ Γ X Wx) : ∀ (s : S) (st : Stmt), chkS G Γ s st = true → JS X Wx st (evS G.glob Φ s)
  | .ex e, st, h => by
    cases st <;> simp only [chkS, Bool.false_eq_true, Bool.and_eq_true] at h
    exact js_ex (sE e c.e _ h.2).1 h.1
  | .set i e, st, h => by
    cases st with
    | Assign ts x pos =>
      simp only [chkS] at h
      split at h
      · rename_i y p x' p' eq
        cases eq
        simp only [Bool.and_eq_true, decide_eq_true_eq] at h
        obtain ⟨⟨⟨h1, h2⟩, h3⟩, h4⟩ := h
        exact sSet c h1 h2 h3 h4
      · cases h
    | _ => simp [chkS] at h
  | .asg t e, st, h => by
    cases st with
    | Assign ts x pos =>
      simp only [chkS] at h
      split at h
      · rename_i ts' k p x' p' eq
        cases eq
        simp only [Bool.and_eq_true] at h
        exact js_asg c.e (sE e c.e _ h.2).1 h.1.1 h.1.2
      · cases h
    | _ => simp [chkS] at h
  | .aug i op e, st, h => by
    cases st with
    | AugAssign tg o x pos =>
      simp only [chkS] at h
      split at h
      · rename_i y p o' x' p' eq
        cases eq
        simp only [Bool.and_eq_true, decide_eq_true_eq] at h
        obtain ⟨⟨⟨⟨h1, h2⟩, rfl⟩, h3⟩, h4⟩ := h
        exact js_aug c.e (sE e c.e _ h4).1 h1 h2 h3
      · cases h
    | _ => simp [chkS] at h
  | .ret e, st, h => by
    cases st with
    | Return v pos =>
      cases v with
      | some x =>
        simp only [chkS] at h
        exact js_ret (sE e c.e x h).1
      | none => simp [chkS] at h
    | _ => simp [chkS] at h
  | .retn, st, h => by
    cases st with
    | Return v pos =>
      cases v with
      | some x => simp [chkS] at h
      | none => exact js_retn
    | _ => simp [chkS] at h
  | .ife d a b, st, h => by
    cases st <;> simp only [chkS, Bool.false_eq_true, Bool.and_eq_true] at h
    exact js_if (sE d c.e _ h.1.1).2 (sB c a _ h.1.2) (sB c b _ h.2)
  | .fo t it b, st, h => by
    cases st with
    | For tg i body oe pos =>
      cases oe with
      | nil =>
        simp only [chkS, Bool.and_eq_true] at h
        obtain ⟨⟨h1, h2⟩, h3⟩ := h
        exact js_for c (sI it c.e tg i h1).1 h2 (sB c b body h3) (sI it c.e tg i h1).2
      | cons _ _ => simp [chkS] at h
    | _ => simp [chkS] at h
  | .wh d b, st, h => by
    cases st with
    | While x body oe pos =>
      cases oe with
      | nil =>
        simp only [chkS, Bool.and_eq_true] at h
        exact js_while c (sE d c.e x h.1).2 (sB c b body h.2)
      | cons _ _ => simp [chkS] at h
    | _ => simp [chkS] at h
  | .pas, st, h => by
    cases st <;> simp only [chkS, Bool.false_eq_true] at h
    exact js_pass
  | .brk, st, h => by
    cases st <;> simp only [chkS, Bool.false_eq_true] at h
    exact js_brk
  | .cnt, st, h => by
    cases st <;> simp only [chkS, Bool.false_eq_true] at h
    exact js_cnt
theorem sB (c : Cos G Φ Γ X Wx) : ∀ (l : SL) (sts : List Stmt), chkB G Γ l sts = true → JB X Wx sts (evB G.glob Φ l)
  | .nil, sts, h => by
    cases sts with
    | nil => exact jb_nil
    | cons _ _ => simp [chkB] at h
  | .cons s l, sts, h => by
    cases sts with
    | nil => simp [chkB] at h
    | cons st sts =>
      simp only [chkB, Bool.and_eq_true] at h
      exact jb_cons (sS c s st h.1) (sB c l sts h.2)
end
end
end Z

/-! Z12: defs, and a law -/
namespace Z
open PySem L2

structure Row where
  qual : Str
  st : Stmt
  ps : List Str
  N : List Str
  body : SL
def Row.df (r : Row) : Df := ⟨r.ps.length, r.N.length, r.body⟩
abbrev Tab := List (Str × Row)
def Tab.T (t : Tab) : Str → Option Df := fun x => (t.lookup x).map Row.df
/-- what the top leaves of a def -/
structure DefOk (K : PySem.W.Frag) (mg : Str → Option Value) (G : Gs) (x : Str) (r : Row) : Prop where
  ex : ∃ (f : Addr) (fd : FuncData), Fun K x r.qual r.st f fd ∧ mg x = some (.ref f) ∧ Binds K fd r.ps []
  sc : FnScope r.N r.ps (defScope r.st)
  chk : chkB G ⟨r.N, defScope r.st, none⟩ r.body (defBody r.st) = true
structure TopOk (K : PySem.W.Frag) (mg : Str → Option Value) (G : Gs) (t : Tab) : Prop where
  defs : ∀ x r, t.lookup x = some r → DefOk K mg G x r
  fns : ∀ x n, G.fns.lookup x = some n → ∃ r, t.lookup x = some r ∧ r.ps.length = n
  glob : ∀ x d, G.glob.lookup x = some d → ∃ u v, mg x = some u ∧ RelV v u ∧ ∀ ρ n H, R ⟨K, mg, ρ, n, H⟩ v d
  blt : ∀ x ∈ G.blt, mg x = none
section
variable {P : Program} {w : World} {K : PySem.W.Frag} {mg : Str → Option Value} {base : Heap} {G : Gs} {t : Tab}
theorem spF_len {Φ : CallF} {x : Str} {ps : List Str} : ∀ vs H Q E, spF P w K mg Φ x ps.length vs H Q E → vs.length = ps.length := by
  rintro vs H Q E ⟨ρ, h, ds, r, _, rl, e, _⟩
  rw [rl.length, e]
theorem fns_ok (ok : TopOk K mg G t) : ∀ (k : Nat) (x : Str) (r : Row) (f : Addr) (fd : FuncData), t.lookup x = some r → Fun K x r.qual r.st f fd →
    FnOk P w K mg base (L2.CX P w) (k + 1) f fd r.ps (spF P w K mg (calls G.glob t.T k) x r.ps.length)
  | 0, x, r, f, fd, e, F => ⟨spF_len, fun A outer s H args us vs Q E hr he hb hv hs => by
      obtain ⟨ρ, h, ds, r, _, _, _, e, _⟩ := hs
      cases e⟩
  | k + 1, x, r, f, fd, e, F => by
    have ih := fns_ok ok k
    have D := ok.defs x r e
    refine F.okX D.sc spF_len fun cdv A outer s H vs Q E hr hs => ?_
    obtain ⟨ρ, h, ds, rr, p, rl, hl, ec, fin⟩ := hs
    refine ⟨tS (cxOf (L2.CX P w) P w K mg base r.N r.qual (defScope r.st) f cdv A outer s H E) (fun cls d _ H => E cls d H) (evB G.glob (calls G.glob t.T k) r.body), ?_, ?_⟩
    · refine sB ⟨⟨rfl, D.sc.nd, rfl, rfl, ?_, fun _ _ => .inl rfl, takes_of rfl rfl rfl rfl, ok.glob, ok.blt, fun y n hy => ?_⟩, D.sc.kind, passes_of rfl⟩ r.body _ D.chk
      · have := hr.un
        show (A.deeper _).units + 65 < cLine
        omega
      · obtain ⟨r', er, en⟩ := ok.fns y n hy
        obtain ⟨f', fd', F', hm, hb⟩ := (ok.defs y r' er).ex
        subst en
        exact ⟨f', fd', r'.ps, k + 1, ih y r' f' fd' er F', hr, hm, F'.kp, hb⟩
    · have hT : t.T x = some r.df := by
        unfold Tab.T
        rw [e]
        rfl
      simp only [calls, hT] at ec
      have hpl : ds.length = r.df.ps := hl
      rw [if_pos hpl] at ec
      have hpN : r.ps.length ≤ r.N.length := by
        have := congrArg List.length D.sc.pre
        rw [List.length_take] at this
        omega
      have rs : RS ⟨K, mg, ρ, h.length, H⟩ (L2.start r.N vs) (ds.map some ++ List.replicate (r.df.ns - r.df.ps) none) := by
        have hv : vs.length = ds.length := rl.length
        refine ⟨?_, fun i d q => ?_⟩
        · unfold L2.start
          rw [List.length_append, List.length_append, List.length_map, List.length_map, List.length_replicate, List.length_replicate, hv]
          show ds.length + (r.N.length - ds.length) = ds.length + (r.N.length - r.ps.length)
          rw [hl]
        · by_cases c : i < ds.length
          · rw [List.getElem?_append_left (by rw [List.length_map]; exact c), List.getElem?_map] at q
            cases z : ds[i]? with
            | none => rw [z] at q; cases q
            | some d' =>
              rw [z] at q
              cases q
              obtain ⟨v, ev, rv⟩ := rl.get i z
              refine ⟨v, ?_, rv⟩
              unfold L2.start
              rw [List.getElem?_append_left (by rw [List.length_map, hv]; exact c), List.getElem?_map, ev]
              rfl
          · rw [List.getElem?_append_right (by rw [List.length_map]; omega), List.getElem?_replicate] at q
            split at q <;> cases q
      generalize hb : evB G.glob (calls G.glob t.T k) r.df.body (ds.map some ++ List.replicate (r.df.ns - r.df.ps) none) h = rb at ec
      match rb, ec with
      | some (.nx S', h'), ec =>
        cases ec
        exact ⟨ρ, _, h, _, ⟨p, rs⟩, hb, fun ρ' H' g p' σ' s' => fin ρ' H' .non g p' (.held .non)⟩
      | some (.rt d, h'), ec =>
        cases ec
        exact ⟨ρ, _, h, _, ⟨p, rs⟩, hb, fun ρ' H' g p' v rv => fin ρ' H' v g p' rv⟩
      | some (.xx C fs S', h'), ec =>
        cases ec
        exact ⟨ρ, _, h, _, ⟨p, rs⟩, hb, fun ρ' H' g p' σ' cls dx s' rx => fin ρ' H' cls dx g p' rx⟩
      | some (.bk _, _), ec => cases ec
      | some (.ct _, _), ec => cases ec
      | none, ec => cases ec
/-- what a law promises -/
def spLaw (K : PySem.W.Frag) : Sp := fun vs H Q _ => ∃ (a : Addr) (ns : List Int), vs = [.ref a] ∧ Only H ∧ SqL K H a (ns.map V.int) ∧ ns.length ≤ 63 ∧ ∀ H', Q (.bl true) H'
theorem law_ok (ok : TopOk K mg G t) {k : Nat} {r : Row} {f : Addr} {fd : FuncData} {x : Str} (e : t.lookup x = some r) (F : Fun K x r.qual r.st f fd) {p : Str} (hp : r.ps = [p])
    (run : ∀ ns : List Int, ns.length ≤ 63 → ∃ h', calls G.glob t.T k x [.frl (ns.map D.int)] [] = some (.ok (.bl true), h')) : FnOk P w K mg base (L2.CX P w) (k + 1) f fd [p] (spLaw K) := by
  have h0 := fns_ok (P := P) (w := w) (base := base) ok k x r f fd e F
  rw [hp] at h0
  refine h0.imp fun vs H Q E q => ?_
  obtain ⟨a, ns, rfl, ho, hs, hl, hq⟩ := q
  obtain ⟨h', er⟩ := run ns hl
  have fz : FzL K H a (ns.map V.int) := by
    rcases hs with (hs | hs) | hs
    · rcases ho a with z | ⟨o, xs, z⟩
      · rw [hs] at z; cases z
      · rw [hs] at z; cases z
    · exact .inl hs
    · exact .inr hs
  refine ⟨fun _ => 0, [], [.frl (ns.map D.int)], _, ⟨rfl, fun i j hi => absurd hi (Nat.not_lt_zero i), fun i o q => by simp at q⟩, .cons (.frl fz (RL.of_map (fun a => .int a) ns)) .nil, rfl, er, fun ρ' H' v g p' rv => ?_⟩
  rw [rv.bl_inv]
  exact hq H'
end
/-- the end of a law's proof -/
theorem walk {l : PySem.W.OpenLaw} {q : Program} {loose : List Str} {XP : (Str → Option Value) → Heap → Prop} {YP : World → Heap → Prop} {d : DefRec} {K : Params → PySem.W.Frag} {G : Gs} {t : Tab} {k : Nat} {r : Row} {x p : Str}
    (hn : l.most = some 63) (hdf : d.params.defaults = []) (hd : d.name = x) (hr : Room (k + 1) callerA)
    (hY : ∀ (w : World) (h : Heap), YP w h → (K w.params).In h) (e : t.lookup x = some r) (hp : r.ps = [p])
    (run : ∀ ns : List Int, ns.length ≤ 63 → ∃ h', calls G.glob t.T k x [.frl (ns.map D.int)] [] = some (.ok (.bl true), h'))
    (ok : ∀ (w : World) (mg : Str → Option Value) (h : Heap), (K w.params).In h → h.Ns mainGlobals mg → TopOk (K w.params) mg G t ∧ ∃ f fd, mg x = some (.ref f) ∧ Fun (K w.params) x r.qual r.st f fd ∧ ∀ (s : Shared) (u : Value), BindsTo s fd ⟨[u], []⟩ [(p, u)]) :
    PySem.W.WalkO q loose XP YP l.row.toRowW d [] (fun f vs => PySem.call f vs) := by
  refine L2.walk_of (n := 63) (k := k + 1) (x := p) (CX := fun w => L2.CX l.prog w) (sp := fun w => spLaw (K w.params)) hn (by decide) hdf hr hY (fun w mg fa h KX NG hm => ?_) (fun w H a ns hl ho hs => ⟨a, ns, rfl, ho, hs, hl, fun _ => rfl⟩) fun w H s e s' z => ?_
  · obtain ⟨T, f, fd, hm', F, hb⟩ := ok w mg h KX NG
    rw [hd, hm'] at hm
    cases hm
    exact ⟨fd, hb, fun base _ _ => law_ok T e F hp run⟩
  · obtain ⟨_, _, _, _, _, _, _, _, _, _, _, _, z⟩ := z
    exact z
end Z

/-! Z13: the top's facts put together -/
namespace Z
open PySem L2
inductive All {α : Type} (P : α → Prop) : List α → Prop
  | nil : All P []
  | cons {a : α} {l : List α} (h : P a) (t : All P l) : All P (a :: l)
theorem All.lookup {β : Type} {P : Str × β → Prop} : ∀ {l : List (Str × β)}, All P l → ∀ x r, l.lookup x = some r → P (x, r)
  | _, .nil, x, r, e => by cases e
  | (y, s) :: l, .cons h t, x, r, e => by
    rw [List.lookup_cons] at e
    split at e
    · rename_i q
      cases e
      rw [eq_of_beq q]
      exact h
    · exact All.lookup t x r e
theorem All.mem {α : Type} {P : α → Prop} : ∀ {l : List α}, All P l → ∀ x ∈ l, P x
  | _, .cons h t, x, m => (List.mem_cons.mp m).elim (fun e => e ▸ h) (All.mem t x)
theorem lk {β : Type} {x y : Str} {b : β} {l : List (Str × β)} (h : (x == y) = true) : ((y, b) :: l).lookup x = some b := by rw [List.lookup_cons, h]
theorem ln {β : Type} {x y : Str} {b c : β} {l : List (Str × β)} (h : (x == y) = false) (e : l.lookup x = some c) : ((y, b) :: l).lookup x = some c := by rw [List.lookup_cons, h, e]
theorem lkm {α β : Type} (f : α → β) (x : Str) : ∀ l : List (Str × α), (l.lookup x).map f = (l.map fun p => (p.1, f p.2)).lookup x
  | [] => rfl
  | (y, a) :: l => by
    rw [List.map_cons, List.lookup_cons, List.lookup_cons]
    cases x == y with
    | true => rfl
    | false => exact lkm f x l
theorem Tab.T_eq (t : Tab) {l : List (Str × Df)} (h : (t.map fun p => (p.1, p.2.df)) = l) : t.T = fun x => l.lookup x := funext fun x => by
  unfold Tab.T
  rw [lkm, h]
section
variable {K : PySem.W.Frag} {mg : Str → Option Value} {G : Gs} {t : Tab} {h : Heap}
theorem defs_of (a : All (fun p : Str × Row => DefOk K mg G p.1 p.2) t) : ∀ x r, t.lookup x = some r → DefOk K mg G x r := a.lookup
theorem globs_of (a : All (fun p : Str × D => ∃ u v, mg p.1 = some u ∧ RelV v u ∧ ∀ ρ n H, R ⟨K, mg, ρ, n, H⟩ v p.2) G.glob) : ∀ x d, G.glob.lookup x = some d → ∃ u v, mg x = some u ∧ RelV v u ∧ ∀ ρ n H, R ⟨K, mg, ρ, n, H⟩ v d := a.lookup
theorem blts_of (a : All (fun x : Str => mg x = none) G.blt) : ∀ x ∈ G.blt, mg x = none := a.mem
theorem fns_of (e : (G.fns.all fun p => match t.lookup p.1 with | some r => r.ps.length == p.2 | none => false) = true) : ∀ x n, G.fns.lookup x = some n → ∃ r, t.lookup x = some r ∧ r.ps.length = n := by
  have a : ∀ l : List (Str × Nat), (l.all fun p => match t.lookup p.1 with | some r => r.ps.length == p.2 | none => false) = true → All (fun p : Str × Nat => ∃ r, t.lookup p.1 = some r ∧ r.ps.length = p.2) l := by
    intro l
    induction l with
    | nil => exact fun _ => .nil
    | cons p l ih =>
      intro e
      rw [List.all_cons, Bool.and_eq_true] at e
      refine .cons ?_ (ih e.2)
      have e1 := e.1
      split at e1
      · rename_i r q
        exact ⟨r, q, eq_of_beq e1⟩
      · cases e1
  exact (a _ e).lookup
theorem def_mk {x : Str} {r : Row} {f : Addr} {oc : Value} {od an : Option Addr} {osl : Array (Option Value)} {kV doc pm cdv ct : Value} (X : K.In h) (NG : h.Ns mainGlobals mg) (a : PySem.W.nsIn K mainGlobals x = some (some (.ref f)))
    (l : K.lookup f = some ⟨oc, od, .func (PySem.W.fnOf x r.qual (defArgs r.st) (defBody r.st) (defScope r.st) .none kV doc pm an cdv ct), osl⟩) (c : PySem.W.codeIn K cdv r.qual = true) (k : PySem.W.keepIn K (.ref f) = true)
    (b : ∀ (kV doc pm : Value) (an : Option Addr) (cdv ct : Value) (us : List Value), us.length = r.ps.length → bindArgs (PySem.W.fnOf x r.qual (defArgs r.st) (defBody r.st) (defScope r.st) .none kV doc pm an cdv ct) ⟨us, []⟩ = pure (r.ps.zip us))
    (sc : FnScope r.N r.ps (defScope r.st)) (chk : chkB G ⟨r.N, defScope r.st, none⟩ r.body (defBody r.st) = true) : DefOk K mg G x r :=
  ⟨⟨f, _, fun_mk (st := r.st) l c k, PySem.W.mg_of X NG a, (fun_mk (st := r.st) l c k).binds b⟩, sc, chk⟩
theorem glob_str {x y : Str} {tk : Tok} (X : K.In h) (NG : h.Ns mainGlobals mg) (a : PySem.W.nsIn K mainGlobals x = some (some (.str y tk))) : ∃ u v, mg x = some u ∧ RelV v u ∧ ∀ ρ n H, R ⟨K, mg, ρ, n, H⟩ v (.str y) :=
  ⟨_, .str y, PySem.W.mg_of X NG a, ⟨_, rfl⟩, fun _ _ _ => .str y⟩
theorem glob_int {x : Str} {y : Int} {tk : Tok} (X : K.In h) (NG : h.Ns mainGlobals mg) (a : PySem.W.nsIn K mainGlobals x = some (some (.int y tk))) : ∃ u v, mg x = some u ∧ RelV v u ∧ ∀ ρ n H, R ⟨K, mg, ρ, n, H⟩ v (.int y) :=
  ⟨_, .int y, PySem.W.mg_of X NG a, ⟨_, rfl⟩, fun _ _ _ => .int y⟩
theorem glob_tup {x : Str} {ys : List Str} {f : Addr} {od : Option Addr} {its : Array Value} {n : Nat} {sl : Array (Option Value)} (X : K.In h) (NG : h.Ns mainGlobals mg) (a : PySem.W.nsIn K mainGlobals x = some (some (.ref f)))
    (l : K.lookup f = some ⟨.type "tuple", od, .seq its n, sl⟩) (r : Vals (ys.map V.str) its.toList) (hs : ys.length ≤ 1000) : ∃ u v, mg x = some u ∧ RelV v u ∧ ∀ ρ n H, R ⟨K, mg, ρ, n, H⟩ v (.tup (ys.map D.str)) := by
  refine ⟨_, .ref f, PySem.W.mg_of X NG a, rfl, fun _ _ _ => .tup (.inr ⟨_, its, n, l, rfl, rfl, ?_, r⟩) (RL.of_map (fun a => .str a) ys)⟩
  have e := r.length
  rw [List.length_map] at e
  have : its.size ≤ 1000 := by
    rw [← Array.length_toList, ← e]
    exact hs
  exact Nat.le_trans this (by decide)
end
end Z

namespace K1
open PySem L2 Z
/-- is_whole: 0=thing -/
def b0 : SL := (.cons (.ret (.and (.blt .isi (.cons false (.var 0) (.cons false (.typ "int" "int") .nil))) (.not (.blt .isi (.cons false (.var 0) (.cons false (.typ "bool" "bool") .nil))))))
    .nil)
/-- is_among: 0=thing 1=least 2=most -/
def b1 : SL := (.cons (.ife (.or (.not (.call "is_whole" (.cons false (.var 0) .nil))) (.or (.not (.call "is_whole" (.cons false (.var 1) .nil))) (.not (.call "is_whole" (.cons false (.var 2) .nil))))) (.cons (.ret (.bl false))
    .nil) .nil)
    (.cons (.ret (.chn .LtE .LtE (.var 1) (.var 0) (.var 2)))
    .nil))
/-- is_word: 0=thing 1=sign -/
def b2 : SL := (.cons (.ife (.or (.not (.blt .isi (.cons false (.var 0) (.cons false (.typ "str" "str") .nil)))) (.not (.chn .LtE .LtE (.int 1) (.bl1 .len (.var 0)) (.glob "LONGEST_WORD")))) (.cons (.ret (.bl false))
    .nil) .nil)
    (.cons (.ret (.bl1 .all (.lc (.chn .LtE .LtE (.str "a") (.var 1) (.str "z")) (.nm 1) (.sq (.var 0)) .no [1])))
    .nil))
/-- is_reserved: 0=thing -/
def b3 : SL := (.cons (.ife (.not (.blt .isi (.cons false (.var 0) (.cons false (.typ "str" "str") .nil)))) (.cons (.ret (.bl false))
    .nil) .nil)
    (.cons (.ret (.or (.cmp .In (.var 0) (.glob "COMMANDS")) (.or (.cmp .In (.var 0) (.glob "DIRECTIONS")) (.or (.cmp .In (.var 0) (.glob "LINE_WORDS")) (.cmp .In (.var 0) (.glob "TALE_WORDS"))))))
    .nil))
/-- is_name: 0=thing -/
def b4 : SL := (.cons (.ret (.and (.call "is_word" (.cons false (.var 0) .nil)) (.not (.call "is_reserved" (.cons false (.var 0) .nil)))))
    .nil)
/-- digit_of: 0=word -/
def b5 : SL := (.cons (.ife (.or (.not (.blt .isi (.cons false (.var 0) (.cons false (.typ "str" "str") .nil)))) (.or (.cmp .NotEq (.bl1 .len (.var 0)) (.int 1)) (.cmp .NotIn (.var 0) (.glob "FIGURES")))) (.cons (.ret .non)
    .nil) .nil)
    (.cons (.ret (.met1 (.glob "FIGURES") .index (.var 0)))
    .nil))
/-- words_of: 0=row 1=words -/
def b6 : SL := (.cons (.ife (.not (.blt .isi (.cons false (.var 0) (.cons false (.typ "str" "str") .nil)))) (.cons (.ret .non)
    .nil) .nil)
    (.cons (.set 1 (.met1 (.var 0) .split (.str " ")))
    (.cons (.ife (.cmp .In (.str "") (.var 1)) (.cons (.ret .non)
    .nil) .nil)
    (.cons (.ret (.var 1))
    .nil))))
/-- _law_mixed: 0=_law_cell 1=_law_k -/
def b7 : SL := (.cons (.set 0 (.bin .Add (.bin .Add (.bin .Mod (.var 0) (.int 1000000007)) (.bin .Mult (.int 7919) (.var 1))) (.int 13)))
    (.cons (.ret (.bin .Mod (.bin .Mult (.bin .Mod (.bin .Mult (.var 0) (.var 0)) (.int 1000000007)) (.int 48271)) (.int 2147483647)))
    .nil))
/-- _law_reserved: 0=_law_verbs 1=_law_ways 2=_law_small_here -/
def b8 : SL := (.cons (.set 0 (.lst (.cons false (.str "take") (.cons false (.str "drop") (.cons false (.str "put") (.cons false (.str "open") (.cons false (.str "shut") (.cons false (.str "wear") (.cons false (.str "doff") (.cons false (.str "look") (.cons false (.str "go") (.cons false (.str "list") (.cons false (.str "wait") (.cons false (.str "undo") .nil))))))))))))))
    (.cons (.set 1 (.lst (.cons false (.str "down") (.cons false (.str "east") (.cons false (.str "north") (.cons false (.str "south") (.cons false (.str "up") (.cons false (.str "west") .nil))))))))
    (.cons (.set 2 (.lst (.cons false (.str "the") (.cons false (.str "all") (.cons false (.str "but") (.cons false (.str "and") (.cons false (.str "then") (.cons false (.str "it") (.cons false (.str "them") (.cons false (.str "in") (.cons false (.str "on") (.cons false (.str "is") (.cons false (.str "at") (.cons false (.str "you") (.cons false (.str "with") (.cons false (.str "not") (.cons false (.str "nowhere") .nil)))))))))))))))))
    (.cons (.ret (.bin .Add (.bin .Add (.bin .Add (.var 0) (.var 1)) (.var 2)) (.lst (.cons false (.str "always") (.cons false (.str "any") (.cons false (.str "say") (.cons false (.str "set") (.cons false (.str "move") (.cons false (.str "stop") .nil)))))))))
    .nil))))
/-- _law_written: 0=_law_number 1=_law_letters 2=_law_word 3=_law_at 4=_law_k -/
def b9 : SL := (.cons (.set 1 (.str "abcdefghijklmnopqrstuvwxyz"))
    (.cons (.set 2 (.met1 (.str "") .join (.lc (.ix (.var 1) (.bin .Mod (.call "_law_mixed" (.cons false (.var 0) (.cons false (.var 4) .nil))) (.int 26))) (.nm 4) (.r1 (.bin .Mod (.var 0) (.int 11))) .no [4])))
    (.cons (.ife (.cmp .Eq (.bin .Mod (.bin .FloorDiv (.var 0) (.int 11)) (.int 4)) (.int 0)) (.cons (.set 3 (.bin .Mod (.bin .FloorDiv (.var 0) (.int 44)) (.bin .Add (.bl1 .len (.var 2)) (.int 1))))
    (.cons (.set 2 (.bin .Add (.bin .Add (.slc (.var 2) .no (.yes (.var 3))) (.ix (.str "A0- {.`") (.bin .Mod (.bin .FloorDiv (.var 0) (.int 500)) (.int 7)))) (.slc (.var 2) (.yes (.var 3)) .no)))
    .nil)) .nil)
    (.cons (.ret (.var 2))
    .nil))))
/-- _law_small: 0=_law_word 1=_law_sign -/
def b10 : SL := (.cons (.ret (.and (.cmp .Eq (.lc (.var 1) (.nm 1) (.sq (.var 0)) (.yes (.cmp .NotIn (.var 1) (.str "abcdefghijklmnopqrstuvwxyz"))) [1]) (.lst .nil)) (.chn .LtE .LtE (.int 1) (.bl1 .len (.var 0)) (.int 8))))
    .nil)
/-- _law_one: 0=_law_word 1=_law_reserved_here 2=_law_due 3=_law_found 4=_law_k -/
def b11 : SL := (.cons (.ife (.cmp .NotEq (.call "is_word" (.cons false (.var 0) .nil)) (.call "_law_small" (.cons false (.var 0) .nil))) (.cons (.ret (.bl false))
    .nil) .nil)
    (.cons (.set 1 (.cmp .In (.var 0) (.call0 "_law_reserved")))
    (.cons (.ife (.or (.cmp .NotEq (.call "is_reserved" (.cons false (.var 0) .nil)) (.var 1)) (.cmp .NotEq (.call "is_name" (.cons false (.var 0) .nil)) (.and (.call "_law_small" (.cons false (.var 0) .nil)) (.not (.var 1))))) (.cons (.ret (.bl false))
    .nil) .nil)
    (.cons (.set 2 (.lc (.var 4) (.nm 4) (.r1 (.int 10)) (.yes (.cmp .Eq (.var 0) (.bl1 .str (.var 4)))) [4]))
    (.cons (.set 3 (.call "digit_of" (.cons false (.var 0) .nil)))
    (.cons (.ret (.ite (.cmp .Eq (.var 2) (.lst .nil)) (.cmp .Is (.var 3) .non) (.and (.cmp .Eq (.var 3) (.ix (.var 2) (.int 0))) (.not (.blt .isi (.cons false (.var 3) (.cons false (.typ "bool" "bool") .nil)))))))
    .nil))))))
/-- _law_row: 0=_law_words 1=_law_number 2=_law_row_here 3=_law_turn 4=_law_at 5=_law_parts 6=_law_due 7=_law_found -/
def b12 : SL := (.cons (.set 2 (.met1 (.str " ") .join (.var 0)))
    (.cons (.fo (.nm 3) (.r1 (.int 2)) (.cons (.set 7 (.call "words_of" (.cons false (.var 2) .nil)))
    (.cons (.ife (.or (.not (.blt .isi (.cons false (.var 7) (.cons false (.typ "list" "list") .nil)))) (.cmp .NotEq (.var 7) (.var 0))) (.cons (.ret (.bl false))
    .nil) .nil)
    (.cons (.ex (.meth (.var 7) .append (.cons false (.str "x") .nil)))
    .nil))))
    (.cons (.set 4 (.bin .Mod (.var 1) (.bin .Add (.bl1 .len (.var 2)) (.int 1))))
    (.cons (.set 5 (.met1 (.bin .Add (.bin .Add (.slc (.var 2) .no (.yes (.var 4))) (.str " ")) (.slc (.var 2) (.yes (.var 4)) .no)) .split (.str " ")))
    (.cons (.set 6 (.ite (.cmp .In (.str "") (.var 5)) .non (.var 5)))
    (.cons (.ret (.cmp .Eq (.call "words_of" (.cons false (.bin .Add (.bin .Add (.slc (.var 2) .no (.yes (.var 4))) (.str " ")) (.slc (.var 2) (.yes (.var 4)) .no)) .nil)) (.var 6)))
    .nil))))))
/-- law: 0=_law_script 1=_law_words 2=_law_cell 3=_law_number 4=_law_word 5=_law_own 6=_law_one_here 7=_law_odd 8=_law_due 9=_law_big -/
def b13 : SL := (.cons (.set 1 (.lst .nil))
    (.cons (.fo (.nm 2) (.sq (.bin .Add (.slc (.var 0) .no (.yes (.int 200))) (.lst (.cons false (.bl1 .sum (.var 0)) .nil)))) (.cons (.set 3 (.call "_law_mixed" (.cons false (.var 2) (.cons false (.int 1) .nil))))
    (.cons (.set 4 (.call "_law_written" (.cons false (.var 3) .nil)))
    (.cons (.set 5 (.ix (.call0 "_law_reserved") (.bin .Mod (.var 3) (.int 39))))
    (.cons (.fo (.nm 6) (.sq (.lst (.cons false (.var 4) (.cons false (.var 5) (.cons false (.bin .Add (.var 5) (.str "s")) (.cons false (.bl1 .str (.bin .Mod (.var 3) (.int 12))) (.cons false (.ix (.str "0123456789-+x") (.bin .Mod (.var 3) (.int 13))) .nil))))))) (.cons (.ife (.not (.call "_law_one" (.cons false (.var 6) .nil))) (.cons (.ret (.bl false))
    .nil) .nil)
    .nil))
    (.cons (.set 1 (.bin .Add (.var 1) (.lst (.cons false (.var 5) (.cons false (.bin .Add (.crep "a" (.var 4) " " "") (.ix (.lst (.cons false (.str "") (.cons false (.str "\n") (.cons false (.str "\nb") .nil)))) (.bin .Mod (.var 3) (.int 3)))) .nil)))))
    (.cons (.set 7 (.ix (.lst (.cons false .non (.cons false (.bl true) (.cons false (.int 7) (.cons false (.lst .nil) (.cons false (.lst (.cons false (.str "a") .nil)) (.cons false .dic0 (.cons false (.tup (.cons false (.str "a") .nil)) (.cons false (.neg (.int 2)) .nil))))))))) (.bin .Mod (.var 2) (.int 8))))
    (.cons (.ife (.or (.cmp .IsNot (.call "is_word" (.cons false (.var 7) .nil)) (.bl false)) (.or (.cmp .IsNot (.call "is_reserved" (.cons false (.var 7) .nil)) (.bl false)) (.cmp .IsNot (.call "is_name" (.cons false (.var 7) .nil)) (.bl false)))) (.cons (.ret (.bl false))
    .nil) .nil)
    (.cons (.ife (.or (.cmp .IsNot (.call "digit_of" (.cons false (.var 7) .nil)) .non) (.cmp .IsNot (.call "words_of" (.cons false (.var 7) .nil)) .non)) (.cons (.ret (.bl false))
    .nil) .nil)
    (.cons (.set 8 (.cmp .In (.bin .Mod (.var 2) (.int 8)) (.tup (.cons false (.int 2) (.cons false (.int 7) .nil)))))
    (.cons (.ife (.or (.cmp .NotEq (.call "is_whole" (.cons false (.var 7) .nil)) (.var 8)) (.or (.cmp .NotEq (.call "is_among" (.cons false (.var 7) (.cons false (.neg (.int 2)) (.cons false (.int 7) .nil)))) (.var 8)) (.cmp .IsNot (.call "is_among" (.cons false (.var 7) (.cons false (.neg (.int 1)) (.cons false (.int 6) .nil)))) (.bl false)))) (.cons (.ret (.bl false))
    .nil) .nil)
    (.cons (.set 9 (.bin .Mod (.var 2) (.bin .Pow (.int 10) (.int 60))))
    (.cons (.ife (.or (.cmp .IsNot (.call "is_among" (.cons false (.var 9) (.cons false (.bin .Sub (.var 9) (.int 1)) (.cons false (.var 9) .nil)))) (.bl true)) (.cmp .IsNot (.call "is_among" (.cons false (.var 9) (.cons false (.bin .Add (.var 9) (.int 1)) (.cons false (.bin .Add (.var 9) (.int 2)) .nil)))) (.bl false))) (.cons (.ret (.bl false))
    .nil) .nil)
    .nil)))))))))))))
    (.cons (.ret (.and (.cmp .Is (.call "words_of" (.cons false (.str "") .nil)) .non) (.call "_law_row" (.cons false (.var 1) (.cons false (.call "_law_mixed" (.cons false (.bl1 .sum (.var 0)) (.cons false (.int 2) .nil))) .nil)))))
    .nil)))
def glob : List (Str × D) := [("LONGEST_WORD", .int 8), ("TALE_WORDS", .tup [.str "always", .str "any", .str "say", .str "set", .str "move", .str "stop"]), ("LINE_WORDS", .tup [.str "the", .str "all", .str "but", .str "and", .str "then", .str "it", .str "them", .str "in", .str "on", .str "is", .str "at", .str "you", .str "with", .str "not", .str "nowhere"]), ("DIRECTIONS", .tup [.str "down", .str "east", .str "north", .str "south", .str "up", .str "west"]), ("COMMANDS", .tup [.str "take", .str "drop", .str "put", .str "open", .str "shut", .str "wear", .str "doff", .str "look", .str "go", .str "list", .str "wait", .str "undo"]), ("FIGURES", .str "0123456789")]
def blt : List Str := ["all", "bool", "int", "isinstance", "len", "list", "range", "str", "sum"]
def T : Str → Option Df := fun x => ([("is_whole", (⟨1, 1, b0⟩ : Df)), ("is_among", (⟨3, 3, b1⟩ : Df)), ("is_word", (⟨1, 2, b2⟩ : Df)), ("is_reserved", (⟨1, 1, b3⟩ : Df)), ("is_name", (⟨1, 1, b4⟩ : Df)), ("digit_of", (⟨1, 1, b5⟩ : Df)), ("words_of", (⟨1, 2, b6⟩ : Df)), ("_law_mixed", (⟨2, 2, b7⟩ : Df)), ("_law_reserved", (⟨0, 3, b8⟩ : Df)), ("_law_written", (⟨1, 5, b9⟩ : Df)), ("_law_small", (⟨1, 2, b10⟩ : Df)), ("_law_one", (⟨1, 5, b11⟩ : Df)), ("_law_row", (⟨2, 8, b12⟩ : Df)), ("law", (⟨1, 10, b13⟩ : Df))] : List (Str × Df)).lookup x
end K1

namespace K1
open PySem L2 Z
def retOf : BM → M D
  | some (.nx _, h1) => some (.ok .non, h1)
  | some (.rt d, h1) => some (.ok d, h1)
  | some (.xx C fs _, h1) => some (.ex C fs, h1)
  | _ => none
noncomputable abbrev C (k : Nat) : CallF := calls glob T k
section
variable {α β : Type} {a : α} {h h' : Hh} {S S' : Sl} {d : D} {b : Bool}
theorem bd_ok {k : α → Hh → M β} : bd (some (.ok a, h)) k = k a h := rfl
theorem bs_ok {k : α → Hh → BM} : bs (some (.ok a, h)) S k = k a h := rfl
theorem bq_nx {k : Sl → Hh → BM} : bq (some (.nx S, h)) k = k S h := rfl
theorem bq_rt {k : Sl → Hh → BM} : bq (some (.rt d, h)) k = some (.rt d, h) := rfl
theorem pu_ok : pu (some a) h = some (.ok a, h) := rfl
theorem re_nx : retOf (some (.nx S, h)) = some (.ok .non, h) := rfl
theorem re_rt : retOf (some (.rt d, h)) = some (.ok d, h) := rfl
theorem ma_bl : mat (.bl b) h = some (.ok (.bl b), h) := rfl
theorem ma_int {i : Int} : mat (.int i) h = some (.ok (.int i), h) := rfl
theorem ma_str {i : Str} : mat (.str i) h = some (.ok (.str i), h) := rfl
theorem ma_non : mat .non h = some (.ok .non, h) := rfl
theorem ma_ty {i : String} : mat (.ty i) h = some (.ok (.ty i), h) := rfl
theorem ma_ref {i : Nat} : mat (.ref i) h = some (.ok (.ref i), h) := rfl
theorem ma_tup {i : List D} : mat (.tup i) h = some (.ok (.tup i), h) := rfl
theorem ma_frl {i : List D} : mat (.frl i) h = some (.ok (.frl i), h) := rfl
theorem ma_lst {i : List D} : mat (.lst i) h = some (.ok (.ref h.length), h ++ [.lst i]) := rfl
theorem fix_here (c : clD h.length d = true) (nr : ∀ n, d ≠ .ref n) : fix h d h = some (.ok d, h) := by
  have e : okH h h := .inl (List.take_length ..)
  unfold fix
  split
  · exact absurd rfl (nr _)
  · rw [if_pos ⟨e, c⟩, List.take_length]
theorem fix_bl : fix h (.bl b) h = some (.ok (.bl b), h) := fix_here rfl (fun _ q => by cases q)
theorem fix_int {i : Int} : fix h (.int i) h = some (.ok (.int i), h) := fix_here rfl (fun _ q => by cases q)
theorem fix_str {i : Str} : fix h (.str i) h = some (.ok (.str i), h) := fix_here rfl (fun _ q => by cases q)
theorem fix_non : fix h .non h = some (.ok .non, h) := fix_here rfl (fun _ q => by cases q)
theorem fix_app {o : Hh} (c : clD h.length d = true) (nr : ∀ n, d ≠ .ref n) : fix h d (h ++ o) = some (.ok d, h) := by
  have e : okH h (h ++ o) := .inl (List.take_left' rfl)
  unfold fix
  split
  · exact absurd rfl (nr _)
  · rw [if_pos ⟨e, c⟩, List.take_left' rfl]
end
theorem call_eq {x : Str} {f : Df} {k : Nat} {ds : List D} {h : Hh} (e : T x = some f) (l : ds.length = f.ps) : C (k + 1) x ds h = retOf (evB glob (C k) f.body (ds.map some ++ List.replicate (f.ns - f.ps) none) h) := by
  show calls glob T (k + 1) x ds h = _
  simp only [calls, e, if_pos l]
  generalize evB glob (calls glob T k) f.body _ h = r
  match r with
  | none => rfl
  | some (.nx _, _) => rfl
  | some (.rt _, _) => rfl
  | some (.xx _ _ _, _) => rfl
  | some (.bk _, _) => rfl
  | some (.ct _, _) => rfl
theorem t0 : T "is_whole" = some ⟨1, 1, b0⟩ := by unfold T; repeat (first | exact lk (by decide +kernel) | refine ln (by decide +kernel) ?_)
theorem t1 : T "is_among" = some ⟨3, 3, b1⟩ := by unfold T; repeat (first | exact lk (by decide +kernel) | refine ln (by decide +kernel) ?_)
theorem t2 : T "is_word" = some ⟨1, 2, b2⟩ := by unfold T; repeat (first | exact lk (by decide +kernel) | refine ln (by decide +kernel) ?_)
theorem t3 : T "is_reserved" = some ⟨1, 1, b3⟩ := by unfold T; repeat (first | exact lk (by decide +kernel) | refine ln (by decide +kernel) ?_)
theorem t4 : T "is_name" = some ⟨1, 1, b4⟩ := by unfold T; repeat (first | exact lk (by decide +kernel) | refine ln (by decide +kernel) ?_)
theorem t5 : T "digit_of" = some ⟨1, 1, b5⟩ := by unfold T; repeat (first | exact lk (by decide +kernel) | refine ln (by decide +kernel) ?_)
theorem t6 : T "words_of" = some ⟨1, 2, b6⟩ := by unfold T; repeat (first | exact lk (by decide +kernel) | refine ln (by decide +kernel) ?_)
theorem t7 : T "_law_mixed" = some ⟨2, 2, b7⟩ := by unfold T; repeat (first | exact lk (by decide +kernel) | refine ln (by decide +kernel) ?_)
theorem t8 : T "_law_reserved" = some ⟨0, 3, b8⟩ := by unfold T; repeat (first | exact lk (by decide +kernel) | refine ln (by decide +kernel) ?_)
theorem t9 : T "_law_written" = some ⟨1, 5, b9⟩ := by unfold T; repeat (first | exact lk (by decide +kernel) | refine ln (by decide +kernel) ?_)
theorem t10 : T "_law_small" = some ⟨1, 2, b10⟩ := by unfold T; repeat (first | exact lk (by decide +kernel) | refine ln (by decide +kernel) ?_)
theorem t11 : T "_law_one" = some ⟨1, 5, b11⟩ := by unfold T; repeat (first | exact lk (by decide +kernel) | refine ln (by decide +kernel) ?_)
theorem t12 : T "_law_row" = some ⟨2, 8, b12⟩ := by unfold T; repeat (first | exact lk (by decide +kernel) | refine ln (by decide +kernel) ?_)
theorem t13 : T "law" = some ⟨1, 10, b13⟩ := by unfold T; repeat (first | exact lk (by decide +kernel) | refine ln (by decide +kernel) ?_)
theorem g_long : glob.lookup ("LONGEST_WORD" : Str) = some (.int 8) := by unfold glob; repeat (first | exact lk (by decide +kernel) | refine ln (by decide +kernel) ?_)
theorem g_fig : glob.lookup ("FIGURES" : Str) = some (.str "0123456789") := by unfold glob; repeat (first | exact lk (by decide +kernel) | refine ln (by decide +kernel) ?_)
def lCom : List Str := ["take", "drop", "put", "open", "shut", "wear", "doff", "look", "go", "list", "wait", "undo"]
def lDir : List Str := ["down", "east", "north", "south", "up", "west"]
def lLin : List Str := ["the", "all", "but", "and", "then", "it", "them", "in", "on", "is", "at", "you", "with", "not", "nowhere"]
def lTal : List Str := ["always", "any", "say", "set", "move", "stop"]
theorem g_com : glob.lookup ("COMMANDS" : Str) = some (.tup (lCom.map D.str)) := by unfold glob; repeat (first | exact lk (by decide +kernel) | refine ln (by decide +kernel) ?_)
theorem g_dir : glob.lookup ("DIRECTIONS" : Str) = some (.tup (lDir.map D.str)) := by unfold glob; repeat (first | exact lk (by decide +kernel) | refine ln (by decide +kernel) ?_)
theorem g_lin : glob.lookup ("LINE_WORDS" : Str) = some (.tup (lLin.map D.str)) := by unfold glob; repeat (first | exact lk (by decide +kernel) | refine ln (by decide +kernel) ?_)
theorem g_tal : glob.lookup ("TALE_WORDS" : Str) = some (.tup (lTal.map D.str)) := by unfold glob; repeat (first | exact lk (by decide +kernel) | refine ln (by decide +kernel) ?_)
/-- the type's name is one of those that are asked for -/
def Known (h : Hh) (d : D) (t : String) : Prop := tyD h d = some t ∧ (t = "NoneType" ∨ t = "bool" ∨ t = "int" ∨ t = "str" ∨ t = "tuple" ∨ t = "list" ∨ t = "dict")
theorem isi_known {h : Hh} {d : D} {t b : String} (K : Known h d t) (hb : b = "bool" ∨ b = "str" ∨ b = "list" ∨ b = "tuple" ∨ b = "dict") : isinD h [d, .ty b] = some (.bl (decide (t = b))) := by
  obtain ⟨e, m⟩ := K
  unfold isinD
  simp only [e, isiD]
  rcases hb with rfl | rfl | rfl | rfl | rfl <;> rcases m with rfl | rfl | rfl | rfl | rfl | rfl | rfl <;> rfl
theorem isi_int {h : Hh} {d : D} {t : String} (K : Known h d t) : isinD h [d, .ty "int"] = some (.bl (decide (t = "int" ∨ t = "bool"))) := by
  obtain ⟨e, m⟩ := K
  unfold isinD
  simp only [e, isiD]
  rcases m with rfl | rfl | rfl | rfl | rfl | rfl | rfl <;> rfl
section
variable {h : Hh} {b c : Bool} {i j : Int} {x y : Str} {ds : List D} {p q : D} {n : Nat}
theorem tr_bl : truD h (.bl b) = some b := rfl
theorem b_len : bltD h .len ds = lenD h ds := rfl
theorem b_isi : bltD h .isi ds = isinD h ds := rfl
theorem b_all : bltD h .all ds = overL (fun xs => (blsD xs).map fun ns => .bl (ns.all id)) h ds := rfl
theorem b_sum : bltD h .sum ds = overL (fun xs => (intsD xs).map fun ns => .int ns.sum) h ds := rfl
theorem b_str : bltD h .str ds = strD ds := rfl
theorem c_eq : cmpD h .Eq p q = (eqD h p q).map .bl := rfl
theorem c_ne : cmpD h .NotEq p q = (eqD h p q).map fun b => .bl (!b) := rfl
theorem c_in : cmpD h .In p q = (inD h p q).map .bl := rfl
theorem c_ni : cmpD h .NotIn p q = (inD h p q).map fun b => .bl (!b) := rfl
theorem c_lt : cmpD h .Lt (.int i) (.int j) = some (.bl (decide (i < j))) := rfl
theorem c_le : cmpD h .LtE (.int i) (.int j) = some (.bl (decide (i ≤ j))) := rfl
theorem c_is : cmpD h .Is (.bl b) (.bl c) = some (.bl (decide (b = c))) := rfl
theorem c_isn : cmpD h .IsNot (.bl b) (.bl c) = some (.bl (!decide (b = c))) := rfl
theorem c_isN : cmpD h .Is .non .non = some (.bl true) := rfl
theorem c_isnN : cmpD h .IsNot .non .non = some (.bl false) := rfl
theorem c_isI : cmpD h .Is (.int i) .non = some (.bl false) := rfl
theorem c_isL : cmpD h .Is (.lst ds) .non = some (.bl false) := rfl
theorem c_isR : cmpD h .Is (.ref n) .non = some (.bl false) := rfl
theorem o_add : binD h .Add (.int i) (.int j) = some (.int (i + j)) := rfl
theorem o_sub : binD h .Sub (.int i) (.int j) = some (.int (i - j)) := rfl
theorem q_bl : eqD h (.bl b) (.bl c) = some (decide (b = c)) := rfl
theorem q_int : eqD h (.int i) (.int j) = some (decide (i = j)) := rfl
theorem q_str : eqD h (.str x) (.str y) = some (decide (x = y)) := rfl
theorem q_NN : eqD h .non .non = some true := rfl
end
section
variable {h : Hh} {i j : Int} {x y : D} {xs ys : List D}
theorem o_mod : binD h .Mod (.int i) (.int j) = if 0 < j then some (.int (i % j)) else none := rfl
theorem o_div : binD h .FloorDiv (.int i) (.int j) = if 0 < j ∧ j < 1073741824 then some (.int (i / j)) else none := rfl
theorem o_mul (c : -(2 ^ 64) < j ∧ j < 2 ^ 64) : binD h .Mult (.int i) (.int j) = some (.int (i * j)) := if_pos (.inr c)
theorem o_strs {p q : Str} (c : p.length + q.length ≤ 1000000) : binD h .Add (.str p) (.str q) = some (.str (p ++ q)) := if_pos (Nat.le_trans c (by decide))
theorem o_lst (ex : mlD h x = some xs) (ey : mlD h y = some ys) (l : xs.length + ys.length ≤ 100000) : binD h .Add x y = some (.lst (xs ++ ys)) := by
  have l' : xs.length + ys.length ≤ sizeLine := Nat.le_trans l (by decide)
  have : binD h .Add x y = match mlD h x, mlD h y with
      | some xs, some ys => if xs.length + ys.length ≤ sizeLine then some (.lst (xs ++ ys)) else none
      | _, _ => none := by
    cases x with
    | lst _ => cases y <;> rfl
    | ref _ => cases y <;> rfl
    | _ => cases ex
  rw [this, ex, ey]
  exact if_pos l'
theorem sz {n : Nat} (c : n ≤ 100000) : n ≤ sizeLine := Nat.le_trans c (by decide)
theorem ml_last {o : Hh} : mlD (h ++ (.lst xs :: o)) (.ref h.length) = some xs := by
  simp [mlD]
end
/-- an element of a comprehension -/
noncomputable def lcEl (Φ : CallF) (elt : E) (tg : Tg) (c : EO) (own : List Nat) (S : Sl) : D → Hh → M (Option D) := fun x h => match bindT h tg x (wipeS S own) with
  | none => none
  | some S1 => match evC glob Φ c S1 h with
    | some (.ok true, h2) => (bd (vv ((ev glob Φ elt).v) S1 h2) fun d h3 => some (.ok (some d), h3))
    | some (.ok false, h2) => some (.ok none, h2)
    | _ => none
theorem ev_lc {Φ : CallF} {elt : E} {tg : Tg} {it : Z.It} {c : EO} {own : List Nat} {S : Sl} {h h1 h2 : Hh} {xs ys : List D} {st : List (Nat × List D)} (ei : evI glob Φ it S h = some (.ok ⟨xs, st⟩, h1)) (l : xs.length ≤ sizeLine)
    (e : lcGo st (lcEl Φ elt tg c own S) xs h1 = some (ys, h2)) : (ev glob Φ (.lc elt tg it c own)).v S h = some (.ok (.lst ys), h2) := by
  simp only [ev, vt, ei, bd_ok, if_pos l]
  show (match lcGo st (lcEl Φ elt tg c own S) xs h1 with | some (ys, h2) => some (Rs.ok (D.lst ys), h2) | none => none) = _
  rw [e]
/-- held as it is -/
theorem mat_ok {d : D} {h : Hh} (n : ∀ xs, d ≠ .lst xs) : mat d h = some (.ok d, h) := by
  cases d with
  | lst xs => exact absurd rfl (n xs)
  | _ => rfl
theorem is_whole {k : Nat} {h : Hh} {d : D} {t : String} (K : Known h d t) (nl : ∀ xs, d ≠ .lst xs) : C (k + 1) "is_whole" [d] h = some (.ok (.bl (decide (t = "int"))), h) := by
  rw [call_eq t0 rfl]
  simp [b0, evB, evS, ev.eq_1, ev.eq_2, ev.eq_3, ev.eq_4, ev.eq_5, ev.eq_6, ev.eq_7, ev.eq_8, ev.eq_9, ev.eq_10, ev.eq_11, ev.eq_12, ev.eq_13, ev.eq_14, ev.eq_15, ev.eq_16, ev.eq_17, ev.eq_18, ev.eq_19, ev.eq_20, ev.eq_21, ev.eq_22, ev.eq_23, ev.eq_24, ev.eq_25, ev.eq_26, ev.eq_27, ev.eq_28, ev.eq_29, ev.eq_31, ev.eq_32, evA, evO, evC, evI, vt, tv, bd_ok, bs_ok, bq_nx, bq_rt, pu_ok, re_nx, re_rt, ma_bl, ma_int, ma_str, ma_non, ma_ty, ma_ref, ma_tup, ma_frl, ma_lst, fix_bl, fix_int, fix_str, fix_non, getS, Z.evE, Z.evT, Z.vv, tr_bl, b_len, b_isi, b_all, b_sum, b_str, c_eq, c_ne, c_in, c_ni, c_lt, c_le, c_is, c_isn, c_isN, c_isnN, c_isI, c_isL, c_isR, o_add, o_sub, q_bl, q_int, q_str, q_NN, isi_int K, isi_known (b := "bool") K (.inl rfl), mat_ok nl]
  obtain ⟨-, m⟩ := K
  rcases m with rfl | rfl | rfl | rfl | rfl | rfl | rfl <;> rfl
def whole (t : String) (d : D) (a b : Int) : Bool := match d with
  | .int i => decide (a ≤ i ∧ i ≤ b)
  | _ => false
theorem is_among {k : Nat} {h : Hh} {d : D} {t : String} {a b : Int} (K : Known h d t) (nl : ∀ xs, d ≠ .lst xs) : C (k + 2) "is_among" [d, .int a, .int b] h = some (.ok (.bl (whole t d a b)), h) := by
  rw [call_eq t1 rfl]
  have e := is_whole (k := k) K nl
  have ea := is_whole (k := k) (h := h) (d := .int a) (t := "int") ⟨rfl, .inr (.inr (.inl rfl))⟩ (fun _ q => by cases q)
  have eb := is_whole (k := k) (h := h) (d := .int b) (t := "int") ⟨rfl, .inr (.inr (.inl rfl))⟩ (fun _ q => by cases q)
  simp [b1, evB, evS, ev.eq_1, ev.eq_2, ev.eq_3, ev.eq_4, ev.eq_5, ev.eq_6, ev.eq_7, ev.eq_8, ev.eq_9, ev.eq_10, ev.eq_11, ev.eq_12, ev.eq_13, ev.eq_14, ev.eq_15, ev.eq_16, ev.eq_17, ev.eq_18, ev.eq_19, ev.eq_20, ev.eq_21, ev.eq_22, ev.eq_23, ev.eq_24, ev.eq_25, ev.eq_26, ev.eq_27, ev.eq_28, ev.eq_29, ev.eq_31, ev.eq_32, evA, evO, evC, evI, vt, tv, bd_ok, bs_ok, bq_nx, bq_rt, pu_ok, re_nx, re_rt, ma_bl, ma_int, ma_str, ma_non, ma_ty, ma_ref, ma_tup, ma_frl, ma_lst, fix_bl, fix_int, fix_str, fix_non, getS, Z.evE, Z.evT, Z.vv, tr_bl, b_len, b_isi, b_all, b_sum, b_str, c_eq, c_ne, c_in, c_ni, c_lt, c_le, c_is, c_isn, c_isN, c_isnN, c_isI, c_isL, c_isR, o_add, o_sub, q_bl, q_int, q_str, q_NN, mat_ok nl, e, ea, eb]
  by_cases c : t = "int"
  · subst c
    obtain ⟨et, -⟩ := K
    have ed : ∃ i, d = .int i := by
      cases d with
      | int i => exact ⟨i, rfl⟩
      | ref n =>
        simp only [tyD] at et
        split at et <;> simp at et
      | _ => simp [tyD] at et
    obtain ⟨i, rfl⟩ := ed
    simp [evB, evS, ev.eq_1, ev.eq_2, ev.eq_3, ev.eq_4, ev.eq_5, ev.eq_6, ev.eq_7, ev.eq_8, ev.eq_9, ev.eq_10, ev.eq_11, ev.eq_12, ev.eq_13, ev.eq_14, ev.eq_15, ev.eq_16, ev.eq_17, ev.eq_18, ev.eq_19, ev.eq_20, ev.eq_21, ev.eq_22, ev.eq_23, ev.eq_24, ev.eq_25, ev.eq_26, ev.eq_27, ev.eq_28, ev.eq_29, ev.eq_31, ev.eq_32, evA, evO, evC, evI, vt, tv, bd_ok, bs_ok, bq_nx, bq_rt, pu_ok, re_nx, re_rt, ma_bl, ma_int, ma_str, ma_non, ma_ty, ma_ref, ma_tup, ma_frl, ma_lst, fix_bl, fix_int, fix_str, fix_non, getS, Z.evE, Z.evT, Z.vv, tr_bl, b_len, b_isi, b_all, b_sum, b_str, c_eq, c_ne, c_in, c_ni, c_lt, c_le, c_is, c_isn, c_isN, c_isnN, c_isI, c_isL, c_isR, o_add, o_sub, q_bl, q_int, q_str, q_NN, whole]
    by_cases c1 : a ≤ i
    · simp [c1, evB, evS, ev.eq_1, ev.eq_2, ev.eq_3, ev.eq_4, ev.eq_5, ev.eq_6, ev.eq_7, ev.eq_8, ev.eq_9, ev.eq_10, ev.eq_11, ev.eq_12, ev.eq_13, ev.eq_14, ev.eq_15, ev.eq_16, ev.eq_17, ev.eq_18, ev.eq_19, ev.eq_20, ev.eq_21, ev.eq_22, ev.eq_23, ev.eq_24, ev.eq_25, ev.eq_26, ev.eq_27, ev.eq_28, ev.eq_29, ev.eq_31, ev.eq_32, evA, evO, evC, evI, vt, tv, bd_ok, bs_ok, bq_nx, bq_rt, pu_ok, re_nx, re_rt, ma_bl, ma_int, ma_str, ma_non, ma_ty, ma_ref, ma_tup, ma_frl, ma_lst, fix_bl, fix_int, fix_str, fix_non, getS, Z.evE, Z.evT, Z.vv, tr_bl, b_len, b_isi, b_all, b_sum, b_str, c_eq, c_ne, c_in, c_ni, c_lt, c_le, c_is, c_isn, c_isN, c_isnN, c_isI, c_isL, c_isR, o_add, o_sub, q_bl, q_int, q_str, q_NN]
    · simp [c1, evB, evS, ev.eq_1, ev.eq_2, ev.eq_3, ev.eq_4, ev.eq_5, ev.eq_6, ev.eq_7, ev.eq_8, ev.eq_9, ev.eq_10, ev.eq_11, ev.eq_12, ev.eq_13, ev.eq_14, ev.eq_15, ev.eq_16, ev.eq_17, ev.eq_18, ev.eq_19, ev.eq_20, ev.eq_21, ev.eq_22, ev.eq_23, ev.eq_24, ev.eq_25, ev.eq_26, ev.eq_27, ev.eq_28, ev.eq_29, ev.eq_31, ev.eq_32, evA, evO, evC, evI, vt, tv, bd_ok, bs_ok, bq_nx, bq_rt, pu_ok, re_nx, re_rt, ma_bl, ma_int, ma_str, ma_non, ma_ty, ma_ref, ma_tup, ma_frl, ma_lst, fix_bl, fix_int, fix_str, fix_non, getS, Z.evE, Z.evT, Z.vv, tr_bl, b_len, b_isi, b_all, b_sum, b_str, c_eq, c_ne, c_in, c_ni, c_lt, c_le, c_is, c_isn, c_isN, c_isnN, c_isI, c_isL, c_isR, o_add, o_sub, q_bl, q_int, q_str, q_NN]
  · simp [c, evB, evS, ev.eq_1, ev.eq_2, ev.eq_3, ev.eq_4, ev.eq_5, ev.eq_6, ev.eq_7, ev.eq_8, ev.eq_9, ev.eq_10, ev.eq_11, ev.eq_12, ev.eq_13, ev.eq_14, ev.eq_15, ev.eq_16, ev.eq_17, ev.eq_18, ev.eq_19, ev.eq_20, ev.eq_21, ev.eq_22, ev.eq_23, ev.eq_24, ev.eq_25, ev.eq_26, ev.eq_27, ev.eq_28, ev.eq_29, ev.eq_31, ev.eq_32, evA, evO, evC, evI, vt, tv, bd_ok, bs_ok, bq_nx, bq_rt, pu_ok, re_nx, re_rt, ma_bl, ma_int, ma_str, ma_non, ma_ty, ma_ref, ma_tup, ma_frl, ma_lst, fix_bl, fix_int, fix_str, fix_non, getS, Z.evE, Z.evT, Z.vv, tr_bl, b_len, b_isi, b_all, b_sum, b_str, c_eq, c_ne, c_in, c_ni, c_lt, c_le, c_is, c_isn, c_isN, c_isnN, c_isI, c_isL, c_isR, o_add, o_sub, q_bl, q_int, q_str, q_NN]
    obtain ⟨et, -⟩ := K
    cases d with
    | int i => exact absurd (Option.some.inj et).symm c
    | _ => rfl
end K1

namespace K1
open PySem L2 Z
def Asc (s : Str) : Prop := ∀ c ∈ s.cps.toList, c < 128
theorem toPyL_strs {h : Hh} : ∀ (xs : List Str) (k : Nat), xs.length ≤ k → toPyL h k (xs.map D.str) = some (xs.map PyData.str)
  | [], k, _ => by cases k <;> simp [toPyL]
  | x :: xs, 0, l => by simp at l
  | x :: xs, k + 1, l => by
    have l' : xs.length ≤ k := by simpa using l
    rw [List.map_cons, toPyL, toPyL_strs xs k l']
    have : toPy h k (.str x) = some (.str x) := by cases k <;> simp [toPy]
    rw [this]
    rfl
theorem toPy_ls {h : Hh} {d : D} {xs : List Str} (e : lsD h d = some (xs.map D.str)) (l : xs.length ≤ 50000) : toPy h 100000 d = some (.list (xs.map .str)) := by
  have q : toPyL h 99999 (xs.map D.str) = some (xs.map PyData.str) := toPyL_strs xs _ (by omega)
  cases d with
  | lst ys => cases e; show (toPyL h 99999 _).map _ = _; rw [q]; rfl
  | frl ys => cases e; show (toPyL h 99999 _).map _ = _; rw [q]; rfl
  | ref n =>
    show (match h[n]? with | some (.lst xs) => (toPyL h 99999 xs).map PyData.list | _ => none) = _
    have e' : (match h[n]? with | some (.lst xs) => some xs | _ => none) = some (xs.map D.str) := e
    split at e'
    · rename_i ys z
      cases e'
      show (toPyL h 99999 _).map _ = _
      rw [q]
      rfl
    · cases e'
  | _ => cases e
theorem scD_ls {h : Hh} {x y : D} {xs : List D} (e : lsD h x = some xs) : scD x y = none := by
  cases x with
  | lst _ => cases y <;> rfl
  | frl _ => cases y <;> rfl
  | ref _ => cases y <;> rfl
  | _ => cases e
theorem eqvAll_strs : ∀ xs ys : List Str, PyData.eqvAll (xs.map .str) (ys.map .str) = decide (xs = ys)
  | [], [] => rfl
  | [], y :: ys => rfl
  | x :: xs, [] => rfl
  | x :: xs, y :: ys => by
    simp only [List.map_cons, PyData.eqvAll, PyData.eqv, eqvAll_strs xs ys]
    rw [Bool.eq_iff_iff]
    simp
theorem canLay_strs : ∀ xs : List Str, (∀ x ∈ xs, Asc x) → PyData.canLayAll0 (xs.map .str) = true
  | [], _ => rfl
  | x :: xs, h => by
    simp only [List.map_cons, PyData.canLayAll0, PyData.canLay0, canLay_strs xs (fun y m => h y (List.mem_cons_of_mem _ m)), Bool.and_true]
    show (x.cps.all (· < 0x110000)) = true
    rw [← Array.all_toList, List.all_eq_true]
    intro c m
    have := h x (List.mem_cons_self ..) c m
    exact decide_eq_true (by omega)
theorem depth_strs : ∀ xs : List Str, PyData.depthAll (xs.map .str) ≤ 1
  | [] => by simp [PyData.depthAll]
  | x :: xs => by
    have := depth_strs xs
    simp [PyData.depthAll, PyData.depth]
    omega
theorem shaped_strs (xs : List Str) (h : ∀ x ∈ xs, Asc x) : SeqAt.shaped (.list (xs.map .str)) = true := by
  unfold SeqAt.shaped
  have := depth_strs xs
  rw [Bool.and_eq_true]
  exact ⟨canLay_strs xs h, decide_eq_true (by simp [PyData.depth]; omega)⟩
theorem eqD_ls {h : Hh} {x y : D} {xs ys : List Str} (ex : lsD h x = some (xs.map D.str)) (ey : lsD h y = some (ys.map D.str)) (lx : xs.length ≤ 50000) (ly : ys.length ≤ 50000) (ax : ∀ x ∈ xs, Asc x) (ay : ∀ x ∈ ys, Asc x) :
    eqD h x y = some (decide (xs = ys)) := by
  unfold eqD
  rw [scD_ls ex, toPy_ls ex lx, toPy_ls ey ly]
  simp only [shaped_strs xs ax, shaped_strs ys ay, and_self, if_true, PyData.eqv, eqvAll_strs]
/-! comprehensions -/
theorem lcGo_map {f : D → Hh → M (Option D)} {h : Hh} (g : D → Option D) : ∀ items : List D, (∀ x ∈ items, f x h = some (.ok (g x), h)) → lcGo [] f items h = some (items.filterMap g, h)
  | [], _ => by simp [lcGo, stayB]
  | x :: xs, e => by
    have ih := lcGo_map g xs (fun y m => e y (List.mem_cons_of_mem _ m))
    have e0 := e x (List.mem_cons_self ..)
    rw [lcGo]
    simp only [stayB, if_true, e0, ih]
    cases q : g x with
    | none => simp [List.filterMap_cons, q]
    | some y => simp [List.filterMap_cons, q]
theorem blsD_map {α : Type} (p : α → Bool) : ∀ l : List α, blsD (l.map fun a => D.bl (p a)) = some (l.map p)
  | [] => rfl
  | a :: l => by
    rw [List.map_cons, blsD, blsD_map p l]
    rfl
theorem strsD_map : ∀ l : List Str, strsD (l.map D.str) = some l
  | [] => rfl
  | a :: l => by
    rw [List.map_cons, strsD, strsD_map l]
    rfl
theorem intsD_map : ∀ l : List Int, intsD (l.map D.int) = some l
  | [] => rfl
  | a :: l => by
    rw [List.map_cons, intsD, intsD_map l]
    rfl
/-! in -/
theorem flL_strs : ∀ l : List Str, flL (l.map D.str) = some (l.map V.str)
  | [] => rfl
  | a :: l => by
    rw [List.map_cons, flL, flL_strs l]
    rfl
theorem inV_strs (x : Str) : ∀ l : List Str, inV (.str x) (l.map V.str) = decide (x ∈ l)
  | [] => rfl
  | a :: l => by
    have ih := inV_strs x l
    unfold inV at ih ⊢
    rw [List.map_cons, List.any_cons, ih, Bool.eq_iff_iff]
    simp [eqV]
    constructor
    · rintro (q | q)
      · exact .inl q.symm
      · exact .inr q
    · rintro (q | q)
      · exact .inl q.symm
      · exact .inr q
theorem flat_strs (l : List Str) : (l.map V.str).all flatV = true := by
  induction l with
  | nil => rfl
  | cons a l ih => rw [List.map_cons, List.all_cons, ih]; rfl
theorem inD_strs {h : Hh} {x : Str} {d : D} {l : List Str} (e : sqD h d = some (l.map D.str)) : inD h (.str x) d = some (decide (x ∈ l)) := by
  have ns : ∀ y, d ≠ .str y := fun y q => by subst q; cases e
  have : inD h (.str x) d = match sqD h d with
    | none => none
    | some ys => match flD (.str x), flL ys with
      | some v, some vs => if flatV v = true ∧ vs.all flatV = true then some (inV v vs) else none
      | _, _ => match lsD h d with
        | none => none
        | some _ => match toPy h 100000 (.str x), toPyL h 100000 ys with
          | some a, some bs => if SeqAt.shaped a = true ∧ SeqAt.shaped (.list bs) = true then some (bs.any fun z => PyData.eqv z a) else none
          | _, _ => none := by
    cases d with
    | str y => exact absurd rfl (ns y)
    | _ => rfl
  rw [this, e]
  simp only [flL_strs, flD, flat_strs, flatV, and_self, if_true, inV_strs]
/-! a sign -/
theorem one_in (a : Str) (c : Nat) : (!(Builtin.Str.occurrences a ⟨#[c]⟩ 0 a.length 1).isEmpty) = decide (c ∈ a.cps.toList) := StrLaws.found_one a c
end K1

namespace K1
open PySem L2 Z
theorem ma_get {S : Sl} {i : Nat} : True := trivial
theorem k_str {h : Hh} {s : Str} : Known h (.str s) "str" := ⟨rfl, .inr (.inr (.inr (.inl rfl)))⟩
theorem k_int {h : Hh} {i : Int} : Known h (.int i) "int" := ⟨rfl, .inr (.inr (.inl rfl))⟩
theorem no_str {h : Hh} {d : D} {t : String} (K : Known h d t) (c : t ≠ "str") : isinD h [d, .ty "str"] = some (.bl false) := by
  rw [isi_known K (.inr (.inl rfl)), decide_eq_false c]
theorem is_str {h : Hh} {s : Str} : isinD h [.str s, .ty "str"] = some (.bl true) := rfl
theorem is_word_no {k : Nat} {h : Hh} {d : D} {t : String} (K : Known h d t) (nl : ∀ xs, d ≠ .lst xs) (c : t ≠ "str") : C (k + 1) "is_word" [d] h = some (.ok (.bl false), h) := by
  rw [call_eq t2 rfl]
  simp [b2, evB, evS, ev.eq_1, ev.eq_2, ev.eq_3, ev.eq_4, ev.eq_5, ev.eq_6, ev.eq_7, ev.eq_8, ev.eq_9, ev.eq_10, ev.eq_11, ev.eq_12, ev.eq_13, ev.eq_14, ev.eq_15, ev.eq_16, ev.eq_17, ev.eq_18, ev.eq_19, ev.eq_20, ev.eq_21, ev.eq_22, ev.eq_23, ev.eq_24, ev.eq_25, ev.eq_26, ev.eq_27, ev.eq_28, ev.eq_29, ev.eq_31, ev.eq_32, evA, evO, evC, evI, vt, tv, bd_ok, bs_ok, bq_nx, bq_rt, pu_ok, re_nx, re_rt, ma_bl, ma_int, ma_str, ma_non, ma_ty, ma_ref, ma_tup, ma_frl, ma_lst, fix_bl, fix_int, fix_str, fix_non, getS, Z.evE, Z.evT, Z.vv, tr_bl, b_len, b_isi, b_all, b_sum, b_str, c_eq, c_ne, c_in, c_ni, c_lt, c_le, c_is, c_isn, c_isN, c_isnN, c_isI, c_isL, c_isR, o_add, o_sub, q_bl, q_int, q_str, q_NN, no_str K c, mat_ok nl]
theorem is_reserved_no {k : Nat} {h : Hh} {d : D} {t : String} (K : Known h d t) (nl : ∀ xs, d ≠ .lst xs) (c : t ≠ "str") : C (k + 1) "is_reserved" [d] h = some (.ok (.bl false), h) := by
  rw [call_eq t3 rfl]
  simp [b3, evB, evS, ev.eq_1, ev.eq_2, ev.eq_3, ev.eq_4, ev.eq_5, ev.eq_6, ev.eq_7, ev.eq_8, ev.eq_9, ev.eq_10, ev.eq_11, ev.eq_12, ev.eq_13, ev.eq_14, ev.eq_15, ev.eq_16, ev.eq_17, ev.eq_18, ev.eq_19, ev.eq_20, ev.eq_21, ev.eq_22, ev.eq_23, ev.eq_24, ev.eq_25, ev.eq_26, ev.eq_27, ev.eq_28, ev.eq_29, ev.eq_31, ev.eq_32, evA, evO, evC, evI, vt, tv, bd_ok, bs_ok, bq_nx, bq_rt, pu_ok, re_nx, re_rt, ma_bl, ma_int, ma_str, ma_non, ma_ty, ma_ref, ma_tup, ma_frl, ma_lst, fix_bl, fix_int, fix_str, fix_non, getS, Z.evE, Z.evT, Z.vv, tr_bl, b_len, b_isi, b_all, b_sum, b_str, c_eq, c_ne, c_in, c_ni, c_lt, c_le, c_is, c_isn, c_isN, c_isnN, c_isI, c_isL, c_isR, o_add, o_sub, q_bl, q_int, q_str, q_NN, no_str K c, mat_ok nl]
theorem is_name_no {k : Nat} {h : Hh} {d : D} {t : String} (K : Known h d t) (nl : ∀ xs, d ≠ .lst xs) (c : t ≠ "str") : C (k + 2) "is_name" [d] h = some (.ok (.bl false), h) := by
  rw [call_eq t4 rfl]
  simp [b4, evB, evS, ev.eq_1, ev.eq_2, ev.eq_3, ev.eq_4, ev.eq_5, ev.eq_6, ev.eq_7, ev.eq_8, ev.eq_9, ev.eq_10, ev.eq_11, ev.eq_12, ev.eq_13, ev.eq_14, ev.eq_15, ev.eq_16, ev.eq_17, ev.eq_18, ev.eq_19, ev.eq_20, ev.eq_21, ev.eq_22, ev.eq_23, ev.eq_24, ev.eq_25, ev.eq_26, ev.eq_27, ev.eq_28, ev.eq_29, ev.eq_31, ev.eq_32, evA, evO, evC, evI, vt, tv, bd_ok, bs_ok, bq_nx, bq_rt, pu_ok, re_nx, re_rt, ma_bl, ma_int, ma_str, ma_non, ma_ty, ma_ref, ma_tup, ma_frl, ma_lst, fix_bl, fix_int, fix_str, fix_non, getS, Z.evE, Z.evT, Z.vv, tr_bl, b_len, b_isi, b_all, b_sum, b_str, c_eq, c_ne, c_in, c_ni, c_lt, c_le, c_is, c_isn, c_isN, c_isnN, c_isI, c_isL, c_isR, o_add, o_sub, q_bl, q_int, q_str, q_NN, is_word_no K nl c, mat_ok nl]
theorem digit_of_no {k : Nat} {h : Hh} {d : D} {t : String} (K : Known h d t) (nl : ∀ xs, d ≠ .lst xs) (c : t ≠ "str") : C (k + 1) "digit_of" [d] h = some (.ok .non, h) := by
  rw [call_eq t5 rfl]
  simp [b5, evB, evS, ev.eq_1, ev.eq_2, ev.eq_3, ev.eq_4, ev.eq_5, ev.eq_6, ev.eq_7, ev.eq_8, ev.eq_9, ev.eq_10, ev.eq_11, ev.eq_12, ev.eq_13, ev.eq_14, ev.eq_15, ev.eq_16, ev.eq_17, ev.eq_18, ev.eq_19, ev.eq_20, ev.eq_21, ev.eq_22, ev.eq_23, ev.eq_24, ev.eq_25, ev.eq_26, ev.eq_27, ev.eq_28, ev.eq_29, ev.eq_31, ev.eq_32, evA, evO, evC, evI, vt, tv, bd_ok, bs_ok, bq_nx, bq_rt, pu_ok, re_nx, re_rt, ma_bl, ma_int, ma_str, ma_non, ma_ty, ma_ref, ma_tup, ma_frl, ma_lst, fix_bl, fix_int, fix_str, fix_non, getS, Z.evE, Z.evT, Z.vv, tr_bl, b_len, b_isi, b_all, b_sum, b_str, c_eq, c_ne, c_in, c_ni, c_lt, c_le, c_is, c_isn, c_isN, c_isnN, c_isI, c_isL, c_isR, o_add, o_sub, q_bl, q_int, q_str, q_NN, no_str K c, mat_ok nl]
theorem words_of_no {k : Nat} {h : Hh} {d : D} {t : String} (K : Known h d t) (nl : ∀ xs, d ≠ .lst xs) (c : t ≠ "str") : C (k + 1) "words_of" [d] h = some (.ok .non, h) := by
  rw [call_eq t6 rfl]
  simp [b6, evB, evS, ev.eq_1, ev.eq_2, ev.eq_3, ev.eq_4, ev.eq_5, ev.eq_6, ev.eq_7, ev.eq_8, ev.eq_9, ev.eq_10, ev.eq_11, ev.eq_12, ev.eq_13, ev.eq_14, ev.eq_15, ev.eq_16, ev.eq_17, ev.eq_18, ev.eq_19, ev.eq_20, ev.eq_21, ev.eq_22, ev.eq_23, ev.eq_24, ev.eq_25, ev.eq_26, ev.eq_27, ev.eq_28, ev.eq_29, ev.eq_31, ev.eq_32, evA, evO, evC, evI, vt, tv, bd_ok, bs_ok, bq_nx, bq_rt, pu_ok, re_nx, re_rt, ma_bl, ma_int, ma_str, ma_non, ma_ty, ma_ref, ma_tup, ma_frl, ma_lst, fix_bl, fix_int, fix_str, fix_non, getS, Z.evE, Z.evT, Z.vv, tr_bl, b_len, b_isi, b_all, b_sum, b_str, c_eq, c_ne, c_in, c_ni, c_lt, c_le, c_is, c_isn, c_isN, c_isnN, c_isI, c_isL, c_isR, o_add, o_sub, q_bl, q_int, q_str, q_NN, no_str K c, mat_ok nl]
def low (c : Nat) : Bool := decide (97 ≤ c) && decide (c ≤ 122)
def wordB (s : Str) : Bool := decide (1 ≤ s.length) && decide (s.length ≤ 8) && s.cps.toList.all low
theorem len_ok {s : Str} (l : s.length ≤ 1000) : s.length ≤ sizeLine := Nat.le_trans l (by decide)
theorem lenD_str {h : Hh} {s : Str} (l : s.length ≤ 1000) : lenD h [.str s] = some (.int s.length) := if_pos (len_ok l)
theorem lt_one (a b : Nat) : ([a] < [b]) ↔ a < b := by
  rw [List.cons_lt_cons_iff]
  simp
theorem nlt_one (a b : Nat) : (!decide ([a] < [b])) = decide (b ≤ a) := by
  rw [Bool.eq_iff_iff, Bool.not_eq_true', decide_eq_false_iff_not, lt_one, decide_eq_true_eq]
  omega
theorem a_le {h : Hh} (c : Nat) : cmpD h .LtE (.str "a") (.str ⟨#[c]⟩) = some (.bl (decide (97 ≤ c))) := by
  have : (("a" : Str)).cps.toList = [97] := by decide +kernel
  rw [← nlt_one c 97]
  simp only [cmpD, this]
theorem le_z {h : Hh} (c : Nat) : cmpD h .LtE (.str ⟨#[c]⟩) (.str "z") = some (.bl (decide (c ≤ 122))) := by
  have : (("z" : Str)).cps.toList = [122] := by decide +kernel
  rw [← nlt_one 122 c]
  simp only [cmpD, this]
theorem strItems_len {s : Str} : (strItems s).length = s.length := by simp [strItems, Str.length]
theorem filterMap_sm {α β : Type} (g : α → β) : ∀ l : List α, l.filterMap (fun a => some (g a)) = l.map g := fun l => by
  induction l with
  | nil => rfl
  | cons a l ih => simp
theorem is_word {k : Nat} {h : Hh} {s : Str} (l : s.length ≤ 1000) : C (k + 1) "is_word" [.str s] h = some (.ok (.bl (wordB s)), h) := by
  rw [call_eq t2 rfl]
  have e3 : ∀ x ∈ strItems s, lcEl (C k) (.chn .LtE .LtE (.str "a") (.var 1) (.str "z")) (.nm 1) .no [1] [some (.str s), none] x h = some (.ok (match x with | .str y => some (.bl (y.cps.toList.all low)) | _ => none), h) := by
    intro x m
    obtain ⟨c, -, rfl⟩ := List.mem_map.mp m
    unfold lcEl
    by_cases c1 : 97 ≤ c
    · by_cases c2 : c ≤ 122 <;> simp [c1, c2, low, evB, evS, ev.eq_1, ev.eq_2, ev.eq_3, ev.eq_4, ev.eq_5, ev.eq_6, ev.eq_7, ev.eq_8, ev.eq_9, ev.eq_10, ev.eq_11, ev.eq_12, ev.eq_13, ev.eq_14, ev.eq_15, ev.eq_16, ev.eq_17, ev.eq_18, ev.eq_19, ev.eq_20, ev.eq_21, ev.eq_22, ev.eq_23, ev.eq_24, ev.eq_25, ev.eq_26, ev.eq_27, ev.eq_28, ev.eq_29, ev.eq_31, ev.eq_32, evA, evO, evC, evI, vt, tv, bd_ok, bs_ok, bq_nx, bq_rt, pu_ok, re_nx, re_rt, ma_bl, ma_int, ma_str, ma_non, ma_ty, ma_ref, ma_tup, ma_frl, ma_lst, fix_bl, fix_int, fix_str, fix_non, getS, Z.evE, Z.evT, Z.vv, tr_bl, b_len, b_isi, b_all, b_sum, b_str, c_eq, c_ne, c_in, c_ni, c_lt, c_le, c_is, c_isn, c_isN, c_isnN, c_isI, c_isL, c_isR, o_add, o_sub, q_bl, q_int, q_str, q_NN, le_z, a_le, bindT, wipeS]
    · simp [c1, low, evB, evS, ev.eq_1, ev.eq_2, ev.eq_3, ev.eq_4, ev.eq_5, ev.eq_6, ev.eq_7, ev.eq_8, ev.eq_9, ev.eq_10, ev.eq_11, ev.eq_12, ev.eq_13, ev.eq_14, ev.eq_15, ev.eq_16, ev.eq_17, ev.eq_18, ev.eq_19, ev.eq_20, ev.eq_21, ev.eq_22, ev.eq_23, ev.eq_24, ev.eq_25, ev.eq_26, ev.eq_27, ev.eq_28, ev.eq_29, ev.eq_31, ev.eq_32, evA, evO, evC, evI, vt, tv, bd_ok, bs_ok, bq_nx, bq_rt, pu_ok, re_nx, re_rt, ma_bl, ma_int, ma_str, ma_non, ma_ty, ma_ref, ma_tup, ma_frl, ma_lst, fix_bl, fix_int, fix_str, fix_non, getS, Z.evE, Z.evT, Z.vv, tr_bl, b_len, b_isi, b_all, b_sum, b_str, c_eq, c_ne, c_in, c_ni, c_lt, c_le, c_is, c_isn, c_isN, c_isnN, c_isI, c_isL, c_isR, o_add, o_sub, q_bl, q_int, q_str, q_NN, le_z, a_le, bindT, wipeS]
  have e4 := lcGo_map _ (strItems s) e3
  have e5 : (strItems s).filterMap (fun x => match x with | .str y => some (D.bl (y.cps.toList.all low)) | _ => none) = s.cps.toList.map fun c => D.bl (low c) := by
    unfold strItems
    rw [List.filterMap_map]
    show s.cps.toList.filterMap (fun c => some (D.bl ([c].all low))) = _
    rw [filterMap_sm]
    simp
  rw [e5] at e4
  have e6 := ev_lc (Φ := C k) (it := .sq (.var 0)) (S := [some (.str s), none]) (h := h) (h1 := h) (st := []) (by simp [evB, evS, ev.eq_1, ev.eq_2, ev.eq_3, ev.eq_4, ev.eq_5, ev.eq_6, ev.eq_7, ev.eq_8, ev.eq_9, ev.eq_10, ev.eq_11, ev.eq_12, ev.eq_13, ev.eq_14, ev.eq_15, ev.eq_16, ev.eq_17, ev.eq_18, ev.eq_19, ev.eq_20, ev.eq_21, ev.eq_22, ev.eq_23, ev.eq_24, ev.eq_25, ev.eq_26, ev.eq_27, ev.eq_28, ev.eq_29, ev.eq_31, ev.eq_32, evA, evO, evC, evI, vt, tv, bd_ok, bs_ok, bq_nx, bq_rt, pu_ok, re_nx, re_rt, ma_bl, ma_int, ma_str, ma_non, ma_ty, ma_ref, ma_tup, ma_frl, ma_lst, fix_bl, fix_int, fix_str, fix_non, getS, Z.evE, Z.evT, Z.vv, tr_bl, b_len, b_isi, b_all, b_sum, b_str, c_eq, c_ne, c_in, c_ni, c_lt, c_le, c_is, c_isn, c_isN, c_isnN, c_isI, c_isL, c_isR, o_add, o_sub, q_bl, q_int, q_str, q_NN]) (by rw [strItems_len]; exact len_ok l) e4
  have e7 : overL (fun xs => (blsD xs).map fun ns => .bl (ns.all id)) h [.lst (s.cps.toList.map fun c => D.bl (low c))] = some (.bl (s.cps.toList.all low)) := by
    simp only [overL, lsD, blsD_map]
    simp
  by_cases c1 : 1 ≤ s.length
  · have c1' : (1 : Int) ≤ s.length := by omega
    by_cases c2 : s.length ≤ 8
    · have c2' : (s.length : Int) ≤ 8 := by omega
      simp [b2, evB, evS, ev.eq_1, ev.eq_2, ev.eq_3, ev.eq_4, ev.eq_5, ev.eq_6, ev.eq_7, ev.eq_8, ev.eq_9, ev.eq_10, ev.eq_11, ev.eq_12, ev.eq_13, ev.eq_14, ev.eq_15, ev.eq_16, ev.eq_17, ev.eq_18, ev.eq_19, ev.eq_20, ev.eq_21, ev.eq_22, ev.eq_23, ev.eq_24, ev.eq_25, ev.eq_26, ev.eq_27, ev.eq_28, ev.eq_29, ev.eq_31, ev.eq_32, evA, evO, evC, evI, vt, tv, bd_ok, bs_ok, bq_nx, bq_rt, pu_ok, re_nx, re_rt, ma_bl, ma_int, ma_str, ma_non, ma_ty, ma_ref, ma_tup, ma_frl, ma_lst, fix_bl, fix_int, fix_str, fix_non, getS, Z.evE, Z.evT, Z.vv, tr_bl, b_len, b_isi, b_all, b_sum, b_str, c_eq, c_ne, c_in, c_ni, c_lt, c_le, c_is, c_isn, c_isN, c_isnN, c_isI, c_isL, c_isR, o_add, o_sub, q_bl, q_int, q_str, q_NN, is_str, lenD_str l, g_long, c1', c2', e6, e7, wordB, c1, c2]
    · have c2' : ¬ (s.length : Int) ≤ 8 := by omega
      simp [b2, evB, evS, ev.eq_1, ev.eq_2, ev.eq_3, ev.eq_4, ev.eq_5, ev.eq_6, ev.eq_7, ev.eq_8, ev.eq_9, ev.eq_10, ev.eq_11, ev.eq_12, ev.eq_13, ev.eq_14, ev.eq_15, ev.eq_16, ev.eq_17, ev.eq_18, ev.eq_19, ev.eq_20, ev.eq_21, ev.eq_22, ev.eq_23, ev.eq_24, ev.eq_25, ev.eq_26, ev.eq_27, ev.eq_28, ev.eq_29, ev.eq_31, ev.eq_32, evA, evO, evC, evI, vt, tv, bd_ok, bs_ok, bq_nx, bq_rt, pu_ok, re_nx, re_rt, ma_bl, ma_int, ma_str, ma_non, ma_ty, ma_ref, ma_tup, ma_frl, ma_lst, fix_bl, fix_int, fix_str, fix_non, getS, Z.evE, Z.evT, Z.vv, tr_bl, b_len, b_isi, b_all, b_sum, b_str, c_eq, c_ne, c_in, c_ni, c_lt, c_le, c_is, c_isn, c_isN, c_isnN, c_isI, c_isL, c_isR, o_add, o_sub, q_bl, q_int, q_str, q_NN, is_str, lenD_str l, g_long, c1', c2', wordB, c1, c2]
  · have c1' : ¬ (1 : Int) ≤ s.length := by omega
    simp [b2, evB, evS, ev.eq_1, ev.eq_2, ev.eq_3, ev.eq_4, ev.eq_5, ev.eq_6, ev.eq_7, ev.eq_8, ev.eq_9, ev.eq_10, ev.eq_11, ev.eq_12, ev.eq_13, ev.eq_14, ev.eq_15, ev.eq_16, ev.eq_17, ev.eq_18, ev.eq_19, ev.eq_20, ev.eq_21, ev.eq_22, ev.eq_23, ev.eq_24, ev.eq_25, ev.eq_26, ev.eq_27, ev.eq_28, ev.eq_29, ev.eq_31, ev.eq_32, evA, evO, evC, evI, vt, tv, bd_ok, bs_ok, bq_nx, bq_rt, pu_ok, re_nx, re_rt, ma_bl, ma_int, ma_str, ma_non, ma_ty, ma_ref, ma_tup, ma_frl, ma_lst, fix_bl, fix_int, fix_str, fix_non, getS, Z.evE, Z.evT, Z.vv, tr_bl, b_len, b_isi, b_all, b_sum, b_str, c_eq, c_ne, c_in, c_ni, c_lt, c_le, c_is, c_isn, c_isN, c_isnN, c_isI, c_isL, c_isR, o_add, o_sub, q_bl, q_int, q_str, q_NN, is_str, lenD_str l, g_long, c1', wordB, c1]
def lRes : List Str := lCom ++ lDir ++ lLin ++ lTal
theorem in_tup {h : Hh} {s : Str} {l : List Str} : inD h (.str s) (.tup (l.map D.str)) = some (decide (s ∈ l)) := inD_strs rfl
theorem is_reserved {k : Nat} {h : Hh} {s : Str} : C (k + 1) "is_reserved" [.str s] h = some (.ok (.bl (decide (s ∈ lRes))), h) := by
  rw [call_eq t3 rfl]
  have e : decide (s ∈ lRes) = (decide (s ∈ lCom) || (decide (s ∈ lDir) || (decide (s ∈ lLin) || decide (s ∈ lTal)))) := by
    rw [Bool.eq_iff_iff]
    simp [lRes]
  rw [e]
  by_cases c1 : s ∈ lCom
  · simp [b3, evB, evS, ev.eq_1, ev.eq_2, ev.eq_3, ev.eq_4, ev.eq_5, ev.eq_6, ev.eq_7, ev.eq_8, ev.eq_9, ev.eq_10, ev.eq_11, ev.eq_12, ev.eq_13, ev.eq_14, ev.eq_15, ev.eq_16, ev.eq_17, ev.eq_18, ev.eq_19, ev.eq_20, ev.eq_21, ev.eq_22, ev.eq_23, ev.eq_24, ev.eq_25, ev.eq_26, ev.eq_27, ev.eq_28, ev.eq_29, ev.eq_31, ev.eq_32, evA, evO, evC, evI, vt, tv, bd_ok, bs_ok, bq_nx, bq_rt, pu_ok, re_nx, re_rt, ma_bl, ma_int, ma_str, ma_non, ma_ty, ma_ref, ma_tup, ma_frl, ma_lst, fix_bl, fix_int, fix_str, fix_non, getS, Z.evE, Z.evT, Z.vv, tr_bl, b_len, b_isi, b_all, b_sum, b_str, c_eq, c_ne, c_in, c_ni, c_lt, c_le, c_is, c_isn, c_isN, c_isnN, c_isI, c_isL, c_isR, o_add, o_sub, q_bl, q_int, q_str, q_NN, is_str, g_com, g_dir, g_lin, g_tal, in_tup, c1]
  by_cases c2 : s ∈ lDir
  · simp [b3, evB, evS, ev.eq_1, ev.eq_2, ev.eq_3, ev.eq_4, ev.eq_5, ev.eq_6, ev.eq_7, ev.eq_8, ev.eq_9, ev.eq_10, ev.eq_11, ev.eq_12, ev.eq_13, ev.eq_14, ev.eq_15, ev.eq_16, ev.eq_17, ev.eq_18, ev.eq_19, ev.eq_20, ev.eq_21, ev.eq_22, ev.eq_23, ev.eq_24, ev.eq_25, ev.eq_26, ev.eq_27, ev.eq_28, ev.eq_29, ev.eq_31, ev.eq_32, evA, evO, evC, evI, vt, tv, bd_ok, bs_ok, bq_nx, bq_rt, pu_ok, re_nx, re_rt, ma_bl, ma_int, ma_str, ma_non, ma_ty, ma_ref, ma_tup, ma_frl, ma_lst, fix_bl, fix_int, fix_str, fix_non, getS, Z.evE, Z.evT, Z.vv, tr_bl, b_len, b_isi, b_all, b_sum, b_str, c_eq, c_ne, c_in, c_ni, c_lt, c_le, c_is, c_isn, c_isN, c_isnN, c_isI, c_isL, c_isR, o_add, o_sub, q_bl, q_int, q_str, q_NN, is_str, g_com, g_dir, g_lin, g_tal, in_tup, c1, c2]
  by_cases c3 : s ∈ lLin <;> simp [b3, evB, evS, ev.eq_1, ev.eq_2, ev.eq_3, ev.eq_4, ev.eq_5, ev.eq_6, ev.eq_7, ev.eq_8, ev.eq_9, ev.eq_10, ev.eq_11, ev.eq_12, ev.eq_13, ev.eq_14, ev.eq_15, ev.eq_16, ev.eq_17, ev.eq_18, ev.eq_19, ev.eq_20, ev.eq_21, ev.eq_22, ev.eq_23, ev.eq_24, ev.eq_25, ev.eq_26, ev.eq_27, ev.eq_28, ev.eq_29, ev.eq_31, ev.eq_32, evA, evO, evC, evI, vt, tv, bd_ok, bs_ok, bq_nx, bq_rt, pu_ok, re_nx, re_rt, ma_bl, ma_int, ma_str, ma_non, ma_ty, ma_ref, ma_tup, ma_frl, ma_lst, fix_bl, fix_int, fix_str, fix_non, getS, Z.evE, Z.evT, Z.vv, tr_bl, b_len, b_isi, b_all, b_sum, b_str, c_eq, c_ne, c_in, c_ni, c_lt, c_le, c_is, c_isn, c_isN, c_isnN, c_isI, c_isL, c_isR, o_add, o_sub, q_bl, q_int, q_str, q_NN, is_str, g_com, g_dir, g_lin, g_tal, in_tup, c1, c2, c3]
theorem is_name {k : Nat} {h : Hh} {s : Str} (l : s.length ≤ 1000) : C (k + 2) "is_name" [.str s] h = some (.ok (.bl (wordB s && !decide (s ∈ lRes))), h) := by
  rw [call_eq t4 rfl]
  cases c1 : wordB s with
  | true =>
    by_cases c2 : s ∈ lRes <;> simp [b4, evB, evS, ev.eq_1, ev.eq_2, ev.eq_3, ev.eq_4, ev.eq_5, ev.eq_6, ev.eq_7, ev.eq_8, ev.eq_9, ev.eq_10, ev.eq_11, ev.eq_12, ev.eq_13, ev.eq_14, ev.eq_15, ev.eq_16, ev.eq_17, ev.eq_18, ev.eq_19, ev.eq_20, ev.eq_21, ev.eq_22, ev.eq_23, ev.eq_24, ev.eq_25, ev.eq_26, ev.eq_27, ev.eq_28, ev.eq_29, ev.eq_31, ev.eq_32, evA, evO, evC, evI, vt, tv, bd_ok, bs_ok, bq_nx, bq_rt, pu_ok, re_nx, re_rt, ma_bl, ma_int, ma_str, ma_non, ma_ty, ma_ref, ma_tup, ma_frl, ma_lst, fix_bl, fix_int, fix_str, fix_non, getS, Z.evE, Z.evT, Z.vv, tr_bl, b_len, b_isi, b_all, b_sum, b_str, c_eq, c_ne, c_in, c_ni, c_lt, c_le, c_is, c_isn, c_isN, c_isnN, c_isI, c_isL, c_isR, o_add, o_sub, q_bl, q_int, q_str, q_NN, is_word l, is_reserved, c1, c2]
  | false => simp [b4, evB, evS, ev.eq_1, ev.eq_2, ev.eq_3, ev.eq_4, ev.eq_5, ev.eq_6, ev.eq_7, ev.eq_8, ev.eq_9, ev.eq_10, ev.eq_11, ev.eq_12, ev.eq_13, ev.eq_14, ev.eq_15, ev.eq_16, ev.eq_17, ev.eq_18, ev.eq_19, ev.eq_20, ev.eq_21, ev.eq_22, ev.eq_23, ev.eq_24, ev.eq_25, ev.eq_26, ev.eq_27, ev.eq_28, ev.eq_29, ev.eq_31, ev.eq_32, evA, evO, evC, evI, vt, tv, bd_ok, bs_ok, bq_nx, bq_rt, pu_ok, re_nx, re_rt, ma_bl, ma_int, ma_str, ma_non, ma_ty, ma_ref, ma_tup, ma_frl, ma_lst, fix_bl, fix_int, fix_str, fix_non, getS, Z.evE, Z.evT, Z.vv, tr_bl, b_len, b_isi, b_all, b_sum, b_str, c_eq, c_ne, c_in, c_ni, c_lt, c_le, c_is, c_isn, c_isN, c_isnN, c_isI, c_isL, c_isR, o_add, o_sub, q_bl, q_int, q_str, q_NN, is_word l, c1]
theorem mixed {k : Nat} {h : Hh} {a b : Int} (b0 : 0 ≤ b) (b1 : b ≤ 100) : ∃ n : Int, 0 ≤ n ∧ n < 2147483647 ∧ C (k + 1) "_law_mixed" [.int a, .int b] h = some (.ok (.int n), h) := by
  have m1 : 0 ≤ a % 1000000007 := Int.emod_nonneg _ (by decide)
  have m2 : a % 1000000007 < 1000000007 := Int.emod_lt_of_pos _ (by decide)
  refine ⟨(a % 1000000007 + 7919 * b + 13) * (a % 1000000007 + 7919 * b + 13) % 1000000007 * 48271 % 2147483647, Int.emod_nonneg _ (by decide), Int.emod_lt_of_pos _ (by decide), ?_⟩
  rw [call_eq t7 rfl]
  have e1 : binD h .Mult (.int 7919) (.int b) = some (.int (7919 * b)) := o_mul ⟨by omega, by omega⟩
  have e2 : binD h .Mult (.int (a % 1000000007 + 7919 * b + 13)) (.int (a % 1000000007 + 7919 * b + 13)) = some (.int ((a % 1000000007 + 7919 * b + 13) * (a % 1000000007 + 7919 * b + 13))) := o_mul ⟨by omega, by omega⟩
  have e3 : ∀ i : Int, binD h .Mult (.int i) (.int 48271) = some (.int (i * 48271)) := fun i => o_mul ⟨by decide, by decide⟩
  simp [b7, evB, evS, ev.eq_1, ev.eq_2, ev.eq_3, ev.eq_4, ev.eq_5, ev.eq_6, ev.eq_7, ev.eq_8, ev.eq_9, ev.eq_10, ev.eq_11, ev.eq_12, ev.eq_13, ev.eq_14, ev.eq_15, ev.eq_16, ev.eq_17, ev.eq_18, ev.eq_19, ev.eq_20, ev.eq_21, ev.eq_22, ev.eq_23, ev.eq_24, ev.eq_25, ev.eq_26, ev.eq_27, ev.eq_28, ev.eq_29, ev.eq_31, ev.eq_32, evA, evO, evC, evI, vt, tv, bd_ok, bs_ok, bq_nx, bq_rt, pu_ok, re_nx, re_rt, ma_bl, ma_int, ma_str, ma_non, ma_ty, ma_ref, ma_tup, ma_frl, ma_lst, fix_bl, fix_int, fix_str, fix_non, getS, Z.evE, Z.evT, Z.vv, tr_bl, b_len, b_isi, b_all, b_sum, b_str, c_eq, c_ne, c_in, c_ni, c_lt, c_le, c_is, c_isn, c_isN, c_isnN, c_isI, c_isL, c_isR, o_add, o_sub, q_bl, q_int, q_str, q_NN, o_mod, e1, e2, e3]
theorem clL_strs (n : Nat) : ∀ l : List Str, clL n (l.map D.str) = true
  | [] => rfl
  | a :: l => by
    rw [List.map_cons, clL, clL_strs n l]
    rfl
theorem reserved {k : Nat} {h : Hh} : ∃ h2, C (k + 1) "_law_reserved" [] h = some (.ok (.lst (lRes.map D.str)), h2) ∧ fix h (.lst (lRes.map D.str)) h2 = some (.ok (.lst (lRes.map D.str)), h) := by
  refine ⟨h ++ [.lst (lCom.map D.str), .lst (lDir.map D.str), .lst (lLin.map D.str)], ?_, fix_app (clL_strs _ _) (fun _ q => by cases q)⟩
  rw [call_eq t8 rfl]
  have e1 : mlD (h ++ [.lst (lCom.map D.str), .lst (lDir.map D.str), .lst (lLin.map D.str)]) (.ref h.length) = some (lCom.map D.str) := by simp [mlD]
  have e2 : mlD (h ++ [.lst (lCom.map D.str), .lst (lDir.map D.str), .lst (lLin.map D.str)]) (.ref (h.length + 1)) = some (lDir.map D.str) := by simp [mlD, List.getElem?_append_right]
  have e3 : mlD (h ++ [.lst (lCom.map D.str), .lst (lDir.map D.str), .lst (lLin.map D.str)]) (.ref (h.length + 2)) = some (lLin.map D.str) := by simp [mlD, List.getElem?_append_right]
  have a1 := o_lst e1 e2 (by decide)
  have a2 := o_lst (x := .lst (lCom.map D.str ++ lDir.map D.str)) rfl e3 (by decide)
  have a3 := o_lst (h := h ++ [.lst (lCom.map D.str), .lst (lDir.map D.str), .lst (lLin.map D.str)]) (x := .lst (lCom.map D.str ++ lDir.map D.str ++ lLin.map D.str)) (y := .lst (lTal.map D.str)) rfl rfl (by decide)
  simp [lCom, lDir, lLin, lTal] at a1 a2 a3
  simp [b8, evB, evS, ev.eq_1, ev.eq_2, ev.eq_3, ev.eq_4, ev.eq_5, ev.eq_6, ev.eq_7, ev.eq_8, ev.eq_9, ev.eq_10, ev.eq_11, ev.eq_12, ev.eq_13, ev.eq_14, ev.eq_15, ev.eq_16, ev.eq_17, ev.eq_18, ev.eq_19, ev.eq_20, ev.eq_21, ev.eq_22, ev.eq_23, ev.eq_24, ev.eq_25, ev.eq_26, ev.eq_27, ev.eq_28, ev.eq_29, ev.eq_31, ev.eq_32, evA, evO, evC, evI, vt, tv, bd_ok, bs_ok, bq_nx, bq_rt, pu_ok, re_nx, re_rt, ma_bl, ma_int, ma_str, ma_non, ma_ty, ma_ref, ma_tup, ma_frl, ma_lst, fix_bl, fix_int, fix_str, fix_non, getS, Z.evE, Z.evT, Z.vv, tr_bl, b_len, b_isi, b_all, b_sum, b_str, c_eq, c_ne, c_in, c_ni, c_lt, c_le, c_is, c_isn, c_isN, c_isnN, c_isI, c_isL, c_isR, o_add, o_sub, q_bl, q_int, q_str, q_NN, sz, lCom, lDir, lLin, lTal, lRes, a1, a2, a3]
theorem words_of {k : Nat} {h : Hh} {s : Str} (l : s.length ≤ 100000) : ∃ d h2, C (k + 1) "words_of" [.str s] h = some (.ok d, h2) ∧ fix h d h2 = some (.ok (if Str.empty ∈ Txt.split s " " then .non else .lst ((Txt.split s " ").map D.str)), h) := by
  have e0 : mthD h s .split (.str " ") = some (.lst ((Txt.split s " ").map .str)) := by
    refine if_pos ⟨by decide +kernel, ?_⟩
    exact Nat.le_trans (Nat.add_le_add_right l 2) (by decide)
  have ee : ("" : Str) = Str.empty := by decide +kernel
  have e1 : inD (h ++ [.lst ((Txt.split s " ").map .str)]) (.str "") (.ref h.length) = some (decide (Str.empty ∈ Txt.split s " ")) := by
    rw [← ee]
    refine inD_strs ?_
    simp [sqD, lsD]
  by_cases c : Str.empty ∈ Txt.split s " "
  · refine ⟨.non, h ++ [.lst ((Txt.split s " ").map .str)], ?_, ?_⟩
    · rw [call_eq t6 rfl]
      simp [b6, evB, evS, ev.eq_1, ev.eq_2, ev.eq_3, ev.eq_4, ev.eq_5, ev.eq_6, ev.eq_7, ev.eq_8, ev.eq_9, ev.eq_10, ev.eq_11, ev.eq_12, ev.eq_13, ev.eq_14, ev.eq_15, ev.eq_16, ev.eq_17, ev.eq_18, ev.eq_19, ev.eq_20, ev.eq_21, ev.eq_22, ev.eq_23, ev.eq_24, ev.eq_25, ev.eq_26, ev.eq_27, ev.eq_28, ev.eq_29, ev.eq_31, ev.eq_32, evA, evO, evC, evI, vt, tv, bd_ok, bs_ok, bq_nx, bq_rt, pu_ok, re_nx, re_rt, ma_bl, ma_int, ma_str, ma_non, ma_ty, ma_ref, ma_tup, ma_frl, ma_lst, fix_bl, fix_int, fix_str, fix_non, getS, Z.evE, Z.evT, Z.vv, tr_bl, b_len, b_isi, b_all, b_sum, b_str, c_eq, c_ne, c_in, c_ni, c_lt, c_le, c_is, c_isn, c_isN, c_isnN, c_isI, c_isL, c_isR, o_add, o_sub, q_bl, q_int, q_str, q_NN, is_str, e0, e1, c]
    · rw [if_pos c]
      exact fix_app rfl (fun _ q => by cases q)
  · refine ⟨.ref h.length, h ++ [.lst ((Txt.split s " ").map .str)], ?_, ?_⟩
    · rw [call_eq t6 rfl]
      simp [b6, evB, evS, ev.eq_1, ev.eq_2, ev.eq_3, ev.eq_4, ev.eq_5, ev.eq_6, ev.eq_7, ev.eq_8, ev.eq_9, ev.eq_10, ev.eq_11, ev.eq_12, ev.eq_13, ev.eq_14, ev.eq_15, ev.eq_16, ev.eq_17, ev.eq_18, ev.eq_19, ev.eq_20, ev.eq_21, ev.eq_22, ev.eq_23, ev.eq_24, ev.eq_25, ev.eq_26, ev.eq_27, ev.eq_28, ev.eq_29, ev.eq_31, ev.eq_32, evA, evO, evC, evI, vt, tv, bd_ok, bs_ok, bq_nx, bq_rt, pu_ok, re_nx, re_rt, ma_bl, ma_int, ma_str, ma_non, ma_ty, ma_ref, ma_tup, ma_frl, ma_lst, fix_bl, fix_int, fix_str, fix_non, getS, Z.evE, Z.evT, Z.vv, tr_bl, b_len, b_isi, b_all, b_sum, b_str, c_eq, c_ne, c_in, c_ni, c_lt, c_le, c_is, c_isn, c_isN, c_isnN, c_isI, c_isL, c_isR, o_add, o_sub, q_bl, q_int, q_str, q_NN, is_str, e0, e1, c]
    · rw [if_neg c]
      unfold fix
      have q : (h ++ [O.lst ((Txt.split s " ").map D.str)])[h.length]? = some (.lst ((Txt.split s " ").map D.str)) := by simp
      have ok : okH h (h ++ [O.lst ((Txt.split s " ").map D.str)]) := .inl (List.take_left' rfl)
      simp only [Nat.lt_irrefl, if_false, q, if_pos (And.intro ok (clL_strs h.length _)), List.take_left']
end K1

namespace K1
open PySem L2 Z
def fig : Str := "0123456789"
def alpha : Str := "abcdefghijklmnopqrstuvwxyz"
theorem fig_l : fig.cps.toList = [48, 49, 50, 51, 52, 53, 54, 55, 56, 57] := by decide +kernel
theorem alpha_l : alpha.cps.toList = (List.range 26).map (97 + ·) := by decide +kernel
theorem in_fig (c : Nat) : decide (c ∈ fig.cps.toList) = (decide (48 ≤ c) && decide (c ≤ 57)) := by
  rw [fig_l, Bool.eq_iff_iff]
  simp
  omega
theorem in_alpha (c : Nat) : decide (c ∈ alpha.cps.toList) = low c := by
  rw [alpha_l, Bool.eq_iff_iff, decide_eq_true_eq, List.mem_map]
  simp [low]
  constructor
  · rintro ⟨a, ha, rfl⟩
    omega
  · rintro ⟨h1, h2⟩
    exact ⟨c - 97, by omega, by omega⟩
theorem in_str1 {h : Hh} {a : Str} {c : Nat} : inD h (.str ⟨#[c]⟩) (.str a) = some (decide (c ∈ a.cps.toList)) := by
  show some _ = _
  rw [one_in]
theorem occ_fig : ∀ k, k < 10 → Builtin.Str.occurrences fig ⟨#[48 + k]⟩ 0 fig.length 1 = [k] := by
  intro k hk
  match k, hk with
  | 0, _ => decide +kernel
  | 1, _ => decide +kernel
  | 2, _ => decide +kernel
  | 3, _ => decide +kernel
  | 4, _ => decide +kernel
  | 5, _ => decide +kernel
  | 6, _ => decide +kernel
  | 7, _ => decide +kernel
  | 8, _ => decide +kernel
  | 9, _ => decide +kernel
/-- a text of one sign, a figure, or not -/
theorem fig_or (s : Str) : (∃ k, k < 10 ∧ s = ⟨#[48 + k]⟩) ∨ ∀ k, k < 10 → s ≠ ⟨#[48 + k]⟩ := by
  by_cases c : ∃ k, k < 10 ∧ s = ⟨#[48 + k]⟩
  · exact .inl c
  · exact .inr fun k hk e => c ⟨k, hk, e⟩
theorem one_of_len {s : Str} (l : s.length = 1) : ∃ c, s = ⟨#[c]⟩ := by
  obtain ⟨a⟩ := s
  obtain ⟨a⟩ := a
  match a, l with
  | [c], _ => exact ⟨c, rfl⟩
theorem digit_yes {k n : Nat} {h : Hh} (hk : n < 10) : C (k + 1) "digit_of" [.str ⟨#[48 + n]⟩] h = some (.ok (.int n), h) := by
  rw [call_eq t5 rfl]
  have e1 : lenD h [.str ⟨#[48 + n]⟩] = some (.int 1) := rfl
  have e2 : inD h (.str ⟨#[48 + n]⟩) (.str "0123456789") = some true := by
    refine in_str1.trans ?_
    rw [show ("0123456789" : Str) = fig from rfl, in_fig]
    congr 1
    simp
    omega
  have e3 : mthD h "0123456789" .index (.str ⟨#[48 + n]⟩) = some (.int n) := by
    show (match Builtin.Str.occurrences fig ⟨#[48 + n]⟩ 0 fig.length 1 with | i :: _ => some (D.int (i : Nat)) | [] => none) = _
    rw [occ_fig n hk]
  simp [b5, evB, evS, ev.eq_1, ev.eq_2, ev.eq_3, ev.eq_4, ev.eq_5, ev.eq_6, ev.eq_7, ev.eq_8, ev.eq_9, ev.eq_10, ev.eq_11, ev.eq_12, ev.eq_13, ev.eq_14, ev.eq_15, ev.eq_16, ev.eq_17, ev.eq_18, ev.eq_19, ev.eq_20, ev.eq_21, ev.eq_22, ev.eq_23, ev.eq_24, ev.eq_25, ev.eq_26, ev.eq_27, ev.eq_28, ev.eq_29, ev.eq_31, ev.eq_32, evA, evO, evC, evI, vt, tv, bd_ok, bs_ok, bq_nx, bq_rt, pu_ok, re_nx, re_rt, ma_bl, ma_int, ma_str, ma_non, ma_ty, ma_ref, ma_tup, ma_frl, ma_lst, fix_bl, fix_int, fix_str, fix_non, getS, Z.evE, Z.evT, Z.vv, tr_bl, b_len, b_isi, b_all, b_sum, b_str, c_eq, c_ne, c_in, c_ni, c_lt, c_le, c_is, c_isn, c_isN, c_isnN, c_isI, c_isL, c_isR, o_add, o_sub, q_bl, q_int, q_str, q_NN, is_str, e1, e2, e3, g_fig]
theorem digit_no {k : Nat} {h : Hh} {s : Str} (l : s.length ≤ 1000) (no : ∀ k, k < 10 → s ≠ ⟨#[48 + k]⟩) : C (k + 1) "digit_of" [.str s] h = some (.ok .non, h) := by
  rw [call_eq t5 rfl]
  by_cases c : s.length = 1
  · obtain ⟨n, rfl⟩ := one_of_len c
    have e1 : lenD h [.str ⟨#[n]⟩] = some (.int 1) := rfl
    have e2 : inD h (.str ⟨#[n]⟩) (.str "0123456789") = some false := by
      refine in_str1.trans ?_
      rw [show ("0123456789" : Str) = fig from rfl, in_fig]
      congr 1
      rw [← Bool.not_eq_true]
      simp
      intro h1
      have := no (n - 48)
      refine Classical.byContradiction fun h2 => this (by omega) ?_
      rw [show 48 + (n - 48) = n by omega]
    simp [b5, evB, evS, ev.eq_1, ev.eq_2, ev.eq_3, ev.eq_4, ev.eq_5, ev.eq_6, ev.eq_7, ev.eq_8, ev.eq_9, ev.eq_10, ev.eq_11, ev.eq_12, ev.eq_13, ev.eq_14, ev.eq_15, ev.eq_16, ev.eq_17, ev.eq_18, ev.eq_19, ev.eq_20, ev.eq_21, ev.eq_22, ev.eq_23, ev.eq_24, ev.eq_25, ev.eq_26, ev.eq_27, ev.eq_28, ev.eq_29, ev.eq_31, ev.eq_32, evA, evO, evC, evI, vt, tv, bd_ok, bs_ok, bq_nx, bq_rt, pu_ok, re_nx, re_rt, ma_bl, ma_int, ma_str, ma_non, ma_ty, ma_ref, ma_tup, ma_frl, ma_lst, fix_bl, fix_int, fix_str, fix_non, getS, Z.evE, Z.evT, Z.vv, tr_bl, b_len, b_isi, b_all, b_sum, b_str, c_eq, c_ne, c_in, c_ni, c_lt, c_le, c_is, c_isn, c_isN, c_isnN, c_isI, c_isL, c_isR, o_add, o_sub, q_bl, q_int, q_str, q_NN, is_str, e1, e2, g_fig]
  · have e1 : lenD h [.str s] = some (.int s.length) := lenD_str l
    have c' : ¬ (s.length : Int) = 1 := by omega
    simp [b5, evB, evS, ev.eq_1, ev.eq_2, ev.eq_3, ev.eq_4, ev.eq_5, ev.eq_6, ev.eq_7, ev.eq_8, ev.eq_9, ev.eq_10, ev.eq_11, ev.eq_12, ev.eq_13, ev.eq_14, ev.eq_15, ev.eq_16, ev.eq_17, ev.eq_18, ev.eq_19, ev.eq_20, ev.eq_21, ev.eq_22, ev.eq_23, ev.eq_24, ev.eq_25, ev.eq_26, ev.eq_27, ev.eq_28, ev.eq_29, ev.eq_31, ev.eq_32, evA, evO, evC, evI, vt, tv, bd_ok, bs_ok, bq_nx, bq_rt, pu_ok, re_nx, re_rt, ma_bl, ma_int, ma_str, ma_non, ma_ty, ma_ref, ma_tup, ma_frl, ma_lst, fix_bl, fix_int, fix_str, fix_non, getS, Z.evE, Z.evT, Z.vv, tr_bl, b_len, b_isi, b_all, b_sum, b_str, c_eq, c_ne, c_in, c_ni, c_lt, c_le, c_is, c_isn, c_isN, c_isnN, c_isI, c_isL, c_isR, o_add, o_sub, q_bl, q_int, q_str, q_NN, is_str, e1, g_fig, c']
theorem small {k : Nat} {h : Hh} {s : Str} (l : s.length ≤ 1000) (a : Asc s) : C (k + 1) "_law_small" [.str s] h = some (.ok (.bl (wordB s)), h) := by
  rw [call_eq t10 rfl]
  have e3 : ∀ x ∈ strItems s, lcEl (C k) (.var 1) (.nm 1) (.yes (.cmp .NotIn (.var 1) (.str "abcdefghijklmnopqrstuvwxyz"))) [1] [some (.str s), none] x h = some (.ok (match x with | .str y => if y.cps.toList.all low then none else some (.str y) | _ => none), h) := by
    intro x m
    obtain ⟨c, -, rfl⟩ := List.mem_map.mp m
    have e : inD h (.str ⟨#[c]⟩) (.str "abcdefghijklmnopqrstuvwxyz") = some (low c) := by
      refine in_str1.trans ?_
      rw [show ("abcdefghijklmnopqrstuvwxyz" : Str) = alpha from rfl, in_alpha]
    unfold lcEl
    cases q : low c <;> simp [q, evB, evS, ev.eq_1, ev.eq_2, ev.eq_3, ev.eq_4, ev.eq_5, ev.eq_6, ev.eq_7, ev.eq_8, ev.eq_9, ev.eq_10, ev.eq_11, ev.eq_12, ev.eq_13, ev.eq_14, ev.eq_15, ev.eq_16, ev.eq_17, ev.eq_18, ev.eq_19, ev.eq_20, ev.eq_21, ev.eq_22, ev.eq_23, ev.eq_24, ev.eq_25, ev.eq_26, ev.eq_27, ev.eq_28, ev.eq_29, ev.eq_31, ev.eq_32, evA, evO, evC, evI, vt, tv, bd_ok, bs_ok, bq_nx, bq_rt, pu_ok, re_nx, re_rt, ma_bl, ma_int, ma_str, ma_non, ma_ty, ma_ref, ma_tup, ma_frl, ma_lst, fix_bl, fix_int, fix_str, fix_non, getS, Z.evE, Z.evT, Z.vv, tr_bl, b_len, b_isi, b_all, b_sum, b_str, c_eq, c_ne, c_in, c_ni, c_lt, c_le, c_is, c_isn, c_isN, c_isnN, c_isI, c_isL, c_isR, o_add, o_sub, q_bl, q_int, q_str, q_NN, e, bindT, wipeS]
  have e4 := lcGo_map _ (strItems s) e3
  have e5 : (strItems s).filterMap (fun x => match x with | .str y => if y.cps.toList.all low then none else some (D.str y) | _ => none) = ((s.cps.toList.filter fun c => !low c).map fun c => (⟨#[c]⟩ : Str)).map D.str := by
    unfold strItems
    rw [List.filterMap_map]
    generalize s.cps.toList = cs
    induction cs with
    | nil => rfl
    | cons c cs ih => cases q : low c <;> simp [q] at ih ⊢ <;> exact ih
  rw [e5] at e4
  have e6 := ev_lc (Φ := C k) (it := .sq (.var 0)) (S := [some (.str s), none]) (h := h) (h1 := h) (st := []) (by simp [evB, evS, ev.eq_1, ev.eq_2, ev.eq_3, ev.eq_4, ev.eq_5, ev.eq_6, ev.eq_7, ev.eq_8, ev.eq_9, ev.eq_10, ev.eq_11, ev.eq_12, ev.eq_13, ev.eq_14, ev.eq_15, ev.eq_16, ev.eq_17, ev.eq_18, ev.eq_19, ev.eq_20, ev.eq_21, ev.eq_22, ev.eq_23, ev.eq_24, ev.eq_25, ev.eq_26, ev.eq_27, ev.eq_28, ev.eq_29, ev.eq_31, ev.eq_32, evA, evO, evC, evI, vt, tv, bd_ok, bs_ok, bq_nx, bq_rt, pu_ok, re_nx, re_rt, ma_bl, ma_int, ma_str, ma_non, ma_ty, ma_ref, ma_tup, ma_frl, ma_lst, fix_bl, fix_int, fix_str, fix_non, getS, Z.evE, Z.evT, Z.vv, tr_bl, b_len, b_isi, b_all, b_sum, b_str, c_eq, c_ne, c_in, c_ni, c_lt, c_le, c_is, c_isn, c_isN, c_isnN, c_isI, c_isL, c_isR, o_add, o_sub, q_bl, q_int, q_str, q_NN]) (by rw [strItems_len]; exact len_ok l) e4
  have e7 : eqD h (.lst (((s.cps.toList.filter fun c => !low c).map fun c => (⟨#[c]⟩ : Str)).map D.str)) (.lst []) = some (s.cps.toList.all low) := by
    rw [eqD_ls (xs := (s.cps.toList.filter fun c => !low c).map fun c => (⟨#[c]⟩ : Str)) (ys := []) rfl rfl ?_ (by simp) ?_ (by simp)]
    · congr 1
      rw [Bool.eq_iff_iff]
      simp only [decide_eq_true_eq, List.map_eq_nil_iff, List.filter_eq_nil_iff, List.all_eq_true, Bool.not_eq_true', Bool.not_eq_false]
    · rw [List.length_map]
      refine Nat.le_trans (List.length_filter_le _ _) ?_
      have l' : s.cps.toList.length ≤ 1000 := by simpa [Str.length] using l
      exact Nat.le_trans l' (by decide)
    · intro x m
      obtain ⟨c, hc, rfl⟩ := List.mem_map.mp m
      intro d hd
      have : d = c := by simpa using hd
      subst this
      exact a _ (List.mem_filter.mp hc).1
  rw [List.map_map] at e6 e7
  have w : wordB s = (s.cps.toList.all low && (decide (1 ≤ s.length) && decide (s.length ≤ 8))) := by
    unfold wordB
    rw [Bool.and_comm]
  rw [w]
  cases q : s.cps.toList.all low with
  | false => simp [b10, evB, evS, ev.eq_1, ev.eq_2, ev.eq_3, ev.eq_4, ev.eq_5, ev.eq_6, ev.eq_7, ev.eq_8, ev.eq_9, ev.eq_10, ev.eq_11, ev.eq_12, ev.eq_13, ev.eq_14, ev.eq_15, ev.eq_16, ev.eq_17, ev.eq_18, ev.eq_19, ev.eq_20, ev.eq_21, ev.eq_22, ev.eq_23, ev.eq_24, ev.eq_25, ev.eq_26, ev.eq_27, ev.eq_28, ev.eq_29, ev.eq_31, ev.eq_32, evA, evO, evC, evI, vt, tv, bd_ok, bs_ok, bq_nx, bq_rt, pu_ok, re_nx, re_rt, ma_bl, ma_int, ma_str, ma_non, ma_ty, ma_ref, ma_tup, ma_frl, ma_lst, fix_bl, fix_int, fix_str, fix_non, getS, Z.evE, Z.evT, Z.vv, tr_bl, b_len, b_isi, b_all, b_sum, b_str, c_eq, c_ne, c_in, c_ni, c_lt, c_le, c_is, c_isn, c_isN, c_isnN, c_isI, c_isL, c_isR, o_add, o_sub, q_bl, q_int, q_str, q_NN, e6, e7, q, sz]
  | true =>
    by_cases c1 : 1 ≤ s.length
    · have c1' : (1 : Int) ≤ s.length := by omega
      by_cases c2 : s.length ≤ 8
      · have c2' : (s.length : Int) ≤ 8 := by omega
        simp [b10, evB, evS, ev.eq_1, ev.eq_2, ev.eq_3, ev.eq_4, ev.eq_5, ev.eq_6, ev.eq_7, ev.eq_8, ev.eq_9, ev.eq_10, ev.eq_11, ev.eq_12, ev.eq_13, ev.eq_14, ev.eq_15, ev.eq_16, ev.eq_17, ev.eq_18, ev.eq_19, ev.eq_20, ev.eq_21, ev.eq_22, ev.eq_23, ev.eq_24, ev.eq_25, ev.eq_26, ev.eq_27, ev.eq_28, ev.eq_29, ev.eq_31, ev.eq_32, evA, evO, evC, evI, vt, tv, bd_ok, bs_ok, bq_nx, bq_rt, pu_ok, re_nx, re_rt, ma_bl, ma_int, ma_str, ma_non, ma_ty, ma_ref, ma_tup, ma_frl, ma_lst, fix_bl, fix_int, fix_str, fix_non, getS, Z.evE, Z.evT, Z.vv, tr_bl, b_len, b_isi, b_all, b_sum, b_str, c_eq, c_ne, c_in, c_ni, c_lt, c_le, c_is, c_isn, c_isN, c_isnN, c_isI, c_isL, c_isR, o_add, o_sub, q_bl, q_int, q_str, q_NN, e6, e7, q, sz, lenD_str l, c1', c2', c1, c2]
      · have c2' : ¬ (s.length : Int) ≤ 8 := by omega
        simp [b10, evB, evS, ev.eq_1, ev.eq_2, ev.eq_3, ev.eq_4, ev.eq_5, ev.eq_6, ev.eq_7, ev.eq_8, ev.eq_9, ev.eq_10, ev.eq_11, ev.eq_12, ev.eq_13, ev.eq_14, ev.eq_15, ev.eq_16, ev.eq_17, ev.eq_18, ev.eq_19, ev.eq_20, ev.eq_21, ev.eq_22, ev.eq_23, ev.eq_24, ev.eq_25, ev.eq_26, ev.eq_27, ev.eq_28, ev.eq_29, ev.eq_31, ev.eq_32, evA, evO, evC, evI, vt, tv, bd_ok, bs_ok, bq_nx, bq_rt, pu_ok, re_nx, re_rt, ma_bl, ma_int, ma_str, ma_non, ma_ty, ma_ref, ma_tup, ma_frl, ma_lst, fix_bl, fix_int, fix_str, fix_non, getS, Z.evE, Z.evT, Z.vv, tr_bl, b_len, b_isi, b_all, b_sum, b_str, c_eq, c_ne, c_in, c_ni, c_lt, c_le, c_is, c_isn, c_isN, c_isnN, c_isI, c_isL, c_isR, o_add, o_sub, q_bl, q_int, q_str, q_NN, e6, e7, q, sz, lenD_str l, c1', c2', c1, c2]
    · have c1' : ¬ (1 : Int) ≤ s.length := by omega
      simp [b10, evB, evS, ev.eq_1, ev.eq_2, ev.eq_3, ev.eq_4, ev.eq_5, ev.eq_6, ev.eq_7, ev.eq_8, ev.eq_9, ev.eq_10, ev.eq_11, ev.eq_12, ev.eq_13, ev.eq_14, ev.eq_15, ev.eq_16, ev.eq_17, ev.eq_18, ev.eq_19, ev.eq_20, ev.eq_21, ev.eq_22, ev.eq_23, ev.eq_24, ev.eq_25, ev.eq_26, ev.eq_27, ev.eq_28, ev.eq_29, ev.eq_31, ev.eq_32, evA, evO, evC, evI, vt, tv, bd_ok, bs_ok, bq_nx, bq_rt, pu_ok, re_nx, re_rt, ma_bl, ma_int, ma_str, ma_non, ma_ty, ma_ref, ma_tup, ma_frl, ma_lst, fix_bl, fix_int, fix_str, fix_non, getS, Z.evE, Z.evT, Z.vv, tr_bl, b_len, b_isi, b_all, b_sum, b_str, c_eq, c_ne, c_in, c_ni, c_lt, c_le, c_is, c_isn, c_isN, c_isnN, c_isI, c_isL, c_isR, o_add, o_sub, q_bl, q_int, q_str, q_NN, e6, e7, q, sz, lenD_str l, c1', c1]
end K1

namespace K1
open PySem L2 Z
theorem str_lt {n : Nat} (h : n < 10) : Str.ofString (toString ((n : Nat) : Int)) = ⟨#[48 + n]⟩ := by
  refine TL.ext_tl ?_
  rw [TL.tl_num, TL.numL_lt h]
theorem strD_lt {n : Nat} (h : n < 10) : strD [.int (n : Nat)] = some (.str ⟨#[48 + n]⟩) := by
  rw [← str_lt h]
  refine if_pos ?_
  have : ((n : Int)).natAbs = n := by omega
  rw [this]
  have : n.log2 ≤ n := Nat.log2_le_self n
  omega
def dueG (s : Str) (n : Nat) : Option Int := if s = ⟨#[48 + n]⟩ then some (n : Nat) else none
def due (s : Str) : List Int := (List.range 10).filterMap (dueG s)
theorem due_yes : ∀ n, n < 10 → due ⟨#[48 + n]⟩ = [(n : Int)] := by
  intro n hn
  match n, hn with
  | 0, _ => decide +kernel
  | 1, _ => decide +kernel
  | 2, _ => decide +kernel
  | 3, _ => decide +kernel
  | 4, _ => decide +kernel
  | 5, _ => decide +kernel
  | 6, _ => decide +kernel
  | 7, _ => decide +kernel
  | 8, _ => decide +kernel
  | 9, _ => decide +kernel
theorem due_no {s : Str} (no : ∀ k, k < 10 → s ≠ ⟨#[48 + k]⟩) : due s = [] := by
  unfold due
  rw [List.filterMap_eq_nil_iff]
  intro n hn
  exact if_neg (no n (List.mem_range.mp hn))
theorem due_lc {k : Nat} {h : Hh} {s : Str} {r d f : Option D} : (ev glob (C k) (.lc (.var 4) (.nm 4) (.r1 (.int 10)) (.yes (.cmp .Eq (.var 0) (.bl1 .str (.var 4)))) [4])).v [some (.str s), r, d, f, none] h = some (.ok (.lst ((due s).map D.int)), h) := by
  have e3 : ∀ x ∈ rngItems 0 10, lcEl (C k) (.var 4) (.nm 4) (.yes (.cmp .Eq (.var 0) (.bl1 .str (.var 4)))) [4] [some (.str s), r, d, f, none] x h = some (.ok (match x with | .int i => (dueG s i.toNat).map D.int | _ => none), h) := by
    intro x m
    obtain ⟨n, hn, rfl⟩ := List.mem_map.mp m
    have hn' := List.mem_range.mp hn
    have z : (0 : Int) + (n : Nat) = (n : Nat) := by omega
    rw [z]
    unfold lcEl
    by_cases q : s = ⟨#[48 + n]⟩
    · subst q
      have q' : dueG ⟨#[48 + n]⟩ n = some ((n : Nat) : Int) := if_pos rfl
      simp [evB, evS, ev.eq_1, ev.eq_2, ev.eq_3, ev.eq_4, ev.eq_5, ev.eq_6, ev.eq_7, ev.eq_8, ev.eq_9, ev.eq_10, ev.eq_11, ev.eq_12, ev.eq_13, ev.eq_14, ev.eq_15, ev.eq_16, ev.eq_17, ev.eq_18, ev.eq_19, ev.eq_20, ev.eq_21, ev.eq_22, ev.eq_23, ev.eq_24, ev.eq_25, ev.eq_26, ev.eq_27, ev.eq_28, ev.eq_29, ev.eq_31, ev.eq_32, evA, evO, evC, evI, vt, tv, bd_ok, bs_ok, bq_nx, bq_rt, pu_ok, re_nx, re_rt, ma_bl, ma_int, ma_str, ma_non, ma_ty, ma_ref, ma_tup, ma_frl, ma_lst, fix_bl, fix_int, fix_str, fix_non, getS, Z.evE, Z.evT, Z.vv, tr_bl, b_len, b_isi, b_all, b_sum, b_str, c_eq, c_ne, c_in, c_ni, c_lt, c_le, c_is, c_isn, c_isN, c_isnN, c_isI, c_isL, c_isR, o_add, o_sub, q_bl, q_int, q_str, q_NN, strD_lt hn', bindT, wipeS, q']
    · have q' : dueG s n = none := if_neg q
      simp [evB, evS, ev.eq_1, ev.eq_2, ev.eq_3, ev.eq_4, ev.eq_5, ev.eq_6, ev.eq_7, ev.eq_8, ev.eq_9, ev.eq_10, ev.eq_11, ev.eq_12, ev.eq_13, ev.eq_14, ev.eq_15, ev.eq_16, ev.eq_17, ev.eq_18, ev.eq_19, ev.eq_20, ev.eq_21, ev.eq_22, ev.eq_23, ev.eq_24, ev.eq_25, ev.eq_26, ev.eq_27, ev.eq_28, ev.eq_29, ev.eq_31, ev.eq_32, evA, evO, evC, evI, vt, tv, bd_ok, bs_ok, bq_nx, bq_rt, pu_ok, re_nx, re_rt, ma_bl, ma_int, ma_str, ma_non, ma_ty, ma_ref, ma_tup, ma_frl, ma_lst, fix_bl, fix_int, fix_str, fix_non, getS, Z.evE, Z.evT, Z.vv, tr_bl, b_len, b_isi, b_all, b_sum, b_str, c_eq, c_ne, c_in, c_ni, c_lt, c_le, c_is, c_isn, c_isN, c_isnN, c_isI, c_isL, c_isR, o_add, o_sub, q_bl, q_int, q_str, q_NN, strD_lt hn', bindT, wipeS, q, q']
  have e4 := lcGo_map _ (rngItems 0 10) e3
  have e5 : (rngItems 0 10).filterMap (fun x => match x with | .int i => (dueG s i.toNat).map D.int | _ => none) = (due s).map D.int := by
    unfold due rngItems
    rw [List.filterMap_map, List.map_filterMap]
    congr 1
    funext n
    have : ((0 : Int) + (n : Nat)).toNat = n := by omega
    simp [this]
  rw [e5] at e4
  exact ev_lc (by simp [evB, evS, ev.eq_1, ev.eq_2, ev.eq_3, ev.eq_4, ev.eq_5, ev.eq_6, ev.eq_7, ev.eq_8, ev.eq_9, ev.eq_10, ev.eq_11, ev.eq_12, ev.eq_13, ev.eq_14, ev.eq_15, ev.eq_16, ev.eq_17, ev.eq_18, ev.eq_19, ev.eq_20, ev.eq_21, ev.eq_22, ev.eq_23, ev.eq_24, ev.eq_25, ev.eq_26, ev.eq_27, ev.eq_28, ev.eq_29, ev.eq_31, ev.eq_32, evA, evO, evC, evI, vt, tv, bd_ok, bs_ok, bq_nx, bq_rt, pu_ok, re_nx, re_rt, ma_bl, ma_int, ma_str, ma_non, ma_ty, ma_ref, ma_tup, ma_frl, ma_lst, fix_bl, fix_int, fix_str, fix_non, getS, Z.evE, Z.evT, Z.vv, tr_bl, b_len, b_isi, b_all, b_sum, b_str, c_eq, c_ne, c_in, c_ni, c_lt, c_le, c_is, c_isn, c_isN, c_isnN, c_isI, c_isL, c_isR, o_add, o_sub, q_bl, q_int, q_str, q_NN]) (by simp [rngItems]; decide) e4
theorem toPy_ref {h : Hh} {n : Nat} {ys : List D} (e : h[n]? = some (.lst ys)) : toPy h 100000 (.ref n) = (toPyL h 99999 ys).map PyData.list := by
  show (match h[n]? with | some (.lst xs) => (toPyL h 99999 xs).map PyData.list | _ => none) = _
  rw [e]
theorem one {k : Nat} {h : Hh} {s : Str} (l : s.length ≤ 1000) (a : Asc s) : ∃ h2, C (k + 3) "_law_one" [.str s] h = some (.ok (.bl true), h2) ∧ fix h (.bl true) h2 = some (.ok (.bl true), h) := by
  refine ⟨h ++ [.lst ((due s).map D.int)], ?_, fix_app rfl (fun _ q => by cases q)⟩
  rw [call_eq t11 rfl]
  obtain ⟨hr, r1, r2⟩ := reserved (k := k + 1) (h := h)
  have e1 : inD h (.str s) (.lst (lRes.map D.str)) = some (decide (s ∈ lRes)) := inD_strs rfl
  rcases fig_or s with ⟨n, hn, rfl⟩ | no
  · have e2 := fun b => due_lc (k := k + 2) (h := h) (s := ⟨#[48 + n]⟩) (r := some (.bl b)) (d := none) (f := none)
    rw [due_yes n hn] at e2 ⊢
    simp only [List.map_cons, List.map_nil] at e2 ⊢
    have e3 := digit_yes (k := k + 1) (h := h ++ [.lst [.int n]]) hn
    have e4 : eqD (h ++ [.lst [.int n]]) (.ref h.length) (.lst []) = some false := by
      have p : toPy (h ++ [.lst [.int n]]) 100000 (.ref h.length) = some (.list [.int n]) := toPy_ref (ys := [.int n]) (by rw [List.getElem?_append_right (Nat.le_refl _), Nat.sub_self]; rfl)
      show (match toPy (h ++ [.lst [.int n]]) 100000 (.ref h.length), toPy (h ++ [.lst [.int n]]) 100000 (.lst []) with
        | some a, some b => if SeqAt.shaped a = true ∧ SeqAt.shaped b = true then some (PyData.eqv a b) else none
        | _, _ => none) = _
      rw [p]
      rfl
    have e5 : ixD (h ++ [.lst [.int n]]) (.ref h.length) (.int 0) = some (.int n) := by
      simp [ixD, sqD, lsD]
      rfl
    have e6 : isinD (h ++ [.lst [.int n]]) [.int n, .ty "bool"] = some (.bl false) := rfl
    cases w : wordB ⟨#[48 + n]⟩ <;> by_cases m : (⟨#[48 + n]⟩ : Str) ∈ lRes <;> simp [b11, evB, evS, ev.eq_1, ev.eq_2, ev.eq_3, ev.eq_4, ev.eq_5, ev.eq_6, ev.eq_7, ev.eq_8, ev.eq_9, ev.eq_10, ev.eq_11, ev.eq_12, ev.eq_13, ev.eq_14, ev.eq_15, ev.eq_16, ev.eq_17, ev.eq_18, ev.eq_19, ev.eq_20, ev.eq_21, ev.eq_22, ev.eq_23, ev.eq_24, ev.eq_25, ev.eq_26, ev.eq_27, ev.eq_28, ev.eq_29, ev.eq_31, ev.eq_32, evA, evO, evC, evI, vt, tv, bd_ok, bs_ok, bq_nx, bq_rt, pu_ok, re_nx, re_rt, ma_bl, ma_int, ma_str, ma_non, ma_ty, ma_ref, ma_tup, ma_frl, ma_lst, fix_bl, fix_int, fix_str, fix_non, getS, Z.evE, Z.evT, Z.vv, tr_bl, b_len, b_isi, b_all, b_sum, b_str, c_eq, c_ne, c_in, c_ni, c_lt, c_le, c_is, c_isn, c_isN, c_isnN, c_isI, c_isL, c_isR, o_add, o_sub, q_bl, q_int, q_str, q_NN, is_word l, small l a, r1, r2, e1, is_reserved, is_name l, w, m, e2, e3, e4, e5, e6]
  · have e2 := fun b => due_lc (k := k + 2) (h := h) (s := s) (r := some (.bl b)) (d := none) (f := none)
    rw [due_no no] at e2 ⊢
    simp only [List.map_nil] at e2 ⊢
    have e3 := digit_no (k := k + 1) (h := h ++ [.lst []]) l no
    have e4 : eqD (h ++ [.lst []]) (.ref h.length) (.lst []) = some true := by
      have p : toPy (h ++ [.lst []]) 100000 (.ref h.length) = some (.list []) := toPy_ref (ys := []) (by rw [List.getElem?_append_right (Nat.le_refl _), Nat.sub_self]; rfl)
      show (match toPy (h ++ [.lst []]) 100000 (.ref h.length), toPy (h ++ [.lst []]) 100000 (.lst []) with
        | some a, some b => if SeqAt.shaped a = true ∧ SeqAt.shaped b = true then some (PyData.eqv a b) else none
        | _, _ => none) = _
      rw [p]
      rfl
    cases w : wordB s <;> by_cases m : s ∈ lRes <;> simp [b11, evB, evS, ev.eq_1, ev.eq_2, ev.eq_3, ev.eq_4, ev.eq_5, ev.eq_6, ev.eq_7, ev.eq_8, ev.eq_9, ev.eq_10, ev.eq_11, ev.eq_12, ev.eq_13, ev.eq_14, ev.eq_15, ev.eq_16, ev.eq_17, ev.eq_18, ev.eq_19, ev.eq_20, ev.eq_21, ev.eq_22, ev.eq_23, ev.eq_24, ev.eq_25, ev.eq_26, ev.eq_27, ev.eq_28, ev.eq_29, ev.eq_31, ev.eq_32, evA, evO, evC, evI, vt, tv, bd_ok, bs_ok, bq_nx, bq_rt, pu_ok, re_nx, re_rt, ma_bl, ma_int, ma_str, ma_non, ma_ty, ma_ref, ma_tup, ma_frl, ma_lst, fix_bl, fix_int, fix_str, fix_non, getS, Z.evE, Z.evT, Z.vv, tr_bl, b_len, b_isi, b_all, b_sum, b_str, c_eq, c_ne, c_in, c_ni, c_lt, c_le, c_is, c_isn, c_isN, c_isnN, c_isI, c_isL, c_isR, o_add, o_sub, q_bl, q_int, q_str, q_NN, is_word l, small l a, r1, r2, e1, is_reserved, is_name l, w, m, e2, e3, e4]
end K1

namespace K1
open PySem L2 Z
theorem len_l (s : Str) : s.length = s.cps.toList.length := by simp [Str.length]
theorem app_l (a b : Str) : (a ++ b).cps.toList = a.cps.toList ++ b.cps.toList := TL.tl_append a b
theorem app_len (a b : Str) : (a ++ b).length = a.length + b.length := by rw [len_l, app_l, List.length_append, ← len_l, ← len_l]
theorem Asc.app {a b : Str} (ha : Asc a) (hb : Asc b) : Asc (a ++ b) := fun c m => by
  rw [app_l, List.mem_append] at m
  exact m.elim (ha c) (hb c)
theorem cut_l (z : Str) (lo hi : Option Int) : (cutS z lo hi).cps.toList = (z.cps.toList.drop (HT.sIx z.length 0 lo)).take (HT.sIx z.length z.length hi - HT.sIx z.length 0 lo) := rfl
theorem cut_mem {z : Str} {lo hi : Option Int} {c : Nat} (m : c ∈ (cutS z lo hi).cps.toList) : c ∈ z.cps.toList := by
  rw [cut_l] at m
  exact List.mem_of_mem_drop (List.mem_of_mem_take m)
theorem cut_len (z : Str) (lo hi : Option Int) : (cutS z lo hi).length ≤ z.length := by
  rw [len_l, len_l, cut_l, List.length_take, List.length_drop]
  omega
theorem Asc.cut {z : Str} {lo hi : Option Int} (h : Asc z) : Asc (cutS z lo hi) := fun c m => h c (cut_mem m)
theorem joinL_mem {S : List Nat} {c : Nat} : ∀ {l : List (List Nat)}, c ∈ TL.joinL S l → c ∈ S ∨ ∃ p ∈ l, c ∈ p
  | [], m => by simp [TL.joinL] at m
  | [p], m => .inr ⟨p, List.mem_cons_self .., m⟩
  | p :: q :: r, m => by
    rw [TL.joinL, List.mem_append, List.mem_append] at m
    rcases m with m | m | m
    · exact .inr ⟨p, List.mem_cons_self .., m⟩
    · exact .inl m
    · rcases joinL_mem m with h | ⟨x, h1, h2⟩
      · exact .inl h
      · exact .inr ⟨x, List.mem_cons_of_mem _ h1, h2⟩
theorem Asc.join {y : Str} {ws : List Str} (hy : Asc y) (h : ∀ w ∈ ws, Asc w) : Asc (Txt.join y ws) := fun c m => by
  rw [TL.join_eq] at m
  have m' : c ∈ TL.tl (Str.join y ws) := m
  rw [TL.tl_join] at m'
  rcases joinL_mem m' with q | ⟨p, q1, q2⟩
  · exact hy c q
  · obtain ⟨w, hw, rfl⟩ := List.mem_map.mp q1
    exact h w hw c q2
theorem join_len (y : Str) (ws : List Str) : (Txt.join y ws).length ≤ (ws.map (·.length)).sum + ws.length * y.length := by
  rw [TL.join_eq]
  exact StrLaws.join_length_le y ws
theorem spl_mem {S : List Nat} {c : Nat} : ∀ {l : List Nat} {k : Nat} {acc p : List Nat}, p ∈ TL.spl S k acc l → c ∈ p → c ∈ acc ∨ c ∈ l
  | [], k, acc, p, m, h => by
    rw [TL.spl_nil] at m
    rw [List.mem_singleton.mp m] at h
    exact .inl h
  | d :: r, 0, acc, p, m, h => by
    cases q : TL.pre S (d :: r) with
    | true =>
      rw [TL.spl_hit q] at m
      rcases List.mem_cons.mp m with rfl | m
      · exact .inl h
      · exact (spl_mem m h).elim (fun z => by simp at z) (fun z => .inr (List.mem_cons_of_mem _ z))
    | false =>
      rw [TL.spl_miss q] at m
      rcases spl_mem m h with z | z
      · rcases List.mem_append.mp z with z | z
        · exact .inl z
        · exact .inr (List.mem_singleton.mp z ▸ List.mem_cons_self ..)
      · exact .inr (List.mem_cons_of_mem _ z)
  | d :: r, k + 1, acc, p, m, h => (spl_mem (k := k) m h).elim .inl fun z => .inr (List.mem_cons_of_mem _ z)
theorem spl_len {S : List Nat} : ∀ {l : List Nat} {k : Nat} {acc : List Nat}, (TL.spl S k acc l).length ≤ l.length + 1
  | [], k, acc => by rw [TL.spl_nil]; simp
  | d :: r, 0, acc => by
    cases q : TL.pre S (d :: r) with
    | true =>
      rw [TL.spl_hit q, List.length_cons, List.length_cons]
      exact Nat.succ_le_succ spl_len
    | false =>
      rw [TL.spl_miss q, List.length_cons]
      exact Nat.le_succ_of_le spl_len
  | d :: r, k + 1, acc => by
    rw [List.length_cons]
    exact Nat.le_succ_of_le (spl_len (k := k))
def sp : Str := " "
theorem sp_l : sp.cps.toList = [32] := by decide +kernel
theorem sp_asc : Asc sp := fun c m => by
  rw [sp_l] at m
  rw [List.mem_singleton.mp m]
  decide
theorem split_map (x : Str) : (Txt.split x sp).map TL.tl = TL.spl [32] 0 [] (TL.tl x) := by
  have e : TL.tl sp = [32] := sp_l
  rw [TL.split_spl x sp (by rw [e]; simp) (TL.kind_ok (by decide +kernel)), e]
theorem split_asc {x : Str} (h : Asc x) : ∀ p ∈ Txt.split x sp, Asc p := fun p m c hc => by
  have : TL.tl p ∈ TL.spl [32] 0 [] (TL.tl x) := by
    rw [← split_map]
    exact List.mem_map_of_mem m
  exact (spl_mem this hc).elim (fun z => by simp at z) (h c)
theorem split_len (x : Str) : (Txt.split x sp).length ≤ x.length + 1 := by
  have := congrArg List.length (split_map x)
  rw [List.length_map] at this
  rw [this, len_l]
  exact spl_len
theorem split_join {ws : List Str} (hne : ws ≠ []) (h : ∀ w ∈ ws, 32 ∉ w.cps.toList) : Txt.split (Txt.join sp ws) sp = ws :=
  TL.split_join (s := 32) (S := []) sp_l (by decide +kernel) hne h
theorem repl_filter : ∀ l : List Nat, StrLaws.replL [32] [] l = l.filter (· != 32)
  | [] => by rw [StrLaws.replL_nil]; rfl
  | c :: r => by
    by_cases q : c = 32
    · subst q
      rw [StrLaws.replL_hit (by simp) rfl]
      show [] ++ StrLaws.replL [32] [] r = _
      rw [repl_filter r]
      rfl
    · rw [StrLaws.replL_miss (by simp [q]), repl_filter r, List.filter_cons_of_pos (by simp [q])]
theorem replace_l (w : Str) : (Txt.replace w sp "").cps.toList = w.cps.toList.filter (· != 32) := by
  have e : ("" : Str).cps.toList = [] := by decide +kernel
  rw [StrLaws.replace_list (by decide +kernel), sp_l, e, repl_filter]
theorem replace_len (w : Str) : (Txt.replace w sp "").length ≤ w.length := by
  rw [len_l, len_l, replace_l]
  exact List.length_filter_le _ _
/-- one sign of a text -/
theorem ix_str {h : Hh} {z : Str} {i : Int} (l : z.length ≤ 1000) (i0 : 0 ≤ i) (i1 : i < z.length) : ∃ c ∈ z.cps.toList, ixD h (.str z) (.int i) = some (.str ⟨#[c]⟩) := by
  have q : i.toNat < z.cps.toList.length := by rw [← len_l]; omega
  refine ⟨z.cps.toList[i.toNat], List.getElem_mem q, ?_⟩
  have e : atI z.cps.toList i = some z.cps.toList[i.toNat] := by
    unfold atI ixN
    rw [if_pos i0, if_pos (by rw [← len_l]; exact i1)]
    exact List.getElem?_eq_getElem q
  show (if z.length ≤ sizeLine then (atI z.cps.toList i).map fun c => D.str ⟨#[c]⟩ else none) = _
  rw [if_pos (len_ok l), e]
  rfl
theorem ix_strs {h : Hh} {l : List Str} {i : Int} (i0 : 0 ≤ i) (i1 : i < l.length) : ∃ s ∈ l, ixD h (.lst (l.map D.str)) (.int i) = some (.str s) := by
  have q : i.toNat < l.length := by omega
  refine ⟨l[i.toNat], List.getElem_mem q, ?_⟩
  show atI (l.map D.str) i = _
  unfold atI ixN
  rw [if_pos i0, if_pos (by rw [List.length_map]; exact i1)]
  show (l.map D.str)[i.toNat]? = _
  rw [List.getElem?_map, List.getElem?_eq_getElem q]
  rfl
def odd : Str := "A0- {.`"
theorem alpha_asc : Asc alpha := fun c m => by
  have := in_alpha c
  rw [decide_eq_true m] at this
  simp [low] at this
  omega
theorem odd_asc : Asc odd := by
  have : (odd.cps.toList.all fun c => decide (c < 128)) = true := by decide +kernel
  exact fun c m => of_decide_eq_true (List.all_eq_true.mp this c m)
theorem asc1 {c : Nat} (h : c < 128) : Asc ⟨#[c]⟩ := fun d m => by
  have : d = c := by simpa using m
  omega
theorem sum_ones : ∀ l : List Str, (∀ w ∈ l, w.length = 1) → (l.map (·.length)).sum = l.length
  | [], _ => rfl
  | a :: l, h => by
    rw [List.map_cons, List.sum_cons, sum_ones l (fun w m => h w (List.mem_cons_of_mem _ m)), h a (List.mem_cons_self ..), List.length_cons]
    omega
/-- a comprehension that makes texts -/
theorem lc_strs {f : D → Hh → M (Option D)} {h : Hh} {R : Str → Prop} : ∀ items : List D, (∀ x ∈ items, ∃ s, R s ∧ f x h = some (.ok (some (.str s)), h)) → ∃ ss : List Str, (∀ s ∈ ss, R s) ∧ ss.length = items.length ∧ lcGo [] f items h = some (ss.map D.str, h)
  | [], _ => ⟨[], by simp, rfl, by simp [lcGo, stayB]⟩
  | x :: xs, e => by
    obtain ⟨ss, h1, h2, h3⟩ := lc_strs xs (fun y m => e y (List.mem_cons_of_mem _ m))
    obtain ⟨s, r, q⟩ := e x (List.mem_cons_self ..)
    refine ⟨s :: ss, fun z m => ?_, by simp [h2], ?_⟩
    · rcases List.mem_cons.mp m with rfl | m
      · exact r
      · exact h1 z m
    · rw [lcGo]
      simp only [stayB, if_true, q, h3]
      rfl
theorem written {k : Nat} {h : Hh} {n : Int} (n0 : 0 ≤ n) : ∃ w : Str, w.length ≤ 30 ∧ Asc w ∧ C (k + 2) "_law_written" [.int n] h = some (.ok (.str w), h) := by
  have m0 : 0 ≤ n % 11 := Int.emod_nonneg _ (by decide)
  have m1 : n % 11 < 11 := Int.emod_lt_of_pos _ (by decide)
  have e3 : ∀ x ∈ rngItems 0 (n % 11).toNat, ∃ s : Str, (s.length = 1 ∧ Asc s) ∧ lcEl (C (k + 1)) (.ix (.var 1) (.bin .Mod (.call "_law_mixed" (.cons false (.var 0) (.cons false (.var 4) .nil))) (.int 26))) (.nm 4) .no [4] [some (.int n), some (.str alpha), none, none, none] x h = some (.ok (some (.str s)), h) := by
    intro x m
    obtain ⟨j, hj, rfl⟩ := List.mem_map.mp m
    have hj' := List.mem_range.mp hj
    obtain ⟨v, v0, v1, em⟩ := mixed (k := k) (h := h) (a := n) (b := 0 + (j : Nat)) (by omega) (by omega)
    obtain ⟨c, mc, ec⟩ := ix_str (h := h) (z := alpha) (i := v % 26) (by decide +kernel) (Int.emod_nonneg _ (by decide)) (by
      have : alpha.length = 26 := by decide +kernel
      rw [this]
      exact Int.emod_lt_of_pos _ (by decide))
    refine ⟨⟨#[c]⟩, ⟨rfl, asc1 (alpha_asc c mc)⟩, ?_⟩
    unfold lcEl
    simp only [Int.zero_add] at em
    simp [evB, evS, ev.eq_1, ev.eq_2, ev.eq_3, ev.eq_4, ev.eq_5, ev.eq_6, ev.eq_7, ev.eq_8, ev.eq_9, ev.eq_10, ev.eq_11, ev.eq_12, ev.eq_13, ev.eq_14, ev.eq_15, ev.eq_16, ev.eq_17, ev.eq_18, ev.eq_19, ev.eq_20, ev.eq_21, ev.eq_22, ev.eq_23, ev.eq_24, ev.eq_25, ev.eq_26, ev.eq_27, ev.eq_28, ev.eq_29, ev.eq_31, ev.eq_32, evA, evO, evC, evI, vt, tv, bd_ok, bs_ok, bq_nx, bq_rt, pu_ok, re_nx, re_rt, ma_bl, ma_int, ma_str, ma_non, ma_ty, ma_ref, ma_tup, ma_frl, ma_lst, fix_bl, fix_int, fix_str, fix_non, getS, Z.evE, Z.evT, Z.vv, tr_bl, b_len, b_isi, b_all, b_sum, b_str, c_eq, c_ne, c_in, c_ni, c_lt, c_le, c_is, c_isn, c_isN, c_isnN, c_isI, c_isL, c_isR, o_add, o_sub, q_bl, q_int, q_str, q_NN, bindT, wipeS, em, o_mod, ec]
  obtain ⟨ss, hs, hl, eg⟩ := lc_strs _ e3
  have hl' : ss.length ≤ 11 := by
    rw [hl]
    simp [rngItems]
    omega
  have e6 := ev_lc (Φ := C (k + 1)) (it := .r1 (.bin .Mod (.var 0) (.int 11))) (S := [some (.int n), some (.str alpha), none, none, none]) (h := h) (h1 := h) (st := []) (xs := rngItems 0 (n % 11).toNat) (by
    simp [evB, evS, ev.eq_1, ev.eq_2, ev.eq_3, ev.eq_4, ev.eq_5, ev.eq_6, ev.eq_7, ev.eq_8, ev.eq_9, ev.eq_10, ev.eq_11, ev.eq_12, ev.eq_13, ev.eq_14, ev.eq_15, ev.eq_16, ev.eq_17, ev.eq_18, ev.eq_19, ev.eq_20, ev.eq_21, ev.eq_22, ev.eq_23, ev.eq_24, ev.eq_25, ev.eq_26, ev.eq_27, ev.eq_28, ev.eq_29, ev.eq_31, ev.eq_32, evA, evO, evC, evI, vt, tv, bd_ok, bs_ok, bq_nx, bq_rt, pu_ok, re_nx, re_rt, ma_bl, ma_int, ma_str, ma_non, ma_ty, ma_ref, ma_tup, ma_frl, ma_lst, fix_bl, fix_int, fix_str, fix_non, getS, Z.evE, Z.evT, Z.vv, tr_bl, b_len, b_isi, b_all, b_sum, b_str, c_eq, c_ne, c_in, c_ni, c_lt, c_le, c_is, c_isn, c_isN, c_isnN, c_isI, c_isL, c_isR, o_add, o_sub, q_bl, q_int, q_str, q_NN, o_mod]
    exact ⟨by omega, by omega⟩) (sz (by simp [rngItems]; omega)) eg
  have ee : ("" : Str).length = 0 := by decide +kernel
  have sl : (ss.map (·.length)).sum = ss.length := sum_ones _ fun w m => (hs w m).1
  have e7 : mthD h "" .join (.lst (ss.map D.str)) = some (.str (Txt.join "" ss)) := by
    show (match strsD (ss.map D.str) with | some ys => if (ys.map fun y : Str => y.length).sum + ys.length * ("" : Str).length ≤ 16777216 then some (D.str (Txt.join "" ys)) else none | none => none) = _
    rw [strsD_map]
    refine if_pos ?_
    rw [sl, ee]
    omega
  have jl : (Txt.join "" ss).length ≤ 11 := by
    have := join_len "" ss
    rw [sl, ee] at this
    omega
  have ja : Asc (Txt.join "" ss) := Asc.join (fun c m => by
    have : ("" : Str).cps.toList = [] := by decide +kernel
    rw [this] at m
    cases m) fun w m => (hs w m).2
  generalize Txt.join "" ss = w at e7 jl ja
  by_cases c : n / 11 % 4 = 0
  · have d0 : 0 < ((w.length : Int) + 1) := by omega
    have at0 : 0 ≤ n / 44 % ((w.length : Int) + 1) := Int.emod_nonneg _ (by omega)
    obtain ⟨q, mq, eq⟩ := ix_str (h := h) (z := odd) (i := n / 500 % 7) (by decide +kernel) (Int.emod_nonneg _ (by decide)) (by
      have : odd.length = 7 := by decide +kernel
      rw [this]
      exact Int.emod_lt_of_pos _ (by decide))
    have l1 := cut_len w none (some (n / 44 % ((w.length : Int) + 1)))
    have l2 := cut_len w (some (n / 44 % ((w.length : Int) + 1))) none
    have s1 : slcD h (.str w) none (some (n / 44 % ((w.length : Int) + 1))) = some (.str (cutS w none (some (n / 44 % ((w.length : Int) + 1))))) := if_pos (len_ok (by omega))
    have s2 : slcD h (.str w) (some (n / 44 % ((w.length : Int) + 1))) none = some (.str (cutS w (some (n / 44 % ((w.length : Int) + 1))) none)) := if_pos (len_ok (by omega))
    generalize eat : (n / 44 % ((w.length : Int) + 1)) = at' at *
    have q1 : (⟨#[q]⟩ : Str).length = 1 := rfl
    refine ⟨cutS w none (some at') ++ ⟨#[q]⟩ ++ cutS w (some at') none, ?_, (ja.cut.app (asc1 (odd_asc q mq))).app ja.cut, ?_⟩
    · rw [app_len, app_len, q1]
      omega
    · have o1 : binD h .Add (.str (cutS w none (some at'))) (.str ⟨#[q]⟩) = some (.str (cutS w none (some at') ++ ⟨#[q]⟩)) := o_strs (by rw [q1]; omega)
      have o2 : binD h .Add (.str (cutS w none (some at') ++ ⟨#[q]⟩)) (.str (cutS w (some at') none)) = some (.str (cutS w none (some at') ++ ⟨#[q]⟩ ++ cutS w (some at') none)) := o_strs (by rw [app_len, q1]; omega)
      rw [call_eq t9 rfl]
      have e6' := e6
      simp only [alpha] at e6'
      simp only [odd] at eq
      have lw : lenD h [.str w] = some (.int w.length) := lenD_str (by omega)
      simp [b9, evB, evS, ev.eq_1, ev.eq_2, ev.eq_3, ev.eq_4, ev.eq_5, ev.eq_6, ev.eq_7, ev.eq_8, ev.eq_9, ev.eq_10, ev.eq_11, ev.eq_12, ev.eq_13, ev.eq_14, ev.eq_15, ev.eq_16, ev.eq_17, ev.eq_18, ev.eq_19, ev.eq_20, ev.eq_21, ev.eq_22, ev.eq_23, ev.eq_24, ev.eq_25, ev.eq_26, ev.eq_27, ev.eq_28, ev.eq_29, ev.eq_31, ev.eq_32, evA, evO, evC, evI, vt, tv, bd_ok, bs_ok, bq_nx, bq_rt, pu_ok, re_nx, re_rt, ma_bl, ma_int, ma_str, ma_non, ma_ty, ma_ref, ma_tup, ma_frl, ma_lst, fix_bl, fix_int, fix_str, fix_non, getS, Z.evE, Z.evT, Z.vv, tr_bl, b_len, b_isi, b_all, b_sum, b_str, c_eq, c_ne, c_in, c_ni, c_lt, c_le, c_is, c_isn, c_isN, c_isnN, c_isI, c_isL, c_isR, o_add, o_sub, q_bl, q_int, q_str, q_NN, e6', e7, o_div, o_mod, c, lw, d0, eat, eq, s1, s2, o1, o2]
  · refine ⟨w, by omega, ja, ?_⟩
    rw [call_eq t9 rfl]
    have e6' := e6
    simp only [alpha] at e6'
    simp [b9, evB, evS, ev.eq_1, ev.eq_2, ev.eq_3, ev.eq_4, ev.eq_5, ev.eq_6, ev.eq_7, ev.eq_8, ev.eq_9, ev.eq_10, ev.eq_11, ev.eq_12, ev.eq_13, ev.eq_14, ev.eq_15, ev.eq_16, ev.eq_17, ev.eq_18, ev.eq_19, ev.eq_20, ev.eq_21, ev.eq_22, ev.eq_23, ev.eq_24, ev.eq_25, ev.eq_26, ev.eq_27, ev.eq_28, ev.eq_29, ev.eq_31, ev.eq_32, evA, evO, evC, evI, vt, tv, bd_ok, bs_ok, bq_nx, bq_rt, pu_ok, re_nx, re_rt, ma_bl, ma_int, ma_str, ma_non, ma_ty, ma_ref, ma_tup, ma_frl, ma_lst, fix_bl, fix_int, fix_str, fix_non, getS, Z.evE, Z.evT, Z.vv, tr_bl, b_len, b_isi, b_all, b_sum, b_str, c_eq, c_ne, c_in, c_ni, c_lt, c_le, c_is, c_isn, c_isN, c_isnN, c_isI, c_isL, c_isR, o_add, o_sub, q_bl, q_int, q_str, q_NN, e6', e7, o_div, o_mod, c]
end K1

namespace K1
open PySem L2 Z
theorem foGo_inv {t : Tg} {b : Sl → Hh → BM} (P : Nat → Sl → Hh → Prop) : ∀ (items : List D) (i : Nat) (S : Sl) (h : Hh), (∀ j x S h, items[j]? = some x → P (i + j) S h → ∃ S1 S2 h2, bindT h t x S = some S1 ∧ b S1 h = some (.nx S2, h2) ∧ P (i + j + 1) S2 h2) → P i S h →
    ∃ S' h', foGo [] t b items S h = some (.nx S', h') ∧ P (i + items.length) S' h'
  | [], i, S, h, _, p => ⟨S, h, by simp [foGo, stayB], p⟩
  | x :: xs, i, S, h, e, p => by
    obtain ⟨S1, S2, h2, e1, e2, p2⟩ := e 0 x S h rfl p
    obtain ⟨S', h', e3, p3⟩ := foGo_inv P xs (i + 1) S2 h2 (fun j y S h hj hp => by
      have := e (j + 1) y S h (by simpa using hj) (by rw [show i + (j + 1) = i + 1 + j by omega]; exact hp)
      rw [show i + (j + 1) + 1 = i + 1 + j + 1 by omega] at this
      exact this) p2
    refine ⟨S', h', ?_, by rw [List.length_cons, show i + (xs.length + 1) = i + 1 + xs.length by omega]; exact p3⟩
    rw [foGo]
    simp only [stayB, if_true, e1, e2]
    exact e3
theorem ev_fo {Φ : CallF} {t : Tg} {it : Z.It} {b : SL} {S S' : Sl} {h h1 h' : Hh} {xs : List D} (ei : evI glob Φ it S h = some (.ok ⟨xs, []⟩, h1)) (e : foGo [] t (evB glob Φ b) xs S h1 = some (.nx S', h')) : evS glob Φ (.fo t it b) S h = some (.nx S', h') := by
  simp only [evS, ei, bs_ok]
  exact e
def body12 : SL := (.cons (.set 7 (.call "words_of" (.cons false (.var 2) .nil)))
    (.cons (.ife (.or (.not (.blt .isi (.cons false (.var 7) (.cons false (.typ "list" "list") .nil)))) (.cmp .NotEq (.var 7) (.var 0))) (.cons (.ret (.bl false))
    .nil) .nil)
    (.cons (.ex (.meth (.var 7) .append (.cons false (.str "x") .nil)))
    .nil)))
structure Good (w : Str) : Prop where
  asc : Asc w
  ne : w ≠ Str.empty
  ns : 32 ∉ w.cps.toList
  len : w.length ≤ 40
theorem sum_le : ∀ ws : List Str, (∀ w ∈ ws, w.length ≤ 40) → (ws.map (·.length)).sum ≤ 40 * ws.length
  | [], _ => Nat.le_refl _
  | w :: ws, h => by
    have h1 := sum_le ws (fun x m => h x (List.mem_cons_of_mem _ m))
    have h2 := h w (List.mem_cons_self ..)
    rw [List.map_cons, List.sum_cons, List.length_cons]
    omega
theorem turn {k : Nat} {g : Hh} {m : Nat} {n i : Int} {ws : List Str} {b : Option D} (em : g[m]? = some (.lst (ws.map D.str))) (hne : ws ≠ []) (good : ∀ w ∈ ws, Good w) (hl : ws.length ≤ 200) :
    evB glob (C (k + 1)) body12 [some (.ref m), some (.int n), some (.str (Txt.join sp ws)), some (.int i), none, none, none, b] g =
      some (.nx [some (.ref m), some (.int n), some (.str (Txt.join sp ws)), some (.int i), none, none, none, some (.ref g.length)], g ++ [.lst (ws.map D.str ++ [.str "x"])]) := by
  have sl := sum_le ws fun w m => (good w m).len
  have jl := join_len sp ws
  have l1 : sp.length = 1 := by decide +kernel
  rw [l1] at jl
  obtain ⟨d, h2, w1, w2⟩ := words_of (k := k) (h := g) (s := Txt.join sp ws) (by omega)
  rw [show (" " : Str) = sp from rfl, split_join hne fun w m => (good w m).ns, if_neg fun m => (good _ m).ne rfl] at w2
  have mg : m < g.length := (List.getElem?_eq_some_iff.mp em).1
  have e0 : (g ++ [O.lst (ws.map D.str)])[g.length]? = some (.lst (ws.map D.str)) := by rw [List.getElem?_append_right (Nat.le_refl _), Nat.sub_self]; rfl
  have e1 : isinD (g ++ [.lst (ws.map D.str)]) [.ref g.length, .ty "list"] = some (.bl true) := isi_known (t := "list") (b := "list") ⟨by simp only [tyD, e0], .inr (.inr (.inr (.inr (.inr (.inl rfl)))))⟩ (.inr (.inr (.inl rfl)))
  have e2 : eqD (g ++ [.lst (ws.map D.str)]) (.ref g.length) (.ref m) = some true := by
    rw [eqD_ls (xs := ws) (ys := ws) (by simp only [lsD, e0]) (by simp only [lsD, List.getElem?_append_left mg, em]) (by omega) (by omega) (fun w m => (good w m).asc) (fun w m => (good w m).asc)]
    simp
  have e3 : mutD (g ++ [.lst (ws.map D.str)]) g.length .append [.str "x"] = some (.non, g ++ [.lst (ws.map D.str ++ [.str "x"])]) := by
    simp only [mutD, e0]
    rw [if_pos (by rw [List.length_map]; exact Nat.lt_of_le_of_lt hl (by decide))]
    rw [List.set_append_right _ _ (Nat.le_refl _), Nat.sub_self]
    rfl
  simp [body12, evB, evS.eq_1, evS.eq_2, evS.eq_3, evS.eq_4, evS.eq_5, evS.eq_6, evS.eq_7, evS.eq_9, evS.eq_10, evS.eq_11, evS.eq_12, ev.eq_1, ev.eq_2, ev.eq_3, ev.eq_4, ev.eq_5, ev.eq_6, ev.eq_7, ev.eq_8, ev.eq_9, ev.eq_10, ev.eq_11, ev.eq_12, ev.eq_13, ev.eq_14, ev.eq_15, ev.eq_16, ev.eq_17, ev.eq_18, ev.eq_19, ev.eq_20, ev.eq_21, ev.eq_22, ev.eq_23, ev.eq_24, ev.eq_25, ev.eq_26, ev.eq_27, ev.eq_28, ev.eq_29, ev.eq_31, ev.eq_32, evA, evO, evC, evI, vt, tv, bd_ok, bs_ok, bq_nx, bq_rt, pu_ok, re_nx, re_rt, ma_bl, ma_int, ma_str, ma_non, ma_ty, ma_ref, ma_tup, ma_frl, ma_lst, fix_bl, fix_int, fix_str, fix_non, getS, Z.evE, Z.evT, Z.vv, tr_bl, b_len, b_isi, b_all, b_sum, b_str, c_eq, c_ne, c_in, c_ni, c_lt, c_le, c_is, c_isn, c_isN, c_isnN, c_isI, c_isL, c_isR, o_add, o_sub, q_bl, q_int, q_str, q_NN, w1, w2, e1, e2, e0, e3]
theorem row {k : Nat} {h : Hh} {m : Nat} {n : Int} {ws : List Str} (em : h[m]? = some (.lst (ws.map D.str))) (hne : ws ≠ []) (good : ∀ w ∈ ws, Good w) (hl : ws.length ≤ 200) (n0 : 0 ≤ n) :
    ∃ h2, C (k + 2) "_law_row" [.ref m, .int n] h = some (.ok (.bl true), h2) := by
  have sl := sum_le ws fun w m => (good w m).len
  have jl := join_len sp ws
  have l1 : sp.length = 1 := by decide +kernel
  rw [l1] at jl
  have j1 : mthD h " " .join (.ref m) = some (.str (Txt.join sp ws)) := by
    have q : sqD h (.ref m) = some (ws.map D.str) := by simp only [sqD, lsD, em]
    show (match sqD h (.ref m) with | some xs => (match strsD xs with | some ys => if (ys.map fun y : Str => y.length).sum + ys.length * sp.length ≤ 16777216 then some (D.str (Txt.join sp ys)) else none | none => none) | none => none) = _
    rw [q]
    show (match strsD (ws.map D.str) with | some ys => if (ys.map fun y : Str => y.length).sum + ys.length * sp.length ≤ 16777216 then some (D.str (Txt.join sp ys)) else none | none => none) = _
    rw [strsD_map]
    refine if_pos ?_
    rw [l1]
    omega
  obtain ⟨S', g, e1, a, b, rfl, eg⟩ := foGo_inv (t := .nm 3) (b := evB glob (C (k + 1)) body12) (fun i S g => ∃ a b, S = [some (.ref m), some (.int n), some (.str (Txt.join sp ws)), a, none, none, none, b] ∧ g[m]? = some (.lst (ws.map D.str)))
    (rngItems 0 2) 0 [some (.ref m), some (.int n), some (.str (Txt.join sp ws)), none, none, none, none, none] h (by
      rintro j x S g hj ⟨a, b, rfl, eg⟩
      have : ∃ i, x = .int i := by
        have q := List.mem_of_getElem? hj
        obtain ⟨i, _, rfl⟩ := List.mem_map.mp q
        exact ⟨_, rfl⟩
      obtain ⟨i, rfl⟩ := this
      refine ⟨_, _, _, rfl, turn eg hne good hl, _, _, rfl, ?_⟩
      rw [List.getElem?_append_left (List.getElem?_eq_some_iff.mp eg).1]
      exact eg) ⟨_, _, rfl, em⟩
  have efo := ev_fo (Φ := C (k + 1)) (it := .r1 (.int 2)) (by simp [evB, evS.eq_1, evS.eq_2, evS.eq_3, evS.eq_4, evS.eq_5, evS.eq_6, evS.eq_7, evS.eq_9, evS.eq_10, evS.eq_11, evS.eq_12, ev.eq_1, ev.eq_2, ev.eq_3, ev.eq_4, ev.eq_5, ev.eq_6, ev.eq_7, ev.eq_8, ev.eq_9, ev.eq_10, ev.eq_11, ev.eq_12, ev.eq_13, ev.eq_14, ev.eq_15, ev.eq_16, ev.eq_17, ev.eq_18, ev.eq_19, ev.eq_20, ev.eq_21, ev.eq_22, ev.eq_23, ev.eq_24, ev.eq_25, ev.eq_26, ev.eq_27, ev.eq_28, ev.eq_29, ev.eq_31, ev.eq_32, evA, evO, evC, evI, vt, tv, bd_ok, bs_ok, bq_nx, bq_rt, pu_ok, re_nx, re_rt, ma_bl, ma_int, ma_str, ma_non, ma_ty, ma_ref, ma_tup, ma_frl, ma_lst, fix_bl, fix_int, fix_str, fix_non, getS, Z.evE, Z.evT, Z.vv, tr_bl, b_len, b_isi, b_all, b_sum, b_str, c_eq, c_ne, c_in, c_ni, c_lt, c_le, c_is, c_isn, c_isN, c_isnN, c_isI, c_isL, c_isR, o_add, o_sub, q_bl, q_int, q_str, q_NN]; rfl) e1
  simp only [body12] at efo
  clear e1
  have at0 : 0 ≤ n % (((Txt.join sp ws).length : Int) + 1) := Int.emod_nonneg _ (by omega)
  have ja : Asc (Txt.join sp ws) := Asc.join sp_asc fun w m => (good w m).asc
  have lr : ∀ q, lenD q [.str (Txt.join sp ws)] = some (.int (Txt.join sp ws).length) := fun q => if_pos (Nat.le_trans (m := 100000) (by omega) (by decide))
  have d0 : 0 < (((Txt.join sp ws).length : Int) + 1) := by omega
  have s1 : ∀ q at', slcD q (.str (Txt.join sp ws)) none (some at') = some (.str (cutS (Txt.join sp ws) none (some at'))) := fun q at' => if_pos (Nat.le_trans (m := 100000) (by omega) (by decide))
  have s2 : ∀ q at', slcD q (.str (Txt.join sp ws)) (some at') none = some (.str (cutS (Txt.join sp ws) (some at') none)) := fun q at' => if_pos (Nat.le_trans (m := 100000) (by omega) (by decide))
  have c1 := fun at' => cut_len (Txt.join sp ws) none (some at')
  have c2 := fun at' => cut_len (Txt.join sp ws) (some at') none
  have jl' : (Txt.join sp ws).length ≤ 9000 := by omega
  generalize Txt.join sp ws = r at *
  generalize eat : n % ((r.length : Int) + 1) = at' at *
  have k1 := c1 at'
  have k2 := c2 at'
  have o1 : ∀ q, binD q .Add (.str (cutS r none (some at'))) (.str " ") = some (.str (cutS r none (some at') ++ sp)) := fun q => o_strs (q := sp) (by rw [l1]; omega)
  have o2 : ∀ q, binD q .Add (.str (cutS r none (some at') ++ sp)) (.str (cutS r (some at') none)) = some (.str (cutS r none (some at') ++ sp ++ cutS r (some at') none)) := fun q => o_strs (by rw [app_len, l1]; omega)
  have bl : (cutS r none (some at') ++ sp ++ cutS r (some at') none).length ≤ 20000 := by
    rw [app_len, app_len, l1]
    omega
  have ba : Asc (cutS r none (some at') ++ sp ++ cutS r (some at') none) := (ja.cut.app sp_asc).app ja.cut
  generalize cutS r none (some at') ++ sp ++ cutS r (some at') none = big at *
  have pl := split_len big
  have pa := split_asc ba
  have e0 : mthD g big .split (.str " ") = some (.lst ((Txt.split big sp).map .str)) := by
    refine if_pos ⟨by decide +kernel, ?_⟩
    exact Nat.le_trans (Nat.add_le_add_right bl 2) (by decide)
  have ee : ("" : Str) = Str.empty := by decide +kernel
  have g0 : (g ++ [O.lst ((Txt.split big sp).map D.str)])[g.length]? = some (.lst ((Txt.split big sp).map D.str)) := by rw [List.getElem?_append_right (Nat.le_refl _), Nat.sub_self]; rfl
  have i1 : inD (g ++ [.lst ((Txt.split big sp).map .str)]) (.str "") (.ref g.length) = some (decide (Str.empty ∈ Txt.split big sp)) := by
    rw [← ee]
    exact inD_strs (by simp only [sqD, lsD, g0])
  obtain ⟨d, h2, w1, w2⟩ := words_of (k := k) (h := g ++ [.lst ((Txt.split big sp).map .str)]) (s := big) (by omega)
  rw [show (" " : Str) = sp from rfl] at w2
  rw [call_eq t12 rfl]
  by_cases c : Str.empty ∈ Txt.split big sp
  · rw [if_pos c] at w2
    simp [b12, evB, evS.eq_1, evS.eq_2, evS.eq_3, evS.eq_4, evS.eq_5, evS.eq_6, evS.eq_7, evS.eq_9, evS.eq_10, evS.eq_11, evS.eq_12, ev.eq_1, ev.eq_2, ev.eq_3, ev.eq_4, ev.eq_5, ev.eq_6, ev.eq_7, ev.eq_8, ev.eq_9, ev.eq_10, ev.eq_11, ev.eq_12, ev.eq_13, ev.eq_14, ev.eq_15, ev.eq_16, ev.eq_17, ev.eq_18, ev.eq_19, ev.eq_20, ev.eq_21, ev.eq_22, ev.eq_23, ev.eq_24, ev.eq_25, ev.eq_26, ev.eq_27, ev.eq_28, ev.eq_29, ev.eq_31, ev.eq_32, evA, evO, evC, evI, vt, tv, bd_ok, bs_ok, bq_nx, bq_rt, pu_ok, re_nx, re_rt, ma_bl, ma_int, ma_str, ma_non, ma_ty, ma_ref, ma_tup, ma_frl, ma_lst, fix_bl, fix_int, fix_str, fix_non, getS, Z.evE, Z.evT, Z.vv, tr_bl, b_len, b_isi, b_all, b_sum, b_str, c_eq, c_ne, c_in, c_ni, c_lt, c_le, c_is, c_isn, c_isN, c_isnN, c_isI, c_isL, c_isR, o_add, o_sub, q_bl, q_int, q_str, q_NN, j1, efo, lr, o_mod, d0, eat, s1, s2, o1, o2, e0, i1, c, w1, w2]
  · rw [if_neg c] at w2
    have q : eqD (g ++ [.lst ((Txt.split big sp).map .str)]) (.lst ((Txt.split big sp).map .str)) (.ref g.length) = some true := by
      rw [eqD_ls (xs := Txt.split big sp) (ys := Txt.split big sp) rfl (by simp only [lsD, g0]) (by omega) (by omega) pa pa]
      simp
    simp [b12, evB, evS.eq_1, evS.eq_2, evS.eq_3, evS.eq_4, evS.eq_5, evS.eq_6, evS.eq_7, evS.eq_9, evS.eq_10, evS.eq_11, evS.eq_12, ev.eq_1, ev.eq_2, ev.eq_3, ev.eq_4, ev.eq_5, ev.eq_6, ev.eq_7, ev.eq_8, ev.eq_9, ev.eq_10, ev.eq_11, ev.eq_12, ev.eq_13, ev.eq_14, ev.eq_15, ev.eq_16, ev.eq_17, ev.eq_18, ev.eq_19, ev.eq_20, ev.eq_21, ev.eq_22, ev.eq_23, ev.eq_24, ev.eq_25, ev.eq_26, ev.eq_27, ev.eq_28, ev.eq_29, ev.eq_31, ev.eq_32, evA, evO, evC, evI, vt, tv, bd_ok, bs_ok, bq_nx, bq_rt, pu_ok, re_nx, re_rt, ma_bl, ma_int, ma_str, ma_non, ma_ty, ma_ref, ma_tup, ma_frl, ma_lst, fix_bl, fix_int, fix_str, fix_non, getS, Z.evE, Z.evT, Z.vv, tr_bl, b_len, b_isi, b_all, b_sum, b_str, c_eq, c_ne, c_in, c_ni, c_lt, c_le, c_is, c_isn, c_isN, c_isnN, c_isI, c_isL, c_isR, o_add, o_sub, q_bl, q_int, q_str, q_NN, j1, efo, lr, o_mod, d0, eat, s1, s2, o1, o2, e0, i1, c, w1, w2, q]
end K1

namespace K1
open PySem L2 Z
def bodyI : SL := (.cons (.ife (.not (.call "_law_one" (.cons false (.var 6) .nil))) (.cons (.ret (.bl false))
    .nil) .nil)
    .nil)
def restB : SL := (.cons (.set 7 (.ix (.lst (.cons false .non (.cons false (.bl true) (.cons false (.int 7) (.cons false (.lst .nil) (.cons false (.lst (.cons false (.str "a") .nil)) (.cons false .dic0 (.cons false (.tup (.cons false (.str "a") .nil)) (.cons false (.neg (.int 2)) .nil))))))))) (.bin .Mod (.var 2) (.int 8))))
    (.cons (.ife (.or (.cmp .IsNot (.call "is_word" (.cons false (.var 7) .nil)) (.bl false)) (.or (.cmp .IsNot (.call "is_reserved" (.cons false (.var 7) .nil)) (.bl false)) (.cmp .IsNot (.call "is_name" (.cons false (.var 7) .nil)) (.bl false)))) (.cons (.ret (.bl false))
    .nil) .nil)
    (.cons (.ife (.or (.cmp .IsNot (.call "digit_of" (.cons false (.var 7) .nil)) .non) (.cmp .IsNot (.call "words_of" (.cons false (.var 7) .nil)) .non)) (.cons (.ret (.bl false))
    .nil) .nil)
    (.cons (.set 8 (.cmp .In (.bin .Mod (.var 2) (.int 8)) (.tup (.cons false (.int 2) (.cons false (.int 7) .nil)))))
    (.cons (.ife (.or (.cmp .NotEq (.call "is_whole" (.cons false (.var 7) .nil)) (.var 8)) (.or (.cmp .NotEq (.call "is_among" (.cons false (.var 7) (.cons false (.neg (.int 2)) (.cons false (.int 7) .nil)))) (.var 8)) (.cmp .IsNot (.call "is_among" (.cons false (.var 7) (.cons false (.neg (.int 1)) (.cons false (.int 6) .nil)))) (.bl false)))) (.cons (.ret (.bl false))
    .nil) .nil)
    (.cons (.set 9 (.bin .Mod (.var 2) (.bin .Pow (.int 10) (.int 60))))
    (.cons (.ife (.or (.cmp .IsNot (.call "is_among" (.cons false (.var 9) (.cons false (.bin .Sub (.var 9) (.int 1)) (.cons false (.var 9) .nil)))) (.bl true)) (.cmp .IsNot (.call "is_among" (.cons false (.var 9) (.cons false (.bin .Add (.var 9) (.int 1)) (.cons false (.bin .Add (.var 9) (.int 2)) .nil)))) (.bl false))) (.cons (.ret (.bl false))
    .nil) .nil)
    .nil)))))))
def bodyC : SL := (.cons (.set 3 (.call "_law_mixed" (.cons false (.var 2) (.cons false (.int 1) .nil))))
    (.cons (.set 4 (.call "_law_written" (.cons false (.var 3) .nil)))
    (.cons (.set 5 (.ix (.call0 "_law_reserved") (.bin .Mod (.var 3) (.int 39))))
    (.cons (.fo (.nm 6) (.sq (.lst (.cons false (.var 4) (.cons false (.var 5) (.cons false (.bin .Add (.var 5) (.str "s")) (.cons false (.bl1 .str (.bin .Mod (.var 3) (.int 12))) (.cons false (.ix (.str "0123456789-+x") (.bin .Mod (.var 3) (.int 13))) .nil))))))) bodyI)
    (.cons (.set 1 (.bin .Add (.var 1) (.lst (.cons false (.var 5) (.cons false (.bin .Add (.crep "a" (.var 4) " " "") (.ix (.lst (.cons false (.str "") (.cons false (.str "\n") (.cons false (.str "\nb") .nil)))) (.bin .Mod (.var 3) (.int 3)))) .nil)))))
    restB)))))
def itC : Z.It := (.sq (.bin .Add (.slc (.var 0) .no (.yes (.int 200))) (.lst (.cons false (.bl1 .sum (.var 0)) .nil))))
def itI : Z.It := (.sq (.lst (.cons false (.var 4) (.cons false (.var 5) (.cons false (.bin .Add (.var 5) (.str "s")) (.cons false (.bl1 .str (.bin .Mod (.var 3) (.int 12))) (.cons false (.ix (.str "0123456789-+x") (.bin .Mod (.var 3) (.int 13))) .nil)))))))
theorem o_pow {h : Hh} : ∃ p : Int, 0 < p ∧ binD h .Pow (.int 10) (.int 60) = some (.int p) := ⟨10 ^ 60, by decide +kernel, by
  show (if (0 : Int) ≤ 60 ∧ (60 : Int) ≤ 1000000 ∧ (10 : Int).natAbs < 2 ^ 64 then some (D.int ((10 : Int) ^ (60 : Int).toNat)) else none) = _
  rw [if_pos (by decide)]
  rfl⟩
theorem neg2 : negD (.int 2) = some (.int (-2)) := rfl
theorem neg1 : negD (.int 1) = some (.int (-1)) := rfl
def oddL (n : Nat) : List D := [.non, .bl true, .int 7, .ref n, .ref (n + 1), .ref (n + 2), .tup [.str "a"], .int (-2)]
def oddH (h : Hh) : Hh := h ++ [.lst [], .lst [.str "a"], .dic []]
theorem odd_ix {h : Hh} {c : Int} (c0 : 0 ≤ c) (c1 : c < 8) : ∃ d t, ixD (oddH h) (.lst (oddL h.length)) (.int c) = some d ∧ Known (oddH h) d t ∧ t ≠ "str" ∧ (∀ xs, d ≠ .lst xs) ∧ inD (oddH h) (.int c) (.tup [.int 2, .int 7]) = some (decide (t = "int")) ∧ whole t d (-2) 7 = decide (t = "int") ∧ whole t d (-1) 6 = false := by
  have g0 : (oddH h)[h.length]? = some (.lst []) := by simp [oddH]
  have g1 : (oddH h)[h.length + 1]? = some (.lst [.str "a"]) := by simp [oddH, List.getElem?_append_right]
  have g2 : (oddH h)[h.length + 2]? = some (.dic []) := by simp [oddH, List.getElem?_append_right]
  have : c = 0 ∨ c = 1 ∨ c = 2 ∨ c = 3 ∨ c = 4 ∨ c = 5 ∨ c = 6 ∨ c = 7 := by omega
  rcases this with rfl | rfl | rfl | rfl | rfl | rfl | rfl | rfl
  · exact ⟨.non, "NoneType", rfl, ⟨rfl, .inl rfl⟩, by decide, (fun _ q => by cases q), rfl, rfl, rfl⟩
  · exact ⟨.bl true, "bool", rfl, ⟨rfl, .inr (.inl rfl)⟩, by decide, (fun _ q => by cases q), rfl, rfl, rfl⟩
  · exact ⟨.int 7, "int", rfl, ⟨rfl, .inr (.inr (.inl rfl))⟩, by decide, (fun _ q => by cases q), rfl, rfl, rfl⟩
  · exact ⟨.ref h.length, "list", rfl, ⟨by simp only [tyD, g0], .inr (.inr (.inr (.inr (.inr (.inl rfl)))))⟩, by decide, (fun _ q => by cases q), rfl, rfl, rfl⟩
  · exact ⟨.ref (h.length + 1), "list", rfl, ⟨by simp only [tyD, g1], .inr (.inr (.inr (.inr (.inr (.inl rfl)))))⟩, by decide, (fun _ q => by cases q), rfl, rfl, rfl⟩
  · exact ⟨.ref (h.length + 2), "dict", rfl, ⟨by simp only [tyD, g2], .inr (.inr (.inr (.inr (.inr (.inr rfl)))))⟩, by decide, (fun _ q => by cases q), rfl, rfl, rfl⟩
  · exact ⟨.tup [.str "a"], "tuple", rfl, ⟨rfl, .inr (.inr (.inr (.inr (.inl rfl))))⟩, by decide, (fun _ q => by cases q), rfl, rfl, rfl⟩
  · exact ⟨.int (-2), "int", rfl, ⟨rfl, .inr (.inr (.inl rfl))⟩, by decide, (fun _ q => by cases q), rfl, rfl, rfl⟩
theorem rest {k : Nat} {h : Hh} {sc s1 s3 s4 s5 s6 s7 s8 s9 : Option D} {c : Int} : ∃ o a7 a8 a9, evB glob (C (k + 3)) restB [sc, s1, some (.int c), s3, s4, s5, s6, s7, s8, s9] h = some (.nx [sc, s1, some (.int c), s3, s4, s5, s6, a7, a8, a9], h ++ o) := by
  obtain ⟨d, t, e1, K, ns, nl, e2, e3, e4⟩ := odd_ix (h := h) (c := c % 8) (Int.emod_nonneg _ (by decide)) (Int.emod_lt_of_pos _ (by decide))
  obtain ⟨p, p0, ep⟩ := o_pow (h := oddH h)
  have r1 : C (k + 3) "is_word" [d] (oddH h) = _ := is_word_no (k := k + 2) K nl ns
  have r2 : C (k + 3) "is_reserved" [d] (oddH h) = _ := is_reserved_no (k := k + 2) K nl ns
  have r3 : C (k + 3) "is_name" [d] (oddH h) = _ := is_name_no (k := k + 1) K nl ns
  have r4 : C (k + 3) "digit_of" [d] (oddH h) = _ := digit_of_no (k := k + 2) K nl ns
  have r5 : C (k + 3) "words_of" [d] (oddH h) = _ := words_of_no (k := k + 2) K nl ns
  have r6 : C (k + 3) "is_whole" [d] (oddH h) = _ := is_whole (k := k + 2) K nl
  have r7 : C (k + 3) "is_among" [d, .int (-2), .int 7] (oddH h) = _ := is_among (k := k + 1) K nl
  have r8 : C (k + 3) "is_among" [d, .int (-1), .int 6] (oddH h) = _ := is_among (k := k + 1) K nl
  rw [e3] at r7
  rw [e4] at r8
  have r9 : ∀ q a b : Int, C (k + 3) "is_among" [.int q, .int a, .int b] (oddH h) = some (.ok (.bl (decide (a ≤ q ∧ q ≤ b))), oddH h) := fun q a b => is_among (k := k + 1) k_int fun _ z => by cases z
  have m0 := mat_ok (h := oddH h) nl
  refine ⟨[.lst [], .lst [.str "a"], .dic []], some d, some (.bl (decide (t = "int"))), some (.int (c % p)), ?_⟩
  show _ = some (_, oddH h)
  have oh : h ++ [O.lst [], O.lst [D.str "a"], O.dic []] = oddH h := rfl
  have ol : [D.non, D.bl true, D.int 7, D.ref h.length, D.ref (h.length + 1), D.ref (h.length + 2), D.tup [D.str "a"], D.int (-2)] = oddL h.length := rfl
  have s8 : (8 : Nat) ≤ sizeLine := by decide
  have s2 : (2 : Nat) ≤ sizeLine := by decide
  have s1 : (1 : Nat) ≤ sizeLine := by decide
  have b1 : ∀ q : Int, (q - 1 ≤ q) := fun q => by omega
  have b2 : ∀ q : Int, ¬ (q + 1 ≤ q) := fun q => by omega
  by_cases ti : t = "int" <;>
  simp [restB, evB, evS.eq_1, evS.eq_2, evS.eq_3, evS.eq_4, evS.eq_5, evS.eq_6, evS.eq_7, evS.eq_9, evS.eq_10, evS.eq_11, evS.eq_12, ev.eq_1, ev.eq_2, ev.eq_3, ev.eq_4, ev.eq_5, ev.eq_6, ev.eq_7, ev.eq_8, ev.eq_9, ev.eq_10, ev.eq_11, ev.eq_12, ev.eq_13, ev.eq_14, ev.eq_15, ev.eq_16, ev.eq_17, ev.eq_18, ev.eq_19, ev.eq_20, ev.eq_21, ev.eq_22, ev.eq_23, ev.eq_24, ev.eq_25, ev.eq_26, ev.eq_27, ev.eq_28, ev.eq_29, ev.eq_31, ev.eq_32, evA, evO, evC, evI, vt, tv, bd_ok, bs_ok, bq_nx, bq_rt, pu_ok, re_nx, re_rt, ma_bl, ma_int, ma_str, ma_non, ma_ty, ma_ref, ma_tup, ma_frl, ma_lst, fix_bl, fix_int, fix_str, fix_non, getS, Z.evE, Z.evT, Z.vv, tr_bl, b_len, b_isi, b_all, b_sum, b_str, c_eq, c_ne, c_in, c_ni, c_lt, c_le, c_is, c_isn, c_isN, c_isnN, c_isI, c_isL, c_isR, o_add, o_sub, q_bl, q_int, q_str, q_NN, neg1, neg2, s8, s2, s1, oh, ol, o_mod, e1, m0, r1, r2, r3, r4, r5, r6, r7, r8, r9, e2, ti, ep, p0, b1, b2]
end K1

namespace K1
open PySem L2 Z
theorem res_all : ∀ s ∈ lRes, Good s := by
  have e : (lRes.all fun s => s.cps.toList.all (fun c => decide (c < 128)) && !decide (s = Str.empty) && !decide (32 ∈ s.cps.toList) && decide (s.length ≤ 40)) = true := by decide +kernel
  intro s m
  have := List.all_eq_true.mp e s m
  simp only [Bool.and_eq_true, Bool.not_eq_true', decide_eq_false_iff_not, decide_eq_true_eq] at this
  exact ⟨fun c hc => of_decide_eq_true (List.all_eq_true.mp this.1.1.1 c hc), this.1.1.2, this.1.2, this.2⟩
def tails : List Str := ["", "\n", "\nb"]
theorem tails_all : ∀ s ∈ tails, Asc s ∧ 32 ∉ s.cps.toList ∧ s.length ≤ 2 := by
  have e : (tails.all fun s => s.cps.toList.all (fun c => decide (c < 128)) && !decide (32 ∈ s.cps.toList) && decide (s.length ≤ 2)) = true := by decide +kernel
  intro s m
  have := List.all_eq_true.mp e s m
  simp only [Bool.and_eq_true, Bool.not_eq_true', decide_eq_false_iff_not, decide_eq_true_eq] at this
  exact ⟨fun c hc => of_decide_eq_true (List.all_eq_true.mp this.1.1 c hc), this.1.2, this.2⟩
def ones : Str := "0123456789-+x"
theorem ones_asc : Asc ones := by
  have : (ones.cps.toList.all fun c => decide (c < 128)) = true := by decide +kernel
  exact fun c m => of_decide_eq_true (List.all_eq_true.mp this c m)
theorem strD_small {i : Int} (i0 : 0 ≤ i) (i1 : i < 100) : ∃ s : Str, strD [.int i] = some (.str s) ∧ s.length ≤ 1000 ∧ Asc s := by
  obtain ⟨n, rfl⟩ : ∃ n : Nat, i = n := ⟨i.toNat, by omega⟩
  refine ⟨Str.ofString (toString ((n : Nat) : Int)), if_pos ?_, ?_, ?_⟩
  · have : ((n : Int)).natAbs = n := by omega
    rw [this]
    have : n.log2 ≤ n := Nat.log2_le_self n
    omega
  · rw [TL.len_tl, TL.tl_num]
    have := TL.numL_len (n := n) (k := 2) (by decide) (by omega)
    omega
  · intro c m
    have m' : c ∈ TL.tl (Str.ofString (toString ((n : Nat) : Int))) := m
    rw [TL.tl_num] at m'
    have := TL.numL_digits n c m'
    omega
def lA : Str := "a"
theorem lA_l : lA.cps.toList = [97] := by decide +kernel
/-- the second word that a cell adds -/
theorem new_good {w s : Str} (l : w.length ≤ 30) (a : Asc w) (m : s ∈ tails) : Good (lA ++ Txt.replace w sp "" ++ s) := by
  obtain ⟨s1, s2, s3⟩ := tails_all s m
  have e : (lA ++ Txt.replace w sp "" ++ s).cps.toList = 97 :: (w.cps.toList.filter (· != 32) ++ s.cps.toList) := by
    rw [app_l, app_l, lA_l, replace_l]
    simp
  refine ⟨fun c hc => ?_, fun q => ?_, fun hc => ?_, ?_⟩
  · rw [e] at hc
    rcases List.mem_cons.mp hc with rfl | hc
    · decide
    · rcases List.mem_append.mp hc with hc | hc
      · exact a c (List.mem_filter.mp hc).1
      · exact s1 c hc
  · rw [q] at e
    cases e
  · rw [e] at hc
    rcases List.mem_cons.mp hc with q | hc
    · cases q
    · rcases List.mem_append.mp hc with hc | hc
      · have := (List.mem_filter.mp hc).2
        simp at this
      · exact s2 hc
  · have := replace_len w
    have : lA.length = 1 := by decide +kernel
    rw [app_len, app_len]
    omega
theorem cell {k : Nat} {h : Hh} {m : Nat} {c : Int} {ws : List Str} {sc s3 s4 s5 s6 s7 s8 s9 : Option D} (em : h[m]? = some (.lst (ws.map D.str))) (good : ∀ w ∈ ws, Good w) (hl : ws.length ≤ 200) :
    ∃ m' u v S' h', Good u ∧ Good v ∧ evB glob (C (k + 3)) bodyC [sc, some (.ref m), some (.int c), s3, s4, s5, s6, s7, s8, s9] h = some (.nx (sc :: some (.ref m') :: S'), h') ∧ S'.length = 8 ∧ h'[m']? = some (.lst ((ws ++ [u, v]).map D.str)) := by
  obtain ⟨n, n0, n1, e1⟩ := mixed (k := k + 2) (h := h) (a := c) (b := 1) (by decide) (by decide)
  obtain ⟨w, w1, w2, e2⟩ := written (k := k + 1) (h := h) n0
  obtain ⟨hr, r1, r2⟩ := reserved (k := k + 2) (h := h)
  have lr : lRes.length = 39 := by decide +kernel
  obtain ⟨own, mo, e3⟩ := ix_strs (h := h) (l := lRes) (i := n % 39) (Int.emod_nonneg _ (by decide)) (by rw [lr]; exact Int.emod_lt_of_pos _ (by decide))
  obtain ⟨g1, g2, g3, g4⟩ := res_all own mo
  obtain ⟨sn, n2, n3, n4⟩ := strD_small (i := n % 12) (Int.emod_nonneg _ (by decide)) (by have := Int.emod_lt_of_pos n (show (0 : Int) < 12 by decide); omega)
  have lo : ones.length = 13 := by decide +kernel
  obtain ⟨q, mq, e4⟩ := ix_str (h := h) (z := ones) (i := n % 13) (by decide +kernel) (Int.emod_nonneg _ (by decide)) (by rw [lo]; exact Int.emod_lt_of_pos _ (by decide))
  simp only [ones] at e4
  obtain ⟨tl, mt, e5⟩ := ix_strs (h := h) (l := tails) (i := n % 3) (Int.emod_nonneg _ (by decide)) (Int.emod_lt_of_pos n (show (0 : Int) < 3 by decide))
  have gn := new_good w1 w2 mt
  obtain ⟨t1, t2, t3⟩ := tails_all tl mt
  have ls : ("s" : Str).length = 1 := by decide +kernel
  have la : lA.length = 1 := by decide +kernel
  have as : Asc "s" := by
    have : (("s" : Str).cps.toList.all fun c => decide (c < 128)) = true := by decide +kernel
    exact fun c m => of_decide_eq_true (List.all_eq_true.mp this c m)
  have o1 : binD h .Add (.str own) (.str "s") = some (.str (own ++ "s")) := o_strs (by omega)
  have rl := replace_len w
  have o2 : binD h .Add (.str (lA ++ Txt.replace w sp "")) (.str tl) = some (.str (lA ++ Txt.replace w sp "" ++ tl)) := o_strs (by rw [app_len]; omega)
  have o3 : binD h .Add (.ref m) (.lst [.str own, .str (lA ++ Txt.replace w sp "" ++ tl)]) = some (.lst (ws.map D.str ++ [.str own, .str (lA ++ Txt.replace w sp "" ++ tl)])) := o_lst (by simp only [mlD, em]) rfl (by rw [List.length_map]; show ws.length + 2 ≤ _; omega)
  -- the inner loop
  have ones5 : ∀ x ∈ [D.str w, .str own, .str (own ++ "s"), .str sn, .str ⟨#[q]⟩], ∃ s : Str, x = .str s ∧ s.length ≤ 1000 ∧ Asc s := by
    intro x hx
    simp only [List.mem_cons, List.not_mem_nil, or_false] at hx
    rcases hx with rfl | rfl | rfl | rfl | rfl
    · exact ⟨_, rfl, by omega, w2⟩
    · exact ⟨_, rfl, by omega, g1⟩
    · exact ⟨_, rfl, by rw [app_len]; omega, g1.app as⟩
    · exact ⟨_, rfl, n3, n4⟩
    · exact ⟨_, rfl, by show 1 ≤ 1000; decide, asc1 (ones_asc q mq)⟩
  obtain ⟨S1, h1, e6, a6, rfl, eh⟩ := foGo_inv (t := .nm 6) (b := evB glob (C (k + 3)) bodyI) (fun i S g => ∃ a6, S = [sc, some (.ref m), some (.int c), some (.int n), some (.str w), some (.str own), a6, s7, s8, s9] ∧ g = h)
    [D.str w, .str own, .str (own ++ "s"), .str sn, .str ⟨#[q]⟩] 0 [sc, some (.ref m), some (.int c), some (.int n), some (.str w), some (.str own), s6, s7, s8, s9] h (by
      rintro j x S g hj ⟨a6, rfl, rfl⟩
      obtain ⟨s, rfl, l, a⟩ := ones5 x (List.mem_of_getElem? hj)
      obtain ⟨h2, x1, x2⟩ := one (k := k) (h := g) l a
      refine ⟨_, [sc, some (.ref m), some (.int c), some (.int n), some (.str w), some (.str own), some (.str s), s7, s8, s9], g, rfl, ?_, _, rfl, rfl⟩
      simp [bodyI, evB, evS.eq_1, evS.eq_2, evS.eq_3, evS.eq_4, evS.eq_5, evS.eq_6, evS.eq_7, evS.eq_9, evS.eq_10, evS.eq_11, evS.eq_12, ev.eq_1, ev.eq_2, ev.eq_3, ev.eq_4, ev.eq_5, ev.eq_6, ev.eq_7, ev.eq_8, ev.eq_9, ev.eq_10, ev.eq_11, ev.eq_12, ev.eq_13, ev.eq_14, ev.eq_15, ev.eq_16, ev.eq_17, ev.eq_18, ev.eq_19, ev.eq_20, ev.eq_21, ev.eq_22, ev.eq_23, ev.eq_24, ev.eq_25, ev.eq_26, ev.eq_27, ev.eq_28, ev.eq_29, ev.eq_31, ev.eq_32, evA, evO, evC, evI, vt, tv, bd_ok, bs_ok, bq_nx, bq_rt, pu_ok, re_nx, re_rt, ma_bl, ma_int, ma_str, ma_non, ma_ty, ma_ref, ma_tup, ma_frl, ma_lst, fix_bl, fix_int, fix_str, fix_non, getS, Z.evE, Z.evT, Z.vv, tr_bl, b_len, b_isi, b_all, b_sum, b_str, c_eq, c_ne, c_in, c_ni, c_lt, c_le, c_is, c_isn, c_isN, c_isnN, c_isI, c_isL, c_isR, o_add, o_sub, q_bl, q_int, q_str, q_NN, x1, x2]) ⟨_, rfl, rfl⟩
  rw [eh] at e6
  clear eh h1
  have s5z : (5 : Nat) ≤ sizeLine := by decide
  have s3z : (3 : Nat) ≤ sizeLine := by decide
  have s2z : (2 : Nat) ≤ sizeLine := by decide
  have efo := ev_fo (Φ := C (k + 3)) (it := itI) (S := [sc, some (.ref m), some (.int c), some (.int n), some (.str w), some (.str own), s6, s7, s8, s9]) (h := h) (by
    simp [itI, evB, evS.eq_1, evS.eq_2, evS.eq_3, evS.eq_4, evS.eq_5, evS.eq_6, evS.eq_7, evS.eq_9, evS.eq_10, evS.eq_11, evS.eq_12, ev.eq_1, ev.eq_2, ev.eq_3, ev.eq_4, ev.eq_5, ev.eq_6, ev.eq_7, ev.eq_8, ev.eq_9, ev.eq_10, ev.eq_11, ev.eq_12, ev.eq_13, ev.eq_14, ev.eq_15, ev.eq_16, ev.eq_17, ev.eq_18, ev.eq_19, ev.eq_20, ev.eq_21, ev.eq_22, ev.eq_23, ev.eq_24, ev.eq_25, ev.eq_26, ev.eq_27, ev.eq_28, ev.eq_29, ev.eq_31, ev.eq_32, evA, evO, evC, evI, vt, tv, bd_ok, bs_ok, bq_nx, bq_rt, pu_ok, re_nx, re_rt, ma_bl, ma_int, ma_str, ma_non, ma_ty, ma_ref, ma_tup, ma_frl, ma_lst, fix_bl, fix_int, fix_str, fix_non, getS, Z.evE, Z.evT, Z.vv, tr_bl, b_len, b_isi, b_all, b_sum, b_str, c_eq, c_ne, c_in, c_ni, c_lt, c_le, c_is, c_isn, c_isN, c_isnN, c_isI, c_isL, c_isR, o_add, o_sub, q_bl, q_int, q_str, q_NN, o1, o_mod, n2, e4, s5z]
    first | rfl | exact ⟨rfl, rfl⟩) e6
  simp only [itI] at efo
  have ez : ("" : Str).length = 0 := by decide +kernel
  have c1 : w.length + (w.length + 1) * (Str.ofString "").length ≤ 16777216 := by
    rw [show (Str.ofString "").length = 0 from ez]
    omega
  have c2 : (Str.ofString "a").length + (Txt.replace w (Str.ofString " ") (Str.ofString "")).length ≤ sizeLine := Nat.le_trans (m := 1000) (by
    rw [show (Str.ofString "a").length = 1 from la]
    have : (Txt.replace w (Str.ofString " ") (Str.ofString "")).length ≤ w.length := rl
    omega) (by decide)
  obtain ⟨o, a7, a8, a9, er⟩ := rest (k := k) (h := h ++ [.lst (ws.map D.str ++ [.str own, .str (lA ++ Txt.replace w sp "" ++ tl)])]) (sc := sc) (s1 := some (.ref h.length)) (s3 := some (.int n)) (s4 := some (.str w)) (s5 := some (.str own)) (s6 := a6) (s7 := s7) (s8 := s8) (s9 := s9) (c := c)
  refine ⟨h.length, own, _, [some (.int c), some (.int n), some (.str w), some (.str own), a6, a7, a8, a9], (h ++ [.lst (ws.map D.str ++ [.str own, .str (lA ++ Txt.replace w sp "" ++ tl)])]) ++ o, ⟨g1, g2, g3, g4⟩, gn, ?_, rfl, ?_⟩
  rotate_left
  · exact (List.getElem?_append_left (l₂ := o) (by simp)).trans (by
      rw [List.getElem?_append_right (Nat.le_refl _), Nat.sub_self, List.map_append]
      rfl)
  · rw [← er]
    simp only [lA, sp, tails] at o2 o3 e5 er ⊢
    simp only [List.map_cons, List.map_nil] at e5
    simp [bodyC, evB, evS.eq_1, evS.eq_2, evS.eq_3, evS.eq_4, evS.eq_5, evS.eq_6, evS.eq_7, evS.eq_9, evS.eq_10, evS.eq_11, evS.eq_12, ev.eq_1, ev.eq_2, ev.eq_3, ev.eq_4, ev.eq_5, ev.eq_6, ev.eq_7, ev.eq_8, ev.eq_9, ev.eq_10, ev.eq_11, ev.eq_12, ev.eq_13, ev.eq_14, ev.eq_15, ev.eq_16, ev.eq_17, ev.eq_18, ev.eq_19, ev.eq_20, ev.eq_21, ev.eq_22, ev.eq_23, ev.eq_24, ev.eq_25, ev.eq_26, ev.eq_27, ev.eq_28, ev.eq_29, ev.eq_31, ev.eq_32, evA, evO, evC, evI, vt, tv, bd_ok, bs_ok, bq_nx, bq_rt, pu_ok, re_nx, re_rt, ma_bl, ma_int, ma_str, ma_non, ma_ty, ma_ref, ma_tup, ma_frl, ma_lst, fix_bl, fix_int, fix_str, fix_non, getS, Z.evE, Z.evT, Z.vv, tr_bl, b_len, b_isi, b_all, b_sum, b_str, c_eq, c_ne, c_in, c_ni, c_lt, c_le, c_is, c_isn, c_isN, c_isnN, c_isI, c_isL, c_isR, o_add, o_sub, q_bl, q_int, q_str, q_NN, e1, e2, r1, r2, e3, o_mod, efo, c1, c2, e5, o2, o3, s3z, s2z]
end K1

namespace K1
open PySem L2 Z
theorem cut200 {xs : List D} (l : xs.length ≤ 200) : cutD xs none (some 200) = xs := by
  unfold cutD
  have e1 : HT.sIx xs.length 0 none = 0 := rfl
  have e2 : HT.sIx xs.length xs.length (some ((200 : Nat) : Int)) = min 200 xs.length := HT.sIx_nat _ _ 200
  have e2' : HT.sIx xs.length xs.length (some 200) = min 200 xs.length := e2
  rw [e1, e2', List.drop_zero]
  exact List.take_of_length_le (by omega)
theorem run (ns : List Int) (hn : ns.length ≤ 63) : ∃ h', calls glob T 6 "law" [.frl (ns.map D.int)] [] = some (.ok (.bl true), h') := by
  show ∃ h', C (5 + 1) "law" [.frl (ns.map D.int)] [] = some (.ok (.bl true), h')
  rw [call_eq t13 rfl]
  have q1 : slcD [.lst []] (.frl (ns.map D.int)) none (some 200) = some (.lst (ns.map D.int)) := by
    show some (D.lst (cutD (ns.map D.int) none (some 200))) = _
    rw [cut200 (by rw [List.length_map]; omega)]
  have q2 : ∀ g, overL (fun xs => (intsD xs).map fun ns => .int ns.sum) g [.frl (ns.map D.int)] = some (.int ns.sum) := fun g => by
    show (intsD (ns.map D.int)).map (fun ns => D.int ns.sum) = _
    rw [intsD_map]
    rfl
  have q3 : binD [.lst []] .Add (.lst (ns.map D.int)) (.lst [.int ns.sum]) = some (.lst (ns.map D.int ++ [.int ns.sum])) := o_lst rfl rfl (by rw [List.length_map]; show ns.length + 1 ≤ _; omega)
  obtain ⟨S', g, e1, m, ws, rest, rfl, l8, eg, good, wl, wn⟩ := foGo_inv (t := .nm 2) (b := evB glob (C 5) bodyC)
    (fun i S g => ∃ m ws rest, S = some (.frl (ns.map D.int)) :: some (.ref m) :: rest ∧ rest.length = 8 ∧ g[m]? = some (.lst (ws.map D.str)) ∧ (∀ w ∈ ws, Good w) ∧ ws.length = 2 * i ∧ i ≤ 64)
    (ns.map D.int ++ [.int ns.sum]) 0 [some (.frl (ns.map D.int)), some (.ref 0), none, none, none, none, none, none, none, none] [.lst []] (by
      rintro j x S g hj ⟨m, ws, rest, rfl, l8, eg, good, wl, _⟩
      have : ∃ i, x = .int i := by
        rcases List.mem_append.mp (List.mem_of_getElem? hj) with q | q
        · obtain ⟨i, _, rfl⟩ := List.mem_map.mp q
          exact ⟨_, rfl⟩
        · exact ⟨_, List.mem_singleton.mp q⟩
      obtain ⟨c, rfl⟩ := this
      have hj' : j < (ns.map D.int ++ [D.int ns.sum]).length := (List.getElem?_eq_some_iff.mp hj).1
      simp at hj'
      match rest, l8 with
      | [s2, s3, s4, s5, s6, s7, s8, s9], _ =>
        obtain ⟨m', u, v, S', h', gu, gv, e, l, em'⟩ := cell (k := 2) (sc := some (.frl (ns.map D.int))) (c := c) (s3 := s3) (s4 := s4) (s5 := s5) (s6 := s6) (s7 := s7) (s8 := s8) (s9 := s9) eg good (by omega)
        refine ⟨_, _, _, rfl, e, m', ws ++ [u, v], S', rfl, l, em', ?_, ?_, by omega⟩
        · intro w hw
          rcases List.mem_append.mp hw with hw | hw
          · exact good w hw
          · rcases List.mem_cons.mp hw with rfl | hw
            · exact gu
            · exact List.mem_singleton.mp hw ▸ gv
        · rw [List.length_append, wl]
          show 2 * (0 + j) + 2 = _
          omega) ⟨0, [], _, rfl, rfl, rfl, by simp, rfl, by omega⟩
  have li : (ns.map D.int ++ [D.int ns.sum]).length = ns.length + 1 := by simp
  rw [li] at wl
  have s1z : (1 : Nat) ≤ sizeLine := by decide
  have s0z : (0 : Nat) ≤ sizeLine := by decide
  have efo := ev_fo (Φ := C 5) (it := itC) (h := [.lst []]) (by
    simp [itC, evB, evS.eq_1, evS.eq_2, evS.eq_3, evS.eq_4, evS.eq_5, evS.eq_6, evS.eq_7, evS.eq_9, evS.eq_10, evS.eq_11, evS.eq_12, ev.eq_1, ev.eq_2, ev.eq_3, ev.eq_4, ev.eq_5, ev.eq_6, ev.eq_7, ev.eq_8, ev.eq_9, ev.eq_10, ev.eq_11, ev.eq_12, ev.eq_13, ev.eq_14, ev.eq_15, ev.eq_16, ev.eq_17, ev.eq_18, ev.eq_19, ev.eq_20, ev.eq_21, ev.eq_22, ev.eq_23, ev.eq_24, ev.eq_25, ev.eq_26, ev.eq_27, ev.eq_28, ev.eq_29, ev.eq_31, ev.eq_32, evA, evO, evC, evI, vt, tv, bd_ok, bs_ok, bq_nx, bq_rt, pu_ok, re_nx, re_rt, ma_bl, ma_int, ma_str, ma_non, ma_ty, ma_ref, ma_tup, ma_frl, ma_lst, fix_bl, fix_int, fix_str, fix_non, getS, Z.evE, Z.evT, Z.vv, tr_bl, b_len, b_isi, b_all, b_sum, b_str, c_eq, c_ne, c_in, c_ni, c_lt, c_le, c_is, c_isn, c_isN, c_isnN, c_isI, c_isL, c_isR, o_add, o_sub, q_bl, q_int, q_str, q_NN, q1, q2, q3, s1z]
    rfl) e1
  match rest, l8 with
  | [s2, s3, s4, s5, s6, s7, s8, s9], _ =>
    simp only [itC, bodyC, bodyI, restB] at efo
    obtain ⟨d, h2, w1, w2⟩ := words_of (k := 4) (h := g) (s := "") (by decide +kernel)
    rw [if_pos (by decide +kernel)] at w2
    obtain ⟨n, n0, n1, e2⟩ := mixed (k := 4) (h := g) (a := ns.sum) (b := 2) (by decide) (by decide)
    obtain ⟨h3, e3⟩ := row (k := 3) (n := n) eg (fun q => by rw [q] at wl; simp at wl) good (by omega) n0
    have e4 : ∃ h4, fix g (.bl true) h3 = some (.ok (.bl true), h4) := by
      unfold fix
      simp only
      split
      · exact ⟨_, rfl⟩
      · exact ⟨_, rfl⟩
    obtain ⟨h4, e4⟩ := e4
    refine ⟨h4, ?_⟩
    simp [b13, evB, evS.eq_1, evS.eq_2, evS.eq_3, evS.eq_4, evS.eq_5, evS.eq_6, evS.eq_7, evS.eq_9, evS.eq_10, evS.eq_11, evS.eq_12, ev.eq_1, ev.eq_2, ev.eq_3, ev.eq_4, ev.eq_5, ev.eq_6, ev.eq_7, ev.eq_8, ev.eq_9, ev.eq_10, ev.eq_11, ev.eq_12, ev.eq_13, ev.eq_14, ev.eq_15, ev.eq_16, ev.eq_17, ev.eq_18, ev.eq_19, ev.eq_20, ev.eq_21, ev.eq_22, ev.eq_23, ev.eq_24, ev.eq_25, ev.eq_26, ev.eq_27, ev.eq_28, ev.eq_29, ev.eq_31, ev.eq_32, evA, evO, evC, evI, vt, tv, bd_ok, bs_ok, bq_nx, bq_rt, pu_ok, re_nx, re_rt, ma_bl, ma_int, ma_str, ma_non, ma_ty, ma_ref, ma_tup, ma_frl, ma_lst, fix_bl, fix_int, fix_str, fix_non, getS, Z.evE, Z.evT, Z.vv, tr_bl, b_len, b_isi, b_all, b_sum, b_str, c_eq, c_ne, c_in, c_ni, c_lt, c_le, c_is, c_isn, c_isN, c_isnN, c_isI, c_isL, c_isR, o_add, o_sub, q_bl, q_int, q_str, q_NN, s0z, efo, w1, w2, q2, e2, e3, e4]
end K1

namespace K1
open PySem L2 Z
def top (i : Nat) : Stmt := PySem.Challenge.pw_worldtale_k01_words.main.body.getD i (.Pass ⟨0, 0, 0, 0⟩)
def r0 : Row := ⟨"is_whole", top 7, ["thing"], ["thing"], b0⟩
def r1 : Row := ⟨"is_among", top 8, ["thing", "least", "most"], ["thing", "least", "most"], b1⟩
def r2 : Row := ⟨"is_word", top 9, ["thing"], ["thing", "sign"], b2⟩
def r3 : Row := ⟨"is_reserved", top 10, ["thing"], ["thing"], b3⟩
def r4 : Row := ⟨"is_name", top 11, ["thing"], ["thing"], b4⟩
def r5 : Row := ⟨"digit_of", top 12, ["word"], ["word"], b5⟩
def r6 : Row := ⟨"words_of", top 13, ["row"], ["row", "words"], b6⟩
def r7 : Row := ⟨"_law_mixed", top 15, ["_law_cell", "_law_k"], ["_law_cell", "_law_k"], b7⟩
def r8 : Row := ⟨"_law_reserved", top 16, [], ["_law_verbs", "_law_ways", "_law_small_here"], b8⟩
def r9 : Row := ⟨"_law_written", top 17, ["_law_number"], ["_law_number", "_law_letters", "_law_word", "_law_at", "_law_k"], b9⟩
def r10 : Row := ⟨"_law_small", top 18, ["_law_word"], ["_law_word", "_law_sign"], b10⟩
def r11 : Row := ⟨"_law_one", top 19, ["_law_word"], ["_law_word", "_law_reserved_here", "_law_due", "_law_found", "_law_k"], b11⟩
def r12 : Row := ⟨"_law_row", top 20, ["_law_words", "_law_number"], ["_law_words", "_law_number", "_law_row_here", "_law_turn", "_law_at", "_law_parts", "_law_due", "_law_found"], b12⟩
def r13 : Row := ⟨"law", top 21, ["_law_script"], ["_law_script", "_law_words", "_law_cell", "_law_number", "_law_word", "_law_own", "_law_one_here", "_law_odd", "_law_due", "_law_big"], b13⟩
def tab : Tab := [("is_whole", r0), ("is_among", r1), ("is_word", r2), ("is_reserved", r3), ("is_name", r4), ("digit_of", r5), ("words_of", r6), ("_law_mixed", r7), ("_law_reserved", r8), ("_law_written", r9), ("_law_small", r10), ("_law_one", r11), ("_law_row", r12), ("law", r13)]
def gs : Gs := ⟨glob, blt, [("is_whole", 1), ("is_among", 3), ("is_word", 1), ("is_reserved", 1), ("is_name", 1), ("digit_of", 1), ("words_of", 1), ("_law_mixed", 2), ("_law_reserved", 0), ("_law_written", 1), ("_law_small", 1), ("_law_one", 1), ("_law_row", 2), ("law", 1)]⟩
theorem sc0 : FnScope r0.N r0.ps (defScope r0.st) := ⟨rfl, rfl, rfl, by decide +kernel, rfl, by decide +kernel, by decide +kernel⟩
theorem chk0 : chkB gs ⟨r0.N, defScope r0.st, none⟩ r0.body (defBody r0.st) = true := by decide +kernel
theorem sc1 : FnScope r1.N r1.ps (defScope r1.st) := ⟨rfl, rfl, rfl, by decide +kernel, rfl, by decide +kernel, by decide +kernel⟩
theorem chk1 : chkB gs ⟨r1.N, defScope r1.st, none⟩ r1.body (defBody r1.st) = true := by decide +kernel
theorem sc2 : FnScope r2.N r2.ps (defScope r2.st) := ⟨rfl, rfl, rfl, by decide +kernel, rfl, by decide +kernel, by decide +kernel⟩
theorem chk2 : chkB gs ⟨r2.N, defScope r2.st, none⟩ r2.body (defBody r2.st) = true := by decide +kernel
theorem sc3 : FnScope r3.N r3.ps (defScope r3.st) := ⟨rfl, rfl, rfl, by decide +kernel, rfl, by decide +kernel, by decide +kernel⟩
theorem chk3 : chkB gs ⟨r3.N, defScope r3.st, none⟩ r3.body (defBody r3.st) = true := by decide +kernel
theorem sc4 : FnScope r4.N r4.ps (defScope r4.st) := ⟨rfl, rfl, rfl, by decide +kernel, rfl, by decide +kernel, by decide +kernel⟩
theorem chk4 : chkB gs ⟨r4.N, defScope r4.st, none⟩ r4.body (defBody r4.st) = true := by decide +kernel
theorem sc5 : FnScope r5.N r5.ps (defScope r5.st) := ⟨rfl, rfl, rfl, by decide +kernel, rfl, by decide +kernel, by decide +kernel⟩
theorem chk5 : chkB gs ⟨r5.N, defScope r5.st, none⟩ r5.body (defBody r5.st) = true := by decide +kernel
theorem sc6 : FnScope r6.N r6.ps (defScope r6.st) := ⟨rfl, rfl, rfl, by decide +kernel, rfl, by decide +kernel, by decide +kernel⟩
theorem chk6 : chkB gs ⟨r6.N, defScope r6.st, none⟩ r6.body (defBody r6.st) = true := by decide +kernel
theorem sc7 : FnScope r7.N r7.ps (defScope r7.st) := ⟨rfl, rfl, rfl, by decide +kernel, rfl, by decide +kernel, by decide +kernel⟩
theorem chk7 : chkB gs ⟨r7.N, defScope r7.st, none⟩ r7.body (defBody r7.st) = true := by decide +kernel
theorem sc8 : FnScope r8.N r8.ps (defScope r8.st) := ⟨rfl, rfl, rfl, by decide +kernel, rfl, by decide +kernel, by decide +kernel⟩
theorem chk8 : chkB gs ⟨r8.N, defScope r8.st, none⟩ r8.body (defBody r8.st) = true := by decide +kernel
theorem sc9 : FnScope r9.N r9.ps (defScope r9.st) := ⟨rfl, rfl, rfl, by decide +kernel, rfl, by decide +kernel, by decide +kernel⟩
theorem chk9 : chkB gs ⟨r9.N, defScope r9.st, none⟩ r9.body (defBody r9.st) = true := by decide +kernel
theorem sc10 : FnScope r10.N r10.ps (defScope r10.st) := ⟨rfl, rfl, rfl, by decide +kernel, rfl, by decide +kernel, by decide +kernel⟩
theorem chk10 : chkB gs ⟨r10.N, defScope r10.st, none⟩ r10.body (defBody r10.st) = true := by decide +kernel
theorem sc11 : FnScope r11.N r11.ps (defScope r11.st) := ⟨rfl, rfl, rfl, by decide +kernel, rfl, by decide +kernel, by decide +kernel⟩
theorem chk11 : chkB gs ⟨r11.N, defScope r11.st, none⟩ r11.body (defBody r11.st) = true := by decide +kernel
theorem sc12 : FnScope r12.N r12.ps (defScope r12.st) := ⟨rfl, rfl, rfl, by decide +kernel, rfl, by decide +kernel, by decide +kernel⟩
theorem chk12 : chkB gs ⟨r12.N, defScope r12.st, none⟩ r12.body (defBody r12.st) = true := by decide +kernel
theorem sc13 : FnScope r13.N r13.ps (defScope r13.st) := ⟨rfl, rfl, rfl, by decide +kernel, rfl, by decide +kernel, by decide +kernel⟩
theorem chk13 : chkB gs ⟨r13.N, defScope r13.st, none⟩ r13.body (defBody r13.st) = true := by decide +kernel
theorem all_mk {w : World} {K : PySem.W.Frag} {h : Heap} {mg : Str → Option Value} (X : K.In h) (NG : h.Ns mainGlobals mg)
    {f0 : Addr} {oc0 kV0 dc0 pm0 cd0 ct0 : Value} {od0 an0 : Option Addr} {sl0 : Array (Option Value)}
    {f1 : Addr} {oc1 kV1 dc1 pm1 cd1 ct1 : Value} {od1 an1 : Option Addr} {sl1 : Array (Option Value)}
    {f2 : Addr} {oc2 kV2 dc2 pm2 cd2 ct2 : Value} {od2 an2 : Option Addr} {sl2 : Array (Option Value)}
    {f3 : Addr} {oc3 kV3 dc3 pm3 cd3 ct3 : Value} {od3 an3 : Option Addr} {sl3 : Array (Option Value)}
    {f4 : Addr} {oc4 kV4 dc4 pm4 cd4 ct4 : Value} {od4 an4 : Option Addr} {sl4 : Array (Option Value)}
    {f5 : Addr} {oc5 kV5 dc5 pm5 cd5 ct5 : Value} {od5 an5 : Option Addr} {sl5 : Array (Option Value)}
    {f6 : Addr} {oc6 kV6 dc6 pm6 cd6 ct6 : Value} {od6 an6 : Option Addr} {sl6 : Array (Option Value)}
    {f7 : Addr} {oc7 kV7 dc7 pm7 cd7 ct7 : Value} {od7 an7 : Option Addr} {sl7 : Array (Option Value)}
    {f8 : Addr} {oc8 kV8 dc8 pm8 cd8 ct8 : Value} {od8 an8 : Option Addr} {sl8 : Array (Option Value)}
    {f9 : Addr} {oc9 kV9 dc9 pm9 cd9 ct9 : Value} {od9 an9 : Option Addr} {sl9 : Array (Option Value)}
    {f10 : Addr} {oc10 kV10 dc10 pm10 cd10 ct10 : Value} {od10 an10 : Option Addr} {sl10 : Array (Option Value)}
    {f11 : Addr} {oc11 kV11 dc11 pm11 cd11 ct11 : Value} {od11 an11 : Option Addr} {sl11 : Array (Option Value)}
    {f12 : Addr} {oc12 kV12 dc12 pm12 cd12 ct12 : Value} {od12 an12 : Option Addr} {sl12 : Array (Option Value)}
    {f13 : Addr} {oc13 kV13 dc13 pm13 cd13 ct13 : Value} {od13 an13 : Option Addr} {sl13 : Array (Option Value)}
    {t0 : Tok}
    {g1 : Addr} {od_1 : Option Addr} {its1 : Array Value} {n1 : Nat} {sl_1 : Array (Option Value)}
    {g2 : Addr} {od_2 : Option Addr} {its2 : Array Value} {n2 : Nat} {sl_2 : Array (Option Value)}
    {g3 : Addr} {od_3 : Option Addr} {its3 : Array Value} {n3 : Nat} {sl_3 : Array (Option Value)}
    {g4 : Addr} {od_4 : Option Addr} {its4 : Array Value} {n4 : Nat} {sl_4 : Array (Option Value)}
    {t5 : Tok}
    (a0 : PySem.W.nsIn K mainGlobals "is_whole" = some (some (.ref f0))) (l0 : K.lookup f0 = some ⟨oc0, od0, .func (PySem.W.fnOf "is_whole" "is_whole" (defArgs (top 7)) (defBody (top 7)) (defScope (top 7)) .none kV0 dc0 pm0 an0 cd0 ct0), sl0⟩) (c0 : PySem.W.codeIn K cd0 "is_whole" = true) (k0 : PySem.W.keepIn K (.ref f0) = true)
    (a1 : PySem.W.nsIn K mainGlobals "is_among" = some (some (.ref f1))) (l1 : K.lookup f1 = some ⟨oc1, od1, .func (PySem.W.fnOf "is_among" "is_among" (defArgs (top 8)) (defBody (top 8)) (defScope (top 8)) .none kV1 dc1 pm1 an1 cd1 ct1), sl1⟩) (c1 : PySem.W.codeIn K cd1 "is_among" = true) (k1 : PySem.W.keepIn K (.ref f1) = true)
    (a2 : PySem.W.nsIn K mainGlobals "is_word" = some (some (.ref f2))) (l2 : K.lookup f2 = some ⟨oc2, od2, .func (PySem.W.fnOf "is_word" "is_word" (defArgs (top 9)) (defBody (top 9)) (defScope (top 9)) .none kV2 dc2 pm2 an2 cd2 ct2), sl2⟩) (c2 : PySem.W.codeIn K cd2 "is_word" = true) (k2 : PySem.W.keepIn K (.ref f2) = true)
    (a3 : PySem.W.nsIn K mainGlobals "is_reserved" = some (some (.ref f3))) (l3 : K.lookup f3 = some ⟨oc3, od3, .func (PySem.W.fnOf "is_reserved" "is_reserved" (defArgs (top 10)) (defBody (top 10)) (defScope (top 10)) .none kV3 dc3 pm3 an3 cd3 ct3), sl3⟩) (c3 : PySem.W.codeIn K cd3 "is_reserved" = true) (k3 : PySem.W.keepIn K (.ref f3) = true)
    (a4 : PySem.W.nsIn K mainGlobals "is_name" = some (some (.ref f4))) (l4 : K.lookup f4 = some ⟨oc4, od4, .func (PySem.W.fnOf "is_name" "is_name" (defArgs (top 11)) (defBody (top 11)) (defScope (top 11)) .none kV4 dc4 pm4 an4 cd4 ct4), sl4⟩) (c4 : PySem.W.codeIn K cd4 "is_name" = true) (k4 : PySem.W.keepIn K (.ref f4) = true)
    (a5 : PySem.W.nsIn K mainGlobals "digit_of" = some (some (.ref f5))) (l5 : K.lookup f5 = some ⟨oc5, od5, .func (PySem.W.fnOf "digit_of" "digit_of" (defArgs (top 12)) (defBody (top 12)) (defScope (top 12)) .none kV5 dc5 pm5 an5 cd5 ct5), sl5⟩) (c5 : PySem.W.codeIn K cd5 "digit_of" = true) (k5 : PySem.W.keepIn K (.ref f5) = true)
    (a6 : PySem.W.nsIn K mainGlobals "words_of" = some (some (.ref f6))) (l6 : K.lookup f6 = some ⟨oc6, od6, .func (PySem.W.fnOf "words_of" "words_of" (defArgs (top 13)) (defBody (top 13)) (defScope (top 13)) .none kV6 dc6 pm6 an6 cd6 ct6), sl6⟩) (c6 : PySem.W.codeIn K cd6 "words_of" = true) (k6 : PySem.W.keepIn K (.ref f6) = true)
    (a7 : PySem.W.nsIn K mainGlobals "_law_mixed" = some (some (.ref f7))) (l7 : K.lookup f7 = some ⟨oc7, od7, .func (PySem.W.fnOf "_law_mixed" "_law_mixed" (defArgs (top 15)) (defBody (top 15)) (defScope (top 15)) .none kV7 dc7 pm7 an7 cd7 ct7), sl7⟩) (c7 : PySem.W.codeIn K cd7 "_law_mixed" = true) (k7 : PySem.W.keepIn K (.ref f7) = true)
    (a8 : PySem.W.nsIn K mainGlobals "_law_reserved" = some (some (.ref f8))) (l8 : K.lookup f8 = some ⟨oc8, od8, .func (PySem.W.fnOf "_law_reserved" "_law_reserved" (defArgs (top 16)) (defBody (top 16)) (defScope (top 16)) .none kV8 dc8 pm8 an8 cd8 ct8), sl8⟩) (c8 : PySem.W.codeIn K cd8 "_law_reserved" = true) (k8 : PySem.W.keepIn K (.ref f8) = true)
    (a9 : PySem.W.nsIn K mainGlobals "_law_written" = some (some (.ref f9))) (l9 : K.lookup f9 = some ⟨oc9, od9, .func (PySem.W.fnOf "_law_written" "_law_written" (defArgs (top 17)) (defBody (top 17)) (defScope (top 17)) .none kV9 dc9 pm9 an9 cd9 ct9), sl9⟩) (c9 : PySem.W.codeIn K cd9 "_law_written" = true) (k9 : PySem.W.keepIn K (.ref f9) = true)
    (a10 : PySem.W.nsIn K mainGlobals "_law_small" = some (some (.ref f10))) (l10 : K.lookup f10 = some ⟨oc10, od10, .func (PySem.W.fnOf "_law_small" "_law_small" (defArgs (top 18)) (defBody (top 18)) (defScope (top 18)) .none kV10 dc10 pm10 an10 cd10 ct10), sl10⟩) (c10 : PySem.W.codeIn K cd10 "_law_small" = true) (k10 : PySem.W.keepIn K (.ref f10) = true)
    (a11 : PySem.W.nsIn K mainGlobals "_law_one" = some (some (.ref f11))) (l11 : K.lookup f11 = some ⟨oc11, od11, .func (PySem.W.fnOf "_law_one" "_law_one" (defArgs (top 19)) (defBody (top 19)) (defScope (top 19)) .none kV11 dc11 pm11 an11 cd11 ct11), sl11⟩) (c11 : PySem.W.codeIn K cd11 "_law_one" = true) (k11 : PySem.W.keepIn K (.ref f11) = true)
    (a12 : PySem.W.nsIn K mainGlobals "_law_row" = some (some (.ref f12))) (l12 : K.lookup f12 = some ⟨oc12, od12, .func (PySem.W.fnOf "_law_row" "_law_row" (defArgs (top 20)) (defBody (top 20)) (defScope (top 20)) .none kV12 dc12 pm12 an12 cd12 ct12), sl12⟩) (c12 : PySem.W.codeIn K cd12 "_law_row" = true) (k12 : PySem.W.keepIn K (.ref f12) = true)
    (a13 : PySem.W.nsIn K mainGlobals "law" = some (some (.ref f13))) (l13 : K.lookup f13 = some ⟨oc13, od13, .func (PySem.W.fnOf "law" "law" (defArgs (top 21)) (defBody (top 21)) (defScope (top 21)) .none kV13 dc13 pm13 an13 cd13 ct13), sl13⟩) (c13 : PySem.W.codeIn K cd13 "law" = true) (k13 : PySem.W.keepIn K (.ref f13) = true)
    (g0_a : PySem.W.nsIn K mainGlobals "LONGEST_WORD" = some (some (.int 8 t0)))
    (g1_a : PySem.W.nsIn K mainGlobals "TALE_WORDS" = some (some (.ref g1))) (g1_l : K.lookup g1 = some ⟨.type "tuple", od_1, .seq its1 n1, sl_1⟩) (g1_v : Vals ((["always", "any", "say", "set", "move", "stop"] : List Str).map V.str) its1.toList)
    (g2_a : PySem.W.nsIn K mainGlobals "LINE_WORDS" = some (some (.ref g2))) (g2_l : K.lookup g2 = some ⟨.type "tuple", od_2, .seq its2 n2, sl_2⟩) (g2_v : Vals ((["the", "all", "but", "and", "then", "it", "them", "in", "on", "is", "at", "you", "with", "not", "nowhere"] : List Str).map V.str) its2.toList)
    (g3_a : PySem.W.nsIn K mainGlobals "DIRECTIONS" = some (some (.ref g3))) (g3_l : K.lookup g3 = some ⟨.type "tuple", od_3, .seq its3 n3, sl_3⟩) (g3_v : Vals ((["down", "east", "north", "south", "up", "west"] : List Str).map V.str) its3.toList)
    (g4_a : PySem.W.nsIn K mainGlobals "COMMANDS" = some (some (.ref g4))) (g4_l : K.lookup g4 = some ⟨.type "tuple", od_4, .seq its4 n4, sl_4⟩) (g4_v : Vals ((["take", "drop", "put", "open", "shut", "wear", "doff", "look", "go", "list", "wait", "undo"] : List Str).map V.str) its4.toList)
    (g5_a : PySem.W.nsIn K mainGlobals "FIGURES" = some (some (.str "0123456789" t5)))
    (z0 : PySem.W.nsIn K mainGlobals "all" = some none)
    (z1 : PySem.W.nsIn K mainGlobals "bool" = some none)
    (z2 : PySem.W.nsIn K mainGlobals "int" = some none)
    (z3 : PySem.W.nsIn K mainGlobals "isinstance" = some none)
    (z4 : PySem.W.nsIn K mainGlobals "len" = some none)
    (z5 : PySem.W.nsIn K mainGlobals "list" = some none)
    (z6 : PySem.W.nsIn K mainGlobals "range" = some none)
    (z7 : PySem.W.nsIn K mainGlobals "str" = some none)
    (z8 : PySem.W.nsIn K mainGlobals "sum" = some none) :
    TopOk K mg gs tab ∧ ∃ f fd, mg "law" = some (.ref f) ∧ Fun K "law" r13.qual r13.st f fd ∧ ∀ (s : Shared) (u : Value), BindsTo s fd ⟨[u], []⟩ [("_law_script", u)] := by
  refine ⟨⟨defs_of (.cons (def_mk (r := r0) X NG a0 l0 c0 k0 (fun _ _ _ _ _ _ us hl => match us, hl with | [_], _ => rfl) sc0 chk0) (.cons (def_mk (r := r1) X NG a1 l1 c1 k1 (fun _ _ _ _ _ _ us hl => match us, hl with | [_, _, _], _ => rfl) sc1 chk1) (.cons (def_mk (r := r2) X NG a2 l2 c2 k2 (fun _ _ _ _ _ _ us hl => match us, hl with | [_], _ => rfl) sc2 chk2) (.cons (def_mk (r := r3) X NG a3 l3 c3 k3 (fun _ _ _ _ _ _ us hl => match us, hl with | [_], _ => rfl) sc3 chk3) (.cons (def_mk (r := r4) X NG a4 l4 c4 k4 (fun _ _ _ _ _ _ us hl => match us, hl with | [_], _ => rfl) sc4 chk4) (.cons (def_mk (r := r5) X NG a5 l5 c5 k5 (fun _ _ _ _ _ _ us hl => match us, hl with | [_], _ => rfl) sc5 chk5) (.cons (def_mk (r := r6) X NG a6 l6 c6 k6 (fun _ _ _ _ _ _ us hl => match us, hl with | [_], _ => rfl) sc6 chk6) (.cons (def_mk (r := r7) X NG a7 l7 c7 k7 (fun _ _ _ _ _ _ us hl => match us, hl with | [_, _], _ => rfl) sc7 chk7) (.cons (def_mk (r := r8) X NG a8 l8 c8 k8 (fun _ _ _ _ _ _ us hl => match us, hl with | [], _ => rfl) sc8 chk8) (.cons (def_mk (r := r9) X NG a9 l9 c9 k9 (fun _ _ _ _ _ _ us hl => match us, hl with | [_], _ => rfl) sc9 chk9) (.cons (def_mk (r := r10) X NG a10 l10 c10 k10 (fun _ _ _ _ _ _ us hl => match us, hl with | [_], _ => rfl) sc10 chk10) (.cons (def_mk (r := r11) X NG a11 l11 c11 k11 (fun _ _ _ _ _ _ us hl => match us, hl with | [_], _ => rfl) sc11 chk11) (.cons (def_mk (r := r12) X NG a12 l12 c12 k12 (fun _ _ _ _ _ _ us hl => match us, hl with | [_, _], _ => rfl) sc12 chk12) (.cons (def_mk (r := r13) X NG a13 l13 c13 k13 (fun _ _ _ _ _ _ us hl => match us, hl with | [_], _ => rfl) sc13 chk13) (.nil))))))))))))))), fns_of (by decide +kernel), globs_of (.cons (glob_int X NG g0_a) (.cons (glob_tup (ys := ["always", "any", "say", "set", "move", "stop"]) X NG g1_a g1_l g1_v (by decide)) (.cons (glob_tup (ys := ["the", "all", "but", "and", "then", "it", "them", "in", "on", "is", "at", "you", "with", "not", "nowhere"]) X NG g2_a g2_l g2_v (by decide)) (.cons (glob_tup (ys := ["down", "east", "north", "south", "up", "west"]) X NG g3_a g3_l g3_v (by decide)) (.cons (glob_tup (ys := ["take", "drop", "put", "open", "shut", "wear", "doff", "look", "go", "list", "wait", "undo"]) X NG g4_a g4_l g4_v (by decide)) (.cons (glob_str X NG g5_a) (.nil))))))), blts_of (.cons (PySem.W.mg_none_of X NG z0) (.cons (PySem.W.mg_none_of X NG z1) (.cons (PySem.W.mg_none_of X NG z2) (.cons (PySem.W.mg_none_of X NG z3) (.cons (PySem.W.mg_none_of X NG z4) (.cons (PySem.W.mg_none_of X NG z5) (.cons (PySem.W.mg_none_of X NG z6) (.cons (PySem.W.mg_none_of X NG z7) (.cons (PySem.W.mg_none_of X NG z8) (.nil))))))))))⟩, f13, _, PySem.W.mg_of X NG a13, fun_mk (st := top 21) l13 c13 k13, fun s u => .of_eq rfl⟩
end K1

namespace K1
open Z
theorem tT : Z.Tab.T tab = T := Tab.T_eq tab rfl
theorem eL : tab.lookup ("law" : PySem.Str) = some r13 := by
  unfold tab
  repeat (first | exact lk (by decide +kernel) | refine ln (by decide +kernel) ?_)
end K1
open PySem PySem.W PyProof.Rows in
set_option maxHeartbeats 0 in
theorem PySem.Challenge.cw_worldtale_k01_words_holds : PySem.Challenge.rw_worldtale_k01_words.Holds := by
  w_on; o_law; k_head; (case hw => w_witness2)
  k_fill
  refine Z.walk (l := PySem.Challenge.rw_worldtale_k01_words) (G := K1.gs) (t := K1.tab) (k := 6) (r := K1.r13) (x := "law") (p := "_law_script") rfl rfl rfl ⟨rfl, by decide, by decide⟩ (fun w h Y => PySem.W.kIn_of Y) K1.eL rfl (K1.tT ▸ K1.run) ?F
  case F =>
    intro w mg h KX NG
    refine' K1.all_mk (w := w) KX NG ?a0 ?l0 ?c0 ?k0 ?a1 ?l1 ?c1 ?k1 ?a2 ?l2 ?c2 ?k2 ?a3 ?l3 ?c3 ?k3 ?a4 ?l4 ?c4 ?k4 ?a5 ?l5 ?c5 ?k5 ?a6 ?l6 ?c6 ?k6 ?a7 ?l7 ?c7 ?k7 ?a8 ?l8 ?c8 ?k8 ?a9 ?l9 ?c9 ?k9 ?a10 ?l10 ?c10 ?k10 ?a11 ?l11 ?c11 ?k11 ?a12 ?l12 ?c12 ?k12 ?a13 ?l13 ?c13 ?k13 ?g0_a ?g1_a ?g1_l ?g1_v ?g2_a ?g2_l ?g2_v ?g3_a ?g3_l ?g3_v ?g4_a ?g4_l ?g4_v ?g5_a ?z0 ?z1 ?z2 ?z3 ?z4 ?z5 ?z6 ?z7 ?z8
    (case a0 => k_is)
    (case l0 => k_is)
    (case c0 => k_is)
    (case k0 => k_is)
    (case a1 => k_is)
    (case l1 => k_is)
    (case c1 => k_is)
    (case k1 => k_is)
    (case a2 => k_is)
    (case l2 => k_is)
    (case c2 => k_is)
    (case k2 => k_is)
    (case a3 => k_is)
    (case l3 => k_is)
    (case c3 => k_is)
    (case k3 => k_is)
    (case a4 => k_is)
    (case l4 => k_is)
    (case c4 => k_is)
    (case k4 => k_is)
    (case a5 => k_is)
    (case l5 => k_is)
    (case c5 => k_is)
    (case k5 => k_is)
    (case a6 => k_is)
    (case l6 => k_is)
    (case c6 => k_is)
    (case k6 => k_is)
    (case a7 => k_is)
    (case l7 => k_is)
    (case c7 => k_is)
    (case k7 => k_is)
    (case a8 => k_is)
    (case l8 => k_is)
    (case c8 => k_is)
    (case k8 => k_is)
    (case a9 => k_is)
    (case l9 => k_is)
    (case c9 => k_is)
    (case k9 => k_is)
    (case a10 => k_is)
    (case l10 => k_is)
    (case c10 => k_is)
    (case k10 => k_is)
    (case a11 => k_is)
    (case l11 => k_is)
    (case c11 => k_is)
    (case k11 => k_is)
    (case a12 => k_is)
    (case l12 => k_is)
    (case c12 => k_is)
    (case k12 => k_is)
    (case a13 => k_is)
    (case l13 => k_is)
    (case c13 => k_is)
    (case k13 => k_is)
    (case g0_a => k_is)
    (case g1_a => k_is)
    (case g1_l => k_is)
    (case g1_v => repeat (first | exact .nil | refine .cons ⟨_, rfl⟩ ?_))
    (case g2_a => k_is)
    (case g2_l => k_is)
    (case g2_v => repeat (first | exact .nil | refine .cons ⟨_, rfl⟩ ?_))
    (case g3_a => k_is)
    (case g3_l => k_is)
    (case g3_v => repeat (first | exact .nil | refine .cons ⟨_, rfl⟩ ?_))
    (case g4_a => k_is)
    (case g4_l => k_is)
    (case g4_v => repeat (first | exact .nil | refine .cons ⟨_, rfl⟩ ?_))
    (case g5_a => k_is)
    (case z0 => k_is)
    (case z1 => k_is)
    (case z2 => k_is)
    (case z3 => k_is)
    (case z4 => k_is)
    (case z5 => k_is)
    (case z6 => k_is)
    (case z7 => k_is)
    (case z8 => k_is)
